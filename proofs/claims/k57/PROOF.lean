import PyProof.Rows.All
import Wide.All
import OpenK.AllK
import Wide.FinOn
import HandS.AnyAll
import HandS.GenOver
import HandS.ForMost
import HandS.ForExc
import HandS.IsInst
import HandS.ExcIs
import HandS.Wide
import HandS.TupAny
import HandS.Deep
import HandS.WideBits
import HandS.Sort
import PyProof.ReprRoads
import HandS.ExcValue
import HandS.Rev
import HandS.Style
import HandS.CallLocal
import HandS.SortOrd
import HandS.TupSets
import HandS.Zip
import KE.GoesMore
import PyProof.TupleOfGen
import HandS.SetBool
import PySem.Challenge.RW_roadsay_k57_what_tables_do

set_option Elab.async false
set_option linter.all false
set_option maxRecDepth 100000
set_option maxHeartbeats 2000000
namespace Q
open PySem PySem.Spec PyProof.Rows L2 GxR
/-! ### generator expressions whose element is any expression -/
/-- the frame of a generator expression that X's code made at s -/
abbrev gxC (X : Cx) (s : Shared) (H : Hp) (cenv : PySem.Env) (fp : List Addr) : Cx :=
  { X with A := X.A.in1.in1.deeper cenv, s_0 := s, H_0 := H, env := cenv, outer := X.stack, stack := cenv :: X.stack, ex := fp, fn := fun _ => false, pn := [], xe := fun _ _ => False }
structure GxOk (N : List Str) (sc scope : Scope) (own : List (Str × Nat)) : Prop where
  kind : scope.kind = .function
  co : scope.isCoroutine = false
  cell : ∀ y ∈ scope.names, y.2 ≠ .cell
  dot : scope.names.lookup (".0" : Str) = some NameKind.local
  ix : ∀ p ∈ own, N[p.2]? = some p.1
  free : ∀ y ∈ scope.names, y.2 = .free → sc.names.lookup y.1 = some .cell ∨ sc.names.lookup y.1 = some .free
  own : ∀ y ∈ scope.names, y.2 = .local → y.1 ∈ own.map (·.1) ∨ y.1 ∉ N
section
variable {X : Cx} {pins : List (Addr × Obj)} {σ : L2.St} {H : Hp} {s : Shared}
theorem gens_ok {G : Array GenState} (I : Inv X pins σ H s) (hg : AllBare G) : Inv X pins σ H { s with gens := G } :=
  ⟨I.ok, I.os, hg, I.base, I.loc, I.cell, I.free, I.freeC, I.pin, I.hok, I.len⟩
theorem gx_start {scope : Scope} {own : List (Str × Nat)} {fp : List Addr} {itv code : Value} {h' : Heap} {gob : Obj} {G' : Array GenState} {tk : Nat} {cenv : PySem.Env}
    (I : Inv X pins σ H s) (ok : GxOk X.N X.env.scope scope own) (hN : X.N.Nodup) (hfp : ∀ b ∈ fp, FpOk X pins H b ∧ b < s.heap.objs.size)
    (hn' : h'.Ns s.heap.objs.size (fun y => if y = ".0" then some itv else none)) (hs' : Heap.SameBut s.heap.objs.size (s.heap.push { cls := .type "frame", data := .dict #[] }) h')
    (hgob : ∀ v, gob.data ≠ .cell v) (hfr : gob.isFreed = false) (hG : AllBare G') (hcenv : genEnv scope (cloFrom X.env.cells scope.names []) s.heap.objs.size code builtinsNs X.env = cenv) :
    Inv (gxC X s H cenv fp) [(h'.objs.size, gob)] (wipe σ (own.map (·.2))) H { s with heap := h'.push gob, gens := G', toks := tk } := by
  have hfree : ∀ y ∈ scope.names, y.2 = .free → ∃ c, X.env.cells.lookup y.1 = some c := fun y hy e => by
    rcases ok.free y hy e with k | k
    · exact I.ok.has _ (.inl k)
    · exact I.ok.has _ (.inr k)
  have hsz : h'.objs.size = s.heap.objs.size + 1 := by rw [hs'.1, Heap.size_push]
  have kp : ∀ b o, s.heap.get? b = some o → (h'.push gob).get? b = some o := fun b o e => Heap.get?_push_of_some _ (hs'.extBut b o (Nat.ne_of_lt (Heap.lt_size e)) (Heap.get?_push_of_some _ e))
  have hL : cenv.locals = s.heap.objs.size := by rw [← hcenv]; rfl
  have hF : cenv.frame = some cenv.locals := by rw [← hcenv]; rfl
  have hcl : cenv.cells = cloFrom X.env.cells scope.names [] := by rw [← hcenv]; rfl
  have hsc : cenv.scope = scope := by rw [← hcenv]; rfl
  have cm : ∀ {y c}, (y, c) ∈ cloFrom X.env.cells scope.names [] → X.env.cells.lookup y = some c ∧ c < s.heap.objs.size := fun {y c} hm => by
    rcases cloFrom_mem hm with hm | ⟨h1, rfl⟩
    · cases hm
    · obtain ⟨c, hc⟩ := hfree _ h1 rfl
      rw [hc]
      obtain ⟨w, z⟩ := I.cell _ _ hc
      exact ⟨rfl, z.lt⟩
  have mem : ∀ {y c}, cenv.cells.lookup y = some c → X.env.cells.lookup y = some c ∧ c < s.heap.objs.size := fun {y c} e => by
    rw [hcl] at e
    exact cm (PySem.mem_of_lookup e)
  have look : ∀ {y}, scope.names.lookup y = some .free → ∃ c, cenv.cells.lookup y = some c ∧ X.env.cells.lookup y = some c := fun {y} hl => by
    have hy : (y, NameKind.free) ∈ scope.names := PySem.mem_of_lookup hl
    obtain ⟨c', e'⟩ := mem_lookup (cloFrom_has (cells := X.env.cells) (acc := []) hy)
    rw [← hcl] at e'
    exact ⟨c', e', (mem e').1⟩
  have okB : (gxC X s H cenv fp).Ok := by
    refine ⟨I.ok.mod, by show cenv.scope.kind = _; rw [hsc]; exact ok.kind, by show cenv.globals = _; rw [← hcenv]; exact I.ok.glob, by show cenv.builtins = _; rw [← hcenv]; rfl, by show s.heap.objs.size ≤ cenv.locals; rw [hL]; exact Nat.le_refl _,
      fun y z c e1 e2 => ?_, fun y hy => ?_, fun y c z e => (by cases z), I.ok.hd, ?_, .inr ⟨rfl, hF⟩, fun b hb => ⟨?_, fun y c e z => ?_⟩, I.bs, Nat.le_trans I.ok.bsz I.sz, fun b o e hb => ?_, fun b hb z => ?_, I.stack, I.stkFree⟩
    · exact I.ok.inj y z c (mem e1).1 (mem e2).1
    · show ∃ c, cenv.cells.lookup y = some c
      rcases hy with hy | hy
      · have e : scope.names.lookup y = some .cell := by rw [← hsc]; exact hy
        exact absurd rfl (ok.cell _ (PySem.mem_of_lookup e))
      · have e : scope.names.lookup y = some .free := by rw [← hsc]; exact hy
        obtain ⟨c, h1, _⟩ := look e
        exact ⟨c, h1⟩
    · show (X.A.in1.in1.deeper cenv).frames = some (cenv :: X.stack)
      have z := I.ok.frames
      show Option.map _ X.A.frames = _
      rw [z]
      rfl
    · show b ≠ cenv.locals
      rw [hL]; exact Nat.ne_of_lt (hfp b hb).2
    · exact (hfp b hb).1.2.2.2.2.1 y c (mem e).1 z
    · rcases (hfp b hb).1.2.2.2.1 with z | z
      · exact I.ok.noex b o e z
      · exact absurd (Nat.lt_of_lt_of_le (Heap.lt_size e) (Nat.le_trans I.ok.bsz z)) (Nat.lt_irrefl _)
    · rcases List.mem_cons.mp (I.stkSub b z) with z | z
      · exact (hfp b hb).1.2.1 z
      · exact (hfp b hb).1.2.2.1 z
  refine ⟨okB, rfl, hG, Un.kept kp, ⟨fun y => if y = ".0" then some itv else none, ?_, fun i y av e1 e2 e3 => ?_⟩, fun y c e => ?_, ?_, fun y c e => ?_, fun p hp => ?_, I.hok.kept kp, by rw [wipe_length]; exact I.len⟩
  · show Heap.Ns _ cenv.locals _
    rw [hL]
    exact hn'.push _
  · obtain ⟨e2, hne⟩ := wipe_some e2
    have hfr : scope.names.lookup y = some .free := by
      have e3 : Vis cenv.scope y := e3
      rw [hsc] at e3
      rcases e3 with e | e | e
      · rcases ok.own _ (PySem.mem_of_lookup e) rfl with e' | e'
        · obtain ⟨p, hp, hpy⟩ := List.mem_map.mp e'
          have e3 := ok.ix p hp
          have : p.1 = y := hpy
          rw [this] at e3
          exact absurd (List.mem_map.mpr ⟨p, hp, nodup_ix hN e3 e1⟩) hne
        · exact absurd (List.mem_of_getElem? e1) e'
      · exact absurd rfl (ok.cell _ (PySem.mem_of_lookup e))
      · exact e
    obtain ⟨m, hn, hl⟩ := I.loc
    have hvis : Vis X.env.scope y := (ok.free _ (PySem.mem_of_lookup hfr) rfl).elim (fun k => .inr (.inl k)) (fun k => .inr (.inr k))
    obtain ⟨w, r, q⟩ := hl i y av e1 e2 hvis
    refine ⟨w, r, .inr ⟨.inr (by show cenv.scope.names.lookup y = _; rw [hsc]; exact hfr), ?_⟩⟩
    obtain ⟨c, h1, h2⟩ := look hfr
    rcases q with ⟨k, _⟩ | ⟨_, c', e', z⟩
    · have k : X.env.scope.names.lookup y = some .local := k
      rcases ok.free _ (PySem.mem_of_lookup hfr) rfl with k' | k' <;> rw [show X.env.scope.names.lookup y = _ from k'] at k <;> cases k
    · rw [h2] at e'; cases e'
      exact ⟨c, h1, z.keeps kp⟩
  · obtain ⟨w, z⟩ := I.cell y c (mem e).1
    exact ⟨w, z.keeps kp⟩
  · show H cenv.locals = none
    rw [hL]; exact I.hok.fresh (Nat.le_refl _)
  · exact I.freeC y c (mem e).1
  · have hp : p ∈ [(h'.objs.size, gob)] := hp
    have e := List.mem_singleton.mp hp
    subst e
    refine ⟨Heap.get?_push_size _ hfr, I.hok.fresh (by show s.heap.objs.size ≤ h'.objs.size; omega), ?_, fun z => ?_, hgob⟩
    · show h'.objs.size ≠ cenv.locals
      rw [hL, hsz]; exact Nat.succ_ne_self _
    · rcases List.mem_cons.mp (I.stkSub _ z) with z | z
      · have h1 : (X.env.locals : Nat) < s.heap.objs.size := I.lt
        have h2 : s.heap.objs.size + 1 = X.env.locals := hsz.symm.trans z
        exact Nat.lt_irrefl _ (Nat.lt_of_lt_of_le h1 (Nat.le_trans (Nat.le_succ _) (Nat.le_of_eq h2)))
      · exact I.nofs (by show s.heap.objs.size ≤ h'.objs.size; omega) z
/-! ### the protocol -/
def Slp (s s'' : Shared) : Prop := ∃ G, s'' = { s with gens := G } ∧ AllBare G
def gxY (stopP contP : Value → Shared → Prop) : Protocol := fun _ _ v s kap => stopP v s ∨ (contP v s ∧ ∀ s'', Slp s s'' → kap (.send .none) s'')
abbrev gxR (endP : Shared → Prop) : GenEnd := fun _ _ r s₁ => r = .ok .next ∧ endP s₁
theorem over_gx {A : Around} {elt : Expr} {gens : List Comprehension} {scope : Scope} {pos : Pos} {it acc : Value} {env : PySem.Env} : A.over (.compLoop (.GeneratorExp elt gens scope pos) 0 it acc env) [] = A.deeper env := by
  first
    | rfl
    | (obtain ⟨hd, d, fr, gs, u⟩ := A; simp [Around.over, Around.deeper, marksOver, frameCount, unitsOf, envsOf, guardsOf, pushEnvs, pushGuards, Code.envs, Code.env?, Code.isFrame, Code.guards, Code.isGuard, Code.weight, Code.frames, Code.isCreation, Code.isCaller, Code.cUnits])
theorem over_gx0 {A : Around} {elt : Expr} {gens : List Comprehension} {scope : Scope} {pos : Pos} {it acc : Value} {env : PySem.Env} : A.over (.compStart (.GeneratorExp elt gens scope pos) 0 it acc env) [] = A.deeper env := by
  first
    | rfl
    | (obtain ⟨hd, d, fr, gs, u⟩ := A; simp [Around.over, Around.deeper, marksOver, frameCount, unitsOf, envsOf, guardsOf, pushEnvs, pushGuards, Code.envs, Code.env?, Code.isFrame, Code.guards, Code.isGuard, Code.weight, Code.frames, Code.isCreation, Code.isCaller, Code.cUnits])
/-- what the turns of the walk are to reach -/
def GxW (J : It) (g : TG) (te : TE) (σ0 : L2.St) (vs : List Nat) (endQ : Hp → Prop) (stopQ contQ : V → Hp → Prop) (W : Nat → Nat → Hp → Prop) : Prop := ∀ i m H, W i m H →
  (J.stop i H ∧ endQ H) ∨ (J.go i H ∧ 0 < m ∧ ∀ x H', J.yld i H x H' → g x σ0 H' fun σ2 H2 => wipe σ2 vs = σ0 ∧ te σ2 H2 fun y H3 => stopQ y H3 ∨ (contQ y H3 ∧ ∃ m', m' < m ∧ W (i + 1) m' H3))
theorem seg_gx {s3 : Shared} {H3 : Hp} {elt tg iter : Expr} {scope : Scope} {gpos : Pos} {cenv : PySem.Env} {fp : List Addr} {it : Addr} {tn : Nat → Heap → Prop} {J : It} {g : TG} {te : TE} {own : List (Str × Nat)} {a : Addr} {gob : Obj} {σ0 : L2.St}
    {endQ : Hp → Prop} {stopQ contQ : V → Hp → Prop} {W : Nat → Nat → Hp → Prop} {endP : Shared → Prop} {stopP contP : Value → Shared → Prop}
    (hc : X.calm = true) (hco : cenv.scope.isCoroutine = false) (T : Turn X.prog X.w X.K tg J fp it tn) (pg : PG (gxC X s3 H3 cenv fp) tg g) (pe : PE (gxC X s3 H3 cenv fp) elt te) (hw : GxW J g te σ0 (own.map (·.2)) endQ stopQ contQ W)
    (npin : a ∉ fp)
    (hEnd : ∀ σ' H' s', Inv (gxC X s3 H3 cenv fp) [(a, gob)] σ' H' s' → endQ H' → endP s')
    (hStop : ∀ σ' H' s' y v, Inv (gxC X s3 H3 cenv fp) [(a, gob)] σ' H' s' → RelV y v → stopQ y H' → stopP v s')
    (hCont : ∀ σ' H' s' y v, Inv (gxC X s3 H3 cenv fp) [(a, gob)] σ' H' s' → RelV y v → contQ y H' → contP v s') :
    ∀ (m n i : Nat) (H5 : Hp) (s0 s5 : Shared), m ≤ n → W i m H5 → Inv (gxC X s3 H3 cenv fp) [(a, gob)] σ0 H5 s5 → tn i s5.heap → (∀ b ∈ fp, H5 b = none) →
      Seg (model X.prog X.w) X.A.in1.in1 (gxR endP) (gxY stopP contP) n s0 (.compLoop (.GeneratorExp elt [⟨tg, iter, [], 0⟩] scope gpos) 0 (.ref it) .none cenv)
        ((model X.prog X.w).den (.compLoop (.GeneratorExp elt [⟨tg, iter, [], 0⟩] scope gpos) 0 (.ref it) .none cenv)) [] s5 := by
  have stat : ∀ {σ' : L2.St} {H' : Hp} {s' : Shared}, Inv (gxC X s3 H3 cenv fp) [(a, gob)] σ' H' s' → (∀ b ∈ fp, H' b = none) → ∀ b ∈ fp, FpOk (gxC X s3 H3 cenv fp) [(a, gob)] H' b := fun {σ' H' s'} I' hn b hb =>
    ⟨hn b hb, (I'.ok.exf b hb).1, I'.ok.exfs b hb, .inl hb, fun x c e => (I'.ok.exf b hb).2 x c e, fun p hp z => by
      have e := List.mem_singleton.mp (show p ∈ [(a, gob)] from hp)
      subst e
      exact npin (by rw [show a = b from z]; exact hb)⟩
  intro m
  induction m using Nat.strongRecOn with
  | ind m ih =>
    intro n i H5 s0 s5 hmn w5 I5 st5 n5
    show Seg _ _ _ _ n s0 _ ((compTurn (.GeneratorExp elt [⟨tg, iter, [], 0⟩] scope gpos) 0 (.ref it) .none cenv).onRaise (leaving cenv)) [] s5
    rw [compTurn_gen, Sem.onRaise_eq_wrap]
    refine seg_bind_wrap (wpAny_standAt ?_)
    rcases hw i m H5 w5 with ⟨stop, qq⟩ | ⟨go, hm0, step⟩
    · have td := T.done (gxC X s3 H3 cenv fp) rfl rfl rfl hc i [(a, gob)] s5 _ H5 (fun _ _ => False) I5 (stat I5 n5) st5 stop
      refine seg_bind_wrap ?_
      rw [over_gx]
      refine thnF td fun r s6 ⟨hr, I6⟩ => ?_
      subst hr
      exact seg_end (.ok .next) ⟨rfl, hEnd _ _ _ I6 qq⟩
    · have ti := T.item (gxC X s3 H3 cenv fp) rfl rfl rfl hc i [(a, gob)] s5 _ H5 (fun _ _ => False) I5 (stat I5 n5) st5 go
      refine seg_bind_wrap ?_
      rw [over_gx]
      refine thnF ti fun r s6 ⟨u, hr, h6⟩ => ?_
      subst hr
      refine seg_bind_wrap ?_
      rw [over_gx]
      refine thnF h6 fun _ s7 ⟨x, H7, I7, r7, y7, st7, n7⟩ => ?_
      have I7' := I7.pinned (stat I7 n7) (T.obj _ _ st7)
      refine seg_bind_wrap ?_
      rw [over_gx]
      refine thnF (pg.run _ s7 _ H7 x u _ I7' r7 (step x H7 y7)) fun _ s8 ⟨σ8, H8, I8, hw8, q8⟩ => ?_
      refine seg_bind_wrap (wpAny_pure ?_)
      simp only [if_true]
      have hy : ∀ v, yieldOut cenv v = yieldValue v := fun v => by simp only [yieldOut, hco, Bool.false_eq_true, if_false]
      simp only [hy]
      rw [Sem.bind_eq_wrap', Sem.bind_eq_wrap', Sem.wrap_wrap, Sem.wrap_wrap]
      refine seg_wrap ?_
      rw [over_gx]
      refine thnF (pe.run _ s8 σ8 H8 _ I8 q8) fun z s10 ⟨yv, H10, I10, r10, q10⟩ => ?_
      obtain ⟨n', rfl⟩ : ∃ n', n = n' + 1 := ⟨n - 1, by omega⟩
      refine seg_at (seg_yield rfl rfl rfl ?_)
      rcases q10 with q10 | ⟨q10, m', hm, w'⟩
      · exact Or.inl (hStop _ _ _ _ _ I10.unpinned r10 q10)
      · refine Or.inr ⟨hCont _ _ _ _ _ I10.unpinned r10 q10, fun s'' hs => ?_⟩
        obtain ⟨G, rfl, hG⟩ := hs
        have pin' : ∀ b ∈ fp, ∀ o, s7.heap.get? b = some o → s10.heap.get? b = some o ∧ H10 b = none := fun b hb o e =>
          let z := I10.pin (b, o) (List.mem_append_right _ (List.mem_append_right _ (mem_pinsAt hb e)))
          ⟨z.1, z.2.1⟩
        have hl : σ0.length = σ8.length := by rw [← hw8, wipe_length]
        refine seg_again rfl (ih m' hm n' (i + 1) H10 _ _ (by omega) w' ((gens_ok I10 hG).unpinned.weak hl (fun j v e => ?_)) (T.keep _ _ _ st7 fun b hb o e => (pin' b hb o e).1) fun b hb => ?_)
        · rw [← hw8] at e
          exact (wipe_some e).1
        · obtain ⟨o, e, _⟩ := T.obj _ _ st7 b hb
          exact (pin' b hb o e).2
theorem seg_gx0 {elt tg iter : Expr} {scope : Scope} {gpos : Pos} {cenv : PySem.Env} {fp : List Addr} {it : Addr} {tn : Nat → Heap → Prop} {J : It} {R : GenEnd} {Y : Protocol} {n : Nat} {s0 s5 : Shared} (T : Turn X.prog X.w X.K tg J fp it tn) (st5 : tn 0 s5.heap)
    (loop : Seg (model X.prog X.w) X.A.in1.in1 R Y n s0 (.compLoop (.GeneratorExp elt [⟨tg, iter, [], 0⟩] scope gpos) 0 (.ref it) .none cenv)
        ((model X.prog X.w).den (.compLoop (.GeneratorExp elt [⟨tg, iter, [], 0⟩] scope gpos) 0 (.ref it) .none cenv)) [] s5) :
    Seg (model X.prog X.w) X.A.in1.in1 R Y n s0 (.compStart (.GeneratorExp elt [⟨tg, iter, [], 0⟩] scope gpos) 0 (.ref it) .none cenv)
        ((model X.prog X.w).den (.compStart (.GeneratorExp elt [⟨tg, iter, [], 0⟩] scope gpos) 0 (.ref it) .none cenv)) [] s5 := by
  show Seg _ _ _ _ _ s0 _ ((compStart (.GeneratorExp elt [⟨tg, iter, [], 0⟩] scope gpos) 0 (.ref it) .none cenv).onRaise (leaving cenv)) [] s5
  unfold compStart
  rw [Sem.onRaise_eq_wrap]
  show Seg _ _ _ _ _ s0 _ ((ask >>= _).wrap _ _ _ _) [] s5
  refine seg_bind_wrap (wpAny_askSetting ?_)
  split
  · exact seg_again rfl loop
  · first
      | exact seg_bind_wrap (wpAny_rule (seg_bind_wrap (wpAny_standAt (seg_bind_wrap (T.self _ 0 s5 _ _ st5 (seg_again rfl loop))))))
      | (refine seg_bind_wrap (wpAny_rule ?_); show Seg _ _ _ _ _ s0 _ ((standAt iter.pos >>= _).wrap _ _ _ _) [] s5; exact seg_bind_wrap (wpAny_standAt (seg_bind_wrap (T.self _ 0 s5 _ _ st5 (seg_again rfl loop)))))
/-! ### the making of the generator -/
theorem gen_made {c P : Addr} {elt tg iter : Expr} {gpos : Pos} {scope : Scope} {own : List (Str × Nat)} {wi : TI} {k : Nat} {Q' : Value → Shared → Prop} {R : It → Hp → Prop}
    (hr : Room k X.A) (hN : X.N.Nodup) (TB : TabB X.base X.mg c P) (hcode : X.env.code = .ref c) (ok : GxOk X.N X.env.scope scope own) (hi : PI X tg iter wi)
    (hs : ∀ v, genFold iter X.env v = pure v) (I : Inv X pins σ H s) (h : wi σ H fun J H1 => TabG H1 P ∧ ∀ H2, Tabbed P H1 H2 → R J H2)
    (hQ : ∀ (J : It) (H2 : Hp) (s4 : Shared) (it : Addr) (fp : List Addr) (tn : Nat → Heap → Prop) (cenv : PySem.Env) (a : Addr) (gob : Obj) (h5 : Heap) (tk : Nat), R J H2 → Inv X pins σ H2 s4 → Turn X.prog X.w X.K tg J fp it tn → tn 0 h5 →
      (∀ b ∈ fp, FpOk X pins H2 b ∧ b < s4.heap.objs.size) → (∃ cl C code, cenv = genEnv scope cl C code builtinsNs X.env) → a ∉ fp → h5.IsGen a s4.gens.size → h5.get? a = some gob →
      (∀ G', AllBare G' → Inv (gxC X s4 H2 cenv fp) [(a, gob)] (wipe σ (own.map (·.2))) H2 { s4 with heap := h5, gens := G', toks := tk }) →
      Q' (.ref a) { s4 with gens := s4.gens.push (.fresh (.compStart (.GeneratorExp elt [⟨tg, iter, [], 0⟩] scope gpos) 0 (.ref it) .none cenv)), toks := tk, heap := h5 }) :
    wpAny (model X.prog X.w) X.A (eval (.GeneratorExp elt [⟨tg, iter, [], 0⟩] scope gpos) X.env) Q' X.xe s := by
  have hfree : ∀ y ∈ scope.names, y.2 = .free → ∃ c, X.env.cells.lookup y.1 = some c := fun y hy e => by
    rcases ok.free y hy e with k | k
    · exact I.ok.has _ (.inl k)
    · exact I.ok.has _ (.inr k)
  refine wpAny_GeneratorExp_make ok.co (closure_ok hfree) ok.cell ok.dot ok.kind (by have := hr.dp; omega) ?_ hs
  refine thn (hi.run pins s σ H _ I h) fun xv s1 hx => thn hx fun itv s2 h2 => ?_
  obtain ⟨it, fp, tn, J, H1, e, I2, T, st2, f2, ⟨ps, hP, ht⟩, q⟩ := h2
  subst e
  have hPs : s2.heap.get? P = some { cls := .none, data := .fields ps } := I2.hok P _ hP
  have hPlt : P < s2.heap.objs.size := Heap.lt_size hPs
  have cd : PySem.W.CodeHd s2.heap c P := TB.code.keeps I2.bk
  have nfP : ∀ b ∈ fp, b ≠ P := fun b hb z => by
    have := (f2 b hb).1
    rw [z, hP] at this
    cases this
  have szf : ∀ b ∈ fp, b < s2.heap.objs.size := fun b hb => by
    obtain ⟨o, e, _⟩ := T.obj _ _ st2 b hb
    exact Heap.lt_size e
  refine ⟨I2.nolimit, ?_⟩
  have cont : ∀ (code : Value) (h3 : Heap) (tk : Nat) (ps' : Array Value), Heap.ExtBut P s2.heap h3 → s2.heap.objs.size ≤ h3.objs.size → h3.get? P = some { cls := .none, data := .fields ps' } → (∃ more, ps' = ps ++ more) → TriplesOk ps'.toList →
      wpAny (model X.prog X.w) X.A (builtinsFor X.env.globals X.env.builtins) (fun bi s₄ => ∀ h', h'.Ns s₄.heap.objs.size (fun y => if y = ".0" then some (.ref it) else none) → Heap.SameBut s₄.heap.objs.size (s₄.heap.push { cls := .type "frame", data := .dict #[] }) h' →
          Q' (.ref h'.objs.size) { s₄ with
            gens := s₄.gens.push (.fresh (.compStart (.GeneratorExp elt [⟨tg, iter, [], 0⟩] scope gpos) 0 (.ref it) .none (genEnv scope (cloFrom X.env.cells scope.names []) s₄.heap.objs.size code bi X.env))),
            toks := s₄.toks + 1 + 1 + 1,
            heap := h'.push { cls := .type "generator", data := .fields #[.int s₄.gens.size 0, .str "<genexpr>" (s₄.toks + 1), .str (X.env.qual ++ "<genexpr>") (s₄.toks + 1 + 1)] } }) X.xe { s2 with heap := h3, toks := tk } := by
    intro code h3 tk ps' hx hsz hP3 hmore ht3
    obtain ⟨bm, ob, e1, e2, e3, e4, e5, e6, e7, e8⟩ := TB.bm
    have keep3 : ∀ b u, b ≠ P → s2.heap.get? b = some u → h3.get? b = some u := fun b u hb e => hx b u hb e
    refine wpAny_builtinsFor (m := X.mg) (by rw [I2.ok.glob]; exact (I2.mod.glob.keeps I2.bk).extBut hx TB.gP) e1 e2 (keep3 _ _ e4 (I2.bk _ _ e5)) e6 e7 e8 ?_
    intro h' hn' hs'
    obtain ⟨more, em⟩ := hmore
    subst em
    have J4 := inv_tab (more := more) (h' := h3) (g' := s2.gens) (d' := s2.drawn) (t' := tk) I2 hP keep3 hP3 I2.bare
    have hTb : Tabbed P H1 (upd H1 P (.tbl (ps ++ more))) := ⟨⟨ps ++ more, upd_same, ht3⟩, fun b hb => upd_ne hb⟩
    have hfp4 : ∀ b ∈ fp, FpOk X pins (upd H1 P (.tbl (ps ++ more))) b ∧ b < h3.objs.size := fun b hb => ⟨⟨by rw [upd_ne (nfP b hb)]; exact (f2 b hb).1, (f2 b hb).2⟩, Nat.lt_of_lt_of_le (szf b hb) hsz⟩
    have hsz' : h'.objs.size = h3.objs.size + 1 := by rw [hs'.1, Heap.size_push]
    have kp : ∀ b o, h3.get? b = some o → (h'.push { cls := .type "generator", data := .fields #[.int s2.gens.size 0, .str "<genexpr>" (tk + 1), .str (X.env.qual ++ "<genexpr>") (tk + 1 + 1)] }).get? b = some o := fun b o e => Heap.get?_push_of_some _ (hs'.extBut b o (Nat.ne_of_lt (Heap.lt_size e)) (Heap.get?_push_of_some _ e))
    refine hQ J (upd H1 P (.tbl (ps ++ more))) { s2 with heap := h3, toks := tk } it fp tn (genEnv scope (cloFrom X.env.cells scope.names []) h3.objs.size code builtinsNs X.env) h'.objs.size _ _ _ (q _ hTb) J4 T
      (T.keep _ _ _ st2 fun b hb o e => kp b o (keep3 b o (nfP b hb) e)) hfp4 ⟨_, _, _, rfl⟩ (fun hb => by have z : (h'.objs.size : Nat) < h3.objs.size := (hfp4 _ hb).2; omega) ⟨_, _, _, Heap.get?_push_size _ rfl, rfl, rfl, rfl⟩ (Heap.get?_push_size _ rfl) fun G' hG => ?_
    exact gx_start J4 ok hN hfp4 hn' hs' (fun v z => by cases z) rfl hG rfl
  cases hf : codeAmong gpos ps.toList with
  | none =>
    refine wpAny_genexprCodeX hcode (cd.code hPs ht) (cd.tab hPs) hf fun c' h' tk hx hge hlt hco' _ htab' _ => ?_
    obtain ⟨o1, vs, f1, tf, fl, tg', inF, tx, tt, op, _, _, _, _, _, _, _, _, _, htr, _⟩ := hco'
    exact cont _ h' tk _ hx (Nat.le_trans hge (Nat.le_of_lt hlt)) htab'.2 ⟨_, rfl⟩ htr
  | some cv =>
    refine wpAny_genexprCode_hit hcode (cd.code hPs ht) hf ?_
    exact cont cv s2.heap s2.toks ps (Heap.ExtBut.refl _ _) (Nat.le_refl _) hPs ⟨#[], by simp⟩ ht
/-! ### all -/
theorem bare_set {s : Shared} {g : Nat} {x : GenState} (h : AllBare s.gens) (hx : x.bare = true) : AllBare (s.setGen g x).gens := fun y hy => by
  have hy : y ∈ s.gens.setIfInBounds g x := hy
  rcases Array.mem_or_eq_of_mem_setIfInBounds hy with z | z
  · exact h y z
  · rw [z]; exact hx
theorem next_gx {P : Program} {w : World} {A : Around} {a : Addr} {g n : Nat} {gs : GenState} {endP : Shared → Prop} {stopP contP : Value → Shared → Prop} {Q : Option Value → Shared → Prop} {E : Value → Shared → Prop} {s : Shared}
    (hh : A.handled = none) (hroom : A.depth < recursionLimit) (hgn : s.heap.IsGen a g) (hl : s.heap.NoLimit) (hgs : s.gens[g]? = some gs) (hb : AllBare s.gens)
    (hgo : ∀ s'', Slp s s'' → gs.Goes (model P w) A.in1 (gxR endP) (gxY stopP contP) n (.send .none) s'')
    (hE : ∀ s1 h' G, endP s1 → (∀ b o, s1.heap.get? b = some o → h'.get? b = some o) → (AllBare s1.gens → AllBare G) → Q none { s1 with heap := h', gens := G })
    (hS : ∀ v s1 G, stopP v s1 → (AllBare s1.gens → AllBare G) → Q (some v) { s1 with gens := G })
    (hC : ∀ v s1 gs' G n', contP v s1 → n = n' + 1 → (AllBare s1.gens → AllBare G) → G[g]? = some gs' → (∀ s'', Slp s1 s'' → gs'.Goes (model P w) A.in1 (gxR endP) (gxY stopP contP) n' (.send .none) s'') → Q (some v) { s1 with gens := G }) :
    wpAny (model P w) A (pyNext (.ref a)) Q E s := by
  have hlt : g + 1 ≤ s.gens.size := (Array.getElem?_eq_some_iff.mp hgs).1
  refine GenW.wpAny_gsz hlt ?_
  refine wpAny_pyNext_genexpQ (n := n) (P := fun _ _ s₁ => endP s₁) (Y := gxY stopP contP) hh hl hroom hgn hgs (hgo _ ⟨_, rfl, bare_set hb rfl⟩) (fun v s₁ gs' hbr hv hsz => ?_) (fun s₁ hp h' hk _ => ?_)
  · have hsz : g + 1 ≤ s₁.gens.size := by
      have := hsz
      rw [GenW.setGen_size] at this
      exact this
    have hat : (s₁.setGen g gs').gens[g]? = some gs' := by
      show (s₁.gens.setIfInBounds g gs')[g]? = some gs'
      rw [Array.getElem?_setIfInBounds_self_of_lt (by omega)]
    rcases hv with hv | ⟨hv, hk⟩
    · exact hS v s₁ _ hv fun z => bare_set z hbr
    · cases n with
      | zero => exact (hk _ ⟨#[], rfl, AllBare.empty⟩).elim
      | succ n' => exact hC v s₁ gs' _ n' hv rfl (fun z => bare_set z hbr) hat hk
  · exact hE s₁ h' _ hp hk fun z => bare_set z rfl
theorem all_loop {P : Program} {w : World} {A : Around} {a : Addr} {g : Nat} {endP stopP : Shared → Prop} {Rr : Result → Shared → Prop}
    (hh : A.handled = none) (hroom : A.depth < recursionLimit)
    (hE : ∀ s1 h' G, endP s1 → (∀ b o, s1.heap.get? b = some o → h'.get? b = some o) → (AllBare s1.gens → AllBare G) → Rr (.ok (.ret (.bool true))) { s1 with heap := h', gens := G })
    (hS : ∀ s1 G, stopP s1 → (AllBare s1.gens → AllBare G) → Rr (.ok (.ret (.bool false))) { s1 with gens := G }) :
    ∀ (n : Nat) (s : Shared) (gs : GenState), s.heap.IsGen a g → s.heap.NoLimit → s.gens[g]? = some gs → AllBare s.gens →
      (∀ s'', Slp s s'' → gs.Goes (model P w) A.in1.in1 (gxR endP) (gxY (fun v s => v = .bool false ∧ stopP s) (fun v s => v = .bool true ∧ s.heap.IsGen a g ∧ s.heap.NoLimit ∧ AllBare s.gens)) n (.send .none) s'') →
      codeAny (model P w) A (.builtin "all.loop" ⟨[.ref a], []⟩) Rr s := by
  intro n
  induction n with
  | zero =>
    intro s gs h1 h2 h3 h4 hgo
    refine codeAny_builtin F.entry_all_loop ?_
    rw [Around.under_plainId F.plain_all_loop _]
    show wpAny _ A.in1 (pyNext (.ref a) >>= _) _ _ s
    refine wpAny_bind (next_gx (A := A.in1) hh hroom h1 h2 h3 h4 hgo (fun s1 h' G e k b => ?_) (fun v s1 G e b => ?_) (fun v s1 gs' G n' e z => nomatch z))
    · exact wpAny_bind (wpAny_rule (wpAny_pure (hE s1 h' G e k b)))
    · obtain ⟨rfl, e⟩ := e
      refine wpAny_bind (wpAny_holding (wpAny_truthy_bool ?_))
      refine wpAny_bind (wpAny_letGo ?_)
      simp only [Bool.false_eq_true, if_false]
      exact wpAny_bind (wpAny_rule (wpAny_pure (hS s1 G e b)))
  | succ n ih =>
    intro s gs h1 h2 h3 h4 hgo
    refine codeAny_builtin F.entry_all_loop ?_
    rw [Around.under_plainId F.plain_all_loop _]
    show wpAny _ A.in1 (pyNext (.ref a) >>= _) _ _ s
    refine wpAny_bind (next_gx (A := A.in1) hh hroom h1 h2 h3 h4 hgo (fun s1 h' G e k b => ?_) (fun v s1 G e b => ?_) (fun v s1 gs' G n' e z b hg' hgo' => ?_))
    · exact wpAny_bind (wpAny_rule (wpAny_pure (hE s1 h' G e k b)))
    · obtain ⟨rfl, e⟩ := e
      refine wpAny_bind (wpAny_holding (wpAny_truthy_bool ?_))
      refine wpAny_bind (wpAny_letGo ?_)
      simp only [Bool.false_eq_true, if_false]
      exact wpAny_bind (wpAny_rule (wpAny_pure (hS s1 G e b)))
    · obtain ⟨rfl, e1, e2, e3⟩ := e
      cases z
      refine wpAny_bind (wpAny_holding (wpAny_truthy_bool ?_))
      refine wpAny_bind (wpAny_letGo ?_)
      simp only [if_true]
      exact wpAny_pure ⟨plainId_quiet F.plain_all_loop _, ih _ gs' e1 e2 hg' (b e3) fun s'' ⟨G2, e, hG2⟩ => hgo' s'' ⟨G2, e, hG2⟩⟩
/-- all(elt for tg in iter) -/
def tAllG (P : Addr) (wi : TI) (g : TG) (te : TE) (vs : List Nat) : TE := fun σ H Q => wi σ H fun J H1 => TabG H1 P ∧ ∀ H2, Tabbed P H1 H2 → ∃ W : Nat → Nat → Hp → Prop, (∃ m, W 0 m H2) ∧
  GxW J g te (wipe σ vs) vs (fun H => Q (.bl true) H) (fun y H => y = .bl false ∧ Q (.bl false) H) (fun y _ => y = .bl true) W
theorem pe_allG {c P : Addr} {elt tg iter : Expr} {p pos gpos : Pos} {scope : Scope} {own : List (Str × Nat)} {wi : TI} {g : TG} {te : TE} {k : Nat} (hc : X.calm = true) (hN : X.N.Nodup)
    (hr : Room k X.A) (hgl : Gl X "all") (hm : X.mg "all" = none) (TB : TabB X.base X.mg c P) (hcode : X.env.code = .ref c) (ok : GxOk X.N X.env.scope scope own) (hi : PI X tg iter wi)
    (hg : ∀ (s : Shared) (H : Hp) (cl : List (Str × Addr)) (C : Addr) (cd : Value) (fp : List Addr), PG (gxC X s H (genEnv scope cl C cd builtinsNs X.env) fp) tg g) (he : ∀ (s : Shared) (H : Hp) (cl : List (Str × Addr)) (C : Addr) (cd : Value) (fp : List Addr), PE (gxC X s H (genEnv scope cl C cd builtinsNs X.env) fp) elt te)
    (hs : ∀ v, genFold iter X.env v = pure v := by intro _; rfl) (hb : bootBuiltins "all" = some (.builtin "all") := by decide +kernel)
    (hst : starEach [.GeneratorExp elt [⟨tg, iter, [], 0⟩] scope gpos] X.env = (false, eval (.GeneratorExp elt [⟨tg, iter, [], 0⟩] scope gpos) X.env) :: starEach [] X.env := by rfl) :
    PE X (.Call (.Name "all" p) [.GeneratorExp elt [⟨tg, iter, [], 0⟩] scope gpos] [] pos) (tAllG P wi g te (own.map (·.2))) := by
  refine ⟨fun pins s σ H Q I h => ?_⟩
  refine wpAny_Call_Name_kw (ld_blt I hgl hm hb ?_)
  refine PyProof.Rows.callWith_builtin1 ?_ hst (by rfl)
  rw [hst]
  show wpAny _ _ (spliced ((false, eval (.GeneratorExp elt [⟨tg, iter, [], 0⟩] scope gpos) X.env) :: backTo pos (starEach [] X.env))) _ _ s
  refine Calls.spliced_cons (gen_made hr hN TB hcode ok hi hs I h fun J H2 s4 it fp tn cenv a gob h5 tk hR I4 T st5 hfp hsc naf hgen hat hI => ?_)
  obtain ⟨cl, C, cd, hce⟩ := hsc
  have pg := hg s4 H2 cl C cd fp
  have pe := he s4 H2 cl C cd fp
  rw [← hce] at pg pe
  obtain ⟨W, ⟨m0, w0⟩, hW⟩ := hR
  refine Calls.spliced_nil ?_
  refine call_function_tree F.kind_all F.plain_all F.entry_all (F.args_all1 _) ?_
  unfold Builtin.«all»
  refine wpAny_bind (m := oneArg "all" _) (wpAny_pure ?_)
  refine wpAny_bind (wpAny_pyIter_gen hgen ?_)
  have I5 := hI s4.gens I4.bare
  have back : ∀ {σ' : L2.St} {H' : Hp} {s' : Shared}, Inv (gxC X s4 H2 cenv fp) [(a, gob)] σ' H' s' → Inv X pins σ H' s' := fun {σ' H' s'} I6 =>
    I4.call' (ch := fp) I6.os I6.base I6.hok I6.bare fun b hb => ⟨(hfp b hb).1.2.2.2.1, (hfp b hb).1.2.1, (hfp b hb).1.2.2.2.2.1, (hfp b hb).1.2.2.2.2.2⟩
  refine wpAny_pure ⟨plainId_quiet F.plain_all_loop _, all_loop (endP := fun s1 => ∃ H', Inv X pins σ H' s1 ∧ Q (.bl true) H') (stopP := fun s1 => ∃ H', Inv X pins σ H' s1 ∧ Q (.bl false) H') (a := a) (g := s4.gens.size) hr.hd (by have := hr.dp; show X.A.depth < _; omega) ?_ ?_ m0 _ _ hgen I5.nolimit (Array.getElem?_push_size ..) (I4.bare.push rfl) fun s'' hs'' => ⟨rfl, ?_⟩⟩
  · intro s1 h' G ⟨H', I6, q⟩ hk hG
    exact ⟨.bl true, H', gens_ok (I6.kept (t' := s1.toks) hk) (hG I6.bare), rfl, q⟩
  · intro s1 G ⟨H', I6, q⟩ hG
    exact ⟨.bl false, H', gens_ok I6 (hG I6.bare), rfl, q⟩
  · obtain ⟨G, rfl, hG⟩ := hs''
    refine seg_gx0 T st5 (seg_gx (own := own) hc (by rw [hce]; exact ok.co) T pg pe hW naf (fun σ' H' s' I6 q => ⟨H', back I6, q⟩) (fun σ' H' s' y v I6 r ⟨e, q⟩ => ?_) (fun σ' H' s' y v I6 r e => ?_) m0 m0 0 H2 _ _ (Nat.le_refl _) w0 (hI G hG) st5 fun b hb => (hfp b hb).1.1)
    · subst e
      have e9 := (I6.pin (a, gob) (by simp)).1
      obtain ⟨o, nm, qn, e1, e2⟩ := hgen
      have e1 : h5.get? a = some o := e1
      rw [hat] at e1
      cases e1
      exact ⟨r, ⟨gob, nm, qn, e9, e2⟩, I6.nolimit, I6.bare⟩
    · subst e
      exact ⟨r, H', back I6, q⟩
end
end Q

set_option Elab.async false
set_option linter.all false
set_option maxRecDepth 100000
set_option maxHeartbeats 2000000
namespace Q
open PySem PySem.Spec PyProof.Rows L2
/-- the tables of the code objects that may grow -/
class TbS where
  tb : Addr → Prop

/-! ### data -/
inductive D where
  | non | bl (b : Bool) | int (i : Int) | str (x : Str) | tup (l : List D) | lst (l : List D)
  | dk (ks : List Key) (l : List D) | dt (ks : List (List Key)) (l : List D) | exc (c : Addr) | scr (ns : List Int) | fnc (f : Addr)
/-- an error that is kept as a value -/
def EO (c a : Addr) : HO := .ext fun h => ∃ (oe : Obj) (vs : Array Value), h.get? a = some oe ∧ Zc (.ref c) none oe ∧ oe.data = .fields vs

mutual
inductive Rp (K : PySem.W.Frag) (H : Hp) : D → V → Prop
  | non : Rp K H .non .non
  | bl (b : Bool) : Rp K H (.bl b) (.bl b)
  | int (i : Int) : Rp K H (.int i) (.int i)
  | str (x : Str) : Rp K H (.str x) (.str x)
  | lst {a : Addr} {xs : List V} {ds : List D} : H a = some (.lst xs) → RpL K H ds xs → Rp K H (.lst ds) (.ref a)
  | scr {a : Addr} {ns : List Int} : SqL K H a (ns.map V.int) → Rp K H (.scr ns) (.ref a)
  | tup {a : Addr} {xs : List V} {ds : List D} : SqT K H a xs → RpL K H ds xs → Rp K H (.tup ds) (.ref a)
  | dk {a : Addr} {ks : List Key} {xs : List V} {ds : List D} : Rd H a (.dK (ks.zip xs)) → ks.length = ds.length → RpL K H ds xs → Rp K H (.dk ks ds) (.ref a)
  | dt {a : Addr} {ks : List (List Key)} {xs : List V} {ds : List D} : Rd H a (.dT (ks.zip xs)) → ks.length = ds.length → RpL K H ds xs → Rp K H (.dt ks ds) (.ref a)
  | exc {a c : Addr} : Rd H a (EO c a) → Rp K H (.exc c) (.ref a)
  | fnc (a : Addr) : Rp K H (.fnc a) (.ref a)
inductive RpL (K : PySem.W.Frag) (H : Hp) : List D → List V → Prop
  | nil : RpL K H [] []
  | cons {v : V} {vs : List V} {d : D} {ds : List D} : Rp K H d v → RpL K H ds vs → RpL K H (d :: ds) (v :: vs)
end

/-- a dict, which a loop may lock -/
def IsD : HO → Prop
  | .dK _ => True
  | .dT _ => True
  | _ => False
/-- what H tells is told by H', for reading -/
def Sub (H H' : Hp) : Prop := ∀ a o, H a = some o → H' a = some o ∨ (IsD o ∧ ∃ q, H' a = some (.frz q o))
def Ex (H H' : Hp) : Prop := ∀ a o, H a = some o → H' a = some o
theorem Ex.refl (H : Hp) : Ex H H := fun _ _ h => h
theorem Ex.trans {H H1 H2 : Hp} (a : Ex H H1) (b : Ex H1 H2) : Ex H H2 := fun x o h => b x o (a x o h)
theorem Ex.new {H : Hp} {p : Addr} {o : HO} (h : H p = none) : Ex H (upd H p o) := fun a u e => by
  rw [upd_ne (ne_of_none e h)]
  exact e
theorem Ex.sub {H H' : Hp} (x : Ex H H') : Sub H H' := fun a o h => Or.inl (x a o h)
def Plain (_ : Hp) : Prop := True
theorem sub_rd {G H : Hp} {a : Addr} {u : HO} (p : Plain G) (e : Sub G H) (h : Rd G a u) : Rd H a u := by
  rcases h with h | ⟨o, h⟩
  · rcases e a _ h with q | ⟨_, o, q⟩
    · exact Or.inl q
    · exact Or.inr ⟨o, q⟩
  · rcases e a _ h with q | ⟨z, _⟩
    · exact Or.inr ⟨o, q⟩
    · exact z.elim
theorem sub_ex {G H : Hp} {a : Addr} {xs : List V} (e : Sub G H) (h : G a = some (.lst xs)) : H a = some (.lst xs) := by
  rcases e a _ h with q | ⟨z, _⟩
  · exact q
  · exact z.elim
section
variable {K : PySem.W.Frag} {H H' : Hp}
theorem sub_l {a : Addr} {xs : List V} (p : Plain H) (e : Sub H H') (h : SqL K H a xs) : SqL K H' a xs := by
  rcases h with h | h
  · exact Or.inl (sub_rd p e h)
  · exact Or.inr h
theorem sub_t {a : Addr} {xs : List V} (p : Plain H) (e : Sub H H') (h : SqT K H a xs) : SqT K H' a xs := by
  rcases h with h | h
  · exact Or.inl (sub_rd p e h)
  · exact Or.inr h
mutual
theorem Rp.sub (p : Plain H) (e : Sub H H') : ∀ (d : D) (v : V), Rp K H d v → Rp K H' d v
  | _, _, .non => .non
  | _, _, .bl b => .bl b
  | _, _, .int i => .int i
  | _, _, .str x => .str x
  | _, _, .lst h q => .lst (sub_ex e h) (RpL.sub p e _ _ q)
  | _, _, .scr h => .scr (sub_l p e h)
  | _, _, .tup h q => .tup (sub_t p e h) (RpL.sub p e _ _ q)
  | _, _, .dk h l q => .dk (sub_rd p e h) l (RpL.sub p e _ _ q)
  | _, _, .dt h l q => .dt (sub_rd p e h) l (RpL.sub p e _ _ q)
  | _, _, .exc h => .exc (sub_rd p e h)
  | _, _, .fnc a => .fnc a
theorem RpL.sub (p : Plain H) (e : Sub H H') : ∀ (ds : List D) (vs : List V), RpL K H ds vs → RpL K H' ds vs
  | _, _, .nil => .nil
  | _, _, .cons h q => .cons (Rp.sub p e _ _ h) (RpL.sub p e _ _ q)
end
theorem ex_rd {a : Addr} {u : HO} (e : Ex H H') (h : Rd H a u) : Rd H' a u := by
  rcases h with h | ⟨o, h⟩
  · exact Or.inl (e a _ h)
  · exact Or.inr ⟨o, e a _ h⟩
theorem ex_l {a : Addr} {xs : List V} (e : Ex H H') (h : SqL K H a xs) : SqL K H' a xs := by
  rcases h with h | h
  · exact Or.inl (ex_rd e h)
  · exact Or.inr h
theorem ex_t {a : Addr} {xs : List V} (e : Ex H H') (h : SqT K H a xs) : SqT K H' a xs := by
  rcases h with h | h
  · exact Or.inl (ex_rd e h)
  · exact Or.inr h
mutual
theorem Rp.mono' (e : Ex H H') : ∀ (d : D) (v : V), Rp K H d v → Rp K H' d v
  | _, _, .non => .non
  | _, _, .bl b => .bl b
  | _, _, .int i => .int i
  | _, _, .str x => .str x
  | _, _, .lst h q => .lst (e _ _ h) (RpL.mono' e _ _ q)
  | _, _, .scr h => .scr (ex_l e h)
  | _, _, .tup h q => .tup (ex_t e h) (RpL.mono' e _ _ q)
  | _, _, .dk h l q => .dk (ex_rd e h) l (RpL.mono' e _ _ q)
  | _, _, .dt h l q => .dt (ex_rd e h) l (RpL.mono' e _ _ q)
  | _, _, .exc h => .exc (ex_rd e h)
  | _, _, .fnc a => .fnc a
theorem RpL.mono' (e : Ex H H') : ∀ (ds : List D) (vs : List V), RpL K H ds vs → RpL K H' ds vs
  | _, _, .nil => .nil
  | _, _, .cons h q => .cons (Rp.mono' e _ _ h) (RpL.mono' e _ _ q)
end
theorem Rp.mono {d : D} {v : V} (h : Rp K H d v) (e : Ex H H') : Rp K H' d v := Rp.mono' e d v h
theorem RpL.mono {d : List D} {v : List V} (h : RpL K H d v) (e : Ex H H') : RpL K H' d v := RpL.mono' e d v h
theorem RpL.length {ds : List D} : ∀ {vs : List V}, RpL K H ds vs → ds.length = vs.length := by
  induction ds with
  | nil => intro vs h; cases h; rfl
  | cons d ds ih => intro vs h; cases h with | cons _ q => exact congrArg Nat.succ (ih q)
theorem RpL.append {ds es : List D} : ∀ {vs us : List V}, RpL K H ds vs → RpL K H es us → RpL K H (ds ++ es) (vs ++ us) := by
  induction ds with
  | nil => intro vs us h q; cases h; exact q
  | cons d ds ih => intro vs us h q; cases h with | cons h1 h2 => exact .cons h1 (ih h2 q)
theorem RpL.get {ds : List D} : ∀ {vs : List V} {i : Nat} {d : D}, RpL K H ds vs → ds[i]? = some d → ∃ v, vs[i]? = some v ∧ Rp K H d v := by
  induction ds with
  | nil => intro vs i d h e; cases e
  | cons d ds ih =>
    intro vs i d' h e
    cases h with | cons h1 h2 =>
      cases i with
      | zero => cases e; exact ⟨_, rfl, h1⟩
      | succ i =>
        obtain ⟨v, z1, z2⟩ := ih (i := i) h2 (by simpa using e)
        exact ⟨v, by simpa using z1, z2⟩
theorem RpL.take {ds : List D} : ∀ {vs : List V} (n : Nat), RpL K H ds vs → RpL K H (ds.take n) (vs.take n) := by
  induction ds with
  | nil => intro vs n h; cases h; simp; exact .nil
  | cons d ds ih => intro vs n h; cases h with | cons h1 h2 => cases n with
    | zero => exact .nil
    | succ n => exact .cons h1 (ih n h2)
theorem RpL.drop {ds : List D} : ∀ {vs : List V} (n : Nat), RpL K H ds vs → RpL K H (ds.drop n) (vs.drop n) := by
  induction ds with
  | nil => intro vs n h; cases h; simp; exact .nil
  | cons d ds ih => intro vs n h; cases h with | cons h1 h2 => cases n with
    | zero => exact .cons h1 h2
    | succ n => exact ih n h2
theorem RpL.reverse {ds : List D} : ∀ {vs : List V}, RpL K H ds vs → RpL K H ds.reverse vs.reverse := by
  induction ds with
  | nil => intro vs h; cases h; exact .nil
  | cons d ds ih => intro vs h; cases h with | cons h1 h2 => rw [List.reverse_cons, List.reverse_cons]; exact (ih h2).append (.cons h1 .nil)
end

/-! ### what a slot holds: its own trees of lists, and shared data -/
inductive T where
  | un | fz (d : D) | ls (l : List T) | tp (l : List T) | dk (ks : List Key) (l : List D) | dt (ks : List (List Key)) (l : List D)
abbrev Fp := Addr → Prop
mutual
def T.data : T → Option D
  | .un => none
  | .fz d => some d
  | .ls l => (dataL l).map .lst
  | .tp l => (dataL l).map .tup
  | .dk ks l => some (.dk ks l)
  | .dt ks l => some (.dt ks l)
def dataL : List T → Option (List D)
  | [] => some []
  | t :: l => t.data.bind fun d => (dataL l).map (d :: ·)
end
mutual
inductive Rt (K : PySem.W.Frag) (G H : Hp) : T → Option V → Fp → Prop
  | un {x : Option V} {f : Fp} : Rt K G H .un x f
  | fz {d : D} {v : V} {f : Fp} : Rp K G d v → Rt K G H (.fz d) (some v) f
  | ls {a : Addr} {vs : List V} {l : List T} {f g : Fp} : f a → H a = some (.lst vs) → RtL K G H l (vs.map some) g → (∀ b, g b → f b ∧ b ≠ a) → Rt K G H (.ls l) (some (.ref a)) f
  | tp {a : Addr} {vs : List V} {l : List T} {f g : Fp} : f a → H a = some (.tup vs) → RtL K G H l (vs.map some) g → (∀ b, g b → f b ∧ b ≠ a) → Rt K G H (.tp l) (some (.ref a)) f
  | dk {a : Addr} {ks : List Key} {vs : List V} {l : List D} {f : Fp} : f a → H a = some (.dK (ks.zip vs)) → ks.length = l.length → RpL K G l vs → Rt K G H (.dk ks l) (some (.ref a)) f
  | dt {a : Addr} {ks : List (List Key)} {vs : List V} {l : List D} {f : Fp} : f a → H a = some (.dT (ks.zip vs)) → ks.length = l.length → RpL K G l vs → Rt K G H (.dt ks l) (some (.ref a)) f
inductive RtL (K : PySem.W.Frag) (G H : Hp) : List T → List (Option V) → Fp → Prop
  | nil {f : Fp} : RtL K G H [] [] f
  | cons {t : T} {x : Option V} {ts : List T} {xs : List (Option V)} {f g h : Fp} : Rt K G H t x g → RtL K G H ts xs h → (∀ b, g b → f b) → (∀ b, h b → f b) → (∀ b, g b → ¬ h b) → RtL K G H (t :: ts) (x :: xs) f
end
section
variable {K : PySem.W.Frag} {G G' H H' : Hp}
theorem Rt.weak {t : T} {x : Option V} {f f' : Fp} (h : Rt K G H t x f) (w : ∀ b, f b → f' b) : Rt K G H t x f' := by
  cases h with
  | un => exact .un
  | fz h => exact .fz h
  | ls h1 h2 h3 h4 => exact .ls (w _ h1) h2 h3 fun b hb => ⟨w b (h4 b hb).1, (h4 b hb).2⟩
  | tp h1 h2 h3 h4 => exact .tp (w _ h1) h2 h3 fun b hb => ⟨w b (h4 b hb).1, (h4 b hb).2⟩
  | dk h1 h2 h3 h4 => exact .dk (w _ h1) h2 h3 h4
  | dt h1 h2 h3 h4 => exact .dt (w _ h1) h2 h3 h4
theorem RtL.weak {t : List T} {x : List (Option V)} {f f' : Fp} (h : RtL K G H t x f) (w : ∀ b, f b → f' b) : RtL K G H t x f' := by
  cases h with
  | nil => exact .nil
  | cons h1 h2 h3 h4 h5 => exact .cons h1 h2 (fun b hb => w b (h3 b hb)) (fun b hb => w b (h4 b hb)) h5
mutual
theorem Rt.frame' (e : Ex G G') : ∀ (t : T) (x : Option V) (f : Fp), Rt K G H t x f → (∀ b, f b → H' b = H b) → Rt K G' H' t x f
  | _, _, _, .un, _ => .un
  | _, _, _, .fz h, _ => .fz (h.mono e)
  | _, _, _, .ls h1 h2 h3 h4, k => .ls h1 ((k _ h1).trans h2) (RtL.frame' e _ _ _ h3 fun b hb => k b (h4 b hb).1) h4
  | _, _, _, .tp h1 h2 h3 h4, k => .tp h1 ((k _ h1).trans h2) (RtL.frame' e _ _ _ h3 fun b hb => k b (h4 b hb).1) h4
  | _, _, _, .dk h1 h2 h3 h4, k => .dk h1 ((k _ h1).trans h2) h3 (h4.mono e)
  | _, _, _, .dt h1 h2 h3 h4, k => .dt h1 ((k _ h1).trans h2) h3 (h4.mono e)
theorem RtL.frame' (e : Ex G G') : ∀ (t : List T) (x : List (Option V)) (f : Fp), RtL K G H t x f → (∀ b, f b → H' b = H b) → RtL K G' H' t x f
  | _, _, _, .nil, _ => .nil
  | _, _, _, .cons h1 h2 h3 h4 h5, k => .cons (Rt.frame' e _ _ _ h1 fun b hb => k b (h3 b hb)) (RtL.frame' e _ _ _ h2 fun b hb => k b (h4 b hb)) h3 h4 h5
end
theorem Rt.frame {t : T} {x : Option V} {f : Fp} (h : Rt K G H t x f) (e : Ex G G') (k : ∀ b, f b → H' b = H b) : Rt K G' H' t x f := Rt.frame' e t x f h k
theorem RtL.frame {t : List T} {x : List (Option V)} {f : Fp} (h : RtL K G H t x f) (e : Ex G G') (k : ∀ b, f b → H' b = H b) : RtL K G' H' t x f := RtL.frame' e t x f h k
/-! its own things are shared from now on -/
mutual
theorem Rt.ice' (e : Ex G G') : ∀ (t : T) (x : Option V) (f : Fp), Rt K G H t x f → (∀ b o, f b → H b = some o → (∀ q u, o ≠ .frz q u) → G' b = some o) → ∀ d, t.data = some d → ∃ v, x = some v ∧ Rp K G' d v
  | _, _, _, .un, _, d, z => by unfold T.data at z; cases z
  | _, _, _, .fz h, _, d, z => by unfold T.data at z; cases z; exact ⟨_, rfl, h.mono e⟩
  | _, _, _, .ls h1 h2 h3 h4, k, d, z => by
    unfold T.data at z
    obtain ⟨ds, z1, z2⟩ := Option.map_eq_some_iff.mp z
    subst z2
    exact ⟨_, rfl, .lst (k _ _ h1 h2 (fun _ _ z => HO.noConfusion z)) (RtL.ice' e _ _ _ h3 (fun b o hb => k b o (h4 b hb).1) ds z1 _ rfl)⟩
  | _, _, _, .tp h1 h2 h3 h4, k, d, z => by
    unfold T.data at z
    obtain ⟨ds, z1, z2⟩ := Option.map_eq_some_iff.mp z
    subst z2
    exact ⟨_, rfl, .tup (Or.inl (Or.inl (k _ _ h1 h2 (fun _ _ z => HO.noConfusion z)))) (RtL.ice' e _ _ _ h3 (fun b o hb => k b o (h4 b hb).1) ds z1 _ rfl)⟩
  | _, _, _, .dk h1 h2 h3 h4, k, d, z => by unfold T.data at z; cases z; exact ⟨_, rfl, .dk (Or.inl (k _ _ h1 h2 (fun _ _ z => HO.noConfusion z))) h3 (h4.mono e)⟩
  | _, _, _, .dt h1 h2 h3 h4, k, d, z => by unfold T.data at z; cases z; exact ⟨_, rfl, .dt (Or.inl (k _ _ h1 h2 (fun _ _ z => HO.noConfusion z))) h3 (h4.mono e)⟩
theorem RtL.ice' (e : Ex G G') : ∀ (t : List T) (x : List (Option V)) (f : Fp), RtL K G H t x f → (∀ b o, f b → H b = some o → (∀ q u, o ≠ .frz q u) → G' b = some o) → ∀ ds, dataL t = some ds → ∀ vs : List V, x = vs.map some → RpL K G' ds vs
  | _, _, _, .nil, _, d, z, vs, ev => by
    unfold dataL at z
    cases z
    cases vs with
    | nil => exact .nil
    | cons v vs => cases ev
  | _, _, _, .cons h1 h2 h3 h4 h5, k, d, z, vs, ev => by
    unfold dataL at z
    obtain ⟨d1, z1, z2⟩ := Option.bind_eq_some_iff.mp z
    obtain ⟨ds, z3, z4⟩ := Option.map_eq_some_iff.mp z2
    subst z4
    cases vs with
    | nil => cases ev
    | cons v vs =>
      obtain ⟨e1, e2⟩ := List.cons.inj ev
      obtain ⟨v', e3, q⟩ := Rt.ice' e _ _ _ h1 (fun b o hb => k b o (h3 b hb)) d1 z1
      rw [e1] at e3
      cases e3
      exact .cons q (RtL.ice' e _ _ _ h2 (fun b o hb => k b o (h4 b hb)) ds z3 vs e2)
end
theorem RtL.length {t : List T} : ∀ {x : List (Option V)} {f : Fp}, RtL K G H t x f → t.length = x.length := by
  induction t with
  | nil => intro x f h; cases h; rfl
  | cons t ts ih => intro x f h; cases h with | cons _ h2 _ _ _ => exact congrArg Nat.succ (ih h2)
theorem RtL.app {t2 : List T} {y : List (Option V)} {g : Fp} (h2 : RtL K G H t2 y g) {t1 : List T} : ∀ {x : List (Option V)} {f : Fp}, RtL K G H t1 x f → (∀ b, f b → ¬ g b) → RtL K G H (t1 ++ t2) (x ++ y) (fun b => f b ∨ g b) := by
  induction t1 with
  | nil => intro x f h1 d; cases h1; exact h2.weak fun b hb => Or.inr hb
  | cons t ts ih =>
    intro x f h1 d
    cases h1 with | cons a1 a2 a3 a4 a5 =>
      exact .cons a1 (ih a2 fun b hb => d b (a4 b hb)) (fun b hb => Or.inl (a3 b hb)) (fun b hb => hb.elim (fun z => Or.inl (a4 b z)) Or.inr) (fun b hb z => z.elim (a5 b hb) (d b (a3 b hb)))
theorem RtL.split {t2 : List T} {y : List (Option V)} {t1 : List T} : ∀ {x : List (Option V)} {f : Fp}, RtL K G H (t1 ++ t2) (x ++ y) f → t1.length = x.length → ∃ g h : Fp, RtL K G H t1 x g ∧ RtL K G H t2 y h ∧ (∀ b, g b → f b) ∧ (∀ b, h b → f b) ∧ ∀ b, g b → ¬ h b := by
  induction t1 with
  | nil =>
    intro x f h l
    cases x with
    | nil => exact ⟨fun _ => False, f, .nil, h, fun b hb => hb.elim, fun b hb => hb, fun b hb => hb.elim⟩
    | cons _ _ => cases l
  | cons t ts ih =>
    intro x f h l
    cases x with
    | nil => cases l
    | cons x xs =>
      cases h with | @cons _ _ _ _ _ g1 h1 a1 a2 a3 a4 a5 =>
        obtain ⟨g, h, b1, b2, b3, b4, b5⟩ := ih a2 (Nat.succ.inj l)
        refine ⟨fun b => g1 b ∨ g b, h, .cons a1 b1 (fun b hb => Or.inl hb) (fun b hb => Or.inr hb) (fun b hb z => a5 b hb (b3 b z)), b2, fun b hb => hb.elim (a3 b) fun z => a4 b (b3 b z), fun b hb => a4 b (b4 b hb), fun b hb z => hb.elim (fun q => a5 b q (b4 b z)) fun q => b5 b q z⟩
/-- one place of a list, and another thing in it -/
theorem RtL.at {t : T} {ts : List T} : ∀ {x : List (Option V)} {f : Fp} {i : Nat}, RtL K G H ts x f → ts[i]? = some t → ∃ (y : Option V) (g h : Fp), x[i]? = some y ∧ Rt K G H t y g ∧ (∀ b, g b → f b) ∧ (∀ b, h b → f b) ∧ (∀ b, g b → ¬ h b) ∧
    ∀ (G' H' : Hp) (t' : T) (y' : Option V) (g' : Fp), Ex G G' → (∀ b, h b → H' b = H b) → Rt K G' H' t' y' g' → (∀ b, g' b → ¬ h b) → RtL K G' H' (ts.set i t') (x.set i y') (fun b => g' b ∨ h b) := by
  induction ts with
  | nil => intro x f i h e; cases e
  | cons t0 ts ih =>
    intro x f i h e
    cases h with | @cons _ x0 _ xs _ g0 h0 a1 a2 a3 a4 a5 =>
      cases i with
      | zero =>
        cases e
        refine ⟨x0, g0, h0, rfl, a1, a3, a4, a5, fun G' H' t' y' g' eg k r d => ?_⟩
        exact .cons r (a2.frame eg k) (fun b hb => Or.inl hb) (fun b hb => Or.inr hb) d
      | succ i =>
        obtain ⟨y, g, h, b1, b2, b3, b4, b5, b6⟩ := ih (i := i) a2 e
        refine ⟨y, g, fun b => g0 b ∨ h b, b1, b2, fun b hb => a4 b (b3 b hb), fun b hb => hb.elim (a3 b) fun z => a4 b (b4 b z), fun b hb z => z.elim (fun q => a5 b q (b3 b hb)) (b5 b hb), fun G' H' t' y' g' eg k r d => ?_⟩
        exact .cons (g := g0) (h := fun b => g' b ∨ h b) (a1.frame eg fun b hb => k b (Or.inl hb)) (b6 G' H' t' y' g' eg (fun b hb => k b (Or.inr hb)) r fun b hb z => d b hb (Or.inr z)) (fun b hb => Or.inr (Or.inl hb))
          (fun b hb => hb.elim Or.inl fun z => Or.inr (Or.inr z)) (fun b hb z => z.elim (fun q => d b q (Or.inl hb)) fun q => a5 b hb (b4 b q))
end

/-! ### the state of a frame -/
variable [TbS]
structure Fx where
  B : Hp
  G0 : Hp
  L : Fp
def Own (F : Fx) (G H : Hp) (f : Fp) : Prop := ∀ b, f b → G b = none ∧ H b ≠ none ∧ (F.B b = none ∨ F.L b) ∧ ¬ TbS.tb b
structure SI (K : PySem.W.Frag) (F : Fx) (G H : Hp) (r : List T) (x : List (Option V)) : Prop where
  own : ∃ f : Fp, RtL K G H r x f ∧ Own F G H f
  keep : ∀ a o, F.B a = some o → ¬ F.L a → ¬ TbS.tb a → H a = some o
  tab : ∀ a, TbS.tb a → GxR.TabG H a
  gtb : ∀ a, TbS.tb a → G a = none
  inn : ∀ a, F.L a → H a ≠ none
  g0 : Ex F.G0 G
  gh : Sub G H
  pl : Plain G
  gn : ∀ a o, G a = some o → F.G0 a = some o ∨ F.B a = none ∨ F.L a
section
variable {K : PySem.W.Frag} {F : Fx} {G G' H H' : Hp} {r r' : List T} {x x' : List (Option V)}
theorem SI.len (I : SI K F G H r x) : r.length = x.length := by
  obtain ⟨f, h, _⟩ := I.own
  exact h.length
theorem SI.Bnone (I : SI K F G H r x) {p : Addr} (h : H p = none) : F.B p = none := by
  cases hb : F.B p with
  | none => rfl
  | some o =>
    by_cases c : F.L p
    · exact absurd h (I.inn p c)
    · by_cases t : TbS.tb p
      · obtain ⟨_, z, _⟩ := I.tab p t
        rw [h] at z; cases z
      · rw [I.keep p o hb c t] at h; cases h
theorem SI.Gnone (I : SI K F G H r x) {p : Addr} (h : H p = none) : G p = none := by
  cases hb : G p with
  | none => rfl
  | some o =>
    rcases I.gh p o hb with q | ⟨_, _, q⟩ <;> (rw [h] at q; cases q)
/-- a step in which the tables may have grown -/
theorem SI.nextT (I : SI K F G H r x) (f : Fp) (hf : Own F G H f) (e1 : Ex G G') (e2 : Sub G' H') (e3 : Plain G') (kp : ∀ a o, H a = some o → ¬ f a → ¬ TbS.tb a → H' a = some o) (tb : ∀ a, TbS.tb a → GxR.TabG H' a) (lv : ∀ a, H a ≠ none → H' a ≠ none)
    (gn : ∀ a o, G' a = some o → G a = some o ∨ f a ∨ H a = none) {f' : Fp} (hr : RtL K G' H' r' x' f') (hf' : ∀ b, f' b → G' b = none ∧ H' b ≠ none ∧ (f b ∨ H b = none)) : SI K F G' H' r' x' := by
  have tn : ∀ a, TbS.tb a → H a ≠ none := fun a t z => by
    obtain ⟨_, q, _⟩ := I.tab a t
    rw [z] at q; cases q
  refine ⟨⟨f', hr, fun b hb => ⟨(hf' b hb).1, (hf' b hb).2.1, (hf' b hb).2.2.elim (fun z => (hf b z).2.2.1) fun z => Or.inl (I.Bnone z), (hf' b hb).2.2.elim (fun z => (hf b z).2.2.2) fun z t => tn b t z⟩⟩, fun a o e c t => ?_, tb, fun a t => ?_, fun a c => lv a (I.inn a c), I.g0.trans e1, e2, e3, fun a o e => ?_⟩
  · refine kp a o (I.keep a o e c t) (fun z => ?_) t
    rcases (hf a z).2.2.1 with q | q
    · rw [e] at q; cases q
    · exact c q
  · cases q : G' a with
    | none => rfl
    | some o =>
      rcases gn a o q with z | z | z
      · rw [I.gtb a t] at z; cases z
      · exact absurd t (hf a z).2.2.2
      · exact absurd z (tn a t)
  · rcases gn a o e with q | q | q
    · exact I.gn a o q
    · exact Or.inr ((hf a q).2.2.1)
    · exact Or.inr (Or.inl (I.Bnone q))
/-- a step -/
theorem SI.next (I : SI K F G H r x) (f : Fp) (hf : Own F G H f) (e1 : Ex G G') (e2 : Sub G' H') (e3 : Plain G') (kp : ∀ a o, H a = some o → ¬ f a → H' a = some o) (lv : ∀ a, H a ≠ none → H' a ≠ none)
    (gn : ∀ a o, G' a = some o → G a = some o ∨ f a ∨ H a = none) {f' : Fp} (hr : RtL K G' H' r' x' f') (hf' : ∀ b, f' b → G' b = none ∧ H' b ≠ none ∧ (f b ∨ H b = none)) : SI K F G' H' r' x' :=
  I.nextT f hf e1 e2 e3 (fun a o e c _ => kp a o e c) (fun a t => by
    obtain ⟨ps, q, z⟩ := I.tab a t
    exact ⟨ps, kp a _ q fun c => (hf a c).2.2.2 t, z⟩) lv gn hr hf'
/-- only the holdings are told otherwise -/
theorem SI.same (I : SI K F G H r x) {f : Fp} (hf : Own F G H f) {f' : Fp} (hr : RtL K G H r' x' f') (w : ∀ b, f' b → f b) : SI K F G H r' x' :=
  I.next f hf (Ex.refl G) I.gh I.pl (fun a o e _ => e) (fun a h => h) (fun a o e => Or.inl e) hr (fun b hb => ⟨(hf b (w b hb)).1, (hf b (w b hb)).2.1, Or.inl (w b hb)⟩)
/-- a new thing at p, shared at once -/
theorem Sub.both {G H : Hp} {p : Addr} {o : HO} (e : Sub G H) (h : H p = none) : Sub (upd G p o) (upd H p o) := fun a u ha => by
  by_cases c : a = p
  · subst c
    rw [upd_same] at ha
    cases ha
    exact Or.inl upd_same
  · rw [upd_ne c] at ha
    rw [upd_ne c]
    exact e a u ha
theorem Plain.new {G : Hp} {p : Addr} {o : HO} (h : Plain G) (ho : ∀ q u, o ≠ .frz q u) : Plain (upd G p o) := trivial
theorem SI.laid (I : SI K F G H r x) {p : Addr} {o : HO} (h : H p = none) (ho : ∀ q u, o ≠ .frz q u) : SI K F (upd G p o) (upd H p o) r x := by
  obtain ⟨f, hr, hf⟩ := I.own
  have hg := I.Gnone h
  have np : ∀ b, f b → b ≠ p := fun b hb z => by subst z; exact (hf b hb).2.1 h
  refine I.next f hf (Ex.new hg) (I.gh.both h) (I.pl.new ho) (fun a u e _ => by rw [upd_ne (ne_of_none e h)]; exact e) (fun a ha => ?_) (fun a u e => ?_) (hr.frame (Ex.new hg) fun b hb => upd_ne (np b hb))
    (fun b hb => ⟨by rw [upd_ne (np b hb)]; exact (hf b hb).1, by rw [upd_ne (np b hb)]; exact (hf b hb).2.1, Or.inl hb⟩)
  · rw [upd_ne (fun z => ha (by rw [z]; exact h))]; exact ha
  · by_cases c : a = p
    · subst c; exact Or.inr (Or.inr h)
    · rw [upd_ne c] at e; exact Or.inl e
end
end Q

set_option Elab.async false
set_option linter.all false
set_option maxRecDepth 100000
set_option maxHeartbeats 2000000
namespace Q
open PySem PySem.Spec PyProof.Rows L2
variable [TbS]
open Classical in
noncomputable def mix (G : Hp) (g : Fp) (H : Hp) : Hp := fun b => if g b ∧ (∀ q u, H b ≠ some (.frz q u)) then H b else G b
theorem mix_in {G H : Hp} {g : Fp} {b : Addr} {o : HO} (hg : g b) (h : H b = some o) (ho : ∀ q u, o ≠ .frz q u) : mix G g H b = some o := by
  unfold mix
  rw [if_pos ⟨hg, fun q u z => ho q u (by rw [h] at z; exact Option.some.inj z)⟩, h]
theorem mix_out {G H : Hp} {g : Fp} {b : Addr} (hg : ¬ g b) : mix G g H b = G b := by
  unfold mix
  rw [if_neg fun z => hg z.1]
theorem mix_cases {G H : Hp} {g : Fp} {b : Addr} {o : HO} (h : mix G g H b = some o) : (g b ∧ H b = some o ∧ ∀ q u, o ≠ .frz q u) ∨ G b = some o := by
  unfold mix at h
  split at h
  · rename_i c
    exact Or.inl ⟨c.1, h, fun q u z => c.2 q u (by rw [h, z])⟩
  · exact Or.inr h
theorem set_same {α : Type} : ∀ {l : List α} {i : Nat} {a : α}, l[i]? = some a → l.set i a = l
  | [], _, _, h => by cases h
  | x :: l, 0, a, h => by cases h; rfl
  | x :: l, i + 1, a, h => by
    rw [List.set_cons_succ, set_same (by simpa using h)]
section
variable {K : PySem.W.Frag} {F : Fx} {G G' H H' : Hp} {r r' : List T} {x x' : List (Option V)}
/-- the thing in a place is shared from now on -/
theorem SI.iceAt (I : SI K F G H r x) {i : Nat} {t : T} {d : D} (e : r[i]? = some t) (hd : t.data = some d) : ∃ G' v, x[i]? = some (some v) ∧ Ex G G' ∧ SI K F G' H (r.set i (.fz d)) x ∧ Rp K G' d v := by
  obtain ⟨f, hr, hf⟩ := I.own
  obtain ⟨y, g, h, b1, b2, b3, b4, b5, b6⟩ := hr.at e
  have eg : Ex G (mix G g H) := fun b o hb => by
    rw [mix_out fun z => by rw [(hf b (b3 b z)).1] at hb; cases hb]
    exact hb
  obtain ⟨v, rfl, q⟩ := Rt.ice' eg t y g b2 (fun b o hb => mix_in hb) d hd
  refine ⟨mix G g H, v, b1, eg, ?_, q⟩
  have hr' := b6 (mix G g H) H (.fz d) (some v) (fun _ => False) eg (fun _ _ => rfl) (.fz q) (fun b hb => hb.elim)
  rw [set_same b1] at hr'
  refine I.next f hf eg (fun b o hb => ?_) trivial (fun a o e _ => e) (fun a z => z) (fun a o e => ?_) hr' (fun b hb => ?_)
  · rcases mix_cases hb with ⟨_, q, _⟩ | q
    · exact Or.inl q
    · exact I.gh b o q
  · rcases mix_cases e with ⟨q, _, _⟩ | q
    · exact Or.inr (Or.inl (b3 a q))
    · exact Or.inl q
  · rcases hb with z | z
    · exact z.elim
    · have := hf b (b4 b z)
      exact ⟨by rw [mix_out fun w => b5 b w z]; exact this.1, this.2.1, Or.inl (b4 b z)⟩
theorem SI.drop {t : List T} {y : List (Option V)} (I : SI K F G H (r ++ t) (x ++ y)) (hl : r.length = x.length) : SI K F G H r x := by
  obtain ⟨f, hr, hf⟩ := I.own
  obtain ⟨g, h, h1, h2, h3, h4, h5⟩ := hr.split hl
  exact I.same hf h1 h3
/-- shared things more -/
theorem RtL.fzs {l : List D} : ∀ {vs : List V}, RpL K G l vs → RtL K G H (l.map .fz) (vs.map some) (fun _ => False) := by
  induction l with
  | nil => intro vs h; cases h; exact .nil
  | cons d l ih => intro vs h; cases h with | cons h1 h2 => exact .cons (g := fun _ => False) (h := fun _ => False) (.fz h1) (ih h2) (fun b hb => hb) (fun b hb => hb) (fun b hb => hb.elim)
theorem SI.fzs (I : SI K F G H r x) {l : List D} {vs : List V} (h : RpL K G l vs) : SI K F G H (r ++ l.map .fz) (x ++ vs.map some) := by
  obtain ⟨f, hr, hf⟩ := I.own
  exact I.same hf ((RtL.fzs h).app hr fun b _ z => z) fun b hb => hb.elim (fun z => z) fun z => z.elim
/-- a new list of the last ones -/
theorem SI.pack {ts : List T} {vs : List V} (I : SI K F G H (r ++ ts) (x ++ vs.map some)) (hl : r.length = x.length) {p : Addr} (h : H p = none) : SI K F G (upd H p (.lst vs)) (r ++ [.ls ts]) (x ++ [some (.ref p)]) := by
  obtain ⟨f, hr, hf⟩ := I.own
  obtain ⟨g, k, h1, h2, h3, h4, h5⟩ := hr.split hl
  have np : ∀ b, f b → b ≠ p := fun b hb z => by subst z; exact (hf b hb).2.1 h
  have s1 : RtL K G (upd H p (.lst vs)) r x g := h1.frame (Ex.refl G) fun b hb => upd_ne (np b (h3 b hb))
  have s2 : RtL K G (upd H p (.lst vs)) ts (vs.map some) k := h2.frame (Ex.refl G) fun b hb => upd_ne (np b (h4 b hb))
  have s3 : RtL K G (upd H p (.lst vs)) [.ls ts] [some (.ref p)] (fun b => b = p ∨ k b) := .cons (.ls (Or.inl rfl) upd_same s2 fun b hb => ⟨Or.inr hb, np b (h4 b hb)⟩) (h := fun _ => False) .nil (fun b hb => hb) (fun b hb => hb.elim) (fun b _ z => z)
  refine I.next f hf (Ex.refl G) (fun a o e => ?_) I.pl (fun a o e _ => by rw [upd_ne (ne_of_none e h)]; exact e) (fun a ha => ?_) (fun a o e => Or.inl e) (s3.app s1 fun b hb z => z.elim (np b (h3 b hb)) (h5 b hb)) (fun b hb => ?_)
  · have : a ≠ p := fun z => by subst z; rw [I.Gnone h] at e; cases e
    rw [upd_ne this]
    exact I.gh a o e
  · rw [upd_ne (fun z => ha (by rw [z]; exact h))]; exact ha
  · have fin : f b → G b = none ∧ upd H p (.lst vs) b ≠ none ∧ (f b ∨ H b = none) := fun hb => ⟨(hf b hb).1, by rw [upd_ne (np b hb)]; exact (hf b hb).2.1, Or.inl hb⟩
    rcases hb with z | z | z
    · exact fin (h3 b z)
    · subst z
      exact ⟨I.Gnone h, by rw [upd_same]; exact Option.some_ne_none _, Or.inr h⟩
    · exact fin (h4 b z)
theorem SI.packT {ts : List T} {vs : List V} (I : SI K F G H (r ++ ts) (x ++ vs.map some)) (hl : r.length = x.length) {p : Addr} (h : H p = none) : SI K F G (upd H p (.tup vs)) (r ++ [.tp ts]) (x ++ [some (.ref p)]) := by
  obtain ⟨f, hr, hf⟩ := I.own
  obtain ⟨g, k, h1, h2, h3, h4, h5⟩ := hr.split hl
  have np : ∀ b, f b → b ≠ p := fun b hb z => by subst z; exact (hf b hb).2.1 h
  have s1 : RtL K G (upd H p (.tup vs)) r x g := h1.frame (Ex.refl G) fun b hb => upd_ne (np b (h3 b hb))
  have s2 : RtL K G (upd H p (.tup vs)) ts (vs.map some) k := h2.frame (Ex.refl G) fun b hb => upd_ne (np b (h4 b hb))
  have s3 : RtL K G (upd H p (.tup vs)) [.tp ts] [some (.ref p)] (fun b => b = p ∨ k b) := .cons (.tp (Or.inl rfl) upd_same s2 fun b hb => ⟨Or.inr hb, np b (h4 b hb)⟩) (h := fun _ => False) .nil (fun b hb => hb) (fun b hb => hb.elim) (fun b _ z => z)
  refine I.next f hf (Ex.refl G) (fun a o e => ?_) I.pl (fun a o e _ => by rw [upd_ne (ne_of_none e h)]; exact e) (fun a ha => ?_) (fun a o e => Or.inl e) (s3.app s1 fun b hb z => z.elim (np b (h3 b hb)) (h5 b hb)) (fun b hb => ?_)
  · have : a ≠ p := fun z => by subst z; rw [I.Gnone h] at e; cases e
    rw [upd_ne this]
    exact I.gh a o e
  · rw [upd_ne (fun z => ha (by rw [z]; exact h))]; exact ha
  · have fin : f b → G b = none ∧ upd H p (.tup vs) b ≠ none ∧ (f b ∨ H b = none) := fun hb => ⟨(hf b hb).1, by rw [upd_ne (np b hb)]; exact (hf b hb).2.1, Or.inl hb⟩
    rcases hb with z | z | z
    · exact fin (h3 b z)
    · subst z
      exact ⟨I.Gnone h, by rw [upd_same]; exact Option.some_ne_none _, Or.inr h⟩
    · exact fin (h4 b z)
end

/-! ### what an expression is worth -/
abbrev Env := List T
inductive W where
  | sh (d : D) | nw (t : T) | pl (i : Nat)
def W.tm : W → List T
  | .nw t => [t]
  | _ => []
def W.vl (v : V) : W → List (Option V)
  | .nw _ => [some v]
  | _ => []
def WV (K : PySem.W.Frag) (G : Hp) (s : L2.St) : W → V → Prop
  | .sh d, v => Rp K G d v
  | .nw _, _ => True
  | .pl i, v => s[i]? = some (some v)
abbrev ED := Env → Option (W × Env)
abbrev FD := Env → Option (D × Env)
abbrev FDs := Env → Option (List D × Env)
abbrev MD := Env → Option (T × Env)
abbrev MDs := Env → Option (List T × Env)
abbrev BD := Env → Option (Bool × Env)
def DE (K : PySem.W.Frag) (te : TE) (f : ED) : Prop := ∀ F G H r s tm us w r', SI K F G H (r ++ tm) (s ++ us) → r.length = s.length → f r = some (w, r') → ∀ Q : VK, (∀ v G' H', Ex G G' → SI K F G' H' (r' ++ (tm ++ w.tm)) (s ++ (us ++ w.vl v)) → r'.length = s.length → WV K G' s w v → Q v H') → te s H Q
def DF (K : PySem.W.Frag) (te : TE) (f : FD) : Prop := ∀ F G H r s tm us d r', SI K F G H (r ++ tm) (s ++ us) → r.length = s.length → f r = some (d, r') → ∀ Q : VK, (∀ v G' H', Ex G G' → SI K F G' H' (r' ++ tm) (s ++ us) → r'.length = s.length → Rp K G' d v → Q v H') → te s H Q
def DFs (K : PySem.W.Frag) (ta : TA) (f : FDs) : Prop := ∀ F G H r s tm us d r', SI K F G H (r ++ tm) (s ++ us) → r.length = s.length → f r = some (d, r') → ∀ Q : List V → Hp → Prop, (∀ v G' H', Ex G G' → SI K F G' H' (r' ++ tm) (s ++ us) → r'.length = s.length → RpL K G' d v → Q v H') → ta s H Q
def DM (K : PySem.W.Frag) (te : TE) (f : MD) : Prop := ∀ F G H r s tm us t r', SI K F G H (r ++ tm) (s ++ us) → r.length = s.length → f r = some (t, r') → ∀ Q : VK, (∀ v G' H', Ex G G' → SI K F G' H' (r' ++ (tm ++ [t])) (s ++ (us ++ [some v])) → r'.length = s.length → Q v H') → te s H Q
def DMs (K : PySem.W.Frag) (ta : TA) (f : MDs) : Prop := ∀ F G H r s tm us ts r', SI K F G H (r ++ tm) (s ++ us) → r.length = s.length → f r = some (ts, r') → ∀ Q : List V → Hp → Prop, (∀ (vs : List V) G' H', Ex G G' → SI K F G' H' (r' ++ (tm ++ ts)) (s ++ (us ++ vs.map some)) → r'.length = s.length → ts.length = vs.length → Q vs H') → ta s H Q
def DT (K : PySem.W.Frag) (tt : TT) (f : BD) : Prop := ∀ F G H r s tm us b r', SI K F G H (r ++ tm) (s ++ us) → r.length = s.length → f r = some (b, r') → ∀ Q : Bool → Hp → Prop, (∀ G' H', Ex G G' → SI K F G' H' (r' ++ tm) (s ++ us) → r'.length = s.length → Q b H') → tt s H Q
def share (r : Env) : W → Option (D × Env)
  | .sh d => some (d, r)
  | .nw t => t.data.bind fun d => some (d, r)
  | .pl i => (r[i]?).bind fun t => t.data.bind fun d => some (d, r.set i (.fz d))
section
variable {K : PySem.W.Frag} {F : Fx} {G G' H H' : Hp} {r r' : Env} {s : L2.St} {tm : List T} {us : List (Option V)}
theorem share_ok {w : W} {v : V} {d : D} (I : SI K F G H (r ++ (tm ++ w.tm)) (s ++ (us ++ w.vl v))) (hl : r.length = s.length) (hw : WV K G s w v) (e : share r w = some (d, r')) : ∃ G', Ex G G' ∧ SI K F G' H (r' ++ tm) (s ++ us) ∧ r'.length = s.length ∧ Rp K G' d v := by
  cases w with
  | sh d' =>
    cases e
    simp only [W.tm, W.vl, List.append_nil] at I
    exact ⟨G, Ex.refl G, I, hl, hw⟩
  | nw t =>
    obtain ⟨d', e1, e2⟩ := Option.bind_eq_some_iff.mp e
    cases e2
    simp only [W.tm, W.vl, ← List.append_assoc] at I
    have hl2 : (r ++ tm).length = (s ++ us).length := by
      have := I.len
      simp at this ⊢
      omega
    obtain ⟨G', v', z1, z2, z3, z4⟩ := I.iceAt (i := (r ++ tm).length) (by simp) e1
    rw [hl2] at z1
    simp at z1
    subst z1
    rw [List.set_append_right _ _ (Nat.le_refl _)] at z3
    exact ⟨G', z2, z3.drop hl2, hl, z4⟩
  | pl i =>
    obtain ⟨t, e0, e⟩ := Option.bind_eq_some_iff.mp e
    obtain ⟨d', e1, e2⟩ := Option.bind_eq_some_iff.mp e
    cases e2
    simp only [W.tm, W.vl, List.append_nil] at I
    have hi : i < r.length := (List.getElem?_eq_some_iff.mp e0).1
    obtain ⟨G', v', z1, z2, z3, z4⟩ := I.iceAt (i := i) (by rw [List.getElem?_append_left hi]; exact e0) e1
    rw [List.getElem?_append_left (by omega), hw] at z1
    cases z1
    rw [List.set_append_left _ _ hi] at z3
    exact ⟨G', z2, z3, by rw [List.length_set]; exact hl, z4⟩
def dSh (f : ED) : FD := fun r => (f r).bind fun p => share p.2 p.1
theorem df_of {te : TE} {f : ED} (h : DE K te f) : DF K te (dSh f) := fun F G H r s tm us d r' I hl e Q q => by
  obtain ⟨⟨w, r1⟩, e1, e⟩ := Option.bind_eq_some_iff.mp e
  refine h F G H r s tm us w r1 I hl e1 _ fun v G1 H1 x1 I1 l1 hw => ?_
  obtain ⟨G2, x2, I2, l2, q2⟩ := share_ok I1 l1 hw e
  exact q v G2 H1 (x1.trans x2) I2 l2 q2
def dLift (f : FD) : ED := fun r => (f r).bind fun p => some (.sh p.1, p.2)
theorem de_of {te : TE} {f : FD} (h : DF K te f) : DE K te (dLift f) := fun F G H r s tm us w r' I hl e Q q => by
  obtain ⟨⟨d, r1⟩, e1, e⟩ := Option.bind_eq_some_iff.mp e
  cases e
  exact h F G H r s tm us d r1 I hl e1 _ fun v G1 H1 x1 I1 l1 hd => q v G1 H1 x1 (by simpa only [W.tm, W.vl, List.append_nil] using I1) l1 hd
def dVar (i : Nat) : ED := fun r => match r[i]? with
  | some .un => none
  | none => none
  | some _ => some (.pl i, r)
theorem Rt.some_of {t : T} {y : Option V} {f : Fp} (h : Rt K G H t y f) (n : t ≠ .un) : ∃ v, y = some v := by
  cases h with
  | un => exact absurd rfl n
  | fz _ => exact ⟨_, rfl⟩
  | ls _ _ _ _ => exact ⟨_, rfl⟩
  | tp _ _ _ _ => exact ⟨_, rfl⟩
  | dk _ _ _ _ => exact ⟨_, rfl⟩
  | dt _ _ _ _ => exact ⟨_, rfl⟩
theorem SI.val (I : SI K F G H (r ++ tm) (s ++ us)) (hl : r.length = s.length) {i : Nat} {t : T} (e : r[i]? = some t) (n : t ≠ .un) : ∃ v, s[i]? = some (some v) := by
  obtain ⟨f, hr, _⟩ := I.own
  have hi : i < r.length := (List.getElem?_eq_some_iff.mp e).1
  obtain ⟨y, g, h, b1, b2, _⟩ := hr.at (i := i) (by rw [List.getElem?_append_left hi]; exact e)
  obtain ⟨v, rfl⟩ := b2.some_of n
  rw [List.getElem?_append_left (by omega)] at b1
  exact ⟨v, b1⟩
theorem de_var {i : Nat} : DE K (tVar i) (dVar i) := fun F G H r s tm us w r' I hl e Q q => by
  unfold dVar at e
  split at e
  · cases e
  · cases e
  · rename_i t hr n
    cases e
    obtain ⟨v, hv⟩ := I.val hl n hr
    exact ⟨v, hv, q v G H (Ex.refl G) (by simpa only [W.tm, W.vl, List.append_nil] using I) hl hv⟩
def dC (d : D) : ED := fun r => some (.sh d, r)
theorem de_c {d : D} {v : V} (h : ∀ G, Rp K G d v) : DE K (tC v) (dC d) := fun F G H r s tm us w r' I hl e Q q => by
  cases e
  exact q v G H (Ex.refl G) (by simpa only [W.tm, W.vl, List.append_nil] using I) hl (h G)
/-- the variable's own thing goes out of its slot -/
def dMove (i : Nat) : ED := fun r => match r[i]? with
  | some .un => none
  | none => none
  | some t => some (.nw t, r.set i .un)
theorem de_move {i : Nat} : DE K (tVar i) (dMove i) := fun F G H r s tm us w r' I hl e Q q => by
  unfold dMove at e
  split at e
  · cases e
  · cases e
  · rename_i t hr n
    cases e
    have hi : i < r.length := (List.getElem?_eq_some_iff.mp n).1
    obtain ⟨v, hv⟩ := I.val hl n hr
    refine ⟨v, hv, q v G H (Ex.refl G) ?_ (by rw [List.length_set]; exact hl) trivial⟩
    obtain ⟨f, hr, hf⟩ := I.own
    obtain ⟨y, g, h, b1, b2, b3, b4, b5, b6⟩ := hr.at (i := i) (by rw [List.getElem?_append_left hi]; exact n)
    have k1 := b6 G H .un y (fun _ => False) (Ex.refl G) (fun _ _ => rfl) .un (fun b hb => hb.elim)
    rw [set_same b1, List.set_append_left _ _ hi] at k1
    rw [List.getElem?_append_left (by omega), hv] at b1
    cases b1
    have k2 : RtL K G H [t] [some v] g := .cons b2 (h := fun _ => False) .nil (fun b hb => hb) (fun b hb => hb.elim) (fun b _ z => z)
    have k3 := k2.app k1 (fun b hb z => hb.elim (fun q => q) fun q => b5 b z q)
    simp only [W.tm, W.vl, ← List.append_assoc]
    exact I.same hf k3 fun b hb => hb.elim (fun z => z.elim (fun q => q.elim) (b4 b)) (b3 b)
def fdNil : FDs := fun r => some ([], r)
def fdCons (f : FD) (g : FDs) : FDs := fun r => (f r).bind fun p => (g p.2).bind fun q => some (p.1 :: q.1, q.2)
theorem fd_nil : DFs K tNil fdNil := fun F G H r s tm us d r' I hl e Q q => by
  cases e
  exact q [] G H (Ex.refl G) I hl .nil
theorem fd_cons {te : TE} {ta : TA} {f : FD} {g : FDs} (h1 : DF K te f) (h2 : DFs K ta g) : DFs K (tCons te ta) (fdCons f g) := fun F G H r s tm us d r' I hl e Q q => by
  obtain ⟨⟨d1, r1⟩, e1, e⟩ := Option.bind_eq_some_iff.mp e
  obtain ⟨⟨ds, r2⟩, e2, e⟩ := Option.bind_eq_some_iff.mp e
  cases e
  exact h1 F G H r s tm us d1 r1 I hl e1 _ fun v G1 H1 x1 I1 l1 q1 => h2 F G1 H1 r1 s tm us ds r2 I1 l1 e2 _ fun vs G2 H2 x2 I2 l2 q2 => q _ G2 H2 (x1.trans x2) I2 l2 (.cons (q1.mono x2) q2)
def mv (r : Env) : W → Option (T × Env)
  | .nw t => some (t, r)
  | w => (share r w).bind fun p => some (.fz p.1, p.2)
theorem fz_in (I : SI K F G H (r ++ tm) (s ++ us)) {d : D} {v : V} (q : Rp K G d v) : SI K F G H (r ++ (tm ++ [.fz d])) (s ++ (us ++ [some v])) := by
  have := I.fzs (l := [d]) (vs := [v]) (.cons q .nil)
  simpa only [List.map_cons, List.map_nil, List.append_assoc] using this
theorem mv_ok {w : W} {v : V} {t : T} (I : SI K F G H (r ++ (tm ++ w.tm)) (s ++ (us ++ w.vl v))) (hl : r.length = s.length) (hw : WV K G s w v) (e : mv r w = some (t, r')) : ∃ G', Ex G G' ∧ SI K F G' H (r' ++ (tm ++ [t])) (s ++ (us ++ [some v])) ∧ r'.length = s.length := by
  cases w with
  | nw t' => cases e; exact ⟨G, Ex.refl G, I, hl⟩
  | sh d =>
    obtain ⟨⟨d', r1⟩, e1, e⟩ := Option.bind_eq_some_iff.mp (show (share r (.sh d)).bind (fun p => some (T.fz p.1, p.2)) = some (t, r') from e)
    cases e
    obtain ⟨G1, x1, I1, l1, q1⟩ := share_ok I hl hw e1
    exact ⟨G1, x1, fz_in I1 q1, l1⟩
  | pl i =>
    obtain ⟨⟨d', r1⟩, e1, e⟩ := Option.bind_eq_some_iff.mp (show (share r (.pl i)).bind (fun p => some (T.fz p.1, p.2)) = some (t, r') from e)
    cases e
    obtain ⟨G1, x1, I1, l1, q1⟩ := share_ok I hl hw e1
    exact ⟨G1, x1, fz_in I1 q1, l1⟩
def dMv (f : ED) : MD := fun r => (f r).bind fun p => mv p.2 p.1
theorem dm_of {te : TE} {f : ED} (h : DE K te f) : DM K te (dMv f) := fun F G H r s tm us t r' I hl e Q q => by
  obtain ⟨⟨w, r1⟩, e1, e⟩ := Option.bind_eq_some_iff.mp e
  refine h F G H r s tm us w r1 I hl e1 _ fun v G1 H1 x1 I1 l1 hw => ?_
  obtain ⟨G2, x2, I2, l2⟩ := mv_ok I1 l1 hw e
  exact q v G2 H1 (x1.trans x2) I2 l2
def mdNil : MDs := fun r => some ([], r)
def mdCons (f : MD) (g : MDs) : MDs := fun r => (f r).bind fun p => (g p.2).bind fun q => some (p.1 :: q.1, q.2)
theorem md_nil : DMs K tNil mdNil := fun F G H r s tm us d r' I hl e Q q => by
  cases e
  exact q [] G H (Ex.refl G) (by simpa only [List.map_nil, List.append_nil] using I) hl rfl
theorem md_cons {te : TE} {ta : TA} {f : MD} {g : MDs} (h1 : DM K te f) (h2 : DMs K ta g) : DMs K (tCons te ta) (mdCons f g) := fun F G H r s tm us d r' I hl e Q q => by
  obtain ⟨⟨t1, r1⟩, e1, e⟩ := Option.bind_eq_some_iff.mp e
  obtain ⟨⟨ts, r2⟩, e2, e⟩ := Option.bind_eq_some_iff.mp e
  cases e
  refine h1 F G H r s tm us t1 r1 I hl e1 _ fun v G1 H1 x1 I1 l1 => h2 F G1 H1 r1 s (tm ++ [t1]) (us ++ [some v]) ts r2 I1 l1 e2 _ fun vs G2 H2 x2 I2 l2 lv => q (v :: vs) G2 H2 (x1.trans x2) ?_ l2 (congrArg Nat.succ lv)
  simpa only [List.append_assoc, List.cons_append, List.nil_append, List.map_cons] using I2

/-! ### operations upon shared values -/
inductive Rs where
  | val (d : D) | newT (l : List D) | newL (l : List D)
def Rs.w : Rs → W
  | .val d => .sh d
  | .newT l => .sh (.tup l)
  | .newL l => .nw (.ls (l.map .fz))
/-- what is wanted of an operation's end, by what it is worth -/
def RsOk (K : PySem.W.Frag) (G H : Hp) (Q : VK) : Rs → Prop
  | .val d => ∀ w, Rp K G d w → Q w H
  | .newT l => (∀ w, Rp K G (.tup l) w → Q w H) ∧ ∀ p vs, H p = none → RpL K G l vs → Q (.ref p) (upd H p (.tup vs))
  | .newL l => ∀ p vs, H p = none → RpL K G l vs → Q (.ref p) (upd H p (.lst vs))
theorem rs_ok {z : Rs} {Q : VK} (I : SI K F G H (r ++ tm) (s ++ us)) (hl : r.length = s.length) (q : ∀ v G' H', Ex G G' → SI K F G' H' (r ++ (tm ++ z.w.tm)) (s ++ (us ++ z.w.vl v)) → r.length = s.length → WV K G' s z.w v → Q v H') : RsOk K G H Q z := by
  cases z with
  | val d => exact fun w h => q w G H (Ex.refl G) (by simpa only [Rs.w, W.tm, W.vl, List.append_nil] using I) hl h
  | newT l => exact ⟨fun w h => q w G H (Ex.refl G) (by simpa only [Rs.w, W.tm, W.vl, List.append_nil] using I) hl h, fun p vs hp h => q _ _ _ (Ex.new (I.Gnone hp)) (by simpa only [Rs.w, W.tm, W.vl, List.append_nil] using I.laid hp (o := .tup vs) (fun _ _ z => HO.noConfusion z)) hl (.tup (Or.inl (Or.inl upd_same)) (h.mono (Ex.new (I.Gnone hp))))⟩
  | newL l =>
    refine fun p vs hp h => q _ _ _ (Ex.refl G) ?_ hl trivial
    have := (I.fzs h).pack I.len hp
    simpa only [Rs.w, W.tm, W.vl, List.append_assoc] using this
def DC (K : PySem.W.Frag) (rl : List V → Hp → VK → Prop) (g : List D → Option Rs) : Prop := ∀ G H xs vs z, Sub G H → Plain G → RpL K G xs vs → g xs = some z → ∀ Q : VK, RsOk K G H Q z → rl vs H Q
/-- several values, then an operation -/
def dWith (f : FDs) (g : List D → Option Rs) : ED := fun r => (f r).bind fun p => (g p.1).bind fun z => some (z.w, p.2)
theorem de_with {ta : TA} {f : FDs} {rl : List V → Hp → VK → Prop} {g : List D → Option Rs} (hf : DFs K ta f) (hg : DC K rl g) : DE K (fun σ H Q => ta σ H fun vs H1 => rl vs H1 Q) (dWith f g) := fun F G H r s tm us w r' I hl e Q q => by
  obtain ⟨⟨ds, r1⟩, e1, e⟩ := Option.bind_eq_some_iff.mp e
  obtain ⟨z, e2, e⟩ := Option.bind_eq_some_iff.mp e
  cases e
  exact hf F G H r s tm us ds r1 I hl e1 _ fun vs G1 H1 x1 I1 l1 q1 => hg G1 H1 ds vs z I1.gh I1.pl q1 e2 Q (rs_ok I1 l1 fun v G' H' x2 I2 l2 hw => q v G' H' (x1.trans x2) I2 l2 hw)
def rl2 (rl : R2) : List V → Hp → VK → Prop := fun vs H Q => match vs with
  | [v, u] => rl v u H Q
  | _ => False
def rl1 (rl : V → Hp → VK → Prop) : List V → Hp → VK → Prop := fun vs H Q => match vs with
  | [v] => rl v H Q
  | _ => False
def dOp (g : List D → Option Rs) (fa fb : FD) : ED := dWith (fdCons fa (fdCons fb fdNil)) g
def dUn (g : List D → Option Rs) (fa : FD) : ED := dWith (fdCons fa fdNil) g
theorem de_op {fa fb : FD} {g : List D → Option Rs} {ta tb : TE} {rl : R2} (ha : DF K ta fa) (hb : DF K tb fb) (hg : DC K (rl2 rl) g) : DE K (tOp rl ta tb) (dOp g fa fb) := fun F G H r s tm us w r' I hl e Q q =>
  de_with (ta := tCons ta (tCons tb tNil)) (rl := rl2 rl) (fd_cons ha (fd_cons hb fd_nil)) hg F G H r s tm us w r' I hl e Q q
theorem de_un {fa : FD} {g : List D → Option Rs} {ta : TE} {rl : V → Hp → VK → Prop} (ha : DF K ta fa) (hg : DC K (rl1 rl) g) : DE K (tUn rl ta) (dUn g fa) := fun F G H r s tm us w r' I hl e Q q =>
  de_with (ta := tCons ta tNil) (rl := rl1 rl) (fd_cons ha fd_nil) hg F G H r s tm us w r' I hl e Q q
/-! ### displays -/
theorem big {n : Nat} (h : n ≤ 1000000) : n ≤ sizeLine := Nat.le_trans h (by decide)
theorem bigl {n : Nat} (h : n < 1000000) : n < sizeLine := Nat.lt_of_lt_of_le h (by decide)
def gTupD (l : List D) : Option Rs := if l.length ≤ 1000000 then some (.newT l) else none
def gLstD (l : List D) : Option Rs := if l.length ≤ 1000000 then some (.newL l) else none
theorem de_tup {ta : TA} {f : FDs} (h : DFs K ta f) : DE K (tTup ta) (dWith f gTupD) := by
  refine de_with (rl := fun xs H Q => xs.length ≤ sizeLine ∧ ∀ p, H p = none → Q (.ref p) (upd H p (.tup xs))) h fun G H xs vs z _ _ q e Q k => ?_
  unfold gTupD at e
  split at e
  · rename_i c
    cases e
    exact ⟨big (q.length ▸ c), fun p hp => k.2 p vs hp q⟩
  · cases e
theorem de_lst {ta : TA} {f : FDs} (h : DFs K ta f) : DE K (tLst ta) (dWith f gLstD) := by
  refine de_with (rl := fun xs H Q => xs.length ≤ sizeLine ∧ ∀ p, H p = none → Q (.ref p) (upd H p (.lst xs))) h fun G H xs vs z _ _ q e Q k => ?_
  unfold gLstD at e
  split at e
  · rename_i c
    cases e
    exact ⟨big (q.length ▸ c), fun p hp => k p vs hp q⟩
  · cases e
def dLstO (f : MDs) : ED := fun r => (f r).bind fun p => if p.1.length ≤ 1000000 then some (.nw (.ls p.1), p.2) else none
def dTupO (f : MDs) : ED := fun r => (f r).bind fun p => if p.1.length ≤ 1000000 then some (.nw (.tp p.1), p.2) else none
theorem assoc_len {ts : List T} {vs : List V} (I : SI K F G H (r ++ (tm ++ ts)) (s ++ (us ++ vs.map some))) (hl : r.length = s.length) (h : ts.length = vs.length) : (r ++ tm).length = (s ++ us).length := by
  have := I.len
  simp at this ⊢
  omega
theorem de_lstO {ta : TA} {f : MDs} (h : DMs K ta f) : DE K (tLst ta) (dLstO f) := fun F G H r s tm us w r' I hl e Q q => by
  obtain ⟨⟨ts, r1⟩, e1, e⟩ := Option.bind_eq_some_iff.mp e
  split at e
  · rename_i c
    cases e
    refine h F G H r s tm us ts r1 I hl e1 _ fun vs G1 H1 x1 I1 l1 hv => ?_
    refine ⟨big (hv ▸ c), fun p hp => q _ _ _ x1 ?_ l1 trivial⟩
    have I2 : SI K F G1 H1 ((r1 ++ tm) ++ ts) ((s ++ us) ++ vs.map some) := by simpa only [List.append_assoc] using I1
    simpa only [W.tm, W.vl, List.append_assoc] using I2.pack (assoc_len I1 l1 hv) hp
  · cases e
theorem de_tupO {ta : TA} {f : MDs} (h : DMs K ta f) : DE K (tTup ta) (dTupO f) := fun F G H r s tm us w r' I hl e Q q => by
  obtain ⟨⟨ts, r1⟩, e1, e⟩ := Option.bind_eq_some_iff.mp e
  split at e
  · rename_i c
    cases e
    refine h F G H r s tm us ts r1 I hl e1 _ fun vs G1 H1 x1 I1 l1 hv => ?_
    refine ⟨big (hv ▸ c), fun p hp => q _ _ _ x1 ?_ l1 trivial⟩
    have I2 : SI K F G1 H1 ((r1 ++ tm) ++ ts) ((s ++ us) ++ vs.map some) := by simpa only [List.append_assoc] using I1
    simpa only [W.tm, W.vl, List.append_assoc] using I2.packT (assoc_len I1 l1 hv) hp
  · cases e
/-! ### tests -/
def truth : D → Option Bool
  | .non => some false
  | .bl b => some b
  | .int i => some (i != 0)
  | .str x => if x.length ≤ 1000000 then some ((x.length : Int) != 0) else none
  | .lst l => some (!l.isEmpty)
  | .tup l => some (!l.isEmpty)
  | _ => none
theorem truth_ok {d : D} {v : V} {b : Bool} (q : Rp K H d v) (e : truth d = some b) : TruV K v H b := by
  cases d with
  | non => cases q; cases e; rfl
  | bl c => cases q; cases e; rfl
  | int i => cases q; cases e; rfl
  | str z =>
    cases q
    unfold truth at e
    dsimp only at e
    split at e
    · rename_i c; cases e; exact ⟨big c, rfl⟩
    · cases e
  | lst l =>
    cases e
    cases q with | lst h1 h2 =>
      refine Or.inl ⟨_, Or.inl (Or.inl h1), ?_⟩
      cases h2 <;> rfl
  | tup l =>
    cases e
    cases q with | tup h1 h2 =>
      refine Or.inr (Or.inl ⟨_, h1, ?_⟩)
      cases h2 <;> rfl
  | dk ks l => cases e
  | dt ks l => cases e
  | exc c => cases e
  | scr c => cases e
  | fnc c => cases e
def dTru (f : FD) : BD := fun r => (f r).bind fun p => (truth p.1).bind fun b => some (b, p.2)
theorem dt_tru {te : TE} {f : FD} (h : DF K te f) : DT K (fun σ H Q => te σ H fun x H' => ∃ k, TruV K x H' k ∧ Q k H') (dTru f) := fun F G H r s tm us b r' I hl e Q q => by
  obtain ⟨⟨d, r1⟩, e1, e⟩ := Option.bind_eq_some_iff.mp e
  obtain ⟨c, e3, e⟩ := Option.bind_eq_some_iff.mp e
  cases e
  exact h F G H r s tm us d r1 I hl e1 _ fun v G1 H1 x1 I1 l1 hd => ⟨b, truth_ok (Rp.sub I1.pl I1.gh _ _ hd) e3, q G1 H1 x1 I1 l1⟩
def D.bool : D → Option Bool
  | .bl b => some b
  | _ => none
theorem bool_rp {d : D} {v : V} {b : Bool} (h : Rp K G d v) (e : d.bool = some b) : v = .bl b := by
  cases d with
  | bl c => cases e; cases h; rfl
  | _ => cases e
def dBl (f : FD) : BD := fun r => (f r).bind fun p => p.1.bool.bind fun b => some (b, p.2)
theorem dt_bl {te : TE} {f : FD} (h : DF K te f) : DT K (tB te) (dBl f) := fun F G H r s tm us b r' I hl e Q q => by
  obtain ⟨⟨d, r1⟩, e1, e⟩ := Option.bind_eq_some_iff.mp e
  obtain ⟨c, e3, e⟩ := Option.bind_eq_some_iff.mp e
  cases e
  exact h F G H r s tm us d r1 I hl e1 _ fun v G1 H1 x1 I1 l1 hd => ⟨b, bool_rp hd e3, q G1 H1 x1 I1 l1⟩
def dAnd (f g : BD) : BD := fun r => (f r).bind fun p => if p.1 = true then g p.2 else some (false, p.2)
def dOr (f g : BD) : BD := fun r => (f r).bind fun p => if p.1 = true then some (true, p.2) else g p.2
def dNot (f : BD) : BD := fun r => (f r).bind fun p => some (!p.1, p.2)
theorem dt_and {t u : TT} {f g : BD} (h1 : DT K t f) (h2 : DT K u g) : DT K (tAnd t u) (dAnd f g) := fun F G H r s tm us b r' I hl e Q q => by
  obtain ⟨⟨c, r1⟩, e1, e⟩ := Option.bind_eq_some_iff.mp e
  refine h1 F G H r s tm us c r1 I hl e1 _ fun G1 H1 x1 I1 l1 => ?_
  cases c with
  | true => exact h2 F G1 H1 r1 s tm us b r' I1 l1 e Q fun G2 H2 x2 I2 l2 => q G2 H2 (x1.trans x2) I2 l2
  | false => cases e; exact q G1 H1 x1 I1 l1
theorem dt_or {t u : TT} {f g : BD} (h1 : DT K t f) (h2 : DT K u g) : DT K (tOr t u) (dOr f g) := fun F G H r s tm us b r' I hl e Q q => by
  obtain ⟨⟨c, r1⟩, e1, e⟩ := Option.bind_eq_some_iff.mp e
  refine h1 F G H r s tm us c r1 I hl e1 _ fun G1 H1 x1 I1 l1 => ?_
  cases c with
  | false => exact h2 F G1 H1 r1 s tm us b r' I1 l1 e Q fun G2 H2 x2 I2 l2 => q G2 H2 (x1.trans x2) I2 l2
  | true => cases e; exact q G1 H1 x1 I1 l1
theorem dt_not {t : TT} {f : BD} (h1 : DT K t f) : DT K (tNot t) (dNot f) := fun F G H r s tm us b r' I hl e Q q => by
  obtain ⟨⟨c, r1⟩, e1, e⟩ := Option.bind_eq_some_iff.mp e
  cases e
  exact h1 F G H r s tm us c r1 I hl e1 _ fun G1 H1 x1 I1 l1 => q G1 H1 x1 I1 l1
def dBool (f : BD) : ED := fun r => (f r).bind fun p => some (.sh (.bl p.1), p.2)
theorem de_andV {ta tb : TE} {f g : FD} (h1 : DF K ta f) (h2 : DF K tb g) : DE K (tAndV ta tb) (dBool (dAnd (dBl f) (dBl g))) := fun F G H r s tm us w r' I hl e Q q => by
  obtain ⟨⟨c, r1⟩, e1, e⟩ := Option.bind_eq_some_iff.mp e
  cases e
  obtain ⟨⟨c1, r2⟩, e2, e3⟩ := Option.bind_eq_some_iff.mp e1
  obtain ⟨⟨d, r3⟩, e4, e5⟩ := Option.bind_eq_some_iff.mp e2
  obtain ⟨c2, e6, e7⟩ := Option.bind_eq_some_iff.mp e5
  cases e7
  refine h1 F G H r s tm us d r3 I hl e4 _ fun v G1 H1 x1 I1 l1 hd => ⟨c1, bool_rp hd e6, ?_⟩
  cases c1 with
  | true =>
    obtain ⟨⟨d', r4⟩, e8, e9⟩ := Option.bind_eq_some_iff.mp (show dBl g _ = some _ from e3)
    obtain ⟨c3, e10, e11⟩ := Option.bind_eq_some_iff.mp e9
    cases e11
    exact h2 F G1 H1 r3 s tm us d' r4 I1 l1 e8 Q fun v2 G2 H2 x2 I2 l2 hd2 => q v2 G2 H2 (x1.trans x2) (by simpa only [W.tm, W.vl, List.append_nil] using I2) l2 (by rw [bool_rp hd2 e10]; exact .bl c)
  | false =>
    cases e3
    exact q _ G1 H1 x1 (by simpa only [W.tm, W.vl, List.append_nil] using I1) l1 (.bl false)
theorem de_orV {ta tb : TE} {f g : FD} (h1 : DF K ta f) (h2 : DF K tb g) : DE K (tOrV ta tb) (dBool (dOr (dBl f) (dBl g))) := fun F G H r s tm us w r' I hl e Q q => by
  obtain ⟨⟨c, r1⟩, e1, e⟩ := Option.bind_eq_some_iff.mp e
  cases e
  obtain ⟨⟨c1, r2⟩, e2, e3⟩ := Option.bind_eq_some_iff.mp e1
  obtain ⟨⟨d, r3⟩, e4, e5⟩ := Option.bind_eq_some_iff.mp e2
  obtain ⟨c2, e6, e7⟩ := Option.bind_eq_some_iff.mp e5
  cases e7
  refine h1 F G H r s tm us d r3 I hl e4 _ fun v G1 H1 x1 I1 l1 hd => ⟨c1, bool_rp hd e6, ?_⟩
  cases c1 with
  | false =>
    obtain ⟨⟨d', r4⟩, e8, e9⟩ := Option.bind_eq_some_iff.mp (show dBl g _ = some _ from e3)
    obtain ⟨c3, e10, e11⟩ := Option.bind_eq_some_iff.mp e9
    cases e11
    exact h2 F G1 H1 r3 s tm us d' r4 I1 l1 e8 Q fun v2 G2 H2 x2 I2 l2 hd2 => q v2 G2 H2 (x1.trans x2) (by simpa only [W.tm, W.vl, List.append_nil] using I2) l2 (by rw [bool_rp hd2 e10]; exact .bl c)
  | true => cases e3; exact q _ G1 H1 x1 (by simpa only [W.tm, W.vl, List.append_nil] using I1) l1 (.bl true)
theorem de_notV {ta : TE} {f : FD} (h1 : DF K ta f) : DE K (tNotV ta) (dBool (dNot (dBl f))) := fun F G H r s tm us w r' I hl e Q q => by
  obtain ⟨⟨c, r1⟩, e1, e⟩ := Option.bind_eq_some_iff.mp e
  cases e
  obtain ⟨⟨c1, r2⟩, e2, e3⟩ := Option.bind_eq_some_iff.mp e1
  cases e3
  obtain ⟨⟨d, r3⟩, e4, e5⟩ := Option.bind_eq_some_iff.mp e2
  obtain ⟨c2, e6, e7⟩ := Option.bind_eq_some_iff.mp e5
  cases e7
  exact h1 F G H r s tm us d r3 I hl e4 _ fun v G1 H1 x1 I1 l1 hd => ⟨c1, bool_rp hd e6, q _ G1 H1 x1 (by simpa only [W.tm, W.vl, List.append_nil] using I1) l1 (.bl _)⟩
def dIfE (c : BD) (f g : ED) : ED := fun r => (c r).bind fun p => if p.1 = true then f p.2 else g p.2
theorem de_if {t : TT} {ta tb : TE} {c : BD} {f g : ED} (hc : DT K t c) (h1 : DE K ta f) (h2 : DE K tb g) : DE K (tIf t ta tb) (dIfE c f g) := fun F G H r s tm us w r' I hl e Q q => by
  obtain ⟨⟨k, r1⟩, e1, e⟩ := Option.bind_eq_some_iff.mp e
  refine hc F G H r s tm us k r1 I hl e1 _ fun G1 H1 x1 I1 l1 => ?_
  cases k with
  | true => exact h1 F G1 H1 r1 s tm us w r' I1 l1 e Q fun v G2 H2 x2 I2 l2 hw => q v G2 H2 (x1.trans x2) I2 l2 hw
  | false => exact h2 F G1 H1 r1 s tm us w r' I1 l1 e Q fun v G2 H2 x2 I2 l2 hw => q v G2 H2 (x1.trans x2) I2 l2 hw
/-! ### looked at only: nothing of the frame is shared for good -/
def T.frz (t : T) : T := match t.data with
  | some d => .fz d
  | none => .un
def D.scal : D → Bool
  | .non => true
  | .bl _ => true
  | .int _ => true
  | .str _ => true
  | _ => false
theorem scal_rp {d : D} {v : V} (h : Rp K G d v) (e : d.scal = true) : Rp K G' d v := by
  cases h with
  | non => exact .non
  | bl b => exact .bl b
  | int i => exact .int i
  | str z => exact .str z
  | _ => cases e
theorem RtL.iced {x : List (Option V)} (e : Ex G G') : ∀ {t : List T} {x : List (Option V)} {f : Fp}, RtL K G H t x f → (∀ b o, f b → H b = some o → (∀ q u, o ≠ .frz q u) → G' b = some o) → RtL K G' H (t.map T.frz) x (fun _ => False) := by
  intro t
  induction t with
  | nil => intro x f h k; cases h; exact .nil
  | cons t ts ih =>
    intro x f h k
    cases h with | cons a1 a2 a3 a4 a5 =>
      refine .cons (g := fun _ => False) (h := fun _ => False) ?_ (ih a2 fun b o hb => k b o (a4 b hb)) (fun b hb => hb) (fun b hb => hb) (fun b hb => hb.elim)
      unfold T.frz
      cases hd : t.data with
      | none => exact .un
      | some d =>
        obtain ⟨v, rfl, q⟩ := Rt.ice' e _ _ _ a1 (fun b o hb => k b o (a3 b hb)) d hd
        exact .fz q
theorem SI.look (I : SI K F G H r x) {x : List (Option V)} (I : SI K F G H r x) : ∃ F' G', Ex G G' ∧ SI K F' G' H (r.map T.frz) x ∧ ∀ G1 H1 r1 x1, SI K F' G1 H1 r1 x1 → SI K F G H1 r x := by
  obtain ⟨f, hr, hf⟩ := I.own
  have eg : Ex G (mix G f H) := fun b o hb => by
    rw [mix_out fun z => by rw [(hf b z).1] at hb; cases hb]
    exact hb
  refine ⟨⟨H, mix G f H, fun _ => False⟩, mix G f H, eg, ⟨⟨fun _ => False, hr.iced (x := x) eg (fun b o hb => mix_in hb), fun b hb => hb.elim⟩, fun a o e _ _ => e, I.tab, fun a t => ?_, fun a c => c.elim, Ex.refl _, fun b o hb => ?_, trivial, fun a o e => Or.inl e⟩, fun G1 H1 r1 x1 J => ?_⟩
  · cases q : mix G f H a with
    | none => rfl
    | some o =>
      rcases mix_cases q with ⟨z, _, _⟩ | z
      · exact absurd t (hf a z).2.2.2
      · rw [I.gtb a t] at z; cases z
  · rcases mix_cases hb with ⟨_, q, _⟩ | q
    · exact Or.inl q
    · exact I.gh b o q
  · have kp : ∀ a o, H a = some o → ¬ TbS.tb a → H1 a = some o := fun a o e t => J.keep a o e (fun z => z) t
    have ne : ∀ a, H a ≠ none → ¬ TbS.tb a → H1 a = H a := fun a h t => by
      cases e : H a with
      | none => exact absurd e h
      | some o => exact kp a o e t
    have nG : ∀ a o, G a = some o → ¬ TbS.tb a := fun a o e t => by rw [I.gtb a t] at e; cases e
    refine I.nextT f hf (Ex.refl G) (fun a o e => ?_) I.pl (fun a o e _ t => kp a o e t) J.tab (fun a h => ?_) (fun a o e => Or.inl e) (hr.frame (Ex.refl G) fun b hb => ne b (hf b hb).2.1 (hf b hb).2.2.2) (fun b hb => ⟨(hf b hb).1, by rw [ne b (hf b hb).2.1 (hf b hb).2.2.2]; exact (hf b hb).2.1, Or.inl hb⟩)
    · rcases I.gh a o e with q | ⟨z, o', q⟩
      · exact Or.inl (kp a _ q (nG a o e))
      · exact Or.inr ⟨z, o', kp a _ q (nG a o e)⟩
    · by_cases t : TbS.tb a
      · obtain ⟨_, q, _⟩ := J.tab a t
        rw [q]; exact Option.some_ne_none _
      · rw [ne a h t]; exact h
def dScal (f : FD) : FD := fun r => (f (r.map T.frz)).bind fun p => if p.1.scal = true then some (p.1, r) else none
theorem df_scal {te : TE} {f : FD} (h : DF K te f) : DF K te (dScal f) := fun F G H r s tm us d r' I hl e Q q => by
  obtain ⟨⟨d1, r1⟩, e1, e⟩ := Option.bind_eq_some_iff.mp e
  split at e
  · rename_i c
    cases e
    obtain ⟨F', G', xg, J, back⟩ := I.look I
    rw [List.map_append] at J
    exact h F' G' H (r.map T.frz) s (tm.map T.frz) us d1 r1 J (by rw [List.length_map]; exact hl) e1 _ fun v G1 H1 x1 I1 l1 hd => q v G H1 (Ex.refl G) (back _ _ _ _ I1) hl (scal_rp hd c)
  · cases e
def dScalT (f : BD) : BD := fun r => (f (r.map T.frz)).bind fun p => some (p.1, r)
theorem dt_scal {te : TT} {f : BD} (h : DT K te f) : DT K te (dScalT f) := fun F G H r s tm us d r' I hl e Q q => by
  obtain ⟨⟨d1, r1⟩, e1, e⟩ := Option.bind_eq_some_iff.mp e
  cases e
  obtain ⟨F', G', xg, J, back⟩ := I.look I
  rw [List.map_append] at J
  exact h F' G' H (r.map T.frz) s (tm.map T.frz) us d1 r1 J (by rw [List.length_map]; exact hl) e1 _ fun G1 H1 x1 I1 l1 => q G H1 (Ex.refl G) (back _ _ _ _ I1) hl
end
end Q

set_option Elab.async false
set_option linter.all false
set_option maxRecDepth 100000
set_option maxHeartbeats 2000000
namespace Q
open PySem PySem.Spec PyProof.Rows L2
variable [TbS]
/-! ### statements -/
inductive O where
  | nx (r : Env) | rt (w : W) (r : Env) | bk (r : Env) | ct (r : Env) | ex (c : Addr) (r : Env)
abbrev SD := Env → Option O
def Par (P : Nat → Option (Option V)) (s : L2.St) : Prop := ∀ i v, P i = some v → s[i]? = some v
def OOk (K : PySem.W.Frag) (F : Fx) (P : Nat → Option (Option V)) (X : WX) (G : Hp) (E : Ends) : O → Prop
  | .nx r => ∀ s' G' H', Ex G G' → SI K F G' H' r s' → Par P s' → E.nx s' H'
  | .rt w r => ∀ v s' G' H', Ex G G' → SI K F G' H' (r ++ w.tm) (s' ++ w.vl v) → r.length = s'.length → WV K G' s' w v → Par P s' → E.rt v H'
  | .bk r => ∀ s' G' H', Ex G G' → SI K F G' H' r s' → Par P s' → E.bk s' H'
  | .ct r => ∀ s' G' H', Ex G G' → SI K F G' H' r s' → Par P s' → E.ct s' H'
  | .ex c r => ∀ s' G' H', Ex G G' → SI K F G' H' r s' → Par P s' → X (.ref c) none s' H'
def DS (K : PySem.W.Frag) (A : Nat → Bool) (X : WX) (ts : TS) (g : SD) : Prop := ∀ F P G H r s o, (∀ i, A i = true → P i = none) → SI K F G H r s → Par P s → g r = some o → ∀ E : Ends, OOk K F P X G E o → ts E s H
abbrev XD := Env → Option (Sum W Addr × Env)
def XOk (K : PySem.W.Frag) (F : Fx) (X : WX) (G : Hp) (s : L2.St) (r' : Env) (Q : VK) : Sum W Addr → Prop
  | .inl w => ∀ v G' H', Ex G G' → SI K F G' H' (r' ++ w.tm) (s ++ w.vl v) → r'.length = s.length → WV K G' s w v → Q v H'
  | .inr c => ∀ G' H', Ex G G' → SI K F G' H' r' s → X (.ref c) none s H'
def DX (K : PySem.W.Frag) (X : WX) (te : TE) (f : XD) : Prop := ∀ F G H r s z r', SI K F G H r s → f r = some (z, r') → ∀ Q : VK, XOk K F X G s r' Q z → te s H Q
abbrev XB := Env → Option (Sum Bool Addr × Env)
def DTX (K : PySem.W.Frag) (X : WX) (tt : TT) (f : XB) : Prop := ∀ F G H r s z r', SI K F G H r s → f r = some (z, r') → ∀ Q : Bool → Hp → Prop,
  (match z with
    | .inl b => ∀ G' H', Ex G G' → SI K F G' H' r' s → Q b H'
    | .inr c => ∀ G' H', Ex G G' → SI K F G' H' r' s → X (.ref c) none s H') → tt s H Q
section
variable {K : PySem.W.Frag} {A : Nat → Bool} {X : WX}
theorem OOk.mono {F : Fx} {P : Nat → Option (Option V)} {G G' : Hp} {E : Ends} {o : O} (x : Ex G G') (h : OOk K F P X G E o) : OOk K F P X G' E o := by
  cases o with
  | nx r => exact fun s' G2 H2 x2 => h s' G2 H2 (x.trans x2)
  | rt w r => exact fun v s' G2 H2 x2 => h v s' G2 H2 (x.trans x2)
  | bk r => exact fun s' G2 H2 x2 => h s' G2 H2 (x.trans x2)
  | ct r => exact fun s' G2 H2 x2 => h s' G2 H2 (x.trans x2)
  | ex c r => exact fun s' G2 H2 x2 => h s' G2 H2 (x.trans x2)
def xLift (f : ED) : XD := fun r => (f r).bind fun p => some (.inl p.1, p.2)
theorem dx_of {te : TE} {f : ED} (h : DE K te f) : DX K X te (xLift f) := fun F G H r s z r' I e Q q => by
  obtain ⟨⟨w, r1⟩, e1, e⟩ := Option.bind_eq_some_iff.mp e
  cases e
  exact h F G H r s [] [] w r1 (by simpa only [List.append_nil] using I) I.len e1 Q fun v G' H' x1 I1 l1 hw => q v G' H' x1 (by simpa only [List.nil_append] using I1) l1 hw
def xbLift (f : BD) : XB := fun r => (f r).bind fun p => some (.inl p.1, p.2)
theorem dtx_of {te : TT} {f : BD} (h : DT K te f) : DTX K X te (xbLift f) := fun F G H r s z r' I e Q q => by
  obtain ⟨⟨w, r1⟩, e1, e⟩ := Option.bind_eq_some_iff.mp e
  cases e
  exact h F G H r s [] [] w r1 (by simpa only [List.append_nil] using I) I.len e1 Q fun G' H' x1 I1 l1 => q G' H' x1 (by simpa only [List.append_nil] using I1)
def xBl (f : XD) : XB := fun r => (f r).bind fun p => match p.1 with
  | .inl w => (share p.2 w).bind fun q => q.1.bool.bind fun b => some (.inl b, q.2)
  | .inr c => some (.inr c, p.2)
theorem dtx_bl {te : TE} {f : XD} (h : DX K X te f) : DTX K X (tB te) (xBl f) := fun F G H r s z r' I e Q q => by
  obtain ⟨⟨z1, r1⟩, e1, e⟩ := Option.bind_eq_some_iff.mp e
  cases z1 with
  | inl w =>
    obtain ⟨⟨d, r2⟩, e2, e⟩ := Option.bind_eq_some_iff.mp e
    obtain ⟨b, e3, e⟩ := Option.bind_eq_some_iff.mp e
    cases e
    refine h F G H r s (.inl w) r1 I e1 _ fun v G1 H1 x1 I1 l1 hw => ?_
    obtain ⟨G2, x2, I2, l2, q2⟩ := share_ok (tm := []) (us := []) (by simpa only [List.nil_append] using I1) l1 hw e2
    exact ⟨b, bool_rp q2 e3, q G2 H1 (x1.trans x2) (by simpa only [List.append_nil] using I2)⟩
  | inr c =>
    cases e
    exact h F G H r s (.inr c) _ I e1 _ q
def xNot (f : XB) : XB := fun r => (f r).bind fun p => match p.1 with
  | .inl b => some (.inl (!b), p.2)
  | .inr c => some (.inr c, p.2)
theorem dtx_not {te : TT} {f : XB} (h : DTX K X te f) : DTX K X (tNot te) (xNot f) := fun F G H r s z r' I e Q q => by
  obtain ⟨⟨z1, r1⟩, e1, e⟩ := Option.bind_eq_some_iff.mp e
  cases z1 with
  | inl b => cases e; exact h F G H r s (.inl b) _ I e1 _ q
  | inr c => cases e; exact h F G H r s (.inr c) _ I e1 _ q
def dNext : SD := fun r => some (.nx r)
def dSeq (g h : SD) : SD := fun r => (g r).bind fun o => match o with
  | .nx r1 => h r1
  | .rt w r1 => some (.rt w r1)
  | .bk r1 => some (.bk r1)
  | .ct r1 => some (.ct r1)
  | .ex c r1 => some (.ex c r1)
theorem ds_next : DS K A X tNext dNext := fun F P G H r s o a I p e E q => by
  cases e
  exact q s G H (Ex.refl G) I p
theorem ds_seq {t u : TS} {g h : SD} (h1 : DS K A X t g) (h2 : DS K A X u h) : DS K A X (tSeq t u) (dSeq g h) := fun F P G H r s o a I p e E q => by
  obtain ⟨o1, e1, e⟩ := Option.bind_eq_some_iff.mp e
  refine h1 F P G H r s o1 a I p e1 _ ?_
  cases o1 with
  | nx r1 => exact fun s' G' H' x I1 p1 => h2 F P G' H' r1 s' o a I1 p1 e E (q.mono x)
  | rt w r1 => cases e; exact q
  | bk r1 => cases e; exact q
  | ct r1 => cases e; exact q
  | ex c r1 => cases e; exact q
def dIf (c : XB) (g h : SD) : SD := fun r => (c r).bind fun p => match p.1 with
  | .inl true => g p.2
  | .inl false => h p.2
  | .inr c => some (.ex c p.2)
theorem ds_if {c : TT} {t u : TS} {b : XB} {g h : SD} (hc : DTX K X c b) (h1 : DS K A X t g) (h2 : DS K A X u h) : DS K A X (tIfS c t u) (dIf b g h) := fun F P G H r s o a I p e E q => by
  obtain ⟨⟨k, r1⟩, e1, e⟩ := Option.bind_eq_some_iff.mp e
  cases k with
  | inl k =>
    refine hc F G H r s (.inl k) r1 I e1 _ fun G1 H1 x1 I1 => ?_
    cases k with
    | true => exact h1 F P G1 H1 r1 s o a I1 p e E (q.mono x1)
    | false => exact h2 F P G1 H1 r1 s o a I1 p e E (q.mono x1)
  | inr c =>
    cases e
    exact hc F G H r s (.inr c) r1 I e1 _ fun G1 H1 x1 I1 => q s G1 H1 x1 I1 p
def dRet (f : XD) : SD := fun r => (f r).bind fun p => match p.1 with
  | .inl w => some (.rt w p.2)
  | .inr c => some (.ex c p.2)
theorem ds_ret {te : TE} {f : XD} (h : DX K X te f) : DS K A X (tRet te) (dRet f) := fun F P G H r s o a I p e E q => by
  obtain ⟨⟨z, r1⟩, e1, e⟩ := Option.bind_eq_some_iff.mp e
  cases z with
  | inl w => cases e; exact h F G H r s (.inl w) r1 I e1 _ fun v G1 H1 x1 I1 l1 hw => q v s G1 H1 x1 I1 l1 hw p
  | inr c => cases e; exact h F G H r s (.inr c) r1 I e1 _ fun G1 H1 x1 I1 => q s G1 H1 x1 I1 p
def dDrop (f : XD) : SD := fun r => (f r).bind fun p => match p.1 with
  | .inl _ => some (.nx p.2)
  | .inr c => some (.ex c p.2)
theorem ds_drop {te : TE} {f : XD} (h : DX K X te f) : DS K A X (tDrop te) (dDrop f) := fun F P G H r s o a I p e E q => by
  obtain ⟨⟨z, r1⟩, e1, e⟩ := Option.bind_eq_some_iff.mp e
  cases z with
  | inl w => cases e; exact h F G H r s (.inl w) r1 I e1 _ fun v G1 H1 x1 I1 l1 hw => q s G1 H1 x1 (I1.drop l1) p
  | inr c => cases e; exact h F G H r s (.inr c) r1 I e1 _ fun G1 H1 x1 I1 => q s G1 H1 x1 I1 p
def dBrk : SD := fun r => some (.bk r)
def dCnt : SD := fun r => some (.ct r)
theorem ds_brk : DS K A X tBreak dBrk := fun F P G H r s o a I p e E q => by
  cases e
  exact q s G H (Ex.refl G) I p
theorem ds_cnt : DS K A X tCont dCnt := fun F P G H r s o a I p e E q => by
  cases e
  exact q s G H (Ex.refl G) I p
def dNever : SD := fun _ => none
theorem ds_never : DS K A X tNever dNever := fun F P G H r s o a I p e E q => by cases e
def dRaise (c : Addr) : SD := fun r => some (.ex c r)
theorem ds_raise {c : Addr} : DS K A X (fun _ σ H => X (.ref c) none σ H) (dRaise c) := fun F P G H r s o a I p e E q => by
  cases e
  exact q s G H (Ex.refl G) I p
/-! ### targets -/
abbrev GD := Env → T → Option Env
abbrev GDs := Env → List T → Option Env
def DG (K : PySem.W.Frag) (A : Nat → Bool) (g : TG) (h : GD) : Prop := ∀ F P G H r s t v tm us r', (∀ i, A i = true → P i = none) → SI K F G H (r ++ t :: tm) (s ++ some v :: us) → r.length = s.length → Par P s → h r t = some r' → ∀ Q : L2.St → Hp → Prop, (∀ s' G' H', Ex G G' → SI K F G' H' (r' ++ tm) (s' ++ us) → r'.length = s'.length → s'.length = s.length → Par P s' → Q s' H') → g v s H Q
def DGs (K : PySem.W.Frag) (A : Nat → Bool) (g : TGs) (h : GDs) : Prop := ∀ F P G H r s ts vs tm us r', (∀ i, A i = true → P i = none) → SI K F G H (r ++ (ts ++ tm)) (s ++ ((vs : List V).map some ++ us)) → r.length = s.length → ts.length = vs.length → Par P s → h r ts = some r' → ∀ Q : L2.St → Hp → Prop, (∀ s' G' H', Ex G G' → SI K F G' H' (r' ++ tm) (s' ++ us) → r'.length = s'.length → s'.length = s.length → Par P s' → Q s' H') → g vs s H Q
theorem Par.set {P : Nat → Option (Option V)} {s : L2.St} (p : Par P s) {i : Nat} {x : Option V} (h : P i = none) : Par P (s.set i x) := fun j v e => by
  have : i ≠ j := fun z => by subst z; rw [h] at e; cases e
  rw [List.getElem?_set_ne this]
  exact p j v e
theorem SI.into {F : Fx} {G H : Hp} {r : Env} {s : L2.St} {t : T} {y : Option V} {tm : List T} {us : List (Option V)} (I : SI K F G H (r ++ t :: tm) (s ++ y :: us)) (hl : r.length = s.length) (i : Nat) : SI K F G H (r.set i t ++ tm) (s.set i y ++ us) := by
  obtain ⟨f, hr, hf⟩ := I.own
  obtain ⟨g, h, h1, h2, h3, h4, h5⟩ := hr.split hl
  cases h2 with | @cons _ _ _ _ _ gt ht a1 a2 a3 a4 a5 =>
    by_cases c : i < r.length
    · obtain ⟨y0, g0, h0, b1, b2, b3, b4, b5, b6⟩ := h1.at (i := i) (List.getElem?_eq_getElem c)
      have k1 := b6 G H t y gt (Ex.refl G) (fun _ _ => rfl) a1 (fun b hb z => h5 b (b4 b z) (a3 b hb))
      refine I.same hf (a2.app k1 fun b hb z => hb.elim (fun q => a5 b q z) fun q => h5 b (b4 b q) (a4 b z)) fun b hb => ?_
      rcases hb with (hb | hb) | hb
      · exact h4 b (a3 b hb)
      · exact h3 b (b4 b hb)
      · exact h4 b (a4 b hb)
    · rw [List.set_eq_of_length_le (by omega), List.set_eq_of_length_le (by omega)]
      exact I.same hf (a2.app h1 fun b hb z => h5 b hb (a4 b z)) fun b hb => hb.elim (h3 b) fun z => h4 b (a4 b z)
def gdName (i : Nat) : GD := fun r t => some (r.set i t)
theorem dg_name {i : Nat} (hA : A i = true) : DG K A (gName i) (gdName i) := fun F P G H r s t v tm us r' a I hl p e Q q => by
  cases e
  exact q _ G H (Ex.refl G) (I.into hl i) (by rw [List.length_set, List.length_set]; exact hl) (by rw [List.length_set]) (p.set (a i hA))
def gdNil : GDs := fun r ts => if ts.isEmpty then some r else none
def gdCons (g : GD) (h : GDs) : GDs := fun r ts => match ts with
  | [] => none
  | t :: ts => (g r t).bind fun r1 => h r1 ts
theorem dgs_nil : DGs K A gNil gdNil := fun F P G H r s ts vs tm us r' a I hl lv p e Q q => by
  cases ts with
  | nil =>
    cases e
    cases vs with
    | nil => exact ⟨rfl, q s G H (Ex.refl G) (by simpa using I) hl rfl p⟩
    | cons _ _ => cases lv
  | cons _ _ => cases e
theorem dgs_cons {g : TG} {u : TGs} {h : GD} {h' : GDs} (h1 : DG K A g h) (h2 : DGs K A u h') : DGs K A (gCons g u) (gdCons h h') := fun F P G H r s ts vs tm us r' a I hl lv p e Q q => by
  cases ts with
  | nil => cases e
  | cons t ts =>
    cases vs with
    | nil => cases lv
    | cons v vs =>
      obtain ⟨r1, e1, e⟩ := Option.bind_eq_some_iff.mp (show (h r t).bind _ = some r' from e)
      refine ⟨_, _, rfl, ?_⟩
      exact h1 F P G H r s t v (ts ++ tm) (vs.map some ++ us) r1 a (by simpa using I) hl p e1 _ fun s1 G1 H1 x1 I1 l1 m1 p1 => h2 F P G1 H1 r1 s1 ts vs tm us r' a I1 l1 (Nat.succ.inj lv) p1 e Q fun s2 G2 H2 x2 I2 l2 m2 p2 => q s2 G2 H2 (x1.trans x2) I2 l2 (m2.trans m1) p2
def T.tupParts : T → Option (List T)
  | .tp l => some l
  | .fz (.tup l) => some (l.map .fz)
  | _ => none
def T.lstParts : T → Option (List T)
  | .ls l => some l
  | .fz (.lst l) => some (l.map .fz)
  | _ => none
theorem SI.parts {F : Fx} {G H : Hp} {r : Env} {x : List (Option V)} {t : T} {v : V} {tm : List T} {us : List (Option V)} {ps : List T} (I : SI K F G H (r ++ t :: tm) (x ++ some v :: us)) (hl : r.length = x.length) (e : t.tupParts = some ps) : ∃ a vs, v = .ref a ∧ SqT K H a vs ∧ ps.length = vs.length ∧ SI K F G H (r ++ (ps ++ tm)) (x ++ (vs.map some ++ us)) := by
  obtain ⟨f, hr, hf⟩ := I.own
  obtain ⟨g, h, h1, h2, h3, h4, h5⟩ := hr.split hl
  cases h2 with | @cons _ _ _ _ _ gt ht a1 a2 a3 a4 a5 =>
    have fin : ∀ (vs : List V) (gp : Fp), RtL K G H ps (vs.map some) gp → (∀ b, gp b → gt b) → SI K F G H (r ++ (ps ++ tm)) (x ++ (vs.map some ++ us)) := fun vs gp q w =>
      I.same hf ((a2.app q fun b hb z => a5 b (w b hb) z).app h1 fun b hb z => h5 b hb (z.elim (fun q => a3 b (w b q)) (a4 b))) fun b hb => hb.elim (h3 b) fun z => z.elim (fun q => h4 b (a3 b (w b q))) fun q => h4 b (a4 b q)
    cases t with
    | tp l =>
      cases e
      cases a1 with | tp c1 c2 c3 c4 => exact ⟨_, _, rfl, Or.inl (Or.inl c2), by have := c3.length; simpa using this, fin _ _ c3 fun b hb => (c4 b hb).1⟩
    | fz d => cases d with
      | tup l =>
        cases e
        cases a1 with | fz q => cases q with | tup c1 c2 => exact ⟨_, _, rfl, sub_t I.pl I.gh c1, by rw [List.length_map]; exact c2.length, fin _ _ (RtL.fzs c2) fun b hb => hb.elim⟩
      | _ => cases e
    | _ => cases e
theorem SI.partsL {F : Fx} {G H : Hp} {r : Env} {x : List (Option V)} {t : T} {v : V} {tm : List T} {us : List (Option V)} {ps : List T} (I : SI K F G H (r ++ t :: tm) (x ++ some v :: us)) (hl : r.length = x.length) (e : t.lstParts = some ps) : ∃ a vs, v = .ref a ∧ SqL K H a vs ∧ ps.length = vs.length ∧ SI K F G H (r ++ (ps ++ tm)) (x ++ (vs.map some ++ us)) := by
  obtain ⟨f, hr, hf⟩ := I.own
  obtain ⟨g, h, h1, h2, h3, h4, h5⟩ := hr.split hl
  cases h2 with | @cons _ _ _ _ _ gt ht a1 a2 a3 a4 a5 =>
    have fin : ∀ (vs : List V) (gp : Fp), RtL K G H ps (vs.map some) gp → (∀ b, gp b → gt b) → SI K F G H (r ++ (ps ++ tm)) (x ++ (vs.map some ++ us)) := fun vs gp q w =>
      I.same hf ((a2.app q fun b hb z => a5 b (w b hb) z).app h1 fun b hb z => h5 b hb (z.elim (fun q => a3 b (w b q)) (a4 b))) fun b hb => hb.elim (h3 b) fun z => z.elim (fun q => h4 b (a3 b (w b q))) fun q => h4 b (a4 b q)
    cases t with
    | ls l =>
      cases e
      cases a1 with | ls c1 c2 c3 c4 => exact ⟨_, _, rfl, Or.inl (Or.inl c2), by have := c3.length; simpa using this, fin _ _ c3 fun b hb => (c4 b hb).1⟩
    | fz d => cases d with
      | lst l =>
        cases e
        cases a1 with | fz q => cases q with | lst c1 c2 => exact ⟨_, _, rfl, Or.inl (Or.inl (sub_ex I.gh c1)), by rw [List.length_map]; exact c2.length, fin _ _ (RtL.fzs c2) fun b hb => hb.elim⟩
      | _ => cases e
    | _ => cases e
def gdTup (n : Nat) (h : GDs) : GD := fun r t => t.tupParts.bind fun ps => if ps.length = n then h r ps else none
def gdLst (n : Nat) (h : GDs) : GD := fun r t => t.lstParts.bind fun ps => if ps.length = n then h r ps else none
theorem dg_tup {n : Nat} {t : TGs} {h : GDs} (ht : DGs K A t h) : DG K A (gTup K n t) (gdTup n h) := fun F P G H r s t v tm us r' a I hl p e Q q => by
  obtain ⟨ps, e1, e⟩ := Option.bind_eq_some_iff.mp e
  split at e
  · rename_i c
    obtain ⟨b, vs, rfl, z1, z2, J⟩ := I.parts hl e1
    exact ⟨b, vs, rfl, z1, by omega, ht F P G H r s ps vs tm us r' a J hl z2 p e Q q⟩
  · cases e
theorem dg_lst {n : Nat} {t : TGs} {h : GDs} (ht : DGs K A t h) : DG K A (gLst K n t) (gdLst n h) := fun F P G H r s t v tm us r' a I hl p e Q q => by
  obtain ⟨ps, e1, e⟩ := Option.bind_eq_some_iff.mp e
  split at e
  · rename_i c
    obtain ⟨b, vs, rfl, z1, z2, J⟩ := I.partsL hl e1
    exact ⟨b, vs, rfl, z1, by omega, ht F P G H r s ps vs tm us r' a J hl z2 p e Q q⟩
  · cases e
/-- target = value -/
def dAsg (f : XD) (g : GD) : SD := fun r => (f r).bind fun p => match p.1 with
  | .inl w => (mv p.2 w).bind fun q => (g q.2 q.1).bind fun r2 => some (.nx r2)
  | .inr c => some (.ex c p.2)
theorem ds_asg {te : TE} {f : XD} {t : TG} {g : GD} (h : DX K X te f) (hg : DG K A t g) : DS K A X (tAsg te t) (dAsg f g) := fun F P G H r s o a I p e E q => by
  obtain ⟨⟨z, r1⟩, e1, e⟩ := Option.bind_eq_some_iff.mp e
  cases z with
  | inl w =>
    obtain ⟨⟨t1, r2⟩, e2, e⟩ := Option.bind_eq_some_iff.mp e
    obtain ⟨r3, e3, e⟩ := Option.bind_eq_some_iff.mp e
    cases e
    refine h F G H r s (.inl w) r1 I e1 _ fun v G1 H1 x1 I1 l1 hw => ?_
    obtain ⟨G2, x2, I2, l2⟩ := mv_ok (tm := []) (us := []) (by simpa only [List.nil_append] using I1) l1 hw e2
    exact hg F P G2 H1 r2 s t1 v [] [] r3 a I2 l2 p e3 _ fun s' G3 H3 x3 I3 l3 m3 p3 => q s' G3 H3 ((x1.trans x2).trans x3) (by simpa only [List.append_nil] using I3) p3
  | inr c => cases e; exact h F G H r s (.inr c) r1 I e1 _ fun G1 H1 x1 I1 => q s G1 H1 x1 I1 p

/-! ### loops -/
def WalkD (K : PySem.W.Frag) (J : It) (l : List D) (G0 : Hp) : Prop := ∀ F G H r x, Ex G0 G → SI K F G H r x → ∀ i : Nat,
  (∀ d, l[i]? = some d → J.go i H ∧ ∀ y H', J.yld i H y H' → ∃ G', Ex G G' ∧ SI K F G' H' r x ∧ Rp K G' d y) ∧ (l.length ≤ i → J.stop i H)
abbrev ID := Env → Option (List D × Env)
def DI (K : PySem.W.Frag) (wi : TI) (f : ID) : Prop := ∀ F G H r s tm us l r', SI K F G H (r ++ tm) (s ++ us) → r.length = s.length → f r = some (l, r') → ∀ R : It → Hp → Prop, (∀ J G' H', Ex G G' → SI K F G' H' (r' ++ tm) (s ++ us) → r'.length = s.length → WalkD K J l G' → R J H') → wi s H R
def loopD (h : GD) (body : SD) : List D → Env → Option O
  | [], r => some (.nx r)
  | d :: l, r => (h r (.fz d)).bind fun r1 => (body r1).bind fun o => match o with
    | .nx r2 => loopD h body l r2
    | .ct r2 => loopD h body l r2
    | .bk r2 => some (.nx r2)
    | .rt w r2 => some (.rt w r2)
    | .ex c r2 => some (.ex c r2)
def dFor (f : ID) (h : GD) (body : SD) : SD := fun r => (f r).bind fun p => loopD h body p.1 p.2
theorem ds_for {wi : TI} {g : TG} {tb : TS} {f : ID} {h : GD} {body : SD} (hi : DI K wi f) (hg : DG K A g h) (hb : DS K A X tb body) : DS K A X (tFor wi g tb) (dFor f h body) := fun F P G H r s o a I p e E q => by
  obtain ⟨⟨l, r1⟩, e1, e⟩ := Option.bind_eq_some_iff.mp e
  refine hi F G H r s [] [] l r1 (by simpa only [List.append_nil] using I) I.len e1 _ fun J G1 H1 x1 I1 l1 hJ => ?_
  refine ⟨fun i m s' H' => i ≤ l.length ∧ m = l.length - i ∧ ∃ G' r', Ex G1 G' ∧ SI K F G' H' r' s' ∧ Par P s' ∧ loopD h body (l.drop i) r' = some o, ⟨l.length, Nat.zero_le _, rfl, G1, r1, Ex.refl G1, by simpa only [List.append_nil] using I1, p, e⟩, ?_⟩
  rintro i m s' H' ⟨hi, rfl, G', r', x', I', p', e'⟩
  by_cases c : i < l.length
  · have hd : l[i]? = some l[i] := List.getElem?_eq_getElem c
    obtain ⟨go, yl⟩ := (hJ F G' H' r' s' x' I' i).1 _ hd
    rw [List.drop_eq_getElem_cons c] at e'
    obtain ⟨r2, e2, e3⟩ := Option.bind_eq_some_iff.mp (show (h r' (.fz l[i])).bind _ = some o from e')
    obtain ⟨o2, e4, e5⟩ := Option.bind_eq_some_iff.mp e3
    refine Or.inr ⟨go, fun s3 H3 => ∃ G3 r3, Ex G1 G3 ∧ SI K F G3 H3 r3 s3 ∧ Par P s3 ∧ loopD h body (l.drop (i + 1)) r3 = some o, fun s3 H3 ⟨G3, r3, x3, I3, p3, e6⟩ => ⟨l.length - (i + 1), by omega, c, rfl, G3, r3, x3, I3, p3, e6⟩, fun x H2 y => ?_⟩
    obtain ⟨G2, x2, I2, q2⟩ := yl x H2 y
    refine hg F P G2 H2 r' s' (.fz l[i]) x [] [] r2 a (by simpa using I2.fzs (l := [l[i]]) (vs := [x]) (.cons q2 .nil)) I2.len p' e2 _ fun s3 G3 H3 x3 I3 l3 m3 p3 => ?_
    have xx := (x'.trans x2).trans x3
    refine hb F P G3 H3 r2 s3 o2 a (by simpa only [List.append_nil] using I3) p3 e4 _ ?_
    cases o2 with
    | nx r4 => exact fun s4 G4 H4 x4 I4 p4 => ⟨G4, r4, xx.trans x4, I4, p4, e5⟩
    | ct r4 => exact fun s4 G4 H4 x4 I4 p4 => ⟨G4, r4, xx.trans x4, I4, p4, e5⟩
    | bk r4 => cases e5; exact fun s4 G4 H4 x4 I4 p4 => q s4 G4 H4 ((x1.trans xx).trans x4) I4 p4
    | rt w r4 => cases e5; exact fun v s4 G4 H4 x4 I4 l4 w4 p4 => q v s4 G4 H4 ((x1.trans xx).trans x4) I4 l4 w4 p4
    | ex w r4 => cases e5; exact fun s4 G4 H4 x4 I4 p4 => q s4 G4 H4 ((x1.trans xx).trans x4) I4 p4
  · have ei : i = l.length := by omega
    subst ei
    rw [List.drop_length] at e'
    cases e'
    exact Or.inl ⟨(hJ F G' H' r' s' x' I' l.length).2 (Nat.le_refl _), q s' G' H' (x1.trans x') I' p'⟩
def whileD (t : XB) (body : SD) : Nat → Env → Option O
  | 0, _ => none
  | n + 1, r => (t r).bind fun p => match p.1 with
    | .inl true => (body p.2).bind fun o => match o with
      | .nx r2 => whileD t body n r2
      | .ct r2 => whileD t body n r2
      | .bk r2 => some (.nx r2)
      | .rt w r2 => some (.rt w r2)
      | .ex c r2 => some (.ex c r2)
    | .inl false => some (.nx p.2)
    | .inr c => some (.ex c p.2)
def dWhile (n : Env → Nat) (t : XB) (body : SD) : SD := fun r => whileD t body (n r) r
theorem ds_while {n : Env → Nat} {c : TT} {tb : TS} {t : XB} {body : SD} (hc : DTX K X c t) (hb : DS K A X tb body) : DS K A X (tWhile c tb) (dWhile n t body) := fun F P G H r s o a I p e E q => by
  refine ⟨fun m s' H' => ∃ G' r', Ex G G' ∧ SI K F G' H' r' s' ∧ Par P s' ∧ whileD t body m r' = some o, ⟨n r, G, r, Ex.refl G, I, p, e⟩, ?_⟩
  rintro m s' H' ⟨G', r', x', I', p', e'⟩
  cases m with
  | zero => cases e'
  | succ m =>
    obtain ⟨⟨b, r1⟩, e1, e2⟩ := Option.bind_eq_some_iff.mp (show (t r').bind _ = some o from e')
    cases b with
    | inr c =>
      cases e2
      exact hc F G' H' r' s' (.inr c) r1 I' e1 _ fun G1 H1 x1 I1 => q s' G1 H1 (x'.trans x1) I1 p'
    | inl b =>
      refine hc F G' H' r' s' (.inl b) r1 I' e1 _ fun G1 H1 x1 I1 => ?_
      cases b with
      | false => cases e2; exact q s' G1 H1 (x'.trans x1) I1 p'
      | true =>
        obtain ⟨o2, e3, e4⟩ := Option.bind_eq_some_iff.mp (show (body r1).bind _ = some o from e2)
        refine ⟨fun s3 H3 => ∃ G3 r3, Ex G G3 ∧ SI K F G3 H3 r3 s3 ∧ Par P s3 ∧ whileD t body m r3 = some o, fun s3 H3 h3 => ⟨m, Nat.lt_succ_self m, h3⟩, ?_⟩
        have xx := x'.trans x1
        refine hb F P G1 H1 r1 s' o2 a I1 p' e3 _ ?_
        cases o2 with
        | nx r4 => exact fun s4 G4 H4 x4 I4 p4 => ⟨G4, r4, xx.trans x4, I4, p4, e4⟩
        | ct r4 => exact fun s4 G4 H4 x4 I4 p4 => ⟨G4, r4, xx.trans x4, I4, p4, e4⟩
        | bk r4 => cases e4; exact fun s4 G4 H4 x4 I4 p4 => q s4 G4 H4 (xx.trans x4) I4 p4
        | rt w r4 => cases e4; exact fun v s4 G4 H4 x4 I4 l4 w4 p4 => q v s4 G4 H4 (xx.trans x4) I4 l4 w4 p4
        | ex w r4 => cases e4; exact fun s4 G4 H4 x4 I4 p4 => q s4 G4 H4 (xx.trans x4) I4 p4
/-- over a list or a tuple -/
def dItems (f : FD) : ID := fun r => (f r).bind fun x => match x.1 with
  | .lst l => some (l, x.2)
  | .tup l => some (l, x.2)
  | _ => none
def dItemsL (f : FD) : ID := fun r => (f r).bind fun x => match x.1 with
  | .lst l => some (l, x.2)
  | _ => none
def dItemsT (f : FD) : ID := fun r => (f r).bind fun x => match x.1 with
  | .tup l => some (l, x.2)
  | _ => none
theorem walk_l {a : Addr} {l : List D} {xs : List V} {G0 : Hp} (pg : Plain G0) (h : SqL K G0 a xs) (q : RpL K G0 l xs) : WalkD K (Itl K a) l G0 := fun F G H r x xg I i => by
  have hH : SqL K H a xs := sub_l I.pl I.gh (ex_l xg h)
  refine ⟨fun d hd => ?_, fun hl => ⟨xs, hH, q.length ▸ hl⟩⟩
  obtain ⟨v, hv, hq⟩ := q.get hd
  refine ⟨⟨xs, v, hH, hv⟩, fun y H' ⟨e1, e2⟩ => ?_⟩
  subst e1
  have := e2 xs hH
  rw [hv] at this
  cases this
  exact ⟨G, Ex.refl G, I, hq.mono xg⟩
theorem walk_t {a : Addr} {l : List D} {xs : List V} {G0 : Hp} (pg : Plain G0) (h : SqT K G0 a xs) (q : RpL K G0 l xs) : WalkD K (Itt K a) l G0 := fun F G H r x xg I i => by
  have hH : SqT K H a xs := sub_t I.pl I.gh (ex_t xg h)
  refine ⟨fun d hd => ?_, fun hl => ⟨xs, hH, q.length ▸ hl⟩⟩
  obtain ⟨v, hv, hq⟩ := q.get hd
  refine ⟨⟨xs, v, hH, hv⟩, fun y H' ⟨e1, e2⟩ => ?_⟩
  subst e1
  have := e2 xs hH
  rw [hv] at this
  cases this
  exact ⟨G, Ex.refl G, I, hq.mono xg⟩
theorem di_list {te : TE} {f : FD} (h : DF K te f) : DI K (iList K te) (dItemsL f) := fun F G H r s tm us l r' I hl e R q => by
  obtain ⟨⟨d, r1⟩, e1, e⟩ := Option.bind_eq_some_iff.mp e
  cases d with
  | lst l' =>
    cases e
    refine h F G H r s tm us _ r1 I hl e1 _ fun v G1 H1 x1 I1 l1 q2 => ?_
    cases q2 with | lst h1 h2 => exact ⟨_, rfl, ⟨_, Or.inl (Or.inl (sub_ex I1.gh h1))⟩, q _ G1 H1 x1 I1 l1 (walk_l I1.pl (Or.inl (Or.inl h1)) h2)⟩
  | _ => cases e
theorem di_tup {te : TE} {f : FD} (h : DF K te f) : DI K (iTup K te) (dItemsT f) := fun F G H r s tm us l r' I hl e R q => by
  obtain ⟨⟨d, r1⟩, e1, e⟩ := Option.bind_eq_some_iff.mp e
  cases d with
  | tup l' =>
    cases e
    refine h F G H r s tm us _ r1 I hl e1 _ fun v G1 H1 x1 I1 l1 q2 => ?_
    cases q2 with | tup h1 h2 => exact ⟨_, rfl, ⟨_, sub_t I1.pl I1.gh h1⟩, q _ G1 H1 x1 I1 l1 (walk_t I1.pl h1 h2)⟩
  | _ => cases e
def upto (lo : Int) (n : Nat) : List D := (List.range n).map fun (i : Nat) => .int (lo + (i : Int))
theorem walk_r {lo : Int} {n : Nat} {G0 : Hp} : WalkD K (Itr lo n) (upto lo n) G0 := fun F G H r x xg I i => by
  unfold upto
  refine ⟨fun d hd => ?_, fun hl => by rw [List.length_map, List.length_range] at hl; exact hl⟩
  rw [List.getElem?_map] at hd
  by_cases c : i < n
  · rw [List.getElem?_range c] at hd
    cases hd
    refine ⟨c, fun y H' ⟨e1, e2⟩ => ?_⟩
    subst e1 e2
    exact ⟨G, Ex.refl G, I, .int _⟩
  · rw [List.getElem?_eq_none (by rw [List.length_range]; omega)] at hd
    cases hd
def dRange1 (f : FDs) : ID := fun r => (f r).bind fun p => match p.1 with
  | [.int j] => if -(2 ^ 62) ≤ j ∧ j < 2 ^ 62 then some (upto 0 j.toNat, p.2) else none
  | _ => none
def dRange2 (f : FDs) : ID := fun r => (f r).bind fun p => match p.1 with
  | [.int i, .int j] => if -(2 ^ 62) ≤ i ∧ i < 2 ^ 62 ∧ -(2 ^ 62) ≤ j ∧ j < 2 ^ 62 then some (upto i (j - i).toNat, p.2) else none
  | _ => none
theorem di_range1 {ta : TA} {f : FDs} (h : DFs K ta f) : DI K (iRng1 ta) (dRange1 f) := fun F G H r s tm us l r' I hl e R q => by
  obtain ⟨⟨ds, r1⟩, e1, e⟩ := Option.bind_eq_some_iff.mp e
  dsimp only at e
  split at e
  · rename_i j
    split at e
    · rename_i c
      cases e
      refine h F G H r s tm us _ _ I hl e1 _ fun vs G1 H1 x1 I1 l1 hv => ?_
      cases hv with | cons h1 h2 =>
        cases h2
        cases h1
        exact ⟨j, rfl, c.1, c.2, q _ G1 H1 x1 I1 l1 walk_r⟩
    · cases e
  · cases e
theorem di_range2 {ta : TA} {f : FDs} (h : DFs K ta f) : DI K (iRng2 ta) (dRange2 f) := fun F G H r s tm us l r' I hl e R q => by
  obtain ⟨⟨ds, r1⟩, e1, e⟩ := Option.bind_eq_some_iff.mp e
  dsimp only at e
  split at e
  · rename_i i j
    split at e
    · rename_i c
      cases e
      refine h F G H r s tm us _ _ I hl e1 _ fun vs G1 H1 x1 I1 l1 hv => ?_
      cases hv with | cons h1 h2 => cases h2 with | cons h2 h3 =>
        cases h3
        cases h1
        cases h2
        exact ⟨i, j, rfl, c, q _ G1 H1 x1 I1 l1 walk_r⟩
    · cases e
  · cases e
end
end Q

set_option Elab.async false
set_option linter.all false
set_option maxRecDepth 100000
set_option maxHeartbeats 2000000
namespace Q
open PySem PySem.Spec PyProof.Rows L2
variable [TbS]
/-! ### defs -/
inductive Res where
  | ret (t : T) | exc (c : Addr)
abbrev FnT := List T → Option (Res × List T)
structure Entry (K : PySem.W.Frag) (G H : Hp) (ps : List T) (vs : List V) (f : Fp) : Prop where
  rt : RtL K G H ps (vs.map some) f
  fo : ∀ b, f b → G b = none ∧ H b ≠ none ∧ ¬ TbS.tb b
  gh : Sub G H
  pl : Plain G
  tab : ∀ a, TbS.tb a → GxR.TabG H a
  gtb : ∀ a, TbS.tb a → G a = none
structure End (K : PySem.W.Frag) (G H : Hp) (f : Fp) (ts : List T) (xs : List (Option V)) (G' H' : Hp) : Prop where
  gg : Ex G G'
  gh : Sub G' H'
  pl : Plain G'
  keep : ∀ a o, H a = some o → ¬ f a → ¬ TbS.tb a → H' a = some o
  tab : ∀ a, TbS.tb a → GxR.TabG H' a
  lv : ∀ a, H a ≠ none → H' a ≠ none
  gn : ∀ a o, G' a = some o → G a = some o ∨ f a ∨ H a = none
  rt : ∃ f' : Fp, RtL K G' H' ts xs f' ∧ ∀ b, f' b → G' b = none ∧ H' b ≠ none ∧ (f b ∨ H b = none)
def ResOk (K : PySem.W.Frag) (G H : Hp) (f : Fp) (vs : List V) (ps' : List T) (Q : VK) (E : XK) : Res → Prop
  | .ret t => ∀ v G' H', End K G H f (ps' ++ [t]) (vs.map some ++ [some v]) G' H' → Q v H'
  | .exc c => ∀ G' H', End K G H f ps' (vs.map some) G' H' → E (.ref c) none H'
def spD (K : PySem.W.Frag) (n : Nat) (fn : FnT) : Sp := fun vs H Q E => vs.length = n ∧ ∃ G f ps z ps', fn ps = some (z, ps') ∧ Entry K G H ps vs f ∧ ResOk K G H f vs ps' Q E z
def keepP : T → T
  | .fz d => .fz d
  | _ => .un
def outP : List Bool → List T → Env → List T
  | b :: fx, p :: ps, t :: r => (if b = true then t else keepP p) :: outP fx ps r
  | _, _, _ => []
def retW (n : Nat) (r : Env) : W → Option (T × Env)
  | .sh d => some (.fz d, r)
  | .nw t => some (t, r)
  | .pl i => if i < n then (share r (.pl i)).bind fun p => some (.fz p.1, p.2) else match r[i]? with
    | some .un => none
    | none => none
    | some t => some (t, r.set i .un)
def fnD (n N : Nat) (fx : List Bool) (body : SD) : FnT := fun ps => if ps.length = n then (body (ps ++ List.replicate (N - n) .un)).bind fun o => match o with
    | .nx r => if n ≤ r.length then some (.ret (.fz .non), outP fx ps r) else none
    | .rt w r => (retW n r w).bind fun p => if n ≤ p.2.length then some (.ret p.1, outP fx ps p.2) else none
    | .ex c r => if n ≤ r.length then some (.exc c, outP fx ps r) else none
    | _ => none
  else none
section
variable {K : PySem.W.Frag}
theorem SI.moved {F : Fx} {G H : Hp} {r : Env} {s : L2.St} {tm : List T} {us : List (Option V)} {i : Nat} {t : T} {v : V} (I : SI K F G H (r ++ tm) (s ++ us)) (hl : r.length = s.length) (n : r[i]? = some t) (hv : s[i]? = some (some v)) : SI K F G H (r.set i .un ++ (tm ++ [t])) (s ++ (us ++ [some v])) := by
  have hi : i < r.length := (List.getElem?_eq_some_iff.mp n).1
  obtain ⟨f, hr, hf⟩ := I.own
  obtain ⟨y, g, h, b1, b2, b3, b4, b5, b6⟩ := hr.at (i := i) (by rw [List.getElem?_append_left hi]; exact n)
  have k1 := b6 G H .un y (fun _ => False) (Ex.refl G) (fun _ _ => rfl) .un (fun b hb => hb.elim)
  rw [set_same b1, List.set_append_left _ _ hi] at k1
  rw [List.getElem?_append_left (by omega), hv] at b1
  cases b1
  have k2 : RtL K G H [t] [some v] g := .cons b2 (h := fun _ => False) .nil (fun b hb => hb) (fun b hb => hb.elim) (fun b _ z => z)
  have k3 := k2.app k1 (fun b hb z => hb.elim (fun q => q) fun q => b5 b z q)
  simp only [← List.append_assoc]
  exact I.same hf k3 fun b hb => hb.elim (fun z => z.elim (fun q => q.elim) (b4 b)) (b3 b)
theorem keepP_rt {G G' H H' : Hp} {t : T} {x : Option V} {f g : Fp} (h : Rt K G H t x f) (e : Ex G G') : Rt K G' H' (keepP t) x g := by
  cases h with
  | fz q => exact .fz (q.mono e)
  | _ => exact .un
theorem outP_ok {G G' H H' : Hp} (e : Ex G G') : ∀ {fx : List Bool} {ps : List T} {vs : List V} {f f' : Fp} {r : Env} {s : L2.St}, fx.length = ps.length → ps.length ≤ r.length → RtL K G H ps (vs.map some) f → RtL K G' H' r s f' → (∀ (j : Nat) (v : V), fx[j]? = some true → vs[j]? = some v → s[j]? = some (some v)) → RtL K G' H' (outP fx ps r) (vs.map some) f' := by
  intro fx
  induction fx with
  | nil =>
    intro ps vs f f' r s l1 l2 h1 h2 hp
    cases ps with
    | nil => cases vs with
      | nil => exact .nil
      | cons _ _ => cases h1
    | cons _ _ => cases l1
  | cons b fx ih =>
    intro ps vs f f' r s l1 l2 h1 h2 hp
    cases ps with
    | nil => cases l1
    | cons p ps =>
      cases r with
      | nil => cases l2
      | cons t r =>
        cases vs with
        | nil => cases h1
        | cons v vs =>
          cases h1 with | cons a1 a2 a3 a4 a5 =>
            cases h2 with | @cons _ x _ xs _ g h b1 b2 b3 b4 b5 =>
              have rest := ih (Nat.succ.inj l1) (Nat.le_of_succ_le_succ l2) a2 b2 fun j v e1 e2 => by simpa using hp (j + 1) v (by simpa using e1) (by simpa using e2)
              refine .cons (g := g) (h := h) ?_ rest b3 b4 b5
              cases b with
              | true =>
                have := hp 0 v rfl rfl
                simp at this
                subst this
                exact b1
              | false => exact keepP_rt a1 e
theorem start_get {N : List Str} {vs : List V} {i : Nat} {v : V} (e : vs[i]? = some v) : (L2.start N vs)[i]? = some (some v) := by
  unfold L2.start
  have hi : i < vs.length := (List.getElem?_eq_some_iff.mp e).1
  rw [List.getElem?_append_left (by rw [List.length_map]; exact hi), List.getElem?_map, e]
  rfl
theorem RtL.uns {G H : Hp} : ∀ {n : Nat} {x : List (Option V)}, x.length = n → RtL K G H (List.replicate n .un) x (fun _ => False) := by
  intro n
  induction n with
  | zero => intro x h; cases x with
    | nil => exact .nil
    | cons _ _ => cases h
  | succ n ih => intro x h; cases x with
    | nil => cases h
    | cons x xs => exact .cons (g := fun _ => False) .un (ih (Nat.succ.inj h)) (fun b hb => hb) (fun b hb => hb) (fun b hb => hb.elim)
theorem entry_si {G H : Hp} {ps : List T} {vs : List V} {N : List Str} {f : Fp} (E : Entry K G H ps vs f) (hN : vs.length ≤ N.length) : SI K ⟨H, G, f⟩ G H (ps ++ List.replicate (N.length - ps.length) .un) (L2.start N vs) := by
  have hl := E.rt.length
  rw [List.length_map] at hl
  refine ⟨⟨_, (RtL.uns (K := K) (G := G) (H := H) (n := N.length - ps.length) (x := List.replicate (N.length - vs.length) none) (by rw [List.length_replicate, hl])).app E.rt (fun b _ z => z), fun b hb => ?_⟩, fun a o e _ _ => e, E.tab, E.gtb, fun a c => (E.fo a c).2.1, Ex.refl G, E.gh, E.pl, fun a o e => Or.inl e⟩
  rcases hb with z | z
  · exact ⟨(E.fo b z).1, (E.fo b z).2.1, Or.inr z, (E.fo b z).2.2⟩
  · exact z.elim
theorem si_end {G H G' H' : Hp} {f : Fp} {ts : List T} {xs : List (Option V)} {r : Env} {x : List (Option V)} (I : SI K ⟨H, G, f⟩ G' H' r x) (lv : ∀ a, H a ≠ none → H' a ≠ none) {f' g : Fp} (hr : RtL K G' H' r x g) (hg : Own ⟨H, G, f⟩ G' H' g) (ht : RtL K G' H' ts xs f') (w : ∀ b, f' b → g b) : End K G H f ts xs G' H' := by
  refine ⟨I.g0, I.gh, I.pl, fun a o e c t => I.keep a o e c t, I.tab, lv, fun a o e => ?_, f', ht, fun b hb => ?_⟩
  · rcases I.gn a o e with q | q | q
    · exact Or.inl q
    · exact Or.inr (Or.inr q)
    · exact Or.inr (Or.inl q)
  · obtain ⟨z1, z2, z3, _⟩ := hg b (w b hb)
    exact ⟨z1, z2, z3.elim Or.inr Or.inl⟩
theorem SI.lv {F : Fx} {G H : Hp} {r : Env} {x : List (Option V)} (I : SI K F G H r x) : ∀ a, F.B a ≠ none → H a ≠ none := fun a h z => by
  exact h (I.Bnone z)
theorem fnD_run {g : SD} {t : TS} {n : Nat} {N : List Str} {fx : List Bool} {G H : Hp} {ps ps' : List T} {vs : List V} {z : Res} {Q : VK} {E : XK} {f : Fp} (hd : DS K (fun i => !(fx[i]? == some true)) (fun c d _ H => E c d H) t g) (hN : n ≤ N.length) (hfx : fx.length = n) (hv : vs.length = n) (e : fnD n N.length fx g ps = some (z, ps')) (En : Entry K G H ps vs f) (q : ResOk K G H f vs ps' Q E z) :
    t { nx := fun _ H' => Q .non H', rt := Q } (L2.start N vs) H := by
  unfold fnD at e
  split at e
  · rename_i hl
    obtain ⟨o, e1, e⟩ := Option.bind_eq_some_iff.mp e
    rw [← hl] at e1
    have out : ∀ {G' H' : Hp} {r : Env} {s' : L2.St} {f' : Fp}, Ex G G' → RtL K G' H' r s' f' → n ≤ r.length → Par (fun i => if fx[i]? = some true then (vs[i]?).map some else none) s' → RtL K G' H' (outP fx ps r) (vs.map some) f' := fun {G' H' r s' f'} xg hr hls p =>
      outP_ok xg (by omega) (by omega) En.rt hr fun j v z1 z2 => p j (some v) (by dsimp only; rw [if_pos z1, z2]; rfl)
    have hA : ∀ i : Nat, (!(fx[i]? == some true)) = true → (if fx[i]? = some true then (vs[i]?).map some else none) = none := fun i h => by
      rw [if_neg]
      intro z
      rw [z] at h
      exact absurd h (by decide)
    have P0 : Par (fun i => if fx[i]? = some true then (vs[i]?).map some else none) (L2.start N vs) := fun i v h => by
      dsimp only at h
      split at h
      · obtain ⟨u, z1, z2⟩ := Option.map_eq_some_iff.mp h
        subst z2
        exact start_get z1
      · cases h
    refine hd ⟨H, G, f⟩ _ G H _ _ o hA (entry_si En (by omega)) P0 e1 _ ?_
    cases o with
    | nx r =>
      dsimp only at e
      split at e
      · rename_i c
        cases e
        intro s' G' H' xg I p
        obtain ⟨h, hr, ho⟩ := I.own
        have k1 := out xg hr c p
        have k2 : RtL K G' H' [.fz .non] [some .non] (fun _ => False) := RtL.fzs (l := [.non]) (vs := [.non]) (.cons .non .nil)
        exact q _ G' H' (si_end I I.lv hr ho (k2.app k1 fun b _ z => z) fun b hb => hb.elim (fun z => z) fun z => z.elim)
      · cases e
    | ex c r =>
      dsimp only at e
      split at e
      · rename_i c
        cases e
        intro s' G' H' xg I p
        obtain ⟨h, hr, ho⟩ := I.own
        exact q G' H' (si_end I I.lv hr ho (out xg hr c p) fun b hb => hb)
      · cases e
    | rt w r =>
      obtain ⟨⟨t1, r1⟩, e2, e⟩ := Option.bind_eq_some_iff.mp e
      dsimp only at e
      split at e
      · rename_i c
        cases e
        intro v s' G' H' xg I hl2 hw p
        have fin : ∀ G2, Ex G' G2 → SI K ⟨H, G, f⟩ G2 H' (r1 ++ [t1]) (s' ++ [some v]) → r1.length = s'.length → Q v H' := fun G2 x2 J l2 => by
          obtain ⟨h, hr, ho⟩ := J.own
          obtain ⟨g1, g2, k1, k2, k3, k4, k5⟩ := hr.split l2
          exact q v G2 H' (si_end J J.lv hr ho (k2.app (out (xg.trans x2) k1 c p) k5) fun b hb => hb.elim (k3 b) (k4 b))
        cases w with
        | sh d => cases e2; exact fin G' (Ex.refl G') (by simpa using fz_in (tm := []) (us := []) (by simpa only [W.tm, W.vl, List.append_nil] using I) hw) hl2
        | nw t => cases e2; exact fin G' (Ex.refl G') (by simpa only [W.tm, W.vl] using I) hl2
        | pl i =>
          unfold retW at e2
          dsimp only at e2
          split at e2
          · obtain ⟨⟨d, r2⟩, e3, e2⟩ := Option.bind_eq_some_iff.mp e2
            cases e2
            obtain ⟨G2, x2, I2, l2, q2⟩ := share_ok (tm := []) (us := []) (v := v) (by simpa only [W.tm, W.vl, List.append_nil] using I) hl2 hw e3
            exact fin G2 x2 (by simpa using fz_in I2 q2) l2
          · split at e2
            · cases e2
            · cases e2
            · rename_i t hu hr
              cases e2
              exact fin G' (Ex.refl G') (by simpa using SI.moved (tm := []) (us := []) (by simpa only [W.tm, W.vl, List.append_nil] using I) hl2 hr hw) (by rw [List.length_set]; exact hl2)
      · cases e
    | bk r => cases e
    | ct r => cases e
  · cases e
/-! ### calls -/
abbrev AD := Env → Option (List W × Env)
def tmL : List W → List T
  | [] => []
  | w :: ws => w.tm ++ tmL ws
def vlL : List W → List V → List (Option V)
  | w :: ws, v :: vs => w.vl v ++ vlL ws vs
  | _, _ => []
def WVs (K : PySem.W.Frag) (G : Hp) (s : L2.St) : List W → List V → Prop
  | [], [] => True
  | w :: ws, v :: vs => WV K G s w v ∧ WVs K G s ws vs
  | _, _ => False
def DA (K : PySem.W.Frag) (ta : TA) (f : AD) : Prop := ∀ F G H r s tm us ws r', SI K F G H (r ++ tm) (s ++ us) → r.length = s.length → f r = some (ws, r') → ∀ Q : List V → Hp → Prop, (∀ vs G' H', Ex G G' → SI K F G' H' (r' ++ (tm ++ tmL ws)) (s ++ (us ++ vlL ws vs)) → r'.length = s.length → WVs K G' s ws vs → Q vs H') → ta s H Q
theorem WV.mono {G G' : Hp} {s : L2.St} {w : W} {v : V} (h : WV K G s w v) (x : Ex G G') : WV K G' s w v := by
  cases w with
  | sh d => exact Rp.mono (show Rp K G d v from h) x
  | nw t => trivial
  | pl i => exact h
def daNil : AD := fun r => some ([], r)
def daCons (f : ED) (g : AD) : AD := fun r => (f r).bind fun p => (g p.2).bind fun q => some (p.1 :: q.1, q.2)
theorem da_nil : DA K tNil daNil := fun F G H r s tm us ws r' I hl e Q q => by
  cases e
  exact q [] G H (Ex.refl G) (by simpa only [tmL, vlL, List.append_nil] using I) hl trivial
theorem da_cons {te : TE} {ta : TA} {f : ED} {g : AD} (h1 : DE K te f) (h2 : DA K ta g) : DA K (tCons te ta) (daCons f g) := fun F G H r s tm us ws r' I hl e Q q => by
  obtain ⟨⟨w, r1⟩, e1, e⟩ := Option.bind_eq_some_iff.mp e
  obtain ⟨⟨ws', r2⟩, e2, e⟩ := Option.bind_eq_some_iff.mp e
  cases e
  refine h1 F G H r s tm us w r1 I hl e1 _ fun v G1 H1 x1 I1 l1 hw => h2 F G1 H1 r1 s (tm ++ w.tm) (us ++ w.vl v) ws' r2 I1 l1 e2 _ fun vs G2 H2 x2 I2 l2 hs => q (v :: vs) G2 H2 (x1.trans x2) ?_ l2 ⟨hw.mono x2, hs⟩
  simpa only [tmL, vlL, List.append_assoc] using I2
def pars (r : Env) : List W → Option (List T × Env)
  | [] => some ([], r)
  | .sh d :: ws => (pars r ws).bind fun p => some (.fz d :: p.1, p.2)
  | .nw t :: ws => (pars r ws).bind fun p => some (t :: p.1, p.2)
  | .pl i :: ws => match r[i]? with
    | some (.fz d) => (pars r ws).bind fun p => some (.fz d :: p.1, p.2)
    | some .un => none
    | none => none
    | some t => (pars (r.set i .un) ws).bind fun p => some (t :: p.1, p.2)
theorem pars_ok {G H : Hp} {s : L2.St} {tm : List T} {us : List (Option V)} : ∀ {ws : List W} {vs : List V} {r r' : Env} {ps : List T} {fa fb : Fp}, r.length = s.length → RtL K G H (r ++ tm) (s ++ us) fa → RtL K G H (tmL ws) (vlL ws vs) fb → (∀ b, fa b → ¬ fb b) → WVs K G s ws vs → pars r ws = some (ps, r') →
    ∃ f1 f2 : Fp, RtL K G H (r' ++ tm) (s ++ us) f1 ∧ RtL K G H ps (vs.map some) f2 ∧ (∀ b, f1 b → fa b) ∧ (∀ b, f2 b → fa b ∨ fb b) ∧ (∀ b, f1 b → ¬ f2 b) ∧ r'.length = s.length := by
  intro ws
  induction ws with
  | nil =>
    intro vs r r' ps fa fb hl h1 h2 d hw e
    cases vs with
    | cons _ _ => exact hw.elim
    | nil =>
      cases e
      exact ⟨fa, fun _ => False, h1, .nil, fun b hb => hb, fun b hb => hb.elim, fun b _ z => z, hl⟩
  | cons w ws ih =>
    intro vs r r' ps fa fb hl h1 h2 d hw e
    cases vs with
    | nil => exact hw.elim
    | cons v vs =>
      obtain ⟨hw1, hw⟩ := hw
      cases w with
      | sh dd =>
        obtain ⟨⟨ps0, r0⟩, e1, e⟩ := Option.bind_eq_some_iff.mp (show (pars r ws).bind _ = some (ps, r') from e)
        cases e
        obtain ⟨f1, f2, k1, k2, k3, k4, k5, k6⟩ := ih hl h1 (by simpa only [tmL, vlL, W.tm, W.vl, List.nil_append] using h2) d hw e1
        exact ⟨f1, f2, k1, .cons (g := fun _ => False) (.fz hw1) k2 (fun b hb => hb.elim) (fun b hb => hb) (fun b hb => hb.elim), k3, k4, k5, k6⟩
      | nw t =>
        obtain ⟨⟨ps0, r0⟩, e1, e⟩ := Option.bind_eq_some_iff.mp (show (pars r ws).bind _ = some (ps, r') from e)
        cases e
        cases h2 with | @cons _ _ _ _ _ g h a1 a2 a3 a4 a5 =>
          obtain ⟨f1, f2, k1, k2, k3, k4, k5, k6⟩ := ih hl h1 a2 (fun b hb z => d b hb (a4 b z)) hw e1
          exact ⟨f1, fun b => g b ∨ f2 b, k1, .cons a1 k2 (fun b hb => Or.inl hb) (fun b hb => Or.inr hb) (fun b hb z => (k4 b z).elim (fun q => d b q (a3 b hb)) (a5 b hb)), k3, fun b hb => hb.elim (fun z => Or.inr (a3 b z)) fun z => (k4 b z).elim Or.inl fun q => Or.inr (a4 b q), fun b hb z => z.elim (fun q => d b (k3 b hb) (a3 b q)) (k5 b hb), k6⟩
      | pl i =>
        have h2' : RtL K G H (tmL ws) (vlL ws vs) fb := by simpa only [tmL, vlL, W.tm, W.vl, List.nil_append] using h2
        unfold pars at e
        split at e
        · rename_i dd hr
          obtain ⟨⟨ps0, r0⟩, e1, e⟩ := Option.bind_eq_some_iff.mp e
          cases e
          have hi : i < r.length := (List.getElem?_eq_some_iff.mp hr).1
          obtain ⟨y, g, h, b1, b2, _⟩ := h1.at (i := i) (by rw [List.getElem?_append_left hi]; exact hr)
          rw [List.getElem?_append_left (by omega), show s[i]? = some (some v) from hw1] at b1
          cases b1
          obtain ⟨f1, f2, k1, k2, k3, k4, k5, k6⟩ := ih hl h1 h2' d hw e1
          cases b2 with | fz q => exact ⟨f1, f2, k1, .cons (g := fun _ => False) (.fz q) k2 (fun b hb => hb.elim) (fun b hb => hb) (fun b hb => hb.elim), k3, k4, k5, k6⟩
        · cases e
        · cases e
        · rename_i t n1 n2 hr
          obtain ⟨⟨ps0, r0⟩, e1, e⟩ := Option.bind_eq_some_iff.mp e
          cases e
          have hi : i < r.length := (List.getElem?_eq_some_iff.mp hr).1
          obtain ⟨y, g, h, b1, b2, b3, b4, b5, b6⟩ := h1.at (i := i) (by rw [List.getElem?_append_left hi]; exact hr)
          have q1 := b6 G H .un y (fun _ => False) (Ex.refl G) (fun _ _ => rfl) .un (fun b hb => hb.elim)
          rw [set_same b1, List.set_append_left _ _ hi] at q1
          rw [List.getElem?_append_left (by omega), show s[i]? = some (some v) from hw1] at b1
          cases b1
          obtain ⟨f1, f2, k1, k2, k3, k4, k5, k6⟩ := ih (by rw [List.length_set]; exact hl) (q1.weak (f' := h) fun b hb => hb.elim (fun z => z.elim) fun z => z) h2' (fun b hb z => d b (b4 b hb) z) hw e1
          exact ⟨f1, fun b => g b ∨ f2 b, k1, .cons b2 k2 (fun b hb => Or.inl hb) (fun b hb => Or.inr hb) (fun b hb z => (k4 b z).elim (b5 b hb) fun q => d b (b3 b hb) q), fun b hb => b4 b (k3 b hb), fun b hb => hb.elim (fun z => Or.inl (b3 b z)) fun z => (k4 b z).elim (fun q => Or.inl (b4 b q)) Or.inr, fun b hb z => z.elim (fun q => b5 b q (k3 b hb)) (k5 b hb), k6⟩
def putBack (r : Env) (i : Nat) (p : T) : Env := match r[i]? with
  | some .un => r.set i p
  | _ => r
def back : Env → List W → List T → Env
  | r, .pl i :: ws, p :: ps => back (putBack r i p) ws ps
  | r, _ :: ws, _ :: ps => back r ws ps
  | r, _, _ => r
theorem back_ok {G H : Hp} {s : L2.St} {tm : List T} {us : List (Option V)} : ∀ {ws : List W} {vs : List V} {r : Env} {ps : List T} {fa fb : Fp}, r.length = s.length → RtL K G H (r ++ tm) (s ++ us) fa → RtL K G H ps (vs.map some) fb → (∀ b, fa b → ¬ fb b) → WVs K G s ws vs →
    ∃ f1 : Fp, RtL K G H (back r ws ps ++ tm) (s ++ us) f1 ∧ (∀ b, f1 b → fa b ∨ fb b) ∧ (back r ws ps).length = s.length := by
  intro ws
  induction ws with
  | nil =>
    intro vs r ps fa fb hl h1 h2 d hw
    have e : back r [] ps = r := by cases ps <;> rfl
    rw [e]
    exact ⟨fa, h1, fun b hb => Or.inl hb, hl⟩
  | cons w ws ih =>
    intro vs r ps fa fb hl h1 h2 d hw
    cases vs with
    | nil => exact hw.elim
    | cons v vs =>
      obtain ⟨hw1, hw⟩ := hw
      cases ps with
      | nil => cases h2
      | cons p ps =>
        cases h2 with | @cons _ _ _ _ _ g h a1 a2 a3 a4 a5 =>
          have go : ∃ f1 : Fp, RtL K G H (back r ws ps ++ tm) (s ++ us) f1 ∧ (∀ b, f1 b → fa b ∨ fb b) ∧ (back r ws ps).length = s.length := by
            obtain ⟨f1, k1, k2, k3⟩ := ih hl h1 a2 (fun b hb z => d b hb (a4 b z)) hw
            exact ⟨f1, k1, fun b hb => (k2 b hb).elim Or.inl fun z => Or.inr (a4 b z), k3⟩
          cases w with
          | sh dd => exact go
          | nw t => exact go
          | pl i =>
            show ∃ f1 : Fp, RtL K G H (back (putBack r i p) ws ps ++ tm) (s ++ us) f1 ∧ (∀ b, f1 b → fa b ∨ fb b) ∧ (back (putBack r i p) ws ps).length = s.length
            unfold putBack
            split
            · rename_i hr
              have hi : i < r.length := (List.getElem?_eq_some_iff.mp hr).1
              obtain ⟨y, g0, h0, b1, b2, b3, b4, b5, b6⟩ := h1.at (i := i) (by rw [List.getElem?_append_left hi]; exact hr)
              rw [List.getElem?_append_left (by omega), show s[i]? = some (some v) from hw1] at b1
              cases b1
              have q1 := b6 G H p (some v) g (Ex.refl G) (fun _ _ => rfl) a1 (fun b hb z => d b (b4 b z) (a3 b hb))
              rw [List.set_append_left _ _ hi, set_same (show (s ++ us)[i]? = some (some v) by rw [List.getElem?_append_left (by omega)]; exact hw1)] at q1
              obtain ⟨f1, k1, k2, k3⟩ := ih (by rw [List.length_set]; exact hl) q1 a2 (fun b hb z => hb.elim (fun q => a5 b q z) fun q => d b (b4 b q) (a4 b z)) hw
              exact ⟨f1, k1, fun b hb => (k2 b hb).elim (fun z => z.elim (fun q => Or.inr (a3 b q)) fun q => Or.inl (b4 b q)) fun z => Or.inr (a4 b z), k3⟩
            · exact go
def resW : T → W
  | .fz d => .sh d
  | t => .nw t
theorem WVs.mono {G G' : Hp} {s : L2.St} (x : Ex G G') : ∀ {ws : List W} {vs : List V}, WVs K G s ws vs → WVs K G' s ws vs
  | [], [], _ => trivial
  | [], _ :: _, h => h.elim
  | _ :: _, [], h => h.elim
  | _ :: _, _ :: _, ⟨h1, h2⟩ => ⟨h1.mono x, h2.mono x⟩
theorem WVs.len {G : Hp} {s : L2.St} : ∀ {ws : List W} {vs : List V}, WVs K G s ws vs → ws.length = vs.length
  | [], [], _ => rfl
  | [], _ :: _, h => h.elim
  | _ :: _, [], h => h.elim
  | _ :: _, _ :: _, ⟨_, h2⟩ => congrArg Nat.succ h2.len
theorem vlL_len : ∀ {ws : List W} {vs : List V}, ws.length = vs.length → (tmL ws).length = (vlL ws vs).length
  | [], [], _ => rfl
  | w :: ws, v :: vs, h => by
    have := vlL_len (ws := ws) (vs := vs) (Nat.succ.inj h)
    cases w <;> simp [tmL, vlL, W.tm, W.vl, this]
theorem call_ok {F : Fx} {G H : Hp} {r r2 : Env} {s : L2.St} {tm : List T} {us : List (Option V)} {ws : List W} {vs : List V} {ps : List T} (I : SI K F G H (r ++ (tm ++ tmL ws)) (s ++ (us ++ vlL ws vs))) (hl : r.length = s.length) (ht : tm.length = us.length) (hw : WVs K G s ws vs) (e : pars r ws = some (ps, r2)) :
    ∃ f, Entry K G H ps vs f ∧
      (∀ ps' G' H', End K G H f ps' (vs.map some) G' H' → SI K F G' H' (back r2 ws ps' ++ tm) (s ++ us) ∧ (back r2 ws ps').length = s.length) ∧
      ∀ ps' t v G' H', End K G H f (ps' ++ [t]) (vs.map some ++ [some v]) G' H' → ps'.length = vs.length → SI K F G' H' (back r2 ws ps' ++ (tm ++ (resW t).tm)) (s ++ (us ++ (resW t).vl v)) ∧ (back r2 ws ps').length = s.length ∧ WV K G' s (resW t) v := by
  obtain ⟨f, hr, hf⟩ := I.own
  simp only [← List.append_assoc] at hr
  obtain ⟨ga, gb, h1, h2, h3, h4, h5⟩ := hr.split (by simp; omega)
  obtain ⟨f1, f2, k1, k2, k3, k4, k5, k6⟩ := pars_ok hl h1 h2 h5 hw e
  have f2f : ∀ b, f2 b → f b := fun b hb => (k4 b hb).elim (h3 b) (h4 b)
  have f1f : ∀ b, f1 b → f b := fun b hb => h3 b (k3 b hb)
  have after : ∀ {ps' : List T} {G' H' : Hp} {fb : Fp}, Ex G G' → Sub G' H' → Plain G' → (∀ a o, H a = some o → ¬ f2 a → ¬ TbS.tb a → H' a = some o) → (∀ a, H a ≠ none → H' a ≠ none) → (∀ a o, G' a = some o → G a = some o ∨ f2 a ∨ H a = none) →
      RtL K G' H' ps' (vs.map some) fb → (∀ b, fb b → G' b = none ∧ H' b ≠ none ∧ (f2 b ∨ H b = none)) → ∃ fc : Fp, RtL K G' H' (back r2 ws ps' ++ tm) (s ++ us) fc ∧ (∀ b, fc b → f1 b ∨ fb b) ∧ (∀ b, f1 b → G' b = none ∧ H' b ≠ none) ∧ (back r2 ws ps').length = s.length := fun {ps' G' H' fb} x1 x2 x3 kp lv gn rp ob => by
    have same : ∀ b, f1 b → H' b = H b := fun b hb => by
      cases z : H b with
      | none => exact absurd z (hf b (f1f b hb)).2.1
      | some o => exact kp b o z (k5 b hb) (hf b (f1f b hb)).2.2.2
    obtain ⟨fc, c1, c2, c3⟩ := back_ok k6 (k1.frame x1 same) rp (fun b hb z => (ob b z).2.2.elim (k5 b hb) fun q => (hf b (f1f b hb)).2.1 q) (hw.mono x1)
    refine ⟨fc, c1, c2, fun b hb => ⟨?_, lv b (hf b (f1f b hb)).2.1⟩, c3⟩
    cases z : G' b with
    | none => rfl
    | some o =>
      rcases gn b o z with q | q | q
      · rw [(hf b (f1f b hb)).1] at q; cases q
      · exact absurd q (k5 b hb)
      · exact absurd q (hf b (f1f b hb)).2.1
  refine ⟨f2, ⟨k2, fun b hb => ⟨(hf b (f2f b hb)).1, (hf b (f2f b hb)).2.1, (hf b (f2f b hb)).2.2.2⟩, I.gh, I.pl, I.tab, I.gtb⟩, fun ps' G' H' En => ?_, fun ps' t v G' H' En lp => ?_⟩
  · obtain ⟨fb, rb, ob⟩ := En.rt
    obtain ⟨fc, c1, c2, c3, c4⟩ := after En.gg En.gh En.pl En.keep En.lv En.gn rb ob
    refine ⟨I.nextT f hf En.gg En.gh En.pl (fun a o z q t => En.keep a o z (fun w => q (f2f a w)) t) En.tab En.lv (fun a o z => (En.gn a o z).elim Or.inl fun q => q.elim (fun q => Or.inr (Or.inl (f2f a q))) fun q => Or.inr (Or.inr q)) c1 (fun b hb => ?_), c4⟩
    rcases c2 b hb with q | q
    · exact ⟨(c3 b q).1, (c3 b q).2, Or.inl (f1f b q)⟩
    · exact ⟨(ob b q).1, (ob b q).2.1, (ob b q).2.2.elim (fun z => Or.inl (f2f b z)) Or.inr⟩
  · obtain ⟨fb, rb, ob⟩ := En.rt
    obtain ⟨g1, g2, m1, m2, m3, m4, m5⟩ := rb.split (by rw [List.length_map]; exact lp)
    obtain ⟨fc, c1, c2, c3, c4⟩ := after En.gg En.gh En.pl En.keep En.lv En.gn m1 (fun b hb => ob b (m3 b hb))
    have hfc : ∀ b, fc b → G' b = none ∧ H' b ≠ none ∧ (f b ∨ H b = none) := fun b hb => by
      rcases c2 b hb with q | q
      · exact ⟨(c3 b q).1, (c3 b q).2, Or.inl (f1f b q)⟩
      · exact ⟨(ob b (m3 b q)).1, (ob b (m3 b q)).2.1, (ob b (m3 b q)).2.2.elim (fun z => Or.inl (f2f b z)) Or.inr⟩
    have nx : ∀ {r' : List T} {x' : List (Option V)} {f' : Fp}, RtL K G' H' r' x' f' → (∀ b, f' b → G' b = none ∧ H' b ≠ none ∧ (f b ∨ H b = none)) → SI K F G' H' r' x' := fun rr hh =>
      I.nextT f hf En.gg En.gh En.pl (fun a o z q t => En.keep a o z (fun w => q (f2f a w)) t) En.tab En.lv (fun a o z => (En.gn a o z).elim Or.inl fun q => q.elim (fun q => Or.inr (Or.inl (f2f a q))) fun q => Or.inr (Or.inr q)) rr hh
    have own : ∀ t0, RtL K G' H' [t0] [some v] g2 → SI K F G' H' (back r2 ws ps' ++ (tm ++ [t0])) (s ++ (us ++ [some v])) := fun t0 mm => by
      have := mm.app c1 fun b hb z => (c2 b hb).elim (fun q => (ob b (m4 b z)).2.2.elim (k5 b q) fun w => (hf b (f1f b q)).2.1 w) fun q => m5 b q z
      simp only [← List.append_assoc]
      exact nx this fun b hb => hb.elim (hfc b) fun z => ⟨(ob b (m4 b z)).1, (ob b (m4 b z)).2.1, (ob b (m4 b z)).2.2.elim (fun z => Or.inl (f2f b z)) Or.inr⟩
    cases t with
    | fz d =>
      refine ⟨by simpa only [resW, W.tm, W.vl, List.append_nil] using nx c1 hfc, c4, ?_⟩
      cases m2 with | cons a1 _ _ _ _ => cases a1 with | fz q => exact q
    | un => exact ⟨own _ m2, c4, trivial⟩
    | ls l => exact ⟨own _ m2, c4, trivial⟩
    | tp l => exact ⟨own _ m2, c4, trivial⟩
    | dk ks l => exact ⟨own _ m2, c4, trivial⟩
    | dt ks l => exact ⟨own _ m2, c4, trivial⟩
/-- f(..), where nothing is raised -/
def dCall (fn : FnT) (f : AD) : ED := fun r => (f r).bind fun p => (pars p.2 p.1).bind fun q => (fn q.1).bind fun z => match z.1 with
  | .ret t => if z.2.length = p.1.length then some (resW t, back q.2 p.1 z.2) else none
  | .exc _ => none
theorem de_ucall {n : Nat} {fn : FnT} {f : AD} {ta : TA} {E : XK} (hn : ∀ ps z, fn ps = some z → ps.length = n) (h : DA K ta f) : DE K (tCall (spD K n fn) [] E ta) (dCall fn f) := fun F G H r s tm us w r' I hl e Q q => by
  obtain ⟨⟨ws, r1⟩, e1, e⟩ := Option.bind_eq_some_iff.mp e
  obtain ⟨⟨ps, r2⟩, e2, e⟩ := Option.bind_eq_some_iff.mp e
  obtain ⟨⟨z, ps'⟩, e3, e⟩ := Option.bind_eq_some_iff.mp e
  have ht : tm.length = us.length := by have := I.len; simp at this; omega
  cases z with
  | exc c => cases e
  | ret t =>
    dsimp only at e
    split at e
    · rename_i c
      cases e
      refine h F G H r s tm us ws r1 I hl e1 _ fun vs G1 H1 x1 I1 l1 hw => ?_
      obtain ⟨f0, En, _, k2⟩ := call_ok I1 l1 ht hw e2
      have lv : ps.length = vs.length := by have := En.rt.length; rw [List.length_map] at this; exact this
      refine ⟨by rw [List.append_nil, ← lv]; exact hn ps _ e3, G1, f0, ps, .ret t, ps', e3, by rw [List.append_nil]; exact En, fun v G2 H2 Ed => ?_⟩
      rw [List.append_nil] at Ed
      obtain ⟨j1, j2, j3⟩ := k2 ps' t v G2 H2 Ed (by rw [c]; exact hw.len)
      exact q v G2 H2 (x1.trans Ed.gg) j1 j2 j3
    · cases e
/-- f(..), of which a refusal may come -/
def dCallX (fn : FnT) (f : AD) : XD := fun r => (f r).bind fun p => (pars p.2 p.1).bind fun q => (fn q.1).bind fun z => match z.1 with
  | .ret t => if z.2.length = p.1.length then some (.inl (resW t), back q.2 p.1 z.2) else none
  | .exc c => some (.inr c, back q.2 p.1 z.2)
theorem dx_ucall {X : WX} {n : Nat} {fn : FnT} {f : AD} {ta : TA} (hn : ∀ ps z, fn ps = some z → ps.length = n) (h : DA K ta f) : DX K X (tCallS (spD K n fn) (WE X) ta) (dCallX fn f) := fun F G H r s zz r' I e Q q => by
  obtain ⟨⟨ws, r1⟩, e1, e⟩ := Option.bind_eq_some_iff.mp e
  obtain ⟨⟨ps, r2⟩, e2, e⟩ := Option.bind_eq_some_iff.mp e
  obtain ⟨⟨z, ps'⟩, e3, e⟩ := Option.bind_eq_some_iff.mp e
  refine h F G H r s [] [] ws r1 (by simpa only [List.append_nil] using I) I.len e1 _ fun vs G1 H1 x1 I1 l1 hw => ?_
  obtain ⟨f0, En, k1, k2⟩ := call_ok I1 l1 rfl hw e2
  have lv : ps.length = vs.length := by have := En.rt.length; rw [List.length_map] at this; exact this
  cases z with
  | exc c =>
    cases e
    refine ⟨by rw [← lv]; exact hn ps _ e3, G1, f0, ps, .exc c, ps', e3, En, fun G2 H2 Ed => ?_⟩
    exact q G2 H2 (x1.trans Ed.gg) (by simpa only [List.append_nil] using (k1 ps' G2 H2 Ed).1)
  | ret t =>
    dsimp only at e
    split at e
    · rename_i c
      cases e
      refine ⟨by rw [← lv]; exact hn ps _ e3, G1, f0, ps, .ret t, ps', e3, En, fun v G2 H2 Ed => ?_⟩
      obtain ⟨j1, j2, j3⟩ := k2 ps' t v G2 H2 Ed (by rw [c]; exact hw.len)
      exact q v G2 H2 (x1.trans Ed.gg) (by simpa only [List.nil_append] using j1) j2 j3
    · cases e
theorem fnD_len {n N : Nat} {fx : List Bool} {g : SD} (ps : List T) (z : Res × List T) (e : fnD n N fx g ps = some z) : ps.length = n := by
  unfold fnD at e
  split at e
  · assumption
  · cases e
end
end Q

set_option Elab.async false
set_option linter.all false
set_option maxRecDepth 100000
set_option maxHeartbeats 2000000
namespace Q
open PySem PySem.Spec PyProof.Rows L2
variable [TbS]
/-! ### a def's promise where no guard of repr stands around -/
structure FnG (P : Program) (w : World) (K : PySem.W.Frag) (mg : Str → Option Value) (base : Heap) (k : Nat) (f : Addr) (fd : FuncData) (ps : List Str) (sp : Sp) : Prop where
  len : ∀ vs H Q E, sp vs H Q E → vs.length = ps.length
  run : ∀ (A : Around) (outer : List PySem.Env) (s : Shared) (H : Hp) (args : Args) (us : List Value) (vs : List V) (Q : VK) (E : XK), Room k A → A.guards = some [] → Env0 P w K mg base A outer s H → BindsTo s fd args (ps.zip us) → Vals vs us → sp vs H Q E →
    codeAny (model P w) A (.call (.ref f) args) (CR (L2.CX P w) outer P w H s Q E) s
theorem FnG.mono {P : Program} {w : World} {K : PySem.W.Frag} {mg : Str → Option Value} {base : Heap} {j k : Nat} {f : Addr} {fd : FuncData} {ps : List Str} {sp : Sp} (h : FnG P w K mg base j f fd ps sp) (l : j ≤ k) : FnG P w K mg base k f fd ps sp :=
  ⟨h.len, fun A outer s H args us vs Q E hr => h.run A outer s H args us vs Q E (Room.mono hr l)⟩
section
variable {K : PySem.W.Frag}
theorem fn_okC {P : Program} {w : World} {mg : Str → Option Value} {base : Heap} {x qual : Str} {st : Stmt} {f : Addr} {fd : FuncData} {N ps : List Str} {k : Nat} {g : SD} {fx : List Bool} (F : Fun K x qual st f fd) (S : FnScope N ps (defScope st)) (hfx : fx.length = ps.length)
    (hb : ∀ (cdv : Value) (A : Around) (outer : List PySem.Env) (s : Shared) (H : Hp) (E : XK), fd.code = cdv → A.guards = some [] → Room k (A.deeper (envOfC qual (defScope st) s.heap.objs.size f cdv)) →
      ∃ t, PSs (cxOf (L2.CX P w) P w K mg base N qual (defScope st) f cdv A outer s H E) (defBody st) t ∧ DS K (fun i => !(fx[i]? == some true)) (fun c d _ H => E c d H) t g) : FnG P w K mg base (k + 1) f fd ps (spD K ps.length (fnD ps.length N.length fx g)) := by
  obtain ⟨oc, od, kV, doc, pm, an, cdv, ct, osl, rfl, lk, hcd⟩ := F.ex
  have hN : ps.length ≤ N.length := by have := congrArg List.length S.pre; rw [List.length_take] at this; omega
  refine ⟨fun vs H Q E h => h.1, fun A outer s H args us vs Q E room gu e0 bd vals hsp => ?_⟩
  have old : ∀ b o, base.get? b = some o → s.heap.get? b = some o := fun b o e => (e0.bs b o e).1
  have kin : K.In s.heap := e0.mod.kin.keeps old
  refine codeAny_call_function room.depth (kin _ _ lk) rfl S.co S.gen rfl (PySem.W.codeRec_of kin hcd) (bd _ _ _ _ ?_)
  refine wpAny_newFunctionEnv_cells S.kind (fun ⟨n, v⟩ hy => ?_) fun env he s1 inc => ?_
  · rcases S.par n (List.of_mem_zip hy).1 with z | z
    · exact Or.inl z
    · exact Or.inr ⟨z, PySem.W.cellsFrom_some _ _ _ (Or.inl z)⟩
  · subst he
    refine ⟨(e0.mod.nolimit.keeps old).keeps inc.toInCall.keep, codeAny_func ?_⟩
    obtain ⟨t, p1, p2⟩ := hb cdv A outer s H E rfl gu (room.deeper _)
    obtain ⟨lv, G, fp, pss, z, ps', e, En, q⟩ := hsp
    have start0 := inv_start (CX := L2.CX P w) (E := E) (f := f) S room.hd e0 lv vals inc
    refine wpAny_mono (p1.run [] s1 (L2.start N vs) H _ start0 (fnD_run p2 hN hfx lv e En q)) (fun fl s' done => ?_) fun _ _ z => z
    cases fl with
    | brk => obtain ⟨_, _, _, z⟩ := done; exact z.elim
    | cont => obtain ⟨_, _, _, z⟩ := done; exact z.elim
    | ret u => obtain ⟨v, _, H', J, rv, z⟩ := done; exact ⟨v, H', J.os, J.bare, J.base, J.hok, rv, z⟩
    | next => obtain ⟨_, H', J, z⟩ := done; exact ⟨.non, H', J.os, J.bare, J.base, J.hok, rfl, z⟩
theorem fn_ok {P : Program} {w : World} {mg : Str → Option Value} {base : Heap} {x qual : Str} {st : Stmt} {f : Addr} {fd : FuncData} {N ps : List Str} {k : Nat} {g : SD} {fx : List Bool} (F : Fun K x qual st f fd) (S : FnScope N ps (defScope st)) (hfx : fx.length = ps.length)
    (hb : ∀ (cdv : Value) (A : Around) (outer : List PySem.Env) (s : Shared) (H : Hp) (E : XK), A.guards = some [] → Room k (A.deeper (envOfC qual (defScope st) s.heap.objs.size f cdv)) →
      ∃ t, PSs (cxOf (L2.CX P w) P w K mg base N qual (defScope st) f cdv A outer s H E) (defBody st) t ∧ DS K (fun i => !(fx[i]? == some true)) (fun c d _ H => E c d H) t g) : FnG P w K mg base (k + 1) f fd ps (spD K ps.length (fnD ps.length N.length fx g)) :=
  fn_okC F S hfx fun cdv A outer s H E _ gu hr => hb cdv A outer s H E gu hr
end
section
variable {X : Cx} {k : Nat} {f : Addr} {fd : FuncData} {ps : List Str} {sp : Sp} {E : L2.St → XK} {x : Str} {p pos : Pos} {e : Expr} {es : List Expr} {t : TA}
theorem run_fn {pins : List (Addr × Obj)} {σ : L2.St} {H : Hp} {s : Shared} {Q : VK} {us : List Value} {vs : List V} (F : FnG X.prog X.w X.K X.mg X.base k f fd ps sp) (hr : Room k X.A) (gu : X.A.guards = some []) (hb : Binds X.K fd ps []) (hx : PassesAt (L2.CX X.prog X.w) X σ (E σ))
    (I : Inv X pins σ H s) (rv : Vals vs us) (h : sp vs H Q (E σ)) : wpAny (model X.prog X.w) X.A (call (.ref f) us) (EP X pins σ Q) X.xe s := by
  have hl : (us ++ []).length = ps.length := by rw [List.append_nil, ← rv.length]; exact F.len _ _ _ _ h
  have bd := hb s us I.kIn hl
  rw [List.append_nil] at bd
  refine wpAny_call (codeAny_mono (F.run X.A X.stack s H ⟨us, []⟩ us vs Q (E σ) hr gu I.env0 bd rv h) fun res s' told => ?_)
  match res, told with
  | .error er, told => exact hx pins H s er s' I told
  | .ok (.ret u), told => exact I.after told
/-- f(e, ..) -/
theorem pe_fn (F : FnG X.prog X.w X.K X.mg X.base k f fd ps sp) (hr : Room k X.A) (gu : X.A.guards = some []) (hg : Gl X x) (hm : X.mg x = some (.ref f)) (hk : PySem.W.keepIn X.K (.ref f) = true) (hb : Binds X.K fd ps []) (hx : ∀ σ, PassesAt (L2.CX X.prog X.w) X σ (E σ))
    (ha : PA X (e :: es) t) (hdb : (x == ("__debug__" : Str)) = false := by decide) (he : starEach (e :: es) X.env = (false, eval e X.env) :: starEach es X.env := by rfl) (hpl : (backTo pos (starEach es X.env)).any (·.1) = false := by rfl) :
    PE X (.Call (.Name x p) (e :: es) [] pos) (tCallS sp E t) := by
  refine ⟨fun pins s σ H Q I h => wpAny_Call_Name_kw (ld_glob I hg hm ?_ hdb)⟩
  refine PySem.W.callWith_K (h₀ := X.base) I.ok.mod.kin hk (thn (ha.run pos pins s σ H _ I h) fun us s1 done => ?_) he hpl
  obtain ⟨vs, H1, I1, rv, q⟩ := done
  exact ⟨I1.kIn, run_fn F hr gu hb (hx σ) I1 rv q⟩
theorem passNo {X : Cx} (σ : L2.St) : PassesAt (L2.CX X.prog X.w) X σ ((fun _ _ _ _ => False : L2.St → XK) σ) := fun _ _ _ _ _ _ c => by
  obtain ⟨_, _, _, _, _, _, _, _, _, _, _, _, z⟩ := c
  exact z.elim
end
section
variable {K : PySem.W.Frag}
/-- f(..) by its worth, where nothing is raised -/
theorem de_fn {n : Nat} {fn : FnT} {f : AD} {ta : TA} {E : L2.St → XK} (hn : ∀ ps z, fn ps = some z → ps.length = n) (h : DA K ta f) : DE K (tCallS (spD K n fn) E ta) (dCall fn f) := fun F G H r s tm us w r' I hl e Q q => by
  have := de_ucall (E := E s) hn h F G H r s tm us w r' I hl e Q q
  unfold tCall at this
  simp only [List.append_nil] at this
  exact this
/-! ### operations -/
def gRI (C : Int → Int → Prop) [∀ i j, Decidable (C i j)] (h : Int → Int → D) : List D → Option Rs
  | [.int i, .int j] => if C i j then some (.val (h i j)) else none
  | _ => none
theorem dc_rI {C : Int → Int → Prop} [∀ i j, Decidable (C i j)] {h : Int → Int → D} {hv : Int → Int → V} (rp : ∀ G i j, Rp K G (h i j) (hv i j)) : DC K (rl2 (rI C hv)) (gRI C h) := fun G H xs vs z _ _ q e Q k => by
  unfold gRI at e
  split at e
  · rename_i i j
    split at e
    · rename_i c
      cases e
      cases q with | cons a q => cases q with | cons b q => cases q; cases a; cases b; exact ⟨i, j, rfl, rfl, c, k _ (rp G i j)⟩
    · cases e
  · cases e
def gRI0 (h : Int → Int → D) : List D → Option Rs
  | [.int i, .int j] => some (.val (h i j))
  | _ => none
theorem dc_rI0 {h : Int → Int → D} {hv : Int → Int → V} (rp : ∀ G i j, Rp K G (h i j) (hv i j)) : DC K (rl2 (rI0 hv)) (gRI0 h) := fun G H xs vs z _ _ q e Q k => by
  unfold gRI0 at e
  split at e
  · rename_i i j
    cases e
    cases q with | cons a q => cases q with | cons b q => cases q; cases a; cases b; exact ⟨i, j, rfl, rfl, k _ (rp G i j)⟩
  · cases e
def gAdd := gRI0 fun i j => .int (i + j)
def gSubI := gRI0 fun i j => .int (i - j)
instance : ∀ i j, Decidable (CMulW i j) := fun i j => inferInstanceAs (Decidable (_ < _))
instance : ∀ i j, Decidable (CMul i j) := fun i j => inferInstanceAs (Decidable (_ ∨ _))
instance : ∀ i j, Decidable (CDivW i j) := fun i j => inferInstanceAs (Decidable (_ ∧ _))
instance : ∀ i j, Decidable (CPow i j) := fun i j => inferInstanceAs (Decidable (_ ∧ _))
def gMul := gRI CMulW fun i j => .int (i * j)
def gMul1 := gRI CMul fun i j => .int (i * j)
def gMod := gRI (fun _ j => 0 < j) fun i j => .int (i % j)
def gDiv := gRI CDivW fun i j => .int (i / j)
def gPow := gRI CPow fun i j => .int (i ^ j.toNat)
def gShl := gRI CPow fun i j => .int (i * 2 ^ j.toNat)
def gShr := gRI (fun _ j => 0 ≤ j) fun i j => .int (i / 2 ^ j.toNat)
def gBand := gRI0 fun i j => .int (Builtin.bitAnd i j)
def gBor := gRI0 fun i j => .int (Builtin.bitOr i j)
def gBxor := gRI0 fun i j => .int (Builtin.bitXor i j)
def gLt := gRI0 fun i j => .bl (decide (i < j))
def gLe := gRI0 fun i j => .bl (decide (i ≤ j))
def gGt := gRI0 fun i j => .bl (decide (j < i))
def gGe := gRI0 fun i j => .bl (decide (j ≤ i))
theorem dc_add : DC K (rl2 (rI0 fun i j => .int (i + j))) gAdd := dc_rI0 fun _ i j => .int _
theorem dc_sub : DC K (rl2 (rI0 fun i j => .int (i - j))) gSubI := dc_rI0 fun _ i j => .int _
theorem dc_mul : DC K (rl2 (rI CMulW fun i j => .int (i * j))) gMul := dc_rI fun _ i j => .int _
theorem dc_mul1 : DC K (rl2 (rI CMul fun i j => .int (i * j))) gMul1 := dc_rI fun _ i j => .int _
theorem dc_mod : DC K (rl2 (rI (fun _ j => 0 < j) fun i j => .int (i % j))) gMod := dc_rI fun _ i j => .int _
theorem dc_div : DC K (rl2 (rI CDivW fun i j => .int (i / j))) gDiv := dc_rI fun _ i j => .int _
theorem dc_pow : DC K (rl2 (rI CPow fun i j => .int (i ^ j.toNat))) gPow := dc_rI fun _ i j => .int _
theorem dc_shl : DC K (rl2 (rI CPow fun i j => .int (i * 2 ^ j.toNat))) gShl := dc_rI fun _ i j => .int _
theorem dc_shr : DC K (rl2 (rI (fun _ j => 0 ≤ j) fun i j => .int (i / 2 ^ j.toNat))) gShr := dc_rI fun _ i j => .int _
theorem dc_band : DC K (rl2 (rI0 fun i j => .int (Builtin.bitAnd i j))) gBand := dc_rI0 fun _ i j => .int _
theorem dc_bor : DC K (rl2 (rI0 fun i j => .int (Builtin.bitOr i j))) gBor := dc_rI0 fun _ i j => .int _
theorem dc_bxor : DC K (rl2 (rI0 fun i j => .int (Builtin.bitXor i j))) gBxor := dc_rI0 fun _ i j => .int _
theorem dc_lt : DC K (rl2 (rI0 fun i j => .bl (decide (i < j)))) gLt := dc_rI0 fun _ i j => .bl _
theorem dc_le : DC K (rl2 (rI0 fun i j => .bl (decide (i ≤ j)))) gLe := dc_rI0 fun _ i j => .bl _
theorem dc_gt : DC K (rl2 (rI0 fun i j => .bl (decide (j < i)))) gGt := dc_rI0 fun _ i j => .bl _
theorem dc_ge : DC K (rl2 (rI0 fun i j => .bl (decide (j ≤ i)))) gGe := dc_rI0 fun _ i j => .bl _
def gNeg : List D → Option Rs
  | [.int i] => some (.val (.int (-i)))
  | _ => none
theorem dc_neg : DC K (rl1 (rU fun i => .int (-i))) gNeg := fun G H xs vs z _ _ q e Q k => by
  unfold gNeg at e
  split at e
  · cases e
    cases q with | cons a q => cases q; cases a; exact ⟨_, rfl, k _ (.int _)⟩
  · cases e
/-- t + u, tuples -/
def gCatT : List D → Option Rs
  | [.tup a, .tup b] => if a.length + b.length ≤ 1000000 then some (.newT (a ++ b)) else none
  | _ => none
theorem dc_catT : DC K (rl2 (rCatA K)) gCatT := fun G H xs vs z sb pl q e Q k => by
  unfold gCatT at e
  split at e
  · rename_i a b
    split at e
    · rename_i c
      cases e
      cases q with | cons x q => cases q with | cons y q =>
        cases q
        cases x with | tup x1 x2 => cases y with | tup y1 y2 =>
          refine ⟨_, _, _, _, rfl, rfl, sub_t pl sb x1, sub_t pl sb y1, big (by rw [← x2.length, ← y2.length]; exact c), fun z => ?_, fun _ z => ?_, fun _ _ p hp => k.2 p _ hp (x2.append y2)⟩
          · subst z
            cases x2
            exact k.1 _ (.tup y1 y2)
          · subst z
            cases y2
            refine k.1 _ (.tup x1 ?_)
            rw [List.append_nil]
            exact x2
    · cases e
  · cases e
def gCatL : List D → Option Rs
  | [.lst a, .lst b] => if a.length + b.length ≤ 1000000 then some (.newL (a ++ b)) else none
  | _ => none
theorem dc_catL : DC K (rl2 rCat) gCatL := fun G H xs vs z sb pl q e Q k => by
  unfold gCatL at e
  split at e
  · rename_i a b
    split at e
    · rename_i c
      cases e
      cases q with | cons x q => cases q with | cons y q =>
        cases q
        cases x with | lst x1 x2 => cases y with | lst y1 y2 =>
          exact ⟨_, _, _, _, rfl, rfl, sub_ex sb x1, sub_ex sb y1, big (by rw [← x2.length, ← y2.length]; exact c), fun p hp => k p _ hp (x2.append y2)⟩
    · cases e
  · cases e
/-! ### data as the library's data -/
mutual
def D.py : D → Option PyData
  | .non => some .none
  | .bl b => some (.bool b)
  | .int i => some (.int i)
  | .str x => some (.str x)
  | .tup l => (pyL l).map .tuple
  | .lst l => (pyL l).map .list
  | _ => none
def pyL : List D → Option (List PyData)
  | [] => some []
  | d :: l => d.py.bind fun x => (pyL l).map (x :: ·)
end
mutual
theorem py_dp {H : Hp} : ∀ (d : D) (v : V) (x : PyData), Rp K H d v → d.py = some x → Dp K H v x
  | _, _, x, .non, e => by unfold D.py at e; cases e; exact .non
  | _, _, x, .bl b, e => by unfold D.py at e; cases e; exact .bl b
  | _, _, x, .int i, e => by unfold D.py at e; cases e; exact .int i
  | _, _, x, .str z, e => by unfold D.py at e; cases e; exact .str z
  | _, _, x, .lst h q, e => by
    unfold D.py at e
    obtain ⟨xs, e1, e2⟩ := Option.map_eq_some_iff.mp e
    subst e2
    exact .lst (Or.inl (Or.inl h)) (pyL_dp _ _ xs q e1)
  | _, _, x, .tup h q, e => by
    unfold D.py at e
    obtain ⟨xs, e1, e2⟩ := Option.map_eq_some_iff.mp e
    subst e2
    exact .tup h (pyL_dp _ _ xs q e1)
  | _, _, x, .scr h, e => by unfold D.py at e; cases e
  | _, _, x, .dk h l q, e => by unfold D.py at e; cases e
  | _, _, x, .dt h l q, e => by unfold D.py at e; cases e
  | _, _, x, .exc h, e => by unfold D.py at e; cases e
  | _, _, x, .fnc a, e => by unfold D.py at e; cases e
theorem pyL_dp {H : Hp} : ∀ (d : List D) (v : List V) (x : List PyData), RpL K H d v → pyL d = some x → DpAll K H v x
  | _, _, x, .nil, e => by unfold pyL at e; cases e; exact .nil
  | _, _, x, .cons h q, e => by
    unfold pyL at e
    obtain ⟨y, e1, e2⟩ := Option.bind_eq_some_iff.mp e
    obtain ⟨ys, e3, e4⟩ := Option.map_eq_some_iff.mp e2
    subst e4
    exact .cons (py_dp _ _ y h e1) (pyL_dp _ _ ys q e3)
end
def gEq : List D → Option Rs
  | [a, b] => a.py.bind fun x => b.py.bind fun y => if SeqAt.shaped x = true ∧ SeqAt.shaped y = true then some (.val (.bl (PyData.eqv x y))) else none
  | _ => none
def gNe : List D → Option Rs
  | [a, b] => a.py.bind fun x => b.py.bind fun y => if SeqAt.shaped x = true ∧ SeqAt.shaped y = true then some (.val (.bl (!PyData.eqv x y))) else none
  | _ => none
theorem dc_eq : DC K (rl2 (rEqD K)) gEq := fun G H xs vs z sb pl q e Q k => by
  unfold gEq at e
  split at e
  · obtain ⟨x, e1, e⟩ := Option.bind_eq_some_iff.mp e
    obtain ⟨y, e2, e⟩ := Option.bind_eq_some_iff.mp e
    split at e
    · rename_i c
      cases e
      cases q with | cons p q => cases q with | cons p2 q => cases q; exact ⟨x, y, py_dp _ _ x (Rp.sub pl sb _ _ p) e1, py_dp _ _ y (Rp.sub pl sb _ _ p2) e2, c.1, c.2, k _ (.bl _)⟩
    · cases e
  · cases e
theorem dc_ne : DC K (rl2 (rNeD K)) gNe := fun G H xs vs z sb pl q e Q k => by
  unfold gNe at e
  split at e
  · obtain ⟨x, e1, e⟩ := Option.bind_eq_some_iff.mp e
    obtain ⟨y, e2, e⟩ := Option.bind_eq_some_iff.mp e
    split at e
    · rename_i c
      cases e
      cases q with | cons p q => cases q with | cons p2 q => cases q; exact ⟨x, y, py_dp _ _ x (Rp.sub pl sb _ _ p) e1, py_dp _ _ y (Rp.sub pl sb _ _ p2) e2, c.1, c.2, k _ (.bl _)⟩
    · cases e
  · cases e
def D.isNon : D → Bool
  | .non => true
  | _ => false
theorem isNon_rp {G : Hp} {d : D} {v : V} (h : Rp K G d v) : decide (v = .non) = d.isNon := by
  cases h <;> first | rfl | (simp [D.isNon])
def gIsN : List D → Option Rs
  | [a, .non] => some (.val (.bl a.isNon))
  | _ => none
def gNotN : List D → Option Rs
  | [a, .non] => some (.val (.bl (!a.isNon)))
  | _ => none
theorem dc_isN : DC K (rl2 fun x y H Q => y = .non ∧ Q (.bl (decide (x = .non))) H) gIsN := fun G H xs vs z sb pl q e Q k => by
  unfold gIsN at e
  split at e
  · cases e
    cases q with | cons p q => cases q with | cons p2 q =>
      cases q
      cases p2
      refine ⟨rfl, ?_⟩
      rw [isNon_rp p]
      exact k _ (.bl _)
  · cases e
theorem dc_notN : DC K (rl2 fun x y H Q => y = .non ∧ Q (.bl (!decide (x = .non))) H) gNotN := fun G H xs vs z sb pl q e Q k => by
  unfold gNotN at e
  split at e
  · cases e
    cases q with | cons p q => cases q with | cons p2 q =>
      cases q
      cases p2
      refine ⟨rfl, ?_⟩
      rw [isNon_rp p]
      exact k _ (.bl _)
  · cases e
/-! ### parts of sequences -/
theorem RpL.atI {G : Hp} {l : List D} {vs : List V} {i : Int} {d : D} (q : RpL K G l vs) (e : atI l i = some d) : ∃ v, atI vs i = some v ∧ Rp K G d v := by
  unfold L2.atI at e ⊢
  rw [← q.length]
  obtain ⟨j, e1, e2⟩ := Option.bind_eq_some_iff.mp e
  obtain ⟨v, e3, e4⟩ := q.get e2
  exact ⟨v, by rw [e1]; exact e3, e4⟩
theorem RpL.ints {G : Hp} (ns : List Int) : RpL K G (ns.map D.int) (ns.map V.int) := by
  induction ns with
  | nil => exact .nil
  | cons n ns ih => exact .cons (.int n) ih
def D.items : D → Option (List D)
  | .lst l => some l
  | .tup l => some l
  | .scr ns => some (ns.map .int)
  | _ => none
theorem items_rp {G H : Hp} {d : D} {v : V} {l : List D} (sb : Sub G H) (h : Rp K G d v) (e : d.items = some l) : ∃ p xs, v = .ref p ∧ (SqL K H p xs ∨ SqT K H p xs) ∧ RpL K G l xs := by
  cases h with
  | lst a b => cases e; exact ⟨_, _, rfl, Or.inl (Or.inl (Or.inl (sub_ex sb a))), b⟩
  | tup a b => cases e; exact ⟨_, _, rfl, Or.inr (sub_t trivial sb a), b⟩
  | scr a => cases e; exact ⟨_, _, rfl, Or.inl (sub_l trivial sb a), RpL.ints _⟩
  | _ => cases e
def gIx : List D → Option Rs
  | [a, .int i] => a.items.bind fun l => (atI l i).bind fun d => some (.val d)
  | _ => none
theorem dc_ix : DC K (rl2 (rIx K)) gIx := fun G H xs vs z sb pl q e Q k => by
  unfold gIx at e
  split at e
  · obtain ⟨l, e1, e⟩ := Option.bind_eq_some_iff.mp e
    obtain ⟨d, e2, e⟩ := Option.bind_eq_some_iff.mp e
    cases e
    cases q with | cons p q => cases q with | cons p2 q =>
      cases q
      cases p2
      obtain ⟨a, us, rfl, h, r⟩ := items_rp sb p e1
      obtain ⟨v, e3, e4⟩ := r.atI e2
      rcases h with h | h
      · exact Or.inl ⟨a, us, _, v, rfl, rfl, h, e3, k _ e4⟩
      · exact Or.inr (Or.inl ⟨a, us, _, v, rfl, rfl, h, e3, k _ e4⟩)
  · cases e
def gLen : List D → Option Rs
  | [.str x] => if x.length ≤ 1000000 then some (.val (.int x.length)) else none
  | [a] => a.items.bind fun l => some (.val (.int l.length))
  | _ => none
theorem dc_len : DC K (fun xs H Q => ∃ x n, xs = [x] ∧ LenV K x H n ∧ Q (.int n) H) gLen := fun G H xs vs z sb pl q e Q k => by
  unfold gLen at e
  split at e
  · split at e
    · rename_i c
      cases e
      cases q with | cons p q => cases q; cases p; exact ⟨_, _, rfl, ⟨big c, rfl⟩, k _ (.int _)⟩
    · cases e
  · obtain ⟨l, e1, e⟩ := Option.bind_eq_some_iff.mp e
    cases e
    cases q with | cons p q =>
      cases q
      obtain ⟨a, us, rfl, h, r⟩ := items_rp sb p e1
      refine ⟨_, us.length, rfl, ?_, k _ (by rw [r.length]; exact .int _)⟩
      rcases h with h | h
      · exact Or.inl ⟨us, h, rfl⟩
      · exact Or.inr ⟨us, h, rfl⟩
  · cases e
def gMax2 : List D → Option Rs
  | [.int i, .int j] => some (.val (.int (if j > i then j else i)))
  | _ => none
def gMin2 : List D → Option Rs
  | [.int i, .int j] => some (.val (.int (if j < i then j else i)))
  | _ => none
theorem dc_max2 : DC K (fun xs H Q => ∃ i j, xs = [.int i, .int j] ∧ Q (.int (if j > i then j else i)) H) gMax2 := fun G H xs vs z sb pl q e Q k => by
  unfold gMax2 at e
  split at e
  · cases e
    cases q with | cons p q => cases q with | cons p2 q => cases q; cases p; cases p2; exact ⟨_, _, rfl, k _ (.int _)⟩
  · cases e
theorem dc_min2 : DC K (fun xs H Q => ∃ i j, xs = [.int i, .int j] ∧ Q (.int (if j < i then j else i)) H) gMin2 := fun G H xs vs z sb pl q e Q k => by
  unfold gMin2 at e
  split at e
  · cases e
    cases q with | cons p q => cases q with | cons p2 q => cases q; cases p; cases p2; exact ⟨_, _, rfl, k _ (.int _)⟩
  · cases e
def gTuple : List D → Option Rs
  | [.lst l] => some (.newT l)
  | [.tup l] => some (.newT l)
  | _ => none
theorem dc_tuple : DC K (fun xs H Q => ∃ p ys, xs = [.ref p] ∧ ((SqL K H p ys ∧ ∀ l, H l = none → Q (.ref l) (upd H l (.tup ys))) ∨ (SqT K H p ys ∧ Q (.ref p) H))) gTuple := fun G H xs vs z sb pl q e Q k => by
  unfold gTuple at e
  split at e
  · cases e
    cases q with | cons p q =>
      cases q
      cases p with | lst a b => exact ⟨_, _, rfl, Or.inl ⟨Or.inl (Or.inl (sub_ex sb a)), fun l hl => k.2 l _ hl b⟩⟩
  · cases e
    cases q with | cons p q =>
      cases q
      cases p with | tup a b => exact ⟨_, _, rfl, Or.inr ⟨sub_t trivial sb a, k.1 _ (.tup a b)⟩⟩
  · cases e
def gList : List D → Option Rs
  | [a] => a.items.bind fun l => some (.newL l)
  | _ => none
theorem dc_list : DC K (fun xs H Q => ∃ p ys, xs = [.ref p] ∧ (SqL K H p ys ∨ SqT K H p ys) ∧ ∀ l, H l = none → Q (.ref l) (upd H l (.lst ys))) gList := fun G H xs vs z sb pl q e Q k => by
  unfold gList at e
  split at e
  · obtain ⟨l, e1, e⟩ := Option.bind_eq_some_iff.mp e
    cases e
    cases q with | cons p q =>
      cases q
      obtain ⟨a, us, rfl, h, r⟩ := items_rp sb p e1
      exact ⟨a, us, rfl, h, fun x hx => k x _ hx r⟩
  · cases e
def bools : List D → Option (List Bool)
  | [] => some []
  | d :: l => d.bool.bind fun b => (bools l).map (b :: ·)
theorem bools_rp {G : Hp} : ∀ {l : List D} {vs : List V} {bs : List Bool}, RpL K G l vs → bools l = some bs → vs = bs.map V.bl
  | [], vs, bs, h, e => by cases h; cases e; rfl
  | d :: l, vs, bs, h, e => by
    obtain ⟨b, e1, e2⟩ := Option.bind_eq_some_iff.mp e
    obtain ⟨bs', e3, e4⟩ := Option.map_eq_some_iff.mp e2
    subst e4
    cases h with | cons h1 h2 => rw [bool_rp h1 e1, bools_rp h2 e3]; rfl
def gAll : List D → Option Rs
  | [.lst l] => (bools l).bind fun bs => some (.val (.bl (bs.all id)))
  | _ => none
theorem dc_all : DC K (rAll K) gAll := fun G H xs vs z sb pl q e Q k => by
  unfold gAll at e
  split at e
  · obtain ⟨bs, e1, e⟩ := Option.bind_eq_some_iff.mp e
    cases e
    cases q with | cons p q =>
      cases q
      cases p with | lst a b => exact ⟨_, bs, rfl, by rw [← bools_rp b e1]; exact Or.inl (Or.inl (sub_ex sb a)), k _ (.bl _)⟩
  · cases e
end
end Q

set_option Elab.async false
set_option linter.all false
set_option maxRecDepth 100000
set_option maxHeartbeats 2000000
namespace Q
open PySem PySem.Spec PyProof.Rows L2
variable [TbS]
section
variable {K : PySem.W.Frag} {F : Fx} {G H : Hp} {r : List T} {x : List (Option V)}
/-- an own list, changed -/
theorem SI.relist {ts : List T} {ys : List (Option V)} (I : SI K F G H (r ++ ts) (x ++ ys)) (hl : r.length = x.length) {i : Nat} {l : List T} (e : r[i]? = some (.ls l)) :
    ∃ a vs, x[i]? = some (some (.ref a)) ∧ H a = some (.lst vs) ∧ l.length = vs.length ∧ ∃ ge gt : Fp, RtL K G H l (vs.map some) ge ∧ RtL K G H ts ys gt ∧ (∀ b, ge b → ¬ gt b) ∧
      ∀ (l' : List T) (vs' : List V) (ts' : List T) (ys' : List (Option V)) (g' gt' : Fp), RtL K G H l' (vs'.map some) g' → RtL K G H ts' ys' gt' → (∀ b, g' b → ge b ∨ gt b) → (∀ b, gt' b → ge b ∨ gt b) → (∀ b, g' b → ¬ gt' b) → SI K F G (upd H a (.lst vs')) (r.set i (.ls l') ++ ts') (x ++ ys') := by
  obtain ⟨f, hr, hf⟩ := I.own
  obtain ⟨fa, gt, h1, h2, h3, h4, h5⟩ := hr.split hl
  obtain ⟨y, g, h, b1, b2, b3, b4, b5, b6⟩ := h1.at e
  cases b2 with | @ls a vs _ _ ge c1 c2 c3 c4 =>
    refine ⟨a, vs, b1, c2, by have := c3.length; simpa using this, ge, gt, c3, h2, fun b hb z => h5 b (b3 b (c4 b hb).1) z, fun l' vs' ts' ys' g' gt' q1 q2 q3 q4 q5 => ?_⟩
    have na : ∀ b, g' b ∨ gt' b → b ≠ a := fun b hb z => by
      subst z
      have : ge b ∨ gt b := hb.elim (q3 b) (q4 b)
      exact this.elim (fun w => (c4 b w).2 rfl) fun w => h5 b (b3 b c1) w
    have nh : ∀ b, h b → b ≠ a := fun b hb z => by subst z; exact b5 b c1 hb
    have gg : ∀ b, ge b ∨ gt b → ¬ h b := fun b hb z => hb.elim (fun w => b5 b (c4 b w).1 z) fun w => h5 b (b4 b z) w
    have k1 : RtL K G (upd H a (.lst vs')) l' (vs'.map some) g' := q1.frame (Ex.refl G) fun b hb => upd_ne (na b (Or.inl hb))
    have k2 : RtL K G (upd H a (.lst vs')) ts' ys' gt' := q2.frame (Ex.refl G) fun b hb => upd_ne (na b (Or.inr hb))
    have k3 : Rt K G (upd H a (.lst vs')) (.ls l') (some (.ref a)) (fun b => b = a ∨ g' b) := .ls (Or.inl rfl) upd_same k1 fun b hb => ⟨Or.inr hb, na b (Or.inl hb)⟩
    have k4 := b6 G (upd H a (.lst vs')) (.ls l') (some (.ref a)) _ (Ex.refl G) (fun b hb => upd_ne (nh b hb)) k3 (fun b hb z => hb.elim (nh b z) fun w => gg b (q3 b w) z)
    rw [set_same b1] at k4
    have k5 := k2.app k4 fun b hb z => hb.elim (fun w => w.elim (na b (Or.inr z)) fun w => q5 b w z) fun w => gg b (q4 b z) w
    have fin : ∀ b, f b → G b = none ∧ upd H a (.lst vs') b ≠ none ∧ (f b ∨ H b = none) := fun b hb => ⟨(hf b hb).1, by
      by_cases z : b = a
      · subst z; rw [upd_same]; exact Option.some_ne_none _
      · rw [upd_ne z]; exact (hf b hb).2.1, Or.inl hb⟩
    have ff : ∀ b, ge b ∨ gt b → f b := fun b hb => hb.elim (fun w => h3 b (b3 b (c4 b w).1)) (h4 b)
    have fa' : f a := h3 a (b3 a c1)
    refine I.next f hf (Ex.refl G) (fun b o hb => ?_) trivial (fun b o hb z => ?_) (fun b hb => ?_) (fun b o hb => Or.inl hb) k5 (fun b hb => ?_)
    · have : b ≠ a := fun z => by subst z; rw [(hf b fa').1] at hb; cases hb
      rw [upd_ne this]
      exact I.gh b o hb
    · rw [upd_ne fun w => z (by rw [w]; exact fa')]
      exact hb
    · by_cases z : b = a
      · subst z; rw [upd_same]; exact Option.some_ne_none _
      · rw [upd_ne z]; exact hb
    · rcases hb with (z | z) | z
      · rcases z with z | z
        · subst z; exact fin b fa'
        · exact fin b (ff b (q3 b z))
      · exact fin b (h3 b (b4 b z))
      · exact fin b (ff b (q4 b z))
theorem SI.push {t : T} {v : V} (I : SI K F G H (r ++ [t]) (x ++ [some v])) (hl : r.length = x.length) {i : Nat} {l : List T} (e : r[i]? = some (.ls l)) :
    ∃ a vs, x[i]? = some (some (.ref a)) ∧ H a = some (.lst vs) ∧ l.length = vs.length ∧ SI K F G (upd H a (.lst (vs ++ [v]))) (r.set i (.ls (l ++ [t]))) x := by
  obtain ⟨a, vs, e1, e2, e3, ge, gt, c1, c2, c3, fin⟩ := I.relist hl e
  refine ⟨a, vs, e1, e2, e3, ?_⟩
  have := fin (l ++ [t]) (vs ++ [v]) [] [] (fun b => ge b ∨ gt b) (fun _ => False) (by rw [List.map_append]; exact c2.app c1 c3) .nil (fun b hb => hb) (fun b hb => hb.elim) (fun b _ z => z)
  simpa only [List.append_nil] using this
theorem SI.put {t : T} {v : V} (I : SI K F G H (r ++ [t]) (x ++ [some v])) (hl : r.length = x.length) {i : Nat} {l : List T} (e : r[i]? = some (.ls l)) (j : Nat) :
    ∃ a vs, x[i]? = some (some (.ref a)) ∧ H a = some (.lst vs) ∧ l.length = vs.length ∧ SI K F G (upd H a (.lst (vs.set j v))) (r.set i (.ls (l.set j t))) x := by
  obtain ⟨a, vs, e1, e2, e3, ge, gt, c1, c2, c3, fin⟩ := I.relist hl e
  refine ⟨a, vs, e1, e2, e3, ?_⟩
  have key : ∃ g' : Fp, RtL K G H (l.set j t) ((vs.set j v).map some) g' ∧ ∀ b, g' b → ge b ∨ gt b := by
    by_cases c : j < l.length
    · obtain ⟨y, g, h, b1, b2, b3, b4, b5, b6⟩ := c1.at (i := j) (List.getElem?_eq_getElem c)
      cases c2 with | cons a1 _ a3 _ _ =>
        have k := b6 G H t (some v) _ (Ex.refl G) (fun _ _ => rfl) a1 (fun b hb z => c3 b (b4 b z) (a3 b hb))
        rw [← List.map_set] at k
        exact ⟨_, k, fun b hb => hb.elim (fun z => Or.inr (a3 b z)) fun z => Or.inl (b4 b z)⟩
    · rw [List.set_eq_of_length_le (by omega), List.set_eq_of_length_le (by omega)]
      exact ⟨ge, c1, fun b hb => Or.inl hb⟩
  obtain ⟨g', k1, k2⟩ := key
  have := fin (l.set j t) (vs.set j v) [] [] g' (fun _ => False) k1 .nil k2 (fun b hb => hb.elim) (fun b _ z => z)
  simpa only [List.append_nil] using this
theorem SI.popped (I : SI K F G H r x) {i : Nat} {l : List T} {t : T} (e : r[i]? = some (.ls (l ++ [t]))) :
    ∃ a vs v, x[i]? = some (some (.ref a)) ∧ H a = some (.lst (vs ++ [v])) ∧ SI K F G (upd H a (.lst vs)) (r.set i (.ls l) ++ [t]) (x ++ [some v]) := by
  obtain ⟨a, vs, e1, e2, e3, ge, gt, c1, c2, c3, fin⟩ := SI.relist (ts := []) (ys := []) (by simpa only [List.append_nil] using I) I.len e
  have hv : vs ≠ [] := fun z => by subst z; simp at e3
  obtain ⟨us, v, rfl⟩ : ∃ us v, vs = us ++ [v] := ⟨vs.dropLast, vs.getLast hv, (List.dropLast_concat_getLast hv).symm⟩
  rw [List.map_append] at c1
  obtain ⟨g1, g2, k1, k2, k3, k4, k5⟩ := c1.split (by simp at e3 ⊢; exact e3)
  exact ⟨a, us, v, e1, e2, fin l us [t] [some v] g1 g2 k1 k2 (fun b hb => Or.inl (k3 b hb)) (fun b hb => Or.inl (k4 b hb)) k5⟩
theorem SI.cleared (I : SI K F G H r x) {i : Nat} {l : List T} (e : r[i]? = some (.ls l)) : ∃ a vs, x[i]? = some (some (.ref a)) ∧ H a = some (.lst vs) ∧ SI K F G (upd H a (.lst [])) (r.set i (.ls [])) x := by
  obtain ⟨a, vs, e1, e2, e3, ge, gt, c1, c2, c3, fin⟩ := SI.relist (ts := []) (ys := []) (by simpa only [List.append_nil] using I) I.len e
  have := fin [] [] [] [] (fun _ => False) (fun _ => False) .nil .nil (fun b hb => hb.elim) (fun b hb => hb.elim) (fun b _ z => z)
  exact ⟨a, vs, e1, e2, by simpa only [List.append_nil] using this⟩
theorem SI.listAt (I : SI K F G H r x) {i : Nat} {l : List T} (e : r[i]? = some (.ls l)) : ∃ a vs f, x[i]? = some (some (.ref a)) ∧ H a = some (.lst vs) ∧ RtL K G H l (vs.map some) f := by
  obtain ⟨a, vs, e1, e2, e3, ge, gt, c1, _⟩ := SI.relist (ts := []) (ys := []) (by simpa only [List.append_nil] using I) I.len e
  exact ⟨a, vs, ge, e1, e2, c1⟩
end
section
variable {K : PySem.W.Frag}
theorem get_left {r : Env} {tm : List T} {i : Nat} {t : T} (e : r[i]? = some t) : (r ++ tm)[i]? = some t := by
  rw [List.getElem?_append_left (List.getElem?_eq_some_iff.mp e).1]
  exact e
theorem set_left {r : Env} {tm : List T} {i : Nat} {t u : T} (e : r[i]? = some t) : (r ++ tm).set i u = r.set i u ++ tm := List.set_append_left _ _ (List.getElem?_eq_some_iff.mp e).1
theorem of_left {r : Env} {s : L2.St} {us : List (Option V)} {i : Nat} {t : T} {y : Option V} (hl : r.length = s.length) (e : r[i]? = some t) (h : (s ++ us)[i]? = some y) : s[i]? = some y := by
  rw [List.getElem?_append_left (by have := (List.getElem?_eq_some_iff.mp e).1; omega)] at h
  exact h
def isLs : Option T → Bool
  | some (.ls _) => true
  | _ => false
theorem isLs_of {o : Option T} (h : isLs o = true) : ∃ l, o = some (.ls l) := by
  cases o with
  | none => cases h
  | some t => cases t with
    | ls l => exact ⟨l, rfl⟩
    | _ => cases h
def isFz : Option T → Bool
  | some (.fz _) => true
  | _ => false
theorem isFz_of {o : Option T} (h : isFz o = true) : ∃ l, o = some (.fz l) := by
  cases o with
  | none => cases h
  | some t => cases t with
    | fz l => exact ⟨l, rfl⟩
    | _ => cases h
/-- name.append(e) -/
def dAppend (i : Nat) (f : MD) : ED := fun r => if isLs r[i]? = true then (f r).bind fun p => match p.2[i]? with
  | some (.ls l) => if l.length < 1000000 then some (.sh .non, p.2.set i (.ls (l ++ [p.1]))) else none
  | _ => none
  else none
theorem de_append {i : Nat} {te : TE} {f : MD} (h : DM K te f) : DE K (tBM K "list" rAppend (tVar i) (tCons te tNil)) (dAppend i f) := fun F G H r s tm us w r' I hl e Q q => by
  unfold dAppend at e
  split at e
  case isFalse => cases e
  rename_i hls
  obtain ⟨⟨t, r1⟩, e1, e⟩ := Option.bind_eq_some_iff.mp e
  dsimp only at e
  split at e
  · rename_i l hr
    split at e
    · rename_i c
      cases e
      obtain ⟨l0, hr0⟩ := isLs_of hls
      obtain ⟨a, vs0, f0, z1, z2, _⟩ := I.listAt (get_left hr0)
      have z1' := of_left hl hr0 z1
      refine ⟨.ref a, z1', Or.inl ⟨rfl, _, Or.inl (Or.inl z2)⟩, ?_⟩
      refine h F G H r s tm us t r1 I hl e1 _ fun v G1 H1 x1 I1 l1 => ?_
      simp only [← List.append_assoc] at I1
      have hl2 : (r1 ++ tm).length = (s ++ us).length := by have := I1.len; simp at this ⊢; omega
      obtain ⟨b, vs, y1, y2, y3, J⟩ := I1.push hl2 (get_left hr)
      have y1' := of_left l1 hr y1
      rw [z1'] at y1'
      cases y1'
      rw [set_left hr] at J
      exact ⟨a, vs, v, rfl, rfl, y2, bigl (y3 ▸ c), q _ G1 _ x1 (by simpa only [W.tm, W.vl, List.append_nil] using J) (by rw [List.length_set]; exact l1) .non⟩
    · cases e
  · cases e
/-- name.pop() -/
def dPop (i : Nat) : ED := fun r => match r[i]? with
  | some (.ls l) => (l.getLast?).bind fun t => some (resW t, r.set i (.ls l.dropLast))
  | _ => none
theorem res_in {F : Fx} {G H : Hp} {r : Env} {s : L2.St} {tm : List T} {us : List (Option V)} {t : T} {v : V} (I : SI K F G H (r ++ (tm ++ [t])) (s ++ (us ++ [some v]))) (hl : (r ++ tm).length = (s ++ us).length) : SI K F G H (r ++ (tm ++ (resW t).tm)) (s ++ (us ++ (resW t).vl v)) ∧ WV K G s (resW t) v := by
  cases t with
  | fz d =>
    have I' : SI K F G H ((r ++ tm) ++ [.fz d]) ((s ++ us) ++ [some v]) := by simpa only [List.append_assoc] using I
    obtain ⟨f, hr, _⟩ := I'.own
    obtain ⟨_, _, _, k2, _⟩ := hr.split hl
    refine ⟨by simpa only [resW, W.tm, W.vl, List.append_nil] using I'.drop hl, ?_⟩
    cases k2 with | cons a1 _ _ _ _ => cases a1 with | fz q => exact q
  | un => exact ⟨I, trivial⟩
  | ls l => exact ⟨I, trivial⟩
  | tp l => exact ⟨I, trivial⟩
  | dk ks l => exact ⟨I, trivial⟩
  | dt ks l => exact ⟨I, trivial⟩
theorem de_pop {i : Nat} : DE K (tBM0 K "list" rPop (tVar i)) (dPop i) := fun F G H r s tm us w r' I hl e Q q => by
  unfold dPop at e
  split at e
  · rename_i l hr
    obtain ⟨t, e1, e⟩ := Option.bind_eq_some_iff.mp e
    cases e
    obtain ⟨l0, rfl⟩ : ∃ l0, l = l0 ++ [t] := by
      have hn : l ≠ [] := fun z => by subst z; cases e1
      refine ⟨l.dropLast, ?_⟩
      rw [List.getLast?_eq_some_getLast hn] at e1
      cases e1
      exact (List.dropLast_concat_getLast hn).symm
    obtain ⟨a, vs, v, z1, z2, J⟩ := I.popped (get_left hr)
    rw [set_left hr, List.append_assoc, List.append_assoc] at J
    rw [List.dropLast_concat] at *
    have lr : (r.set i (.ls l0) ++ tm).length = (s ++ us).length := by have := I.len; simp at this ⊢; omega
    obtain ⟨J1, J2⟩ := res_in J lr
    refine ⟨.ref a, of_left hl hr z1, Or.inl ⟨rfl, _, Or.inl (Or.inl z2)⟩, a, vs ++ [v], v, rfl, rfl, z2, by simp, ?_⟩
    rw [List.dropLast_concat]
    exact q v G _ (Ex.refl G) J1 (by rw [List.length_set]; exact hl) J2
  · cases e
/-- name.clear() -/
def dClear (i : Nat) : ED := fun r => match r[i]? with
  | some (.ls _) => some (.sh .non, r.set i (.ls []))
  | _ => none
theorem de_clear {i : Nat} : DE K (tBM0 K "list" rClear (tVar i)) (dClear i) := fun F G H r s tm us w r' I hl e Q q => by
  unfold dClear at e
  split at e
  · rename_i l hr
    cases e
    obtain ⟨a, vs, z1, z2, J⟩ := I.cleared (get_left hr)
    rw [set_left hr] at J
    exact ⟨.ref a, of_left hl hr z1, Or.inl ⟨rfl, _, Or.inl (Or.inl z2)⟩, a, vs, rfl, rfl, z2, q _ G _ (Ex.refl G) (by simpa only [W.tm, W.vl, List.append_nil] using J) (by rw [List.length_set]; exact hl) .non⟩
  · cases e
/-- name[e], an own list's shared item -/
def dIxO (i : Nat) (f : FD) : ED := fun r => if isLs r[i]? = true then (f r).bind fun p => match p.1, p.2[i]? with
  | .int k, some (.ls l) => (atI l k).bind fun t => match t with
    | .fz d => some (.sh d, p.2)
    | _ => none
  | _, _ => none
  else none
theorem RtL.get {G H : Hp} {l : List T} {ys : List (Option V)} {f : Fp} {j : Nat} {t : T} (h : RtL K G H l ys f) (e : l[j]? = some t) : ∃ y g, ys[j]? = some y ∧ Rt K G H t y g := by
  obtain ⟨y, g, _, b1, b2, _⟩ := h.at e
  exact ⟨y, g, b1, b2⟩
theorem de_ixO {i : Nat} {ti : TE} {f : FD} (h : DF K ti f) : DE K (tOp (rIx K) (tVar i) ti) (dIxO i f) := fun F G H r s tm us w r' I hl e Q q => by
  unfold dIxO at e
  split at e
  case isFalse => cases e
  rename_i hls
  obtain ⟨⟨d, r1⟩, e1, e⟩ := Option.bind_eq_some_iff.mp e
  dsimp only at e
  split at e
  · rename_i k l hr
    obtain ⟨t, e2, e⟩ := Option.bind_eq_some_iff.mp e
    split at e
    · rename_i dd
      cases e
      obtain ⟨l0, hr0⟩ := isLs_of hls
      obtain ⟨a, vs0, f0, z1, z2, _⟩ := I.listAt (get_left hr0)
      refine ⟨.ref a, of_left hl hr0 z1, ?_⟩
      refine h F G H r s tm us _ _ I hl e1 _ fun v G1 H1 x1 I1 l1 hd => ?_
      cases hd
      obtain ⟨b, vs, f1, y1, y2, y3⟩ := I1.listAt (get_left hr)
      have y1' := of_left l1 hr y1
      rw [of_left hl hr0 z1] at y1'
      cases y1'
      unfold L2.atI at e2
      obtain ⟨j, e3, e4⟩ := Option.bind_eq_some_iff.mp e2
      obtain ⟨y, g, e5, e6⟩ := y3.get e4
      cases e6 with | @fz _ v _ q1 =>
        have hlen := y3.length
        rw [List.length_map] at hlen
        rw [List.getElem?_map] at e5
        obtain ⟨v', e7, e8⟩ := Option.map_eq_some_iff.mp e5
        cases e8
        refine Or.inl ⟨a, vs, _, v, rfl, rfl, Or.inl (Or.inl y2), ?_, q _ G1 H1 x1 (by simpa only [W.tm, W.vl, List.append_nil] using I1) l1 q1⟩
        unfold L2.atI
        rw [← hlen, e3]
        exact e7
    · cases e
  · cases e
/-- name[e] = v -/
def gdIx (i : Nat) (f : FD) : GD := fun r t => if isLs r[i]? = true then (f r).bind fun p => match p.1, p.2[i]? with
  | .int k, some (.ls l) => (ixN l.length k).bind fun j => some (p.2.set i (.ls (l.set j t)))
  | _, _ => none
  else none
theorem dg_ix {A : Nat → Bool} {i : Nat} {ti : TE} {f : FD} (h : DF K ti f) : DG K A (L2.gSub (tVar i) ti rSetL) (gdIx i f) := fun F P G H r s t v tm us r' a I hl p e Q q => by
  unfold gdIx at e
  split at e
  case isFalse => cases e
  rename_i hls
  obtain ⟨⟨d, r1⟩, e1, e⟩ := Option.bind_eq_some_iff.mp e
  dsimp only at e
  split at e
  · rename_i k l hr
    obtain ⟨j, e2, e⟩ := Option.bind_eq_some_iff.mp e
    cases e
    obtain ⟨l0, hr0⟩ := isLs_of hls
    obtain ⟨b, vs0, f0, z1, z2, _⟩ := I.listAt (get_left hr0)
    refine ⟨.ref b, of_left hl hr0 z1, ?_⟩
    refine h F G H r s (t :: tm) (some v :: us) _ r1 I hl e1 _ fun v1 G1 H1 x1 I1 l1 hd => ?_
    cases hd
    have tl : tm.length = us.length := by have := I1.len; simp at this; omega
    have I2 : SI K F G1 H1 ((r1 ++ tm) ++ [t]) ((s ++ us) ++ [some v]) := by
      obtain ⟨f, hr1, hf⟩ := I1.own
      obtain ⟨g1, g2, k1, k2, k3, k4, k5⟩ := hr1.split l1
      cases k2 with | @cons _ _ _ _ _ gt ht a1 a2 a3 a4 a5 =>
        have m1 := a2.app k1 fun b hb z => k5 b hb (a4 b z)
        have m2 : RtL K G1 H1 [t] [some v] gt := .cons a1 (h := fun _ => False) .nil (fun b hb => hb) (fun b hb => hb.elim) (fun b _ z => z)
        exact I1.same hf (m2.app m1 fun b hb z => hb.elim (fun w => k5 b w (a3 b z)) fun w => a5 b z w) fun b hb => hb.elim (fun w => w.elim (k3 b) fun w => k4 b (a4 b w)) fun w => k4 b (a3 b w)
    obtain ⟨c, vs, y1, y2, y3, J⟩ := I2.put (by simp; omega) (get_left hr) j
    have y1' := of_left l1 hr y1
    rw [of_left hl hr0 z1] at y1'
    cases y1'
    rw [set_left hr] at J
    exact ⟨b, vs, _, j, rfl, rfl, y2, by rw [← y3]; exact e2, q s G1 _ x1 J (by rw [List.length_set]; exact l1) rfl p⟩
  · cases e
/-! ### slices -/
abbrev PD := Env → Option (Option Int × Env)
def DP (K : PySem.W.Frag) (tp : TO) (f : PD) : Prop := ∀ F G H r s tm us o r', SI K F G H (r ++ tm) (s ++ us) → r.length = s.length → f r = some (o, r') → ∀ Q : Option Int → Hp → Prop, (∀ G' H', Ex G G' → SI K F G' H' (r' ++ tm) (s ++ us) → r'.length = s.length → Q o H') → tp s H Q
def pNo : PD := fun r => some (none, r)
def pAt (f : FD) : PD := fun r => (f r).bind fun p => match p.1 with
  | .int i => some (some i, p.2)
  | _ => none
theorem dp_no : DP K tNoPart pNo := fun F G H r s tm us o r' I hl e Q q => by
  cases e
  exact q G H (Ex.refl G) I hl
theorem dp_at {te : TE} {f : FD} (h : DF K te f) : DP K (tPart te) (pAt f) := fun F G H r s tm us o r' I hl e Q q => by
  obtain ⟨⟨d, r1⟩, e1, e⟩ := Option.bind_eq_some_iff.mp e
  dsimp only at e
  split at e
  · cases e
    refine h F G H r s tm us _ _ I hl e1 _ fun v G1 H1 x1 I1 l1 hd => ?_
    cases hd
    exact ⟨_, rfl, q G1 H1 x1 I1 l1⟩
  · cases e
def cutD (l : List D) (lo hi : Option Int) : List D := (l.drop (HT.sIx l.length 0 lo)).take (HT.sIx l.length l.length hi - HT.sIx l.length 0 lo)
theorem RpL.cut {G : Hp} {l : List D} {vs : List V} (q : RpL K G l vs) (lo hi : Option Int) : RpL K G (cutD l lo hi) (cutV vs lo hi) := by
  unfold cutD cutV
  rw [q.length]
  exact (q.drop _).take _
def DSl (K : PySem.W.Frag) (rl : V → Option Int → Option Int → Hp → VK → Prop) (g : D → Option Int → Option Int → Option Rs) : Prop := ∀ G H x v lo hi z, Sub G H → Rp K G x v → g x lo hi = some z → ∀ Q : VK, RsOk K G H Q z → rl v lo hi H Q
def dSl (g : D → Option Int → Option Int → Option Rs) (f : FD) (lo hi : PD) : ED := fun r => (f r).bind fun p => (lo p.2).bind fun a => (hi a.2).bind fun b => (g p.1 a.1 b.1).bind fun z => some (z.w, b.2)
theorem de_sl {rl : V → Option Int → Option Int → Hp → VK → Prop} {g : D → Option Int → Option Int → Option Rs} {te : TE} {tl th : TO} {f : FD} {lo hi : PD} (hg : DSl K rl g) (h : DF K te f) (h1 : DP K tl lo) (h2 : DP K th hi) : DE K (tSl rl te tl th) (dSl g f lo hi) := fun F G H r s tm us w r' I hl e Q q => by
  obtain ⟨⟨d, r1⟩, e1, e⟩ := Option.bind_eq_some_iff.mp e
  obtain ⟨⟨a, r2⟩, e2, e⟩ := Option.bind_eq_some_iff.mp e
  obtain ⟨⟨b, r3⟩, e3, e⟩ := Option.bind_eq_some_iff.mp e
  obtain ⟨z, e4, e⟩ := Option.bind_eq_some_iff.mp e
  cases e
  refine h F G H r s tm us d r1 I hl e1 _ fun v G1 H1 x1 I1 l1 hd => h1 F G1 H1 r1 s tm us a r2 I1 l1 e2 _ fun G2 H2 x2 I2 l2 => h2 F G2 H2 r2 s tm us b _ I2 l2 e3 _ fun G3 H3 x3 I3 l3 => ?_
  exact hg G3 H3 d v a b z I3.gh (hd.mono (x2.trans x3)) e4 Q (rs_ok I3 l3 fun v G' H' x4 I4 l4 hw => q v G' H' (((x1.trans x2).trans x3).trans x4) I4 l4 hw)
def gSlT : D → Option Int → Option Int → Option Rs
  | .tup l, lo, hi => some (.newT (cutD l lo hi))
  | _, _, _ => none
theorem sl_all {n : Nat} {l : List D} (hn : l.length = n) {lo hi : Option Int} (h1 : HT.sIx n 0 lo = 0) (h2 : HT.sIx n n hi = n) : cutD l lo hi = l := by
  unfold cutD
  rw [hn, h1, h2, ← hn]
  simp
theorem dsl_tup : DSl K (rSlA K) gSlT := fun G H x v lo hi z sb q e Q k => by
  unfold gSlT at e
  split at e
  · cases e
    cases q with | tup a b =>
      refine ⟨_, _, rfl, sub_t trivial sb a, fun z => k.1 _ ?_, fun _ p hp => k.2 p _ hp (b.cut lo hi)⟩
      rw [sl_all b.length z.1 z.2]
      exact .tup a b
  · cases e
def gSlL : D → Option Int → Option Int → Option Rs
  | .lst l, lo, hi => some (.newL (cutD l lo hi))
  | _, _, _ => none
theorem dsl_lst : DSl K (rSlL K) gSlL := fun G H x v lo hi z sb q e Q k => by
  unfold gSlL at e
  split at e
  · cases e
    cases q with | lst a b => exact ⟨_, _, rfl, Or.inl (Or.inl (sub_ex sb a)), fun p hp => k p _ hp (b.cut lo hi)⟩
  · cases e
/-! ### a < b < c -/
def dChain (g g' : List D → Option Rs) (fa fb fc : FD) : ED := fun r => (fa r).bind fun p => (fb p.2).bind fun p2 => (g [p.1, p2.1]).bind fun z => match z with
  | .val (.bl true) => (fc p2.2).bind fun p3 => (g' [p2.1, p3.1]).bind fun z' => some (z'.w, p3.2)
  | .val (.bl false) => some (.sh (.bl false), p2.2)
  | _ => none
theorem de_chain {ta tb tc : TE} {fa fb fc : FD} {rl rl' : R2} {g g' : List D → Option Rs} (ha : DF K ta fa) (hb : DF K tb fb) (hc : DF K tc fc) (h1 : DC K (rl2 rl) g) (h2 : DC K (rl2 rl') g') : DE K (tChain rl rl' ta tb tc) (dChain g g' fa fb fc) := fun F G H r s tm us w r' I hl e Q q => by
  obtain ⟨⟨d1, r1⟩, e1, e⟩ := Option.bind_eq_some_iff.mp e
  obtain ⟨⟨d2, r2⟩, e2, e⟩ := Option.bind_eq_some_iff.mp e
  obtain ⟨z, e3, e⟩ := Option.bind_eq_some_iff.mp e
  refine ha F G H r s tm us d1 r1 I hl e1 _ fun v G1 H1 x1 I1 l1 q1 => hb F G1 H1 r1 s tm us d2 r2 I1 l1 e2 _ fun u G2 H2 x2 I2 l2 q2 => ?_
  refine h1 G2 H2 [d1, d2] [v, u] z I2.gh I2.pl (.cons (q1.mono x2) (.cons q2 .nil)) e3 _ ?_
  dsimp only at e
  split at e
  · obtain ⟨⟨d3, r3⟩, e4, e⟩ := Option.bind_eq_some_iff.mp e
    obtain ⟨z', e5, e⟩ := Option.bind_eq_some_iff.mp e
    cases e
    intro w0 hw0
    cases hw0
    refine ⟨true, rfl, ?_⟩
    rw [if_pos rfl]
    exact hc F G2 H2 r2 s tm us d3 _ I2 l2 e4 _ fun w3 G3 H3 x3 I3 l3 q3 => h2 G3 H3 [d2, d3] [u, w3] z' I3.gh I3.pl (.cons (q2.mono x3) (.cons q3 .nil)) e5 Q (rs_ok I3 l3 fun v G' H' x4 I4 l4 hw => q v G' H' (((x1.trans x2).trans x3).trans x4) I4 l4 hw)
  · cases e
    intro w0 hw0
    cases hw0
    refine ⟨false, rfl, ?_⟩
    rw [if_neg (by decide)]
    exact q _ G2 H2 (x1.trans x2) (by simpa only [W.tm, W.vl, List.append_nil] using I2) l2 (.bl false)
  · cases e
/-! ### name op= e -/
def dAug (i : Nat) (g : List D → Option Rs) (f : FD) : SD := fun r => if isFz r[i]? = true then (f r).bind fun p => match p.2[i]? with
  | some (.fz d) => (g [d, p.1]).bind fun z => match z with
    | .val d' => some (.nx (p.2.set i (.fz d')))
    | _ => none
  | _ => none
  else none
theorem ds_aug {A : Nat → Bool} {X : WX} {i : Nat} {g : List D → Option Rs} {te : TE} {rl : R2} {f : FD} (hA : A i = true) (h : DF K te f) (hg : DC K (rl2 rl) g) : DS K A X (tAug i te rl) (dAug i g f) := fun F P G H r s o a I p e E q => by
  unfold dAug at e
  split at e
  case isFalse => cases e
  rename_i hfz
  obtain ⟨⟨d1, r1⟩, e1, e⟩ := Option.bind_eq_some_iff.mp e
  dsimp only at e
  split at e
  · rename_i d hr
    obtain ⟨z, e2, e⟩ := Option.bind_eq_some_iff.mp e
    cases z with
    | newT l => cases e
    | newL l => cases e
    | val d' =>
      cases e
      obtain ⟨d0, hr0⟩ := isFz_of hfz
      obtain ⟨f0, k0, _⟩ := I.own
      obtain ⟨y, _, k1, k2⟩ := k0.get hr0
      cases k2 with | @fz _ v _ _ =>
        refine ⟨v, k1, h F G H r s [] [] d1 r1 (by simpa only [List.append_nil] using I) I.len e1 _ fun u G1 H1 x1 I1 l1 q1 => ?_⟩
        rw [List.append_nil, List.append_nil] at I1
        obtain ⟨f1, k3, _⟩ := I1.own
        obtain ⟨y, gg, k4, k5⟩ := k3.get hr
        rw [k1] at k4
        cases k4
        cases k5 with | fz qd =>
          refine hg G1 H1 [d, d1] [v, u] _ I1.gh I1.pl (.cons qd (.cons q1 .nil)) e2 _ fun w hw => ?_
          have J := SI.into (tm := []) (us := []) (t := .fz d') (y := some w) (by simpa using I1.fzs (l := [d']) (vs := [w]) (.cons hw .nil)) I1.len i
          exact q _ G1 H1 x1 (by simpa only [List.append_nil] using J) (p.set (a i hA))
  · cases e
end
end Q

set_option Elab.async false
set_option linter.all false
set_option maxRecDepth 100000
set_option maxHeartbeats 2000000
namespace Q
open PySem PySem.Spec PyProof.Rows L2
variable [TbS]
section
variable {K : PySem.W.Frag}
/-! ### walks over two things -/
def zipD (a b : List D) : List D := List.zipWith (fun x y => .tup [x, y]) a b
theorem walk_z {a b : Addr} {l m : List D} {xs ys : List V} {G0 : Hp} (h1 : G0 a = some (.lst xs)) (q1 : RpL K G0 l xs) (h2 : G0 b = some (.lst ys)) (q2 : RpL K G0 m ys) : WalkD K (Itz K a b) (zipD l m) G0 := fun F G H r x xg I i => by
  have s1 : SqL K H a xs := Or.inl (Or.inl (sub_ex I.gh (xg _ _ h1)))
  have s2 : SqL K H b ys := Or.inl (Or.inl (sub_ex I.gh (xg _ _ h2)))
  unfold zipD
  refine ⟨fun d hd => ?_, fun hl => ?_⟩
  · rw [List.getElem?_zipWith] at hd
    cases e1 : l[i]? with
    | none => rw [e1] at hd; cases hd
    | some dx =>
      cases e2 : m[i]? with
      | none => rw [e1, e2] at hd; cases hd
      | some dy =>
        rw [e1, e2] at hd
        cases hd
        obtain ⟨vx, z1, z2⟩ := q1.get e1
        obtain ⟨vy, z3, z4⟩ := q2.get e2
        refine ⟨⟨xs, ys, vx, vy, s1, s2, z1, z3⟩, fun v H' hv => ?_⟩
        obtain ⟨p, x', y', rfl, hp, rfl, k1, k2⟩ := hv
        have := k1 xs s1
        rw [z1] at this
        cases this
        have := k2 ys s2
        rw [z3] at this
        cases this
        have en : Ex G (upd G p (.tup [vx, vy])) := Ex.new (I.Gnone hp)
        exact ⟨_, en, I.laid hp (o := .tup [vx, vy]) (fun _ _ z => HO.noConfusion z), .tup (Or.inl (Or.inl upd_same)) (.cons ((z2.mono xg).mono en) (.cons ((z4.mono xg).mono en) .nil))⟩
  · rw [List.length_zipWith] at hl
    refine ⟨xs, ys, s1, s2, ?_⟩
    rw [← q1.length, ← q2.length]
    omega
def dZip (f : FDs) : ID := fun r => (f r).bind fun p => match p.1 with
  | [.lst a, .lst b] => some (zipD a b, p.2)
  | _ => none
theorem di_zip {ta : TA} {f : FDs} (h : DFs K ta f) : DI K (iZip K ta) (dZip f) := fun F G H r s tm us l r' I hl e R q => by
  obtain ⟨⟨ds, r1⟩, e1, e⟩ := Option.bind_eq_some_iff.mp e
  dsimp only at e
  split at e
  · cases e
    refine h F G H r s tm us _ _ I hl e1 _ fun vs G1 H1 x1 I1 l1 hv => ?_
    cases hv with | cons a hv => cases hv with | cons b hv =>
      cases hv
      cases a with | lst a1 a2 => cases b with | lst b1 b2 =>
        exact ⟨_, _, _, _, rfl, Or.inl (Or.inl (sub_ex I1.gh a1)), Or.inl (Or.inl (sub_ex I1.gh b1)), q _ G1 H1 x1 I1 l1 (walk_z a1 a2 b1 b2)⟩
  · cases e
def enumD (a : List D) : List D := a.zipIdx.map fun p => .tup [.int (p.2 : Nat), p.1]
theorem walk_e {a : Addr} {l : List D} {xs : List V} {G0 : Hp} (h1 : G0 a = some (.lst xs)) (q1 : RpL K G0 l xs) : WalkD K (Ite K a) (enumD l) G0 := fun F G H r x xg I i => by
  have s1 : SqL K H a xs := Or.inl (Or.inl (sub_ex I.gh (xg _ _ h1)))
  unfold enumD
  refine ⟨fun d hd => ?_, fun hl => ?_⟩
  · rw [List.getElem?_map, List.getElem?_zipIdx] at hd
    cases e1 : l[i]? with
    | none => rw [e1] at hd; cases hd
    | some dx =>
      rw [e1] at hd
      cases hd
      obtain ⟨vx, z1, z2⟩ := q1.get e1
      refine ⟨⟨xs, vx, s1, z1⟩, fun v H' hv => ?_⟩
      obtain ⟨p, x', rfl, hp, rfl, k1⟩ := hv
      have := k1 xs s1
      rw [z1] at this
      cases this
      have en : Ex G (upd G p (.tup [.int (i : Nat), vx])) := Ex.new (I.Gnone hp)
      refine ⟨_, en, I.laid hp (o := .tup [.int (i : Nat), vx]) (fun _ _ z => HO.noConfusion z), .tup (Or.inl (Or.inl upd_same)) (.cons ?_ (.cons ((z2.mono xg).mono en) .nil))⟩
      dsimp only
      rw [Nat.zero_add]
      exact .int _
  · rw [List.length_map, List.length_zipIdx] at hl
    exact ⟨xs, s1, by rw [← q1.length]; exact hl⟩
def dEnum (f : FDs) : ID := fun r => (f r).bind fun p => match p.1 with
  | [.lst a] => some (enumD a, p.2)
  | _ => none
theorem di_enum {ta : TA} {f : FDs} (h : DFs K ta f) : DI K (iEnum K ta) (dEnum f) := fun F G H r s tm us l r' I hl e R q => by
  obtain ⟨⟨ds, r1⟩, e1, e⟩ := Option.bind_eq_some_iff.mp e
  dsimp only at e
  split at e
  · cases e
    refine h F G H r s tm us _ _ I hl e1 _ fun vs G1 H1 x1 I1 l1 hv => ?_
    cases hv with | cons a hv =>
      cases hv
      cases a with | lst a1 a2 => exact ⟨_, _, rfl, Or.inl (Or.inl (sub_ex I1.gh a1)), q _ G1 H1 x1 I1 l1 (walk_e a1 a2)⟩
  · cases e
/-! ### the slots of a comprehension -/
def wipeT (r : Env) : List Nat → Env
  | [] => r
  | v :: vs => (wipeT r vs).set v .un
theorem wipeT_len (r : Env) : ∀ vs : List Nat, (wipeT r vs).length = r.length
  | [] => rfl
  | v :: vs => by unfold wipeT; rw [List.length_set, wipeT_len r vs]
theorem SI.reset {F : Fx} {G H : Hp} {r : Env} {s : L2.St} {tm : List T} {us : List (Option V)} (I : SI K F G H (r ++ tm) (s ++ us)) (hl : r.length = s.length) {t : T} {y : Option V} (h : Rt K G H t y (fun _ => False)) (i : Nat) : SI K F G H (r.set i t ++ tm) (s.set i y ++ us) := by
  refine SI.into ?_ hl i
  obtain ⟨f, hr, hf⟩ := I.own
  obtain ⟨g1, g2, k1, k2, k3, k4, k5⟩ := hr.split hl
  have m : RtL K G H (t :: tm) (y :: us) g2 := .cons (g := fun _ => False) h k2 (fun b hb => hb.elim) (fun b hb => hb) (fun b hb => hb.elim)
  exact I.same hf (m.app k1 k5) fun b hb => hb.elim (k3 b) (k4 b)
theorem SI.wiped {F : Fx} {G H : Hp} {r : Env} {s : L2.St} {tm : List T} {us : List (Option V)} (I : SI K F G H (r ++ tm) (s ++ us)) (hl : r.length = s.length) : ∀ vs : List Nat, SI K F G H (wipeT r vs ++ tm) (wipe s vs ++ us)
  | [] => I
  | v :: vs => (SI.wiped I hl vs).reset (by rw [wipeT_len, wipe_length]; exact hl) .un v
theorem wipe_in {s : L2.St} {i : Nat} : ∀ {vs : List Nat}, i ∈ vs → i < s.length → (wipe s vs)[i]? = some none
  | v :: vs, h, hi => by
    unfold wipe
    by_cases c : v = i
    · subst c
      rw [List.getElem?_set_self (by rw [wipe_length]; exact hi)]
    · rw [List.getElem?_set_ne c]
      exact wipe_in ((List.mem_cons.mp h).resolve_left fun z => c z.symm) hi
theorem wipe_same {s s' : L2.St} {vs : List Nat} (hl : s.length = s'.length) (h : ∀ i : Nat, i ∉ vs → s[i]? = s'[i]?) : wipe s vs = wipe s' vs := by
  apply List.ext_getElem?
  intro i
  by_cases c : i ∈ vs
  · by_cases hi : i < s.length
    · rw [wipe_in c hi, wipe_in c (by omega)]
    · rw [List.getElem?_eq_none (by rw [wipe_length]; omega), List.getElem?_eq_none (by rw [wipe_length]; omega)]
  · rw [wipe_out c, wipe_out c]
    exact h i c
theorem of_wipe {s s' : L2.St} {vs : List Nat} (h : wipe s vs = wipe s' vs) {i : Nat} (c : i ∉ vs) : s[i]? = s'[i]? := by
  rw [← wipe_out (vs := vs) c, h, wipe_out c]
theorem wipe_idem {s : L2.St} {vs : List Nat} : wipe (wipe s vs) vs = wipe s vs := wipe_same (by rw [wipe_length]) fun i c => wipe_out c
theorem wipe_len {s s' : L2.St} {vs : List Nat} (h : wipe s vs = wipe s' vs) : s.length = s'.length := by
  rw [← wipe_length s vs, h, wipe_length]
def slotP (r0 : Env) (i : Nat) : T := match r0[i]? with
  | some t => keepP t
  | none => .un
def restore (r0 : Env) : List Nat → Env → Env
  | [], r => r
  | i :: own, r => (restore r0 own r).set i (slotP r0 i)
def resV (s : L2.St) : List Nat → L2.St → L2.St
  | [], x => x
  | i :: own, x => (resV s own x).set i ((s[i]?).getD none)
theorem restore_len {r0 : Env} : ∀ {own : List Nat} {r : Env}, (restore r0 own r).length = r.length
  | [], r => rfl
  | i :: own, r => by unfold restore; rw [List.length_set]; exact restore_len
theorem resV_len {s : L2.St} : ∀ {own : List Nat} {x : L2.St}, (resV s own x).length = x.length
  | [], r => rfl
  | i :: own, r => by unfold resV; rw [List.length_set]; exact resV_len
theorem resV_get {s : L2.St} : ∀ {own : List Nat} {x : L2.St}, x.length = s.length → (∀ i : Nat, i ∉ own → x[i]? = s[i]?) → resV s own x = s
  | [], x, hl, h => List.ext_getElem? fun i => h i (by simp)
  | j :: own, x, hl, h => by
    unfold resV
    apply List.ext_getElem?
    intro i
    by_cases c : j = i
    · subst c
      by_cases hi : j < s.length
      · rw [List.getElem?_set_self (by rw [resV_len]; omega), List.getElem?_eq_getElem hi]
        rfl
      · rw [List.getElem?_eq_none (by rw [List.length_set, resV_len]; omega), List.getElem?_eq_none (by omega)]
    · rw [List.getElem?_set_ne c]
      have : ∀ (ow : List Nat) (y : L2.St), (i ∈ ow → i < y.length → (resV s ow y)[i]? = some ((s[i]?).getD none)) ∧ (i ∉ ow → (resV s ow y)[i]? = y[i]?) := by
        intro ow
        induction ow with
        | nil => intro y; exact ⟨fun z => by simp at z, fun _ => rfl⟩
        | cons k ow ih =>
          intro y
          unfold resV
          by_cases ck : k = i
          · subst ck
            exact ⟨fun _ hi => by rw [List.getElem?_set_self (by rw [resV_len]; exact hi)], fun z => absurd List.mem_cons_self z⟩
          · rw [List.getElem?_set_ne ck]
            exact ⟨fun z hi => (ih y).1 ((List.mem_cons.mp z).resolve_left fun w => ck w.symm) hi, fun z => (ih y).2 fun w => z (List.mem_cons_of_mem _ w)⟩
      by_cases ci : i ∈ own
      · by_cases hi : i < s.length
        · rw [(this own x).1 ci (by omega), List.getElem?_eq_getElem hi]
          rfl
        · rw [List.getElem?_eq_none (by rw [resV_len]; omega), List.getElem?_eq_none (by omega)]
      · rw [(this own x).2 ci]
        exact h i fun z => (List.mem_cons.mp z).elim (fun w => c w.symm) ci
theorem slotP_rt {G G' H H' : Hp} {r0 : Env} {s : L2.St} {f : Fp} (h : RtL K G H r0 s f) (x : Ex G G') (i : Nat) : Rt K G' H' (slotP r0 i) ((s[i]?).getD none) (fun _ => False) := by
  unfold slotP
  cases e : r0[i]? with
  | none => exact .un
  | some t =>
    obtain ⟨y, g, k1, k2⟩ := h.get e
    rw [k1]
    exact keepP_rt k2 x
theorem SI.restored {F : Fx} {G H : Hp} {r : Env} {x : L2.St} {tm : List T} {us : List (Option V)} {G0 H0 : Hp} {r0 : Env} {s : L2.St} {f : Fp} (I : SI K F G H (r ++ tm) (x ++ us)) (hl : r.length = x.length) (h : RtL K G0 H0 r0 s f) (xg : Ex G0 G) : ∀ own : List Nat, SI K F G H (restore r0 own r ++ tm) (resV s own x ++ us)
  | [] => I
  | i :: own => (SI.restored I hl h xg own).reset (by rw [restore_len, resV_len]; exact hl) (slotP_rt h xg i) i
/-! ### comprehensions -/
def dYes : BD := fun r => some (true, r)
theorem dt_yes : DT K tYes dYes := fun F G H r s tm us b r' I hl e Q q => by
  cases e
  exact q G H (Ex.refl G) I hl
def compD (h : GD) (b : BD) (e : MD) (own : List Nat) : List D → Env → List T → Option (List T × Env)
  | [], r, acc => some (acc, r)
  | d :: l, r, acc => (h (wipeT r own) (.fz d)).bind fun r1 => (b r1).bind fun p => if p.1 = true then (e p.2).bind fun q => if acc.length < 1000000 then compD h b e own l q.2 (acc ++ [q.1]) else none else compD h b e own l p.2 acc
theorem comp_core {F : Fx} {J : It} {l : List D} {G0 G H : Hp} {g : TG} {tt : TT} {te : TE} {h : GD} {b : BD} {e : MD} {own : List Nat} {r r' : Env} {acc acc' : List T} {tm : List T} {us : List (Option V)} {Dn : Addr} {σ σ0 : L2.St} {Nx : Hp → Prop}
    (hJ : WalkD K J l G0) (hg : DG K (fun i => own.contains i) g h) (hb : DT K tt b) (he : DM K te e) (e0 : compD h b e own l r acc = some (acc', r')) (I : SI K F G H (r ++ (tm ++ [.ls acc])) (σ0 ++ (us ++ [some (.ref Dn)]))) (x0 : Ex G0 G) (hw0 : wipe σ0 own = wipe σ own) (hl : r.length = σ0.length)
    (done : ∀ G' H' σ', Ex G G' → SI K F G' H' (r' ++ (tm ++ [.ls acc'])) (σ' ++ (us ++ [some (.ref Dn)])) → r'.length = σ'.length → wipe σ' own = wipe σ own → Nx H') :
    ∃ W : Nat → Nat → Hp → Prop, (∃ m, W 0 m H) ∧ ∀ i m H, W i m H → (J.stop i H ∧ Nx H) ∨ (J.go i H ∧ ∃ N : Hp → Prop, (∀ H', N H' → ∃ m', m' < m ∧ W (i + 1) m' H') ∧ ∀ x H', J.yld i H x H' → g x (wipe σ own) H' fun σ2 H2 => wipe σ2 own = wipe σ own ∧ tt σ2 H2 fun b H3 =>
      if b = true then te σ2 H3 fun y H4 => ∃ ac, H4 Dn = some (.lst ac) ∧ ac.length < sizeLine ∧ N (upd H4 Dn (.lst (ac ++ [y]))) else N H3) := by
  refine ⟨fun i m H' => i ≤ l.length ∧ m = l.length - i ∧ ∃ G1 r1 ac σ1, Ex G G1 ∧ SI K F G1 H' (r1 ++ (tm ++ [.ls ac])) (σ1 ++ (us ++ [some (.ref Dn)])) ∧ r1.length = σ1.length ∧ wipe σ1 own = wipe σ own ∧ compD h b e own (l.drop i) r1 ac = some (acc', r'), ⟨l.length, Nat.zero_le _, rfl, G, r, acc, σ0, Ex.refl G, I, hl, hw0, e0⟩, ?_⟩
  rintro i m H1 ⟨hi, rfl, G1, r1, ac, σ1, x1, I1, l1, w1, e1⟩
  by_cases c : i < l.length
  · have hd : l[i]? = some l[i] := List.getElem?_eq_getElem c
    obtain ⟨go, yl⟩ := (hJ F G1 H1 _ _ (x0.trans x1) I1 i).1 _ hd
    rw [List.drop_eq_getElem_cons c] at e1
    obtain ⟨r2, e2, e3⟩ := Option.bind_eq_some_iff.mp (show (h (wipeT r1 own) (.fz l[i])).bind _ = _ from e1)
    obtain ⟨⟨k, r3⟩, e4, e5⟩ := Option.bind_eq_some_iff.mp e3
    refine Or.inr ⟨go, fun H3 => ∃ G3 r3 ac3 σ3, Ex G G3 ∧ SI K F G3 H3 (r3 ++ (tm ++ [.ls ac3])) (σ3 ++ (us ++ [some (.ref Dn)])) ∧ r3.length = σ3.length ∧ wipe σ3 own = wipe σ own ∧ compD h b e own (l.drop (i + 1)) r3 ac3 = some (acc', r'), fun H3 z => ⟨l.length - (i + 1), by omega, c, rfl, z⟩, fun x H2 y => ?_⟩
    obtain ⟨G2, x2, I2, q2⟩ := yl x H2 y
    have J2 := I2.wiped l1 own
    rw [w1] at J2
    have lw : (wipeT r1 own).length = (wipe σ own).length := by rw [wipeT_len, wipe_length, l1, wipe_len w1]
    have J3 : SI K F G2 H2 (wipeT r1 own ++ (.fz l[i]) :: (tm ++ [.ls ac])) (wipe σ own ++ some x :: (us ++ [some (.ref Dn)])) := by
      obtain ⟨f, hr, hf⟩ := J2.own
      obtain ⟨g1, g2, k1, k2, k3, k4, k5⟩ := hr.split lw
      have m : RtL K G2 H2 (.fz l[i] :: (tm ++ [.ls ac])) (some x :: (us ++ [some (.ref Dn)])) g2 := .cons (g := fun _ => False) (.fz q2) k2 (fun b hb => hb.elim) (fun b hb => hb) (fun b hb => hb.elim)
      exact J2.same hf (m.app k1 k5) fun b hb => hb.elim (k3 b) (k4 b)
    refine hg F (fun j => if own.contains j then none else (wipe σ own)[j]?) G2 H2 _ _ (.fz l[i]) x _ _ r2 (fun j hj => by rw [if_pos hj]) J3 lw (fun j v hv => ?_) e2 _ fun s3 G3 H3 x3 I3 l3 m3 p3 => ?_
    · dsimp only at hv
      split at hv
      · cases hv
      · exact hv
    have w3 : wipe s3 own = wipe σ own := by
      rw [← wipe_idem (s := σ)]
      refine wipe_same m3 fun j cj => ?_
      by_cases hj : j < (wipe σ own).length
      · rw [List.getElem?_eq_getElem hj]
        exact p3 j _ (by dsimp only; rw [if_neg (by simpa using cj), List.getElem?_eq_getElem hj])
      · rw [List.getElem?_eq_none (by omega), List.getElem?_eq_none (by omega)]
    refine ⟨w3, ?_⟩
    have xx := (x1.trans x2).trans x3
    refine hb F G3 H3 r2 s3 _ _ k r3 I3 l3 e4 _ fun G4 H4 x4 I4 l4 => ?_
    cases k with
    | false => exact ⟨G4, r3, ac, s3, xx.trans x4, I4, l4, w3, e5⟩
    | true =>
      obtain ⟨⟨t, r5⟩, e6, e7⟩ := Option.bind_eq_some_iff.mp (show (e r3).bind _ = _ from e5)
      dsimp only at e7
      split at e7
      · rename_i cl
        rw [if_pos rfl]
        refine he F G4 H4 r3 s3 _ _ t r5 I4 l4 e6 _ fun y G5 H5 x5 I5 l5 => ?_
        have I6 : SI K F G5 H5 ((r5 ++ (tm ++ [.ls ac])) ++ [t]) ((s3 ++ (us ++ [some (.ref Dn)])) ++ [some y]) := by simpa only [List.append_assoc] using I5
        have lt : tm.length = us.length := by have := I.len; simp at this; omega
        have ix : (r5 ++ (tm ++ [T.ls ac]))[(r5 ++ tm).length]? = some (.ls ac) := by
          rw [← List.append_assoc, List.getElem?_append_right (Nat.le_refl _)]
          simp
        obtain ⟨a, vs, z1, z2, z3, J6⟩ := I6.push (by simp; omega) ix
        have hx : (s3 ++ (us ++ [some (V.ref Dn)]))[(r5 ++ tm).length]? = some (some (.ref Dn)) := by
          rw [← List.append_assoc, List.getElem?_append_right (by simp; omega)]
          simp [l5, lt]
        rw [hx] at z1
        cases z1
        refine ⟨vs, z2, bigl (z3 ▸ cl), G5, r5, ac ++ [t], s3, (xx.trans x4).trans x5, ?_, l5, w3, e7⟩
        rw [← List.append_assoc, List.set_append_right _ _ (Nat.le_refl _)] at J6
        simpa using J6
      · cases e7
  · have ei : i = l.length := by omega
    subst ei
    rw [List.drop_length] at e1
    cases e1
    exact Or.inl ⟨(hJ F G1 H1 _ _ (x0.trans x1) I1 l.length).2 (Nat.le_refl _), done G1 H1 σ1 x1 I1 l1 w1⟩
def dComp (f : ID) (h : GD) (b : BD) (e : MD) (own : List Nat) : ED := fun r => (f r).bind fun p => (compD h b e own p.1 p.2 []).bind fun q => some (.nw (.ls q.1), restore p.2 own q.2)
theorem SI.newList {F : Fx} {G H : Hp} {r : List T} {x : List (Option V)} (I : SI K F G H r x) {p : Addr} (h : H p = none) : SI K F G (upd H p (.lst [])) (r ++ [.ls []]) (x ++ [some (.ref p)]) := SI.pack (ts := []) (vs := []) (by simpa using I) I.len h
theorem comp_end {F : Fx} {G0 G' H0 H' : Hp} {r0 r' : Env} {s σ' : L2.St} {tm : List T} {us : List (Option V)} {acc : List T} {own : List Nat} {y : Option V} (I0 : SI K F G0 H0 (r0 ++ tm) (s ++ us)) (l0 : r0.length = s.length) (xg : Ex G0 G') (I : SI K F G' H' (r' ++ (tm ++ [.ls acc])) (σ' ++ (us ++ [y]))) (hl : r'.length = σ'.length) (w : wipe σ' own = wipe s own) :
    SI K F G' H' (restore r0 own r' ++ (tm ++ [.ls acc])) (s ++ (us ++ [y])) ∧ (restore r0 own r').length = s.length := by
  obtain ⟨f, hr, _⟩ := I0.own
  obtain ⟨g1, _, k1, _⟩ := hr.split l0
  have J := I.restored hl k1 xg own
  rw [resV_get (wipe_len w) fun i c => of_wipe w c] at J
  exact ⟨J, by rw [restore_len, hl, wipe_len w]⟩
theorem de_comp {wi : TI} {g : TG} {tt : TT} {te : TE} {f : ID} {h : GD} {b : BD} {e : MD} {own : List Nat} (hi : DI K wi f) (hg : DG K (fun i => own.contains i) g h) (hb : DT K tt b) (he : DM K te e) : DE K (tLc wi g tt te own) (dComp f h b e own) := fun F G H r s tm us w r' I hl ee Q q => by
  obtain ⟨⟨l, r1⟩, e1, ee⟩ := Option.bind_eq_some_iff.mp ee
  obtain ⟨⟨acc, r2⟩, e2, ee⟩ := Option.bind_eq_some_iff.mp ee
  cases ee
  refine hi F G H r s tm us l r1 I hl e1 _ fun J G1 H1 x1 I1 l1 hJ Dn hD => ?_
  have I2 : SI K F G1 (upd H1 Dn (.lst [])) (r1 ++ (tm ++ [.ls []])) (s ++ (us ++ [some (.ref Dn)])) := by simpa only [List.append_assoc] using I1.newList hD
  exact comp_core hJ hg hb he e2 I2 (Ex.refl G1) rfl l1 fun G' H' σ' xg I3 l3 w3 => by
    obtain ⟨J3, m3⟩ := comp_end I1 l1 xg I3 l3 w3
    exact q _ G' H' (x1.trans xg) J3 m3 trivial
/-- two clauses -/
def comp2D (h : GD) (b : BD) (f1 : ID) (h1 : GD) (b1 : BD) (e : MD) (own own1 : List Nat) : List D → Env → List T → Option (List T × Env)
  | [], r, acc => some (acc, r)
  | d :: l, r, acc => (h (wipeT r own) (.fz d)).bind fun r1 => (b r1).bind fun p => if p.1 = true then (f1 p.2).bind fun q => (compD h1 b1 e own1 q.1 q.2 acc).bind fun z => comp2D h b f1 h1 b1 e own own1 l z.2 z.1 else comp2D h b f1 h1 b1 e own own1 l p.2 acc
def dComp2 (f : ID) (h : GD) (b : BD) (f1 : ID) (h1 : GD) (b1 : BD) (e : MD) (own own1 : List Nat) : ED := fun r => (f r).bind fun p => (comp2D h b f1 h1 b1 e own own1 p.1 p.2 []).bind fun q => some (.nw (.ls q.1), restore p.2 own q.2)
theorem de_comp2 {wi wi1 : TI} {g g1 : TG} {tt tt1 : TT} {te : TE} {f f1 : ID} {h h1 : GD} {b b1 : BD} {e : MD} {own own1 : List Nat} (hv : ∀ i ∈ own1, i ∈ own) (hi : DI K wi f) (hg : DG K (fun i => own.contains i) g h) (hb : DT K tt b) (hi1 : DI K wi1 f1) (hg1 : DG K (fun i => own1.contains i) g1 h1) (hb1 : DT K tt1 b1) (he : DM K te e) :
    DE K (tLc2 wi g tt wi1 g1 tt1 te own own1) (dComp2 f h b f1 h1 b1 e own own1) := fun F G H r s tm us w r' I hl ee Q q => by
  obtain ⟨⟨l, r1⟩, e1, ee⟩ := Option.bind_eq_some_iff.mp ee
  obtain ⟨⟨acc, r2⟩, e2, ee⟩ := Option.bind_eq_some_iff.mp ee
  cases ee
  refine hi F G H r s tm us l r1 I hl e1 _ fun J G1 H1 x1 I1 l1 hJ Dn hD => ?_
  have I2 : SI K F G1 (upd H1 Dn (.lst [])) (r1 ++ (tm ++ [.ls []])) (s ++ (us ++ [some (.ref Dn)])) := by simpa only [List.append_assoc] using I1.newList hD
  refine ⟨fun i m H' => i ≤ l.length ∧ m = l.length - i ∧ ∃ G2 rr ac σ1, Ex G1 G2 ∧ SI K F G2 H' (rr ++ (tm ++ [.ls ac])) (σ1 ++ (us ++ [some (.ref Dn)])) ∧ rr.length = σ1.length ∧ wipe σ1 own = wipe s own ∧ comp2D h b f1 h1 b1 e own own1 (l.drop i) rr ac = some (acc, r2), ⟨l.length, Nat.zero_le _, rfl, G1, r1, [], s, Ex.refl G1, I2, l1, rfl, e2⟩, ?_⟩
  rintro i m H3 ⟨hi, rfl, G3, r3, ac, σ3, x3, I3, l3, w3, e3⟩
  by_cases c : i < l.length
  · have hd : l[i]? = some l[i] := List.getElem?_eq_getElem c
    obtain ⟨go, yl⟩ := (hJ F G3 H3 _ _ x3 I3 i).1 _ hd
    rw [List.drop_eq_getElem_cons c] at e3
    obtain ⟨r4, e4, e5⟩ := Option.bind_eq_some_iff.mp (show (h (wipeT r3 own) (.fz l[i])).bind _ = _ from e3)
    obtain ⟨⟨k, r5⟩, e6, e7⟩ := Option.bind_eq_some_iff.mp e5
    refine Or.inr ⟨go, fun H' => ∃ G2 rr ac σ1, Ex G1 G2 ∧ SI K F G2 H' (rr ++ (tm ++ [.ls ac])) (σ1 ++ (us ++ [some (.ref Dn)])) ∧ rr.length = σ1.length ∧ wipe σ1 own = wipe s own ∧ comp2D h b f1 h1 b1 e own own1 (l.drop (i + 1)) rr ac = some (acc, r2), fun H' z => ⟨l.length - (i + 1), by omega, c, rfl, z⟩, fun x H4 y => ?_⟩
    obtain ⟨G4, x4, I4, q4⟩ := yl x H4 y
    have J2 := I4.wiped l3 own
    rw [w3] at J2
    have lw : (wipeT r3 own).length = (wipe s own).length := by rw [wipeT_len, wipe_length, l3, wipe_len w3]
    have J3 : SI K F G4 H4 (wipeT r3 own ++ (.fz l[i]) :: (tm ++ [.ls ac])) (wipe s own ++ some x :: (us ++ [some (.ref Dn)])) := by
      obtain ⟨ff, hr, hf⟩ := J2.own
      obtain ⟨g1, g2, k1, k2, k3, k4, k5⟩ := hr.split lw
      have m : RtL K G4 H4 (.fz l[i] :: (tm ++ [.ls ac])) (some x :: (us ++ [some (.ref Dn)])) g2 := .cons (g := fun _ => False) (.fz q4) k2 (fun b hb => hb.elim) (fun b hb => hb) (fun b hb => hb.elim)
      exact J2.same hf (m.app k1 k5) fun b hb => hb.elim (k3 b) (k4 b)
    refine hg F (fun j => if own.contains j then none else (wipe s own)[j]?) G4 H4 _ _ (.fz l[i]) x _ _ r4 (fun j hj => by rw [if_pos hj]) J3 lw (fun j v hv => ?_) e4 _ fun s5 G5 H5 x5 I5 l5 m5 p5 => ?_
    · dsimp only at hv
      split at hv
      · cases hv
      · exact hv
    have w5 : wipe s5 own = wipe s own := by
      rw [← wipe_idem (s := s)]
      refine wipe_same m5 fun j cj => ?_
      by_cases hj : j < (wipe s own).length
      · rw [List.getElem?_eq_getElem hj]
        exact p5 j _ (by dsimp only; rw [if_neg (by simpa using cj), List.getElem?_eq_getElem hj])
      · rw [List.getElem?_eq_none (by omega), List.getElem?_eq_none (by omega)]
    refine ⟨w5, ?_⟩
    have xx := (x3.trans x4).trans x5
    refine hb F G5 H5 r4 s5 _ _ k r5 I5 l5 e6 _ fun G6 H6 x6 I6 l6 => ?_
    cases k with
    | false => exact ⟨G6, r5, ac, s5, xx.trans x6, I6, l6, w5, e7⟩
    | true =>
      obtain ⟨⟨l7, r7⟩, e8, e9⟩ := Option.bind_eq_some_iff.mp (show (f1 r5).bind _ = _ from e7)
      obtain ⟨⟨ac8, r8⟩, e10, e11⟩ := Option.bind_eq_some_iff.mp e9
      rw [if_pos rfl]
      refine hi1 F G6 H6 r5 s5 _ _ l7 r7 I6 l6 e8 _ fun J1 G7 H7 x7 I7 l7' hJ1 => ?_
      refine comp_core hJ1 hg1 hb1 he e10 I7 (Ex.refl G7) rfl l7' fun G' H' σ' xg I9 l9 w9 => ?_
      refine ⟨G', r8, ac8, σ', ((xx.trans x6).trans x7).trans xg, I9, l9, ?_, e11⟩
      rw [← w5]
      exact wipe_same (wipe_len w9) fun j cj => of_wipe w9 fun z => cj (hv j z)
  · have ei : i = l.length := by omega
    subst ei
    rw [List.drop_length] at e3
    cases e3
    refine Or.inl ⟨(hJ F G3 H3 _ _ x3 I3 l.length).2 (Nat.le_refl _), ?_⟩
    obtain ⟨J3, m3⟩ := comp_end I1 l1 x3 I3 l3 w3
    exact q _ G3 H3 (x1.trans x3) J3 m3 trivial
end
end Q

set_option Elab.async false
set_option linter.all false
set_option maxRecDepth 100000
set_option maxHeartbeats 2000000
namespace Q
open PySem PySem.Spec PyProof.Rows L2
variable [TbS]
section
variable {K : PySem.W.Frag}
/-! ### isinstance -/
inductive Cl where
  | int | bool | str | tuple | list
def Cl.nm : Cl → String
  | .int => "int"
  | .bool => "bool"
  | .str => "str"
  | .tuple => "tuple"
  | .list => "list"
def D.ty : D → Option String
  | .non => some "NoneType"
  | .bl _ => some "bool"
  | .int _ => some "int"
  | .str _ => some "str"
  | .tup _ => some "tuple"
  | .lst _ => some "list"
  | .scr _ => some "list"
  | .dk _ _ => some "dict"
  | _ => none
def D.isi : D → Cl → Option Bool
  | .non, _ => some false
  | .bl _, .int => some true
  | .bl _, .bool => some true
  | .bl _, _ => some false
  | .int _, .int => some true
  | .int _, _ => some false
  | .str _, .str => some true
  | .str _, _ => some false
  | .tup _, .tuple => some true
  | .tup _, _ => some false
  | .lst _, .list => some true
  | .lst _, _ => some false
  | .scr _, .list => some true
  | .scr _, _ => some false
  | .dk _ _, _ => some false
  | _, _ => none
theorem ty_rp {H : Hp} {d : D} {v : V} {t : String} (h : Rp K H d v) (e : d.ty = some t) : TyX K H v (.type t) := by
  cases h with
  | non => cases e; exact .base .non
  | bl b => cases e; exact .base (.bl b)
  | int i => cases e; exact .base (.int i)
  | str x => cases e; exact .base (.str x)
  | lst a b => cases e; exact .base (.lst a)
  | tup a b =>
    cases e
    rcases a with (a | ⟨o, a⟩) | ⟨o, its, n, a, c, _⟩
    · exact .base (.tup a)
    · exact .fTuple a
    · exact .kTuple a c
  | scr a =>
    cases e
    rcases a with (a | ⟨o, a⟩) | ⟨o, its, n, a, c, _⟩
    · exact .base (.lst a)
    · exact .base (.frz a)
    · exact .kList a c
  | dk a _ _ =>
    cases e
    rcases a with a | ⟨o, a⟩
    · exact .base (.dK a)
    · exact .fDict a
  | dt _ _ _ => cases e
  | exc _ => cases e
  | fnc _ => cases e
theorem isi_kit {d : D} {c : Cl} {b : Bool} (e : d.isi c = some b) : ∃ t, d.ty = some t ∧ kitB t c.nm = some b := by
  cases d <;> cases c <;> first
    | (cases e; exact ⟨_, rfl, by decide +kernel⟩)
    | (cases e)
def dIsi (c : Cl) (f : FD) : ED := fun r => (f r).bind fun p => (p.1.isi c).bind fun b => some (.sh (.bl b), p.2)
theorem de_isi {c : Cl} {te : TE} {f : FD} (h : DF K te f) : DE K (tCB (rIsi K) (tCons te (tCons (tC (.ty c.nm)) tNil))) (dIsi c f) := fun F G H r s tm us w r' I hl e Q q => by
  obtain ⟨⟨d, r1⟩, e1, e⟩ := Option.bind_eq_some_iff.mp e
  obtain ⟨b, e2, e⟩ := Option.bind_eq_some_iff.mp e
  cases e
  refine h F G H r s tm us d _ I hl e1 _ fun v G1 H1 x1 I1 l1 hd => ?_
  obtain ⟨t, z1, z2⟩ := isi_kit e2
  exact ⟨v, .ty c.nm, .type t, .type c.nm, b, rfl, .ty _, ty_rp (Rp.sub I1.pl I1.gh _ _ hd) z1, kit_ty z2, q _ G1 H1 x1 (by simpa only [W.tm, W.vl, List.append_nil] using I1) l1 (.bl b)⟩
/-- isinstance(e, c), e an error that was kept -/
def rIsX (K : PySem.W.Frag) : List V → Hp → VK → Prop := fun xs H Q => ∃ (a c : Addr) (cc : V) (cv : Value) (b : Bool), xs = [.ref a, cc] ∧ Rd H a (EO c a) ∧ ClsV cc cv ∧ ExcC K c ∧ PySem.W.kitOne K (.ref c) cv = some b ∧ Q (.bl b) H
theorem call_isX {X : Cx} : CallR X (.builtin "isinstance") (rIsX X.K) := by
  intro pins s σ H xs us Q I rel told
  obtain ⟨a, c, cc, cv, b, rfl, rd, cl, C, kit, q⟩ := told
  match us, rel with
  | [u1, u2], .cons rx (.cons rt .nil) =>
    cases rx
    have e2 := cl.eq rt
    subst e2
    have ob : ∃ (oe : Obj) (vs : Array Value), s.heap.get? a = some oe ∧ Zc (.ref c) none oe ∧ oe.data = .fields vs := by
      rcases rd with z | ⟨o, z⟩
      · exact (I.hok a _ z).1
      · exact (I.hok a _ z).2.1
    obtain ⟨⟨c0, d0, dat, sl⟩, vs, hget, ⟨z1, z2⟩, z3⟩ := ob
    dsimp only at z1 z2 z3
    subst z1 z2 z3
    have inst : PySem.W.InstAt s.heap a ⟨.ref c, none, .fields vs, sl⟩ c none := ⟨hget, rfl, rfl, trivial⟩
    exact PySem.W.kia_one (PySem.W.handS_kitx_exc C.hg C.hk C.hs C.hd C.ha C.hn C.ht C.hm) I.kIn inst kit (fun z => nomatch z) fun tk => ⟨.bl b, H, I.kept (t' := tk) fun _ _ z => z, rfl, q⟩
open Classical in
noncomputable def dIsX (K : PySem.W.Frag) (cv : Value) (f : FD) : ED := fun r => (f r).bind fun p => match p.1 with
  | .exc c => if ExcC K c then (PySem.W.kitOne K (.ref c) cv).bind fun b => some (.sh (.bl b), p.2) else none
  | _ => none
theorem de_isX {cc : V} {cv : Value} {te : TE} {f : FD} (hc : ClsV cc cv) (h : DF K te f) : DE K (tCB (rIsX K) (tCons te (tCons (tC cc) tNil))) (dIsX K cv f) := fun F G H r s tm us w r' I hl e Q q => by
  obtain ⟨⟨d, r1⟩, e1, e⟩ := Option.bind_eq_some_iff.mp e
  dsimp only at e
  split at e
  · split at e
    · rename_i c hx
      obtain ⟨b, e2, e⟩ := Option.bind_eq_some_iff.mp e
      cases e
      refine h F G H r s tm us _ _ I hl e1 _ fun v G1 H1 x1 I1 l1 hd => ?_
      cases hd with | exc rd => exact ⟨_, c, cc, cv, b, rfl, sub_rd trivial I1.gh rd, hc, hx, e2, q _ G1 H1 x1 (by simpa only [W.tm, W.vl, List.append_nil] using I1) l1 (.bl b)⟩
    · cases e
  · cases e
/-! ### repr -/
def rRep (K : PySem.W.Frag) : List V → Hp → VK → Prop := fun xs H Q => ∃ v x, xs = [v] ∧ Dp K H v x ∧ x.showable = true ∧ x.depth ≤ 190 ∧ x.shown.length ≤ sizeLine ∧ Q (.str x.shown) H
theorem noDict {h : Heap} : ∀ {v : V} {x : PyData}, True → True := fun _ => trivial
mutual
theorem dp_nodict {H : Hp} : ∀ (v : V) (x : PyData), Dp K H v x → x.hasDict = false
  | _, _, .non => by unfold PyData.hasDict; rfl
  | _, _, .bl b => by unfold PyData.hasDict; rfl
  | _, _, .int i => by unfold PyData.hasDict; rfl
  | _, _, .str z => by unfold PyData.hasDict; rfl
  | _, _, .lst h q => by unfold PyData.hasDict; exact dpL_nodict _ _ q
  | _, _, .tup h q => by unfold PyData.hasDict; exact dpL_nodict _ _ q
theorem dpL_nodict {H : Hp} : ∀ (v : List V) (x : List PyData), DpAll K H v x → PyData.hasDictAll x = false
  | _, _, .nil => by unfold PyData.hasDictAll; rfl
  | _, _, .cons h q => by unfold PyData.hasDictAll; rw [dp_nodict _ _ h, dpL_nodict _ _ q]; rfl
end
theorem call_rep {X : Cx} (gu : X.A.guards = some []) {k : Nat} (hr : Room k X.A) : CallR X (.builtin "repr") (rRep X.K) := by
  intro pins s σ H xs us Q I rel told
  obtain ⟨v, x, rfl, dp, sh, dep, len, q⟩ := told
  have un := hr.un
  match us, rel with
  | [u], .cons rx .nil =>
    have leaf : ∀ tk, EP X pins σ Q (.str x.shown tk) { s with toks := s.toks + 1 } := fun tk => ⟨.str x.shown, H, I.tok _, ⟨_, rfl⟩, q⟩
    have nd := dp_nodict _ _ dp
    obtain ⟨as, rd⟩ := Dp.reads I x v u dp rx
    cases dp with
    | non =>
      cases rx
      simp only [PyData.shown] at leaf
      exact call_repr_gives (typeIs_none s) F.slot_NoneType_repr F.entry_NoneType_repr (F.args_NoneType_repr_1 _) gives_none_repr (leaf _) (hx := by decide)
    | bl b =>
      cases rx
      simp only [PyData.shown] at leaf
      exact call_repr_gives (PySem.typeIs_bool s b) F.slot_bool_repr F.entry_bool_repr (F.args_bool_repr_1 _) (gives_bool_repr b) (leaf _) (hx := by cases b <;> decide)
    | int i =>
      obtain ⟨t, rfl⟩ := rx
      simp only [PyData.shown] at leaf
      simp only [PyData.showable, decide_eq_true_eq] at sh
      exact call_repr_gives (typeIs_int s i t) F.slot_int_repr F.entry_int_repr (F.args_int_repr_1 _) (gives_int_repr i t sh) (leaf _) (hx := int_text_fits sh)
    | str z =>
      obtain ⟨t, rfl⟩ := rx
      simp only [PyData.shown] at leaf len
      exact call_repr_gives (typeIs_str s z t) F.slot_str_repr F.entry_str_repr (F.args_str_repr_1 _) (gives_str_repr z t) (leaf _) (hx := len)
    | lst a b =>
      cases rx
      exact repr_of_reads' rd sh (fun z => by rw [nd] at z; cases z) gu (by omega) (fun _ _ z => z) (fun h' t tk kp => ⟨.str _, H, I.kept (t' := tk) kp, ⟨_, rfl⟩, q⟩) len
    | tup a b =>
      cases rx
      exact repr_of_reads' rd sh (fun z => by rw [nd] at z; cases z) gu (by omega) (fun _ _ z => z) (fun h' t tk kp => ⟨.str _, H, I.kept (t' := tk) kp, ⟨_, rfl⟩, q⟩) len
def gRep : List D → Option Rs
  | [a] => a.py.bind fun x => if x.showable = true ∧ x.depth ≤ 190 ∧ x.shown.length ≤ 1000000 then some (.val (.str x.shown)) else none
  | _ => none
theorem dc_rep : DC K (rRep K) gRep := fun G H xs vs z sb pl q e Q k => by
  unfold gRep at e
  split at e
  · obtain ⟨x, e1, e⟩ := Option.bind_eq_some_iff.mp e
    split at e
    · rename_i c
      cases e
      cases q with | cons p q => cases q; exact ⟨_, x, rfl, py_dp _ _ x (Rp.sub pl sb _ _ p) e1, c.1, c.2.1, big c.2.2, k _ (.str _)⟩
    · cases e
  · cases e
end
/-! ### try: .. except x as n: m = n -/
section
variable {X : Cx} {pins : List (Addr × Obj)} {σ : L2.St} {H : Hp} {s : Shared}
theorem Inv.track {a C : Addr} {oe : Obj} {vs : Array Value} (I : Inv X ((a, oe) :: pins) σ H s) (hz : Zc (.ref C) none oe) (hd : oe.data = .fields vs) (hx : X.ex = []) (h0 : X.s_0.heap.get? a = none) (hp : ∀ p ∈ X.pn ++ pins, p.1 ≠ a) : Inv X pins σ (upd H a (EO C a)) s := by
  obtain ⟨hg, hn, nl, nf, nc⟩ := I.pin (a, oe) (List.mem_append.mpr (Or.inr List.mem_cons_self))
  have was : ∀ b o, H b = some o → upd H a (EO C a) b = some o := fun b o e => by rw [upd_ne (ne_of_none e hn)]; exact e
  refine ⟨I.ok, I.os, I.bare, ⟨I.base.keep, I.base.slot, fun b o e1 e2 e3 => ?_, I.base.there, fun b xs e => was _ _ (I.base.tups b xs e), fun b o u e => was _ _ (I.base.frzs b o u e), fun b ps e => ?_⟩, I.loc, I.cell, ?_, fun x c e => ?_, fun p hpm => ?_, ?_, I.len⟩
  · rw [upd_ne fun z => by subst z; rw [h0] at e1; cases e1]
    exact I.base.free b o e1 e2 e3
  · obtain ⟨more, z⟩ := I.base.tbls b ps e
    exact ⟨more, was _ _ z⟩
  · rw [upd_ne fun z => nl z.symm]
    exact I.free
  · rw [upd_ne fun z => ?_]
    · exact I.freeC x c e
    · subst z
      obtain ⟨v, oc, z1, z3⟩ := I.cell x c e
      rw [show s.heap.get? c = some oe from hg] at z1
      cases z1
      exact nc v z3
  · obtain ⟨z1, z2, z3⟩ := I.pin p (by
      rcases List.mem_append.mp hpm with z | z
      · exact List.mem_append.mpr (Or.inl z)
      · exact List.mem_append.mpr (Or.inr (List.mem_cons_of_mem _ z)))
    exact ⟨z1, by rw [upd_ne (hp p hpm)]; exact z2, z3⟩
  · exact I.hok.laidN (fun _ _ z => z) hn ⟨⟨oe, vs, hg, hz, hd⟩, ⟨oe, hg⟩, fun h1 h2 ⟨o, w, k1, k2, k3⟩ k => ⟨o, w, k o k1, k2, k3⟩⟩
end
/-- what 'except x as n: m = n' wishes of an error of the body that x takes -/
def wKeep (K : PySem.W.Frag) (c : Value) (i : Nat) (tsu : TS) (D : Ends) : WX := fun cls d σ H => PySem.W.exmOne K cls c = some true ∧ d = none ∧ ∃ C : Addr, cls = .ref C ∧ ∀ a, H a = none → tsu { nx := fun σ' H' => H' a = none ∧ D.nx (σ'.set i none) (upd H' a (EO C a)), rt := fun _ _ => False } (σ.set i (some (.ref a))) H
def tTry (tb : WX → TS) (K : PySem.W.Frag) (c : Value) (i : Nat) (tsu : TS) : TS := fun D σ H => tb (wKeep K c i tsu D) D σ H
section
variable {X : Cx} {x n : Str} {c : Value} {i : Nat} {body suite : List Stmt} {b₀ : Stmt} {np pos pos' : Pos} {tb : WX → TS} {tsu : TS}
theorem ps_keep (hs : X.stack = X.env :: X.outer) (hf : X.env.frame = some X.env.locals) (hex : X.ex = []) (hN : X.N.Nodup) (hi : X.N[i]? = some n) (hln : X.env.kindOf n = some .local) (hc : Names X x c)
    (hb : ∀ (U : WX) (pn : List (Addr × Obj)) (xe : Value → Shared → Prop), Takes (X.tr pn xe) U → PassesOwn (model X.prog X.w) X.A X.env xe → PSs (X.tr pn xe) body (tb U))
    (hsu : ∀ (a : Addr) (oe : Obj) (cls : Value) (d : Option Addr) (pn : List (Addr × Obj)), Zc cls d oe → (∃ vs, oe.data = .fields vs) → PSs (X.suite a ((a, oe) :: pn)) (b₀ :: suite) tsu) :
    PS X (.Try body [.ExceptHandler (some (.Name x np)) (some n) (b₀ :: suite) pos'] [] [] pos) (tTry tb X.K c i tsu) := by
  refine ⟨fun pins s σ H D I told => wpAny_Try_except ?_⟩
  have ok := I.ok
  have frames : X.A.frames = some (X.env :: X.outer) := by rw [ok.frames, hs]
  refine wpAny_mono ((hb (wKeep X.K c i tsu D) (X.pn ++ pins) _ ?caught PassesOwn.looking).run [] s σ H D (I.toTry _) told) (fun f s1 hsp => ?through) (fun e s1 he => he)
  case through =>
    cases f with
    | next => obtain ⟨σ', H', J, z⟩ := hsp; exact wpAny_execs_nil ⟨σ', H', J.ofTry ok, z⟩
    | brk => obtain ⟨σ', H', J, z⟩ := hsp; exact ⟨σ', H', J.ofTry ok, z⟩
    | cont => obtain ⟨σ', H', J, z⟩ := hsp; exact ⟨σ', H', J.ofTry ok, z⟩
    | ret u => obtain ⟨v, σ', H', J, rv, z⟩ := hsp; exact ⟨v, σ', H', J.ofTry ok, rv, z⟩
  case caught =>
    intro u s' air
    obtain ⟨a, B, sI, pins', σ', H', cls, d, rfl, J', nb, up, sky, na, os, ag, hit, rfl, C, rfl, wish⟩ := air
    have J : Inv X pins σ' H' sI := J'.ofTry ok
    have gone : B.get? a = none := by
      rcases sky with ⟨_, z, _⟩ | z | z
      · exact z
      · exact z.2.1
      · exact z.2.1
    rw [hs] at sky
    show wpAny (model X.prog X.w) X.A (noteFrame (.ref a) X.env) _ _ _
    refine Sky.land Zc.steady frames hf sky fun h3 fl3 up3 => ?_
    obtain ⟨oe3, vs3, at3, z3, d3⟩ := fl3.there
    have J3 : Inv X pins σ' H' { s' with heap := h3 } := J.landed nb fl3.1 (up.trans up3) os ag
    have noFrame : a ∉ frs (X.env :: X.outer) := fun hm => by
      obtain ⟨_, o1, g1, nofl⟩ := fl3.2.2.1.mem hm
      rw [at3] at g1
      cases g1
      exact nofl _ d3
    have nL : a ≠ X.env.locals := fun z => noFrame (List.mem_filterMap.mpr ⟨X.env, List.mem_cons_self, by rw [hf, z]⟩)
    have nF : a ∉ X.fs := fun hm => noFrame (by
      obtain ⟨e, he, z⟩ := List.mem_filterMap.mp hm
      exact List.mem_filterMap.mpr ⟨e, List.mem_cons_of_mem _ he, z⟩)
    have newI : sI.heap.get? a = none := by
      cases z : sI.heap.get? a with
      | none => rfl
      | some o =>
        have := nb a o z (by rw [hs]; exact noFrame)
        rw [gone] at this
        cases this
    have new0 : X.s_0.heap.get? a = none := by
      cases z : X.s_0.heap.get? a with
      | none => rfl
      | some o =>
        obtain ⟨o', w⟩ := J.base.there a o z (by rw [hex]; simp)
        rw [newI] at w
        cases w
    have apart : ∀ p ∈ X.pn ++ pins, p.1 ≠ a := fun p hp z => by
      have := (J.pin p hp).1
      rw [z, newI] at this
      cases this
    have S3 := J3.suite at3 d3 na nL nF
    refine wpAny_handleBy_cons (codeAny_handlers_test ?_) (by intro z; cases z)
    have ty : PySem.W.Looks (model X.prog X.w) h3 (typeOf (.ref a)) (.ref C) := fun A Q E s k q => wpAny_typeOf_ref (k _ _ at3) (by rw [z3.1]; exact q)
    have takes := PySem.W.exm_one (M := model X.prog X.w) J3.kIn ty hit
    have name : ∀ {Q : Value → Shared → Prop} {E : Value → Shared → Prop}, Q c { s' with heap := h3 } → wpAny (model X.prog X.w) (X.A.mark (some (.ref a))) (eval (.Name x np) X.env) Q E { s' with heap := h3 } := fun {Q E} q => by
      obtain ⟨gl, db, m | ⟨m, bl, nn⟩⟩ := hc
      · exact ld_glob (X := X.suite a ((a, oe3) :: (X.pn ++ pins))) S3 gl m q db
      · exact ld_blt (X := X.suite a ((a, oe3) :: (X.pn ++ pins))) S3 gl m bl q nn db
    refine name (takes.here (codeAny_handlers_suite_as ?_))
    refine HandSPX.lands_againZ fl3 fun h4 fl4 up4 => ?_
    obtain ⟨oe4, vs4, at4, z4, d4⟩ := fl4.there
    have J4 : Inv X pins σ' H' { s' with heap := h4 } := J.landed nb fl4.1 ((up.trans up3).trans up4) os ag
    refine store_ok (X := X.suite a ((a, oe4) :: (X.pn ++ pins))) (v := .ref a) (J4.suite at4 d4 na nL nF) hN hi (Or.inl hln) rfl (fun s5 S5 => ?_) (Or.inr hln)
    refine wpAny_mono ((hsu a oe4 (.ref C) none (X.pn ++ pins) z4 ⟨_, d4⟩).run [] s5 _ H' _ S5 (wish a na)) (fun f s6 hsp => ?_) (fun _ _ z => z.elim)
    cases f with
    | brk => obtain ⟨_, _, _, z⟩ := hsp; exact z.elim
    | cont => obtain ⟨_, _, _, z⟩ := hsp; exact z.elim
    | ret u => obtain ⟨_, _, _, _, _, z⟩ := hsp; exact z.elim
    | next =>
      obtain ⟨σ6, H6, S6, free6, z6⟩ := hsp
      have p6 := S6.pin (a, oe4) (List.mem_append.mpr (Or.inl List.mem_cons_self))
      have J6 : Inv X pins σ6 H6 s6 := S6.unsuite ok
      have K6 : Inv X ((a, oe4) :: pins) σ6 H6 s6 := J6.pins_of fun p hp => by
        · rcases List.mem_cons.mp hp with w | w
          · subst w; exact ⟨p6.1, p6.2.1, nL, nF, fun v => by rw [d4]; exact fun z => nomatch z⟩
          · exact J6.pin p (List.mem_append.mpr (Or.inr w))
      exact gone_ok K6 hN hi hln fun s7 K7 => ⟨_, _, Q.Inv.track K7 z4 d4 hex new0 apart, z6⟩
end
section
variable {K : PySem.W.Frag}
def dTry (K : PySem.W.Frag) (c : Value) (i j : Nat) (g : SD) : SD := fun r => (g r).bind fun o => match o with
  | .ex cc r1 => if PySem.W.exmOne K (.ref cc) c = some true ∧ i < r1.length ∧ i ≠ j then some (.nx (((r1.set i .un).set j (.fz (.exc cc))).set i .un)) else none
  | o => some o
theorem ds_keep {A : Nat → Bool} {X : WX} {c : Value} {i j : Nat} {tb : WX → TS} {g : SD} (hi : A i = true) (hj : A j = true) (h : ∀ U, DS K A U (tb U) g) : DS K A X (tTry tb K c i (tAsg (tVar i) (gName j))) (dTry K c i j g) := fun F P G H r s o a I p e E q => by
  obtain ⟨o1, e1, e⟩ := Option.bind_eq_some_iff.mp e
  refine h _ F P G H r s o1 a I p e1 E ?_
  cases o1 with
  | nx r1 => cases e; exact q
  | rt w r1 => cases e; exact q
  | bk r1 => cases e; exact q
  | ct r1 => cases e; exact q
  | ex cc r1 =>
    dsimp only at e
    split at e
    · rename_i hc
      cases e
      intro s' G' H' xg I' p'
      refine ⟨hc.1, rfl, cc, rfl, fun b hb => ?_⟩
      have l1 := I'.len
      refine ⟨.ref b, List.getElem?_set_self (by omega), hb, ?_⟩
      have en : Ex G' (upd G' b (EO cc b)) := Ex.new (I'.Gnone hb)
      have I1 := I'.laid hb (o := EO cc b) (fun _ _ z => HO.noConfusion z)
      have I2 : SI K F (upd G' b (EO cc b)) (upd H' b (EO cc b)) (r1 ++ []) (s' ++ []) := by simpa only [List.append_nil] using I1
      have I3 := I2.reset l1 (t := .un) (y := some (.ref b)) .un i
      have I4 := I3.reset (by simp; exact l1) (t := .fz (.exc cc)) (y := some (.ref b)) (.fz (.exc (Or.inl upd_same))) j
      have I5 := I4.reset (by simp; exact l1) (t := .un) (y := none) .un i
      refine q _ _ _ (xg.trans en) (by simpa only [List.append_nil] using I5) ?_
      exact ((p'.set (a i hi)).set (a j hj)).set (a i hi)
    · cases e
end
end Q

set_option Elab.async false
set_option linter.all false
set_option maxRecDepth 100000
set_option maxHeartbeats 2000000
namespace Q
open PySem PySem.Spec PyProof.Rows L2
variable [TbS]
/-- the caller's heap knows the script alone, if it knows anything -/
def scriptH (K : PySem.W.Frag) (a : Addr) (vs : List Value) (ns : List Int) : Hp := fun b => if b = a ∧ K.lookup a = none then some (.frz { cls := .type "list", data := .seq vs.toArray } (.lst (ns.map V.int))) else none
omit [TbS] in
theorem scriptH_some {K : PySem.W.Frag} {a b : Addr} {vs : List Value} {ns : List Int} {o : HO} (h : scriptH K a vs ns b = some o) : b = a ∧ K.lookup a = none ∧ o = .frz { cls := .type "list", data := .seq vs.toArray } (.lst (ns.map V.int)) := by
  unfold scriptH at h
  split at h
  · rename_i c; cases h; exact ⟨c.1, c.2, rfl⟩
  · cases h
theorem law_g {P : Program} {w : World} {K : PySem.W.Frag} {mg mb : Str → Option Value} {k : Nat} {fa a : Addr} {fd : FuncData} {x : Str} {sp : Sp} {s₁ : Shared} {vs : List Value} {ns : List Int}
    (KX : K.In s₁.heap) (hns : s₁.heap.Ns mainGlobals mg) (hb : s₁.heap.Ns builtinsNs mb) (hbb : ∀ x : Str, x ≠ "__name__" → mb x = bootBuiltins x) (hlim : s₁.heap.NoLimit) (hg : s₁.gens = #[])
    (ha : s₁.heap.get? a = some { cls := .type "list", data := .seq vs.toArray }) (hi : IntsAre vs ns) (hl : ns.length ≤ sizeLine) (hr : Room k callerA)
    (F : ∀ base : Heap, K.In base → base.Ns mainGlobals mg → FnG P w K mg base k fa fd [x] sp) (hbind : ∀ (s : Shared) (u : Value), BindsTo s fd ⟨[u], []⟩ [(x, u)])
    (hsp : ∀ H : Hp, SqL K H a (ns.map V.int) → sp [.ref a] H (fun v _ => v = .bl true) fun _ _ _ => False) :
    codeAny (model P w) callerA (.call (.ref fa) ⟨[.ref a], []⟩) (fun r s' => r = .ok (.ret (.bool true)) ∧ OldK s₁.heap s'.heap ∧ s'.os = s₁.os ∧ AllBare s'.gens) s₁ := by
  have rv := vals_ints hi
  have lenV := hi.length
  generalize hH : scriptH K a vs ns = H
  have known : ∀ {b : Addr} {o : HO}, H b = some o → b = a ∧ K.lookup a = none ∧ o = .frz { cls := .type "list", data := .seq vs.toArray } (.lst (ns.map V.int)) := fun {b o} e => by
    rw [← hH] at e
    exact scriptH_some e
  have ok : HOk P w H s₁.heap := fun b o e => by
    obtain ⟨rfl, _, rfl⟩ := known e
    exact ⟨ha, by rw [List.length_map]; exact hl, vs, _, rv, ha⟩
  have sq : SqL K H a (ns.map V.int) := by
    cases c : K.lookup a with
    | none => exact Or.inl (Or.inr ⟨_, by rw [← hH]; unfold scriptH; rw [if_pos ⟨rfl, c⟩]⟩)
    | some o =>
      have z := KX a o c
      rw [ha] at z
      cases z
      exact Or.inr ⟨_, vs.toArray, _, c, rfl, rfl, rfl, by rw [List.size_toArray, lenV]; exact hl, by simpa using rv⟩
  have free : ∀ {b : Addr} {o : Obj}, K.lookup b = some o → H b = none := fun {b o} e => by
    cases q : H b with
    | none => rfl
    | some u =>
      obtain ⟨rfl, z, _⟩ := known q
      rw [e] at z
      cases z
  have names : ∀ {b : Addr} {m : Str → Option Value}, s₁.heap.Ns b m → (hidT s₁.heap H).Ns b m := fun {b m} ⟨o, es, ep, e, d, z⟩ => ⟨o, es, ep, hidT_get e (by
    cases q : H b with
    | none => rfl
    | some u =>
      obtain ⟨rfl, _, _⟩ := known q
      rw [ha] at e
      cases e
      exact nomatch (show Data.seq vs.toArray _ = Data.dict es ep from d)), d, z⟩
  have kin : K.In (hidT s₁.heap H) := fun b o e => hidT_get (KX b o e) (free e)
  obtain ⟨mc, n1, n2⟩ := hlim
  have e0 : Env0 P w K mg (hidT s₁.heap H) callerA [] s₁ H :=
    { frames := rfl, mod := ⟨kin, names hns, ⟨mb, names hb, hbb⟩, ⟨mc, names n1, n2⟩⟩, bs := fun b o e => of_hidT e, bsz := Nat.le_of_eq (hidT_size _ _), funs := trivial, frf := fun b z => absurd (show b ∈ ([] : List Addr) from z) (by simp), hok := ok, bare := .of_eq hg }
  refine codeAny_mono ((F _ kin (names hns)).run callerA [] s₁ H ⟨[.ref a], []⟩ [.ref a] [.ref a] _ _ hr rfl e0 (hbind s₁ (.ref a)) (.cons rfl .nil) (hsp H sq)) fun r s' told => ?_
  match r, told with
  | .error e, told =>
    obtain ⟨_, _, _, _, _, _, _, _, _, _, _, _, z⟩ := told
    exact z.elim
  | .ok (.ret u), ⟨v, H', os, bare, un, ok', rel, z⟩ =>
    have z' : v = .bl true := z
    subst z'
    obtain rfl : u = Value.bool true := rel
    refine ⟨rfl, OldK.of_keep fun b o e => ?_, os, bare⟩
    cases q : H b with
    | none => exact un.keep b o e q (fun z => absurd (show b ∈ ([] : List Addr) from z) (by simp)) (by simp)
    | some u =>
      obtain ⟨rfl, _, rfl⟩ := known q
      obtain ⟨e1, _⟩ := ok b _ q
      obtain ⟨e2, _⟩ := ok' b _ (un.frzs b _ _ q)
      rw [e] at e1
      cases e1
      exact e2
theorem walk_g {l : PySem.W.OpenLaw} {n k : Nat} {q : Program} {loose : List Str} {XP : (Str → Option Value) → Heap → Prop} {YP : World → Heap → Prop} {d : DefRec} {K : Params → PySem.W.Frag} {x : Str}
    (hn : l.most = some n) (hn2 : n ≤ sizeLine) (hdf : d.params.defaults = []) (hr : Room k callerA) (hY : ∀ (w : World) (h : Heap), YP w h → (K w.params).In h)
    (F : ∀ (w : World) (mg : Str → Option Value) (fa : Addr) (h : Heap), (K w.params).In h → h.Ns mainGlobals mg → mg d.name = some (.ref fa) →
      ∃ fd : FuncData, (∀ (s : Shared) (u : Value), BindsTo s fd ⟨[u], []⟩ [(x, u)]) ∧ ∃ sp : Sp, (∀ base : Heap, (K w.params).In base → base.Ns mainGlobals mg → FnG l.prog w (K w.params) mg base k fa fd [x] sp) ∧
        ∀ (H : Hp) (a : Addr) (ns : List Int), ns.length ≤ n → SqL (K w.params) H a (ns.map V.int) → sp [.ref a] H (fun v _ => v = .bl true) fun _ _ _ => False) :
    PySem.W.WalkO q loose XP YP l.row.toRowW d [] (fun f vs => PySem.call f vs) := by
  refine Att.attach_call hn hdf fun w s₀ s₁ mg mb fa o pm cd doc a vs ns G Y ho hd hcd hmg hobj hints hlen hg => ?_
  obtain ⟨fd, bind, sp, prom, met⟩ := F w mg fa _ (hY w _ Y) G.T.g hmg
  exact law_g (hY w _ Y) G.T.g G.T.b G.T.builtins G.T.nolimit hg hobj hints (Nat.le_trans hlen hn2) hr prom bind fun H hS => met H a ns hlen hS
open Classical in
/-- what stands but the tables -/
noncomputable def noTb (H : Hp) : Hp := fun b => if TbS.tb b then none else H b
theorem noTb_of {H : Hp} {b : Addr} {o : HO} (h : noTb H b = some o) : H b = some o ∧ ¬ TbS.tb b := by
  unfold noTb at h
  split at h
  · cases h
  · rename_i c; exact ⟨h, c⟩
theorem noTb_in {H : Hp} {b : Addr} (c : ¬ TbS.tb b) : noTb H b = H b := by unfold noTb; rw [if_neg c]
/-- the law's worth is True at the script: that is its promise -/
theorem law_sp {K : PySem.W.Frag} {fn : FnT} {H : Hp} {a : Addr} {ns : List Int} {ps' : List T} (hS : SqL K H a (ns.map V.int)) (hT : ∀ b, TbS.tb b → GxR.TabG H b) (e : fn [.fz (.scr ns)] = some (.ret (.fz (.bl true)), ps')) (hl : ps'.length = 1) : spD K 1 fn [.ref a] H (fun v _ => v = .bl true) fun _ _ _ => False := by
  have hS' : SqL K (noTb H) a (ns.map V.int) := by
    rcases hS with h | h
    · have nt : ¬ TbS.tb a := fun t => by
        obtain ⟨ps, q, _⟩ := hT a t
        rcases h with h | ⟨o, h⟩ <;> (rw [h] at q; cases q)
      exact Or.inl (by unfold Rd; rw [noTb_in nt]; exact h)
    · exact Or.inr h
  refine ⟨rfl, noTb H, fun _ => False, [.fz (.scr ns)], _, ps', e, ⟨.cons (g := fun _ => False) (h := fun _ => False) (.fz (.scr hS')) .nil (fun b hb => hb) (fun b hb => hb) (fun b hb => hb.elim), fun b hb => hb.elim, fun _ _ z => Or.inl (noTb_of z).1, trivial, hT, fun b t => by unfold noTb; rw [if_pos t]⟩, fun v G' H' En => ?_⟩
  obtain ⟨f', rt, _⟩ := En.rt
  obtain ⟨_, _, _, k2, _⟩ := rt.split (by simpa using hl)
  cases k2 with | cons a1 _ _ _ _ => cases a1 with | fz q => cases q; rfl
/-! ### a def by its name -/
structure FnE (P : Program) (w : World) (K : PySem.W.Frag) (mg : Str → Option Value) (base : Heap) (k : Nat) (x : Str) (ps : List Str) (fn : FnT) : Prop where
  ex : ∃ f fd, FnG P w K mg base k f fd ps (spD K ps.length fn) ∧ mg x = some (.ref f) ∧ PySem.W.keepIn K (.ref f) = true ∧ Binds K fd ps []
  len : ∀ qs z, fn qs = some z → qs.length = ps.length
section
variable {X : Cx} {k : Nat} {x : Str} {ps : List Str} {fn : FnT} {E : L2.St → XK} {p pos : Pos} {e : Expr} {es : List Expr} {t : TA}
theorem pe_fnE (Ef : FnE X.prog X.w X.K X.mg X.base k x ps fn) (hr : Room k X.A) (gu : X.A.guards = some []) (hg : Gl X x) (hx : ∀ σ, PassesAt (L2.CX X.prog X.w) X σ (E σ))
    (ha : PA X (e :: es) t) (hdb : (x == ("__debug__" : Str)) = false := by decide) (he : starEach (e :: es) X.env = (false, eval e X.env) :: starEach es X.env := by rfl) (hpl : (backTo pos (starEach es X.env)).any (·.1) = false := by rfl) :
    PE X (.Call (.Name x p) (e :: es) [] pos) (tCallS (spD X.K ps.length fn) E t) := by
  obtain ⟨f, fd, G, hm, hk, hb⟩ := Ef.ex
  exact pe_fn G hr gu hg hm hk hb hx ha hdb he hpl
end
theorem kit_ref {K : PySem.W.Frag} {c d : Addr} {b : Bool} (h1 : PySem.W.hasDictIn K d = true) (h2 : PySem.W.typeIn K (.ref d) = some (.type "type")) (h3 : PySem.W.subIn K (.ref c) (.ref d) = some b) (h4 : c = d → b = true) : PySem.W.kitOne K (.ref c) (.ref d) = some b := by
  unfold PySem.W.kitOne
  split
  · rename_i z
    rw [h4 (Value.ref.inj (beq_iff_eq.mp z))]
  · obtain ⟨cd, hc, _⟩ := PySem.W.any_some h1
    unfold PySem.W.kitCls
    dsimp only
    rw [if_pos (by rw [hc, h2]; rfl)]
    exact h3
theorem kit_typ {K : PySem.W.Frag} {c : Addr} {n : String} {b : Bool} (h : PySem.W.kitMeta n = true) (h3 : PySem.W.subIn K (.ref c) (.type n) = some b) : PySem.W.kitOne K (.ref c) (.type n) = some b := by
  unfold PySem.W.kitOne
  rw [if_neg (by intro z; cases beq_iff_eq.mp z)]
  unfold PySem.W.kitCls
  dsimp only
  rw [if_pos h]
  exact h3
theorem dt_test {K : PySem.W.Frag} {te : TE} {f : FD} (h : DF K te f) : DT K (tTest te) (dBl f) := fun F G H r s tm us b r' I hl e Q q => dt_bl h F G H r s tm us b r' I hl e Q q
end Q

set_option Elab.async false
set_option linter.all false
set_option maxRecDepth 100000
set_option maxHeartbeats 2000000
namespace Q
open PySem PySem.Spec PyProof.Rows L2

/-! ### reckoning with what a def is worth -/
theorem seq_nx {g h : SD} {r r1 : Env} (e : g r = some (.nx r1)) : dSeq g h r = h r1 := by unfold dSeq; rw [e]; rfl
theorem seq_rt {g h : SD} {r r1 : Env} {w : W} (e : g r = some (.rt w r1)) : dSeq g h r = some (.rt w r1) := by unfold dSeq; rw [e]; rfl
theorem seq_ex {g h : SD} {r r1 : Env} {c : Addr} (e : g r = some (.ex c r1)) : dSeq g h r = some (.ex c r1) := by unfold dSeq; rw [e]; rfl
theorem fn_rt {n N : Nat} {fx : List Bool} {b : SD} {ps : List T} {d : D} {r : Env} (hl : ps.length = n) (e : b (ps ++ List.replicate (N - n) .un) = some (.rt (.sh d) r)) (h : n ≤ r.length) : fnD n N fx b ps = some (.ret (.fz d), outP fx ps r) := by
  unfold fnD
  rw [if_pos hl, e]
  simp [retW, h]
theorem fn_nw {n N : Nat} {fx : List Bool} {b : SD} {ps : List T} {t : T} {r : Env} (hl : ps.length = n) (e : b (ps ++ List.replicate (N - n) .un) = some (.rt (.nw t) r)) (h : n ≤ r.length) : fnD n N fx b ps = some (.ret t, outP fx ps r) := by
  unfold fnD
  rw [if_pos hl, e]
  simp [retW, h]
theorem fn_nx {n N : Nat} {fx : List Bool} {b : SD} {ps : List T} {r : Env} (hl : ps.length = n) (e : b (ps ++ List.replicate (N - n) .un) = some (.nx r)) (h : n ≤ r.length) : fnD n N fx b ps = some (.ret (.fz .non), outP fx ps r) := by
  unfold fnD
  rw [if_pos hl, e]
  simp [h]
theorem fn_ex {n N : Nat} {fx : List Bool} {b : SD} {ps : List T} {c : Addr} {r : Env} (hl : ps.length = n) (e : b (ps ++ List.replicate (N - n) .un) = some (.ex c r)) (h : n ≤ r.length) : fnD n N fx b ps = some (.exc c, outP fx ps r) := by
  unfold fnD
  rw [if_pos hl, e]
  simp [h]
/-- a comprehension that tells a thing of each item -/
theorem comp_map {h : GD} {e : MD} {own : List Nat} {P : Env → Prop} {g : D → T} : ∀ (l : List D) (r : Env) (acc : List T), (∀ d ∈ l, ∀ r, P r → ∃ r1 r2, h (wipeT r own) (.fz d) = some r1 ∧ e r1 = some (g d, r2) ∧ P r2) → P r → acc.length + l.length ≤ 1000000 →
    ∃ r', compD h dYes e own l r acc = some (acc ++ l.map g, r') ∧ P r'
  | [], r, acc, _, p, _ => ⟨r, by simp [compD], p⟩
  | d :: l, r, acc, hs, p, hb => by
    obtain ⟨r1, r2, e1, e2, p2⟩ := hs d List.mem_cons_self r p
    obtain ⟨r', e3, p3⟩ := comp_map l r2 (acc ++ [g d]) (fun d' hd => hs d' (List.mem_cons_of_mem _ hd)) p2 (by simp at hb ⊢; omega)
    refine ⟨r', ?_, p3⟩
    have hc : acc.length < 1000000 := by simp at hb; omega
    simp only [compD, e1, e2, dYes, Option.bind_some, if_true, if_pos hc]
    rw [e3]
    simp
/-- two clauses, likewise -/
theorem comp2_map {h h1 : GD} {e : MD} {f1 : ID} {own own1 : List Nat} {P : Env → Prop} {g : D → List T} : ∀ (l : List D) (r : Env) (acc : List T), (∀ d ∈ l, ∀ r acc, P r → acc.length + (g d).length ≤ 1000000 → ∃ r1 l1 r2 r3, h (wipeT r own) (.fz d) = some r1 ∧ f1 r1 = some (l1, r2) ∧ compD h1 dYes e own1 l1 r2 acc = some (acc ++ g d, r3) ∧ P r3) → P r → acc.length + (l.flatMap g).length ≤ 1000000 →
    ∃ r', comp2D h dYes f1 h1 dYes e own own1 l r acc = some (acc ++ l.flatMap g, r') ∧ P r'
  | [], r, acc, _, p, _ => ⟨r, by simp [comp2D], p⟩
  | d :: l, r, acc, hs, p, hb => by
    rw [List.flatMap_cons, List.length_append] at hb
    obtain ⟨r1, l1, r2, r3, e1, e2, e3, p3⟩ := hs d List.mem_cons_self r acc p (by omega)
    obtain ⟨r', e4, p4⟩ := comp2_map l r3 (acc ++ g d) (fun d' hd => hs d' (List.mem_cons_of_mem _ hd)) p3 (by rw [List.length_append]; omega)
    refine ⟨r', ?_, p4⟩
    simp only [comp2D, e1, e2, e3, dYes, Option.bind_some, if_true]
    rw [e4]
    simp
theorem dataL_fz : ∀ l : List D, dataL (l.map .fz) = some l
  | [] => rfl
  | d :: l => by simp [dataL, T.data, dataL_fz l]
/-- a loop that goes on -/
theorem loop_fold {h : GD} {body : SD} {α : Type} (st : α → Env → Prop) (f : α → D → α) (a0 : α) (l : List D) (hs : ∀ pre d post, l = pre ++ d :: post → ∀ r, st (pre.foldl f a0) r → ∃ r1 r2, h r (.fz d) = some r1 ∧ body r1 = some (.nx r2) ∧ st (f (pre.foldl f a0) d) r2) :
    ∀ (post pre : List D) (r : Env), l = pre ++ post → st (pre.foldl f a0) r → ∃ r', loopD h body post r = some (.nx r') ∧ st (l.foldl f a0) r'
  | [], pre, r, e, p => ⟨r, rfl, by rw [e, List.append_nil]; exact p⟩
  | d :: post, pre, r, e, p => by
    obtain ⟨r1, r2, e1, e2, p2⟩ := hs pre d post e r p
    obtain ⟨r', e3, p3⟩ := loop_fold st f a0 l hs post (pre ++ [d]) r2 (by rw [e]; simp) (by rw [List.foldl_append]; exact p2)
    refine ⟨r', ?_, p3⟩
    simp only [loopD, e1, e2, Option.bind_some]
    exact e3
theorem loop_all {h : GD} {body : SD} {α : Type} {st : α → Env → Prop} {f : α → D → α} {a0 : α} {l : List D} {r : Env} (hs : ∀ pre d post, l = pre ++ d :: post → ∀ r, st (pre.foldl f a0) r → ∃ r1 r2, h r (.fz d) = some r1 ∧ body r1 = some (.nx r2) ∧ st (f (pre.foldl f a0) d) r2) (p : st a0 r) :
    ∃ r', loopD h body l r = some (.nx r') ∧ st (l.foldl f a0) r' := loop_fold st f a0 l hs l [] r rfl p
theorem for_nx {f : ID} {h : GD} {body : SD} {r r1 : Env} {l : List D} {o : O} (e : f r = some (l, r1)) (e2 : loopD h body l r1 = some o) : dFor f h body r = some o := by unfold dFor; rw [e]; exact e2
theorem op_eval {g : List D → Option Rs} {fa fb : FD} {r r1 r2 : Env} {a b : D} {z : Rs} (h1 : fa r = some (a, r1)) (h2 : fb r1 = some (b, r2)) (h3 : g [a, b] = some z) : dOp g fa fb r = some (z.w, r2) := by
  simp [dOp, dWith, fdCons, fdNil, h1, h2, h3]
theorem un_eval {g : List D → Option Rs} {fa : FD} {r r1 : Env} {a : D} {z : Rs} (h1 : fa r = some (a, r1)) (h3 : g [a] = some z) : dWith (fdCons fa fdNil) g r = some (z.w, r1) := by
  simp [dWith, fdCons, fdNil, h1, h3]
theorem asg_nw {f : ED} {r r1 : Env} {t : T} {i : Nat} (h : f r = some (.nw t, r1)) : dAsg (xLift f) (gdName i) r = some (.nx (r1.set i t)) := by
  simp [dAsg, xLift, h, mv, gdName]
theorem asg_sh {f : ED} {r r1 : Env} {d : D} {i : Nat} (h : f r = some (.sh d, r1)) : dAsg (xLift f) (gdName i) r = some (.nx (r1.set i (.fz d))) := by
  simp [dAsg, xLift, h, mv, share, gdName]
theorem sh_sh {f : ED} {r r1 : Env} {d : D} (h : f r = some (.sh d, r1)) : dSh f r = some (d, r1) := by
  simp [dSh, h, share]
theorem sh_nw {f : ED} {r r1 : Env} {t : T} {d : D} (h : f r = some (.nw t, r1)) (hd : t.data = some d) : dSh f r = some (d, r1) := by
  simp [dSh, h, share, hd]
theorem bl_of {f : FD} {r r1 : Env} {b : Bool} (h : f r = some (.bl b, r1)) : dBl f r = some (b, r1) := by
  simp [dBl, h, D.bool]
theorem call_sh {fn : FnT} {f : AD} {r r1 r2 : Env} {ws : List W} {ps ps' : List T} {d : D} (h1 : f r = some (ws, r1)) (h2 : pars r1 ws = some (ps, r2)) (h3 : fn ps = some (.ret (.fz d), ps')) (h4 : ps'.length = ws.length) (h5 : back r2 ws ps' = r2 := by rfl) : dCall fn f r = some (.sh d, r2) := by
  simp [dCall, h1, h2, h3, h4, h5, resW]
theorem mulW_small {i j : Int} (a b : Nat) (hi : i.natAbs < 2 ^ a) (hj : j.natAbs < 2 ^ b) (h : a + b ≤ 1000000) (h0 : 0 < a) (h1 : 0 < b) : CMulW i j := wide_mul hi hj h0 h1 h
end Q

set_option Elab.async false
set_option linter.all false
set_option maxRecDepth 100000
set_option maxHeartbeats 2000000
namespace Q
open PySem PySem.Spec PyProof.Rows L2
variable [TbS]
/-! ### in, not in -/
def D.eqF : D → D → Bool
  | .non, .non => true
  | .bl a, .bl b => a == b
  | .bl a, .int b => (if a then 1 else 0) == b
  | .int a, .bl b => a == (if b then 1 else 0)
  | .int a, .int b => a == b
  | .str a, .str b => a == b
  | _, _ => false
section
variable {K : PySem.W.Frag}
theorem scal_flat {G : Hp} {d : D} {v : V} (h : Rp K G d v) (e : d.scal = true) : flatV v = true := by
  cases h with
  | non => rfl
  | bl b => rfl
  | int i => rfl
  | str x => rfl
  | _ => cases e
theorem scal_eqV {G : Hp} {d d' : D} {v v' : V} (h : Rp K G d v) (h' : Rp K G d' v') (e : d.scal = true) (e' : d'.scal = true) : eqV v v' = D.eqF d d' := by
  cases h with
  | non => cases h' <;> first | rfl | cases e'
  | bl b => cases h' <;> first | rfl | cases e'
  | int i => cases h' <;> first | rfl | cases e'
  | str x => cases h' <;> first | rfl | cases e'
  | _ => cases e
theorem scals_flat {G : Hp} : ∀ {l : List D} {vs : List V}, RpL K G l vs → l.all D.scal = true → vs.all flatV = true
  | _, _, .nil, _ => rfl
  | _, _, .cons h q, e => by
    rw [List.all_cons, Bool.and_eq_true] at e ⊢
    exact ⟨scal_flat h e.1, scals_flat q e.2⟩
theorem scals_in {G : Hp} {x : D} {v : V} (hx : Rp K G x v) (ex : x.scal = true) : ∀ {l : List D} {vs : List V}, RpL K G l vs → l.all D.scal = true → inV v vs = l.any fun y => D.eqF y x
  | _, _, .nil, _ => rfl
  | _, _, .cons h q, e => by
    rw [List.all_cons, Bool.and_eq_true] at e
    have := scals_in hx ex q e.2
    unfold inV at this ⊢
    rw [List.any_cons, List.any_cons, scal_eqV h hx e.1 ex, this]
def gIn (neg : Bool) : List D → Option Rs
  | [x, y] => y.items.bind fun l => if x.scal = true ∧ l.all D.scal = true then some (.val (.bl (if neg then !(l.any fun y => D.eqF y x) else l.any fun y => D.eqF y x))) else none
  | _ => none
theorem dc_in {neg : Bool} : DC K (rl2 (rIn K neg)) (gIn neg) := fun G H xs vs z sb pl q e Q k => by
  unfold gIn at e
  split at e
  · obtain ⟨l, e1, e⟩ := Option.bind_eq_some_iff.mp e
    split at e
    · rename_i c
      cases e
      cases q with | cons p q => cases q with | cons p2 q =>
        cases q
        obtain ⟨a, us, rfl, h, r⟩ := items_rp sb p2 e1
        refine ⟨a, us, rfl, h, scal_flat p c.1, scals_flat r c.2, ?_⟩
        rw [scals_in p c.1 r c.2]
        exact k _ (.bl _)
    · cases e
  · cases e
/-! ### x in range(n) -/
def rRng1 : List V → Hp → VK → Prop := fun vs H Q => ∃ j, vs = [V.int j] ∧ ∀ p, H p = none → Q (.ref p) (upd H p (.rng 0 j))
theorem cr_range1 {X : Cx} : CallR X (.type "range") rRng1 := by
  intro pins s σ H vs us Q I r h
  obtain ⟨j, rfl, q⟩ := h
  obtain ⟨u1, rfl, ri⟩ := vals1 r
  obtain ⟨t, rfl⟩ := ri
  refine call_range_1 ⟨.ref s.heap.objs.size, upd H s.heap.objs.size (.rng 0 j), I.laid (t' := s.toks + 1 + 1) (fun b o e => Heap.get?_push_of_some _ e) (Nat.le_refl _) ?_, rfl, q _ (I.hok.fresh (Nat.le_refl _))⟩
  exact ⟨_, t, _, Heap.get?_push_size _ rfl⟩
def rInR (neg : Bool) : R2 := fun x y H Q => ∃ i a lo hi, x = V.int i ∧ y = V.ref a ∧ H a = some (.rng lo hi) ∧ Q (.bl (if neg then !decide (lo ≤ i ∧ i < hi) else decide (lo ≤ i ∧ i < hi))) H
theorem op_inR {X : Cx} : OpR X (compareOp .In) (rInR false) := op_in_rng
theorem op_notInR {X : Cx} : OpR X (compareOp .NotIn) (rInR true) := by
  intro pins s σ H x y v u Q I rx ry h
  obtain ⟨i, a, lo, hi, rfl, rfl, ha, q⟩ := h
  obtain ⟨k, rfl⟩ := rx
  obtain rfl : u = Value.ref a := ry
  obtain ⟨t1, t2, t3, ho⟩ := I.hok a _ ha
  show wpAny _ _ (do return Value.bool (!(← contains (Value.ref a) (Value.int i k)))) _ _ s
  refine wpAny_bind (wpAny_contains_slot (T := "range") ⟨_, ho, rfl⟩ F.slot_range_contains (call_meets F.slot_range_contains ⟨_, ho, rfl⟩ F.entry_range_contains (F.args_range_contains_2 _ _) (q_contains a lo hi i t1 t2 t3 k)
    ⟨ho, wpAny_truthy_bool (wpAny_pure ⟨.bl _, H, I, rfl, ?_⟩)⟩))
  rw [place1]
  exact q
def dInR (neg : Bool) (fx fn : FD) : ED := fun r => (fx r).bind fun p => (fn p.2).bind fun q => match p.1, q.1 with
  | .int i, .int n => some (.sh (.bl (if neg then !decide (0 ≤ i ∧ i < n) else decide (0 ≤ i ∧ i < n))), q.2)
  | _, _ => none
theorem de_inR {neg : Bool} {tx tn : TE} {fx fn : FD} (hx : DF K tx fx) (hn : DF K tn fn) : DE K (tOp (rInR neg) tx (tCB rRng1 (tCons tn tNil))) (dInR neg fx fn) := fun F G H r s tm us w r' I hl e Q q => by
  obtain ⟨⟨d, r1⟩, e1, e⟩ := Option.bind_eq_some_iff.mp e
  obtain ⟨⟨n, r2⟩, e2, e⟩ := Option.bind_eq_some_iff.mp e
  dsimp only at e
  split at e
  · cases e
    refine hx F G H r s tm us _ r1 I hl e1 _ fun v G1 H1 x1 I1 l1 q1 => ?_
    cases q1
    refine hn F G1 H1 r1 s tm us _ _ I1 l1 e2 _ fun v G2 H2 x2 I2 l2 q2 => ?_
    cases q2
    refine ⟨_, rfl, fun p hp => ⟨_, p, 0, _, rfl, rfl, upd_same, ?_⟩⟩
    exact q _ _ _ ((x1.trans x2).trans (Ex.new (I2.Gnone hp))) (by simpa only [W.tm, W.vl, List.append_nil] using I2.laid hp (o := .rng 0 _) (fun _ _ z => HO.noConfusion z)) l2 (.bl _)
  · cases e
/-! ### sum, int -/
def intsD : List D → Option (List Int)
  | [] => some []
  | .int i :: l => (intsD l).map (i :: ·)
  | _ => none
theorem intsD_rp {G : Hp} : ∀ {l : List D} {vs : List V} {ns : List Int}, RpL K G l vs → intsD l = some ns → vs = ns.map V.int
  | [], vs, ns, h, e => by cases h; cases e; rfl
  | d :: l, vs, ns, h, e => by
    cases d with
    | int i =>
      obtain ⟨ns', e1, e2⟩ := Option.map_eq_some_iff.mp (show (intsD l).map (i :: ·) = some ns from e)
      subst e2
      cases h with | cons h1 h2 => cases h1; rw [intsD_rp h2 e1]; rfl
    | _ => cases e
def gSum : List D → Option Rs
  | [.lst l] => (intsD l).bind fun ns => some (.val (.int ns.sum))
  | _ => none
theorem dc_sum : DC K (rSum K) gSum := fun G H xs vs z sb pl q e Q k => by
  unfold gSum at e
  split at e
  · obtain ⟨ns, e1, e⟩ := Option.bind_eq_some_iff.mp e
    cases e
    cases q with | cons p q =>
      cases q
      cases p with | lst a b => exact ⟨_, ns, rfl, by rw [← intsD_rp b e1]; exact Or.inl (Or.inl (sub_ex sb a)), k _ (.int _)⟩
  · cases e
def gInt : List D → Option Rs
  | [.int i] => some (.val (.int i))
  | [.bl b] => some (.val (.int (if b then 1 else 0)))
  | _ => none
theorem dc_int : DC K (fun xs H Q => (∃ i, xs = [V.int i] ∧ Q (.int i) H) ∨ ∃ k, xs = [V.bl k] ∧ Q (.int (if k then 1 else 0)) H) gInt := fun G H xs vs z sb pl q e Q k => by
  unfold gInt at e
  split at e
  · cases e
    cases q with | cons p q => cases q; cases p; exact Or.inl ⟨_, rfl, k _ (.int _)⟩
  · cases e
    cases q with | cons p q => cases q; cases p; exact Or.inr ⟨_, rfl, k _ (.int _)⟩
  · cases e
end
/-! ### a dict of the top, its keys texts: name.get(e) -/
def KTab (K : PySem.W.Frag) (w : World) (a : Addr) (tbl : Str → V) : Prop := ∃ es n, K.lookup a = some ⟨.type "dict", none, .dict es n, #[]⟩ ∧ PySem.W.KeysLit w.params es.toList ∧ (a == sysModules) = false ∧ ∀ x, RelV (tbl x) ((findBy Value.isStrOf es x).getD .none)
def rKGet (tbl : Str → V) : V → Hp → VK → Prop := fun y H Q => ∃ z, y = .str z ∧ Q (tbl z) H
section
variable {X : Cx} {e : Expr} {x : Str} {p apos cpos : Pos} {ty : TE} {a : Addr} {tbl : Str → V}
theorem pe_kget (hg : Gl X x) (hm : X.mg x = some (.ref a)) (kt : KTab X.K X.w a tbl) (he : PE X e ty) (m : M1 X (.Name x p) "get" apos e cpos) (hd : (x == ("__debug__" : Str)) = false := by decide) : PE X (.Call (.Attribute (.Name x p) "get" apos) [e] [] cpos) (tUn (rKGet tbl) ty) := by
  refine ⟨fun pins s σ H Q I h => ?_⟩
  obtain ⟨es, n, hl, hk, low, rel⟩ := kt
  refine wpAny_Call_method m.base m.few m.line PySem.F.plainAttrs_dict PySem.F.slot_dict_get PySem.F.type_dict_get (thn ((pe_glob (v := .ref a) (pos := p) hg hm rfl hd).run pins s σ H (fun v H1 => v = .ref a ∧ H1 = H) I ⟨rfl, rfl⟩) fun u s1 ⟨v, H1, I1, rv, ev⟩ => ?_)
  obtain ⟨rfl, rfl⟩ := ev
  obtain rfl : u = Value.ref a := rv
  have ha := I1.kIn _ _ hl
  refine ⟨⟨_, ha, rfl⟩, fun b q => by cases q; exact ⟨_, ha, rfl⟩, ?_⟩
  rw [m.trees]
  refine Calls.callWith_builtin rfl (Calls.evalArgs_plain (Calls.spliced_cons (thn (he.run pins s1 σ _ _ I1 h) fun iv s2 ⟨y, H2, I2, ry, z, ez, q2⟩ => Calls.spliced_nil ?_)))
  subst ez
  obtain ⟨t, rfl⟩ := (show ∃ t, iv = Value.str z t from ry)
  have hm' := PySem.W.mapOf_K (prog := X.prog) (w := X.w) I2.kIn hl hk
  exact call_meetsIn PySem.F.slot_dict_get hm'.typeIs PySem.F.entry_dict_get (PySem.F.args_dict_get_2 _ _) (meets_dict_get (strKind X.prog X.w) a (strKind_is X.prog X.w z t) low) ⟨_, hm', ⟨_, H2, I2.tok _, rel z, q2⟩⟩
end
section
variable {K : PySem.W.Frag}
def gKGet (tb : Str → D) : List D → Option Rs
  | [.str x] => some (.val (tb x))
  | _ => none
theorem dc_kget {tb : Str → D} {tbl : Str → V} (h : ∀ G x, Rp K G (tb x) (tbl x)) : DC K (rl1 (rKGet tbl)) (gKGet tb) := fun G H xs vs z sb pl q e Q k => by
  unfold gKGet at e
  split at e
  · cases e
    cases q with | cons p q => cases q; cases p; exact ⟨_, rfl, k _ (h G _)⟩
  · cases e
/-- texts and what they stand for -/
def tabD : List (Str × Int) → Str → D
  | [], _ => .non
  | (k, i) :: l, x => if k == x then .int i else tabD l x
def tabV : List (Str × Int) → Str → V
  | [], _ => .non
  | (k, i) :: l, x => if k == x then .int i else tabV l x
theorem tab_rp (G : Hp) : ∀ (l : List (Str × Int)) (x : Str), Rp K G (tabD l x) (tabV l x)
  | [], _ => .non
  | (k, i) :: l, x => by
    unfold tabD tabV
    split
    · exact .int i
    · exact tab_rp G l x
/-- an entry of a dict is this one -/
def EntIs (d : DictEntry) (p : Str × Int) : Prop := (∃ t, d.key = .str p.1 t) ∧ ∃ t, d.val = .int p.2 t
def EntsAre : List DictEntry → List (Str × Int) → Prop
  | [], [] => True
  | d :: ds, p :: ps => EntIs d p ∧ EntsAre ds ps
  | _, _ => False
theorem tab_find : ∀ {ds : List DictEntry} {ps : List (Str × Int)} (x : Str), EntsAre ds ps → RelV (tabV ps x) (((ds.find? fun e => Value.isStrOf x e.key).map (·.val)).getD .none)
  | [], [], x, _ => rfl
  | [], _ :: _, x, h => h.elim
  | _ :: _, [], x, h => h.elim
  | d :: ds, (k, i) :: ps, x, ⟨⟨⟨t, h1⟩, u, h2⟩, h⟩ => by
    rw [List.find?_cons]
    have : Value.isStrOf x d.key = (k == x) := by rw [h1]; rfl
    rw [this]
    unfold tabV
    cases c : k == x with
    | true => simp only [if_true, Option.map_some, Option.getD_some]; rw [h2]; exact ⟨u, rfl⟩
    | false => exact tab_find x h
theorem ktab_of {w : World} {a : Addr} {es : Array DictEntry} {n : Nat} {ps : List (Str × Int)} (hl : K.lookup a = some ⟨.type "dict", none, .dict es n, #[]⟩) (hk : PySem.W.KeysLit w.params es.toList) (low : (a == sysModules) = false) (h : EntsAre es.toList ps) : KTab K w a (tabV ps) := by
  refine ⟨es, n, hl, hk, low, fun x => ?_⟩
  obtain ⟨l⟩ := es
  unfold findBy
  rw [List.find?_toArray]
  exact tab_find x h
/-- a tuple of the top, of texts -/
def strsAre : List Value → List Str → Prop
  | [], [] => True
  | v :: vs, x :: xs => (∃ t, v = .str x t) ∧ strsAre vs xs
  | _, _ => False
theorem vals_strs : ∀ {vs : List Value} {xs : List Str}, strsAre vs xs → Vals (xs.map V.str) vs
  | [], [], _ => .nil
  | [], _ :: _, h => h.elim
  | _ :: _, [], h => h.elim
  | v :: vs, x :: xs, ⟨h1, h2⟩ => .cons h1 (vals_strs h2)
theorem rp_strs (G : Hp) : ∀ xs : List Str, RpL K G (xs.map D.str) (xs.map V.str)
  | [] => .nil
  | x :: xs => .cons (.str x) (rp_strs G xs)
theorem ktup_of {a : Addr} {dd : Option Addr} {sl : Array (Option Value)} {its : Array Value} {n : Nat} {xs : List Str} (hl : K.lookup a = some ⟨.type "tuple", dd, .seq its n, sl⟩) (hz : its.size ≤ sizeLine) (h : strsAre its.toList xs) (G : Hp) : Rp K G (.tup (xs.map D.str)) (.ref a) :=
  .tup (Or.inr ⟨_, its, n, hl, rfl, rfl, hz, vals_strs h⟩) (rp_strs G xs)
end
/-! ### f() -/
section
variable {X : Cx} {k : Nat} {x : Str} {fn : FnT} {E : L2.St → XK} {p pos : Pos}
theorem pe_fnE0 (Ef : FnE X.prog X.w X.K X.mg X.base k x [] fn) (hr : Room k X.A) (gu : X.A.guards = some []) (hg : Gl X x) (hx : ∀ σ, PassesAt (L2.CX X.prog X.w) X σ (E σ)) (hdb : (x == ("__debug__" : Str)) = false := by decide) :
    PE X (.Call (.Name x p) [] [] pos) (tCallS (spD X.K 0 fn) E tNil) := by
  obtain ⟨f, fd, G, hm, hk, hb⟩ := Ef.ex
  refine ⟨fun pins s σ H Q I h => ?_⟩
  refine wpAny_Call_Name_kw (ld_glob I hg hm ?_ hdb)
  exact PySem.W.callWith_K0 I.kIn hk (run_fn (us := []) (vs := []) G hr gu hb (hx σ) I .nil h)
end
/-! ### a def that calls itself -/
theorem fn_none {P : Program} {w : World} {K : PySem.W.Frag} {mg : Str → Option Value} {base : Heap} {k : Nat} {f : Addr} {fd : FuncData} {ps : List Str} : FnG P w K mg base k f fd ps (spD K ps.length fun _ => none) :=
  ⟨fun vs H Q E h => h.1, fun A outer s H args us vs Q E _ _ _ _ _ h => by
    obtain ⟨_, _, _, _, _, _, e, _⟩ := h
    cases e⟩
/-- what stands at the top of a def's name -/
structure Named (K : PySem.W.Frag) (mg : Str → Option Value) (x : Str) (f : Addr) (fd : FuncData) (ps : List Str) : Prop where
  at_ : mg x = some (.ref f)
  keep : PySem.W.keepIn K (.ref f) = true
  binds : Binds K fd ps []
end Q

set_option Elab.async false
set_option linter.all false
set_option maxRecDepth 100000
set_option maxHeartbeats 2000000
namespace Q
open PySem PySem.Spec PyProof.Rows L2

/-! ### how much lies in a thing -/
mutual
def D.size : D → Nat
  | .tup l => sizeL l + 1
  | .lst l => sizeL l + 1
  | _ => 1
def sizeL : List D → Nat
  | [] => 0
  | d :: l => d.size + sizeL l
end
def sizeAt (i : Nat) : Env → Nat := fun r => (match (r[i]?).bind T.data with
  | some d => d.size
  | none => 0) + 1
end Q

set_option Elab.async false
set_option linter.all false
set_option maxRecDepth 100000
set_option maxHeartbeats 2000000
namespace Q
open PySem PySem.Spec PyProof.Rows L2
variable [TbS]
section
variable {K : PySem.W.Frag}
/-! ### for x in reversed(list) -/
def dRev (f : FD) : ID := fun r => (f r).bind fun x => match x.1 with
  | .lst l => some (l.reverse, x.2)
  | _ => none
theorem rev_get {α : Type} {l : List α} {i : Nat} {d : α} (h : l.reverse[i]? = some d) : i < l.length ∧ l[l.length - 1 - i]? = some d := by
  have hi : i < l.length := by
    have := (List.getElem?_eq_some_iff.mp h).1
    rwa [List.length_reverse] at this
  refine ⟨hi, ?_⟩
  rw [List.getElem?_reverse hi] at h
  exact h
theorem walk_rev {a : Addr} {l : List D} {xs : List V} {G0 : Hp} (h : SqL K G0 a xs) (q : RpL K G0 l xs) : WalkD K (Itv K a xs.length) l.reverse G0 := fun F G H r x xg I i => by
  have hH : SqL K H a xs := sub_l I.pl I.gh (ex_l xg h)
  refine ⟨fun d hd => ?_, fun hl => ?_⟩
  · obtain ⟨hi, hd⟩ := rev_get hd
    obtain ⟨v, hv, hq⟩ := q.get hd
    have e : l.length = xs.length := q.length
    rw [e] at hv hi
    refine ⟨⟨hi, xs, v, hH, hv⟩, fun y H' ⟨e1, e2⟩ => ?_⟩
    subst e1
    have := e2 xs hH
    rw [hv] at this
    cases this
    exact ⟨G, Ex.refl G, I, hq.mono xg⟩
  · rw [List.length_reverse, q.length] at hl
    exact hl
theorem di_rev {te : TE} {f : FD} (h : DF K te f) : DI K (RT.iRevA K te) (dRev f) := fun F G H r s tm us l r' I hl e R q => by
  obtain ⟨⟨d, r1⟩, e1, e⟩ := Option.bind_eq_some_iff.mp e
  cases d with
  | lst l' =>
    cases e
    refine h F G H r s tm us _ r1 I hl e1 _ fun v G1 H1 x1 I1 l1 q2 => ?_
    cases q2 with | lst h1 h2 => exact ⟨_, _, rfl, Or.inl ⟨Or.inl (Or.inl (sub_ex I1.gh h1)), q _ G1 H1 x1 I1 l1 (walk_rev (Or.inl (Or.inl h1)) h2)⟩⟩
  | _ => cases e
/-! ### for x in range(i, j, -1) -/
def downto (i : Int) (n : Nat) : List D := (List.range n).map fun (k : Nat) => .int (i + (k : Int) * (-1))
def dRange3 (f : FDs) : ID := fun r => (f r).bind fun p => match p.1 with
  | [.int i, .int j, .int c] => if c = -1 ∧ -(2 ^ 62) ≤ i ∧ i < 2 ^ 62 ∧ -(2 ^ 62) ≤ j ∧ j < 2 ^ 62 then some (downto i (i - j).toNat, p.2) else none
  | _ => none
theorem walk_rc {lo : Int} {n : Nat} {G0 : Hp} : WalkD K (Itc lo (-1) n) (downto lo n) G0 := fun F G H r x xg I i => by
  unfold downto
  refine ⟨fun d hd => ?_, fun hl => by rw [List.length_map, List.length_range] at hl; exact hl⟩
  rw [List.getElem?_map] at hd
  by_cases c : i < n
  · rw [List.getElem?_range c] at hd
    cases hd
    refine ⟨c, fun y H' ⟨e1, e2⟩ => ?_⟩
    subst e1 e2
    exact ⟨G, Ex.refl G, I, .int _⟩
  · rw [List.getElem?_eq_none (by rw [List.length_range]; omega)] at hd
    cases hd
theorem di_range3 {ta : TA} {f : FDs} (h : DFs K ta f) : DI K (iRng3 ta) (dRange3 f) := fun F G H r s tm us l r' I hl e R q => by
  obtain ⟨⟨ds, r1⟩, e1, e⟩ := Option.bind_eq_some_iff.mp e
  dsimp only at e
  split at e
  · rename_i i j c
    split at e
    · rename_i cc
      cases e
      refine h F G H r s tm us _ _ I hl e1 _ fun vs G1 H1 x1 I1 l1 hv => ?_
      cases hv with | cons h1 h2 => cases h2 with | cons h2 h3 => cases h3 with | cons h3 h4 =>
        cases h4
        cases h1
        cases h2
        cases h3
        obtain ⟨c0, c1, c2, c3, c4⟩ := cc
        subst c0
        exact ⟨i, j, -1, (i - j).toNat, rfl, RgC.neg c1 c2 c3 c4, q _ G1 H1 x1 I1 l1 walk_rc⟩
    · cases e
  · cases e
/-! ### xs * k -/
def gMulL : List D → Option Rs
  | [.lst l, .int k] => if k ≤ 1000 ∧ l.length ≤ 1000 ∧ 0 ≤ k then some (.newL (List.replicate k.toNat l).flatten) else none
  | _ => none
theorem RpL.flat {G : Hp} {l : List D} {vs : List V} (h : RpL K G l vs) : ∀ n : Nat, RpL K G (List.replicate n l).flatten (List.replicate n vs).flatten
  | 0 => .nil
  | n + 1 => by
    rw [List.replicate_succ, List.replicate_succ, List.flatten_cons, List.flatten_cons]
    exact h.append (RpL.flat h n)
theorem dc_mulL : DC K (rl2 L2.rRep) gMulL := fun G H xs vs z sb pl q e Q k => by
  unfold gMulL at e
  split at e
  · rename_i l n
    split at e
    · rename_i c
      cases e
      cases q with | cons p q => cases q with | cons p2 q =>
        cases q
        cases p2
        cases p with | lst a b =>
          refine ⟨_, _, _, rfl, rfl, sub_ex sb a, by omega, by omega, ?_, fun p hp => k p _ hp (b.flat _)⟩
          rw [← b.length]
          have : l.length * n.toNat ≤ 1000 * 1000 := Nat.mul_le_mul c.2.1 (by omega)
          exact big (by omega)
    · cases e
  · cases e
/-! ### t[::-1], a tuple -/
end
section
variable {prog : Program} {w : World} {A : Around} {E : Value → Shared → Prop} {s : Shared}
theorem adjust_rev (n : Nat) : Builtin.Slice.sliceAdjust none none (-1) (n : Int) = ((n : Int) - 1, -1) := by
  unfold Builtin.Slice.sliceAdjust
  simp
theorem places_rev (n : Nat) : Builtin.Slice.slicePlaces ((n : Int) - 1) (-1) (-1) = n := by
  unfold Builtin.Slice.slicePlaces
  have h1 : ¬ ((-1 : Int) > 0) := by omega
  have e : ((n : Int) - 1 - -1 - -1 - 1) / (- -1) = (n : Int) := by
    rw [show (- -1 : Int) = 1 by decide, Int.ediv_one]
    omega
  simp only [h1, if_false, e]
  split
  · first | rfl | simp | omega
  · first | omega | simp
theorem sliceApplied_rev {sl : Addr} {vl vu vs : Value} {n : Nat} {Q : Int × Int × Nat → Shared → Prop} (hs : s.heap.IsSliceOf sl vl vu vs) (pl : IsPart vl none) (pu : IsPart vu none) (ps : IsPart vs (some (-1)))
    (h : Q ((n : Int) - 1, -1, n) s) : wpAny (model prog w) A (Builtin.Slice.sliceApplied (.ref sl) (pure (n : Int))) Q E s := by
  obtain ⟨os, hos, hcs, hds⟩ := id hs
  unfold Builtin.Slice.sliceApplied Builtin.Slice.sliceFields
  refine wpAny_bind (wpAny_bind (wpAny_field hos hds (x := vl) rfl (wpAny_bind (wpAny_field hos hds (x := vu) rfl (wpAny_bind (wpAny_field hos hds (x := vs) rfl (wpAny_pure ?_)))))))
  refine wpAny_bind (HT.slicePart_ ps ?_)
  show wpAny _ _ (if ((-1 : Int) == 0) = true then _ else _) _ _ s
  rw [if_neg (by decide)]
  refine wpAny_bind (HT.slicePart_ pl (wpAny_bind (HT.slicePart_ pu (wpAny_bind (wpAny_pure ?_)))))
  show wpAny _ _ (match Builtin.Slice.sliceAdjust none none (-1) (n : Int) with | (lo, hi) => pure (lo, (-1 : Int), Builtin.Slice.slicePlaces lo hi (-1))) _ _ s
  rw [adjust_rev n]
  show wpAny _ _ (pure ((n : Int) - 1, (-1 : Int), Builtin.Slice.slicePlaces ((n : Int) - 1) (-1) (-1))) _ _ s
  rw [places_rev]
  exact wpAny_pure h
theorem fm_congr {α β : Type} {f g : α → Option β} : ∀ {l : List α}, (∀ x ∈ l, f x = g x) → l.filterMap f = l.filterMap g
  | [], _ => rfl
  | a :: l, h => by rw [List.filterMap_cons, List.filterMap_cons, h a (by simp), fm_congr fun x hx => h x (by simp [hx])]
theorem pick_rev (xs : Array Value) : ((List.range xs.size).filterMap fun (m : Nat) => xs[(((xs.size : Nat) : Int) - 1 + (m : Int) * (-1)).toNat]?).toArray = xs.toList.reverse.toArray := by
  have h := PySem.W.krv_all xs
  have e : (List.range xs.size).filterMap (fun (m : Nat) => xs[(((xs.size : Nat) : Int) - 1 + (m : Int) * (-1)).toNat]?) = ((List.range xs.size).map fun k => xs.size - 1 - k).filterMap (xs[·]?) := by
    rw [List.filterMap_map]
    apply fm_congr
    intro k hk
    have := List.mem_range.mp hk
    have e2 : (((xs.size : Nat) : Int) - 1 + (k : Int) * (-1)).toNat = xs.size - 1 - k := by omega
    rw [e2]
    rfl
  rw [e, PySem.W.krv_range, List.filterMap_reverse, h]
theorem getItem_tuple_rev {t sl : Addr} {items : Array Value} {vl vu vs : Value} {Q : Value → Shared → Prop} (ht : IsTup s.heap t items) (hs : s.heap.IsSliceOf sl vl vu vs) (pl : IsPart vl none) (pu : IsPart vu none) (ps : IsPart vs (some (-1)))
    (h : Q (.ref s.heap.objs.size) { s with heap := s.heap.push { cls := .type "tuple", data := .seq items.toList.reverse.toArray } }) (hsz : items.size ≤ sizeLine) : wpAny (model prog w) A (getItem (.ref t) (.ref sl)) Q E s := by
  have htake : sizeOk (.seq items.toList.reverse.toArray) := by
    show items.toList.reverse.toArray.size ≤ sizeLine
    rw [List.size_toArray, List.length_reverse, Array.length_toList]
    exact hsz
  obtain ⟨os, hos, hcs, hds⟩ := id hs
  have hTs : s.TypeIs (.ref sl) "slice" := ⟨os, hos, hcs⟩
  unfold getItem
  try with_reducible refine wpAny_holding ?_
  first | refine wpAny_bind (wpAny_pure ?_) | skip
  refine wpAny_bind (wpAny_sequenceKey ht.typeIs (by decide) ?_)
  refine wpAny_bind (wpAny_callSpecial?_slot (name := Str.ofString "__getitem__") ht.typeIs PyProof.Rows.slot_tuple_getitem
    (wpAny_call_entry PyProof.Rows.slot_tuple_getitem ht.typeIs entry_tuple_getitem ?_ (args_tuple_getitem _ _)))
  show wpAny _ _ (Builtin.Tuple.tupleItemsOf (.ref t) >>= _) _ _ s
  refine wpAny_bind (tupleItemsOf_ ht ?_)
  refine wpAny_bind (wpAny_typeOf hTs ?_)
  rw [if_pos (by decide)]
  refine wpAny_bind (sliceApplied_rev hs pl pu ps ?_)
  have hno : ¬ ((((items.size : Nat) : Int) - 1 == 0 && (-1 : Int) == 1 && items.size == items.size) = true) := by
    intro q
    rw [Bool.and_eq_true, Bool.and_eq_true] at q
    exact absurd q.1.2 (by decide)
  show wpAny _ _ (if (((items.size : Nat) : Int) - 1 == 0 && (-1 : Int) == 1 && items.size == items.size) = true then _ else _) _ _ s
  rw [if_neg hno, pick_rev]
  first
    | exact wpAny_bind (m := Builtin.Tuple.tupleExact _) (wpAny_newObj_type (wpAny_pure ⟨_, rfl, wpAny_pure h⟩) htake)
    | exact wpAny_bind (m := Builtin.Tuple.tupleExact _) (wpAny_newObj_type (wpAny_bind (wpAny_pure (wpAny_pure ⟨_, rfl, wpAny_pure h⟩))) htake)
    | exact wpAny_bind (wpAny_bind (m := Builtin.Tuple.tupleExact _) (wpAny_newObj_type (wpAny_pure (wpAny_pure ⟨_, rfl, wpAny_pure h⟩)) htake))
    | exact wpAny_bind (wpAny_bind (m := Builtin.Tuple.tupleExact _) (wpAny_newObj_type (wpAny_pure ⟨_, rfl, wpAny_pure h⟩) htake))
end
end Q

set_option Elab.async false
set_option linter.all false
set_option maxRecDepth 100000
set_option maxHeartbeats 2000000
namespace PySem.AutoSeq1
set_option maxRecDepth 8000 in
theorem own_extend_tuple (l : Addr) (items : Array Value) (n : Nat) (b : Addr) (items2 : Array Value) (n2 : Nat) (dd : Option Addr) (sl : Array (Option Value)) (hs0 : ¬(!items.isEmpty && Builtin.List.listTooLong (items.size + items2.size)) = true) (hs1 : items.size ≤ sizeLine) (hs2 : items.size + items2.size ≤ sizeLine + 1) :
    Meets (Builtin.«list.extend» ⟨[.ref l, .ref b], []⟩) (fun _ R s => s.heap.get? l = some { cls := .type "list", dict := none, data := .seq items n, slots := #[] } ∧ s.heap.get? b = some { cls := .type "tuple", dict := dd, data := .seq items2 n2, slots := sl } ∧ R (.ok (.ret Value.none)) { s with heap := s.heap.update l (Obj.mapSeq fun x => x ++ items2), toks := s.toks }) :=
  .of_wp fun prog w A R s h => by
    obtain ⟨hp, g, d, tk, os⟩ := s; obtain ⟨hl, hb, h⟩ := h; have f1 := idx_int; have f2 := sub_tuple_tuple; have f3 := sub_list_list; have f4 := sub_tuple_list; have f5 := sub_list_tuple;
    have hz' : (items ++ items2).size ≤ sizeLine + 1 := by rw [Array.size_append]; exact hs2
    wp_walk using (wpAny_updateSeq hl rfl (hz := hs1) (_hz' := hz')), wpAny_loadPart' hl, wpAny_loadPart' hb; exact ⟨_, rfl, h⟩
end PySem.AutoSeq1
namespace Q
open PySem PySem.Spec PyProof.Rows L2
variable [TbS]
/-! ### t[::-1] -/
def rRevT (K : PySem.W.Frag) : V → Hp → VK → Prop := fun x H Q => ∃ a xs, x = .ref a ∧ SqT K H a xs ∧ ∀ p, H p = none → Q (.ref p) (upd H p (.tup xs.reverse))
section
variable {X : Cx}
theorem pe_revT {e : Expr} {te : TE} {k : Nat} {p1 p2 p3 pos : Pos} (he : PE X e te) : PE X (.Subscript e (.Slice none none (some (.UnaryOp .USub (.Constant (.int 1) k p1) p2)) p3) pos) (tUn (rRevT X.K) te) := by
  refine ⟨fun pins s σ H Q I h => ?_⟩
  refine Subscript_ (thn (he.run pins s σ H _ I h) fun v s1 ⟨x, H1, I1, r1, q1⟩ => ?_)
  obtain ⟨a, xs, ex, hx, q⟩ := q1
  subst ex
  cases r1
  have hst : PO X (some (.UnaryOp .USub (.Constant (.int 1) k p1) p2)) (tPart (tUn (rU fun i => .int (-i)) (tC (.int 1)))) := po_some (pe_un un_neg pe_int)
  refine wpAny_Slice (thn (po_none.run pins s1 σ H1 (fun o H2 => o = none ∧ H2 = H1) I1 ⟨rfl, rfl⟩) fun vl s2 ⟨l, H2, I2, pl, el, e2⟩ => ?_)
  subst el e2
  refine thn (po_none.run pins s2 σ H2 (fun o H3 => o = none ∧ H3 = H2) I2 ⟨rfl, rfl⟩) fun vu s3 ⟨u, H3, I3, pu, eu, e3⟩ => ?_
  subst eu e3
  refine thn (hst.run pins s3 σ H3 (fun o H4 => o = some (-1) ∧ H4 = H3) I3 ⟨1, rfl, -1, rfl, rfl, rfl⟩) fun vs s4 ⟨o, H4, I4, ps, eo, e4⟩ => ?_
  subst eo e4
  have I5 : Inv X pins σ H4 { s4 with heap := s4.heap.push { cls := .type "slice", data := .fields #[vl, vu, vs] } } := I4.kept (t' := s4.toks) fun b ob q => Heap.get?_push_of_some _ q
  obtain ⟨its, r, ht, hz⟩ := I5.tuple hx
  have hlen := r.length
  show wpAny (model X.prog X.w) X.A (subscriptTail e (.Slice none none (some (.UnaryOp .USub (.Constant (.int 1) k p1) p2)) p3) (.ref a) (.ref s4.heap.objs.size)) (EP X pins σ Q) X.xe { s4 with heap := s4.heap.push { cls := .type "slice", data := .fields #[vl, vu, vs] } }
  refine tail_any (ops := [.ref a, .ref s4.heap.objs.size]) ht.typeIs (PyProof.Rows.slot_tuple_getitem.lookup) ?_ (by with_unfolding_all rfl)
  refine getItem_tuple_rev ht (Heap.IsSliceOf.new _ vl vu vs) pl pu ps ?_ (by rw [List.size_toArray]; omega)
  refine ⟨.ref _, _, I5.laid (t' := s4.toks) (o := .tup xs.reverse) (fun b ob q => Heap.get?_push_of_some _ q) (Nat.le_refl _) ?_, rfl, q _ (I5.hok.fresh (Nat.le_refl _))⟩
  exact ⟨by rw [List.length_reverse]; exact hz, _, r.reverse, IsTup.new _ _⟩
/-! ### xs.extend(t) -/
def rExtT (K : PySem.W.Frag) : V → List V → Hp → VK → Prop := fun x vs H Q => ∃ l b xs zs, x = .ref l ∧ vs = [.ref b] ∧ H l = some (.lst xs) ∧ SqT K H b zs ∧ xs.length + zs.length ≤ sizeLine ∧ Q .non (upd H l (.lst (xs ++ zs)))
theorem mt_extendT : MtM X "list.extend" (rExtT X.K) := by
  intro pins s σ H x vs v us Q I rx rv h
  obtain ⟨l, b, xs, zs, rfl, rfl, hH, hB, hz, q⟩ := h
  cases rx
  obtain ⟨u, rfl, ru⟩ := rv.one
  cases ru
  obtain ⟨z, its, n, r, hl, e⟩ := I.lstM hH
  obtain ⟨its2, r2, ⟨⟨cls, dd, data, sl⟩, ho, hc, n2, hd⟩, hz2⟩ := I.tuple hB
  simp only at hc hd
  subst hc hd
  have hl2 := r2.length
  have hsz : its.toArray.size + its2.toArray.size ≤ sizeLine := by rw [List.size_toArray, List.size_toArray]; omega
  have hlong : ¬ (!its.toArray.isEmpty && Builtin.List.listTooLong (its.toArray.size + its2.toArray.size)) = true := by
    rw [notLongL hsz, Bool.and_false]
    exact Bool.false_ne_true
  refine call_meets F.slot_list_extend ⟨_, e, rfl⟩ F.entry_list_extend (F.args_list_extend_2 _ _)
    (AutoSeq1.own_extend_tuple l its.toArray n b its2.toArray n2 dd sl hlong (by rw [List.size_toArray]; omega) (by omega)) ⟨e, ho, ?_⟩
  refine ⟨.non, _, I.lset (its' := its ++ its2) hH e (by simp) (r.append r2) ?_, rfl, q⟩
  rw [List.length_append]
  omega
end
section
variable {K : PySem.W.Frag}
def gRevT : List D → Option Rs
  | [.tup l] => some (.newT l.reverse)
  | _ => none
theorem dc_revT : DC K (rl1 (rRevT K)) gRevT := fun G H xs vs z sb pl q e Q k => by
  unfold gRevT at e
  split at e
  · cases e
    cases q with | cons p q =>
      cases q
      cases p with | tup a b => exact ⟨_, _, rfl, sub_t pl sb a, fun p hp => k.2 p _ hp b.reverse⟩
  · cases e
/-- name.extend(e), e a tuple -/
def dExtend (i : Nat) (f : FD) : ED := fun r => if isLs r[i]? = true then (f r).bind fun p => match p.1, p.2[i]? with
  | .tup t, some (.ls l) => if l.length + t.length ≤ 1000000 then some (.sh .non, p.2.set i (.ls (l ++ t.map .fz))) else none
  | _, _ => none
  else none
theorem de_extend {i : Nat} {te : TE} {f : FD} (h : DF K te f) : DE K (tBM K "list" (rExtT K) (tVar i) (tCons te tNil)) (dExtend i f) := fun F G H r s tm us w r' I hl e Q q => by
  unfold dExtend at e
  split at e
  case isFalse => cases e
  rename_i hls
  obtain ⟨⟨d, r1⟩, e1, e⟩ := Option.bind_eq_some_iff.mp e
  dsimp only at e
  split at e
  · rename_i t l hr
    split at e
    · rename_i c
      cases e
      obtain ⟨l0, hr0⟩ := isLs_of hls
      obtain ⟨a, vs0, f0, z1, z2, _⟩ := I.listAt (get_left hr0)
      have z1' := of_left hl hr0 z1
      refine ⟨.ref a, z1', Or.inl ⟨rfl, _, Or.inl (Or.inl z2)⟩, ?_⟩
      refine h F G H r s tm us _ _ I hl e1 _ fun v G1 H1 x1 I1 l1 hd => ?_
      cases hd with | @tup b zs _ t1 t2 =>
        have J0 := I1
        obtain ⟨b', vs, y1, y2, y3, ge, gt, c1, c2, c3, fin⟩ := SI.relist (r := r1 ++ tm) (x := s ++ us) (ts := []) (ys := []) (by simpa only [List.append_nil] using I1) I1.len (get_left hr)
        have y1' := of_left l1 hr y1
        rw [z1'] at y1'
        cases y1'
        have J := fin (l ++ t.map .fz) (vs ++ zs) [] [] ge (fun _ => False) (by
          rw [List.map_append]
          have := (RtL.fzs (H := H1) t2).app c1 (fun b _ z => z)
          exact this.weak fun b hb => hb.elim (fun z => z) fun z => z.elim) .nil (fun b hb => Or.inl hb) (fun b hb => hb.elim) (fun b _ z => z)
        rw [set_left hr, List.append_nil, List.append_nil] at J
        exact ⟨a, b, vs, zs, rfl, rfl, y2, sub_t I1.pl I1.gh t1, big (by rw [← y3, ← t2.length]; exact c), q _ G1 _ x1 (by simpa only [W.tm, W.vl, List.append_nil] using J) (by rw [List.length_set]; exact l1) .non⟩
    · cases e
  · cases e
/-! ### a call of a name that holds a def -/
def tCallV (i : Nat) (S : Addr → Option Sp) (t : TA) : TE := fun σ H Q => ∃ f sp, σ[i]? = some (some (.ref f)) ∧ S f = some sp ∧ t σ H fun vs H1 => sp vs H1 Q (fun _ _ _ => False)
structure HeldG (P : Program) (w : World) (K : PySem.W.Frag) (mg : Str → Option Value) (base : Heap) (k : Nat) (f : Addr) (sp : Sp) : Prop where
  ex : ∃ (fd : FuncData) (ps : List Str), FnG P w K mg base k f fd ps sp ∧ PySem.W.keepIn K (.ref f) = true ∧ Binds K fd ps []
end
section
variable {X : Cx} {k i : Nat} {x : Str} {p pos : Pos} {e : Expr} {es : List Expr} {t : TA}
theorem pe_callV {S : Addr → Option Sp} (A : ∀ f sp, S f = some sp → HeldG X.prog X.w X.K X.mg X.base k f sp) (hr : Room k X.A) (gu : X.A.guards = some []) (hN : X.N[i]? = some x) (hv : Vis X.env.scope x) (ha : PA X (e :: es) t)
    (hdb : (x == ("__debug__" : Str)) = false := by decide) (hcd : (x == ("__classdict__" : Str)) = false := by decide)
    (he : starEach (e :: es) X.env = (false, eval e X.env) :: starEach es X.env := by rfl) (hpl : (backTo pos (starEach es X.env)).any (·.1) = false := by rfl) : PE X (.Call (.Name x p) (e :: es) [] pos) (tCallV i S t) := by
  refine ⟨fun pins s σ H Q I h => ?_⟩
  obtain ⟨f, sp, hs, hS, ht⟩ := h
  obtain ⟨fd, ps, F, hk, hb⟩ := (A f sp hS).ex
  refine wpAny_Call_Name_kw (thn ((pe_var (pos := p) hN hv hdb hcd).run pins s σ H (fun v H1 => v = .ref f ∧ H1 = H) I ⟨.ref f, hs, rfl, rfl⟩) fun u s1 ⟨v, H1, I1, r1, q1⟩ => ?_)
  obtain ⟨rfl, rfl⟩ := q1
  cases r1
  refine PySem.W.callWith_K (h₀ := X.base) I.ok.mod.kin hk (thn (ha.run pos pins s1 σ _ _ I1 ht) fun us s2 ⟨vs, H2, I2, r, q⟩ => ⟨I2.kIn, ?_⟩) he hpl
  exact run_fn (E := fun _ _ _ _ => False) F hr gu hb (passNo σ) I2 r q
end
theorem held_of {P : Program} {w : World} {K : PySem.W.Frag} {mg : Str → Option Value} {base : Heap} {j k : Nat} {x : Str} {ps : List Str} {fn : FnT} {a : Addr} (E : FnE P w K mg base j x ps fn) (h : mg x = some (.ref a)) (l : j ≤ k) : HeldG P w K mg base k a (spD K ps.length fn) := by
  obtain ⟨f, fd, G, hm, hk, hb⟩ := E.ex
  rw [h] at hm
  cases hm
  exact ⟨fd, ps, G.mono l, hk, hb⟩
section
variable {K : PySem.W.Frag}
def dCallV (i : Nat) (tab : Addr → Option FnT) (f : AD) : ED := fun r => match r[i]? with
  | some (.fz (.fnc a)) => (tab a).bind fun fn => dCall fn f r
  | _ => none
theorem de_callV {i n : Nat} {tab : Addr → Option FnT} {f : AD} {ta : TA} (hn : ∀ a fn, tab a = some fn → ∀ ps z, fn ps = some z → ps.length = n) (h : DA K ta f) : DE K (tCallV i (fun a => (tab a).map fun fn => spD K n fn) ta) (dCallV i tab f) := fun F G H r s tm us w r' I hl e Q q => by
  unfold dCallV at e
  split at e
  · rename_i a hr
    obtain ⟨fn, e1, e⟩ := Option.bind_eq_some_iff.mp e
    obtain ⟨v, hv⟩ := I.val hl hr (by intro z; cases z)
    obtain ⟨ff, hrr, _⟩ := I.own
    obtain ⟨y, g, k1, k2⟩ := hrr.get (get_left hr)
    have k1' := of_left hl hr k1
    rw [hv] at k1'
    cases k1'
    cases k2 with | fz qq =>
      cases qq
      refine ⟨a, spD K n fn, hv, by show (tab a).map _ = _; rw [e1]; rfl, ?_⟩
      have := de_fn (E := fun _ _ _ _ => False) (hn a fn e1) h F G H r s tm us w r' I hl e Q q
      exact this
  · cases e
end
end Q

set_option Elab.async false
set_option linter.all false
set_option maxRecDepth 100000
set_option maxHeartbeats 2000000
namespace Q
open PySem PySem.Spec PyProof.Rows L2 Srt
variable [TbS]

/-! ### the order of lists of ints -/
def lexI : List Int → List Int → Bool
  | [], [] => false
  | [], _ :: _ => true
  | _ :: _, [] => false
  | x :: xs, y :: ys => if x = y then lexI xs ys else decide (x < y)
theorem lexI_asym : ∀ xs ys : List Int, lexI xs ys = true → lexI ys xs = false
  | [], [], _ => rfl
  | [], _ :: _, _ => rfl
  | _ :: _, [], h => by cases h
  | x :: xs, y :: ys, h => by
    unfold lexI at h ⊢
    by_cases e : x = y
    · subst e
      rw [if_pos rfl] at h ⊢
      exact lexI_asym xs ys h
    · rw [if_neg e] at h
      rw [if_neg (fun z => e z.symm)]
      exact decide_eq_false (by have := of_decide_eq_true h; omega)
theorem lexI_tr : ∀ xs ys zs : List Int, lexI ys xs = false → lexI zs ys = false → lexI zs xs = false
  | [], [], _, _, h => h
  | [], _ :: _, [], _, _ => rfl
  | [], _ :: _, _ :: _, _, _ => rfl
  | _ :: _, [], _, h, _ => by cases h
  | _ :: _, _ :: _, [], _, h => by cases h
  | x :: xs, y :: ys, z :: zs, h1, h2 => by
    unfold lexI at h1 h2 ⊢
    by_cases e1 : y = x
    · subst e1
      rw [if_pos rfl] at h1
      by_cases e2 : z = y
      · subst e2
        rw [if_pos rfl] at h2 ⊢
        exact lexI_tr xs ys zs h1 h2
      · rw [if_neg e2] at h2 ⊢
        exact h2
    · rw [if_neg e1] at h1
      have a := of_decide_eq_false h1
      by_cases e2 : z = y
      · subst e2
        rw [if_neg e1]
        exact h1
      · rw [if_neg e2] at h2
        have b := of_decide_eq_false h2
        rw [if_neg (by omega)]
        exact decide_eq_false (by omega)
theorem lexI_eq : ∀ xs ys : List Int, lexI xs ys = false → lexI ys xs = false → xs = ys
  | [], [], _, _ => rfl
  | [], _ :: _, h, _ => by cases h
  | _ :: _, [], _, h => by cases h
  | x :: xs, y :: ys, h1, h2 => by
    unfold lexI at h1 h2
    by_cases e : x = y
    · subst e
      rw [if_pos rfl] at h1 h2
      rw [lexI_eq xs ys h1 h2]
    · rw [if_neg e] at h1
      rw [if_neg (fun z => e z.symm)] at h2
      have a := of_decide_eq_false h1
      have b := of_decide_eq_false h2
      omega
theorem swo_lexI {α : Type} (k : α → List Int) : SrtO.Swo fun v u : α => lexI (k v) (k u) := ⟨fun x y h => lexI_asym _ _ h, fun x y z h1 h2 => lexI_tr _ _ _ h1 h2⟩

/-! ### tuples of ints compare so -/
section
variable {prog : Program} {w : World} {A : Around} {E : Value → Shared → Prop} {s : Shared}
theorem lex_at {Q : Bool → Shared → Prop} {b : Bool} {xs ys : List Value} {ns ms : List Int} (i : Nat) (hx : IntsAre xs ns) (hy : IntsAre ys ms) (hl : ns.length = ms.length) (h : Q (lexI ns ms) s) : PySem.W.KatLex prog w A b false Q (xs.zip ys) i s := by
  induction hx generalizing ys ms i with
  | nil =>
    cases hy with
    | nil => exact PySem.W.kat_nil h
    | cons q u hy => simp at hl
  | @cons p t xs ns hx ih =>
    cases hy with
    | nil => simp at hl
    | @cons q u ys ms hy =>
      have hl' : ns.length = ms.length := by simpa using hl
      unfold lexI at h
      show PySem.W.KatLex prog w A b false Q ((Value.int p t, Value.int q u) :: xs.zip ys) i s
      refine PySem.W.kat_cons (wpAny_eqBool_int ?_)
      by_cases e : p = q
      · subst e
        rw [beq_self_eq_true]
        rw [if_pos rfl] at h
        exact PySem.W.kat_yes (ih (i + 1) hy hl' h)
      · rw [show (p == q) = false from beq_eq_false_iff_ne.mpr e]
        rw [if_neg e] at h
        exact PySem.W.kat_no (TS.oneLt_ints _ h)
theorem tup_cmp {vs : List Value} {k : Value → List Int} {d : Nat} (hp : ∀ v ∈ vs, TS.TupInts s.heap v (k v) ∧ (k v).length = d) : SrtO.Cmp prog w A s (tuples' true) (fun p => p.1 ∈ vs) (SrtO.lt2 fun v u => lexI (k v) (k u)) := by
  intro p q hm hm'
  obtain ⟨h1, l1⟩ := hp _ hm
  obtain ⟨h2, l2⟩ := hp _ hm'
  show wpAny (model prog w) A (keyLt' (tuples' true) p.1 q.1) (fun r s' => s' = s ∧ r = lexI (k p.1) (k q.1)) (fun _ _ => False) s
  generalize k p.1 = x at h1 l1 ⊢
  generalize k q.1 = y at h2 l2 ⊢
  obtain ⟨a, xs, e, ⟨o, ho, hc, n, hd⟩, i⟩ := h1
  obtain ⟨a', ys, e', ⟨o', ho', hc', n', hd'⟩, i'⟩ := h2
  rw [e, e']
  refine PySem.W.kat_lt ho hd ho' hd' ?_
  have sz : decide (xs.size < ys.size) = false := by
    have q1 := i.length
    have q2 := i'.length
    rw [Array.length_toList] at q1 q2
    exact decide_eq_false (by omega)
  rw [sz]
  exact lex_at 0 i i' (by omega) ⟨rfl, rfl⟩
theorem firsts_tup {h : Heap} {k : Value → List Int} : ∀ {vs : List Value}, (∀ v ∈ vs, TS.TupInts h v (k v) ∧ k v ≠ []) → ∃ fs, PySem.W.KatTups h vs fs ∧ fs.length = vs.length ∧ ∀ f ∈ fs, ∃ x t, f = Value.int x t
  | [], _ => ⟨[], PySem.W.KatTups.nil, rfl, fun f hf => by simp at hf⟩
  | v :: vs, x => by
    obtain ⟨fs, g, hl, hi⟩ := firsts_tup (vs := vs) fun u hu => x u (List.mem_cons_of_mem _ hu)
    obtain ⟨t1, ne⟩ := x v List.mem_cons_self
    generalize k v = ns at t1 ne
    obtain ⟨a, xs, rfl, ⟨o, ho, hc, n, hd⟩, i⟩ := t1
    obtain ⟨ys, rfl⟩ : ∃ ys : List Value, xs = ys.toArray := ⟨xs.toList, by simp⟩
    simp only [] at i
    cases i with
    | nil => exact absurd rfl ne
    | @cons p t ys ns hx => exact ⟨Value.int p t :: fs, PySem.W.KatTups.cons ho hc hd (by simp) g, by simp [hl], fun f hf => by
        rcases List.mem_cons.mp hf with rfl | hf
        · exact ⟨p, t, rfl⟩
        · exact hi f hf⟩
theorem tups_sortable {a : Addr} {vs : List Value} {k : Value → List Int} {d : Nat} (hd : 1 ≤ d) (h0 : 0 < vs.length) (hp : ∀ v ∈ vs, TS.TupInts s.heap v (k v) ∧ (k v).length = d) (ha : ∀ o, s.heap.get? a = some o → o.cls ≠ .type "tuple") : SrtO.SortableO prog w A s a vs fun v u => lexI (k v) (k u) := by
  intro h' keep
  have hp' : ∀ v ∈ vs, TS.TupInts h' v (k v) ∧ (k v).length = d := fun v hm => ⟨(hp v hm).1.keeps fun b o e c => keep b o (fun z => by subst z; exact ha o e c) e, (hp v hm).2⟩
  obtain ⟨fs, h1, h2, h3⟩ := firsts_tup (h := h') (k := k) (vs := vs) fun v hm => ⟨(hp' v hm).1, fun z => by
    have := (hp' v hm).2
    rw [z] at this
    simp at this
    omega⟩
  refine ⟨tuples' true, fun Q E hq => ?_, tup_cmp hp'⟩
  refine PySem.W.kat_kind (T := .type "int") h1 (by omega) (fun f hm => ?_) (by rfl) ?_
  · obtain ⟨x, t, rfl⟩ := h3 f hm
    exact PySem.W.Looks.now
  · have e : (Value.type "int" != Value.type "tuple") = true := by first | decide +kernel | rfl | decide
    rw [e]
    exact hq
end

/-! ### sorted(set(xs)) -/
theorem perm_map_inv {α β : Type} {f : α → β} {l m : List β} (h : l.Perm m) : ∀ L : List α, m = L.map f → ∃ L' : List α, L'.Perm L ∧ l = L'.map f := by
  induction h with
  | nil => intro L e; cases L with
    | nil => exact ⟨[], .nil, rfl⟩
    | cons a L => cases e
  | cons x _ ih => intro L e; cases L with
    | nil => cases e
    | cons a L =>
      obtain ⟨rfl, e2⟩ := List.cons.inj e
      obtain ⟨L', p, q⟩ := ih L e2
      exact ⟨a :: L', p.cons a, by rw [q]; rfl⟩
  | swap x y l => intro L e; cases L with
    | nil => cases e
    | cons a L => cases L with
      | nil => cases (List.cons.inj e).2
      | cons b L =>
        obtain ⟨rfl, e2⟩ := List.cons.inj e
        obtain ⟨rfl, rfl⟩ := List.cons.inj e2
        exact ⟨b :: a :: L, .swap a b L, rfl⟩
  | trans _ _ ih1 ih2 =>
    intro L e
    obtain ⟨L1, p1, e1⟩ := ih2 L e
    obtain ⟨L2, p2, e2⟩ := ih1 L1 e1
    exact ⟨L2, p2.trans p1, e2⟩
section
variable {P : Program} {w : World} {A : Around} {E : Value → Shared → Prop} {s : Shared}
theorem sorted_setL {a : Addr} {L : List (Addr × List Int)} {es : Array (Int × Value)} {ep : Nat} {t : SetTable} {Q : Value → Shared → Prop} (R : SetTR P w s.heap a L es ep t) (hh : A.handled = none) {d : Nat} (hd1 : 1 ≤ d) (hB : ∀ p ∈ L, p.2.length = d)
    (hQ : ∀ s' p (out : Array Value) (c : Nat) (L' : List (Addr × List Int)), (∀ b o, s.heap.get? b = some o → s'.heap.get? b = some o) → s'.gens = s.gens → s'.os = s.os → s.heap.objs.size ≤ p →
      s'.heap.get? p = some (seqObj "list" out c) → out.toList = L'.map (fun q => Value.ref q.1) → L'.Perm L → L'.Pairwise (fun q r => lexI r.2 q.2 = false) → Q (.ref p) s') :
    wpAny (model P w) A (call (.builtin "sorted") [.ref a]) Q E s := by
  obtain ⟨o, ho, hex, hd⟩ := R.ob
  have hfew := R.few
  refine Calls.call_function_entry kind_sorted plain_sorted entry_sorted (args_sorted1 _) ?_
  unfold Builtin.«sorted»
  refine wpAny_bind (m := checkCount "sorted" 1 1 _) (wpAny_pure ?_)
  refine wpAny_bind (collect_set (A := A.in1) hh ⟨o, ho, hex.1, hd⟩ R.fits (by rw [R.size]; unfold scanBound; omega) R.tab.ris R.led fun s1 vs k1 hz g1 o1 pm => ?_)
  have hes : es.toList.map (·.2) = L.map fun q => Value.ref q.1 := by
    rw [R.rows]
    unfold rowsOf
    rw [List.map_map] <;> rfl
  rw [hes] at pm
  have hvl : vs.length < 64 := by rw [pm.length_eq, List.length_map]; exact hfew
  have hvz : vs.length ≤ sizeLine := by rw [sizeLine_eq]; omega
  refine wpAny_bind (wpAny_newList ?_ hvz)
  have hoL : (s1.heap.push (seqObj "list" vs.toArray 0)).get? s1.heap.objs.size = some (seqObj "list" vs.toArray 0) := Heap.get?_push_size _ rfl
  have tk : ∀ q ∈ L, TS.TupInts (s1.heap.push (seqObj "list" vs.toArray 0)) (.ref q.1) q.2 := fun q hq => tupInts_of (P := P) (w := w) (isT_keep (R.tup q hq) fun b u e => Heap.get?_push_of_some _ (k1 b u e))
  have hv : ∀ v ∈ vs, TS.TupInts (s1.heap.push (seqObj "list" vs.toArray 0)) v (TS.intsOf (s1.heap.push (seqObj "list" vs.toArray 0)) v) ∧ (TS.intsOf (s1.heap.push (seqObj "list" vs.toArray 0)) v).length = d := fun v hv => by
    obtain ⟨q, hq, e⟩ := List.mem_map.mp (pm.mem_iff.mp hv)
    subst e
    rw [(tk q hq).ints]
    exact ⟨tk q hq, hB q hq⟩
  refine wpAny_bind (wpAny_holding (wpAny_call_entry slot_list_sort ⟨_, hoL, rfl⟩ entry_list_sort (SrtO.list_sort_ord (s := { s1 with heap := s1.heap.push (seqObj "list" vs.toArray 0) }) (swo_lexI (TS.intsOf (s1.heap.push (seqObj "list" vs.toArray 0)))) hoL hvz (fun h2 => tups_sortable (s := { s1 with heap := s1.heap.push (seqObj "list" vs.toArray 0) }) hd1 (by omega) hv fun o e c => ?_) fun out hs hb => ⟨_, rfl, ?_⟩) (args_list_sort _)))
  · have e' : some o = some (seqObj "list" vs.toArray 0) := e.symm.trans hoL
    cases e'
    exact absurd (Value.type.inj c) (by decide)
  · obtain ⟨c, hc⟩ := sortedHeap_at (vs := vs) (out := out.toArray) hoL
    obtain ⟨L', pL, eL⟩ := perm_map_inv (hb.perm.trans pm) L rfl
    refine wpAny_pure ⟨_, rfl, hQ _ s1.heap.objs.size out.toArray c L' (fun b u e => ?_) g1 o1 hz hc (by simpa using eL) pL ?_⟩
    · have q := k1 b u e
      have hlt := Heap.lt_size q
      show (sortedHeap (s1.heap.push (seqObj "list" vs.toArray 0)) s1.heap.objs.size vs out.toArray).get? b = some u
      rw [sortedHeap_old (Nat.ne_of_lt hlt) (by rw [size_push']; exact Nat.lt_succ_of_lt hlt)]
      exact Heap.get?_push_of_some _ q
    · rw [eL] at hs
      refine List.Pairwise.imp_of_mem (fun {q r} hq hr hle => ?_) (List.pairwise_map.mp hs)
      have f1 := (tk q (pL.mem_iff.mp hq)).ints
      have f2 := (tk r (pL.mem_iff.mp hr)).ints
      rw [← f1, ← f2]
      exact hle
end
def rSortedL (K : PySem.W.Frag) (P : Program) (w : World) : List V → Hp → VK → Prop := fun vs H Q => ∃ (a : Addr) (L : List (Addr × List Int)) (d : Nat), vs = [V.ref a] ∧ H a = some (SetTO P w a L) ∧ (∀ p ∈ L, SqT K H p.1 (p.2.map V.int)) ∧ 1 ≤ d ∧ (∀ p ∈ L, p.2.length = d) ∧
  ∀ (L' : List (Addr × List Int)) (p : Addr), L'.Perm L → (L'.map (·.2)).Nodup → L'.Pairwise (fun q r => lexI r.2 q.2 = false) → H p = none → Q (.ref p) (upd H p (.lst (L'.map fun q => V.ref q.1)))
theorem cr_sortedL {X : Cx} (hc : X.calm = true) : CallR X (.builtin "sorted") (rSortedL X.K X.prog X.w) := by
  intro pins s σ H vs us Q I r h
  obtain ⟨a, L, d, rfl, ha, hk, hd, hB, q⟩ := h
  obtain ⟨es, ep, t, R⟩ := (show SetT0 X.prog X.w s.heap a L from (I.hok a _ ha).1).full fun p hp => I.isT (hk p hp)
  rw [Vals.ref1 r]
  refine sorted_setL R (I.ok.hd hc) hd hB fun s' p out c L' k g o hp hg hout pm pw => ?_
  have hlen : (L'.map fun q => V.ref q.1).length ≤ sizeLine := by
    have := R.few
    rw [List.length_map, sizeLine_eq, pm.length_eq]; omega
  have hn : H p = none := I.hok.fresh hp
  have J : Inv X pins σ (upd H p (.lst (L'.map fun q => V.ref q.1))) { s with heap := s'.heap, gens := s'.gens, drawn := s'.drawn, toks := s'.toks } :=
    I.call (ch := []) (Un.laid k hp hn) (I.hok.laid k hp ⟨hlen, out.toList, c, by rw [hout]; exact vals_of_refs L', hg⟩) (by rw [g]; exact I.bare) (fun _ z => nomatch z)
  have e : s' = { s with heap := s'.heap, gens := s'.gens, drawn := s'.drawn, toks := s'.toks } := by
    cases s'
    cases s
    cases o
    rfl
  rw [e]
  exact ⟨.ref p, _, J, rfl, q L' p pm ((pm.map (·.2)).nodup_iff.mpr R.nd) pw hn⟩

/-! ### what sorted(set(xs)) is worth -/
def insI (x : List Int) : List (List Int) → List (List Int)
  | [] => [x]
  | y :: l => if lexI x y = true then x :: y :: l else if x = y then y :: l else y :: insI x l
def sortI (l : List (List Int)) : List (List Int) := l.foldr insI []
abbrev StI (l : List (List Int)) : Prop := l.Pairwise fun q r => lexI q r = true
theorem mem_insI {x y : List Int} : ∀ {l : List (List Int)}, y ∈ insI x l ↔ y = x ∨ y ∈ l
  | [] => by unfold insI; simp
  | z :: l => by
    unfold insI
    by_cases e : lexI x z = true
    · rw [if_pos e]; simp
    · rw [if_neg e]
      by_cases e2 : x = z
      · rw [if_pos e2]
        subst e2
        simp
      · rw [if_neg e2, List.mem_cons, mem_insI, List.mem_cons]
        constructor
        · rintro (h | h | h)
          · exact Or.inr (Or.inl h)
          · exact Or.inl h
          · exact Or.inr (Or.inr h)
        · rintro (h | h | h)
          · exact Or.inr (Or.inl h)
          · exact Or.inl h
          · exact Or.inr (Or.inr h)
theorem mem_sortI {y : List Int} : ∀ {l : List (List Int)}, y ∈ sortI l ↔ y ∈ l
  | [] => Iff.rfl
  | x :: l => by
    show y ∈ insI x (sortI l) ↔ _
    rw [mem_insI, mem_sortI, List.mem_cons]
theorem lexI_lt_tr {x y z : List Int} (h1 : lexI x y = true) (h2 : lexI y z = true) : lexI x z = true :=
  (swo_lexI (fun v : List Int => v)).ltle (z := z) h1 (lexI_asym _ _ h2)
theorem st_insI {x : List Int} : ∀ {l : List (List Int)}, StI l → StI (insI x l)
  | [], _ => List.pairwise_singleton _ _
  | z :: l, h => by
    obtain ⟨h1, h2⟩ := List.pairwise_cons.mp h
    unfold insI
    by_cases e : lexI x z = true
    · rw [if_pos e]
      refine List.pairwise_cons.mpr ⟨fun y hy => ?_, h⟩
      rcases List.mem_cons.mp hy with rfl | hy
      · exact e
      · exact lexI_lt_tr e (h1 y hy)
    · rw [if_neg e]
      by_cases e2 : x = z
      · rw [if_pos e2]; exact h
      · rw [if_neg e2]
        refine List.pairwise_cons.mpr ⟨fun y hy => ?_, st_insI h2⟩
        rcases mem_insI.mp hy with rfl | hy
        · rcases SrtO.bcase (lexI z y) with q | q
          · exact q
          · exact absurd (lexI_eq _ _ (Bool.eq_false_iff.mpr e) q) e2
        · exact h1 y hy
theorem st_sortI : ∀ (l : List (List Int)), StI (sortI l)
  | [] => List.Pairwise.nil
  | x :: l => st_insI (st_sortI l)
theorem st_uniq : ∀ {l m : List (List Int)}, StI l → StI m → (∀ y, y ∈ l ↔ y ∈ m) → l = m
  | [], [], _, _, _ => rfl
  | [], y :: m, _, _, h => absurd ((h y).mpr List.mem_cons_self) (by simp)
  | x :: l, [], _, _, h => absurd ((h x).mp List.mem_cons_self) (by simp)
  | x :: l, y :: m, h1, h2, h => by
    obtain ⟨a1, a2⟩ := List.pairwise_cons.mp h1
    obtain ⟨b1, b2⟩ := List.pairwise_cons.mp h2
    have e : x = y := by
      rcases List.mem_cons.mp ((h x).mp List.mem_cons_self) with q | q
      · exact q
      · rcases List.mem_cons.mp ((h y).mpr List.mem_cons_self) with q2 | q2
        · exact q2.symm
        · have z1 := b1 x q
          have z2 := lexI_asym _ _ (a1 y q2)
          rw [z1] at z2
          cases z2
    subst e
    have ir : ∀ {z : List Int}, lexI z z = true → False := fun {z} q => by
      have := lexI_asym _ _ q
      rw [q] at this
      cases this
    rw [st_uniq a2 b2 fun y => ⟨fun q => by
      rcases List.mem_cons.mp ((h y).mp (List.mem_cons_of_mem _ q)) with z | z
      · subst z; exact (ir (a1 _ q)).elim
      · exact z, fun q => by
      rcases List.mem_cons.mp ((h y).mpr (List.mem_cons_of_mem _ q)) with z | z
      · subst z; exact (ir (b1 _ q)).elim
      · exact z⟩]
def tupsI : List D → Option (List (List Int))
  | [] => some []
  | .tup k :: l => (intsD k).bind fun n => (tupsI l).map (n :: ·)
  | _ => none
def tupD (n : List Int) : D := .tup (n.map .int)
def gSS : D → Option (List D)
  | .lst l => (tupsI l).bind fun ks => if ks.length < 64 ∧ (ks.all fun k => k.length == (ks.headD [0]).length && decide (0 < k.length)) = true then some ((sortI ks).map tupD) else none
  | _ => none
section
variable {K : PySem.W.Frag} {G : Hp}
theorem tupsI_rp : ∀ {l : List D} {xs : List V} {ns : List (List Int)}, RpL K G l xs → tupsI l = some ns → ∃ ks : List (Addr × List Int), xs = ks.map (fun p => V.ref p.1) ∧ ks.map (·.2) = ns ∧ ∀ p ∈ ks, SqT K G p.1 (p.2.map V.int)
  | [], _, _, h, e => by cases h; cases e; exact ⟨[], rfl, rfl, fun p h => by cases h⟩
  | d :: l, _, ns, h, e => by
    cases d with
    | tup k =>
      obtain ⟨n, e1, e⟩ := Option.bind_eq_some_iff.mp (show (intsD k).bind (fun n => (tupsI l).map (n :: ·)) = some ns from e)
      obtain ⟨ns', e2, e3⟩ := Option.map_eq_some_iff.mp e
      subst e3
      cases h with | cons h1 h2 =>
        cases h1 with | @tup a ys _ h3 h4 =>
          obtain ⟨ks, q1, q2, q3⟩ := tupsI_rp h2 e2
          have := intsD_rp h4 e1
          subst this
          exact ⟨(a, n) :: ks, by rw [q1]; rfl, by rw [← q2]; rfl, fun p hp => by
            rcases List.mem_cons.mp hp with rfl | hp
            · exact h3
            · exact q3 p hp⟩
    | _ => cases e
theorem ints_rp : ∀ (n : List Int), RpL K G (n.map .int) (n.map V.int)
  | [] => .nil
  | i :: n => .cons (.int i) (ints_rp n)
theorem rp_tups : ∀ {L : List (Addr × List Int)}, (∀ p ∈ L, SqT K G p.1 (p.2.map V.int)) → RpL K G ((L.map (·.2)).map tupD) (L.map fun p => V.ref p.1)
  | [], _ => .nil
  | p :: L, h => .cons (.tup (h p List.mem_cons_self) (ints_rp _)) (rp_tups fun q hq => h q (List.mem_cons_of_mem _ hq))
end
def dSS (f : FD) : ED := fun r => (f r).bind fun p => (gSS p.1).bind fun l => some ((Rs.newL l).w, p.2)
theorem de_ss {K : PySem.W.Frag} {P : Program} {w : World} {tx : TE} {f : FD} (hx : DF K tx f) : DE K (tCB (rSortedL K P w) (tCons (tCB (rSetOfT K P w) (tCons tx tNil)) tNil)) (dSS f) := fun F G H r s tm us z r' I hl e Q q => by
  obtain ⟨⟨d, r1⟩, e1, e⟩ := Option.bind_eq_some_iff.mp e
  obtain ⟨l, e2, e⟩ := Option.bind_eq_some_iff.mp e
  cases e
  refine hx F G H r s tm us _ r1 I hl e1 _ fun v G1 H1 x1 I1 l1 q1 => ?_
  cases d with
  | lst ds =>
    obtain ⟨ns, e3, e4⟩ := Option.bind_eq_some_iff.mp (show (tupsI ds).bind _ = some l from e2)
    split at e4
    · rename_i c
      cases e4
      cases q1 with | @lst a xs _ ha hr =>
        obtain ⟨ks, rfl, rfl, q3⟩ := tupsI_rp hr e3
        obtain ⟨c1, c2⟩ := c
        rw [List.length_map] at c1
        have c3 := List.all_eq_true.mp c2
        refine ⟨a, ks, rfl, Or.inl (Or.inl (sub_ex I1.gh ha)), fun p hp => sub_t trivial I1.gh (q3 p hp), c1, fun b L hb hL1 hL2 => ?_⟩
        have I2 := I1.laid hb (o := SetTO P w b L) (fun _ _ z => HO.noConfusion z)
        have x2 : Ex G1 (upd G1 b (SetTO P w b L)) := Ex.new (I1.Gnone hb)
        have t2 : ∀ p ∈ L, SqT K (upd G1 b (SetTO P w b L)) p.1 (p.2.map V.int) := fun p hp => sub_t trivial x2.sub (q3 p (hL1 p hp))
        refine ⟨b, L, (((ks.map (·.2)).headD [0])).length, rfl, upd_same, fun p hp => sub_t trivial I2.gh (t2 p hp), ?_, fun p hp => ?_, fun L' p pm nd pw hp => ?_⟩
        · cases hk : ks.map (·.2) with
          | nil => exact Nat.le_refl _
          | cons y ys =>
            have := c3 y (by rw [hk]; exact List.mem_cons_self)
            simp only [Bool.and_eq_true, decide_eq_true_eq] at this
            exact this.2
        · have := c3 p.2 (List.mem_map_of_mem (hL1 p hp))
          simp only [Bool.and_eq_true, beq_iff_eq] at this
          exact this.1
        · have es : L'.map (·.2) = sortI (ks.map (·.2)) := by
            refine st_uniq ?_ (st_sortI _) fun y => ?_
            · refine List.pairwise_map.mpr ?_
              have nd' := List.pairwise_map.mp nd
              refine List.Pairwise.imp (fun {q r} h => ?_) (List.Pairwise.and pw nd')
              rcases SrtO.bcase (lexI q.2 r.2) with z | z
              · exact z
              · exact absurd (lexI_eq _ _ z h.1) h.2
            · rw [mem_sortI]
              constructor
              · intro hy
                obtain ⟨u, hu, rfl⟩ := List.mem_map.mp hy
                exact List.mem_map_of_mem (hL1 u (pm.mem_iff.mp hu))
              · intro hy
                obtain ⟨u, hu, rfl⟩ := List.mem_map.mp hy
                exact (pm.map (·.2)).mem_iff.mpr (hL2 u hu)
          have h := rp_tups (K := K) (G := upd G1 b (SetTO P w b L)) (L := L') fun u hu => t2 u (pm.mem_iff.mp hu)
          rw [es] at h
          exact rs_ok (z := .newL ((sortI (ks.map (·.2))).map tupD)) I2 l1 (fun v G' H' x3 I3 l3 hw => q v G' H' ((x1.trans x2).trans x3) I3 l3 hw) p _ hp h
    · cases e4
  | _ => cases e2

/-! ### xs[::-1], a list -/
def rRevLi (K : PySem.W.Frag) : V → Hp → VK → Prop := fun x H Q => ∃ a xs, x = .ref a ∧ SqL K H a xs ∧ ∀ p, H p = none → Q (.ref p) (upd H p (.lst xs.reverse))
theorem pe_revLi {X : Cx} {e : Expr} {te : TE} {k : Nat} {p1 p2 p3 pos : Pos} (he : PE X e te) : PE X (.Subscript e (.Slice none none (some (.UnaryOp .USub (.Constant (.int 1) k p1) p2)) p3) pos) (tUn (rRevLi X.K) te) := by
  refine ⟨fun pins s σ H Q I h => ?_⟩
  refine Subscript_ (thn (he.run pins s σ H _ I h) fun v s1 ⟨x, H1, I1, r1, q1⟩ => ?_)
  obtain ⟨a, xs, ex, hx, q⟩ := q1
  subst ex
  cases r1
  have hst : PO X (some (.UnaryOp .USub (.Constant (.int 1) k p1) p2)) (tPart (tUn (rU fun i => .int (-i)) (tC (.int 1)))) := po_some (pe_un un_neg pe_int)
  refine wpAny_Slice (thn (po_none.run pins s1 σ H1 (fun o H2 => o = none ∧ H2 = H1) I1 ⟨rfl, rfl⟩) fun vl s2 ⟨l, H2, I2, pl, el, e2⟩ => ?_)
  subst el e2
  refine thn (po_none.run pins s2 σ H2 (fun o H3 => o = none ∧ H3 = H2) I2 ⟨rfl, rfl⟩) fun vu s3 ⟨u, H3, I3, pu, eu, e3⟩ => ?_
  subst eu e3
  refine thn (hst.run pins s3 σ H3 (fun o H4 => o = some (-1) ∧ H4 = H3) I3 ⟨1, rfl, -1, rfl, rfl, rfl⟩) fun vs s4 ⟨o, H4, I4, ps, eo, e4⟩ => ?_
  subst eo e4
  have I5 : Inv X pins σ H4 { s4 with heap := s4.heap.push { cls := .type "slice", data := .fields #[vl, vu, vs] } } := I4.kept (t' := s4.toks) fun b ob q => Heap.get?_push_of_some _ q
  obtain ⟨its, r, ht, hz⟩ := I5.list hx
  have hlen := r.length
  show wpAny (model X.prog X.w) X.A (subscriptTail e (.Slice none none (some (.UnaryOp .USub (.Constant (.int 1) k p1) p2)) p3) (.ref a) (.ref s4.heap.objs.size)) (EP X pins σ Q) X.xe { s4 with heap := s4.heap.push { cls := .type "slice", data := .fields #[vl, vu, vs] } }
  refine tail_any (ops := [.ref a, .ref s4.heap.objs.size]) ht.isList.typeIs slot_list_getitem.lookup ?_ (by with_unfolding_all rfl)
  refine wpAny_getItem_list_slice ht.isList (Heap.IsSliceOf.new _ vl vu vs) pl pu ps (by decide) ?_ (by rw [List.size_toArray]; omega)
  rw [PySem.W.krv_pick]
  refine ⟨.ref _, _, I5.laid (t' := s4.toks) (o := .lst xs.reverse) (fun b ob q => Heap.get?_push_of_some _ q) (Nat.le_refl _) ?_, rfl, q _ (I5.hok.fresh (Nat.le_refl _))⟩
  exact ⟨by rw [List.length_reverse]; exact hz, _, 0, r.reverse, Heap.get?_push_size _ rfl⟩
def gRevL : List D → Option Rs
  | [.lst l] => some (.newL l.reverse)
  | _ => none
theorem dc_revL {K : PySem.W.Frag} : DC K (rl1 (rRevLi K)) gRevL := fun G H xs vs z sb pl q e Q k => by
  unfold gRevL at e
  split at e
  · cases e
    cases q with | cons p q =>
      cases q
      cases p with | lst a b => exact ⟨_, _, rfl, Or.inl (Or.inl (sub_ex sb a)), fun p hp => k p _ hp b.reverse⟩
  · cases e

/-! ### sorted(xs), xs a list of tuples of ints -/
def rSortL (K : PySem.W.Frag) : List V → Hp → VK → Prop := fun vs H Q => ∃ (a : Addr) (ks : List (Addr × List Int)) (d : Nat), vs = [V.ref a] ∧ SqL K H a (ks.map fun p => V.ref p.1) ∧ (∀ p ∈ ks, SqT K H p.1 (p.2.map V.int)) ∧ 1 ≤ d ∧ (∀ p ∈ ks, p.2.length = d) ∧
  ∀ (L' : List (Addr × List Int)) (p : Addr), L'.Perm ks → L'.Pairwise (fun q r => lexI r.2 q.2 = false) → H p = none → Q (.ref p) (upd H p (.lst (L'.map fun q => V.ref q.1)))
theorem cr_sortL {X : Cx} : CallR X (.builtin "sorted") (rSortL X.K) := by
  intro pins s σ H vs us Q I r h
  obtain ⟨a, ks, d, rfl, hs, hk, hd, hB, q⟩ := h
  obtain ⟨its, rv, hl, hz⟩ := I.list hs
  rw [Vals.ref1 r]
  have e1 : its = ks.map fun p => Value.ref p.1 := refs_of_vals rv
  have tk : ∀ p ∈ ks, TS.TupInts s.heap (.ref p.1) p.2 := fun p hp => tupI_raw I (hk p hp)
  have hv : ∀ v ∈ its, TS.TupInts s.heap v (TS.intsOf s.heap v) ∧ (TS.intsOf s.heap v).length = d := fun v hm => by
    rw [e1] at hm
    obtain ⟨p, hp, e⟩ := List.mem_map.mp hm
    subst e
    rw [(tk p hp).ints]
    exact ⟨tk p hp, hB p hp⟩
  have hz' : its.length ≤ sizeLine := by rw [← rv.length]; exact hz
  refine SrtO.sorted_ord (swo_lexI (TS.intsOf s.heap)) hl.isList hz' (fun h2 h₁ b hb kk => ?_) fun out hso hst => ?_
  · refine tups_sortable (s := { s with heap := h₁ }) (k := TS.intsOf s.heap) hd (by omega) (fun v hm => ⟨(hv v hm).1.keeps fun c o e _ => (kk c o e).2, (hv v hm).2⟩) fun o e c => ?_
    have e' : some o = some (seqObj "list" its.toArray 0) := e.symm.trans hb
    cases e'
    exact absurd (Value.type.inj c) (by decide)
  · obtain ⟨ep, he'⟩ := PyProof.Rows.sortedAll_at s.heap its out.toArray
    obtain ⟨L', pL, eL⟩ := perm_map_inv hst.perm ks e1
    have hlen : (L'.map fun q => V.ref q.1).length ≤ sizeLine := by
      rw [List.length_map, pL.length_eq, ← List.length_map (f := fun p : Addr × List Int => V.ref p.1)]
      exact hz
    refine ⟨.ref _, upd H (s.heap.objs.size + 1) (.lst (L'.map fun q => V.ref q.1)), I.laid (t' := s.toks) (fun _ _ => PyProof.Rows.sortedAll_old) (Nat.le_succ _) ⟨hlen, out, ep, by rw [eL]; exact vals_of_refs L', he'⟩, rfl, q _ _ pL ?_ (I.hok.fresh (Nat.le_succ _))⟩
    rw [eL] at hso
    refine List.Pairwise.imp_of_mem (fun {u v} hu hv' hle => ?_) (List.pairwise_map.mp hso)
    have f1 := (tk u (pL.mem_iff.mp hu)).ints
    have f2 := (tk v (pL.mem_iff.mp hv')).ints
    rw [← f1, ← f2]
    exact hle
def insS (x : List Int) : List (List Int) → List (List Int)
  | [] => [x]
  | y :: l => if lexI y x = true then y :: insS x l else x :: y :: l
def sortS (l : List (List Int)) : List (List Int) := l.foldr insS []
abbrev WkI (l : List (List Int)) : Prop := l.Pairwise fun q r => lexI r q = false
theorem perm_insS {x : List Int} : ∀ (l : List (List Int)), (insS x l).Perm (x :: l)
  | [] => List.Perm.refl _
  | y :: l => by
    unfold insS
    split
    · exact ((perm_insS l).cons y).trans (List.Perm.swap x y l)
    · exact List.Perm.refl _
theorem perm_sortS : ∀ (l : List (List Int)), (sortS l).Perm l
  | [] => List.Perm.refl _
  | x :: l => (perm_insS (sortS l)).trans ((perm_sortS l).cons x)
theorem wk_insS {x : List Int} : ∀ {l : List (List Int)}, WkI l → WkI (insS x l)
  | [], _ => List.pairwise_singleton _ _
  | y :: l, h => by
    obtain ⟨h1, h2⟩ := List.pairwise_cons.mp h
    unfold insS
    split
    · rename_i c
      refine List.pairwise_cons.mpr ⟨fun z hz => ?_, wk_insS h2⟩
      rcases List.mem_cons.mp ((perm_insS l).mem_iff.mp hz) with rfl | hz
      · exact lexI_asym _ _ c
      · exact h1 z hz
    · rename_i c
      have c' : lexI y x = false := Bool.eq_false_iff.mpr c
      refine List.pairwise_cons.mpr ⟨fun z hz => ?_, h⟩
      rcases List.mem_cons.mp hz with rfl | hz
      · exact c'
      · exact lexI_tr _ _ _ c' (h1 z hz)
theorem wk_sortS : ∀ (l : List (List Int)), WkI (sortS l)
  | [] => List.Pairwise.nil
  | x :: l => wk_insS (wk_sortS l)
theorem wk_uniq : ∀ {l m : List (List Int)}, WkI l → WkI m → l.Perm m → l = m
  | [], m, _, _, h => (List.nil_perm.mp h).symm
  | x :: l, [], _, _, h => absurd (List.perm_nil.mp h) (by simp)
  | x :: l, y :: m, h1, h2, h => by
    obtain ⟨a1, a2⟩ := List.pairwise_cons.mp h1
    obtain ⟨b1, b2⟩ := List.pairwise_cons.mp h2
    have e : x = y := by
      rcases List.mem_cons.mp (h.mem_iff.mp (List.mem_cons_self (a := x) (l := l))) with q | q
      · exact q
      · rcases List.mem_cons.mp (h.mem_iff.mpr (List.mem_cons_self (a := y) (l := m))) with q2 | q2
        · exact q2.symm
        · exact lexI_eq _ _ (b1 x q) (a1 y q2)
    subst e
    rw [wk_uniq a2 b2 ((List.perm_cons x).mp h)]
def gSortL : D → Option (List D)
  | .lst l => (tupsI l).bind fun ks => if (ks.all fun k => k.length == (ks.headD [0]).length && decide (0 < k.length)) = true then some ((sortS ks).map tupD) else none
  | _ => none
def dSortL (f : FD) : ED := fun r => (f r).bind fun p => (gSortL p.1).bind fun l => some ((Rs.newL l).w, p.2)
theorem de_sortL {K : PySem.W.Frag} {tx : TE} {f : FD} (hx : DF K tx f) : DE K (tCB (rSortL K) (tCons tx tNil)) (dSortL f) := fun F G H r s tm us z r' I hl e Q q => by
  obtain ⟨⟨d, r1⟩, e1, e⟩ := Option.bind_eq_some_iff.mp e
  obtain ⟨l, e2, e⟩ := Option.bind_eq_some_iff.mp e
  cases e
  refine hx F G H r s tm us _ r1 I hl e1 _ fun v G1 H1 x1 I1 l1 q1 => ?_
  cases d with
  | lst ds =>
    obtain ⟨ns, e3, e4⟩ := Option.bind_eq_some_iff.mp (show (tupsI ds).bind _ = some l from e2)
    split at e4
    · rename_i c2
      cases e4
      cases q1 with | @lst a xs _ ha hr =>
        obtain ⟨ks, rfl, rfl, q3⟩ := tupsI_rp hr e3
        have c3 := List.all_eq_true.mp c2
        refine ⟨a, ks, (((ks.map (·.2)).headD [0])).length, rfl, Or.inl (Or.inl (sub_ex I1.gh ha)), fun p hp => sub_t trivial I1.gh (q3 p hp), ?_, fun p hp => ?_, fun L' p pm pw hp => ?_⟩
        · cases hk : ks.map (·.2) with
          | nil => exact Nat.le_refl _
          | cons y ys =>
            have := c3 y (by rw [hk]; exact List.mem_cons_self)
            simp only [Bool.and_eq_true, decide_eq_true_eq] at this
            exact this.2
        · have := c3 p.2 (List.mem_map_of_mem hp)
          simp only [Bool.and_eq_true, beq_iff_eq] at this
          exact this.1
        · have es : L'.map (·.2) = sortS (ks.map (·.2)) := wk_uniq (List.pairwise_map.mpr pw) (wk_sortS _) ((pm.map (·.2)).trans (perm_sortS _).symm)
          have h := rp_tups (K := K) (G := G1) (L := L') fun u hu => q3 u (pm.mem_iff.mp hu)
          rw [es] at h
          exact rs_ok (z := .newL ((sortS (ks.map (·.2))).map tupD)) I1 l1 (fun v G' H' x3 I3 l3 hw => q v G' H' (x1.trans x3) I3 l3 hw) p _ hp h
    · cases e4
  | _ => cases e2
/-! ### str(i) -/
def gStrI : List D → Option Rs
  | [.int i] => if i.natAbs.log2 < 1920 then some (.val (.str (toString i))) else none
  | _ => none
theorem dc_strI {K : PySem.W.Frag} : DC K (fun xs H Q => ∃ i, xs = [V.int i] ∧ i.natAbs.log2 < 1920 ∧ Q (.str (toString i)) H) gStrI := fun G H xs vs z sb pl q e Q k => by
  unfold gStrI at e
  split at e
  · split at e
    · rename_i c
      cases e
      cases q with | cons p q => cases q; cases p; exact ⟨_, rfl, c, k _ (.str _)⟩
    · cases e
  · cases e
end Q

set_option Elab.async false
set_option linter.all false
set_option maxRecDepth 100000
set_option maxHeartbeats 2000000
namespace Q
open PySem PySem.Spec PyProof.Rows L2
variable [TbS]
/-! ### texts put together -/
section
variable {K : PySem.W.Frag}
def rCatSt : R2 := fun x y H Q => ∃ i j, x = V.str i ∧ y = V.str j ∧ i.length + j.length ≤ sizeLine ∧ Q (.str (i ++ j)) H
theorem op_catSt {X : Cx} : OpR X (binaryOp .Add) rCatSt := op_add_str
def gCatS : List D → Option Rs
  | [.str a, .str b] => if a.length + b.length ≤ 1000000 then some (.val (.str (a ++ b))) else none
  | _ => none
theorem dc_catS : DC K (rl2 rCatSt) gCatS := fun G H xs vs z sb pl q e Q k => by
  unfold gCatS at e
  split at e
  · split at e
    · rename_i c
      cases e
      cases q with | cons p q => cases q with | cons p2 q => cases q; cases p; cases p2; exact ⟨_, _, rfl, rfl, big c, k _ (.str _)⟩
    · cases e
  · cases e
end
/-! ### xs[i].append(c): a list within an own list -/
section
variable {K : PySem.W.Frag} {F : Fx} {G H : Hp} {r : List T} {x : List (Option V)}
theorem SI.push2 (I : SI K F G H r x) {i j : Nat} {l m : List T} (e : r[i]? = some (.ls l)) (e2 : l[j]? = some (.ls m)) {d : D} {v : V} (hv : Rp K G d v) :
    ∃ a vs b ws, x[i]? = some (some (.ref a)) ∧ H a = some (.lst vs) ∧ l.length = vs.length ∧ vs[j]? = some (.ref b) ∧ H b = some (.lst ws) ∧ m.length = ws.length ∧ SI K F G (upd H b (.lst (ws ++ [v]))) (r.set i (.ls (l.set j (.ls (m ++ [.fz d]))))) x := by
  obtain ⟨f, hr, hf⟩ := I.own
  obtain ⟨y, g, h, b1, b2, b3, b4, b5, b6⟩ := hr.at e
  cases b2 with | @ls a vs _ _ ge c1 c2 c3 c4 =>
    obtain ⟨y2, g2, h2, d1, d2, d3, d4, d5, d6⟩ := c3.at e2
    cases d2 with | @ls b ws _ _ gm k1 k2 k3 k4 =>
      have ev : vs[j]? = some (.ref b) := by
        rw [List.getElem?_map] at d1
        obtain ⟨v', q1, q2⟩ := Option.map_eq_some_iff.mp d1
        cases q2
        exact q1
      have hl1 : l.length = vs.length := by have := c3.length; simpa using this
      have hl2 : m.length = ws.length := by have := k3.length; simpa using this
      refine ⟨a, vs, b, ws, b1, c2, hl1, ev, k2, hl2, ?_⟩
      have gb : ge b := d3 b k1
      have nab : a ≠ b := fun z => (c4 b gb).2 z.symm
      have fb : f b := b3 b (c4 b gb).1
      have n1 : RtL K G (upd H b (.lst (ws ++ [v]))) m (ws.map some) gm := k3.frame (Ex.refl G) fun q hq => upd_ne (k4 q hq).2
      have n2 : RtL K G (upd H b (.lst (ws ++ [v]))) [.fz d] [some v] (fun _ => False) := .cons (g := fun _ => False) (h := fun _ => False) (.fz hv) .nil (fun _ z => z) (fun _ z => z) (fun _ z _ => z)
      have n3 : RtL K G (upd H b (.lst (ws ++ [v]))) (m ++ [.fz d]) ((ws ++ [v]).map some) (fun q => gm q ∨ False) := by
        rw [List.map_append]
        exact n2.app n1 fun _ _ z => z
      have n4 : Rt K G (upd H b (.lst (ws ++ [v]))) (.ls (m ++ [.fz d])) (some (.ref b)) g2 := .ls k1 upd_same n3 fun q hq => k4 q (hq.elim (fun z => z) False.elim)
      have n5 := d6 G (upd H b (.lst (ws ++ [v]))) (.ls (m ++ [.fz d])) (some (.ref b)) g2 (Ex.refl G) (fun q hq => upd_ne fun z => d5 b k1 (z ▸ hq)) n4 d5
      rw [set_same d1] at n5
      have n6 : Rt K G (upd H b (.lst (ws ++ [v]))) (.ls (l.set j (.ls (m ++ [.fz d])))) (some (.ref a)) g := .ls c1 ((upd_ne nab).trans c2) n5 fun q hq => c4 q (hq.elim (d3 q) (d4 q))
      have n7 := b6 G (upd H b (.lst (ws ++ [v]))) _ (some (.ref a)) g (Ex.refl G) (fun q hq => upd_ne fun z => b5 b (c4 b gb).1 (z ▸ hq)) n6 b5
      rw [set_same b1] at n7
      refine I.next f hf (Ex.refl G) (fun q o hq => ?_) trivial (fun q o hq z => ?_) (fun q hq => ?_) (fun q o hq => Or.inl hq) n7 (fun q hq => ?_)
      · have : q ≠ b := fun z => by subst z; rw [(hf q fb).1] at hq; cases hq
        rw [upd_ne this]
        exact I.gh q o hq
      · rw [upd_ne fun w => z (by rw [w]; exact fb)]
        exact hq
      · by_cases z : q = b
        · subst z; rw [upd_same]; exact Option.some_ne_none _
        · rw [upd_ne z]; exact hq
      · have fq : f q := hq.elim (b3 q) (b4 q)
        refine ⟨(hf q fq).1, ?_, Or.inl fq⟩
        by_cases z : q = b
        · subst z; rw [upd_same]; exact Option.some_ne_none _
        · rw [upd_ne z]; exact (hf q fq).2.1
end
section
variable {K : PySem.W.Frag}
def dAppend2 (i : Nat) (f : FD) (d : D) : ED := fun r => if isLs r[i]? = true then (f r).bind fun p => match p.1, p.2[i]? with
  | .int k, some (.ls l) => (ixN l.length k).bind fun j => match l[j]? with
    | some (.ls m) => if m.length < 1000000 then some (.sh .non, p.2.set i (.ls (l.set j (.ls (m ++ [.fz d]))))) else none
    | _ => none
  | _, _ => none
  else none
theorem de_append2 {i : Nat} {ti : TE} {f : FD} {d : D} {v : V} (h : DF K ti f) (hd : ∀ G, Rp K G d v) : DE K (tBM K "list" rAppend (tOp (rIx K) (tVar i) ti) (tCons (tC v) tNil)) (dAppend2 i f d) := fun F G H r s tm us w r' I hl e Q q => by
  unfold dAppend2 at e
  split at e
  case isFalse => cases e
  rename_i hls
  obtain ⟨⟨d0, r1⟩, e1, e⟩ := Option.bind_eq_some_iff.mp e
  dsimp only at e
  split at e
  · rename_i k l hr
    obtain ⟨j, e3, e⟩ := Option.bind_eq_some_iff.mp e
    split at e
    · rename_i m hm
      split at e
      · rename_i c
        cases e
        obtain ⟨l0, hr0⟩ := isLs_of hls
        obtain ⟨a, vs0, f0, z1, z2, _⟩ := I.listAt (get_left hr0)
        refine ⟨.ref a, of_left hl hr0 z1, ?_⟩
        refine h F G H r s tm us _ _ I hl e1 _ fun u G1 H1 x1 I1 l1 hd1 => ?_
        cases hd1
        obtain ⟨b, vs, b', ws, y1, y2, y3, y4, y5, y6, J⟩ := I1.push2 (get_left hr) hm (hd G1)
        have y1' := of_left l1 hr y1
        rw [of_left hl hr0 z1] at y1'
        cases y1'
        rw [set_left hr] at J
        refine Or.inl ⟨a, vs, _, .ref b', rfl, rfl, Or.inl (Or.inl y2), ?_, Or.inl ⟨rfl, _, Or.inl (Or.inl y5)⟩, b', ws, v, rfl, rfl, y5, bigl (y6 ▸ c), ?_⟩
        · unfold L2.atI
          rw [← y3, e3]
          exact y4
        · exact q _ G1 _ x1 (by simpa only [W.tm, W.vl, List.append_nil] using J) (by rw [List.length_set]; exact l1) .non
      · cases e
    · cases e
  · cases e
end

/-! ### n.bit_length() -/
def gBits : List D → Option Rs
  | [.int i] => some (.val (.int (Builtin.Int.intBits i : Nat)))
  | _ => none
theorem de_bits {K : PySem.W.Frag} {te : TE} {f : FD} (h : DF K te f) : DE K (tBits te) (dUn gBits f) :=
  de_un (rl := fun x H Q => ∃ i, x = V.int i ∧ Q (.int (Builtin.Int.intBits i : Nat)) H) h fun G H xs vs z sb pl q e Q k => by
    unfold gBits at e
    split at e
    · cases e
      cases q with | cons p q => cases q; cases p; exact ⟨_, rfl, k _ (.int _)⟩
    · cases e
/-! ### name[e] op= v -/
def rIx0 (K : PySem.W.Frag) : V → V → Hp → VK → Prop := fun x y H Q => ∃ p xs i v, x = .ref p ∧ y = .int i ∧ SqL K H p xs ∧ 0 ≤ i ∧ atI xs i = some v ∧ Q v H
theorem get_list0 {X : Cx} : PGet X (rIx0 X.K) := by
  intro pins s σ H o i ov iv Q I ro ri h
  obtain ⟨p, xs, k, z, rfl, rfl, hq, h0, he, q⟩ := h
  cases ro
  obtain ⟨t, rfl⟩ := ri
  obtain ⟨its, r, pl, hz⟩ := I.list hq
  obtain ⟨j, h1, h2, h3, h4, h5⟩ := atI_get he
  obtain ⟨w, ew, rw'⟩ := r.get h2
  have hl := r.length
  have hn := line63
  have fin : EP X pins σ Q w s := ⟨z, H, I, rw', q⟩
  have hj : k.toNat = j := by
    rw [seqIndex_of h0 h5] at h1
    exact Option.some.inj h1
  exact wpAny_getItem_list pl.isList h0 (by omega) (by rw [hj]; simpa using ew) fin
section
variable {K : PySem.W.Frag}
def dAugIx (i : Nat) (f : FD) (gop : List D → Option Rs) (g : FD) : SD := fun r => if isLs r[i]? = true then (f r).bind fun p => match p.1, p.2[i]? with
  | .int k, some (.ls l) => if 0 ≤ k then (ixN l.length k).bind fun j => match l[j]? with
    | some (.fz d) => (g p.2).bind fun q => (gop [d, q.1]).bind fun z => match z, q.2[i]? with
      | .val d', some (.ls l') => if l'.length = l.length then some (.nx (q.2.set i (.ls (l'.set j (.fz d'))))) else none
      | _, _ => none
    | _ => none
    else none
  | _, _ => none
  else none
theorem ds_augIx {A : Nat → Bool} {X : WX} {i : Nat} {ti te : TE} {f g : FD} {gop : List D → Option Rs} {rl : R2} (hf : DF K ti f) (hg : DF K te g) (ho : DC K (rl2 rl) gop) : DS K A X (tAugS (tVar i) ti te (rIx0 K) rl rSetL) (dAugIx i f gop g) := fun F P G H r s o a I p e E q => by
  unfold dAugIx at e
  split at e
  case isFalse => cases e
  rename_i hls
  obtain ⟨⟨d0, r1⟩, e1, e⟩ := Option.bind_eq_some_iff.mp e
  dsimp only at e
  split at e
  · rename_i k l hr
    split at e
    case isFalse => cases e
    rename_i h0
    obtain ⟨j, e3, e⟩ := Option.bind_eq_some_iff.mp e
    split at e
    · rename_i d hd
      obtain ⟨⟨d2, r2⟩, e4, e⟩ := Option.bind_eq_some_iff.mp e
      obtain ⟨z, e5, e⟩ := Option.bind_eq_some_iff.mp e
      dsimp only at e
      split at e
      · rename_i d' l' hr2
        split at e
        case isFalse => cases e
        rename_i hlen
        cases e
        obtain ⟨l0, hr0⟩ := isLs_of hls
        obtain ⟨b, vs0, f0, z1, z2, _⟩ := I.listAt hr0
        refine ⟨.ref b, z1, ?_⟩
        refine hf F G H r s [] [] _ r1 (by simpa only [List.append_nil] using I) I.len e1 _ fun u1 G1 H1 x1 I1 l1 q1 => ?_
        cases q1
        rw [List.append_nil, List.append_nil] at I1
        obtain ⟨b1, vs, f1, y1, y2, y3⟩ := I1.listAt hr
        rw [z1] at y1
        cases y1
        have hlv := y3.length
        rw [List.length_map] at hlv
        obtain ⟨y, gg, k4, k5⟩ := y3.get hd
        cases k5 with | @fz _ v _ qd =>
          rw [List.getElem?_map] at k4
          obtain ⟨v', e7, e8⟩ := Option.map_eq_some_iff.mp k4
          cases e8
          refine ⟨b, vs, k, v, rfl, rfl, Or.inl (Or.inl y2), h0, ?_, ?_⟩
          · unfold L2.atI
            rw [← hlv, e3]
            exact e7
          refine hg F G1 H1 r1 s [] [] _ r2 (by simpa only [List.append_nil] using I1) l1 e4 _ fun u2 G2 H2 x2 I2 l2 q2 => ?_
          rw [List.append_nil, List.append_nil] at I2
          refine ho G2 H2 [d, d2] [v, u2] _ I2.gh I2.pl (.cons (qd.mono x2) (.cons q2 .nil)) e5 _ fun w hw => ?_
          obtain ⟨c, ws, w1, w2, w3, J⟩ := SI.put (r := r2) (x := s) (t := .fz d') (v := w) (by simpa using I2.fzs (l := [d']) (vs := [w]) (.cons hw .nil)) l2 hr2 j
          rw [z1] at w1
          cases w1
          exact ⟨b, ws, k, j, rfl, rfl, w2, by rw [← w3, hlen]; exact e3, q _ G2 _ (x1.trans x2) J p⟩
      · cases e
    · cases e
  · cases e
end
end Q

set_option Elab.async false
set_option linter.all false
set_option maxRecDepth 100000
set_option maxHeartbeats 2000000
namespace Q
open PySem PySem.Spec PyProof.Rows L2
variable [TbS]
section
variable {K : PySem.W.Frag}
/-! ### zip of two lists or two tuples -/
theorem walk_zT {a b : Addr} {l m : List D} {xs ys : List V} {G0 : Hp} (h1 : SqT K G0 a xs) (q1 : RpL K G0 l xs) (h2 : SqT K G0 b ys) (q2 : RpL K G0 m ys) : WalkD K (RZ.ItzT K a b) (zipD l m) G0 := fun F G H r x xg I i => by
  have s1 : SqT K H a xs := sub_t I.pl I.gh (ex_t xg h1)
  have s2 : SqT K H b ys := sub_t I.pl I.gh (ex_t xg h2)
  unfold zipD
  refine ⟨fun d hd => ?_, fun hl => ?_⟩
  · rw [List.getElem?_zipWith] at hd
    cases e1 : l[i]? with
    | none => rw [e1] at hd; cases hd
    | some dx =>
      cases e2 : m[i]? with
      | none => rw [e1, e2] at hd; cases hd
      | some dy =>
        rw [e1, e2] at hd
        cases hd
        obtain ⟨vx, z1, z2⟩ := q1.get e1
        obtain ⟨vy, z3, z4⟩ := q2.get e2
        refine ⟨⟨xs, ys, vx, vy, s1, s2, z1, z3⟩, fun v H' hv => ?_⟩
        obtain ⟨p, x', y', rfl, hp, rfl, k1, k2⟩ := hv
        have w1 := k1 xs s1
        rw [z1] at w1
        cases w1
        have w2 := k2 ys s2
        rw [z3] at w2
        cases w2
        have en : Ex G (upd G p (.tup [vx, vy])) := Ex.new (I.Gnone hp)
        exact ⟨_, en, I.laid hp (o := .tup [vx, vy]) (fun _ _ z => HO.noConfusion z), .tup (Or.inl (Or.inl upd_same)) (.cons ((z2.mono xg).mono en) (.cons ((z4.mono xg).mono en) .nil))⟩
  · rw [List.length_zipWith] at hl
    refine ⟨xs, ys, s1, s2, ?_⟩
    rw [← q1.length, ← q2.length]
    omega
def dZipA (f : FDs) : ID := fun r => (f r).bind fun p => match p.1 with
  | [.lst a, .lst b] => some (zipD a b, p.2)
  | [.tup a, .tup b] => some (zipD a b, p.2)
  | _ => none
theorem di_zipA {ta : TA} {f : FDs} (h : DFs K ta f) : DI K (RZ.iZipA K ta) (dZipA f) := fun F G H r s tm us l r' I hl e R q => by
  obtain ⟨⟨ds, r1⟩, e1, e⟩ := Option.bind_eq_some_iff.mp e
  dsimp only at e
  split at e
  · cases e
    refine h F G H r s tm us _ _ I hl e1 _ fun vs G1 H1 x1 I1 l1 hv => ?_
    cases hv with | cons a hv => cases hv with | cons b hv =>
      cases hv
      cases a with | lst a1 a2 => cases b with | lst b1 b2 =>
        exact ⟨_, _, _, _, rfl, Or.inl ⟨Or.inl (Or.inl (sub_ex I1.gh a1)), Or.inl (Or.inl (sub_ex I1.gh b1)), q _ G1 H1 x1 I1 l1 (walk_z a1 a2 b1 b2)⟩⟩
  · cases e
    refine h F G H r s tm us _ _ I hl e1 _ fun vs G1 H1 x1 I1 l1 hv => ?_
    cases hv with | cons a hv => cases hv with | cons b hv =>
      cases hv
      cases a with | tup a1 a2 => cases b with | tup b1 b2 =>
        exact ⟨_, _, _, _, rfl, Or.inr ⟨sub_t I1.pl I1.gh a1, sub_t I1.pl I1.gh b1, q _ G1 H1 x1 I1 l1 (walk_zT a1 a2 b1 b2)⟩⟩
  · cases e
/-! ### t < u, tuples of whole numbers -/
theorem intsD_eq : ∀ {l : List D} {ns : List Int}, intsD l = some ns → l = ns.map .int
  | [], _, h => by cases h; rfl
  | .int i :: l, ns, h => by
    obtain ⟨ms, h1, rfl⟩ := Option.map_eq_some_iff.mp h
    rw [List.map_cons, intsD_eq h1]
  | .non :: _, _, h => nomatch h
  | .bl _ :: _, _, h => nomatch h
  | .str _ :: _, _, h => nomatch h
  | .tup _ :: _, _, h => nomatch h
  | .lst _ :: _, _, h => nomatch h
  | .dk _ _ :: _, _, h => nomatch h
  | .dt _ _ :: _, _, h => nomatch h
  | .exc _ :: _, _, h => nomatch h
  | .scr _ :: _, _, h => nomatch h
  | .fnc _ :: _, _, h => nomatch h
theorem intsD_map : ∀ (ns : List Int), intsD (ns.map .int) = some ns
  | [] => rfl
  | n :: ns => by rw [List.map_cons, intsD, intsD_map ns]; rfl
theorem rp_ints {G : Hp} : ∀ {ns : List Int} {xs : List V}, RpL K G (ns.map .int) xs → xs = ns.map V.int
  | [], _, h => by cases h; rfl
  | n :: ns, _, h => by cases h with | cons a b => cases a; rw [List.map_cons, rp_ints b]
def gLtT : List D → Option Rs
  | [.tup a, .tup b] => (intsD a).bind fun ns => (intsD b).bind fun ms => some (.val (.bl (HT.lexLt ns ms)))
  | _ => none
theorem dc_ltT : DC K (rl2 (rLtT K)) gLtT := fun G H xs vs z sb pl q e Q k => by
  unfold gLtT at e
  split at e
  · obtain ⟨ns, e1, e⟩ := Option.bind_eq_some_iff.mp e
    obtain ⟨ms, e2, e⟩ := Option.bind_eq_some_iff.mp e
    cases e
    have z1 := intsD_eq e1
    have z2 := intsD_eq e2
    subst z1
    subst z2
    cases q with | cons p q => cases q with | cons p2 q =>
      cases q
      cases p with | tup a1 a2 => cases p2 with | tup b1 b2 =>
        have y1 := rp_ints a2
        have y2 := rp_ints b2
        subst y1
        subst y2
        exact ⟨_, _, ns, ms, rfl, rfl, sub_t pl sb a1, sub_t pl sb b1, k _ (.bl _)⟩
  · cases e
/-! ### all(..) -/
theorem SI.tabbed {F : Fx} {G H H2 : Hp} {r : List T} {x : List (Option V)} {P : Addr} (I : SI K F G H r x) (hP : TbS.tb P) (hT : GxR.Tabbed P H H2) : SI K F G H2 r x := by
  obtain ⟨f, hr, hf⟩ := I.own
  have ne : ∀ a, ¬ TbS.tb a → H2 a = H a := fun a t => hT.2 a fun z => t (by rw [z]; exact hP)
  have nG : ∀ a o, G a = some o → ¬ TbS.tb a := fun a o e t => by rw [I.gtb a t] at e; cases e
  have tb : ∀ a, TbS.tb a → GxR.TabG H2 a := fun a t => by
    by_cases c : a = P
    · rw [c]; exact hT.1
    · obtain ⟨ps, q, z⟩ := I.tab a t
      exact ⟨ps, by rw [hT.2 a c]; exact q, z⟩
  refine I.nextT f hf (Ex.refl G) (fun a o e => ?_) I.pl (fun a o e _ t => by rw [ne a t]; exact e) tb (fun a h => ?_) (fun a o e => Or.inl e) (hr.frame (Ex.refl G) fun b hb => ne b (hf b hb).2.2.2) (fun b hb => ⟨(hf b hb).1, by rw [ne b (hf b hb).2.2.2]; exact (hf b hb).2.1, Or.inl hb⟩)
  · rw [ne a (nG a o e)]; exact I.gh a o e
  · by_cases t : TbS.tb a
    · obtain ⟨ps, q, _⟩ := tb a t
      rw [q]; exact Option.some_ne_none _
    · rw [ne a t]; exact h
def allD (h : GD) (e : FD) (own : List Nat) : List D → Env → Option (Bool × Env)
  | [], r => some (true, r)
  | d :: l, r => (h (wipeT r own) (.fz d)).bind fun r1 => (e r1).bind fun p => match p.1 with
    | .bl true => allD h e own l p.2
    | .bl false => some (false, p.2)
    | _ => none
def dAllG (f : ID) (h : GD) (e : FD) (own : List Nat) : ED := fun r => (f r).bind fun p => (allD h e own p.1 p.2).bind fun q => some (.sh (.bl q.1), restore p.2 own q.2)
theorem gx_end {F : Fx} {G0 G' H0 H' : Hp} {r0 r' : Env} {s σ' : L2.St} {tm : List T} {us : List (Option V)} {own : List Nat} (I0 : SI K F G0 H0 (r0 ++ tm) (s ++ us)) (l0 : r0.length = s.length) (xg : Ex G0 G') (I : SI K F G' H' (r' ++ tm) (σ' ++ us)) (hl : r'.length = σ'.length) (w : wipe σ' own = wipe s own) :
    SI K F G' H' (restore r0 own r' ++ tm) (s ++ us) ∧ (restore r0 own r').length = s.length := by
  obtain ⟨f, hr, _⟩ := I0.own
  obtain ⟨g1, _, k1, _⟩ := hr.split l0
  have J := I.restored hl k1 xg own
  rw [resV_get (wipe_len w) fun i c => of_wipe w c] at J
  exact ⟨J, by rw [restore_len, hl, wipe_len w]⟩
theorem de_allG {P : Addr} {wi : TI} {g : TG} {te : TE} {f : ID} {h : GD} {e : FD} {own : List Nat} (hP : TbS.tb P) (hi : DI K wi f) (hg : DG K (fun i => own.contains i) g h) (he : DF K te e) : DE K (tAllG P wi g te own) (dAllG f h e own) := fun F G H r s tm us w r' I hl ee Q q => by
  obtain ⟨⟨l, r1⟩, e1, ee⟩ := Option.bind_eq_some_iff.mp ee
  obtain ⟨⟨bb, r2⟩, e2, ee⟩ := Option.bind_eq_some_iff.mp ee
  cases ee
  refine hi F G H r s tm us l r1 I hl e1 _ fun J G1 H1 x1 I1 l1 hJ => ⟨I1.tab P hP, fun H2 hT => ?_⟩
  have I2 := I1.tabbed hP hT
  have fin : ∀ G' H' σ' r', Ex G1 G' → SI K F G' H' (r' ++ tm) (σ' ++ us) → r'.length = σ'.length → wipe σ' own = wipe s own → r' = r2 → Q (.bl bb) H' := fun G' H' σ' r' xg I3 l3 w3 er => by
    subst er
    obtain ⟨J3, m3⟩ := gx_end I1 l1 xg I3 l3 w3
    exact q _ G' H' (x1.trans xg) (by simpa only [W.tm, W.vl, List.append_nil] using J3) m3 (.bl bb)
  refine ⟨fun i m H' => i ≤ l.length ∧ m = l.length - i ∧ ∃ G' rr σ1, Ex G1 G' ∧ SI K F G' H' (rr ++ tm) (σ1 ++ us) ∧ rr.length = σ1.length ∧ wipe σ1 own = wipe s own ∧ allD h e own (l.drop i) rr = some (bb, r2), ⟨l.length, Nat.zero_le _, rfl, G1, r1, s, Ex.refl G1, I2, l1, rfl, e2⟩, ?_⟩
  rintro i m H3 ⟨hi, rfl, G3, r3, σ3, x3, I3, l3, w3, e3⟩
  by_cases c : i < l.length
  · have hd : l[i]? = some l[i] := List.getElem?_eq_getElem c
    obtain ⟨go, yl⟩ := (hJ F G3 H3 _ _ x3 I3 i).1 _ hd
    rw [List.drop_eq_getElem_cons c] at e3
    obtain ⟨r4, e4, e5⟩ := Option.bind_eq_some_iff.mp (show (h (wipeT r3 own) (.fz l[i])).bind _ = _ from e3)
    obtain ⟨⟨d, r5⟩, e6, e7⟩ := Option.bind_eq_some_iff.mp e5
    refine Or.inr ⟨go, by omega, fun x H4 y => ?_⟩
    obtain ⟨G4, x4, I4, q4⟩ := yl x H4 y
    have J2 := I4.wiped l3 own
    rw [w3] at J2
    have lw : (wipeT r3 own).length = (wipe s own).length := by rw [wipeT_len, wipe_length, l3, wipe_len w3]
    have J3 : SI K F G4 H4 (wipeT r3 own ++ (.fz l[i]) :: tm) (wipe s own ++ some x :: us) := by
      obtain ⟨ff, hr, hf⟩ := J2.own
      obtain ⟨g1, g2, k1, k2, k3, k4, k5⟩ := hr.split lw
      have m : RtL K G4 H4 (.fz l[i] :: tm) (some x :: us) g2 := .cons (g := fun _ => False) (.fz q4) k2 (fun b hb => hb.elim) (fun b hb => hb) (fun b hb => hb.elim)
      exact J2.same hf (m.app k1 k5) fun b hb => hb.elim (k3 b) (k4 b)
    refine hg F (fun j => if own.contains j then none else (wipe s own)[j]?) G4 H4 _ _ (.fz l[i]) x _ _ r4 (fun j hj => by rw [if_pos hj]) J3 lw (fun j v hv => ?_) e4 _ fun s5 G5 H5 x5 I5 l5 m5 p5 => ?_
    · dsimp only at hv
      split at hv
      · cases hv
      · exact hv
    have w5 : wipe s5 own = wipe s own := by
      rw [← wipe_idem (s := s)]
      refine wipe_same m5 fun j cj => ?_
      by_cases hj : j < (wipe s own).length
      · rw [List.getElem?_eq_getElem hj]
        exact p5 j _ (by dsimp only; rw [if_neg (by simpa using cj), List.getElem?_eq_getElem hj])
      · rw [List.getElem?_eq_none (by omega), List.getElem?_eq_none (by omega)]
    refine ⟨w5, ?_⟩
    have xx := (x3.trans x4).trans x5
    refine he F G5 H5 r4 s5 _ _ d r5 I5 l5 e6 _ fun v G6 H6 x6 I6 l6 q6 => ?_
    dsimp only at e7
    split at e7
    · cases q6
      exact Or.inr ⟨rfl, l.length - (i + 1), by omega, c, rfl, G6, r5, s5, xx.trans x6, I6, l6, w5, e7⟩
    · cases e7
      cases q6
      exact Or.inl ⟨rfl, fin G6 H6 s5 _ (xx.trans x6) I6 l6 w5 rfl⟩
    · cases e7
  · have ei : i = l.length := by omega
    subst ei
    rw [List.drop_length] at e3
    cases e3
    exact Or.inl ⟨(hJ F G3 H3 _ _ x3 I3 l.length).2 (Nat.le_refl _), fin G3 H3 σ3 _ x3 I3 l3 w3 rfl⟩
end
/-! ### what is written of a generator expression's scope -/
def gxB (N : List Str) (sc scope : Scope) (own : List (Str × Nat)) : Bool :=
  (match scope.kind with | .function => true | _ => false) && !scope.isCoroutine && decide (scope.names.lookup (".0" : Str) = some NameKind.local) && (own.all fun p => decide (N[p.2]? = some p.1)) &&
    (scope.names.all fun y => match y.2 with
      | .free => (match sc.names.lookup y.1 with | some .cell => true | some .free => true | _ => false)
      | .local => decide (y.1 ∈ own.map (·.1)) || decide (y.1 ∉ N)
      | .cell => false
      | _ => true)
theorem gxOk_by {N : List Str} {sc scope : Scope} {own : List (Str × Nat)} (h : gxB N sc scope own = true) : GxOk N sc scope own := by
  unfold gxB at h
  simp only [Bool.and_eq_true, List.all_eq_true, decide_eq_true_eq, Bool.not_eq_true'] at h
  obtain ⟨⟨⟨⟨h1, h2⟩, h3⟩, h4⟩, h5⟩ := h
  refine ⟨?_, h2, fun y hy e => ?_, h3, h4, fun y hy e => ?_, fun y hy e => ?_⟩
  · split at h1
    · assumption
    · cases h1
  · have q := h5 y hy
    simp only [e] at q
    cases q
  · have q := h5 y hy
    simp only [e] at q
    split at q <;> first | exact Or.inl (by assumption) | exact Or.inr (by assumption) | cases q
  · have q := h5 y hy
    simp only [e, Bool.or_eq_true, decide_eq_true_eq] at q
    exact q
theorem room_ul {k : Nat} {A : Around} (r : Room k A) : A.units < cLine := by have := r.un; omega
theorem room_gx {k : Nat} {A : Around} {env : PySem.Env} (r : Room (k + 1) A) : Room k (A.in1.in1.deeper env) :=
  ⟨r.hd, by have := r.dp; show A.depth + 1 + 3 * k + 5 < _; omega, by have := r.un; show A.units + 1 + 1 + 3 + 16 * k + 200 < _; omega⟩
end Q

set_option Elab.async false
set_option linter.all false
set_option maxRecDepth 100000
set_option maxHeartbeats 2000000
namespace Q
open PySem PySem.Spec PyProof.Rows L2
/-! ### the end of a law whose defs have tables -/
abbrev tab0 : Obj := { cls := .none, data := .fields #[] }
open Classical in
/-- the caller's heap knows the script and the tables -/
noncomputable def startH (K : PySem.W.Frag) (cs : List (Addr × Addr)) (a : Addr) (vs : List Value) (ns : List Int) : Hp := fun b => if b ∈ cs.map (·.2) then some (.tbl #[]) else scriptH K a vs ns b
theorem startH_some {K : PySem.W.Frag} {cs : List (Addr × Addr)} {a b : Addr} {vs : List Value} {ns : List Int} {o : HO} (h : startH K cs a vs ns b = some o) :
    (b ∈ cs.map (·.2) ∧ o = .tbl #[]) ∨ (b ∉ cs.map (·.2) ∧ b = a ∧ K.lookup a = none ∧ o = .frz { cls := .type "list", data := .seq vs.toArray } (.lst (ns.map V.int))) := by
  unfold startH at h
  split at h
  · rename_i c; cases h; exact Or.inl ⟨c, rfl⟩
  · rename_i c; exact Or.inr ⟨c, scriptH_some h⟩
theorem law_gT {P : Program} {w : World} {K : PySem.W.Frag} {mg mb : Str → Option Value} {k : Nat} {fa a : Addr} {fd : FuncData} {x : Str} {sp : Sp} {s1 : Shared} {vs : List Value} {ns : List Int} {cs : List (Addr × Addr)}
    (KX : K.In s1.heap) (hns : s1.heap.Ns mainGlobals mg) (hb : s1.heap.Ns builtinsNs mb) (hbb : ∀ y : Str, y ≠ "__name__" → mb y = bootBuiltins y) (hlim : s1.heap.NoLimit) (hg : s1.gens = #[])
    (hT : ∀ p ∈ cs, s1.heap.get? p.2 = some tab0) (nT : ∀ p ∈ cs, K.lookup p.2 = none) (C : ∀ p ∈ cs, PySem.W.CodeHd s1.heap p.1 p.2)
    (hbm : ∃ (bm : Addr) (ob : Obj), mg "__builtins__" = some (.ref bm) ∧ bm ≠ builtinsNs ∧ s1.heap.get? bm = some ob ∧ ob.cls = .type "module" ∧ ob.dict = some builtinsNs ∧ ob.data = .plain)
    (ha : s1.heap.get? a = some { cls := .type "list", data := .seq vs.toArray }) (hi : IntsAre vs ns) (hl : ns.length ≤ sizeLine) (hr : Room k callerA)
    (F : ∀ base : Heap, K.In base → base.Ns mainGlobals mg → (∀ p ∈ cs, GxR.TabB base mg p.1 p.2) → FnG P w K mg base k fa fd [x] sp) (hbind : ∀ (s : Shared) (u : Value), BindsTo s fd ⟨[u], []⟩ [(x, u)])
    (hsp : ∀ H : Hp, (∀ p ∈ cs, H p.2 = some (.tbl #[])) → SqL K H a (ns.map V.int) → sp [.ref a] H (fun v _ => v = .bl true) fun _ _ _ => False) :
    codeAny (model P w) callerA (.call (.ref fa) ⟨[.ref a], []⟩) (fun r s' => r = .ok (.ret (.bool true)) ∧ OldK s1.heap s'.heap ∧ s'.os = s1.os ∧ AllBare s'.gens) s1 := by
  have rv := vals_ints hi
  have lenV := hi.length
  have tabs : ∀ b, b ∈ cs.map (·.2) → s1.heap.get? b = some tab0 ∧ K.lookup b = none := fun b hb => by
    obtain ⟨p, hp, rfl⟩ := List.mem_map.mp hb
    exact ⟨hT p hp, nT p hp⟩
  have na : a ∉ cs.map (·.2) := fun z => by
    have q := (tabs a z).1
    rw [ha] at q
    exact nomatch (congrArg Obj.data (Option.some.inj q) : Data.seq vs.toArray _ = Data.fields #[])
  generalize hH : startH K cs a vs ns = H
  have known : ∀ {b : Addr} {o : HO}, H b = some o → (b ∈ cs.map (·.2) ∧ o = .tbl #[]) ∨ (b ∉ cs.map (·.2) ∧ b = a ∧ K.lookup a = none ∧ o = .frz { cls := .type "list", data := .seq vs.toArray } (.lst (ns.map V.int))) := fun {b o} e => by
    rw [← hH] at e
    exact startH_some e
  have ht : ∀ b, b ∈ cs.map (·.2) → H b = some (.tbl #[]) := fun b hb => by
    rw [← hH]; unfold startH; rw [if_pos hb]
  have ok : HOk P w H s1.heap := fun b o e => by
    rcases known e with ⟨z, rfl⟩ | ⟨_, rfl, _, rfl⟩
    · exact (tabs b z).1
    · exact ⟨ha, List.length_map (f := V.int) ▸ hl, vs, _, rv, ha⟩
  have sq : SqL K H a (ns.map V.int) := by
    cases c : K.lookup a with
    | none => exact Or.inl (Or.inr ⟨_, by rw [← hH]; unfold startH scriptH; rw [if_neg na, if_pos ⟨rfl, c⟩]⟩)
    | some o =>
      have z := KX a o c
      rw [ha] at z
      cases z
      exact Or.inr ⟨_, vs.toArray, _, c, rfl, rfl, rfl, by rw [List.size_toArray, lenV]; exact hl, by simpa using rv⟩
  -- what is neither a list nor a table is not known
  have out : ∀ {b : Addr} {o : Obj}, s1.heap.get? b = some o → (∀ us n, o.data ≠ .seq us n) → o.data ≠ .fields #[] → H b = none := fun {b o} e h1 h2 => by
    cases q : H b with
    | none => rfl
    | some u =>
      rcases known q with ⟨z, _⟩ | ⟨_, rfl, _, _⟩
      · rw [(tabs b z).1] at e
        cases e
        exact absurd rfl h2
      · rw [ha] at e
        cases e
        exact absurd rfl (h1 _ _)
  have names : ∀ {b : Addr} {m : Str → Option Value}, s1.heap.Ns b m → (hidT s1.heap H).Ns b m := fun {b m} ⟨o, es, ep, e, d, z⟩ =>
    ⟨o, es, ep, hidT_get e (out e (fun us n y => by rw [d] at y; cases y) fun y => by rw [d] at y; cases y), d, z⟩
  have kin : K.In (hidT s1.heap H) := fun b o e => hidT_get (KX b o e) (by
    cases q : H b with
    | none => rfl
    | some u =>
      rcases known q with ⟨z, _⟩ | ⟨_, rfl, z, _⟩
      · rw [(tabs b z).2] at e; cases e
      · rw [e] at z; cases z)
  have TB : ∀ p ∈ cs, GxR.TabB (hidT s1.heap H) mg p.1 p.2 := fun p hp => by
    obtain ⟨o, us, fl, tf, fg, tg, inF, tx, tt, e1, e2, e3, e4, er⟩ := C p hp
    obtain ⟨bm, ob, b1, b2, b3, b4, b5, b6⟩ := hbm
    refine ⟨⟨o, us, fl, tf, fg, tg, inF, tx, tt, hidT_get e1 (out e1 (fun vs n z => by rw [e3] at z; cases z) fun z => ?_), e2, e3, e4, er⟩, ⟨bm, ob, b1, b2, fun z => ?_, fun z => ?_, hidT_get b3 (out b3 (fun vs n z => by rw [b6] at z; cases z) fun z => by rw [b6] at z; cases z), b4, b5, b6⟩, fun z => ?_⟩
    · rw [e3] at z
      cases z
      simp at e4
    · obtain ⟨o', es, ep, e, d, _⟩ := hns
      rw [z, e] at b3
      cases b3
      rw [d] at b6
      cases b6
    · rw [z, hT p hp] at b3
      cases b3
      cases b6
    · obtain ⟨o', es, ep, e, d, _⟩ := hns
      rw [z, hT p hp] at e
      cases e
      cases d
  obtain ⟨mc, n1, n2⟩ := hlim
  have e0 : Env0 P w K mg (hidT s1.heap H) callerA [] s1 H :=
    { frames := rfl, mod := ⟨kin, names hns, ⟨mb, names hb, hbb⟩, ⟨mc, names n1, n2⟩⟩, bs := fun b o e => of_hidT e, bsz := Nat.le_of_eq (hidT_size _ _), funs := trivial, frf := fun b z => absurd (show b ∈ ([] : List Addr) from z) (by simp), hok := ok, bare := .of_eq hg }
  refine codeAny_mono ((F _ kin (names hns) TB).run callerA [] s1 H ⟨[.ref a], []⟩ [.ref a] [.ref a] _ _ hr rfl e0 (hbind s1 (.ref a)) (.cons rfl .nil) (hsp H (fun p hp => ht p.2 (List.mem_map.mpr ⟨p, hp, rfl⟩)) sq)) fun r s' told => ?_
  match r, told with
  | .error e, told =>
    obtain ⟨_, _, _, _, _, _, _, _, _, _, _, _, z⟩ := told
    exact z.elim
  | .ok (.ret u), ⟨v, H', os, bare, un, ok', rel, z⟩ =>
    have z' : v = .bl true := z
    subst z'
    obtain rfl : u = Value.bool true := rel
    have same : ∀ b o, b ∉ cs.map (·.2) → s1.heap.get? b = some o → s'.heap.get? b = some o := fun b o nb e => by
      cases q : H b with
      | none => exact un.keep b o e q (fun z => absurd (show b ∈ ([] : List Addr) from z) (by simp)) (by simp)
      | some u =>
        rcases known q with ⟨y, _⟩ | ⟨_, rfl, _, rfl⟩
        · exact absurd y nb
        · obtain ⟨e1, _⟩ := ok b _ q
          obtain ⟨e2, _⟩ := ok' b _ (un.frzs b _ _ q)
          rw [e] at e1
          cases e1
          exact e2
    have more : ∀ p ∈ cs, ∃ m : Array Value, s'.heap.get? p.2 = some { cls := .none, data := .fields m } := fun p hp => by
      obtain ⟨m, y⟩ := un.tbls p.2 #[] (ht p.2 (List.mem_map.mpr ⟨p, hp, rfl⟩))
      exact ⟨_, ok' p.2 _ y⟩
    refine ⟨rfl, ⟨fun b o e => ?_, fun b o e => ?_⟩, os, bare⟩
    · by_cases c : b ∈ cs.map (·.2)
      · obtain ⟨p, hp, rfl⟩ := List.mem_map.mp c
        obtain ⟨m, hm⟩ := more p hp
        have e' : s1.heap.get? p.2 = some o := e
        rw [hT p hp] at e'
        cases e'
        exact Or.inr (Or.inl ⟨((C p hp).tab (hT p hp)).isCodeTable, rfl, #[], m, rfl, by rw [Array.empty_append]; exact hm⟩)
      · exact Or.inl (same b o c e)
    · by_cases c : b ∈ cs.map (·.2)
      · obtain ⟨p, hp, rfl⟩ := List.mem_map.mp c
        obtain ⟨m, hm⟩ := more p hp
        exact ⟨_, hm⟩
      · exact ⟨o, same b o c e⟩
/-- the table of the def that is called x is empty as yet -/
def TabOf (K : PySem.W.Frag) (mg : Str → Option Value) (h : Heap) (x : Str) : Prop := ∀ (f c P : Addr) (o : Obj) (fd : FuncData) (e : Value) (dd : Option Addr) (us : Array Value) (sl : Array (Option Value)), mg x = some (.ref f) → K.lookup f = some o → o.data = .func fd → fd.code = .ref c →
  K.lookup c = some ⟨e, dd, .fields us, sl⟩ → us[11]? = some (.ref P) → h.get? P = some tab0 ∧ PySem.W.CodeHd h c P
theorem walk_gT {l : PySem.W.OpenLaw} {n k : Nat} {q : Program} {loose : List Str} {XP : (Str → Option Value) → Heap → Prop} {YP : World → Heap → Prop} {d : DefRec} {K : Params → PySem.W.Frag} {x : Str}
    (hn : l.most = some n) (hn2 : n ≤ sizeLine) (hdf : d.params.defaults = []) (hr : Room k callerA) (hY : ∀ (w : World) (h : Heap), YP w h → (K w.params).In h)
    (F : ∀ (w : World) (mg : Str → Option Value) (fa : Addr) (h : Heap), (K w.params).In h → h.Ns mainGlobals mg → mg d.name = some (.ref fa) → (∀ y, ((recsOf q).any fun e => e.name == y) = true → TabOf (K w.params) mg h y) →
      ∃ (fd : FuncData) (cs : List (Addr × Addr)) (sp : Sp), (∀ (s : Shared) (u : Value), BindsTo s fd ⟨[u], []⟩ [(x, u)]) ∧ (∀ p ∈ cs, h.get? p.2 = some tab0 ∧ (K w.params).lookup p.2 = none ∧ PySem.W.CodeHd h p.1 p.2) ∧
        (∀ base : Heap, (K w.params).In base → base.Ns mainGlobals mg → (∀ p ∈ cs, GxR.TabB base mg p.1 p.2) → FnG l.prog w (K w.params) mg base k fa fd [x] sp) ∧
        ∀ (H : Hp) (a : Addr) (ns : List Int), ns.length ≤ n → (∀ p ∈ cs, H p.2 = some (.tbl #[])) → SqL (K w.params) H a (ns.map V.int) → sp [.ref a] H (fun v _ => v = .bl true) fun _ _ _ => False) :
    PySem.W.WalkO q loose XP YP l.row.toRowW d [] (fun f vs => PySem.call f vs) := by
  refine Att.attach_call hn hdf fun w s0 s1 mg mb fa o pm cd doc a vs ns G Y ho hd hcd hmg hobj hints hlen hg => ?_
  have KX := hY w _ Y
  have tabs : ∀ y, ((recsOf q).any fun e => e.name == y) = true → TabOf (K w.params) mg s1.heap y := fun y hy f c P o1 fd1 e dd us sl k0 k1 k2 k3 k4 k5 => by
    obtain ⟨dL, hm, hn1⟩ := List.any_eq_true.mp hy
    obtain ⟨a', o', fd', c', P', h1, h2, h3, h4, h5, h6⟩ := G.T.tab dL hm
    rw [beq_iff_eq.mp hn1, k0] at h1
    cases h1
    rw [KX _ _ k1] at h2
    cases h2
    rw [k2] at h3
    cases h3
    rw [k3] at h4
    cases h4
    have hd := PySem.W.CodeHd.of h5 h6
    obtain ⟨⟨oc, vc, e1, _, e3, e4⟩, hP⟩ := h6
    rw [KX _ _ k4] at e1
    cases e1
    cases e3
    rw [k5] at e4
    cases e4
    exact ⟨hP, hd⟩
  obtain ⟨fd, cs, sp, bind, tb, prom, met⟩ := F w mg fa _ KX G.T.g hmg tabs
  exact law_gT KX G.T.g G.T.b G.T.builtins G.T.nolimit hg (fun p hp => (tb p hp).1) (fun p hp => (tb p hp).2.1) (fun p hp => (tb p hp).2.2) G.T.bmain hobj hints (Nat.le_trans hlen hn2) hr prom bind fun H hH hS => met H a ns hlen hH hS
end Q

set_option Elab.async false
set_option linter.all false
set_option maxRecDepth 100000
set_option maxHeartbeats 2000000
namespace Q
open PySem PySem.Spec PyProof.Rows L2
/-! ### a calculus of worths: each rule tells what a piece is worth from what its parts are worth -/
theorem fzs_data (M : List D) : T.data (.ls (M.map .fz)) = some (.lst M) := by
  show (dataL _).map D.lst = _
  rw [dataL_fz]
  rfl
theorem frz_fz (d : D) : T.frz (.fz d) = .fz d := rfl
theorem frz_un : T.frz .un = .un := rfl
theorem frz_ls (M : List D) : T.frz (.ls (M.map .fz)) = .fz (.lst M) := by unfold T.frz; rw [fzs_data]
theorem frz_ls1 (d : D) : T.frz (.ls [.fz d]) = .fz (.lst [d]) := rfl
def frzE : Env → Env := List.map T.frz
theorem frzE_nil : frzE [] = [] := rfl
theorem frzE_cons (t : T) (r : Env) : frzE (t :: r) = t.frz :: frzE r := rfl
abbrev oL (M : List D) : T := .ls (M.map .fz)
namespace EV
variable {r r1 r2 r3 : Env}
/-! variables, constants -/
theorem varF {i : Nat} {d : D} (h : r[i]? = some (.fz d)) : dVar i r = some (.pl i, r) := by unfold dVar; rw [h]
theorem varL {i : Nat} {l : List T} (h : r[i]? = some (.ls l)) : dVar i r = some (.pl i, r) := by unfold dVar; rw [h]
theorem shF {i : Nat} {d : D} (h : r[i]? = some (.fz d)) (hs : r.set i (.fz d) = r1) : dSh (dVar i) r = some (d, r1) := by
  unfold dSh dVar; rw [h]; simp [share, h, T.data, hs]
theorem set_same {i : Nat} {t : T} (h : r[i]? = some t) : r.set i t = r := by
  obtain ⟨hl, he⟩ := List.getElem?_eq_some_iff.mp h
  rw [← he]; exact List.set_getElem_self hl
theorem shV {i : Nat} {d : D} (h : r[i]? = some (.fz d)) : dSh (dVar i) r = some (d, r) := shF h (set_same h)
theorem shO {i : Nat} {M : List D} (h : r[i]? = some (.ls (M.map .fz))) (hs : r.set i (.fz (.lst M)) = r1) : dSh (dVar i) r = some (.lst M, r1) := by
  unfold dSh dVar; rw [h]; simp only [Option.bind_some, share, h, fzs_data, hs]
theorem cW (d : D) : dC d r = some (.sh d, r) := rfl
theorem cE (d : D) : dSh (dC d) r = some (d, r) := rfl
theorem shS {f : ED} {d : D} (h : f r = some (.sh d, r1)) : dSh f r = some (d, r1) := sh_sh h
theorem shN {f : ED} {M : List D} (h : f r = some (.nw (.ls (M.map .fz)), r1)) : dSh f r = some (.lst M, r1) := sh_nw h (fzs_data M)
theorem scal {f : FD} {d : D} (hr : frzE r = r2) (h : f r2 = some (d, r1)) (hd : d.scal = true) : dScal f r = some (d, r) := by
  unfold dScal; rw [show r.map T.frz = r2 from hr, h]; simp [hd]
theorem lift {f : FD} {d : D} (h : f r = some (d, r1)) : dLift f r = some (.sh d, r1) := by unfold dLift; rw [h]; rfl
/-! lists of arguments -/
theorem fn : fdNil r = some ([], r) := rfl
theorem fc {f : FD} {g : FDs} {d : D} {ds : List D} (h1 : f r = some (d, r1)) (h2 : g r1 = some (ds, r2)) : fdCons f g r = some (d :: ds, r2) := by simp [fdCons, h1, h2]
theorem an : daNil r = some ([], r) := rfl
theorem ac {f : ED} {g : AD} {w : W} {ws : List W} (h1 : f r = some (w, r1)) (h2 : g r1 = some (ws, r2)) : daCons f g r = some (w :: ws, r2) := by simp [daCons, h1, h2]
theorem mn : mdNil r = some ([], r) := rfl
theorem mc {f : MD} {g : MDs} {t : T} {ts : List T} (h1 : f r = some (t, r1)) (h2 : g r1 = some (ts, r2)) : mdCons f g r = some (t :: ts, r2) := by simp [mdCons, h1, h2]
/-! moved -/
theorem mS {f : ED} {d : D} (h : f r = some (.sh d, r1)) : dMv f r = some (.fz d, r1) := by simp [dMv, h, mv, share]
theorem mN {f : ED} {t : T} (h : f r = some (.nw t, r1)) : dMv f r = some (t, r1) := by simp [dMv, h, mv]
theorem mV {i : Nat} {d : D} (h : r[i]? = some (.fz d)) : dMv (dVar i) r = some (.fz d, r) := by
  have s := shV h
  unfold dSh at s
  unfold dMv
  rw [varF h] at s ⊢
  simp only [Option.bind_some] at s ⊢
  simp only [mv, s, Option.bind_some]
theorem mO {i : Nat} {M : List D} (h : r[i]? = some (.ls (M.map .fz))) (hs : r.set i (.fz (.lst M)) = r1) : dMv (dVar i) r = some (.fz (.lst M), r1) := by
  have s := shO h hs
  unfold dSh at s
  unfold dMv
  rw [varL h] at s ⊢
  simp only [Option.bind_some] at s ⊢
  simp only [mv, s, Option.bind_some]
theorem mvMF {i : Nat} {d : D} (h : r[i]? = some (.fz d)) (hs : r.set i .un = r1) : dMv (dMove i) r = some (.fz d, r1) := by
  unfold dMv dMove; rw [h]; simp only [Option.bind_some, mv, hs]
theorem mvML {i : Nat} {l : List T} (h : r[i]? = some (.ls l)) (hs : r.set i .un = r1) : dMv (dMove i) r = some (.ls l, r1) := by
  unfold dMv dMove; rw [h]; simp only [Option.bind_some, mv, hs]
/-! operations -/
section
variable {fa fb : FD} {x y : Int}
theorem opW {g : List D → Option Rs} {a b d : D} (h1 : fa r = some (a, r1)) (h2 : fb r1 = some (b, r2)) (h3 : g [a, b] = some (.val d)) : dOp g fa fb r = some (.sh d, r2) := op_eval h1 h2 h3
theorem unW {g : List D → Option Rs} {a d : D} (h1 : fa r = some (a, r1)) (h3 : g [a] = some (.val d)) : dWith (fdCons fa fdNil) g r = some (.sh d, r1) := un_eval h1 h3
theorem unT {g : List D → Option Rs} {a : D} {l : List D} (h1 : fa r = some (a, r1)) (h3 : g [a] = some (.newT l)) : dWith (fdCons fa fdNil) g r = some (.sh (.tup l), r1) := un_eval h1 h3
theorem unL {g : List D → Option Rs} {a : D} {l : List D} (h1 : fa r = some (a, r1)) (h3 : g [a] = some (.newL l)) : dWith (fdCons fa fdNil) g r = some (.nw (.ls (l.map .fz)), r1) := un_eval h1 h3
theorem add (h1 : fa r = some (.int x, r1)) (h2 : fb r1 = some (.int y, r2)) : dOp gAdd fa fb r = some (.sh (.int (x + y)), r2) := opW h1 h2 rfl
theorem sub (h1 : fa r = some (.int x, r1)) (h2 : fb r1 = some (.int y, r2)) : dOp gSubI fa fb r = some (.sh (.int (x - y)), r2) := opW h1 h2 rfl
theorem mul (h1 : fa r = some (.int x, r1)) (h2 : fb r1 = some (.int y, r2)) (hc : CMulW x y) : dOp gMul fa fb r = some (.sh (.int (x * y)), r2) := opW h1 h2 (if_pos (e := none) hc)
theorem mod (h1 : fa r = some (.int x, r1)) (h2 : fb r1 = some (.int y, r2)) (hc : 0 < y) : dOp gMod fa fb r = some (.sh (.int (x % y)), r2) := opW h1 h2 (if_pos (e := none) hc)
theorem div (h1 : fa r = some (.int x, r1)) (h2 : fb r1 = some (.int y, r2)) (hc : CDivW x y) : dOp gDiv fa fb r = some (.sh (.int (x / y)), r2) := opW h1 h2 (if_pos (e := none) hc)
theorem pow (h1 : fa r = some (.int x, r1)) (h2 : fb r1 = some (.int y, r2)) (hc : CPow x y) : dOp gPow fa fb r = some (.sh (.int (x ^ y.toNat)), r2) := opW h1 h2 (if_pos (e := none) hc)
theorem shl (h1 : fa r = some (.int x, r1)) (h2 : fb r1 = some (.int y, r2)) (hc : CPow x y) : dOp gShl fa fb r = some (.sh (.int (x * 2 ^ y.toNat)), r2) := opW h1 h2 (if_pos (e := none) hc)
theorem shr (h1 : fa r = some (.int x, r1)) (h2 : fb r1 = some (.int y, r2)) (hc : 0 ≤ y) : dOp gShr fa fb r = some (.sh (.int (x / 2 ^ y.toNat)), r2) := opW h1 h2 (if_pos (e := none) hc)
theorem band (h1 : fa r = some (.int x, r1)) (h2 : fb r1 = some (.int y, r2)) : dOp gBand fa fb r = some (.sh (.int (Builtin.bitAnd x y)), r2) := opW h1 h2 rfl
theorem bor (h1 : fa r = some (.int x, r1)) (h2 : fb r1 = some (.int y, r2)) : dOp gBor fa fb r = some (.sh (.int (Builtin.bitOr x y)), r2) := opW h1 h2 rfl
theorem bxor (h1 : fa r = some (.int x, r1)) (h2 : fb r1 = some (.int y, r2)) : dOp gBxor fa fb r = some (.sh (.int (Builtin.bitXor x y)), r2) := opW h1 h2 rfl
theorem lt (h1 : fa r = some (.int x, r1)) (h2 : fb r1 = some (.int y, r2)) : dOp gLt fa fb r = some (.sh (.bl (decide (x < y))), r2) := opW h1 h2 rfl
theorem le (h1 : fa r = some (.int x, r1)) (h2 : fb r1 = some (.int y, r2)) : dOp gLe fa fb r = some (.sh (.bl (decide (x ≤ y))), r2) := opW h1 h2 rfl
theorem gt (h1 : fa r = some (.int x, r1)) (h2 : fb r1 = some (.int y, r2)) : dOp gGt fa fb r = some (.sh (.bl (decide (y < x))), r2) := opW h1 h2 rfl
theorem ge (h1 : fa r = some (.int x, r1)) (h2 : fb r1 = some (.int y, r2)) : dOp gGe fa fb r = some (.sh (.bl (decide (y ≤ x))), r2) := opW h1 h2 rfl
theorem neg (h1 : fa r = some (.int x, r1)) : dUn gNeg fa r = some (.sh (.int (-x)), r1) := unW h1 rfl
theorem eqG {a b : D} {c : Bool} (h1 : fa r = some (a, r1)) (h2 : fb r1 = some (b, r2)) (h3 : gEq [a, b] = some (.val (.bl c))) : dOp gEq fa fb r = some (.sh (.bl c), r2) := opW h1 h2 h3
theorem neG {a b : D} {c : Bool} (h1 : fa r = some (a, r1)) (h2 : fb r1 = some (b, r2)) (h3 : gNe [a, b] = some (.val (.bl c))) : dOp gNe fa fb r = some (.sh (.bl c), r2) := opW h1 h2 h3
theorem eqI (a b : Int) : gEq [.int a, .int b] = some (.val (.bl (a == b))) := rfl
theorem neI (a b : Int) : gNe [.int a, .int b] = some (.val (.bl (!(a == b)))) := rfl
theorem isN {a : D} (h1 : fa r = some (a, r1)) (h2 : fb r1 = some (.non, r2)) : dOp gIsN fa fb r = some (.sh (.bl a.isNon), r2) := opW h1 h2 rfl
theorem notN {a : D} (h1 : fa r = some (a, r1)) (h2 : fb r1 = some (.non, r2)) : dOp gNotN fa fb r = some (.sh (.bl (!a.isNon)), r2) := opW h1 h2 rfl
theorem ixL {l : List D} {d : D} (h1 : fa r = some (.lst l, r1)) (h2 : fb r1 = some (.int x, r2)) (h3 : L2.atI l x = some d) : dOp gIx fa fb r = some (.sh d, r2) := opW h1 h2 (by simp only [gIx, D.items, Option.bind_some, h3])
theorem ixT {l : List D} {d : D} (h1 : fa r = some (.tup l, r1)) (h2 : fb r1 = some (.int x, r2)) (h3 : L2.atI l x = some d) : dOp gIx fa fb r = some (.sh d, r2) := opW h1 h2 (by simp only [gIx, D.items, Option.bind_some, h3])
theorem catT {a b : List D} (h1 : fa r = some (.tup a, r1)) (h2 : fb r1 = some (.tup b, r2)) (hl : a.length + b.length ≤ 1000000) : dOp gCatT fa fb r = some (.sh (.tup (a ++ b)), r2) := op_eval (z := .newT (a ++ b)) h1 h2 (by simp [gCatT, hl])
theorem catL {a b : List D} (h1 : fa r = some (.lst a, r1)) (h2 : fb r1 = some (.lst b, r2)) (hl : a.length + b.length ≤ 1000000) : dOp gCatL fa fb r = some (.nw (.ls ((a ++ b).map .fz)), r2) := op_eval (z := .newL (a ++ b)) h1 h2 (by simp [gCatL, hl])
theorem catS {a b : Str} (h1 : fa r = some (.str a, r1)) (h2 : fb r1 = some (.str b, r2)) (hl : a.length + b.length ≤ 1000000) : dOp gCatS fa fb r = some (.sh (.str (a ++ b)), r2) := op_eval (z := .val (.str (a ++ b))) h1 h2 (by simp [gCatS, hl])
theorem flat1 (d : D) : ∀ n : Nat, (List.replicate n [d]).flatten = List.replicate n d := by
  intro n
  induction n with
  | zero => rfl
  | succ n ih => rw [List.replicate_succ, List.flatten_cons, ih]; rfl
theorem mulL {d : D} (h1 : fa r = some (.lst [d], r1)) (h2 : fb r1 = some (.int x, r2)) (h0 : 0 ≤ x) (h3 : x ≤ 1000) : dOp gMulL fa fb r = some (.nw (.ls ((List.replicate x.toNat d).map .fz)), r2) :=
  op_eval (z := .newL (List.replicate x.toNat d)) h1 h2 (by
    show (if x ≤ 1000 ∧ [d].length ≤ 1000 ∧ 0 ≤ x then some (Rs.newL (List.replicate x.toNat [d]).flatten) else none) = _
    rw [if_pos ⟨h3, by simp, h0⟩, flat1])
theorem lenL {l : List D} (h1 : fa r = some (.lst l, r1)) : dWith (fdCons fa fdNil) gLen r = some (.sh (.int l.length), r1) := unW h1 rfl
theorem lenT {l : List D} (h1 : fa r = some (.tup l, r1)) : dWith (fdCons fa fdNil) gLen r = some (.sh (.int l.length), r1) := unW h1 rfl
theorem lenR {l : List Int} (h1 : fa r = some (.scr l, r1)) : dWith (fdCons fa fdNil) gLen r = some (.sh (.int l.length), r1) := unW h1 (by
  show (some (Rs.val (.int ((l.map D.int).length : Nat)))) = _
  rw [List.length_map])
theorem lenS {s : Str} (h1 : fa r = some (.str s, r1)) (hl : s.length ≤ 1000000) : dWith (fdCons fa fdNil) gLen r = some (.sh (.int s.length), r1) := unW h1 (if_pos (e := none) hl)
theorem tupL {l : List D} (h1 : fa r = some (.lst l, r1)) : dWith (fdCons fa fdNil) gTuple r = some (.sh (.tup l), r1) := unT h1 rfl
theorem tupT {l : List D} (h1 : fa r = some (.tup l, r1)) : dWith (fdCons fa fdNil) gTuple r = some (.sh (.tup l), r1) := unT h1 rfl
theorem lisL {l : List D} (h1 : fa r = some (.lst l, r1)) : dWith (fdCons fa fdNil) gList r = some (.nw (.ls (l.map .fz)), r1) := unL h1 rfl
theorem lisT {l : List D} (h1 : fa r = some (.tup l, r1)) : dWith (fdCons fa fdNil) gList r = some (.nw (.ls (l.map .fz)), r1) := unL h1 rfl
theorem rep {d : D} {s : Str} (h1 : fa r = some (d, r1)) (h3 : gRep [d] = some (.val (.str s))) : dWith (fdCons fa fdNil) gRep r = some (.sh (.str s), r1) := unW h1 h3
theorem max2 (h1 : fa r = some (.int x, r1)) (h2 : fb r1 = some (.int y, r2)) : dWith (fdCons fa (fdCons fb fdNil)) gMax2 r = some (.sh (.int (max x y)), r2) := by
  have e : gMax2 [.int x, .int y] = some (.val (.int (max x y))) := by
    show some (Rs.val (.int (if y > x then y else x))) = _
    congr 3
    split <;> omega
  exact opW h1 h2 e
theorem min2 (h1 : fa r = some (.int x, r1)) (h2 : fb r1 = some (.int y, r2)) : dWith (fdCons fa (fdCons fb fdNil)) gMin2 r = some (.sh (.int (min x y)), r2) := by
  have e : gMin2 [.int x, .int y] = some (.val (.int (min x y))) := by
    show some (Rs.val (.int (if y < x then y else x))) = _
    congr 3
    split <;> omega
  exact opW h1 h2 e
theorem intI (h1 : fa r = some (.int x, r1)) : dWith (fdCons fa fdNil) gInt r = some (.sh (.int x), r1) := unW h1 rfl
theorem intB {b : Bool} (h1 : fa r = some (.bl b, r1)) : dWith (fdCons fa fdNil) gInt r = some (.sh (.int (if b then 1 else 0)), r1) := unW h1 rfl
theorem strI (h1 : fa r = some (.int x, r1)) (hl : x.natAbs.log2 < 1920) : dWith (fdCons fa fdNil) gStrI r = some (.sh (.str (toString x)), r1) := unW h1 (if_pos (e := none) hl)
theorem inG {ng b : Bool} {a c : D} (h1 : fa r = some (a, r1)) (h2 : fb r1 = some (c, r2)) (h3 : gIn ng [a, c] = some (.val (.bl b))) : dOp (gIn ng) fa fb r = some (.sh (.bl b), r2) := opW h1 h2 h3
theorem inR {ng : Bool} (h1 : fa r = some (.int x, r1)) (h2 : fb r1 = some (.int y, r2)) : dInR ng fa fb r = some (.sh (.bl (if ng then !decide (0 ≤ x ∧ x < y) else decide (0 ≤ x ∧ x < y))), r2) := by
  unfold dInR; rw [h1]; simp only [Option.bind_some]; rw [h2]; rfl
theorem isi {c : Cl} {d : D} {b : Bool} (h1 : fa r = some (d, r1)) (h3 : d.isi c = some b) : dIsi c fa r = some (.sh (.bl b), r1) := by unfold dIsi; rw [h1]; simp [h3]
theorem revT {l : List D} (h1 : fa r = some (.tup l, r1)) : dUn gRevT fa r = some (.sh (.tup l.reverse), r1) := un_eval (z := .newT l.reverse) h1 rfl
theorem revL {l : List D} (h1 : fa r = some (.lst l, r1)) : dUn gRevL fa r = some (.nw (.ls (l.reverse.map .fz)), r1) := un_eval (z := .newL l.reverse) h1 rfl
theorem tup {fs : FDs} {ds : List D} (h : fs r = some (ds, r1)) (hl : ds.length ≤ 1000000) : dWith fs gTupD r = some (.sh (.tup ds), r1) := by simp [dWith, h, gTupD, hl, Rs.w]
theorem lst {fs : FDs} {ds : List D} (h : fs r = some (ds, r1)) (hl : ds.length ≤ 1000000) : dWith fs gLstD r = some (.nw (.ls (ds.map .fz)), r1) := by simp [dWith, h, gLstD, hl, Rs.w]
theorem ltT {a b : List Int} (h1 : fa r = some (.tup (a.map .int), r1)) (h2 : fb r1 = some (.tup (b.map .int), r2)) (ha : intsD (a.map .int) = some a) (hb : intsD (b.map .int) = some b) : dOp gLtT fa fb r = some (.sh (.bl (HT.lexLt a b)), r2) := opW h1 h2 (by simp only [gLtT, ha, hb, Option.bind_some])
end
/-! slices -/
theorem pN : pNo r = some (none, r) := rfl
theorem pA {f : FD} {x : Int} (h : f r = some (.int x, r1)) : pAt f r = some (some x, r1) := by unfold pAt; rw [h]; rfl
theorem slL {f : FD} {lo hi : PD} {l : List D} {a b : Option Int} (h1 : f r = some (.lst l, r1)) (h2 : lo r1 = some (a, r2)) (h3 : hi r2 = some (b, r3)) : dSl gSlL f lo hi r = some (.nw (.ls ((cutD l a b).map .fz)), r3) := by
  unfold dSl; rw [h1]; simp only [Option.bind_some]; rw [h2]; simp only [Option.bind_some]; rw [h3]; rfl
theorem slT {f : FD} {lo hi : PD} {l : List D} {a b : Option Int} (h1 : f r = some (.tup l, r1)) (h2 : lo r1 = some (a, r2)) (h3 : hi r2 = some (b, r3)) : dSl gSlT f lo hi r = some (.sh (.tup (cutD l a b)), r3) := by
  unfold dSl; rw [h1]; simp only [Option.bind_some]; rw [h2]; simp only [Option.bind_some]; rw [h3]; rfl
/-! sorted -/
theorem ss {f : FD} {a : D} {l : List D} (h1 : f r = some (a, r1)) (h2 : gSS a = some l) : dSS f r = some (.nw (.ls (l.map .fz)), r1) := by unfold dSS; rw [h1]; simp only [Option.bind_some, h2]; rfl
theorem srt {f : FD} {a : D} {l : List D} (h1 : f r = some (a, r1)) (h2 : gSortL a = some l) : dSortL f r = some (.nw (.ls (l.map .fz)), r1) := by unfold dSortL; rw [h1]; simp only [Option.bind_some, h2]; rfl
/-! tests -/
theorem bl {f : FD} {b : Bool} (h : f r = some (.bl b, r1)) : dBl f r = some (b, r1) := bl_of h
theorem tru {f : FD} {d : D} {b : Bool} (h : f r = some (d, r1)) (hb : truth d = some b) : dTru f r = some (b, r1) := by unfold dTru; rw [h]; simp [hb]
theorem not {f : BD} {b : Bool} (h : f r = some (b, r1)) : dNot f r = some (!b, r1) := by unfold dNot; rw [h]; rfl
theorem and {f g : BD} {a b : Bool} (h : f r = some (a, r1)) (h2 : g r1 = some (b, r1)) : dAnd f g r = some (a && b, r1) := by
  unfold dAnd; rw [h]; cases a
  · rfl
  · exact h2
theorem or {f g : BD} {a b : Bool} (h : f r = some (a, r1)) (h2 : g r1 = some (b, r1)) : dOr f g r = some (a || b, r1) := by
  unfold dOr; rw [h]; cases a
  · exact h2
  · rfl
theorem andT {f g : BD} {a b : Bool} (h : f r = some (a, r1)) (ha : a = true) (h2 : g r1 = some (b, r2)) : dAnd f g r = some (b, r2) := by subst ha; unfold dAnd; rw [h]; exact h2
theorem andF {f g : BD} {a : Bool} (h : f r = some (a, r1)) (ha : a = false) : dAnd f g r = some (false, r1) := by subst ha; unfold dAnd; rw [h]; rfl
theorem orF {f g : BD} {a b : Bool} (h : f r = some (a, r1)) (ha : a = false) (h2 : g r1 = some (b, r2)) : dOr f g r = some (b, r2) := by subst ha; unfold dOr; rw [h]; exact h2
theorem orT {f g : BD} {a : Bool} (h : f r = some (a, r1)) (ha : a = true) : dOr f g r = some (true, r1) := by subst ha; unfold dOr; rw [h]; rfl
theorem boolW {f : BD} {b : Bool} (h : f r = some (b, r1)) : dBool f r = some (.sh (.bl b), r1) := by unfold dBool; rw [h]; rfl
theorem scalT {f : BD} {b : Bool} (hr : frzE r = r2) (h : f r2 = some (b, r1)) : dScalT f r = some (b, r) := by unfold dScalT; rw [show r.map T.frz = r2 from hr, h]; rfl
theorem ifET {c : BD} {f g : ED} {b : Bool} {w : W} (h : c r = some (b, r1)) (hb : b = true) (h2 : f r1 = some (w, r2)) : dIfE c f g r = some (w, r2) := by subst hb; unfold dIfE; rw [h]; exact h2
theorem ifEF {c : BD} {f g : ED} {b : Bool} {w : W} (h : c r = some (b, r1)) (hb : b = false) (h2 : g r1 = some (w, r2)) : dIfE c f g r = some (w, r2) := by subst hb; unfold dIfE; rw [h]; exact h2
theorem chn {g g' : List D → Option Rs} {fa fb fc : FD} {a b c : D} {p q : Bool} (h1 : fa r = some (a, r1)) (h2 : fb r1 = some (b, r2)) (h3 : g [a, b] = some (.val (.bl p))) (h4 : fc r2 = some (c, r2)) (h5 : g' [b, c] = some (.val (.bl q))) : dChain g g' fa fb fc r = some (.sh (.bl (p && q)), r2) := by
  unfold dChain; rw [h1]; simp only [Option.bind_some]; rw [h2]; simp only [Option.bind_some, h3]
  cases p
  · rfl
  · simp only [h4, Option.bind_some, h5]; rfl
/-! maybe raising -/
theorem xl {f : ED} {w : W} (h : f r = some (w, r1)) : xLift f r = some (.inl w, r1) := by unfold xLift; rw [h]; rfl
theorem xb {f : BD} {b : Bool} (h : f r = some (b, r1)) : xbLift f r = some (.inl b, r1) := by unfold xbLift; rw [h]; rfl
theorem xblS {f : XD} {b : Bool} (h : f r = some (.inl (.sh (.bl b)), r1)) : xBl f r = some (.inl b, r1) := by unfold xBl; rw [h]; rfl
theorem xnot {f : XB} {b : Bool} (h : f r = some (.inl b, r1)) : xNot f r = some (.inl (!b), r1) := by unfold xNot; rw [h]; rfl
/-! calls -/
theorem callS {fn : FnT} {f : AD} {ws : List W} {ps qs ps' : List T} {d : D} (h1 : f r = some (ws, r1)) (h2 : pars r1 ws = some (ps, r2)) (hq : ps = qs) (h3 : fn qs = some (.ret (.fz d), ps')) (h4 : ps'.length = ws.length) (h5 : back r2 ws ps' = r3) : dCall fn f r = some (.sh d, r3) := by
  subst hq; simp [dCall, h1, h2, h3, h4, h5, resW]
theorem callN {fn : FnT} {f : AD} {ws : List W} {ps qs ps' : List T} {l : List T} (h1 : f r = some (ws, r1)) (h2 : pars r1 ws = some (ps, r2)) (hq : ps = qs) (h3 : fn qs = some (.ret (.ls l), ps')) (h4 : ps'.length = ws.length) (h5 : back r2 ws ps' = r3) : dCall fn f r = some (.nw (.ls l), r3) := by
  subst hq; simp [dCall, h1, h2, h3, h4, h5, resW]
theorem callXS {fn : FnT} {f : AD} {ws : List W} {ps qs ps' : List T} {d : D} (h1 : f r = some (ws, r1)) (h2 : pars r1 ws = some (ps, r2)) (hq : ps = qs) (h3 : fn qs = some (.ret (.fz d), ps')) (h4 : ps'.length = ws.length) (h5 : back r2 ws ps' = r3) : dCallX fn f r = some (.inl (.sh d), r3) := by
  subst hq; simp [dCallX, h1, h2, h3, h4, h5, resW]
theorem callXN {fn : FnT} {f : AD} {ws : List W} {ps qs ps' : List T} {l : List T} (h1 : f r = some (ws, r1)) (h2 : pars r1 ws = some (ps, r2)) (hq : ps = qs) (h3 : fn qs = some (.ret (.ls l), ps')) (h4 : ps'.length = ws.length) (h5 : back r2 ws ps' = r3) : dCallX fn f r = some (.inl (.nw (.ls l)), r3) := by
  subst hq; simp [dCallX, h1, h2, h3, h4, h5, resW]
theorem callXE {fn : FnT} {f : AD} {ws : List W} {ps qs ps' : List T} {c : Addr} (h1 : f r = some (ws, r1)) (h2 : pars r1 ws = some (ps, r2)) (hq : ps = qs) (h3 : fn qs = some (.exc c, ps')) (h4 : ps'.length = ws.length) (h5 : back r2 ws ps' = r3) : dCallX fn f r = some (.inr c, r3) := by
  subst hq; simp [dCallX, h1, h2, h3, h5]
/-! own lists -/
theorem ixO {i : Nat} {f : FD} {M : List D} {x : Int} {d : D} (h0 : r[i]? = some (.ls (M.map .fz))) (h1 : f r = some (.int x, r1)) (h2 : r1[i]? = some (.ls (M.map .fz))) (h3 : L2.atI M x = some d) : dIxO i f r = some (.sh d, r1) := by
  have e : L2.atI (M.map T.fz) x = some (.fz d) := by
    unfold L2.atI L2.ixN at h3 ⊢
    rw [List.length_map]
    obtain ⟨j, hj, hd⟩ := Option.bind_eq_some_iff.mp h3
    rw [hj]
    simp [hd]
  unfold dIxO
  rw [h0, h1]
  simp only [isLs, if_true, Option.bind_some, h2, e]
theorem app {i : Nat} {f : MD} {M : List D} {d : D} (h0 : r[i]? = some (.ls (M.map .fz))) (h1 : f r = some (.fz d, r1)) (h2 : r1[i]? = some (.ls (M.map .fz))) (hl : M.length < 1000000) (hs : r1.set i (.ls ((M ++ [d]).map .fz)) = r2) : dAppend i f r = some (.sh .non, r2) := by
  have e : (M ++ [d]).map T.fz = M.map .fz ++ [.fz d] := by simp
  have hl2 : (M.map T.fz).length < 1000000 := by rw [List.length_map]; exact hl
  unfold dAppend
  rw [h0, h1]
  simp only [isLs, if_true, Option.bind_some, h2, hl2, ← hs, e]
theorem shD {i : Nat} {l : List T} {M : List D} (h : r[i]? = some (.ls l)) (hd : dataL l = some M) (hs : r.set i (.fz (.lst M)) = r1) : dSh (dVar i) r = some (.lst M, r1) := by
  have e : T.data (.ls l) = some (.lst M) := by
    show (dataL l).map D.lst = _
    rw [hd]; rfl
  unfold dSh dVar; rw [h]; simp only [Option.bind_some, share, h, e, hs]
theorem dataL_app : ∀ {a b : List T} {x y : List D}, dataL a = some x → dataL b = some y → dataL (a ++ b) = some (x ++ y)
  | [], b, x, y, h1, h2 => by unfold dataL at h1; cases h1; exact h2
  | t :: a, b, x, y, h1, h2 => by
    unfold dataL at h1
    obtain ⟨d, e1, e2⟩ := Option.bind_eq_some_iff.mp h1
    obtain ⟨ds, e3, e4⟩ := Option.map_eq_some_iff.mp e2
    subst e4
    show dataL (t :: (a ++ b)) = _
    unfold dataL
    rw [e1, Option.bind_some, dataL_app e3 h2]
    rfl
theorem appT {i : Nat} {f : MD} {l : List T} {t : T} (h0 : r[i]? = some (.ls l)) (h1 : f r = some (t, r1)) (h2 : r1[i]? = some (.ls l)) (hl : l.length < 1000000) (hs : r1.set i (.ls (l ++ [t])) = r2) : dAppend i f r = some (.sh .non, r2) := by
  unfold dAppend
  rw [h0, h1]
  simp only [isLs, if_true, Option.bind_some, h2, hl, ← hs]
theorem ext {i : Nat} {f : FD} {M l : List D} (h0 : r[i]? = some (.ls (M.map .fz))) (h1 : f r = some (.tup l, r1)) (h2 : r1[i]? = some (.ls (M.map .fz))) (hl : M.length + l.length ≤ 1000000) (hs : r1.set i (.ls ((M ++ l).map .fz)) = r2) : dExtend i f r = some (.sh .non, r2) := by
  have e : (M ++ l).map T.fz = M.map .fz ++ l.map .fz := by simp
  have hl2 : (M.map T.fz).length + l.length ≤ 1000000 := by rw [List.length_map]; exact hl
  unfold dExtend
  rw [h0, h1]
  simp only [isLs, if_true, Option.bind_some, h2, hl2, ← hs, e]
theorem pop {i : Nat} {M : List D} {d : D} (h0 : r[i]? = some (.ls ((M ++ [d]).map .fz))) (hs : r.set i (.ls (M.map .fz)) = r1) : dPop i r = some (.sh d, r1) := by
  have e : (M ++ [d]).map T.fz = M.map .fz ++ [.fz d] := by simp
  unfold dPop
  rw [h0, e]
  simp [resW, ← hs]
theorem setO {i : Nat} {f : FD} {M : List D} {x : Int} {j : Nat} {d : D} (h0 : r[i]? = some (.ls (M.map .fz))) (h1 : f r = some (.int x, r1)) (h2 : r1[i]? = some (.ls (M.map .fz))) (h3 : L2.ixN M.length x = some j) (hs : r1.set i (.ls ((M.set j d).map .fz)) = r2) : gdIx i f r (.fz d) = some r2 := by
  unfold gdIx
  rw [h0, h1]
  simp only [isLs, if_true, Option.bind_some, h2, List.length_map, h3, ← hs, List.map_set]
theorem augO {i : Nat} {f : FD} {g : FD} {gop : List D → Option Rs} {M : List D} {x : Int} {j : Nat} {d e d' : D} (h0 : r[i]? = some (.ls (M.map .fz))) (h1 : f r = some (.int x, r1)) (h2 : r1[i]? = some (.ls (M.map .fz))) (hx : 0 ≤ x) (h3 : L2.ixN M.length x = some j) (h4 : M[j]? = some d) (h5 : g r1 = some (e, r2)) (h6 : gop [d, e] = some (.val d')) (h7 : r2[i]? = some (.ls (M.map .fz))) (hs : r2.set i (.ls ((M.set j d').map .fz)) = r3) : dAugIx i f gop g r = some (.nx r3) := by
  unfold dAugIx
  rw [h0, h1]
  have h4' : (M.map T.fz)[j]? = some (.fz d) := by rw [List.getElem?_map, h4]; rfl
  simp only [isLs, if_true, Option.bind_some, h2, List.length_map, hx, h3, h4', h5, h6, h7, ← hs, List.map_set]
/-! comprehensions -/
theorem comp {f : ID} {h : GD} {b : BD} {e : MD} {own : List Nat} {l M : List D} (h1 : f r = some (l, r1)) (h2 : compD h b e own l r1 [] = some (M.map .fz, r2)) (h3 : restore r1 own r2 = r3) : dComp f h b e own r = some (.nw (.ls (M.map .fz)), r3) := by
  unfold dComp; rw [h1]; simp only [Option.bind_some]; rw [h2]; simp only [Option.bind_some, h3]
theorem comp2 {f : ID} {h : GD} {b : BD} {f1 : ID} {hh1 : GD} {b1 : BD} {e : MD} {own own1 : List Nat} {l M : List D} (h1 : f r = some (l, r1)) (h2 : comp2D h b f1 hh1 b1 e own own1 l r1 [] = some (M.map .fz, r2)) (h3 : restore r1 own r2 = r3) : dComp2 f h b f1 hh1 b1 e own own1 r = some (.nw (.ls (M.map .fz)), r3) := by
  unfold dComp2; rw [h1]; simp only [Option.bind_some]; rw [h2]; simp only [Option.bind_some, h3]
theorem allG {f : ID} {h : GD} {e : FD} {own : List Nat} {l : List D} {b : Bool} (h1 : f r = some (l, r1)) (h2 : allD h e own l r1 = some (b, r2)) (h3 : restore r1 own r2 = r3) : dAllG f h e own r = some (.sh (.bl b), r3) := by
  unfold dAllG; rw [h1]; simp only [Option.bind_some]; rw [h2]; simp only [Option.bind_some, h3]
/-- one turn of a comprehension -/
theorem ccY {h : GD} {b : BD} {e : MD} {own : List Nat} {d v : D} {l M : List D} {z : Option (List T × Env)} {c : Bool} (h1 : h (wipeT r own) (.fz d) = some r1) (h2 : b r1 = some (c, r2)) (hc : c = true) (h3 : e r2 = some (.fz v, r3)) (hl : M.length < 1000000) (h4 : compD h b e own l r3 ((M ++ [v]).map .fz) = z) : compD h b e own (d :: l) r (M.map .fz) = z := by
  subst hc
  have hl2 : (M.map T.fz).length < 1000000 := by rw [List.length_map]; exact hl
  rw [List.map_append] at h4
  simp only [compD, h1, Option.bind_some, h2, if_true, h3, hl2]
  exact h4
theorem ccN {h : GD} {b : BD} {e : MD} {own : List Nat} {d : D} {l : List D} {acc : List T} {z : Option (List T × Env)} {c : Bool} (h1 : h (wipeT r own) (.fz d) = some r1) (h2 : b r1 = some (c, r2)) (hc : c = false) (h4 : compD h b e own l r2 acc = z) : compD h b e own (d :: l) r acc = z := by
  subst hc
  simp only [compD, h1, Option.bind_some, h2, Bool.false_eq_true, if_false]
  exact h4
theorem yes : dYes r = some (true, r) := rfl
/-- a comprehension that tells a thing of each item, from a state with any things in the places of its own -/
theorem cmap {h : GD} {e : MD} {own : List Nat} {P : Env → Prop} {g : D → D} (l : List D) (hl : l.length ≤ 1000000) (hs : ∀ d ∈ l, ∀ r, P r → ∃ r1 r2, h (wipeT r own) (.fz d) = some r1 ∧ e r1 = some (.fz (g d), r2) ∧ P r2) (p : P r) : ∃ r', compD h dYes e own l r [] = some ((l.map g).map .fz, r') ∧ P r' := by
  obtain ⟨r', e1, p1⟩ := comp_map (g := fun d => T.fz (g d)) l r [] hs p (by simpa using hl)
  refine ⟨r', ?_, p1⟩
  rw [e1, List.nil_append, List.map_map]
  rfl
/-! what is walked -/
theorem itL {f : FD} {l : List D} (h : f r = some (.lst l, r1)) : dItemsL f r = some (l, r1) := by unfold dItemsL; rw [h]; rfl
theorem itT {f : FD} {l : List D} (h : f r = some (.tup l, r1)) : dItemsT f r = some (l, r1) := by unfold dItemsT; rw [h]; rfl
theorem rg1 {f : FDs} {i : Int} (h : f r = some ([.int i], r1)) (h0 : -(2 ^ 62) ≤ i) (h1 : i < 2 ^ 62) : dRange1 f r = some (upto 0 i.toNat, r1) := by unfold dRange1; rw [h]; exact if_pos ⟨h0, h1⟩
theorem rg2 {f : FDs} {i j : Int} (h : f r = some ([.int i, .int j], r1)) (h0 : -(2 ^ 62) ≤ i ∧ i < 2 ^ 62 ∧ -(2 ^ 62) ≤ j ∧ j < 2 ^ 62) : dRange2 f r = some (upto i (j - i).toNat, r1) := by unfold dRange2; rw [h]; exact if_pos h0
theorem rg3 {f : FDs} {i j : Int} (h : f r = some ([.int i, .int j, .int (-1)], r1)) (h0 : -(2 ^ 62) ≤ i ∧ i < 2 ^ 62 ∧ -(2 ^ 62) ≤ j ∧ j < 2 ^ 62) : dRange3 f r = some (downto i (i - j).toNat, r1) := by unfold dRange3; rw [h]; exact if_pos ⟨rfl, h0⟩
theorem zpL {f : FDs} {a b : List D} (h : f r = some ([.lst a, .lst b], r1)) : dZipA f r = some (zipD a b, r1) := by unfold dZipA; rw [h]; rfl
theorem zpT {f : FDs} {a b : List D} (h : f r = some ([.tup a, .tup b], r1)) : dZipA f r = some (zipD a b, r1) := by unfold dZipA; rw [h]; rfl
theorem enm {f : FDs} {a : List D} (h : f r = some ([.lst a], r1)) : dEnum f r = some (enumD a, r1) := by unfold dEnum; rw [h]; rfl
theorem rvs {f : FD} {a : List D} (h : f r = some (.lst a, r1)) : dRev f r = some (a.reverse, r1) := by unfold dRev; rw [h]; rfl
/-! targets -/
theorem gName {i : Nat} {t : T} (hs : r.set i t = r1) : gdName i r t = some r1 := by unfold gdName; rw [hs]
theorem gsN : gdNil r [] = some r := rfl
theorem gsC {g : GD} {h : GDs} {t : T} {ts : List T} {z : Option Env} (h1 : g r t = some r1) (h2 : h r1 ts = z) : gdCons g h r (t :: ts) = z := by unfold gdCons; simp only [h1, Option.bind_some, h2]
theorem gTup {n : Nat} {h : GDs} {l : List D} (hn : l.length = n) (h2 : h r (l.map .fz) = some r1) : gdTup n h r (.fz (.tup l)) = some r1 := by
  unfold gdTup
  simp only [T.tupParts, Option.bind_some, List.length_map, hn, if_true, h2]
theorem gLst {n : Nat} {h : GDs} {l : List D} (hn : l.length = n) (h2 : h r (l.map .fz) = some r1) : gdLst n h r (.fz (.lst l)) = some r1 := by
  unfold gdLst
  simp only [T.lstParts, Option.bind_some, List.length_map, hn, if_true, h2]
/-! statements -/
theorem seq {g h : SD} {o : Option O} (e : g r = some (.nx r1)) (e2 : h r1 = o) : dSeq g h r = o := (seq_nx e).trans e2
theorem seqR {g h : SD} {w : W} {o : O} (e : g r = some (.rt w r1)) (e2 : O.rt w r1 = o) : dSeq g h r = some o := by rw [seq_rt e, e2]
theorem seqX {g h : SD} {c : Addr} (e : g r = some (.ex c r1)) : dSeq g h r = some (.ex c r1) := seq_ex e
theorem asgS {f : XD} {g : GD} {d : D} (h : f r = some (.inl (.sh d), r1)) (h2 : g r1 (.fz d) = some r2) : dAsg f g r = some (.nx r2) := by unfold dAsg; rw [h]; simp only [Option.bind_some, mv, share, h2]
theorem asgN {f : XD} {g : GD} {t : T} (h : f r = some (.inl (.nw t), r1)) (h2 : g r1 t = some r2) : dAsg f g r = some (.nx r2) := by unfold dAsg; rw [h]; simp only [Option.bind_some, mv, h2]
theorem asgV {i : Nat} {g : GD} {d : D} (h : dSh (dVar i) r = some (d, r1)) (h2 : g r1 (.fz d) = some r2) : dAsg (xLift (dVar i)) g r = some (.nx r2) := by
  unfold dSh at h
  obtain ⟨p, e1, e2⟩ := Option.bind_eq_some_iff.mp h
  have hp : p.1 = .pl i := by
    unfold dVar at e1
    split at e1 <;> simp at e1
    rw [← e1]
  unfold dAsg xLift
  rw [e1]
  simp only [Option.bind_some, hp] at e2 ⊢
  simp only [mv, e2, Option.bind_some, h2]
theorem asgX {f : XD} {g : GD} {c : Addr} (h : f r = some (.inr c, r1)) : dAsg f g r = some (.ex c r1) := by unfold dAsg; rw [h]; rfl
theorem drop {f : XD} {w : W} (h : f r = some (.inl w, r1)) : dDrop f r = some (.nx r1) := by unfold dDrop; rw [h]; rfl
theorem dropX {f : XD} {c : Addr} (h : f r = some (.inr c, r1)) : dDrop f r = some (.ex c r1) := by unfold dDrop; rw [h]; rfl
theorem ret {f : XD} {w : W} (h : f r = some (.inl w, r1)) : dRet f r = some (.rt w r1) := by unfold dRet; rw [h]; rfl
theorem nxt : dNext r = some (.nx r) := rfl
theorem ifT {c : XB} {g h : SD} {b : Bool} {o : Option O} (hc : c r = some (.inl b, r1)) (hb : b = true) (h2 : g r1 = o) : dIf c g h r = o := by subst hb; unfold dIf; rw [hc]; exact h2
theorem ifF {c : XB} {g h : SD} {b : Bool} {o : Option O} (hc : c r = some (.inl b, r1)) (hb : b = false) (h2 : h r1 = o) : dIf c g h r = o := by subst hb; unfold dIf; rw [hc]; exact h2
theorem ifB {c : XB} {g h : SD} {b : Bool} {o : Option O} (hc : c r = some (.inl b, r1)) (h2 : (if b = true then g r1 else h r1) = o) : dIf c g h r = o := by
  cases b
  · exact ifF hc rfl h2
  · exact ifT hc rfl h2
theorem aug {i : Nat} {g : List D → Option Rs} {f : FD} {d e d' : D} (h0 : r[i]? = some (.fz d)) (h1 : f r = some (e, r1)) (h2 : r1[i]? = some (.fz d)) (h3 : g [d, e] = some (.val d')) (hs : r1.set i (.fz d') = r2) : dAug i g f r = some (.nx r2) := by
  unfold dAug
  rw [h0, h1]
  simp only [isFz, if_true, Option.bind_some, h2, h3, hs]
theorem for_ {f : ID} {h : GD} {body : SD} {l : List D} {o : Option O} (e : f r = some (l, r1)) (e2 : loopD h body l r1 = o) : dFor f h body r = o := by unfold dFor; rw [e]; exact e2
theorem lpN {h : GD} {body : SD} {d : D} {l : List D} {o : Option O} (h1 : h r (.fz d) = some r1) (h2 : body r1 = some (.nx r2)) (h3 : loopD h body l r2 = o) : loopD h body (d :: l) r = o := by
  simp only [loopD, h1, Option.bind_some, h2]; exact h3
theorem lpC {h : GD} {body : SD} {d : D} {l : List D} {o : Option O} (h1 : h r (.fz d) = some r1) (h2 : body r1 = some (.ct r2)) (h3 : loopD h body l r2 = o) : loopD h body (d :: l) r = o := by
  simp only [loopD, h1, Option.bind_some, h2]; exact h3
theorem lpR {h : GD} {body : SD} {d : D} {l : List D} {w : W} (h1 : h r (.fz d) = some r1) (h2 : body r1 = some (.rt w r2)) : loopD h body (d :: l) r = some (.rt w r2) := by
  simp only [loopD, h1, Option.bind_some, h2]
theorem whT {t : XB} {body : SD} {n : Nat} {o : Option O} (h1 : t r = some (.inl true, r1)) (h2 : body r1 = some (.nx r2)) (h3 : whileD t body n r2 = o) : whileD t body (n + 1) r = o := by
  simp only [whileD, h1, Option.bind_some, h2]; exact h3
theorem whF {t : XB} {body : SD} {n : Nat} (h1 : t r = some (.inl false, r1)) : whileD t body (n + 1) r = some (.nx r1) := by
  simp only [whileD, h1, Option.bind_some]
/-! a whole def -/
def finO (n : Nat) (fx : List Bool) (ps : List T) : O → Option (Res × List T)
  | .nx r => if n ≤ r.length then some (.ret (.fz .non), outP fx ps r) else none
  | .rt w r => (retW n r w).bind fun p => if n ≤ p.2.length then some (.ret p.1, outP fx ps p.2) else none
  | .ex c r => if n ≤ r.length then some (.exc c, outP fx ps r) else none
  | _ => none
theorem fnO {n N : Nat} {fx : List Bool} {b : SD} {ps : List T} {o : O} {z : Res × List T} (hl : ps.length = n) (e : b (ps ++ List.replicate (N - n) .un) = some o) (h : finO n fx ps o = some z) : fnD n N fx b ps = some z := by
  unfold fnD
  rw [if_pos hl, e]
  simp only [Option.bind_some]
  rw [← h]
  cases o <;> rfl
theorem finS {n : Nat} {fx : List Bool} {ps qs : List T} {d : D} (hn : n ≤ r.length) (h : outP fx ps r = qs) : finO n fx ps (.rt (.sh d) r) = some (.ret (.fz d), qs) := by
  simp [finO, retW, hn, h]
theorem finN {n : Nat} {fx : List Bool} {ps qs : List T} {t : T} (hn : n ≤ r.length) (h : outP fx ps r = qs) : finO n fx ps (.rt (.nw t) r) = some (.ret t, qs) := by
  simp [finO, retW, hn, h]
theorem finV {n i : Nat} {fx : List Bool} {ps qs : List T} {l : List T} (hi : ¬ i < n) (h0 : r[i]? = some (.ls l)) (hn : n ≤ r.length) (h : outP fx ps (r.set i .un) = qs) : finO n fx ps (.rt (.pl i) r) = some (.ret (.ls l), qs) := by
  simp [finO, retW, hi, h0, hn, h]
theorem finW {n i : Nat} {fx : List Bool} {ps qs : List T} {d : D} (hi : ¬ i < n) (h0 : r[i]? = some (.fz d)) (hn : n ≤ r.length) (h : outP fx ps (r.set i .un) = qs) : finO n fx ps (.rt (.pl i) r) = some (.ret (.fz d), qs) := by
  simp [finO, retW, hi, h0, hn, h]
theorem finP {n i : Nat} {fx : List Bool} {ps qs : List T} {d : D} (hi : i < n) (h0 : dSh (dVar i) r = some (d, r1)) (hn : n ≤ r1.length) (h : outP fx ps r1 = qs) : finO n fx ps (.rt (.pl i) r) = some (.ret (.fz d), qs) := by
  unfold dSh at h0
  obtain ⟨p, e1, e2⟩ := Option.bind_eq_some_iff.mp h0
  have hp : p.1 = .pl i ∧ p.2 = r := by
    unfold dVar at e1
    split at e1 <;> simp at e1
    rw [← e1]; exact ⟨rfl, rfl⟩
  rw [hp.1, hp.2] at e2
  simp [finO, retW, hi, e2, hn, h]
theorem finNx {n : Nat} {fx : List Bool} {ps qs : List T} (hn : n ≤ r.length) (h : outP fx ps r = qs) : finO n fx ps (.nx r) = some (.ret (.fz .non), qs) := by
  simp [finO, hn, h]
theorem finEx {n : Nat} {fx : List Bool} {ps qs : List T} {c : Addr} (hn : n ≤ r.length) (h : outP fx ps r = qs) : finO n fx ps (.ex c r) = some (.exc c, qs) := by
  simp [finO, hn, h]
end EV
end Q

set_option Elab.async false
set_option linter.all false
set_option maxRecDepth 100000
set_option maxHeartbeats 2000000
/-! enumerate of a tuple -/
namespace RE
open PySem PySem.Spec PyProof.Rows L2 Q
open Sem (wp)
theorem mt_enumT (l : Addr) (xs : Array Value) (n : Nat) (dc : Option Addr) (sl : Array (Option Value)) :
    Meets (Builtin.«enumerate.__new__» ⟨[.type "enumerate", .ref l], []⟩) (fun _ R s => s.heap.get? l = some ⟨.type "tuple", dc, .seq xs n, sl⟩ ∧ R (.ok (.ret (.ref (s.heap.push { cls := .type "tuple_iterator", data := .fields #[.ref l, .int 0 0] }).objs.size))) { s with heap := (s.heap.push { cls := .type "tuple_iterator", data := .fields #[.ref l, .int 0 0] }).push { cls := .type "enumerate", data := .fields #[.none, .bool false, .ref s.heap.objs.size, rawInt 0, .none, .none] } }) := .of_wp fun prog w A R s0 z => by
  obtain ⟨hl, q⟩ := z; obtain ⟨hp, gg, dd, tk, os⟩ := s0
  have su := sub_enumerate; have tp : (Shared.heap ⟨hp, gg, dd, tk, os⟩).IsTuple l xs := ⟨_, hl, rfl, n, rfl⟩
  wp_walk using AutoSeq1.wpAny_loadPart' hl
  refine wpAny_stack_any fun stk => wpAny_pure ?_; split
  · rename_i c _ _ _ _ _
    cases (c == Value.type "enumerate") <;> (wp_walk using AutoSeq1.wpAny_loadPart' hl, wpAny_pyIter_tuple tp) <;> exact ⟨_, rfl, q⟩
  · wp_walk using AutoSeq1.wpAny_loadPart' hl, wpAny_pyIter_tuple tp; exact ⟨_, rfl, q⟩
theorem cl_enumT {prog : Program} {w : World} {A : Around} {E : Value → Shared → Prop} {s : Shared} {l : Addr} {xs : Array Value} {R : Value → Shared → Prop} (tp : s.heap.IsTuple l xs)
    (q : ∀ h', IsEnum h' (s.heap.objs.size + 1) s.heap.objs.size 0 .none → h'.IsTupleIter s.heap.objs.size l 0 → (∀ b o, s.heap.get? b = some o → h'.get? b = some o) → R (.ref (s.heap.objs.size + 1)) { s with heap := h' }) :
    wpAny (model prog w) A (call (.type "enumerate") [.ref l]) R E s := by
  obtain ⟨⟨c, dc, dt, sl⟩, hl, e1, n, e2⟩ := tp
  cases (show c = .type "tuple" from e1); cases (show dt = .seq xs n from e2)
  refine callType_new F.called_enumerate (by decide) (F.typeCall_enumerate_1 _) (F.newCall_enumerate_1 _) (fun o => F.args_object_init_2 o _) F.entry_enumerate_new (mt_enumT l xs n dc sl) ⟨hl, ?_⟩
  have sz : (s.heap.push { cls := .type "tuple_iterator", data := .fields #[.ref l, .int 0 0] }).objs.size = s.heap.objs.size + 1 := Heap.size_push ..
  have en : IsEnum ((s.heap.push { cls := .type "tuple_iterator", data := .fields #[.ref l, .int 0 0] }).push { cls := .type "enumerate", data := .fields #[.none, .bool false, .ref s.heap.objs.size, rawInt 0, .none, .none] }) (s.heap.objs.size + 1) s.heap.objs.size 0 .none := by
    have z := Heap.get?_push_size (s.heap.push { cls := .type "tuple_iterator", data := .fields #[.ref l, .int 0 0] }) (o := { cls := .type "enumerate", data := .fields #[.none, .bool false, .ref s.heap.objs.size, rawInt 0, .none, .none] }) rfl
    rw [sz] at z; exact z
  show _ ∧ _
  rw [sz]
  exact ⟨⟨_, en, rfl⟩, q _ en ⟨_, Heap.get?_push_of_some _ (Heap.get?_push_size _ rfl), rfl, rfl⟩ fun b o z => Heap.get?_push_of_some _ (Heap.get?_push_of_some _ z)⟩
/-- a tuple's items, each in a new pair behind its place -/
def IteT (K : PySem.W.Frag) (a : Addr) : It := ⟨fun i H => ∃ (xs : List V) (x : V), SqT K H a xs ∧ xs[i]? = some x, fun i H v H' => ∃ T x, v = .ref T ∧ H T = none ∧ H' = upd H T (.tup [.int (i : Nat), x]) ∧ ∀ xs, SqT K H a xs → xs[i]? = some x, fun i H => ∃ xs : List V, SqT K H a xs ∧ xs.length ≤ i⟩
theorem turn_enumT {P : Program} {w : World} {K : PySem.W.Frag} {elts : List Expr} {kk : Nat} {tpos : Pos} (a e it : Addr) (ha : a ≠ it) : Turn P w K (.Tuple elts kk tpos) (IteT K a) [e, it] e (fun i h => (∃ old, IsEnum h e it ((i : Nat) : Int) old) ∧ h.IsTupleIter it a i ∧ e ≠ it ∧ e ≠ a) where
  mem := by simp
  obj := fun i h st b hb => by
    obtain ⟨⟨oo, he⟩, ⟨o, ho, hc, hd⟩, _⟩ := st
    rcases (show b = e ∨ b = it by simpa using hb) with z | z <;> subst z
    · exact ⟨_, he, fun v q => nomatch q⟩
    · exact ⟨o, ho, fun v q => by rw [hd] at q; cases q⟩
  keep := fun i h h' st k => ⟨⟨st.1.choose, k e (by simp) _ st.1.choose_spec⟩, st.2.1.at fun o q => k it (by simp) o q, st.2.2⟩
  item := by
    intro X hP hw hK hc i pins s σ H E I hf st hg; subst hP hw hK
    obtain ⟨⟨old, he⟩, hit, hne, hna⟩ := st; obtain ⟨xs, x, hq, hx⟩ := hg
    obtain ⟨its, rv, p, hz⟩ := I.tuple hq; obtain ⟨u, hu, ru⟩ := rv.get hx
    have hel := Heap.lt_size he; have hil : it < s.heap.objs.size := by obtain ⟨_, z, _⟩ := hit; exact Heap.lt_size z
    have D := Draws.tuple (prog := X.prog) (w := X.w) (A := X.A.in1) (I.ok.hd hc) it a ha its.toArray
    have hlt : i < its.toArray.size := by have := (List.getElem?_eq_some_iff.mp hu).1; simpa using this
    refine wpAny_pyNext_enum_itemD D he ⟨hit, p⟩ hlt hne (by simp [hne, hna]) fun y h' tk hy ho hst hT hsz hk => ?_
    have hyu : y = u := by
      rw [show its.toArray[i]? = its[i]? by simp] at hy
      rw [hu] at hy; exact (Option.some.inj hy).symm
    subst hyu
    refine ⟨_, rfl, wpAny_letOwnedTupleGo_enum (s := { s with heap := h', toks := tk + 1 }) ho fun h2 he' sb => ?_⟩
    have hT2 : h2.get? s.heap.objs.size = some { cls := .type "tuple", data := .seq #[.int i tk, y] } := (sb.2 _ (Nat.ne_of_gt hel)).trans hT
    have nw : ObjOk X.prog X.w (upd H s.heap.objs.size (.tup [.int (i : Nat), x])) h2 s.heap.objs.size (.tup [.int (i : Nat), x]) := ⟨by show 2 ≤ sizeLine; decide, [.int i tk, y], .cons ⟨_, rfl⟩ (.cons ru .nil), ⟨_, hT2, rfl, _, rfl⟩⟩
    have I1 : Inv X pins σ (upd H s.heap.objs.size (.tup [.int (i : Nat), x])) { s with heap := h2, toks := tk + 1 } := I.turnedNew (t' := tk + 1) (ch := [e, it]) (fun b ob hb q => (sb.2 b (fun z => hb (by simp [z]))).trans (hk b ob (fun z => hb (by simp [z])) (fun z => hb (by simp [z])) q)) hf (Nat.le_refl _) nw
    refine ⟨.ref s.heap.objs.size, _, I1, rfl, ⟨_, x, rfl, I.hok.fresh (Nat.le_refl _), rfl, fun ys hy => by rw [I.tuple_inj hy hq]; exact hx⟩, ⟨⟨y, by rw [show ((i + 1 : Nat) : Int) = (i : Int) + 1 by omega]; exact he'⟩, hst.1.at fun o q => (sb.2 it (Ne.symm hne)).trans q, hne, hna⟩, fun b hb => ?_⟩
    have hb' : b < s.heap.objs.size := by
      rcases (show b = e ∨ b = it by simpa using hb) with z | z <;> subst z <;> assumption
    rw [upd_ne (Nat.ne_of_lt hb')]; exact (hf b hb).1
  done := by
    intro X hP hw hK hc i pins s σ H E I hf st hg; subst hP hw hK
    obtain ⟨⟨old, he⟩, hit, hne, hna⟩ := st; obtain ⟨xs, hq, hx⟩ := hg
    obtain ⟨its, rv, p, hz⟩ := I.tuple hq; obtain ⟨f0, f1, f2, f3, f4, f5⟩ := hf it (by simp); have hl := rv.length
    have D : Draws X.prog X.w X.A.in1 it [it, a] 0 (fun _ _ => False) (fun _ h => h.IsTupleIter it a i ∧ h.IsTuple a its.toArray) := ⟨fun _ _ st => let ⟨o, ho, _⟩ := st.1; ⟨o, ho⟩, fun _ _ _ st hk => ⟨st.1.at fun o e => hk it (by simp) o e, st.2.at fun o e => hk a (by simp) o e⟩, fun i s Q E hi => absurd hi (Nat.not_lt_zero _), fun s Q E st hE => wpAny_nextOf_tuple_end (I.ok.hd hc) st.1 st.2 (by simp; omega) hE⟩
    exact wpAny_pyNext_enum_endD D he ⟨hit, p⟩ fun h' eb => ⟨rfl, I.turned (t' := s.toks) (fun b o hb q => eb b o hb q) f0 f1 f3 f4 f5⟩
  self := fun A i s Q E st h => wpAny_pyIter_enum st.1.choose_spec h
/-- enumerate of a list or a tuple -/
def iEnumA (K : PySem.W.Frag) (ta : TA) : TI := fun σ H R => ta σ H fun vs H1 => ∃ a xs, vs = [.ref a] ∧ ((SqL K H1 a xs ∧ R (Ite K a) H1) ∨ (SqT K H1 a xs ∧ R (IteT K a) H1))
theorem pi_enumA {X : Cx} {e : Expr} {ta : TA} {p pos tpos : Pos} {elts : List Expr} {kk : Nat} (hg : Gl X "enumerate") (hm : X.mg "enumerate" = none) (ha : PA X [e] ta) (hs : starEach [e] X.env = [(false, eval e X.env)] := by rfl) : PI X (.Tuple elts kk tpos) (.Call (.Name "enumerate" p) [e] [] pos) (iEnumA X.K ta) := by
  refine ⟨fun pins s σ H R I h => Call_ (ld_blt I hg hm boot_enumerate (PyProof.Rows.callWith_type1 (thn (ha.run pos pins s σ H _ I h) fun us s1 ⟨vs, H1, I1, r1, q1⟩ => ?_) hs rfl))⟩
  obtain ⟨a, xs, rfl, q1⟩ := q1
  have fr : ∀ b, b ∈ [s1.heap.objs.size + 1, s1.heap.objs.size] → FpOk X pins H1 b := fun b hb => by
    have hle : s1.heap.objs.size ≤ b := by rcases (show b = s1.heap.objs.size + 1 ∨ b = s1.heap.objs.size by simpa using hb) with z | z <;> subst z <;> omega
    exact I1.fpOk hle <| I1.hok.fresh hle
  cases r1 with | cons r rr =>
    cases rr; cases r
    rcases q1 with ⟨hq, q⟩ | ⟨hq, q⟩
    · obtain ⟨its, rv, p', hz⟩ := I1.list hq; refine call_enumerate_list p'.isList fun h' he hit hsz hk => wpAny_pyIter_enum he ?_
      exact ⟨s1.heap.objs.size + 1, [s1.heap.objs.size + 1, s1.heap.objs.size], _, _, H1, rfl, I1.kept (t' := s1.toks) hk, turn_enum a (s1.heap.objs.size + 1) s1.heap.objs.size, ⟨⟨.none, he⟩, hit, Nat.succ_ne_self _⟩, fr, q⟩
    · obtain ⟨its, rv, p', hz⟩ := I1.tuple hq; have la : a < s1.heap.objs.size := by obtain ⟨_, z, _⟩ := id p'; exact Heap.lt_size z
      refine cl_enumT p' fun h' he hit hk => wpAny_pyIter_enum he ?_
      exact ⟨s1.heap.objs.size + 1, [s1.heap.objs.size + 1, s1.heap.objs.size], _, _, H1, rfl, I1.kept (t' := s1.toks) hk, turn_enumT a (s1.heap.objs.size + 1) s1.heap.objs.size (Nat.ne_of_lt la), ⟨⟨.none, he⟩, hit, Nat.succ_ne_self _, fun z => absurd la (by rw [← z]; exact Nat.not_lt_of_lt (Nat.lt_succ_self _))⟩, fr, q⟩
end RE
namespace Q
open PySem PySem.Spec PyProof.Rows L2
variable [TbS]
variable {K : PySem.W.Frag}
theorem walk_eT {a : Addr} {l : List D} {xs : List V} {G0 : Hp} (h1 : SqT K G0 a xs) (q1 : RpL K G0 l xs) : WalkD K (RE.IteT K a) (enumD l) G0 := fun F G H r x xg I i => by
  have s1 : SqT K H a xs := sub_t I.pl I.gh (ex_t xg h1)
  unfold enumD
  refine ⟨fun d hd => ?_, fun hl => ?_⟩
  · rw [List.getElem?_map, List.getElem?_zipIdx] at hd
    cases e1 : l[i]? with
    | none => rw [e1] at hd; cases hd
    | some dx =>
      rw [e1] at hd
      cases hd
      obtain ⟨vx, z1, z2⟩ := q1.get e1
      refine ⟨⟨xs, vx, s1, z1⟩, fun v H' hv => ?_⟩
      obtain ⟨p, x', rfl, hp, rfl, k1⟩ := hv
      have := k1 xs s1
      rw [z1] at this
      cases this
      have en : Ex G (upd G p (.tup [.int (i : Nat), vx])) := Ex.new (I.Gnone hp)
      refine ⟨_, en, I.laid hp (o := .tup [.int (i : Nat), vx]) (fun _ _ z => HO.noConfusion z), .tup (Or.inl (Or.inl upd_same)) (.cons ?_ (.cons ((z2.mono xg).mono en) .nil))⟩
      dsimp only
      rw [Nat.zero_add]
      exact .int _
  · rw [List.length_map, List.length_zipIdx] at hl
    exact ⟨xs, s1, by rw [← q1.length]; exact hl⟩
def dEnumA (f : FDs) : ID := fun r => (f r).bind fun p => match p.1 with
  | [.lst a] => some (enumD a, p.2)
  | [.tup a] => some (enumD a, p.2)
  | _ => none
theorem di_enumA {ta : TA} {f : FDs} (h : DFs K ta f) : DI K (RE.iEnumA K ta) (dEnumA f) := fun F G H r s tm us l r' I hl e R q => by
  obtain ⟨⟨ds, r1⟩, e1, e⟩ := Option.bind_eq_some_iff.mp e
  dsimp only at e
  split at e
  · cases e
    refine h F G H r s tm us _ _ I hl e1 _ fun vs G1 H1 x1 I1 l1 hv => ?_
    cases hv with | cons a hv =>
      cases hv
      cases a with | lst a1 a2 => exact ⟨_, _, rfl, Or.inl ⟨Or.inl (Or.inl (sub_ex I1.gh a1)), q _ G1 H1 x1 I1 l1 (walk_e a1 a2)⟩⟩
  · cases e
    refine h F G H r s tm us _ _ I hl e1 _ fun vs G1 H1 x1 I1 l1 hv => ?_
    cases hv with | cons a hv =>
      cases hv
      cases a with | tup a1 a2 => exact ⟨_, _, rfl, Or.inr ⟨sub_t I1.pl I1.gh a1, q _ G1 H1 x1 I1 l1 (walk_eT a1 a2)⟩⟩
  · cases e
end Q
namespace Q
open PySem PySem.Spec PyProof.Rows L2
namespace EV
theorem enmL {r r1 : Env} {f : FDs} {a : List D} (h : f r = some ([.lst a], r1)) : dEnumA f r = some (enumD a, r1) := by unfold dEnumA; rw [h]; rfl
theorem enmT {r r1 : Env} {f : FDs} {a : List D} (h : f r = some ([.tup a], r1)) : dEnumA f r = some (enumD a, r1) := by unfold dEnumA; rw [h]; rfl
end EV
end Q

set_option Elab.async false
set_option linter.all false
set_option maxRecDepth 100000
set_option maxHeartbeats 2000000
/-! tuple(..) of a generator expression -/
namespace Q
open PySem PySem.Spec PyProof.Rows L2 GxR
section
variable {X : Cx} {pins : List (Addr × Obj)} {σ : L2.St} {H : Hp} {s : Shared}
theorem inv_around {A' : Around} (I : Inv X pins σ H s) (h1 : X.calm = true → A'.handled = none) (h2 : A'.frames = some X.stack) : Inv { X with A := A' } pins σ H s :=
  ⟨⟨I.ok.mod, I.ok.kind, I.ok.glob, I.ok.blt, I.ok.above, I.ok.inj, I.ok.has, I.ok.cab, h1, h2, I.ok.stk, I.ok.exf, I.ok.bs, I.ok.bsz, I.ok.noex, I.ok.exfs, I.ok.funs, I.ok.frf⟩, I.os, I.bare, I.base, I.loc, I.cell, I.free, I.freeC, I.pin, I.hok, I.len⟩
theorem vals_snoc : ∀ {vs : List V} {us : List Value} {v : V} {u : Value}, Vals vs us → RelV v u → Vals (vs ++ [v]) (us ++ [u])
  | _, _, _, _, .nil, r => .cons r .nil
  | _, _, _, _, .cons a b, r => .cons a (vals_snoc b r)
def lsO (acc : List Value) (c : Nat) : Obj := { cls := .type "list", dict := none, data := .seq acc.toArray c, slots := #[] }
/-- what is gathered at S -/
def SC (S : Addr) (s : Shared) (acc : List Value) : Prop := ∃ c, s.heap.get? S = some (lsO acc c)
def SlpS (S : Addr) (acc : List Value) (v : Value) (s s'' : Shared) : Prop := ∃ G h', s'' = { s with gens := G, heap := h' } ∧ AllBare G ∧ (∀ b o, b ≠ S → s.heap.get? b = some o → h'.get? b = some o) ∧ SC S s'' (acc ++ [v])
def gxYS (S : Addr) (contP : List Value → Value → Shared → Prop) : Protocol := fun _ _ v s kap => ∃ acc, SC S s acc ∧ contP acc v s ∧ ∀ s'', SlpS S acc v s s'' → kap (.send .none) s''
def GxC (J : It) (g : TG) (te : TE) (σ0 : L2.St) (own : List Nat) (endQ : List V → Hp → Prop) (W : Nat → Nat → List V → Hp → Prop) : Prop := ∀ i m vs H, W i m vs H →
  (J.stop i H ∧ endQ vs H) ∨ (J.go i H ∧ 0 < m ∧ vs.length < 1000000 ∧ ∀ x H', J.yld i H x H' → g x σ0 H' fun σ2 H2 => wipe σ2 own = σ0 ∧ te σ2 H2 fun y H3 => ∃ m', m' < m ∧ W (i + 1) m' (vs ++ [y]) H3)
abbrev gxD (X : Cx) (A0 : Around) (s : Shared) (H : Hp) (cenv : PySem.Env) (fp : List Addr) : Cx := { gxC X s H cenv fp with A := A0.deeper cenv }
theorem seg_gxS {A0 : Around} {s3 : Shared} {H3 : Hp} {elt tg iter : Expr} {scope : Scope} {gpos : Pos} {cenv : PySem.Env} {fp : List Addr} {it : Addr} {tn : Nat → Heap → Prop} {J : It} {g : TG} {te : TE} {own : List (Str × Nat)} {a S : Addr} {gob : Obj} {σ0 : L2.St}
    {endQ : List V → Hp → Prop} {W : Nat → Nat → List V → Hp → Prop} {endP : Shared → Prop} {contP : List Value → Value → Shared → Prop}
    (hc : X.calm = true) (hco : cenv.scope.isCoroutine = false) (T : Turn X.prog X.w X.K tg J fp it tn) (pg : PG (gxD X A0 s3 H3 cenv fp) tg g) (pe : PE (gxD X A0 s3 H3 cenv fp) elt te) (hw : GxC J g te σ0 (own.map (·.2)) endQ W)
    (npin : a ∉ fp) (nS : S ∉ fp)
    (hEnd : ∀ σ' H' s' vs acc, Inv (gxD X A0 s3 H3 cenv fp) [(a, gob)] σ' H' s' → Vals vs acc → SC S s' acc → endQ vs H' → endP s')
    (hCont : ∀ σ' H' s' acc v, Inv (gxD X A0 s3 H3 cenv fp) [(a, gob)] σ' H' s' → acc.length < 1000000 → contP acc v s') :
    ∀ (m n i : Nat) (vs : List V) (acc : List Value) (H5 : Hp) (s0 s5 : Shared), m ≤ n → W i m vs H5 → Vals vs acc → SC S s5 acc → FpOk (gxD X A0 s3 H3 cenv fp) [(a, gob)] H5 S → Inv (gxD X A0 s3 H3 cenv fp) [(a, gob)] σ0 H5 s5 → tn i s5.heap → (∀ b ∈ fp, H5 b = none) →
      Seg (model X.prog X.w) A0 (gxR endP) (gxYS S contP) n s0 (.compLoop (.GeneratorExp elt [⟨tg, iter, [], 0⟩] scope gpos) 0 (.ref it) .none cenv) ((model X.prog X.w).den (.compLoop (.GeneratorExp elt [⟨tg, iter, [], 0⟩] scope gpos) 0 (.ref it) .none cenv)) [] s5 := by
  intro m; induction m using Nat.strongRecOn with
  | ind m ih =>
    intro n i vs acc H5 s0 s5 hmn w5 va sc fS I5 st5 n5
    obtain ⟨cc, hS⟩ := sc
    have IS := I5.pinned (fp := [S]) (fun b hb => by rw [List.mem_singleton.mp hb]; exact fS) (fun b hb => by rw [List.mem_singleton.mp hb]; exact ⟨_, hS, fun v z => nomatch z⟩)
    have hP : pinsAt [S] s5.heap = [(S, lsO acc cc)] := by simp [pinsAt, hS]
    rw [hP] at IS
    have stat : ∀ {σ' : L2.St} {H' : Hp} {s' : Shared}, Inv (gxD X A0 s3 H3 cenv fp) ([(a, gob)] ++ [(S, lsO acc cc)]) σ' H' s' → (∀ b ∈ fp, H' b = none) → ∀ b ∈ fp, FpOk (gxD X A0 s3 H3 cenv fp) ([(a, gob)] ++ [(S, lsO acc cc)]) H' b := fun {σ' H' s'} I' hn b hb =>
      ⟨hn b hb, (I'.ok.exf b hb).1, I'.ok.exfs b hb, .inl hb, fun x c e => (I'.ok.exf b hb).2 x c e, fun p hp z => by
        rcases List.mem_append.mp (show p ∈ [(a, gob)] ++ [(S, lsO acc cc)] from hp) with e | e <;> (have e := List.mem_singleton.mp e; subst e)
        · exact npin (by rw [show a = b from z]; exact hb)
        · exact nS (by rw [show S = b from z]; exact hb)⟩
    show Seg _ _ _ _ n s0 _ ((compTurn (.GeneratorExp elt [⟨tg, iter, [], 0⟩] scope gpos) 0 (.ref it) .none cenv).onRaise (leaving cenv)) [] s5
    rw [compTurn_gen, Sem.onRaise_eq_wrap]; refine seg_bind_wrap (wpAny_standAt ?_)
    rcases hw i m vs H5 w5 with ⟨stop, qq⟩ | ⟨go, hm0, hlen, step⟩
    · have td := T.done (gxD X A0 s3 H3 cenv fp) rfl rfl rfl hc i _ s5 _ H5 (fun _ _ => False) IS (stat IS n5) st5 stop
      refine seg_bind_wrap ?_; rw [over_gx]; refine thnF td fun r s6 ⟨hr, I6⟩ => ?_
      subst hr
      exact seg_end (.ok .next) ⟨rfl, hEnd _ _ _ _ _ I6.unpinned va ⟨cc, (I6.pin (S, lsO acc cc) (by simp)).1⟩ qq⟩
    · have ti := T.item (gxD X A0 s3 H3 cenv fp) rfl rfl rfl hc i _ s5 _ H5 (fun _ _ => False) IS (stat IS n5) st5 go
      refine seg_bind_wrap ?_; rw [over_gx]; refine thnF ti fun r s6 ⟨u, hr, h6⟩ => ?_
      subst hr
      refine seg_bind_wrap ?_; rw [over_gx]; refine thnF h6 fun _ s7 ⟨x, H7, I7, r7, y7, st7, n7⟩ => ?_
      have I7' := I7.pinned (stat I7 n7) (T.obj _ _ st7)
      refine seg_bind_wrap ?_; rw [over_gx]; refine thnF (pg.run _ s7 _ H7 x u _ I7' r7 (step x H7 y7)) fun _ s8 ⟨σ8, H8, I8, hw8, q8⟩ => ?_
      refine seg_bind_wrap (wpAny_pure ?_); simp only [if_true]
      have hy : ∀ v, yieldOut cenv v = yieldValue v := fun v => by (simp only [yieldOut, hco, Bool.false_eq_true, if_false])
      simp only [hy]; rw [Sem.bind_eq_wrap', Sem.bind_eq_wrap', Sem.wrap_wrap, Sem.wrap_wrap]; refine seg_wrap ?_
      rw [over_gx]; refine thnF (pe.run _ s8 σ8 H8 _ I8 q8) fun z s10 ⟨yv, H10, I10, r10, m', hm, w'⟩ => ?_
      obtain ⟨n', rfl⟩ : ∃ n', n = n' + 1 := ⟨n - 1, by omega⟩
      refine seg_at (seg_yield rfl rfl rfl ?_)
      have pS := I10.pin (S, lsO acc cc) (by simp)
      have vl : acc.length < 1000000 := by rw [← Paired.length va]; exact hlen
      refine ⟨acc, ⟨cc, pS.1⟩, hCont _ _ _ _ _ I10.unpinned.unpinned vl, fun s'' hs => ?_⟩
      obtain ⟨G, h', rfl, hG, kp, sc'⟩ := hs
      have pin' : ∀ b ∈ fp, ∀ o, s7.heap.get? b = some o → s10.heap.get? b = some o ∧ H10 b = none := fun b hb o e => let z := I10.pin (b, o) (List.mem_append_right _ (List.mem_append_right _ (mem_pinsAt hb e))); ⟨z.1, z.2.1⟩
      have hl : σ0.length = σ8.length := by rw [← hw8, wipe_length]
      have fS' : FpOk (gxD X A0 s3 H3 cenv fp) [(a, gob)] H10 S := ⟨pS.2.1, fS.2⟩
      have I11 := (I10.unpinned.unpinned).turnedL (t' := s10.toks) (h' := h') (ch := [S]) (fun b o hb e => kp b o (fun z => hb (by simp [z])) e) (fun b hb => by rw [List.mem_singleton.mp hb]; exact fS')
      refine seg_again rfl (ih m' hm n' (i + 1) (vs ++ [yv]) (acc ++ [z]) H10 _ _ (by omega) w' (vals_snoc va r10) sc' fS' ((gens_ok I11 hG).weak hl (fun j v e => ?_)) (T.keep _ _ _ st7 fun b hb o e => kp b o (fun z => nS (by rw [← z]; exact hb)) (pin' b hb o e).1) fun b hb => ?_)
      · rw [← hw8] at e; exact (wipe_some e).1
      · obtain ⟨o, e, _⟩ := T.obj _ _ st7 b hb; exact (pin' b hb o e).2
/-! ### the gathering -/
theorem lsO_push (acc : List Value) (c : Nat) (v : Value) : ∃ c', Obj.mapSeq (·.push v) (lsO acc c) = lsO (acc ++ [v]) c' := by
  refine ⟨if (acc.toArray.push v).size == acc.toArray.size then c else c + 1, ?_⟩
  show (⟨.type "list", none, .seq (acc.toArray.push v) _, #[]⟩ : Obj) = ⟨.type "list", none, .seq (acc ++ [v]).toArray _, #[]⟩
  rw [show (acc ++ [v]).toArray = acc.toArray.push v by simp]
theorem coll_loop {P : Program} {w : World} {A : Around} {a S : Addr} {g : Nat} {endP : Shared → Prop} {contP : List Value → Value → Shared → Prop} {res : Value} {Rr : Result → Shared → Prop} (hh : A.handled = none) (hroom : A.depth < recursionLimit) (hSa : S ≠ a) (hSc : S ≠ cStatics)
    (hE : ∀ s1 h' G, endP s1 → (∀ b o, s1.heap.get? b = some o → h'.get? b = some o) → (AllBare s1.gens → AllBare G) → Rr (.ok (.ret res)) { s1 with heap := h', gens := G })
    (hC : ∀ acc v s1, contP acc v s1 → acc.length < 1000000 ∧ s1.heap.IsGen a g ∧ s1.heap.NoLimit ∧ AllBare s1.gens) :
    ∀ (n : Nat) (s : Shared) (gs : GenState), s.heap.IsGen a g → s.heap.NoLimit → s.gens[g]? = some gs → AllBare s.gens → (∀ s'', Slp s s'' → gs.Goes (model P w) A.in1.in1 (gxR endP) (gxYS S contP) n (.send .none) s'') →
      codeAny (model P w) A (.builtin "list.extend.loop" ⟨[.ref S, .ref a, res], []⟩) Rr s := by
  intro n; induction n with
  | zero =>
    intro s gs h1 h2 h3 h4 hgo
    have hlt : g + 1 ≤ s.gens.size := (Array.getElem?_eq_some_iff.mp h3).1
    refine codeAny_builtin F.entry_extend_loop ?_; rw [Around.under_plainId F.plain_extend_loop _]
    show wpAny _ A.in1 (pyNext (.ref a) >>= _) _ _ s
    refine wpAny_bind (GenW.wpAny_gsz hlt (wpAny_pyNext_genexpQ (n := 0) (P := fun _ _ s₁ => endP s₁) (Y := gxYS S contP) hh h2 hroom h1 h3 (hgo _ ⟨_, rfl, bare_set h4 rfl⟩) (fun v s₁ gs' hbr hv hsz => ?_) (fun s₁ hp h' hk _ => ?_)))
    · obtain ⟨acc, ⟨c, sc⟩, ct, hk⟩ := hv
      obtain ⟨c', hu⟩ := lsO_push acc c v
      refine (hk { s₁ with gens := #[], heap := s₁.heap.update S (Obj.mapSeq (·.push v)) } ⟨#[], _, rfl, AllBare.empty, fun b o hb e => (Heap.get?_update_other _ _ (Ne.symm hb)).trans e, c', ?_⟩).elim
      have u := Heap.get?_update_self (Obj.mapSeq (·.push v)) sc rfl
      rw [hu] at u
      exact u
    · exact wpAny_pure (hE s₁ h' _ hp hk fun z => bare_set z rfl)
  | succ n ih =>
    intro s gs h1 h2 h3 h4 hgo
    have hlt : g + 1 ≤ s.gens.size := (Array.getElem?_eq_some_iff.mp h3).1
    refine codeAny_builtin F.entry_extend_loop ?_; rw [Around.under_plainId F.plain_extend_loop _]
    show wpAny _ A.in1 (pyNext (.ref a) >>= _) _ _ s
    refine wpAny_bind (GenW.wpAny_gsz hlt (wpAny_pyNext_genexpQ (n := n + 1) (P := fun _ _ s₁ => endP s₁) (Y := gxYS S contP) hh h2 hroom h1 h3 (hgo _ ⟨_, rfl, bare_set h4 rfl⟩) (fun v s₁ gs' hbr hv hsz => ?_) (fun s₁ hp h' hk _ => ?_)))
    · have hsz : g + 1 ≤ s₁.gens.size := by have := hsz; rw [GenW.setGen_size] at this; exact this
      have hat : (s₁.setGen g gs').gens[g]? = some gs' := by show (s₁.gens.setIfInBounds g gs')[g]? = some gs'; rw [Array.getElem?_setIfInBounds_self_of_lt (by omega)]
      obtain ⟨acc, ⟨c, sc⟩, ct, hk⟩ := hv
      obtain ⟨c1, c2, c3, c4⟩ := hC _ _ _ ct
      obtain ⟨c', hu⟩ := lsO_push acc c v
      have u := Heap.get?_update_self (Obj.mapSeq (·.push v)) sc rfl
      rw [hu] at u
      have oth : ∀ b o, b ≠ S → s₁.heap.get? b = some o → (s₁.heap.update S (Obj.mapSeq (·.push v))).get? b = some o := fun b o hb e => (Heap.get?_update_other _ _ (Ne.symm hb)).trans e
      show wpAny _ A.in1 (updateSeq S (·.push v) >>= _) _ _ _
      refine wpAny_bind (wpAny_updateSeq (s := s₁.setGen g gs') sc rfl (wpAny_pure ⟨plainId_quiet F.plain_extend_loop _, ih _ gs' ?_ ?_ hat (bare_set c4 hbr) fun s'' hs => ?_⟩) ?_ ?_)
      · obtain ⟨o, nm, qn, e1, e2⟩ := c2
        exact ⟨o, nm, qn, oth a o (Ne.symm hSa) e1, e2⟩
      · exact c3.at fun o e => oth cStatics o (Ne.symm hSc) e
      · obtain ⟨G2, rfl, hG2⟩ := hs
        exact hk _ ⟨G2, _, rfl, hG2, oth, c', u⟩
      · show acc.toArray.size ≤ sizeLine
        have : sizeLine = 16777216 := sizeLine_eq
        rw [List.size_toArray]; omega
      · show (acc.toArray.push v).size ≤ sizeLine + 1
        have : sizeLine = 16777216 := sizeLine_eq
        rw [Array.size_push, List.size_toArray]; omega
    · exact wpAny_pure (hE s₁ h' _ hp hk fun z => bare_set z rfl)
theorem collect_gx {P : Program} {w : World} {A : Around} {a : Addr} {g n : Nat} {gs : GenState} {Q : List Value → Shared → Prop} {E : Value → Shared → Prop} {s : Shared} {Fq : List Value → Shared → Prop} {contP : List Value → Value → Shared → Prop} (hh : A.handled = none) (hroom : A.depth < recursionLimit) (hgen : s.heap.IsGen a g) (hnl : s.heap.NoLimit) (hgs : s.gens[g]? = some gs) (hb : AllBare s.gens)
    (hF : ∀ acc s1 h' G, Fq acc s1 → (∀ b o, s1.heap.get? b = some o → h'.get? b = some o) → (AllBare s1.gens → AllBare G) → Q acc { s1 with heap := h', gens := G })
    (hC : ∀ acc v s1, contP acc v s1 → acc.length < 1000000 ∧ s1.heap.IsGen a g ∧ s1.heap.NoLimit ∧ AllBare s1.gens)
    (hgo : ∀ h1 G, AllBare G → (∀ b o, s.heap.get? b = some o → h1.get? b = some o) → SC s.heap.objs.size { s with heap := h1, gens := G } [] → gs.Goes (model P w) A.in1.in1 (gxR fun s1 => ∃ acc, SC s.heap.objs.size s1 acc ∧ Fq acc s1) (gxYS s.heap.objs.size contP) n (.send .none) { s with heap := h1, gens := G }) :
    wpAny (model P w) A (collect (.ref a)) Q E s := by
  have la : a < s.heap.objs.size := by obtain ⟨o, nm, qn, e1, _⟩ := id hgen; exact Heap.lt_size e1
  have lc : cStatics < s.heap.objs.size := by obtain ⟨m, ns, _⟩ := id hnl; exact ns.lt
  have hSI : s.heap.objs.size ≠ a := Nat.ne_of_gt la
  have hT : ∀ h' : Heap, (∀ b o, s.heap.get? b = some o → h'.get? b = some o) → h'.IsGen a g := fun h' k => by obtain ⟨o, nm, qn, e1, e2⟩ := id hgen; exact ⟨o, nm, qn, k _ _ e1, e2⟩
  unfold collect; refine wpAny_bind (wpAny_runValue (codeAny_builtin F.entry_proto_collect ?_)); rw [Around.under_plainId F.plain_proto_collect _]
  show wpAny _ A.in1 (newList [] >>= fun l => again (.builtin "list.__iadd__" ⟨[l, .ref a], []⟩)) _ _ s
  refine wpAny_bind (wpAny_newObj_type ?_); refine wpAny_pure ⟨plainId_quiet F.plain_list_iadd _, codeAny_builtin F.entry_list_iadd ?_⟩; rw [Around.under_plainId F.plain_list_iadd _]
  have k1 : ∀ b o, s.heap.get? b = some o → (s.heap.push { cls := .type "list", data := .seq ([] : List Value).toArray }).get? b = some o := fun b o e => Heap.get?_push_of_some _ e
  have g1 := hT _ k1
  show wpAny _ A.in1 (Builtin.List.listExtendWith (.ref s.heap.objs.size) (.ref a) (.ref s.heap.objs.size)) _ _ _
  unfold Builtin.List.listExtendWith; refine wpAny_bind (wpAny_typeOf (s := { s with heap := s.heap.push { cls := .type "list", data := .seq ([] : List Value).toArray } }) g1.typeIs ?_)
  have q1 : Builtin.List.listSameRef (.ref s.heap.objs.size) (.ref a) = false := by simp [Builtin.List.listSameRef, hSI]
  have q2 : (Value.type "generator" == Value.type "list") = false := by decide
  have q3 : (Value.type "generator" == Value.type "tuple") = false := by decide
  simp only [q1, q2, q3, Bool.or_false, Bool.false_eq_true, if_false]; refine wpAny_bind (wpAny_pyIter_gen (s := { s with heap := s.heap.push { cls := .type "list", data := .seq ([] : List Value).toArray } }) g1 ?_); refine wpAny_bind (wpAny_holding ?_)
  unfold Builtin.List.listLengthHint; refine wpAny_bind (wpAny_specialOf (s := { s with heap := s.heap.push { cls := .type "list", data := .seq ([] : List Value).toArray } }) g1.typeIs F.gen_no_len ?_)
  show wpAny _ A.in1 (specialOf (Value.ref a) (Str.ofString "__length_hint__") >>= _) _ _ _; refine wpAny_bind (wpAny_specialOf (s := { s with heap := s.heap.push { cls := .type "list", data := .seq ([] : List Value).toArray } }) g1.typeIs F.gen_no_hint ?_); refine wpAny_pure ?_
  show wpAny _ A.in1 (rule "list.extend.makes-room" >>= fun _ => Builtin.List.listTouch (.ref s.heap.objs.size) >>= fun _ => again (.builtin "list.extend.loop" ⟨[.ref s.heap.objs.size, .ref a, .ref s.heap.objs.size], []⟩)) _ _ _
  refine wpAny_bind (wpAny_rule ?_)
  have z1 : (s.heap.push { cls := .type "list", data := .seq ([] : List Value).toArray }).get? s.heap.objs.size = some { cls := .type "list", data := .seq ([] : List Value).toArray } := Heap.get?_push_size _ rfl
  refine wpAny_bind ?_; show wpAny _ A.in1 (updateSeq s.heap.objs.size (·.push .none) >>= fun _ => updateSeq s.heap.objs.size (·.pop)) _ _ _
  refine wpAny_bind (wpAny_updateSeq z1 rfl ?_)
  have z2 := Heap.get?_update_self (Obj.mapSeq (·.push Value.none)) z1 rfl
  refine wpAny_updateSeq z2 rfl ?_
  have z3 := Heap.get?_update_self (Obj.mapSeq (·.pop)) z2 rfl
  have k3 : ∀ b o, s.heap.get? b = some o → (((s.heap.push { cls := .type "list", data := .seq ([] : List Value).toArray }).update s.heap.objs.size (Obj.mapSeq (·.push Value.none))).update s.heap.objs.size (Obj.mapSeq (·.pop))).get? b = some o := fun b o e => by
    have hb : s.heap.objs.size ≠ b := Nat.ne_of_gt (Heap.lt_size e)
    exact (Heap.get?_update_other _ _ hb).trans ((Heap.get?_update_other _ _ hb).trans (k1 b o e))
  refine wpAny_pure ⟨plainId_quiet F.plain_extend_loop _, coll_loop (endP := fun s1 => ∃ acc, SC s.heap.objs.size s1 acc ∧ Fq acc s1) (contP := contP) hh hroom hSI (Nat.ne_of_gt lc) (fun s1 h' G e k b => ?_) hC n _ gs (hT _ k3) (hnl.keeps k3) hgs hb fun s'' hs => ?_⟩
  · obtain ⟨acc, ⟨c, sc⟩, f⟩ := e
    show wpAny _ A (load s.heap.objs.size >>= _) _ _ _
    refine wpAny_bind (wpAny_load (k _ _ sc) ?_)
    have r := hF acc s1 h' G f k b
    exact wpAny_pure (by simpa [lsO] using r)
  · obtain ⟨G, rfl, hG⟩ := hs
    exact hgo _ G hG k3 ⟨_, z3⟩
/-- tuple(g) -/
theorem tupnew_gx {P : Program} {w : World} {A : Around} {a : Addr} {Q : Value → Shared → Prop} {E : Value → Shared → Prop} {s : Shared} (hT : s.TypeIs (.ref a) "generator")
    (h : ∀ E', wpAny (model P w) A.in1.in1 (collect (.ref a)) (fun acc s' => acc.length ≤ 1000000 ∧ Q (.ref s'.heap.objs.size) { s' with heap := s'.heap.push { cls := .type "tuple", data := .seq acc.toArray } }) E' s) :
    wpAny (model P w) A (call (.type "tuple") [.ref a]) Q E s := by
  refine callType_codes (Q₁ := fun obj s₁ => s₁.TypeIs obj "tuple" ∧ Q obj s₁) F.called_tuple (F.typeCall_tuple_1 _) F.entry_object_init (codeAny_of_tree ?_) fun obj s₁ h₁ => ⟨h₁.1, F.args_object_init_2 obj _, object_init_meets F.called_tuple.init.lookup F.called_tuple.made (by decide) P w A.in1 _ s₁ ⟨h₁.1, rfl, h₁.2⟩⟩
  show wpAny _ A.in1.in1 (do checkBuiltinCall "tuple.__new__" ⟨[.type "tuple", .ref a], []⟩; again (.builtin "tuple.__new__" ⟨[.type "tuple", .ref a], []⟩)) _ _ s
  refine wpAny_bind (wpAny_of_eq (F.newCall_tuple_1 _) (wpAny_pure ⟨plainId_quiet F.plain_tuple_new _, codeAny_builtin F.entry_tuple_new ?_⟩)); rw [Around.under_plainId F.plain_tuple_new _]
  have u1 := sub_tuple_self; have u2 := init_tuple_lookup; have u3 := madeHere_tuple
  have hc : ∀ {Q' : List Value → Shared → Prop} {E' : Value → Shared → Prop}, (∀ acc s', acc.length ≤ 1000000 → Q (.ref s'.heap.objs.size) { s' with heap := s'.heap.push { cls := .type "tuple", data := .seq acc.toArray } } → Q' acc s') → wpAny (model P w) A.in1.in1 (collect (.ref a)) Q' E' s := fun {Q' E'} z => thn (h E') fun acc s' q => z acc s' q.1 q.2
  wp_walk using wpAny_typeOf hT, hc
  intro acc s' hl hq
  show wpAny _ _ (Builtin.Tuple.tupleExact acc.toArray >>= fun v => ret v) _ _ _
  unfold Builtin.Tuple.tupleExact
  refine wpAny_bind (wpAny_newObj_type ?_ (by show acc.toArray.size ≤ sizeLine; rw [List.size_toArray, sizeLine_eq]; omega)); exact wpAny_pure ⟨⟨_, Heap.get?_push_size _ rfl, rfl⟩, hq⟩
/-- tuple(elt for tg in iter) -/
def tTupG (P : Addr) (wi : TI) (g : TG) (te : TE) (own : List Nat) : TE := fun σ H Q => wi σ H fun J H1 => TabG H1 P ∧ ∀ H2, Tabbed P H1 H2 → ∃ W : Nat → Nat → List V → Hp → Prop, (∃ m, W 0 m [] H2) ∧ GxC J g te (wipe σ own) own (fun us H => us.length ≤ 1000000 ∧ ∀ p, H p = none → Q (.ref p) (upd H p (.tup us))) W
theorem pe_tupG {c P : Addr} {elt tg iter : Expr} {p pos gpos : Pos} {scope : Scope} {own : List (Str × Nat)} {wi : TI} {g : TG} {te : TE} {k : Nat} (hc : X.calm = true) (hN : X.N.Nodup)
    (hr : Room k X.A) (hgl : Gl X "tuple") (hm : X.mg "tuple" = none) (TB : TabB X.base X.mg c P) (hcode : X.env.code = .ref c) (ok : GxOk X.N X.env.scope scope own) (hi : PI X tg iter wi)
    (hg : ∀ (s : Shared) (H : Hp) (cl : List (Str × Addr)) (C : Addr) (cd : Value) (fp : List Addr), PG (gxD X X.A.in1.in1.in1.in1 s H (genEnv scope cl C cd builtinsNs X.env) fp) tg g) (he : ∀ (s : Shared) (H : Hp) (cl : List (Str × Addr)) (C : Addr) (cd : Value) (fp : List Addr), PE (gxD X X.A.in1.in1.in1.in1 s H (genEnv scope cl C cd builtinsNs X.env) fp) elt te)
    (hs : ∀ v, genFold iter X.env v = pure v := by intro _; rfl) (hb : bootBuiltins "tuple" = some (.type "tuple") := by decide +kernel) (hst : starEach [.GeneratorExp elt [⟨tg, iter, [], 0⟩] scope gpos] X.env = [(false, eval (.GeneratorExp elt [⟨tg, iter, [], 0⟩] scope gpos) X.env)] := by rfl) :
    PE X (.Call (.Name "tuple" p) [.GeneratorExp elt [⟨tg, iter, [], 0⟩] scope gpos] [] pos) (tTupG P wi g te (own.map (·.2))) := by
  refine ⟨fun pins s σ H Q I h => ?_⟩
  refine Call_ (ld_blt I hgl hm hb (PyProof.Rows.callWith_type1 ?_ hst rfl))
  rw [hst]
  show wpAny _ _ (spliced ((false, eval (.GeneratorExp elt [⟨tg, iter, [], 0⟩] scope gpos) X.env) :: backTo pos [])) _ _ s
  refine Calls.spliced_cons (gen_made hr hN TB hcode ok hi hs I h fun J H2 s4 it fp tn cenv a gob h5 tk hR I4 T st5 hfp hsc naf hgen hat hI => ?_)
  obtain ⟨cl, C, cd, hce⟩ := hsc
  have pg := hg s4 H2 cl C cd fp
  have pe := he s4 H2 cl C cd fp
  rw [← hce] at pg pe
  obtain ⟨W, ⟨m0, w0⟩, hW⟩ := hR
  have I5 := hI s4.gens I4.bare
  have back : ∀ {σ' : L2.St} {H' : Hp} {s' : Shared}, Inv (gxD X X.A.in1.in1.in1.in1 s4 H2 cenv fp) [(a, gob)] σ' H' s' → Inv X pins σ H' s' := fun {σ' H' s'} I6 => I4.call' (ch := fp) I6.os I6.base I6.hok I6.bare fun b hb => ⟨(hfp b hb).1.2.2.2.1, (hfp b hb).1.2.1, (hfp b hb).1.2.2.2.2.1, (hfp b hb).1.2.2.2.2.2⟩
  refine Calls.spliced_nil ?_
  refine tupnew_gx hgen.typeIs fun E' => ?_
  refine collect_gx (A := X.A.in1.in1) (g := s4.gens.size) (n := m0) (Fq := fun acc s1 => ∃ us H', Inv X pins σ H' s1 ∧ Vals us acc ∧ us.length ≤ 1000000 ∧ ∀ p, H' p = none → Q (.ref p) (upd H' p (.tup us)))
    (contP := fun acc v s1 => acc.length < 1000000 ∧ s1.heap.IsGen a s4.gens.size ∧ s1.heap.NoLimit ∧ AllBare s1.gens) hr.hd (by have := hr.dp; show X.A.depth < _; omega) hgen I5.nolimit (Array.getElem?_push_size ..) (I4.bare.push rfl) ?_ (fun acc v s1 z => z) ?_
  · intro acc s1 h' G ⟨us, H', I6, va, hl, q⟩ hk hG
    have I7 := gens_ok (I6.kept (t' := s1.toks) hk) (hG I6.bare)
    have hf : H' h'.objs.size = none := I7.hok.fresh (Nat.le_refl _)
    refine ⟨by rw [← Paired.length va]; exact hl, .ref h'.objs.size, upd H' h'.objs.size (.tup us), I7.laid (t' := s1.toks) (fun b u e => Heap.get?_push_of_some _ e) (Nat.le_refl _) ?_, rfl, q _ hf⟩
    exact ⟨by rw [sizeLine_eq]; omega, acc, va, ⟨_, Heap.get?_push_size _ rfl, rfl, _, rfl⟩⟩
  · intro h1 G hG kp sc
    refine ⟨rfl, ?_⟩
    have Ig := inv_around ((hI G hG).kept (t' := tk) (h' := h1) kp) (A' := X.A.in1.in1.in1.in1.deeper cenv) (fun _ => hr.hd) (hI G hG).ok.frames
    have nS : h5.objs.size ∉ fp := fun hb => by
      obtain ⟨o, e, _⟩ := T.obj _ _ st5 _ hb
      exact Nat.lt_irrefl _ (Heap.lt_size e)
    have fS : FpOk (gxD X X.A.in1.in1.in1.in1 s4 H2 cenv fp) [(a, gob)] H2 h5.objs.size := (hI G hG).fpOk (Nat.le_refl _) ((hI G hG).hok.fresh (Nat.le_refl _))
    refine seg_gx0 (X := { X with A := X.A.in1.in1 }) T (T.keep _ _ _ st5 fun b _ o e => kp b o e) (seg_gxS (own := own) hc (by rw [hce]; exact ok.co) T pg pe hW naf nS (fun σ' H' s' us acc I6 va sc q => ⟨acc, sc, us, H', back I6, va, q⟩) (fun σ' H' s' acc v I6 hl => ?_) m0 m0 0 [] [] H2 _ _ (Nat.le_refl _) w0 .nil sc fS Ig (T.keep _ _ _ st5 fun b _ o e => kp b o e) fun b hb => (hfp b hb).1.1)
    have e9 := (I6.pin (a, gob) (by simp)).1
    obtain ⟨o, nm, qn, e1, e2⟩ := hgen
    have e1 : h5.get? a = some o := e1
    rw [hat] at e1
    cases e1
    exact ⟨hl, ⟨gob, nm, qn, e9, e2⟩, I6.nolimit, I6.bare⟩
end
end Q

set_option Elab.async false
set_option linter.all false
set_option maxRecDepth 100000
set_option maxHeartbeats 2000000
/-! tuple(..) of a generator expression, at the data's level -/
namespace Q
open PySem PySem.Spec PyProof.Rows L2
variable [TbS]
section
variable {K : PySem.W.Frag}
def gatD (h : GD) (e : FD) (own : List Nat) : List D → Env → List D → Option (List D × Env)
  | [], r, acc => some (acc, r)
  | d :: l, r, acc => (h (wipeT r own) (.fz d)).bind fun r1 => (e r1).bind fun p => if acc.length < 1000000 then gatD h e own l p.2 (acc ++ [p.1]) else none
def dTupG (f : ID) (h : GD) (e : FD) (own : List Nat) : ED := fun r => (f r).bind fun p => (gatD h e own p.1 p.2 []).bind fun q => some (.sh (.tup q.1), restore p.2 own q.2)
theorem de_tupG {P : Addr} {wi : TI} {g : TG} {te : TE} {f : ID} {h : GD} {e : FD} {own : List Nat} (hP : TbS.tb P) (hi : DI K wi f) (hg : DG K (fun i => own.contains i) g h) (he : DF K te e) : DE K (tTupG P wi g te own) (dTupG f h e own) := fun F G H r s tm us w r' I hl ee Q q => by
  obtain ⟨⟨l, r1⟩, e1, ee⟩ := Option.bind_eq_some_iff.mp ee
  obtain ⟨⟨res, r2⟩, e2, ee⟩ := Option.bind_eq_some_iff.mp ee
  cases ee
  refine hi F G H r s tm us l r1 I hl e1 _ fun J G1 H1 x1 I1 l1 hJ => ⟨I1.tab P hP, fun H2 hT => ?_⟩
  have I2 := I1.tabbed hP hT
  have fin : ∀ G' H' σ' (vs : List V), Ex G1 G' → SI K F G' H' (r2 ++ tm) (σ' ++ us) → r2.length = σ'.length → wipe σ' own = wipe s own → RpL K G' res vs → ∀ p, H' p = none → Q (.ref p) (upd H' p (.tup vs)) := fun G' H' σ' vs xg I3 l3 w3 rv p hp => by
    obtain ⟨J3, m3⟩ := gx_end I1 l1 xg I3 l3 w3
    have en : Ex G' (upd G' p (.tup vs)) := Ex.new (J3.Gnone hp)
    exact q _ _ _ ((x1.trans xg).trans en) (by simpa only [W.tm, W.vl, List.append_nil] using J3.laid hp (o := .tup vs) (fun _ _ z => HO.noConfusion z)) m3 (.tup (Or.inl (Or.inl upd_same)) (rv.mono en))
  refine ⟨fun i m vs H' => i ≤ l.length ∧ m = l.length - i ∧ ∃ G' rr σ1 acc, Ex G1 G' ∧ SI K F G' H' (rr ++ tm) (σ1 ++ us) ∧ rr.length = σ1.length ∧ wipe σ1 own = wipe s own ∧ RpL K G' acc vs ∧ acc.length ≤ 1000000 ∧ gatD h e own (l.drop i) rr acc = some (res, r2), ⟨l.length, Nat.zero_le _, rfl, G1, r1, s, [], Ex.refl G1, I2, l1, rfl, .nil, by decide, e2⟩, ?_⟩
  rintro i m vs H3 ⟨hi, rfl, G3, r3, σ3, acc, x3, I3, l3, w3, rv, al, e3⟩
  by_cases c : i < l.length
  · have hd : l[i]? = some l[i] := List.getElem?_eq_getElem c
    obtain ⟨go, yl⟩ := (hJ F G3 H3 _ _ x3 I3 i).1 _ hd
    rw [List.drop_eq_getElem_cons c] at e3
    obtain ⟨r4, e4, e5⟩ := Option.bind_eq_some_iff.mp (show (h (wipeT r3 own) (.fz l[i])).bind _ = _ from e3)
    obtain ⟨⟨d, r5⟩, e6, e7⟩ := Option.bind_eq_some_iff.mp e5
    dsimp only at e7
    split at e7
    case isFalse => cases e7
    rename_i hlt
    refine Or.inr ⟨go, by omega, by rw [← rv.length]; exact hlt, fun x H4 y => ?_⟩
    obtain ⟨G4, x4, I4, q4⟩ := yl x H4 y
    have J2 := I4.wiped l3 own
    rw [w3] at J2
    have lw : (wipeT r3 own).length = (wipe s own).length := by rw [wipeT_len, wipe_length, l3, wipe_len w3]
    have J3 : SI K F G4 H4 (wipeT r3 own ++ (.fz l[i]) :: tm) (wipe s own ++ some x :: us) := by
      obtain ⟨ff, hr, hf⟩ := J2.own
      obtain ⟨g1, g2, k1, k2, k3, k4, k5⟩ := hr.split lw
      have m : RtL K G4 H4 (.fz l[i] :: tm) (some x :: us) g2 := .cons (g := fun _ => False) (.fz q4) k2 (fun b hb => hb.elim) (fun b hb => hb) (fun b hb => hb.elim)
      exact J2.same hf (m.app k1 k5) fun b hb => hb.elim (k3 b) (k4 b)
    refine hg F (fun j => if own.contains j then none else (wipe s own)[j]?) G4 H4 _ _ (.fz l[i]) x _ _ r4 (fun j hj => by rw [if_pos hj]) J3 lw (fun j v hv => ?_) e4 _ fun s5 G5 H5 x5 I5 l5 m5 p5 => ?_
    · dsimp only at hv
      split at hv
      · cases hv
      · exact hv
    have w5 : wipe s5 own = wipe s own := by
      rw [← wipe_idem (s := s)]
      refine wipe_same m5 fun j cj => ?_
      by_cases hj : j < (wipe s own).length
      · rw [List.getElem?_eq_getElem hj]
        exact p5 j _ (by dsimp only; rw [if_neg (by simpa using cj), List.getElem?_eq_getElem hj])
      · rw [List.getElem?_eq_none (by omega), List.getElem?_eq_none (by omega)]
    refine ⟨w5, ?_⟩
    have xx := (x3.trans x4).trans x5
    refine he F G5 H5 r4 s5 _ _ d r5 I5 l5 e6 _ fun v G6 H6 x6 I6 l6 q6 => ?_
    exact ⟨l.length - (i + 1), by omega, c, rfl, G6, r5, s5, acc ++ [d], xx.trans x6, I6, l6, w5, (rv.mono ((x4.trans x5).trans x6)).append (.cons q6 .nil), by rw [List.length_append, List.length_singleton]; omega, e7⟩
  · have ei : i = l.length := by omega
    subst ei
    rw [List.drop_length] at e3
    cases e3
    exact Or.inl ⟨(hJ F G3 H3 _ _ x3 I3 l.length).2 (Nat.le_refl _), by rw [← rv.length]; exact al, fun p hp => fin G3 H3 σ3 vs x3 I3 l3 w3 rv p hp⟩
end
theorem room_gx4 {k : Nat} {A : Around} {env : PySem.Env} (r : Room (k + 1) A) : Room k (A.in1.in1.in1.in1.deeper env) :=
  ⟨r.hd, by have := r.dp; show A.depth + 1 + 3 * k + 5 < _; omega, by have := r.un; show A.units + 1 + 1 + 1 + 1 + 3 + 16 * k + 200 < _; omega⟩
end Q
namespace Q
open PySem PySem.Spec PyProof.Rows L2
namespace EV
theorem tupG {r r1 r2 r3 : Env} {f : ID} {h : GD} {e : FD} {own : List Nat} {l M : List D} (h1 : f r = some (l, r1)) (h2 : gatD h e own l r1 [] = some (M, r2)) (h3 : restore r1 own r2 = r3) : dTupG f h e own r = some (.sh (.tup M), r3) := by
  unfold dTupG; rw [h1]; simp only [Option.bind_some]; rw [h2]; simp only [Option.bind_some, h3]
theorem gt1 {r r1 r2 : Env} {h : GD} {e : FD} {own : List Nat} {d v : D} {l M : List D} {z : Option (List D × Env)} (h1 : h (wipeT r own) (.fz d) = some r1) (h3 : e r1 = some (v, r2)) (hl : M.length < 1000000) (h4 : gatD h e own l r2 (M ++ [v]) = z) : gatD h e own (d :: l) r M = z := by
  simp only [gatD, h1, Option.bind_some, h3, hl, if_true]; exact h4
end EV
end Q

set_option Elab.async false
set_option linter.all false
set_option maxRecDepth 100000
set_option maxHeartbeats 2000000
/-! {elt for tg in iter}, elt a tuple of whole numbers -/
namespace RS
open PySem PySem.Spec PyProof.Rows L2 PpSet Q
section
variable {X : Cx}
theorem addT_ok {pins : List (Addr × Obj)} {σ : L2.St} {H : Hp} {s : Shared} {E : Value → Shared → Prop} {D x : Addr} {k : List Int} {L : List (Addr × List Int)} {Q : Value → Shared → Prop} (I : Inv X pins σ H s) (hu : X.A.units + 10 < cLine) (hD : H D = some (SetTO X.prog X.w D L)) (hL : ∀ p ∈ L, SqT X.K H p.1 (p.2.map V.int)) (hx : SqT X.K H x (k.map V.int)) (few : L.length + 1 < 64)
    (q : ∀ s' L', (k ∈ L.map (·.2) → L' = L) → (k ∉ L.map (·.2) → L'.Perm ((x, k) :: L)) → Inv X pins σ (upd H D (SetTO X.prog X.w D L')) s' → Q .none s') : wpAny (model X.prog X.w) X.A (call (.builtin "set.add") [.ref D, .ref x]) Q E s := by
  have T0 : SetT0 X.prog X.w s.heap D L := (I.hok D _ hD).1
  obtain ⟨es, ep, t, R⟩ := T0.full fun p hp => I.isT (hL p hp)
  have ix := I.isT hx
  obtain ⟨o, ho, hex, hd⟩ := id R.ob
  refine wpAny_call_entry F.slot_set_add ⟨o, ho, hex.1⟩ F.entry_set_add ?_ (F.args_set_add_2 _ _)
  unfold Builtin.«set.add» Builtin.Frozenset.oneOther; simp only [List.isEmpty_nil, bind_assoc]; unfold Builtin.Frozenset.addrOf setAdd
  refine wpAny_bind (wpAny_pure ?_); try dsimp only
  refine wpAny_bind (wpAny_pure ?_); try dsimp only
  refine wpAny_bind (wpAny_holding (wpAny_bind (wpAny_pyHash_tuple (by show X.A.in1.units < _; show X.A.units + 1 < _; omega) ix ?_)))
  refine add_at (s := { s with toks := s.toks + (k.length + 1) }) R ix (by show X.A.units + 1 < _; omega) few fun b h' L' es' ep' t' sb R2 c1 c2 => ?_
  show wpAny _ _ (ret Value.none) _ _ _
  refine wpAny_pure ⟨_, rfl, q _ L' c1 c2 (I.write (e := D) (t' := s.toks + (k.length + 1)) (by rw [hD]; trivial) (.inl rfl) (fun c u hc hu => (sb.2 c hc).trans hu) ?_ (setTO_new R2.t0))⟩
  obtain ⟨o2, ho2, _⟩ := R2.ob; exact ⟨o2, ho2⟩
def tScT (P : Program) (w : World) (K : PySem.W.Frag) (wi : TI) (g : TG) (tt : TT) (te : TE) (vs : List Nat) : TE := fun σ H Q => wi σ H fun J H1 => ∀ D, H1 D = none → ∃ W : Nat → Nat → Hp → Prop, (∃ m, W 0 m (upd H1 D (SetTO P w D []))) ∧ ∀ i m H, W i m H →
  (J.stop i H ∧ Q (.ref D) H) ∨ (J.go i H ∧ ∃ Nx : Hp → Prop, (∀ H', Nx H' → ∃ m', m' < m ∧ W (i + 1) m' H') ∧ ∀ x H', J.yld i H x H' → g x (wipe σ vs) H' fun σ2 H2 => wipe σ2 vs = wipe σ vs ∧ tt σ2 H2 fun b H3 =>
    if b = true then te σ2 H3 fun y H4 => ∃ (c : Addr) (k : List Int) (L : List (Addr × List Int)), y = .ref c ∧ SqT K H4 c (k.map V.int) ∧ H4 D = some (SetTO P w D L) ∧ (∀ p ∈ L, SqT K H4 p.1 (p.2.map V.int)) ∧ L.length + 1 < 64 ∧ ∀ L', (k ∈ L.map (·.2) → L' = L) → (k ∉ L.map (·.2) → L'.Perm ((c, k) :: L)) → Nx (upd H4 D (SetTO P w D L')) else Nx H3)
theorem scT_core {pins : List (Addr × Obj)} {s : Shared} {σ : L2.St} {H : Hp} {Q : VK} {elt tg iter : Expr} {ifs : List Expr} {scope : Scope} {own : List (PySem.Str × Nat)} {pos pos' : Pos} {wi : TI} {g : TG} {tt : TT} {te : TE} {use : Option (Value → Sem Unit)} {Qf : Value → Shared → Prop} (hu : X.A.units + 10 < cLine)
    (hc : X.calm = true) (hN : X.N.Nodup) (I : Inv X pins σ H s) (hi : PI X tg iter wi) (ok : BlkOk X.N X.env.scope scope own)
    (hg : ∀ (s : Shared) (H : Hp) (C : Addr) (cl : List (PySem.Str × Addr)) (fp : List Addr), PG (X.blk s H scope (compEnvC scope cl C X.env) fp) tg g) (ht : ∀ (s : Shared) (H : Hp) (C : Addr) (cl : List (PySem.Str × Addr)) (fp : List Addr), PTs (X.blk s H scope (compEnvC scope cl C X.env) fp) ifs tt)
    (he : ∀ (s : Shared) (H : Hp) (C : Addr) (cl : List (PySem.Str × Addr)) (fp : List Addr), PE (X.blk s H scope (compEnvC scope cl C X.env) fp) elt te) (hs : ∀ x, foldedSetIterable iter X.env x = pure x)
    (h : tScT X.prog X.w X.K wi g tt te (own.map (·.2)) σ H Q)
    (hRR : ∀ D C s' m H', Inv X pins σ H' s' → Q (.ref D) H' → s'.heap.Ns C m → FpOk X pins H' C → compPost (model X.prog X.w) X.A X.xe use Qf (.ref D) C (.ok .next) s') :
    wpAny (model X.prog X.w) X.A (comprehension (.SetComp elt [⟨tg, iter, ifs, 0⟩] scope pos) scope X.env pos' (newSet (.type "set")) false (eval iter X.env) use) Qf X.xe s := by
  have fr : ∀ y ∈ scope.names, y.2 = .free → ∃ c, X.env.cells.lookup y.1 = some c := fun y hy e => (ok.free y hy e).elim (fun k => I.ok.has _ (.inl k)) fun k => I.ok.has _ (.inr k)
  refine wpAny_comprehension_free (use := use) rfl hs (closure_ok fr) ok.kind (fun y hy e => by rw [ok.uniq y hy, e]) (thn (hi.run pins s σ H _ I h) fun xv s1 hx => thn hx fun itv s2 h2 => ?_)
  obtain ⟨it, fp, tn, J, H2, e, I2, T, st2, f2, q⟩ := h2; subst e
  refine newSet_ok (newEnv_comp ?_); generalize hD : s2.heap.objs.size = D
  obtain ⟨W, ⟨m0, w0⟩, turn⟩ := q D (I2.hok.fresh (Nat.le_of_eq hD))
  generalize hs3 : ({ s2 with heap := s2.heap.push { cls := .type "set", dict := none, data := .set #[] 0 (.fresh 0 0 (!X.w.params.followText "set-order")) } } : Shared) = s3
  have I3 : Inv X pins σ (upd H2 D (SetTO X.prog X.w D [])) s3 := by
    rw [← hs3]; refine I2.laid (t' := s2.toks) (fun b o e => Heap.get?_push_of_some _ e) (Nat.le_of_eq hD) ?_
    rw [← hD]; exact setTO_new (setTR_fresh (Heap.get?_push_size _ rfl)).t0
  have h3 : s3.heap = s2.heap.push { cls := .type "set", dict := none, data := .set #[] 0 (.fresh 0 0 (!X.w.params.followText "set-order")) } := by rw [← hs3]
  have sz : ∀ b ∈ fp, b < s2.heap.objs.size := fun b hb => (T.obj _ _ st2 b hb).elim fun o z => Heap.lt_size z.1
  have f3 : ∀ b ∈ fp, FpOk X pins (upd H2 D (SetTO X.prog X.w D [])) b ∧ b < s3.heap.objs.size := fun b hb => by
    have hlt := sz b hb
    exact ⟨⟨by rw [upd_ne (by rw [← hD]; exact Nat.ne_of_lt hlt)]; exact (f2 b hb).1, (f2 b hb).2⟩, by rw [h3, Heap.size_push]; exact Nat.lt_succ_of_lt hlt⟩
  have st3 : tn 0 s3.heap := T.keep _ _ _ st2 fun b _ o e => by rw [h3]; exact Heap.get?_push_of_some _ e
  have I4 := block_start I3 ok hN f3
  have pg := hg s3 (upd H2 D (SetTO X.prog X.w D [])) s3.heap.objs.size (cellsFrom (s3.heap.objs.size + 1) scope.names (cloFrom X.env.cells scope.names [])) fp
  have pt := ht s3 (upd H2 D (SetTO X.prog X.w D [])) s3.heap.objs.size (cellsFrom (s3.heap.objs.size + 1) scope.names (cloFrom X.env.cells scope.names [])) fp
  have pe := he s3 (upd H2 D (SetTO X.prog X.w D [])) s3.heap.objs.size (cellsFrom (s3.heap.objs.size + 1) scope.names (cloFrom X.env.cells scope.names [])) fp
  show codeAny _ _ (.compStart (.SetComp elt [⟨tg, iter, ifs, 0⟩] scope pos) 0 (.ref it) (.ref D) (compEnvC scope (cellsFrom (s3.heap.objs.size + 1) scope.names (cloFrom X.env.cells scope.names [])) s3.heap.objs.size X.env)) (compPost (model X.prog X.w) X.A X.xe use Qf (.ref D) s3.heap.objs.size) { s3 with heap := pushCells (s3.heap.push { cls := .type "dict", data := .dict #[] }) scope.names }
  have nfp : ∀ b ∈ fp, (upd H2 D (SetTO X.prog X.w D [])) b = none := fun b hb => (f3 b hb).1.1
  generalize hce : compEnvC scope (cellsFrom (s3.heap.objs.size + 1) scope.names (cloFrom X.env.cells scope.names [])) s3.heap.objs.size X.env = ce at I4 pg pt pe ⊢
  have cL : ce.locals = s3.heap.objs.size := by subst hce; rfl
  generalize hH3 : upd H2 D (SetTO X.prog X.w D []) = H3 at I3 I4 pg pt pe w0 nfp f3
  generalize hs4 : ({ s3 with heap := pushCells (s3.heap.push { cls := .type "dict", data := .dict #[] }) scope.names } : Shared) = s4 at I4 ⊢
  have st4 : tn 0 s4.heap := T.keep _ _ _ st3 fun b _ o e => by rw [← hs4]; exact pushCells_keeps _ _ _ _ (Heap.get?_push_of_some _ e)
  have stat : ∀ {σ' : L2.St} {H' : Hp} {s' : Shared}, Inv (X.blk s3 H3 scope ce fp) [] σ' H' s' → (∀ b ∈ fp, H' b = none) → ∀ b ∈ fp, FpOk (X.blk s3 H3 scope ce fp) [] H' b := fun {σ' H' s'} I' hn b hb => ⟨hn b hb, (I'.ok.exf b hb).1, I'.ok.exfs b hb, .inl hb, fun x c e => (I'.ok.exf b hb).2 x c e, fun p hp => absurd (show p ∈ ([] : List (Addr × Obj)) ++ [] from hp) (by simp)⟩
  have loop : codeAny (model X.prog X.w) X.A (.compLoop (.SetComp elt [⟨tg, iter, ifs, 0⟩] scope pos) 0 (.ref it) (.ref D) ce) (compPost (model X.prog X.w) X.A X.xe use Qf (.ref D) s3.heap.objs.size) s4 := by
    refine compLoopS_any (fun n s' => ∃ i H', Inv (X.blk s3 H3 scope ce fp) [] (wipe σ (own.map (·.2))) H' s' ∧ tn i s'.heap ∧ (∀ b ∈ fp, H' b = none) ∧ W i n H') ?_ m0 ⟨0, H3, I4, st4, nfp, w0⟩
    rintro n s5 ⟨i, H5, I5, st5, n5, w5⟩; rcases turn i n H5 w5 with ⟨stop, qq⟩ | ⟨go, Nx, hNx, step⟩
    · refine thnF (T.done (X.blk s3 H3 scope ce fp) rfl rfl rfl hc i [] s5 _ H5 (fun _ _ => False) I5 (stat I5 n5) st5 stop) fun r s6 ⟨hr, I6⟩ => ?_
      subst hr
      have I7 : Inv X pins σ H5 s6 := I3.call' (ch := fp) I6.os I6.base I6.hok I6.bare fun b hb => ⟨(f3 b hb).1.2.2.2.1, (f3 b hb).1.2.1, (f3 b hb).1.2.2.2.2.1, (f3 b hb).1.2.2.2.2.2⟩
      have nC : H5 s3.heap.objs.size = none := by have z : H5 ce.locals = none := I6.free; rw [cL] at z; exact z
      obtain ⟨m, hn, _⟩ := I6.loc; have hn : s6.heap.Ns ce.locals m := hn; rw [cL] at hn
      exact hRR D s3.heap.objs.size s6 m H5 I7 qq hn (I3.fpOk (Nat.le_refl _) nC)
    · refine thnF (T.item (X.blk s3 H3 scope ce fp) rfl rfl rfl hc i [] s5 _ H5 (fun _ _ => False) I5 (stat I5 n5) st5 go) fun r s6 ⟨u, hr, h6⟩ => ?_
      subst hr; refine thnF h6 fun _ s7 ⟨x, H7, I7, r7, y7, st7, n7⟩ => ?_
      have I7' := I7.pinned (stat I7 n7) (T.obj _ _ st7); refine thnF (pg.run _ s7 _ H7 x u _ I7' r7 (step x H7 y7)) fun _ s8 ⟨σ8, H8, I8, hw8, q8⟩ => ?_
      refine thnF (pt.run _ s8 σ8 H8 _ I8 q8) fun b s9 ⟨H9, I9, q9⟩ => ?_
      have fin : ∀ {s' : Shared} {H' : Hp}, Inv (X.blk s3 H3 scope ce fp) ([] ++ pinsAt fp s7.heap) σ8 H' s' → Nx H' → ∃ m, m < n ∧ ∃ i H', Inv (X.blk s3 H3 scope ce fp) [] (wipe σ (own.map (·.2))) H' s' ∧ tn i s'.heap ∧ (∀ b ∈ fp, H' b = none) ∧ W i m H' := fun {s' H'} I' nx => by
        obtain ⟨m', hm, w'⟩ := hNx H' nx
        have pin' : ∀ b ∈ fp, ∀ o, s7.heap.get? b = some o → s'.heap.get? b = some o ∧ H' b = none := fun b hb o e => let z := I'.pin (b, o) (List.mem_append_right _ (List.mem_append_right _ (mem_pinsAt hb e))); ⟨z.1, z.2.1⟩
        have hl : (wipe σ (own.map (·.2))).length = σ8.length := by rw [← hw8, wipe_length]
        refine ⟨m', hm, i + 1, H', (I'.unpinned (pins := [])).weak hl (fun j v e => ?_), T.keep _ _ _ st7 fun b hb o e => (pin' b hb o e).1, fun b hb => ?_, w'⟩
        · rw [← hw8] at e; exact (wipe_some e).1
        · obtain ⟨o, e, _⟩ := T.obj _ _ st7 b hb; exact (pin' b hb o e).2
      cases b with
      | false => simp only [Bool.false_eq_true, if_false] at q9 ⊢; exact fin I9 q9
      | true =>
        simp only [if_true] at q9 ⊢; refine thnF (pe.run _ s9 σ8 H9 _ I9 q9) fun z s10 ⟨yv, H10, I10, r10, c, k, L, ey, sx, hD10, hL10, few, nx⟩ => ?_
        subst ey; cases (show z = Value.ref c from r10)
        exact addT_ok (X := X.blk s3 H3 scope ce fp) I10 hu hD10 hL10 sx few fun s11 L' c1 c2 I11 => fin I11 (nx L' c1 c2)
  exact codeAny_compStart_set loop (T.self X.A 0 _ _ _ st4 loop)
theorem pe_scT {elt tg iter : Expr} {ifs : List Expr} {scope : Scope} {own : List (PySem.Str × Nat)} {pos : Pos} {wi : TI} {g : TG} {tt : TT} {te : TE} {k : Nat} (hr : Room k X.A) (hc : X.calm = true) (hN : X.N.Nodup) (hi : PI X tg iter wi) (ok : BlkOk X.N X.env.scope scope own)
    (hg : ∀ (s : Shared) (H : Hp) (C : Addr) (cl : List (PySem.Str × Addr)) (fp : List Addr), PG (X.blk s H scope (compEnvC scope cl C X.env) fp) tg g) (ht : ∀ (s : Shared) (H : Hp) (C : Addr) (cl : List (PySem.Str × Addr)) (fp : List Addr), PTs (X.blk s H scope (compEnvC scope cl C X.env) fp) ifs tt)
    (he : ∀ (s : Shared) (H : Hp) (C : Addr) (cl : List (PySem.Str × Addr)) (fp : List Addr), PE (X.blk s H scope (compEnvC scope cl C X.env) fp) elt te) (hs : ∀ x, foldedSetIterable iter X.env x = pure x := by intro _; rfl) :
    PE X (.SetComp elt [⟨tg, iter, ifs, 0⟩] scope pos) (tScT X.prog X.w X.K wi g tt te (own.map (·.2))) := by
  refine ⟨fun pins s σ H Q I h => ?_⟩; rw [eval_SetComp]
  refine scT_core (by have := hr.un; omega) hc hN I hi ok hg ht he hs h fun D C s' m H' I' q hn f => ⟨m, hn, fun h'' sb => ?_⟩
  obtain ⟨f0, f1, f2, f3, f4, f5⟩ := f; exact ⟨.ref D, H', I'.turned (t' := s'.toks) (fun b o hb e => (sb.2 b hb).trans e) f0 f1 f3 f4 f5, rfl, q⟩
end
end RS

set_option Elab.async false
set_option linter.all false
set_option maxRecDepth 100000
set_option maxHeartbeats 2000000
/-! sorted({elt for tg in iter}), elt a tuple of whole numbers, at the data's level -/
namespace Q
open PySem PySem.Spec PyProof.Rows L2 PpSet RS
variable [TbS]
section
variable {K : PySem.W.Frag} {F : Fx} {G H G' H' : Hp} {r r' : List T} {x x' : List (Option V)} {f f' : Fp}
theorem SI.hid (I : SI K F G H r x) {D : Addr} {o : HO} (hr : RtL K G H r x f) (hf : Own F G H f) (nf : ¬ f D) (hg : G D = none) (hb : F.B D = none) (ht : ¬ TbS.tb D) :
    SI K F G (upd H D o) r x ∧ RtL K G (upd H D o) r x f ∧ Own F G (upd H D o) f := by
  have np : ∀ b, f b → b ≠ D := fun b z e => nf (e ▸ z)
  have R : RtL K G (upd H D o) r x f := hr.frame (Ex.refl G) fun b z => upd_ne (np b z)
  have O : Own F G (upd H D o) f := fun b z => ⟨(hf b z).1, by rw [upd_ne (np b z)]; exact (hf b z).2.1, (hf b z).2.2⟩
  refine ⟨⟨⟨f, R, O⟩, fun a u e c t => ?_, fun a t => ?_, I.gtb, fun a c => ?_, I.g0, fun a u e => ?_, I.pl, I.gn⟩, R, O⟩
  · rw [upd_ne (fun z => by rw [z, hb] at e; cases e)]; exact I.keep a u e c t
  · obtain ⟨ps, q, z⟩ := I.tab a t
    have nd : a ≠ D := fun e => ht (by rw [← e]; exact t)
    exact ⟨ps, by rw [upd_ne nd]; exact q, z⟩
  · by_cases e : a = D
    · subst e; rw [upd_same]; exact Option.some_ne_none _
    · rw [upd_ne e]; exact I.inn a c
  · rw [upd_ne (fun z => by rw [z, hg] at e; cases e)]; exact I.gh a u e
theorem SI.inF (I : SI K F G H r x) (hr : RtL K G H r x f) (hf : Own F G H f) : SI K ⟨H, G, f⟩ G H r x :=
  ⟨⟨f, hr, fun b z => ⟨(hf b z).1, (hf b z).2.1, Or.inr z, (hf b z).2.2.2⟩⟩, fun a o e _ _ => e, I.tab, I.gtb, fun a c => (hf a c).2.1, Ex.refl G, I.gh, I.pl, fun a o e => Or.inl e⟩
theorem Own.out (I : SI K F G H r x) (hf : Own F G H f) (hf' : Own ⟨H, G, f⟩ G' H' f') : Own F G' H' f' := fun b z =>
  ⟨(hf' b z).1, (hf' b z).2.1, (hf' b z).2.2.1.elim (fun q => Or.inl (I.Bnone q)) fun q => (hf b q).2.2.1, (hf' b z).2.2.2⟩
theorem SI.outF (I : SI K F G H r x) (hf : Own F G H f) (J : SI K ⟨H, G, f⟩ G' H' r' x') : SI K F G' H' r' x' := by
  obtain ⟨f', hr', hf'⟩ := J.own
  refine ⟨⟨f', hr', Own.out I hf hf'⟩, fun a o e c t => ?_, J.tab, J.gtb, fun a c => ?_, I.g0.trans J.g0, J.gh, J.pl, fun a o e => ?_⟩
  · refine J.keep a o (I.keep a o e c t) (fun z => ?_) t
    rcases (hf a z).2.2.1 with q | q
    · rw [e] at q; cases q
    · exact c q
  · by_cases z : f a
    · exact J.inn a z
    · by_cases t : TbS.tb a
      · obtain ⟨_, q, _⟩ := J.tab a t
        rw [q]; exact Option.some_ne_none _
      · cases q : H a with
        | none => exact absurd q (I.inn a c)
        | some o => rw [J.keep a o q z t]; exact Option.some_ne_none _
  · rcases J.gn a o e with q | q | q
    · exact I.gn a o q
    · exact Or.inr (Or.inl (I.Bnone q))
    · exact Or.inr ((hf a q).2.2.1)
theorem ite_yes {A B : Prop} (h : A) : if true = true then A else B := by rw [if_pos rfl]; exact h
def intT : D → Option (List Int)
  | .tup k => intsD k
  | _ => none
def gatS (h : GD) (e : FD) (own : List Nat) : List D → Env → List (List Int) → Option (List (List Int) × Env)
  | [], r, acc => some (acc, r)
  | d :: l, r, acc => (h (wipeT r own) (.fz d)).bind fun r1 => (e r1).bind fun p => (intT p.1).bind fun k => if acc.length < 62 then gatS h e own l p.2 (acc ++ [k]) else none
def dSSC (f : ID) (h : GD) (e : FD) (own : List Nat) : ED := fun r => (f r).bind fun p => (gatS h e own p.1 p.2 []).bind fun q =>
  if (q.1.all fun k => k.length == (q.1.headD [0]).length && decide (0 < k.length)) = true then some ((Rs.newL ((sortI q.1).map tupD)).w, restore p.2 own q.2) else none
theorem de_ssc {P : Program} {w : World} {wi : TI} {g : TG} {te : TE} {f : ID} {h : GD} {e : FD} {own : List Nat} (hi : DI K wi f) (hg : DG K (fun i => own.contains i) g h) (he : DF K te e) :
    DE K (tCB (rSortedL K P w) (tCons (tScT P w K wi g tYes te own) tNil)) (dSSC f h e own) := fun F G H r s tm us z r' I hl ee Q q => by
  obtain ⟨⟨l, r1⟩, e1, ee⟩ := Option.bind_eq_some_iff.mp ee
  obtain ⟨⟨res, r2⟩, e2, ee⟩ := Option.bind_eq_some_iff.mp ee
  dsimp only at ee
  split at ee
  case isFalse => cases ee
  rename_i call
  cases ee
  refine hi F G H r s tm us l r1 I hl e1 _ fun J G1 H1 x1 I1 l1 hJ => fun D hD => ?_
  have nB := I1.Bnone hD
  have nG := I1.Gnone hD
  have nt : ¬ TbS.tb D := fun t => by
    obtain ⟨_, q, _⟩ := I1.tab D t
    rw [hD] at q; cases q
  obtain ⟨f0, hr0, hf0⟩ := I1.own
  have nf0 : ¬ f0 D := fun z => (hf0 D z).2.1 hD
  obtain ⟨I2, hr2, hf2⟩ := I1.hid (o := SetTO P w D []) hr0 hf0 nf0 nG nB nt
  refine ⟨fun i m H' => i ≤ l.length ∧ m = l.length - i ∧ ∃ (G' : Hp) (rr : List T) (σ1 : L2.St) (acc : List (List Int)) (L : List (Addr × List Int)) (f' : Fp), Ex G1 G' ∧ SI K F G' H' (rr ++ tm) (σ1 ++ us) ∧ RtL K G' H' (rr ++ tm) (σ1 ++ us) f' ∧ Own F G' H' f' ∧ ¬ f' D ∧ G' D = none ∧ rr.length = σ1.length ∧ wipe σ1 own = wipe s own ∧ H' D = some (SetTO P w D L) ∧ (∀ p ∈ L, SqT K G' p.1 (p.2.map V.int)) ∧ L.length ≤ acc.length ∧ acc.length ≤ 62 ∧ (∀ k, k ∈ L.map (·.2) ↔ k ∈ acc) ∧ gatS h e own (l.drop i) rr acc = some (res, r2),
    ⟨l.length, Nat.zero_le _, rfl, G1, r1, s, [], [], f0, Ex.refl G1, I2, hr2, hf2, nf0, nG, l1, rfl, upd_same, (fun p hp => nomatch hp), Nat.le_refl _, by decide, fun k => Iff.rfl, e2⟩, ?_⟩
  rintro i m H3 ⟨hi, rfl, G3, r3, σ3, acc, L, f3, x3, I3, hr3, hf3, nf3, g3, l3, w3, hD3, hL3, le3, al, mem3, e3⟩
  by_cases c : i < l.length
  · have hd : l[i]? = some l[i] := List.getElem?_eq_getElem c
    have I3' := I3.inF hr3 hf3
    obtain ⟨go, yl⟩ := (hJ _ G3 H3 _ _ x3 I3' i).1 _ hd
    rw [List.drop_eq_getElem_cons c] at e3
    obtain ⟨r4, e4, e5⟩ := Option.bind_eq_some_iff.mp (show (h (wipeT r3 own) (.fz l[i])).bind _ = _ from e3)
    obtain ⟨⟨d, r5⟩, e6, e7⟩ := Option.bind_eq_some_iff.mp e5
    obtain ⟨k, e8, e9⟩ := Option.bind_eq_some_iff.mp e7
    dsimp only at e8 e9
    split at e9
    case isFalse => cases e9
    rename_i hlt
    refine Or.inr ⟨go, fun H' => ((∃ (G' : Hp) (rr : List T) (σ1 : L2.St) (L' : List (Addr × List Int)) (f' : Fp), Ex G1 G' ∧ SI K F G' H' (rr ++ tm) (σ1 ++ us) ∧ RtL K G' H' (rr ++ tm) (σ1 ++ us) f' ∧ Own F G' H' f' ∧ ¬ f' D ∧ G' D = none ∧ rr.length = σ1.length ∧ wipe σ1 own = wipe s own ∧ H' D = some (SetTO P w D L') ∧ (∀ p ∈ L', SqT K G' p.1 (p.2.map V.int)) ∧ L'.length ≤ (acc ++ [k]).length ∧ (∀ u, u ∈ L'.map (·.2) ↔ u ∈ acc ++ [k]) ∧ gatS h e own (l.drop (i + 1)) rr (acc ++ [k]) = some (res, r2)) : Prop), ?_, ?_⟩
    · rintro H' ⟨G', rr, σ1, L', f', a1, a2, a3, a4, a5, a6, a7, a8, a9, a10, a11, a12, a13⟩
      exact ⟨l.length - (i + 1), by omega, c, rfl, G', rr, σ1, acc ++ [k], L', f', a1, a2, a3, a4, a5, a6, a7, a8, a9, a10, a11, by rw [List.length_append, List.length_singleton]; omega, a12, a13⟩
    intro x H4 y
    obtain ⟨G4, x4, I4, q4⟩ := yl x H4 y
    have J2 := I4.wiped l3 own
    rw [w3] at J2
    have lw : (wipeT r3 own).length = (wipe s own).length := by rw [wipeT_len, wipe_length, l3, wipe_len w3]
    have J3 : SI K ⟨H3, G3, f3⟩ G4 H4 (wipeT r3 own ++ (.fz l[i]) :: tm) (wipe s own ++ some x :: us) := by
      obtain ⟨ff, hr, hf⟩ := J2.own
      obtain ⟨g1, g2, k1, k2, k3, k4, k5⟩ := hr.split lw
      have m : RtL K G4 H4 (.fz l[i] :: tm) (some x :: us) g2 := .cons (g := fun _ => False) (.fz q4) k2 (fun b hb => hb.elim) (fun b hb => hb) (fun b hb => hb.elim)
      exact J2.same hf (m.app k1 k5) fun b hb => hb.elim (k3 b) (k4 b)
    refine hg _ (fun j => if own.contains j then none else (wipe s own)[j]?) G4 H4 _ _ (.fz l[i]) x _ _ r4 (fun j hj => by rw [if_pos hj]) J3 lw (fun j v hv => ?_) e4 _ fun s5 G5 H5 x5 I5 l5 m5 p5 => ?_
    · dsimp only at hv
      split at hv
      · cases hv
      · exact hv
    have w5 : wipe s5 own = wipe s own := by
      rw [← wipe_idem (s := s)]
      refine wipe_same m5 fun j cj => ?_
      by_cases hj : j < (wipe s own).length
      · rw [List.getElem?_eq_getElem hj]
        exact p5 j _ (by dsimp only; rw [if_neg (by simpa using cj), List.getElem?_eq_getElem hj])
      · rw [List.getElem?_eq_none (by omega), List.getElem?_eq_none (by omega)]
    refine ⟨w5, ?_⟩
    have xx := (x3.trans x4).trans x5
    dsimp only [tYes]
    rw [if_pos rfl]
    refine he _ G5 H5 r4 s5 _ _ d r5 I5 l5 e6 _ fun v G6 H6 x6 I6 l6 q6 => ?_
    have x36 := (x4.trans x5).trans x6
    cases d with
    | tup kd =>
      cases q6 with | @tup a ys _ h3 h4 =>
        have hy := intsD_rp h4 (show intsD kd = some k from e8)
        subst hy
        obtain ⟨f6, hr6, hf6⟩ := I6.own
        have nf6 : ¬ f6 D := fun z => by
          rcases (hf6 D z).2.2.1 with q | q
          · rw [show H3 D = none from q] at hD3; cases hD3
          · exact nf3 q
        have hD6 : H6 D = some (SetTO P w D L) := I6.keep D _ hD3 nf3 nt
        have g6 : G6 D = none := by
          cases q : G6 D with
          | none => rfl
          | some o =>
            rcases I6.gn D o q with z | z | z
            · rw [show G3 D = some o from z] at g3; cases g3
            · rw [show H3 D = none from z] at hD3; cases hD3
            · exact absurd z nf3
        have I7 := I3.outF hf3 I6
        have hf7 := Own.out I3 hf3 hf6
        have t6 : ∀ p ∈ L, SqT K G6 p.1 (p.2.map V.int) := fun p hp => sub_t trivial x36.sub (hL3 p hp)
        refine ⟨a, k, L, rfl, sub_t trivial I6.gh h3, hD6, fun p hp => sub_t trivial I6.gh (t6 p hp), by omega, fun L' c1 c2 => ?_⟩
        obtain ⟨I8, hr8, hf8⟩ := I7.hid (o := SetTO P w D L') hr6 hf7 nf6 g6 nB nt
        refine ⟨G6, r5, s5, L', f6, xx.trans x6, I8, hr8, hf8, nf6, g6, l6, w5, upd_same, ?_, ?_, ?_, e9⟩
        · by_cases kin : k ∈ L.map (·.2)
          · rw [c1 kin]; exact t6
          · intro p hp
            rcases List.mem_cons.mp ((c2 kin).mem_iff.mp hp) with rfl | hp
            · exact h3
            · exact t6 p hp
        · rw [List.length_append, List.length_singleton]
          by_cases kin : k ∈ L.map (·.2)
          · rw [c1 kin]; omega
          · rw [(c2 kin).length_eq, List.length_cons]; omega
        · intro u
          rw [List.mem_append, List.mem_singleton]
          by_cases kin : k ∈ L.map (·.2)
          · rw [c1 kin, mem3 u]
            exact ⟨Or.inl, fun z => z.elim id fun z => by rw [z]; exact (mem3 k).mp kin⟩
          · rw [((c2 kin).map (·.2)).mem_iff, List.map_cons, List.mem_cons, mem3 u]
            exact Or.comm
    | _ => cases e8
  · have ei : i = l.length := by omega
    subst ei
    rw [List.drop_length] at e3
    cases e3
    refine Or.inl ⟨(hJ F G3 H3 _ _ x3 I3 l.length).2 (Nat.le_refl _), ?_⟩
    have c3 := List.all_eq_true.mp call
    have c4 : ∀ p ∈ L, p.2.length = (res.headD [0]).length := fun p hp => by
      have := c3 p.2 ((mem3 p.2).mp (List.mem_map_of_mem hp))
      simp only [Bool.and_eq_true, beq_iff_eq] at this
      exact this.1
    obtain ⟨J3, m3⟩ := gx_end I1 l1 x3 I3 l3 w3
    refine ⟨D, L, (res.headD [0]).length, rfl, hD3, fun p hp => sub_t trivial I3.gh (hL3 p hp), ?_, c4, fun L' p pm nd pw hp => ?_⟩
    · cases hk : res with
      | nil => exact Nat.le_refl _
      | cons y ys =>
        have := c3 y (by rw [hk]; exact List.mem_cons_self)
        simp only [Bool.and_eq_true, decide_eq_true_eq] at this
        exact this.2
    · have es : L'.map (·.2) = sortI res := by
        refine st_uniq ?_ (st_sortI _) fun y => ?_
        · refine List.pairwise_map.mpr ?_
          have nd' := List.pairwise_map.mp nd
          refine List.Pairwise.imp (fun {q r} h => ?_) (List.Pairwise.and pw nd')
          rcases SrtO.bcase (lexI q.2 r.2) with z | z
          · exact z
          · exact absurd (lexI_eq _ _ z h.1) h.2
        · rw [mem_sortI, ← mem3 y]
          exact (pm.map (·.2)).mem_iff
      have h := rp_tups (K := K) (G := G3) (L := L') fun u hu => hL3 u (pm.mem_iff.mp hu)
      rw [es] at h
      exact rs_ok (z := .newL ((sortI res).map tupD)) J3 m3 (fun v G' H' x4 I4 l4 hw => q v G' H' ((x1.trans x3).trans x4) I4 l4 hw) p _ hp h
end
end Q
namespace Q
open PySem PySem.Spec PyProof.Rows L2
namespace EV
theorem ssc {r r1 r2 r3 : Env} {f : ID} {h : GD} {e : FD} {own : List Nat} {l : List D} {M S : List (List Int)} (h1 : f r = some (l, r1)) (h2 : gatS h e own l r1 [] = some (M, r2)) (h3 : restore r1 own r2 = r3) (hc : (M.all fun k => k.length == (M.headD [0]).length && decide (0 < k.length)) = true) (hs : sortI M = S) : dSSC f h e own r = some ((Rs.newL (S.map tupD)).w, r3) := by
  unfold dSSC; rw [h1]; simp only [Option.bind_some]; rw [h2]; simp only [Option.bind_some, h3, hs]; rw [if_pos hc]
theorem gs1 {r r1 r2 : Env} {h : GD} {e : FD} {own : List Nat} {d v : D} {k : List Int} {l : List D} {M : List (List Int)} {z : Option (List (List Int) × Env)} (h1 : h (wipeT r own) (.fz d) = some r1) (h3 : e r1 = some (v, r2)) (hk : intT v = some k) (hl : M.length < 62) (h4 : gatS h e own l r2 (M ++ [k]) = z) : gatS h e own (d :: l) r M = z := by
  simp only [gatS, h1, Option.bind_some, h3, hk, hl, if_true]; exact h4
end EV
end Q

set_option Elab.async false
set_option linter.all false
set_option maxRecDepth 100000
set_option maxHeartbeats 4000000
namespace K7
open PySem PySem.Spec PyProof.Rows L2 Q
variable [TbS]
def topS (i : Nat) : Stmt := PySem.Challenge.pw_roadsay_k57_what_tables_do.main.body.getD i (.Pass ⟨0, 0, 0, 0⟩)
def FU : Nat := 190
def tok_ANY (mg : Str → Option Value) : Tok := match mg "ANY" with
  | some (.int _ t) => t
  | _ => 0
def tok_MOST_FIELDS (mg : Str → Option Value) : Tok := match mg "MOST_FIELDS" with
  | some (.int _ t) => t
  | _ => 0
def tok_MOST_LETTERS (mg : Str → Option Value) : Tok := match mg "MOST_LETTERS" with
  | some (.int _ t) => t
  | _ => 0
def tok_MOST_RULES (mg : Str → Option Value) : Tok := match mg "MOST_RULES" with
  | some (.int _ t) => t
  | _ => 0
def tok_MOST_VALUES (mg : Str → Option Value) : Tok := match mg "MOST_VALUES" with
  | some (.int _ t) => t
  | _ => 0
structure Zs where
  SayError : Addr
  NoShape : Addr
  NoTable : Addr
  c_is_match : Addr
  t_is_match : Addr
  c_are_changes : Addr
  t_are_changes : Addr
  c_is_table : Addr
  t_is_table : Addr
  c_meets : Addr
  t_meets : Addr
  c_changed : Addr
  t_changed : Addr
structure Txt (K : PySem.W.Frag) (mg : Str → Option Value) (Z : Zs) (w : World) : Prop where
  b_all : mg "all" = none
  b_bool : mg "bool" = none
  b_enumerate : mg "enumerate" = none
  b_int : mg "int" = none
  b_isinstance : mg "isinstance" = none
  b_len : mg "len" = none
  b_list : mg "list" = none
  b_max : mg "max" = none
  b_range : mg "range" = none
  b_repr : mg "repr" = none
  b_set : mg "set" = none
  b_sorted : mg "sorted" = none
  b_tuple : mg "tuple" = none
  b_zip : mg "zip" = none
  k_ANY : mg "ANY" = some (.int (-1) (tok_ANY mg))
  k_MOST_FIELDS : mg "MOST_FIELDS" = some (.int (3) (tok_MOST_FIELDS mg))
  k_MOST_LETTERS : mg "MOST_LETTERS" = some (.int (27) (tok_MOST_LETTERS mg))
  k_MOST_RULES : mg "MOST_RULES" = some (.int (60) (tok_MOST_RULES mg))
  k_MOST_VALUES : mg "MOST_VALUES" = some (.int (4) (tok_MOST_VALUES mg))
  c_SayError : mg "SayError" = some (.ref Z.SayError)
  c_NoShape : mg "NoShape" = some (.ref Z.NoShape)
  c_NoTable : mg "NoTable" = some (.ref Z.NoTable)
  x_NoShape : PySem.W.excIn K Z.NoShape [.type "ValueError", .type "Exception", .type "BaseException", .type "object"] "ValueError.__new__" = true
  p_NoShape : PySem.W.keepIn K (.ref Z.NoShape) = true
  u_NoShape : PySem.W.subIn K (.ref Z.NoShape) (.type "BaseException") = some true
  t_NoShape : PySem.W.typeIn K (.ref Z.NoShape) = some (.type "type")
  x_NoTable : PySem.W.excIn K Z.NoTable [.type "ValueError", .type "Exception", .type "BaseException", .type "object"] "ValueError.__new__" = true
  p_NoTable : PySem.W.keepIn K (.ref Z.NoTable) = true
  u_NoTable : PySem.W.subIn K (.ref Z.NoTable) (.type "BaseException") = some true
  t_NoTable : PySem.W.typeIn K (.ref Z.NoTable) = some (.type "type")
/-! ### is_number -/
abbrev s_is_number : Stmt := topS 5
abbrev N_is_number : List Str := ["thing"]
theorem sc_is_number : FnScope N_is_number ["thing"] (defScope s_is_number) := ⟨rfl, rfl, rfl, by decide +kernel, rfl, by decide +kernel, by decide +kernel⟩
def b_is_number : SD :=
  (dRet (xLift (dBool (dAnd (dBl (dSh (dIsi .int (dSh (dVar 0))))) (dBl (dSh (dBool (dNot (dBl (dSh (dIsi .bool (dSh (dVar 0)))))))))))))
def fn_is_number : FnT := fnD 1 1 [true] (b_is_number)
omit [TbS] in
theorem fe_is_number {p0 : T} {o : O} {z : Res × List T} (e : b_is_number [p0] = some o) (h : EV.finO 1 [true] [p0] o = some z) : fn_is_number [p0] = some z := EV.fnO (by rfl) e h
/-! ### is_shape -/
abbrev s_is_shape : Stmt := topS 10
abbrev N_is_shape : List Str := ["thing", "many", "values"]
theorem sc_is_shape : FnScope N_is_shape ["thing"] (defScope s_is_shape) := ⟨rfl, rfl, rfl, by decide +kernel, rfl, by decide +kernel, by decide +kernel⟩
@[reducible] def L_is_shape_1 : SD :=
  (dSeq (dIf (xbLift (dOr (dNot (dBl (dSh (dCall fn_is_number (daCons (dVar 2) daNil))))) (dNot (dBl (dSh (dChain gLe gLe (dSh (dC (.int 1))) (dSh (dVar 2)) (dSh (dC (.int (4)))))))))) (dRet (xLift (dC (.bl false)))) dNext)
    (dAug 1 gMul1 (dSh (dVar 2))))
def b_is_shape : SD :=
  (dSeq (dIf (xbLift (dOr (dNot (dBl (dSh (dIsi .tuple (dSh (dVar 0)))))) (dNot (dBl (dSh (dChain gLe gLe (dSh (dC (.int 1))) (dSh (dWith (fdCons (dSh (dVar 0)) fdNil) gLen)) (dSh (dC (.int (3)))))))))) (dRet (xLift (dC (.bl false)))) dNext)
    (dSeq (dAsg (xLift (dC (.int 1))) (gdName 1))
    (dSeq (dFor (dItemsT (dSh (dVar 0))) (gdName 2) L_is_shape_1)
    (dRet (xLift (dOp gLe (dSh (dVar 1)) (dSh (dC (.int (27))))))))))
def fn_is_shape : FnT := fnD 1 3 [true] (b_is_shape)
omit [TbS] in
theorem fe_is_shape {p0 : T} {o : O} {z : Res × List T} (e : b_is_shape [p0, .un, .un] = some o) (h : EV.finO 1 [true] [p0] o = some z) : fn_is_shape [p0] = some z := EV.fnO (by rfl) e h
/-! ### check_shape -/
abbrev s_check_shape : Stmt := topS 11
abbrev N_check_shape : List Str := ["shape"]
theorem sc_check_shape : FnScope N_check_shape ["shape"] (defScope s_check_shape) := ⟨rfl, rfl, rfl, by decide +kernel, rfl, by decide +kernel, by decide +kernel⟩
def b_check_shape (Z : Zs) : SD :=
  (dIf (xbLift (dNot (dBl (dSh (dCall fn_is_shape (daCons (dVar 0) daNil)))))) (dRaise Z.NoShape) dNext)
def fn_check_shape (Z : Zs) : FnT := fnD 1 1 [true] (b_check_shape Z)
omit [TbS] in
theorem fe_check_shape (Z : Zs) {p0 : T} {o : O} {z : Res × List T} (e : b_check_shape Z [p0] = some o) (h : EV.finO 1 [true] [p0] o = some z) : fn_check_shape Z [p0] = some z := EV.fnO (by rfl) e h
/-! ### letters_of -/
abbrev s_letters_of : Stmt := topS 12
abbrev N_letters_of : List Str := ["shape", "letters", "values", "letter", "value"]
theorem sc_letters_of : FnScope N_letters_of ["shape"] (defScope s_letters_of) := ⟨rfl, rfl, rfl, by decide +kernel, rfl, by decide +kernel, by decide +kernel⟩
@[reducible] def c_letters_of_2 (Z : Zs) : MD :=
  (dMv (dOp gCatT (dSh (dVar 3)) (dSh (dWith (fdCons (dSh (dVar 4)) fdNil) gTupD))))
@[reducible] def ci_letters_of_2 (Z : Zs) : ID :=
  (dRange1 (fdCons (dSh (dVar 2)) fdNil))
@[reducible] def L_letters_of_1 (Z : Zs) : SD :=
  (dAsg (xLift (dComp2 (dItemsL (dSh (dVar 1))) (gdName 3) dYes (ci_letters_of_2 Z) (gdName 4) dYes (c_letters_of_2 Z) [3, 4] [4])) (gdName 1))
def b_letters_of (Z : Zs) : SD :=
  (dSeq (dDrop (dCallX (fn_check_shape Z) (daCons (dVar 0) daNil)))
    (dSeq (dAsg (xLift (dWith (fdCons (dSh (dWith fdNil gTupD)) fdNil) gLstD)) (gdName 1))
    (dSeq (dFor (dItemsT (dSh (dVar 0))) (gdName 2) (L_letters_of_1 Z))
    (dRet (xLift (dVar 1))))))
def fn_letters_of (Z : Zs) : FnT := fnD 1 5 [true] (b_letters_of Z)
omit [TbS] in
theorem fe_letters_of (Z : Zs) {p0 : T} {o : O} {z : Res × List T} (e : b_letters_of Z [p0, .un, .un, .un, .un] = some o) (h : EV.finO 1 [true] [p0] o = some z) : fn_letters_of Z [p0] = some z := EV.fnO (by rfl) e h
/-! ### is_value_or_any -/
abbrev s_is_value_or_any : Stmt := topS 16
abbrev N_is_value_or_any : List Str := ["thing", "many"]
theorem sc_is_value_or_any : FnScope N_is_value_or_any ["thing", "many"] (defScope s_is_value_or_any) := ⟨rfl, rfl, rfl, by decide +kernel, rfl, by decide +kernel, by decide +kernel⟩
def b_is_value_or_any : SD :=
  (dRet (xLift (dBool (dAnd (dBl (dSh (dCall fn_is_number (daCons (dVar 0) daNil)))) (dBl (dSh (dChain gLe gLt (dSh (dC (.int (-1)))) (dSh (dVar 0)) (dSh (dVar 1)))))))))
def fn_is_value_or_any : FnT := fnD 2 2 [true, true] (b_is_value_or_any)
omit [TbS] in
theorem fe_is_value_or_any {p0 p1 : T} {o : O} {z : Res × List T} (e : b_is_value_or_any [p0, p1] = some o) (h : EV.finO 2 [true, true] [p0, p1] o = some z) : fn_is_value_or_any [p0, p1] = some z := EV.fnO (by rfl) e h
/-! ### is_match -/
abbrev s_is_match : Stmt := topS 17
abbrev N_is_match : List Str := ["shape", "thing", "value", "many"]
theorem sc_is_match : FnScope N_is_match ["shape", "thing"] (defScope s_is_match) := ⟨rfl, rfl, rfl, by decide +kernel, rfl, by decide +kernel, by decide +kernel⟩
@[reducible] def g_is_match_1 : FD :=
  (dSh (dCall fn_is_value_or_any (daCons (dVar 2) (daCons (dVar 3) daNil))))
def b_is_match : SD :=
  (dSeq (dIf (xbLift (dOr (dNot (dBl (dSh (dIsi .tuple (dSh (dVar 1)))))) (dBl (dSh (dOp gNe (dSh (dWith (fdCons (dSh (dVar 1)) fdNil) gLen)) (dSh (dWith (fdCons (dSh (dVar 0)) fdNil) gLen))))))) (dRet (xLift (dC (.bl false)))) dNext)
    (dRet (xLift (dAllG (dZipA (fdCons (dSh (dVar 1)) (fdCons (dSh (dVar 0)) fdNil))) (gdTup 2 (gdCons (gdName 2) (gdCons (gdName 3) gdNil))) g_is_match_1 [2, 3]))))
def fn_is_match : FnT := fnD 2 4 [true, true] (b_is_match)
omit [TbS] in
theorem fe_is_match {p0 p1 : T} {o : O} {z : Res × List T} (e : b_is_match [p0, p1, .un, .un] = some o) (h : EV.finO 2 [true, true] [p0, p1] o = some z) : fn_is_match [p0, p1] = some z := EV.fnO (by rfl) e h
/-! ### are_changes -/
abbrev s_are_changes : Stmt := topS 18
abbrev N_are_changes : List Str := ["shape", "thing", "change", "after"]
theorem sc_are_changes : FnScope N_are_changes ["shape", "thing"] (defScope s_are_changes) := ⟨rfl, rfl, rfl, by decide +kernel, rfl, by decide +kernel, by decide +kernel⟩
@[reducible] def g_are_changes_1 : FD :=
  (dSh (dCall fn_is_match (daCons (dVar 0) (daCons (dVar 2) daNil))))
@[reducible] def g_are_changes_2 : FD :=
  (dSh (dOp gLtT (dSh (dVar 2)) (dSh (dVar 3))))
def b_are_changes : SD :=
  (dSeq (dIf (xbLift (dOr (dNot (dBl (dSh (dIsi .list (dSh (dVar 1)))))) (dNot (dBl (dSh (dAllG (dItemsL (dSh (dVar 1))) (gdName 2) g_are_changes_1 [2])))))) (dRet (xLift (dC (.bl false)))) dNext)
    (dRet (xLift (dAllG (dZipA (fdCons (dSh (dVar 1)) (fdCons (dSh (dSl gSlL (dSh (dVar 1)) (pAt (dSh (dC (.int 1)))) pNo)) fdNil))) (gdTup 2 (gdCons (gdName 2) (gdCons (gdName 3) gdNil))) g_are_changes_2 [2, 3]))))
def fn_are_changes : FnT := fnD 2 4 [true, true] (b_are_changes)
omit [TbS] in
theorem fe_are_changes {p0 p1 : T} {o : O} {z : Res × List T} (e : b_are_changes [p0, p1, .un, .un] = some o) (h : EV.finO 2 [true, true] [p0, p1] o = some z) : fn_are_changes [p0, p1] = some z := EV.fnO (by rfl) e h
/-! ### is_rule -/
abbrev s_is_rule : Stmt := topS 19
abbrev N_is_rule : List Str := ["shape", "thing"]
theorem sc_is_rule : FnScope N_is_rule ["shape", "thing"] (defScope s_is_rule) := ⟨rfl, rfl, rfl, by decide +kernel, rfl, by decide +kernel, by decide +kernel⟩
def b_is_rule : SD :=
  (dRet (xLift (dBool (dAnd (dBl (dSh (dIsi .tuple (dSh (dVar 1))))) (dBl (dSh (dBool (dAnd (dBl (dSh (dOp gEq (dSh (dWith (fdCons (dSh (dVar 1)) fdNil) gLen)) (dSh (dC (.int 2)))))) (dBl (dSh (dBool (dAnd (dBl (dSh (dCall fn_is_match (daCons (dVar 0) (daCons (dOp gIx (dSh (dVar 1)) (dSh (dC (.int 0)))) daNil))))) (dBl (dSh (dCall fn_are_changes (daCons (dVar 0) (daCons (dOp gIx (dSh (dVar 1)) (dSh (dC (.int 1)))) daNil)))))))))))))))))
def fn_is_rule : FnT := fnD 2 2 [true, true] (b_is_rule)
omit [TbS] in
theorem fe_is_rule {p0 p1 : T} {o : O} {z : Res × List T} (e : b_is_rule [p0, p1] = some o) (h : EV.finO 2 [true, true] [p0, p1] o = some z) : fn_is_rule [p0, p1] = some z := EV.fnO (by rfl) e h
/-! ### is_table -/
abbrev s_is_table : Stmt := topS 20
abbrev N_is_table : List Str := ["shape", "thing", "rule"]
theorem sc_is_table : FnScope N_is_table ["shape", "thing"] (defScope s_is_table) := ⟨rfl, rfl, rfl, by decide +kernel, rfl, by decide +kernel, by decide +kernel⟩
@[reducible] def g_is_table_1 (Z : Zs) : FD :=
  (dSh (dCall fn_is_rule (daCons (dVar 0) (daCons (dVar 2) daNil))))
def b_is_table (Z : Zs) : SD :=
  (dSeq (dDrop (dCallX (fn_check_shape Z) (daCons (dVar 0) daNil)))
    (dRet (xLift (dBool (dAnd (dBl (dSh (dIsi .list (dSh (dVar 1))))) (dBl (dSh (dBool (dAnd (dBl (dSh (dOp gLe (dSh (dWith (fdCons (dSh (dVar 1)) fdNil) gLen)) (dSh (dC (.int (60))))))) (dBl (dSh (dAllG (dItemsL (dSh (dVar 1))) (gdName 2) (g_is_table_1 Z) [2]))))))))))))
def fn_is_table (Z : Zs) : FnT := fnD 2 3 [true, true] (b_is_table Z)
omit [TbS] in
theorem fe_is_table (Z : Zs) {p0 p1 : T} {o : O} {z : Res × List T} (e : b_is_table Z [p0, p1, .un] = some o) (h : EV.finO 2 [true, true] [p0, p1] o = some z) : fn_is_table Z [p0, p1] = some z := EV.fnO (by rfl) e h
/-! ### check_table -/
abbrev s_check_table : Stmt := topS 21
abbrev N_check_table : List Str := ["shape", "table"]
theorem sc_check_table : FnScope N_check_table ["shape", "table"] (defScope s_check_table) := ⟨rfl, rfl, rfl, by decide +kernel, rfl, by decide +kernel, by decide +kernel⟩
def b_check_table (Z : Zs) : SD :=
  (dIf (xNot (xBl (dCallX (fn_is_table Z) (daCons (dVar 0) (daCons (dVar 1) daNil))))) (dRaise Z.NoTable) dNext)
def fn_check_table (Z : Zs) : FnT := fnD 2 2 [true, true] (b_check_table Z)
omit [TbS] in
theorem fe_check_table (Z : Zs) {p0 p1 : T} {o : O} {z : Res × List T} (e : b_check_table Z [p0, p1] = some o) (h : EV.finO 2 [true, true] [p0, p1] o = some z) : fn_check_table Z [p0, p1] = some z := EV.fnO (by rfl) e h
/-! ### meets -/
abbrev s_meets : Stmt := topS 22
abbrev N_meets : List Str := ["letter", "match", "wanted", "value"]
theorem sc_meets : FnScope N_meets ["letter", "match"] (defScope s_meets) := ⟨rfl, rfl, rfl, by decide +kernel, rfl, by decide +kernel, by decide +kernel⟩
@[reducible] def g_meets_1 : FD :=
  (dSh (dOp (gIn false) (dSh (dVar 2)) (dSh (dWith (fdCons (dSh (dC (.int (-1)))) (fdCons (dSh (dVar 3)) fdNil)) gTupD))))
def b_meets : SD :=
  (dRet (xLift (dAllG (dZipA (fdCons (dSh (dVar 1)) (fdCons (dSh (dVar 0)) fdNil))) (gdTup 2 (gdCons (gdName 2) (gdCons (gdName 3) gdNil))) g_meets_1 [2, 3])))
def fn_meets : FnT := fnD 2 4 [true, true] (b_meets)
omit [TbS] in
theorem fe_meets {p0 p1 : T} {o : O} {z : Res × List T} (e : b_meets [p0, p1, .un, .un] = some o) (h : EV.finO 2 [true, true] [p0, p1] o = some z) : fn_meets [p0, p1] = some z := EV.fnO (by rfl) e h
/-! ### changed -/
abbrev s_changed : Stmt := topS 23
abbrev N_changed : List Str := ["letter", "change", "put", "value"]
theorem sc_changed : FnScope N_changed ["letter", "change"] (defScope s_changed) := ⟨rfl, rfl, rfl, by decide +kernel, rfl, by decide +kernel, by decide +kernel⟩
@[reducible] def g_changed_1 : FD :=
  (dSh (dIfE (dBl (dSh (dOp gEq (dSh (dVar 2)) (dSh (dC (.int (-1))))))) (dVar 3) (dVar 2)))
def b_changed : SD :=
  (dRet (xLift (dTupG (dZipA (fdCons (dSh (dVar 1)) (fdCons (dSh (dVar 0)) fdNil))) (gdTup 2 (gdCons (gdName 2) (gdCons (gdName 3) gdNil))) g_changed_1 [2, 3])))
def fn_changed : FnT := fnD 2 4 [true, true] (b_changed)
omit [TbS] in
theorem fe_changed {p0 p1 : T} {o : O} {z : Res × List T} (e : b_changed [p0, p1, .un, .un] = some o) (h : EV.finO 2 [true, true] [p0, p1] o = some z) : fn_changed [p0, p1] = some z := EV.fnO (by rfl) e h
/-! ### first_met -/
abbrev s_first_met : Stmt := topS 24
abbrev N_first_met : List Str := ["letter", "rules", "place", "rule"]
theorem sc_first_met : FnScope N_first_met ["letter", "rules"] (defScope s_first_met) := ⟨rfl, rfl, rfl, by decide +kernel, rfl, by decide +kernel, by decide +kernel⟩
@[reducible] def L_first_met_1 : SD :=
  (dIf (xbLift (dBl (dSh (dCall fn_meets (daCons (dVar 0) (daCons (dOp gIx (dSh (dVar 3)) (dSh (dC (.int 0)))) daNil)))))) (dRet (xLift (dVar 2))) dNext)
def b_first_met : SD :=
  (dSeq (dFor (dEnumA (fdCons (dSh (dVar 1)) fdNil)) (gdTup 2 (gdCons (gdName 2) (gdCons (gdName 3) gdNil))) L_first_met_1)
    (dRet (xLift (dC .non))))
def fn_first_met : FnT := fnD 2 4 [true, true] (b_first_met)
omit [TbS] in
theorem fe_first_met {p0 p1 : T} {o : O} {z : Res × List T} (e : b_first_met [p0, p1, .un, .un] = some o) (h : EV.finO 2 [true, true] [p0, p1] o = some z) : fn_first_met [p0, p1] = some z := EV.fnO (by rfl) e h
/-! ### becomes -/
abbrev s_becomes : Stmt := topS 25
abbrev N_becomes : List Str := ["letter", "rules", "place", "change"]
theorem sc_becomes : FnScope N_becomes ["letter", "rules"] (defScope s_becomes) := ⟨rfl, rfl, rfl, by decide +kernel, rfl, by decide +kernel, by decide +kernel⟩
@[reducible] def g_becomes_1 : FD :=
  (dSh (dCall fn_changed (daCons (dVar 0) (daCons (dVar 3) daNil))))
def b_becomes : SD :=
  (dSeq (dAsg (xLift (dCall fn_first_met (daCons (dVar 0) (daCons (dVar 1) daNil)))) (gdName 2))
    (dSeq (dIf (xbLift (dBl (dSh (dOp gIsN (dSh (dVar 2)) (dSh (dC .non)))))) (dRet (xLift (dWith fdNil gLstD))) dNext)
    (dRet (xLift (dSSC (dItemsL (dSh (dOp gIx (dSh (dOp gIx (dSh (dVar 1)) (dSh (dVar 2)))) (dSh (dC (.int 1)))))) (gdName 3) g_becomes_1 [3])))))
def fn_becomes : FnT := fnD 2 4 [true, true] (b_becomes)
omit [TbS] in
theorem fe_becomes {p0 p1 : T} {o : O} {z : Res × List T} (e : b_becomes [p0, p1, .un, .un] = some o) (h : EV.finO 2 [true, true] [p0, p1] o = some z) : fn_becomes [p0, p1] = some z := EV.fnO (by rfl) e h
/-! ### table_does -/
abbrev s_table_does : Stmt := topS 26
abbrev N_table_does : List Str := ["shape", "table", "letter"]
theorem sc_table_does : FnScope N_table_does ["shape", "table"] (defScope s_table_does) := ⟨rfl, rfl, rfl, by decide +kernel, rfl, by decide +kernel, by decide +kernel⟩
@[reducible] def c_table_does_1 (Z : Zs) : MD :=
  (dMv (dCall fn_becomes (daCons (dVar 2) (daCons (dVar 1) daNil))))
def b_table_does (Z : Zs) : SD :=
  (dSeq (dDrop (dCallX (fn_check_table Z) (daCons (dVar 0) (daCons (dVar 1) daNil))))
    (dRet (xLift (dComp (dItemsL (dSh (dCall (fn_letters_of Z) (daCons (dVar 0) daNil)))) (gdName 2) dYes (c_table_does_1 Z) [2]))))
def fn_table_does (Z : Zs) : FnT := fnD 2 3 [true, true] (b_table_does Z)
omit [TbS] in
theorem fe_table_does (Z : Zs) {p0 p1 : T} {o : O} {z : Res × List T} (e : b_table_does Z [p0, p1, .un] = some o) (h : EV.finO 2 [true, true] [p0, p1] o = some z) : fn_table_does Z [p0, p1] = some z := EV.fnO (by rfl) e h
/-! ### _law_mixed -/
abbrev s__law_mixed : Stmt := topS 28
abbrev N__law_mixed : List Str := ["_law_cell_here", "_law_k", "_law_number"]
theorem sc__law_mixed : FnScope N__law_mixed ["_law_cell_here", "_law_k"] (defScope s__law_mixed) := ⟨rfl, rfl, rfl, by decide +kernel, rfl, by decide +kernel, by decide +kernel⟩
def b__law_mixed : SD :=
  (dSeq (dAsg (xLift (dOp gMod (dSh (dOp gAdd (dSh (dOp gAdd (dSh (dOp gMul (dSh (dOp gMod (dSh (dVar 0)) (dSh (dC (.int 2147483647))))) (dSh (dC (.int 48271))))) (dSh (dOp gMul (dSh (dVar 1)) (dSh (dC (.int 69621))))))) (dSh (dC (.int 1048583))))) (dSh (dC (.int 2147483629))))) (gdName 2))
    (dSeq (dAsg (xLift (dOp gMod (dSh (dOp gMul (dSh (dVar 2)) (dSh (dVar 2)))) (dSh (dC (.int 2147483587))))) (gdName 2))
    (dRet (xLift (dOp gMod (dSh (dOp gMul (dSh (dVar 2)) (dSh (dOp gAdd (dSh (dVar 2)) (dSh (dC (.int 2))))))) (dSh (dC (.int 2147483579))))))))
def fn__law_mixed : FnT := fnD 2 3 [true, true] (b__law_mixed)
omit [TbS] in
theorem fe__law_mixed {p0 p1 : T} {o : O} {z : Res × List T} (e : b__law_mixed [p0, p1, .un] = some o) (h : EV.finO 2 [true, true] [p0, p1] o = some z) : fn__law_mixed [p0, p1] = some z := EV.fnO (by rfl) e h
/-! ### _law_cell -/
abbrev s__law_cell : Stmt := topS 29
abbrev N__law_cell : List Str := ["_law_script", "_law_k", "_law_cell_here", "_law_found", "_law_j"]
theorem sc__law_cell : FnScope N__law_cell ["_law_script", "_law_k"] (defScope s__law_cell) := ⟨rfl, rfl, rfl, by decide +kernel, rfl, by decide +kernel, by decide +kernel⟩
@[reducible] def L__law_cell_1 : SD :=
  (dAsg (xLift (dOp gAdd (dSh (dOp gMul (dSh (dVar 3)) (dSh (dC (.int 2147483579))))) (dSh (dCall fn__law_mixed (daCons (dVar 2) (daCons (dOp gAdd (dSh (dOp gAdd (dSh (dOp gMul (dSh (dC (.int 7))) (dSh (dVar 1)))) (dSh (dOp gMul (dSh (dC (.int 100))) (dSh (dVar 4)))))) (dSh (dOp gMul (dSh (dVar 4)) (dSh (dVar 4))))) daNil)))))) (gdName 3))
def b__law_cell : SD :=
  (dSeq (dAsg (xLift (dC (.int 0))) (gdName 2))
    (dSeq (dIf (xbLift (dBl (dSh (dOp gLt (dSh (dVar 1)) (dSh (dWith (fdCons (dSh (dVar 0)) fdNil) gLen)))))) (dAsg (xLift (dOp gIx (dSh (dVar 0)) (dSh (dVar 1)))) (gdName 2)) dNext)
    (dSeq (dIf (xbLift (dBl (dSh (dOp gGe (dSh (dVar 2)) (dSh (dOp gPow (dSh (dC (.int 10))) (dSh (dC (.int 18))))))))) (dRet (xLift (dOp gMod (dSh (dOp gSubI (dSh (dVar 2)) (dSh (dOp gPow (dSh (dC (.int 10))) (dSh (dC (.int 18))))))) (dSh (dOp gMul (dSh (dOp gMul (dSh (dOp gMul (dSh (dOp gPow (dSh (dC (.int 10))) (dSh (dC (.int 60))))) (dSh (dOp gPow (dSh (dC (.int 10))) (dSh (dC (.int 60))))))) (dSh (dOp gPow (dSh (dC (.int 10))) (dSh (dC (.int 60))))))) (dSh (dOp gPow (dSh (dC (.int 10))) (dSh (dC (.int 60)))))))))) dNext)
    (dSeq (dAsg (xLift (dC (.int 0))) (gdName 3))
    (dSeq (dFor (dRange1 (fdCons (dSh (dC (.int 24))) fdNil)) (gdName 4) L__law_cell_1)
    (dRet (xLift (dVar 3))))))))
def fn__law_cell : FnT := fnD 2 5 [true, true] (b__law_cell)
omit [TbS] in
theorem fe__law_cell {p0 p1 : T} {o : O} {z : Res × List T} (e : b__law_cell [p0, p1, .un, .un, .un] = some o) (h : EV.finO 2 [true, true] [p0, p1] o = some z) : fn__law_cell [p0, p1] = some z := EV.fnO (by rfl) e h
/-! ### _law_take -/
abbrev s__law_take : Stmt := topS 30
abbrev N__law_take : List Str := ["_law_pile", "_law_size", "_law_digit"]
theorem sc__law_take : FnScope N__law_take ["_law_pile", "_law_size"] (defScope s__law_take) := ⟨rfl, rfl, rfl, by decide +kernel, rfl, by decide +kernel, by decide +kernel⟩
def b__law_take : SD :=
  (dSeq (dAsg (xLift (dOp gMod (dSh (dIxO 0 (dSh (dC (.int 0))))) (dSh (dVar 1)))) (gdName 2))
    (dSeq (dAsg (xLift (dOp gDiv (dSh (dIxO 0 (dSh (dC (.int 0))))) (dSh (dVar 1)))) (gdIx 0 (dSh (dC (.int 0)))))
    (dRet (xLift (dVar 2)))))
def fn__law_take : FnT := fnD 2 3 [true, true] (b__law_take)
omit [TbS] in
theorem fe__law_take {p0 p1 : T} {o : O} {z : Res × List T} (e : b__law_take [p0, p1, .un] = some o) (h : EV.finO 2 [true, true] [p0, p1] o = some z) : fn__law_take [p0, p1] = some z := EV.fnO (by rfl) e h
/-! ### _law_shape -/
abbrev s__law_shape : Stmt := topS 31
abbrev N__law_shape : List Str := ["_law_pile", "_law_some"]
theorem sc__law_shape : FnScope N__law_shape ["_law_pile"] (defScope s__law_shape) := ⟨rfl, rfl, rfl, by decide +kernel, rfl, by decide +kernel, by decide +kernel⟩
def b__law_shape : SD :=
  (dSeq (dAsg (xLift (dWith (fdCons (dSh (dWith (fdCons (dSh (dC (.int 2))) (fdCons (dSh (dC (.int 2))) fdNil)) gTupD)) (fdCons (dSh (dWith (fdCons (dSh (dC (.int 3))) fdNil) gTupD)) (fdCons (dSh (dWith (fdCons (dSh (dC (.int 2))) (fdCons (dSh (dC (.int 3))) fdNil)) gTupD)) (fdCons (dSh (dWith (fdCons (dSh (dC (.int 4))) (fdCons (dSh (dC (.int 2))) fdNil)) gTupD)) (fdCons (dSh (dWith (fdCons (dSh (dC (.int 2))) (fdCons (dSh (dC (.int 2))) (fdCons (dSh (dC (.int 2))) fdNil))) gTupD)) (fdCons (dSh (dWith (fdCons (dSh (dC (.int 3))) (fdCons (dSh (dC (.int 3))) fdNil)) gTupD)) (fdCons (dSh (dWith (fdCons (dSh (dC (.int 1))) (fdCons (dSh (dC (.int 2))) fdNil)) gTupD)) (fdCons (dSh (dWith (fdCons (dSh (dC (.int 4))) (fdCons (dSh (dC (.int 4))) fdNil)) gTupD)) (fdCons (dSh (dWith (fdCons (dSh (dC (.int 3))) (fdCons (dSh (dC (.int 3))) (fdCons (dSh (dC (.int 3))) fdNil))) gTupD)) (fdCons (dSh (dWith (fdCons (dSh (dC (.int 2))) (fdCons (dSh (dC (.int 1))) (fdCons (dSh (dC (.int 3))) fdNil))) gTupD)) (fdCons (dSh (dWith (fdCons (dSh (dC (.int 1))) fdNil) gTupD)) fdNil))))))))))) gLstD)) (gdName 1))
    (dSeq (dAsg (xLift (dOp gCatL (dSh (dVar 1)) (dSh (dWith (fdCons (dSh (dWith (fdCons (dSh (dC (.int 2))) fdNil) gTupD)) (fdCons (dSh (dWith (fdCons (dSh (dC (.int 4))) (fdCons (dSh (dC (.int 3))) (fdCons (dSh (dC (.int 2))) fdNil))) gTupD)) fdNil)) gLstD)))) (gdName 1))
    (dRet (xLift (dOp gIx (dSh (dVar 1)) (dSh (dCall fn__law_take (daCons (dVar 0) (daCons (dC (.int 13)) daNil)))))))))
def fn__law_shape : FnT := fnD 1 2 [true] (b__law_shape)
omit [TbS] in
theorem fe__law_shape {p0 : T} {o : O} {z : Res × List T} (e : b__law_shape [p0, .un] = some o) (h : EV.finO 1 [true] [p0] o = some z) : fn__law_shape [p0] = some z := EV.fnO (by rfl) e h
/-! ### _law_letters -/
abbrev s__law_letters : Stmt := topS 32
abbrev N__law_letters : List Str := ["_law_shape_here", "_law_found", "_law_count", "_law_longer", "_law_letter", "_law_value"]
theorem sc__law_letters : FnScope N__law_letters ["_law_shape_here"] (defScope s__law_letters) := ⟨rfl, rfl, rfl, by decide +kernel, rfl, by decide +kernel, by decide +kernel⟩
@[reducible] def c__law_letters_3 : MD :=
  (dMv (dOp gCatT (dSh (dVar 4)) (dSh (dWith (fdCons (dSh (dVar 5)) fdNil) gTupD))))
@[reducible] def L__law_letters_2 : SD :=
  (dAsg (xLift (dOp gCatL (dSh (dVar 3)) (dSh (dComp (dRange1 (fdCons (dSh (dVar 2)) fdNil)) (gdName 5) dYes c__law_letters_3 [5])))) (gdName 3))
@[reducible] def L__law_letters_1 : SD :=
  (dSeq (dAsg (xLift (dWith fdNil gLstD)) (gdName 3))
    (dSeq (dFor (dItemsL (dSh (dVar 1))) (gdName 4) L__law_letters_2)
    (dAsg (xLift (dVar 3)) (gdName 1))))
def b__law_letters : SD :=
  (dSeq (dAsg (xLift (dWith (fdCons (dSh (dWith fdNil gTupD)) fdNil) gLstD)) (gdName 1))
    (dSeq (dFor (dItemsT (dSh (dVar 0))) (gdName 2) L__law_letters_1)
    (dRet (xLift (dVar 1)))))
def fn__law_letters : FnT := fnD 1 6 [true] (b__law_letters)
omit [TbS] in
theorem fe__law_letters {p0 : T} {o : O} {z : Res × List T} (e : b__law_letters [p0, .un, .un, .un, .un, .un] = some o) (h : EV.finO 1 [true] [p0] o = some z) : fn__law_letters [p0] = some z := EV.fnO (by rfl) e h
/-! ### _law_rule -/
abbrev s__law_rule : Stmt := topS 33
abbrev N__law_rule : List Str := ["_law_pile", "_law_shape_here", "_law_match", "_law_changes", "_law_turn", "_law_count", "_law_value"]
theorem sc__law_rule : FnScope N__law_rule ["_law_pile", "_law_shape_here"] (defScope s__law_rule) := ⟨rfl, rfl, rfl, by decide +kernel, rfl, by decide +kernel, by decide +kernel⟩
@[reducible] def c__law_rule_1 : MD :=
  (dMv (dOp gSubI (dSh (dCall fn__law_take (daCons (dVar 0) (daCons (dOp gMul (dSh (dC (.int 2))) (dSh (dVar 5))) daNil)))) (dSh (dVar 5))))
@[reducible] def c__law_rule_3 : MD :=
  (dMv (dWith (fdCons (dSh (dOp gSubI (dSh (dCall fn__law_take (daCons (dVar 0) (daCons (dOp gMul (dSh (dC (.int 2))) (dSh (dVar 5))) daNil)))) (dSh (dVar 5)))) (fdCons (dSh (dUn gNeg (dSh (dC (.int 1))))) fdNil)) gMax2))
@[reducible] def L__law_rule_2 : SD :=
  (dDrop (xLift (dAppend 3 (dMv (dWith (fdCons (dSh (dComp (dItemsT (dSh (dVar 1))) (gdName 5) dYes c__law_rule_3 [5])) fdNil) gTuple)))))
@[reducible] def c__law_rule_4 : MD :=
  (dMv (dWith (fdCons (dSh (dVar 6)) (fdCons (dSh (dUn gNeg (dSh (dC (.int 1))))) fdNil)) gMax2))
def b__law_rule : SD :=
  (dSeq (dAsg (xLift (dWith (fdCons (dSh (dComp (dItemsT (dSh (dVar 1))) (gdName 5) dYes c__law_rule_1 [5])) fdNil) gTuple)) (gdName 2))
    (dSeq (dAsg (xLift (dWith fdNil gLstD)) (gdName 3))
    (dSeq (dFor (dRange1 (fdCons (dSh (dCall fn__law_take (daCons (dVar 0) (daCons (dC (.int 4)) daNil)))) fdNil)) (gdName 4) L__law_rule_2)
    (dRet (xLift (dWith (fdCons (dSh (dWith (fdCons (dSh (dComp (dItemsT (dSh (dVar 2))) (gdName 6) dYes c__law_rule_4 [6])) fdNil) gTuple)) (fdCons (dSh (dSS (dSh (dVar 3)))) fdNil)) gTupD))))))
def fn__law_rule : FnT := fnD 2 7 [true, true] (b__law_rule)
omit [TbS] in
theorem fe__law_rule {p0 p1 : T} {o : O} {z : Res × List T} (e : b__law_rule [p0, p1, .un, .un, .un, .un, .un] = some o) (h : EV.finO 2 [true, true] [p0, p1] o = some z) : fn__law_rule [p0, p1] = some z := EV.fnO (by rfl) e h
/-! ### _law_table -/
abbrev s__law_table : Stmt := topS 34
abbrev N__law_table : List Str := ["_law_pile", "_law_shape_here", "_law_found", "_law_turn"]
theorem sc__law_table : FnScope N__law_table ["_law_pile", "_law_shape_here"] (defScope s__law_table) := ⟨rfl, rfl, rfl, by decide +kernel, rfl, by decide +kernel, by decide +kernel⟩
@[reducible] def c__law_table_1 : MD :=
  (dMv (dCall fn__law_rule (daCons (dVar 0) (daCons (dVar 1) daNil))))
def b__law_table : SD :=
  (dSeq (dAsg (xLift (dComp (dRange1 (fdCons (dSh (dCall fn__law_take (daCons (dVar 0) (daCons (dC (.int 9)) daNil)))) fdNil)) (gdName 3) dYes c__law_table_1 [3])) (gdName 2))
    (dSeq (dIf (xbLift (dBl (dSh (dOp gEq (dSh (dCall fn__law_take (daCons (dVar 0) (daCons (dC (.int 4)) daNil)))) (dSh (dC (.int 1))))))) (dAsg (xLift (dOp gCatL (dSh (dVar 2)) (dSh (dSl gSlL (dSh (dVar 2)) pNo (pAt (dSh (dCall fn__law_take (daCons (dVar 0) (daCons (dC (.int 3)) daNil))))))))) (gdName 2)) dNext)
    (dRet (xLift (dVar 2)))))
def fn__law_table : FnT := fnD 2 4 [true, true] (b__law_table)
omit [TbS] in
theorem fe__law_table {p0 p1 : T} {o : O} {z : Res × List T} (e : b__law_table [p0, p1, .un, .un] = some o) (h : EV.finO 2 [true, true] [p0, p1] o = some z) : fn__law_table [p0, p1] = some z := EV.fnO (by rfl) e h
/-! ### _law_becomes -/
abbrev s__law_becomes : Stmt := topS 35
abbrev N__law_becomes : List Str := ["_law_table_here", "_law_letter", "_law_match", "_law_changes", "_law_found", "_law_change", "_law_k"]
theorem sc__law_becomes : FnScope N__law_becomes ["_law_table_here", "_law_letter"] (defScope s__law_becomes) := ⟨rfl, rfl, rfl, by decide +kernel, rfl, by decide +kernel, by decide +kernel⟩
@[reducible] def c__law_becomes_2 : MD :=
  (dMv (dVar 6))
@[reducible] def ct__law_becomes_2 : BD :=
  (dBl (dSh (dOp (gIn true) (dSh (dOp gIx (dSh (dVar 2)) (dSh (dVar 6)))) (dSh (dWith (fdCons (dSh (dUn gNeg (dSh (dC (.int 1))))) (fdCons (dSh (dOp gIx (dSh (dVar 1)) (dSh (dVar 6)))) fdNil)) gTupD)))))
@[reducible] def c__law_becomes_4 : MD :=
  (dMv (dOp gIx (dSh (dWith (fdCons (dSh (dOp gIx (dSh (dVar 5)) (dSh (dVar 6)))) (fdCons (dSh (dOp gIx (dSh (dVar 1)) (dSh (dVar 6)))) fdNil)) gLstD)) (dSh (dWith (fdCons (dSh (dOp gEq (dSh (dOp gIx (dSh (dVar 5)) (dSh (dVar 6)))) (dSh (dUn gNeg (dSh (dC (.int 1))))))) fdNil) gInt))))
@[reducible] def L__law_becomes_3 : SD :=
  (dDrop (xLift (dAppend 4 (dMv (dWith (fdCons (dSh (dComp (dRange1 (fdCons (dSh (dWith (fdCons (dSh (dVar 1)) fdNil) gLen)) fdNil)) (gdName 6) dYes c__law_becomes_4 [6])) fdNil) gTuple)))))
@[reducible] def L__law_becomes_1 : SD :=
  (dIf (xbLift (dBl (dSh (dOp gEq (dSh (dWith (fdCons (dSh (dComp (dRange1 (fdCons (dSh (dWith (fdCons (dSh (dVar 1)) fdNil) gLen)) fdNil)) (gdName 6) ct__law_becomes_2 c__law_becomes_2 [6])) fdNil) gLen)) (dSh (dC (.int 0))))))) (dSeq (dAsg (xLift (dWith fdNil gLstD)) (gdName 4))
    (dSeq (dFor (dItemsL (dSh (dVar 3))) (gdName 5) L__law_becomes_3)
    (dRet (xLift (dSS (dSh (dVar 4))))))) dNext)
def b__law_becomes : SD :=
  (dSeq (dFor (dItemsL (dSh (dVar 0))) (gdTup 2 (gdCons (gdName 2) (gdCons (gdName 3) gdNil))) L__law_becomes_1)
    (dRet (xLift (dWith fdNil gLstD))))
def fn__law_becomes : FnT := fnD 2 7 [true, true] (b__law_becomes)
omit [TbS] in
theorem fe__law_becomes {p0 p1 : T} {o : O} {z : Res × List T} (e : b__law_becomes [p0, p1, .un, .un, .un, .un, .un] = some o) (h : EV.finO 2 [true, true] [p0, p1] o = some z) : fn__law_becomes [p0, p1] = some z := EV.fnO (by rfl) e h
/-! ### _law_long -/
abbrev s__law_long : Stmt := topS 36
abbrev N__law_long : List Str := ["_law_pile", "_law_shape_here", "_law_table_here", "_law_few", "_law_many", "_law_at", "_law_rules", "_law_turn", "_law_k", "_law_count"]
theorem sc__law_long : FnScope N__law_long ["_law_pile", "_law_shape_here", "_law_table_here"] (defScope s__law_long) := ⟨rfl, rfl, rfl, by decide +kernel, rfl, by decide +kernel, by decide +kernel⟩
@[reducible] def c__law_long_2 : MD :=
  (dMv (dCall fn__law_take (daCons (dVar 0) (daCons (dVar 9) daNil))))
@[reducible] def c__law_long_1 : MD :=
  (dMv (dWith (fdCons (dSh (dComp (dItemsT (dSh (dVar 1))) (gdName 9) dYes c__law_long_2 [9])) fdNil) gTuple))
@[reducible] def c__law_long_3 : MD :=
  (dMv (dWith (fdCons (dSh (dOp gIx (dSh (dVar 3)) (dSh (dOp gMod (dSh (dVar 8)) (dSh (dC (.int 4))))))) (fdCons (dSh (dWith fdNil gLstD)) fdNil)) gTupD))
def b__law_long : SD :=
  (dSeq (dIf (xbLift (dBl (dSh (dOp gGt (dSh (dCall fn__law_take (daCons (dVar 0) (daCons (dC (.int 4)) daNil)))) (dSh (dC (.int 0))))))) (dRet (xLift (dVar 2))) dNext)
    (dSeq (dAsg (xLift (dComp (dRange1 (fdCons (dSh (dC (.int 4))) fdNil)) (gdName 7) dYes c__law_long_1 [7])) (gdName 3))
    (dSeq (dAsg (xLift (dOp gAdd (dSh (dC (.int 24))) (dSh (dCall fn__law_take (daCons (dVar 0) (daCons (dC (.int 27)) daNil)))))) (gdName 4))
    (dSeq (dAsg (xLift (dCall fn__law_take (daCons (dVar 0) (daCons (dOp gAdd (dSh (dVar 4)) (dSh (dC (.int 1)))) daNil)))) (gdName 5))
    (dSeq (dAsg (xLift (dComp (dRange1 (fdCons (dSh (dVar 4)) fdNil)) (gdName 8) dYes c__law_long_3 [8])) (gdName 6))
    (dRet (xLift (dOp gCatL (dSh (dOp gCatL (dSh (dSl gSlL (dSh (dVar 6)) pNo (pAt (dSh (dVar 5))))) (dSh (dVar 2)))) (dSh (dSl gSlL (dSh (dVar 6)) (pAt (dSh (dVar 5))) pNo))))))))))
def fn__law_long : FnT := fnD 3 10 [true, true, true] (b__law_long)
omit [TbS] in
theorem fe__law_long {p0 p1 p2 : T} {o : O} {z : Res × List T} (e : b__law_long [p0, p1, p2, .un, .un, .un, .un, .un, .un, .un] = some o) (h : EV.finO 3 [true, true, true] [p0, p1, p2] o = some z) : fn__law_long [p0, p1, p2] = some z := EV.fnO (by rfl) e h
/-! ### law -/
abbrev s_law : Stmt := topS 37
abbrev N_law : List Str := ["_law_script", "_law_some", "_law_k", "_law_pile", "_law_shape_here", "_law_table_here", "_law_text", "_law_due", "_law_found", "_law_at", "_law_letter"]
theorem sc_law : FnScope N_law ["_law_script"] (defScope s_law) := ⟨rfl, rfl, rfl, by decide +kernel, rfl, by decide +kernel, by decide +kernel⟩
@[reducible] def L_law_1 (Z : Zs) : SD :=
  (dSeq (dAsg (xLift (dWith (fdCons (dSh (dCall fn__law_cell (daCons (dVar 0) (daCons (dVar 2) daNil)))) fdNil) gLstD)) (gdName 3))
    (dSeq (dAsg (xLift (dCall fn__law_shape (daCons (dVar 3) daNil))) (gdName 4))
    (dDrop (xLift (dAppend 1 (dMv (dWith (fdCons (dSh (dVar 4)) (fdCons (dSh (dCall fn__law_long (daCons (dVar 3) (daCons (dVar 4) (daCons (dCall fn__law_table (daCons (dVar 3) (daCons (dVar 4) daNil))) daNil))))) fdNil)) gTupD)))))))
@[reducible] def c_law_3 (Z : Zs) : MD :=
  (dMv (dCall fn__law_becomes (daCons (dVar 5) (daCons (dVar 10) daNil))))
@[reducible] def L_law_4 (Z : Zs) : SD :=
  (dSeq (dDrop (xLift (dAppend2 8 (dSh (dVar 9)) (.int 0))))
    (dIf (xbLift (dScalT (dBl (dSh (dOp gNe (dSh (dWith (fdCons (dSh (dSl gSlL (dSh (dVar 8)) (pAt (dSh (dOp gAdd (dSh (dVar 9)) (dSh (dC (.int 1)))))) pNo)) fdNil) gRep)) (dSh (dWith (fdCons (dSh (dSl gSlL (dSh (dVar 7)) (pAt (dSh (dOp gAdd (dSh (dVar 9)) (dSh (dC (.int 1)))))) pNo)) fdNil) gRep))))))) (dRet (xLift (dC (.bl false)))) dNext))
@[reducible] def L_law_2 (Z : Zs) : SD :=
  (dSeq (dAsg (xLift (dWith (fdCons (dSh (dVar 5)) fdNil) gRep)) (gdName 6))
    (dSeq (dAsg (xLift (dComp (dItemsL (dSh (dCall fn__law_letters (daCons (dVar 4) daNil)))) (gdName 10) dYes (c_law_3 Z) [10])) (gdName 7))
    (dSeq (dAsg (dCallX (fn_table_does Z) (daCons (dVar 4) (daCons (dVar 5) daNil))) (gdName 8))
    (dSeq (dIf (xbLift (dScalT (dOr (dNot (dBl (dSh (dLift (dScal (dSh (dIsi .list (dSh (dVar 8))))))))) (dOr (dBl (dSh (dOp gNe (dSh (dLift (dScal (dSh (dWith (fdCons (dSh (dVar 8)) fdNil) gRep))))) (dSh (dWith (fdCons (dSh (dVar 7)) fdNil) gRep))))) (dBl (dSh (dOp gNe (dSh (dWith (fdCons (dSh (dVar 5)) fdNil) gRep)) (dSh (dVar 6))))))))) (dRet (xLift (dC (.bl false)))) dNext)
    (dSeq (dFor (dRange1 (fdCons (dSh (dLift (dScal (dSh (dWith (fdCons (dSh (dVar 8)) fdNil) gLen))))) fdNil)) (gdName 9) (L_law_4 Z))
    (dDrop (xLift (dAppend 8 (dMv (dWith fdNil gLstD))))))))))
def b_law (Z : Zs) : SD :=
  (dSeq (dAsg (xLift (dWith (fdCons (dSh (dWith (fdCons (dSh (dWith (fdCons (dSh (dC (.int 2))) (fdCons (dSh (dC (.int 2))) fdNil)) gTupD)) (fdCons (dSh (dWith fdNil gLstD)) fdNil)) gTupD)) (fdCons (dSh (dWith (fdCons (dSh (dWith (fdCons (dSh (dC (.int 3))) fdNil) gTupD)) (fdCons (dSh (dWith (fdCons (dSh (dWith (fdCons (dSh (dWith (fdCons (dSh (dUn gNeg (dSh (dC (.int 1))))) fdNil) gTupD)) (fdCons (dSh (dWith (fdCons (dSh (dWith (fdCons (dSh (dUn gNeg (dSh (dC (.int 1))))) fdNil) gTupD)) fdNil) gLstD)) fdNil)) gTupD)) fdNil) gLstD)) fdNil)) gTupD)) fdNil)) gLstD)) (gdName 1))
    (dSeq (dFor (dRange1 (fdCons (dSh (dC (.int 4))) fdNil)) (gdName 2) (L_law_1 Z))
    (dSeq (dFor (dItemsL (dSh (dOp gCatL (dSh (dVar 1)) (dSh (dSl gSlL (dSh (dVar 1)) (pAt (dSh (dC (.int 2)))) (pAt (dSh (dC (.int 3))))))))) (gdTup 2 (gdCons (gdName 4) (gdCons (gdName 5) gdNil))) (L_law_2 Z))
    (dRet (xLift (dC (.bl true)))))))
def fn_law (Z : Zs) : FnT := fnD 1 11 [true] (b_law Z)
omit [TbS] in
theorem fe_law (Z : Zs) {p0 : T} {o : O} {z : Res × List T} (e : b_law Z [p0, .un, .un, .un, .un, .un, .un, .un, .un, .un, .un] = some o) (h : EV.finO 1 [true] [p0] o = some z) : fn_law Z [p0] = some z := EV.fnO (by rfl) e h

end K7

set_option Elab.async false
set_option linter.all false
set_option maxRecDepth 100000
set_option maxHeartbeats 4000000
namespace K7
open PySem PySem.Spec PyProof.Rows L2 Q
variable [TbS]
theorem ok_is_number {P : Program} {w : World} {K : PySem.W.Frag} {mg : Str → Option Value} {base : Heap} {Z : Zs} {f : Addr} {fd : FuncData} (T : Txt K mg Z w) (F : Fun K "is_number" "is_number" s_is_number f fd) : FnG P w K mg base 1 f fd ["thing"] (spD K 1 fn_is_number) := by
  have h := fn_ok (P := P) (w := w) (mg := mg) (base := base) (k := 0) (g := b_is_number) (fx := [true]) F sc_is_number rfl (fun cdv A outer s H E gu hr => by
    have tk := takes_of (X := cxOf (L2.CX P w) P w K mg base N_is_number "is_number" (defScope s_is_number) f cdv A outer s H E) rfl rfl rfl rfl
    exact ⟨_, (pss_one (ps_ret (pe_and (pe_callB call_isi (by rfl) T.b_isinstance (by decide +kernel) (pa_cons (pv 0) (pa_cons (pe_bltn (v := .ty "int") (by rfl) T.b_int (by decide +kernel) rfl) pa_nil))) (pe_one (pe_not (pe_callB call_isi (by rfl) T.b_isinstance (by decide +kernel) (pa_cons (pv 0) (pa_cons (pe_bltn (v := .ty "bool") (by rfl) T.b_bool (by decide +kernel) rfl) pa_nil)))))))), (ds_ret (dx_of (de_andV (df_of (de_isi (c := .int) (df_of de_var))) (df_of (de_notV (df_of (de_isi (c := .bool) (df_of de_var))))))))⟩)
  exact h

end K7

set_option Elab.async false
set_option linter.all false
set_option maxRecDepth 100000
set_option maxHeartbeats 4000000
namespace K7
open PySem PySem.Spec PyProof.Rows L2 Q
variable [TbS]
theorem ok_is_shape {P : Program} {w : World} {K : PySem.W.Frag} {mg : Str → Option Value} {base : Heap} {Z : Zs} {f : Addr} {fd : FuncData} (T : Txt K mg Z w) (F : Fun K "is_shape" "is_shape" s_is_shape f fd) (E_is_number : FnE P w K mg base 1 "is_number" ["thing"] fn_is_number) : FnG P w K mg base 2 f fd ["thing"] (spD K 1 fn_is_shape) := by
  have h := fn_ok (P := P) (w := w) (mg := mg) (base := base) (k := 1) (g := b_is_shape) (fx := [true]) F sc_is_shape rfl (fun cdv A outer s H E gu hr => by
    have tk := takes_of (X := cxOf (L2.CX P w) P w K mg base N_is_shape "is_shape" (defScope s_is_shape) f cdv A outer s H E) rfl rfl rfl rfl
    exact ⟨_, (pss_cons (ps_if (PW.pt (pw_or (pt_not (pt_val (pe_callB call_isi (by rfl) T.b_isinstance (by decide +kernel) (pa_cons (pv 0) (pa_cons (pe_bltn (v := .ty "tuple") (by rfl) T.b_tuple (by decide +kernel) rfl) pa_nil))))) (pw_or1 (pt_not (pt_chain op_le op_le pe_int (pe_callB call_len (by rfl) T.b_len (by decide +kernel) (pa_cons (pv 0) pa_nil)) (pe_glob (v := .int (3)) (by rfl) T.k_MOST_FIELDS ⟨_, rfl⟩)))))) (pss_one (ps_ret pe_bl)) pss_nil)
    (pss_cons (ps_set (i := 1) sc_is_shape.nd rfl (Or.inl rfl) pe_int)
    (pss_cons (ps_for (passes_of rfl) rfl (pi_tup (pv 0)) (pg_name (i := 2) sc_is_shape.nd rfl (Or.inl rfl)) (pss_cons (ps_if (PW.pt (pw_or (pt_not (pt_val (pe_fnE E_is_number (Room.mono hr (by omega)) gu (by rfl) (fun σ => passNo σ) (pa_cons (pv 2) pa_nil)))) (pw_or1 (pt_not (pt_chain op_le op_le pe_int (pv 2) (pe_glob (v := .int (4)) (by rfl) T.k_MOST_VALUES ⟨_, rfl⟩)))))) (pss_one (ps_ret pe_bl)) pss_nil)
    (pss_one (ps_aug (i := 1) sc_is_shape.nd rfl (Or.inl rfl) (pv 2) iop_mul))))
    (pss_one (ps_ret (pe_cmpR op_le (pv 1) (pe_glob (v := .int (27)) (by rfl) T.k_MOST_LETTERS ⟨_, rfl⟩) (nomark _))))))), (ds_seq (ds_if (dtx_of (dt_or (dt_not (dt_bl (df_of (de_isi (c := .tuple) (df_of de_var))))) (dt_not (dt_test (df_of (de_chain (df_of (de_c fun _ => .int 1)) (df_of (de_with (fd_cons (df_of de_var) fd_nil) dc_len)) (df_of (de_c fun _ => .int (3))) dc_le dc_le)))))) (ds_ret (dx_of (de_c fun _ => .bl false))) ds_next)
    (ds_seq (ds_asg (dx_of (de_c fun _ => .int 1)) (dg_name (by rfl)))
    (ds_seq (ds_for (di_tup (df_of de_var)) (dg_name (by rfl)) (ds_seq (ds_if (dtx_of (dt_or (dt_not (dt_bl (df_of (de_fn E_is_number.len (da_cons de_var da_nil))))) (dt_not (dt_test (df_of (de_chain (df_of (de_c fun _ => .int 1)) (df_of de_var) (df_of (de_c fun _ => .int (4))) dc_le dc_le)))))) (ds_ret (dx_of (de_c fun _ => .bl false))) ds_next)
    (ds_aug (by rfl) (df_of de_var) dc_mul1)))
    (ds_ret (dx_of (de_op (df_of de_var) (df_of (de_c fun _ => .int (27))) dc_le))))))⟩)
  exact h

end K7

set_option Elab.async false
set_option linter.all false
set_option maxRecDepth 100000
set_option maxHeartbeats 4000000
namespace K7
open PySem PySem.Spec PyProof.Rows L2 Q
variable [TbS]
theorem ok_check_shape {P : Program} {w : World} {K : PySem.W.Frag} {mg : Str → Option Value} {base : Heap} {Z : Zs} {f : Addr} {fd : FuncData} (T : Txt K mg Z w) (F : Fun K "check_shape" "check_shape" s_check_shape f fd) (E_is_shape : FnE P w K mg base 2 "is_shape" ["thing"] fn_is_shape) : FnG P w K mg base 3 f fd ["shape"] (spD K 1 (fn_check_shape Z)) := by
  have h := fn_ok (P := P) (w := w) (mg := mg) (base := base) (k := 2) (g := b_check_shape Z) (fx := [true]) F sc_check_shape rfl (fun cdv A outer s H E gu hr => by
    have tk := takes_of (X := cxOf (L2.CX P w) P w K mg base N_check_shape "check_shape" (defScope s_check_shape) f cdv A outer s H E) rfl rfl rfl rfl
    exact ⟨_, (pss_one (ps_if (pt_not (pt_val (pe_fnE E_is_shape (Room.mono hr (by omega)) gu (by rfl) (fun σ => passNo σ) (pa_cons (pv 0) pa_nil)))) (pss_one (ps_raise rfl tk (pmk_own PySem.F.excBase_ValueError T.x_NoShape T.c_NoShape T.p_NoShape (raises_own T.u_NoShape T.t_NoShape) (by rfl)))) pss_nil)), (ds_if (dtx_of (dt_not (dt_bl (df_of (de_fn E_is_shape.len (da_cons de_var da_nil)))))) ds_raise ds_next)⟩)
  exact h

end K7

set_option Elab.async false
set_option linter.all false
set_option maxRecDepth 100000
set_option maxHeartbeats 4000000
namespace K7
open PySem PySem.Spec PyProof.Rows L2 Q
variable [TbS]
theorem ok_letters_of {P : Program} {w : World} {K : PySem.W.Frag} {mg : Str → Option Value} {base : Heap} {Z : Zs} {f : Addr} {fd : FuncData} (T : Txt K mg Z w) (F : Fun K "letters_of" "letters_of" s_letters_of f fd) (E_check_shape : FnE P w K mg base 3 "check_shape" ["shape"] (fn_check_shape Z)) : FnG P w K mg base 4 f fd ["shape"] (spD K 1 (fn_letters_of Z)) := by
  have h := fn_ok (P := P) (w := w) (mg := mg) (base := base) (k := 3) (g := b_letters_of Z) (fx := [true]) F sc_letters_of rfl (fun cdv A outer s H E gu hr => by
    have tk := takes_of (X := cxOf (L2.CX P w) P w K mg base N_letters_of "letters_of" (defScope s_letters_of) f cdv A outer s H E) rfl rfl rfl rfl
    exact ⟨_, (pss_cons (ps_expr (pe_fnE (E := WE _) E_check_shape (Room.mono hr (by omega)) gu (by rfl) (fun σ => passAt tk σ) (pa_cons (pv 0) pa_nil)))
    (pss_cons (ps_set (i := 1) sc_letters_of.nd rfl (Or.inl rfl) (pe_lst (pa_cons (pe_tup pa_nil) pa_nil)))
    (pss_cons (ps_for (passes_of rfl) rfl (pi_tup (pv 0)) (pg_name (i := 2) sc_letters_of.nd rfl (Or.inr rfl)) (pss_one (ps_setLc2 (i := 1) (own := [("letter", 3), ("value", 4)]) (vs1 := [4]) rfl sc_letters_of.nd rfl rfl (sw_true rfl rfl rfl (by decide +kernel)) (pi_list (pv 1)) (blkOk_by (N := N_letters_of) (sc := defScope s_letters_of) (by decide +kernel)) (by decide) (fun _ _ _ _ _ => (pg_name (i := 3) sc_letters_of.nd rfl (Or.inl rfl))) (fun _ _ _ _ _ => pts_nil) (fun _ _ _ _ _ => (pi_range1 (by rfl) T.b_range (pa_cons (pv 2) pa_nil))) (fun _ _ _ _ _ => (pg_name (i := 4) sc_letters_of.nd rfl (Or.inl rfl))) (fun _ _ _ _ _ => pts_nil) (fun _ _ _ _ _ => (pe_op op_catA (pv 3) (pe_tup (pa_cons (pv 4) pa_nil)))))))
    (pss_one (ps_ret (pv 1)))))), (ds_seq (ds_drop (dx_ucall E_check_shape.len (da_cons de_var da_nil)))
    (ds_seq (ds_asg (dx_of (de_lst (fd_cons (df_of (de_tup fd_nil)) fd_nil))) (dg_name (by rfl)))
    (ds_seq (ds_for (di_tup (df_of de_var)) (dg_name (by rfl)) (ds_asg (dx_of (de_comp2 (by decide) (di_list (df_of de_var)) (dg_name (by rfl)) dt_yes (di_range1 (fd_cons (df_of de_var) fd_nil)) (dg_name (by rfl)) dt_yes (dm_of (de_op (df_of de_var) (df_of (de_tup (fd_cons (df_of de_var) fd_nil))) dc_catT)))) (dg_name (by rfl))))
    (ds_ret (dx_of de_var)))))⟩)
  exact h

end K7

set_option Elab.async false
set_option linter.all false
set_option maxRecDepth 100000
set_option maxHeartbeats 4000000
namespace K7
open PySem PySem.Spec PyProof.Rows L2 Q
variable [TbS]
theorem ok_is_value_or_any {P : Program} {w : World} {K : PySem.W.Frag} {mg : Str → Option Value} {base : Heap} {Z : Zs} {f : Addr} {fd : FuncData} (T : Txt K mg Z w) (F : Fun K "is_value_or_any" "is_value_or_any" s_is_value_or_any f fd) (E_is_number : FnE P w K mg base 1 "is_number" ["thing"] fn_is_number) : FnG P w K mg base 2 f fd ["thing", "many"] (spD K 2 fn_is_value_or_any) := by
  have h := fn_ok (P := P) (w := w) (mg := mg) (base := base) (k := 1) (g := b_is_value_or_any) (fx := [true, true]) F sc_is_value_or_any rfl (fun cdv A outer s H E gu hr => by
    have tk := takes_of (X := cxOf (L2.CX P w) P w K mg base N_is_value_or_any "is_value_or_any" (defScope s_is_value_or_any) f cdv A outer s H E) rfl rfl rfl rfl
    exact ⟨_, (pss_one (ps_ret (pe_and (pe_fnE E_is_number (Room.mono hr (by omega)) gu (by rfl) (fun σ => passNo σ) (pa_cons (pv 0) pa_nil)) (pe_one (pe_chain op_le op_lt (pe_glob (v := .int (-1)) (by rfl) T.k_ANY ⟨_, rfl⟩) (pv 0) (pv 1)))))), (ds_ret (dx_of (de_andV (df_of (de_fn E_is_number.len (da_cons de_var da_nil))) (df_of (de_chain (df_of (de_c fun _ => .int (-1))) (df_of de_var) (df_of de_var) dc_le dc_lt)))))⟩)
  exact h

end K7

set_option Elab.async false
set_option linter.all false
set_option maxRecDepth 100000
set_option maxHeartbeats 4000000
namespace K7
open PySem PySem.Spec PyProof.Rows L2 Q
variable [TbS]
theorem ok_is_match {P : Program} {w : World} {K : PySem.W.Frag} {mg : Str → Option Value} {base : Heap} {Z : Zs} {f : Addr} {fd : FuncData} (T : Txt K mg Z w) (F : Fun K "is_match" "is_match" s_is_match f fd) (Bc : fd.code = .ref Z.c_is_match) (B : GxR.TabB base mg Z.c_is_match Z.t_is_match) (Bt : TbS.tb Z.t_is_match) (E_is_value_or_any : FnE P w K mg base 2 "is_value_or_any" ["thing", "many"] fn_is_value_or_any) : FnG P w K mg base 4 f fd ["shape", "thing"] (spD K 2 fn_is_match) := by
  have h := fn_okC (P := P) (w := w) (mg := mg) (base := base) (k := 3) (g := b_is_match) (fx := [true, true]) F sc_is_match rfl (fun cdv A outer s H E hcd gu hr => by
    have tk := takes_of (X := cxOf (L2.CX P w) P w K mg base N_is_match "is_match" (defScope s_is_match) f cdv A outer s H E) rfl rfl rfl rfl
    exact ⟨_, (pss_cons (ps_if (PW.pt (pw_or (pt_not (pt_val (pe_callB call_isi (by rfl) T.b_isinstance (by decide +kernel) (pa_cons (pv 1) (pa_cons (pe_bltn (v := .ty "tuple") (by rfl) T.b_tuple (by decide +kernel) rfl) pa_nil))))) (pw_or1 (pt_cmpR (op_neD (Room.units hr)) (pe_callB call_len (by rfl) T.b_len (by decide +kernel) (pa_cons (pv 1) pa_nil)) (pe_callB call_len (by rfl) T.b_len (by decide +kernel) (pa_cons (pv 0) pa_nil)) (nomark _))))) (pss_one (ps_ret pe_bl)) pss_nil)
    (pss_one (ps_ret (pe_allG (own := [("value", 2), ("many", 3)]) (c := Z.c_is_match) (P := Z.t_is_match) rfl sc_is_match.nd hr (by rfl) T.b_all B (hcd.symm.trans Bc) (gxOk_by (N := N_is_match) (sc := defScope s_is_match) (by decide +kernel)) (RZ.pi_zipA (by rfl) T.b_zip (pa_cons (pv 1) (pa_cons (pv 0) pa_nil))) (fun _ _ _ _ _ _ => (pg_tup rfl (pgs_cons (pg_name (i := 2) sc_is_match.nd rfl (Or.inl rfl)) (pgs_cons (pg_name (i := 3) sc_is_match.nd rfl (Or.inl rfl)) pgs_nil)))) (fun _ _ _ _ _ _ => (pe_fnE E_is_value_or_any (Room.mono (room_gx hr) (by omega)) gu (by rfl) (fun σ => passNo σ) (pa_cons (pv 2) (pa_cons (pv 3) pa_nil)))))))), (ds_seq (ds_if (dtx_of (dt_or (dt_not (dt_bl (df_of (de_isi (c := .tuple) (df_of de_var))))) (dt_test (df_of (de_op (df_of (de_with (fd_cons (df_of de_var) fd_nil) dc_len)) (df_of (de_with (fd_cons (df_of de_var) fd_nil) dc_len)) dc_ne))))) (ds_ret (dx_of (de_c fun _ => .bl false))) ds_next)
    (ds_ret (dx_of (de_allG Bt (di_zipA (fd_cons (df_of de_var) (fd_cons (df_of de_var) fd_nil))) (dg_tup (dgs_cons (dg_name (by rfl)) (dgs_cons (dg_name (by rfl)) dgs_nil))) (df_of (de_fn E_is_value_or_any.len (da_cons de_var (da_cons de_var da_nil))))))))⟩)
  exact h

end K7

set_option Elab.async false
set_option linter.all false
set_option maxRecDepth 100000
set_option maxHeartbeats 4000000
namespace K7
open PySem PySem.Spec PyProof.Rows L2 Q
variable [TbS]
theorem ok_are_changes {P : Program} {w : World} {K : PySem.W.Frag} {mg : Str → Option Value} {base : Heap} {Z : Zs} {f : Addr} {fd : FuncData} (T : Txt K mg Z w) (F : Fun K "are_changes" "are_changes" s_are_changes f fd) (Bc : fd.code = .ref Z.c_are_changes) (B : GxR.TabB base mg Z.c_are_changes Z.t_are_changes) (Bt : TbS.tb Z.t_are_changes) (E_is_match : FnE P w K mg base 4 "is_match" ["shape", "thing"] fn_is_match) : FnG P w K mg base 6 f fd ["shape", "thing"] (spD K 2 fn_are_changes) := by
  have h := fn_okC (P := P) (w := w) (mg := mg) (base := base) (k := 5) (g := b_are_changes) (fx := [true, true]) F sc_are_changes rfl (fun cdv A outer s H E hcd gu hr => by
    have tk := takes_of (X := cxOf (L2.CX P w) P w K mg base N_are_changes "are_changes" (defScope s_are_changes) f cdv A outer s H E) rfl rfl rfl rfl
    exact ⟨_, (pss_cons (ps_if (PW.pt (pw_or (pt_not (pt_val (pe_callB call_isi (by rfl) T.b_isinstance (by decide +kernel) (pa_cons (pv 1) (pa_cons (pe_bltn (v := .ty "list") (by rfl) T.b_list (by decide +kernel) rfl) pa_nil))))) (pw_or1 (pt_not (pt_val (pe_allG (own := [("change", 2)]) (c := Z.c_are_changes) (P := Z.t_are_changes) rfl sc_are_changes.nd hr (by rfl) T.b_all B (hcd.symm.trans Bc) (gxOk_by (N := N_are_changes) (sc := defScope s_are_changes) (by decide +kernel)) (pi_list (pv 1)) (fun _ _ _ _ _ _ => (pg_name (i := 2) sc_are_changes.nd rfl (Or.inl rfl))) (fun _ _ _ _ _ _ => (pe_fnE E_is_match (Room.mono (room_gx hr) (by omega)) gu (by rfl) (fun σ => passNo σ) (pa_cons (pv 0) (pa_cons (pv 2) pa_nil)))))))))) (pss_one (ps_ret pe_bl)) pss_nil)
    (pss_one (ps_ret (pe_allG (own := [("change", 2), ("after", 3)]) (c := Z.c_are_changes) (P := Z.t_are_changes) rfl sc_are_changes.nd hr (by rfl) T.b_all B (hcd.symm.trans Bc) (gxOk_by (N := N_are_changes) (sc := defScope s_are_changes) (by decide +kernel)) (RZ.pi_zipA (by rfl) T.b_zip (pa_cons (pv 1) (pa_cons (pe_slice sl_list (pv 1) (po_some pe_int) po_none) pa_nil))) (fun _ _ _ _ _ _ => (pg_tup rfl (pgs_cons (pg_name (i := 2) sc_are_changes.nd rfl (Or.inl rfl)) (pgs_cons (pg_name (i := 3) sc_are_changes.nd rfl (Or.inl rfl)) pgs_nil)))) (fun _ _ _ _ _ _ => (pe_cmpR (op_ltT (room_ul (room_gx hr))) (pv 2) (pv 3) (nomark _))))))), (ds_seq (ds_if (dtx_of (dt_or (dt_not (dt_bl (df_of (de_isi (c := .list) (df_of de_var))))) (dt_not (dt_bl (df_of (de_allG Bt (di_list (df_of de_var)) (dg_name (by rfl)) (df_of (de_fn E_is_match.len (da_cons de_var (da_cons de_var da_nil)))))))))) (ds_ret (dx_of (de_c fun _ => .bl false))) ds_next)
    (ds_ret (dx_of (de_allG Bt (di_zipA (fd_cons (df_of de_var) (fd_cons (df_of (de_sl dsl_lst (df_of de_var) (dp_at (df_of (de_c fun _ => .int 1))) dp_no)) fd_nil))) (dg_tup (dgs_cons (dg_name (by rfl)) (dgs_cons (dg_name (by rfl)) dgs_nil))) (df_of (de_op (df_of de_var) (df_of de_var) dc_ltT))))))⟩)
  exact h

end K7

set_option Elab.async false
set_option linter.all false
set_option maxRecDepth 100000
set_option maxHeartbeats 4000000
namespace K7
open PySem PySem.Spec PyProof.Rows L2 Q
variable [TbS]
theorem ok_is_rule {P : Program} {w : World} {K : PySem.W.Frag} {mg : Str → Option Value} {base : Heap} {Z : Zs} {f : Addr} {fd : FuncData} (T : Txt K mg Z w) (F : Fun K "is_rule" "is_rule" s_is_rule f fd) (E_is_match : FnE P w K mg base 4 "is_match" ["shape", "thing"] fn_is_match) (E_are_changes : FnE P w K mg base 6 "are_changes" ["shape", "thing"] fn_are_changes) : FnG P w K mg base 7 f fd ["shape", "thing"] (spD K 2 fn_is_rule) := by
  have h := fn_ok (P := P) (w := w) (mg := mg) (base := base) (k := 6) (g := b_is_rule) (fx := [true, true]) F sc_is_rule rfl (fun cdv A outer s H E gu hr => by
    have tk := takes_of (X := cxOf (L2.CX P w) P w K mg base N_is_rule "is_rule" (defScope s_is_rule) f cdv A outer s H E) rfl rfl rfl rfl
    exact ⟨_, (pss_one (ps_ret (pe_and (pe_callB call_isi (by rfl) T.b_isinstance (by decide +kernel) (pa_cons (pv 1) (pa_cons (pe_bltn (v := .ty "tuple") (by rfl) T.b_tuple (by decide +kernel) rfl) pa_nil))) (pe_and (pe_cmpR (op_eqD (Room.units hr)) (pe_callB call_len (by rfl) T.b_len (by decide +kernel) (pa_cons (pv 1) pa_nil)) pe_int (nomark _)) (pe_and (pe_fnE E_is_match (Room.mono hr (by omega)) gu (by rfl) (fun σ => passNo σ) (pa_cons (pv 0) (pa_cons (pe_ix ix_seq (pv 1) pe_int (fun _ _ => rfl)) pa_nil))) (pe_one (pe_fnE E_are_changes (Room.mono hr (by omega)) gu (by rfl) (fun σ => passNo σ) (pa_cons (pv 0) (pa_cons (pe_ix ix_seq (pv 1) pe_int (fun _ _ => rfl)) pa_nil))))))))), (ds_ret (dx_of (de_andV (df_of (de_isi (c := .tuple) (df_of de_var))) (df_of (de_andV (df_of (de_op (df_of (de_with (fd_cons (df_of de_var) fd_nil) dc_len)) (df_of (de_c fun _ => .int 2)) dc_eq)) (df_of (de_andV (df_of (de_fn E_is_match.len (da_cons de_var (da_cons (de_op (df_of de_var) (df_of (de_c fun _ => .int 0)) dc_ix) da_nil)))) (df_of (de_fn E_are_changes.len (da_cons de_var (da_cons (de_op (df_of de_var) (df_of (de_c fun _ => .int 1)) dc_ix) da_nil)))))))))))⟩)
  exact h

end K7

set_option Elab.async false
set_option linter.all false
set_option maxRecDepth 100000
set_option maxHeartbeats 4000000
namespace K7
open PySem PySem.Spec PyProof.Rows L2 Q
variable [TbS]
theorem ok_is_table {P : Program} {w : World} {K : PySem.W.Frag} {mg : Str → Option Value} {base : Heap} {Z : Zs} {f : Addr} {fd : FuncData} (T : Txt K mg Z w) (F : Fun K "is_table" "is_table" s_is_table f fd) (Bc : fd.code = .ref Z.c_is_table) (B : GxR.TabB base mg Z.c_is_table Z.t_is_table) (Bt : TbS.tb Z.t_is_table) (E_check_shape : FnE P w K mg base 3 "check_shape" ["shape"] (fn_check_shape Z)) (E_is_rule : FnE P w K mg base 7 "is_rule" ["shape", "thing"] fn_is_rule) : FnG P w K mg base 9 f fd ["shape", "thing"] (spD K 2 (fn_is_table Z)) := by
  have h := fn_okC (P := P) (w := w) (mg := mg) (base := base) (k := 8) (g := b_is_table Z) (fx := [true, true]) F sc_is_table rfl (fun cdv A outer s H E hcd gu hr => by
    have tk := takes_of (X := cxOf (L2.CX P w) P w K mg base N_is_table "is_table" (defScope s_is_table) f cdv A outer s H E) rfl rfl rfl rfl
    exact ⟨_, (pss_cons (ps_expr (pe_fnE (E := WE _) E_check_shape (Room.mono hr (by omega)) gu (by rfl) (fun σ => passAt tk σ) (pa_cons (pv 0) pa_nil)))
    (pss_one (ps_ret (pe_and (pe_callB call_isi (by rfl) T.b_isinstance (by decide +kernel) (pa_cons (pv 1) (pa_cons (pe_bltn (v := .ty "list") (by rfl) T.b_list (by decide +kernel) rfl) pa_nil))) (pe_and (pe_cmpR op_le (pe_callB call_len (by rfl) T.b_len (by decide +kernel) (pa_cons (pv 1) pa_nil)) (pe_glob (v := .int (60)) (by rfl) T.k_MOST_RULES ⟨_, rfl⟩) (nomark _)) (pe_one (pe_allG (own := [("rule", 2)]) (c := Z.c_is_table) (P := Z.t_is_table) rfl sc_is_table.nd hr (by rfl) T.b_all B (hcd.symm.trans Bc) (gxOk_by (N := N_is_table) (sc := defScope s_is_table) (by decide +kernel)) (pi_list (pv 1)) (fun _ _ _ _ _ _ => (pg_name (i := 2) sc_is_table.nd rfl (Or.inl rfl))) (fun _ _ _ _ _ _ => (pe_fnE E_is_rule (Room.mono (room_gx hr) (by omega)) gu (by rfl) (fun σ => passNo σ) (pa_cons (pv 0) (pa_cons (pv 2) pa_nil))))))))))), (ds_seq (ds_drop (dx_ucall E_check_shape.len (da_cons de_var da_nil)))
    (ds_ret (dx_of (de_andV (df_of (de_isi (c := .list) (df_of de_var))) (df_of (de_andV (df_of (de_op (df_of (de_with (fd_cons (df_of de_var) fd_nil) dc_len)) (df_of (de_c fun _ => .int (60))) dc_le)) (df_of (de_allG Bt (di_list (df_of de_var)) (dg_name (by rfl)) (df_of (de_fn E_is_rule.len (da_cons de_var (da_cons de_var da_nil))))))))))))⟩)
  exact h

end K7

set_option Elab.async false
set_option linter.all false
set_option maxRecDepth 100000
set_option maxHeartbeats 4000000
namespace K7
open PySem PySem.Spec PyProof.Rows L2 Q
variable [TbS]
theorem ok_check_table {P : Program} {w : World} {K : PySem.W.Frag} {mg : Str → Option Value} {base : Heap} {Z : Zs} {f : Addr} {fd : FuncData} (T : Txt K mg Z w) (F : Fun K "check_table" "check_table" s_check_table f fd) (E_is_table : FnE P w K mg base 9 "is_table" ["shape", "thing"] (fn_is_table Z)) : FnG P w K mg base 10 f fd ["shape", "table"] (spD K 2 (fn_check_table Z)) := by
  have h := fn_ok (P := P) (w := w) (mg := mg) (base := base) (k := 9) (g := b_check_table Z) (fx := [true, true]) F sc_check_table rfl (fun cdv A outer s H E gu hr => by
    have tk := takes_of (X := cxOf (L2.CX P w) P w K mg base N_check_table "check_table" (defScope s_check_table) f cdv A outer s H E) rfl rfl rfl rfl
    exact ⟨_, (pss_one (ps_if (pt_not (pt_val (pe_fnE (E := WE _) E_is_table (Room.mono hr (by omega)) gu (by rfl) (fun σ => passAt tk σ) (pa_cons (pv 0) (pa_cons (pv 1) pa_nil))))) (pss_one (ps_raise rfl tk (pmk_own PySem.F.excBase_ValueError T.x_NoTable T.c_NoTable T.p_NoTable (raises_own T.u_NoTable T.t_NoTable) (by rfl)))) pss_nil)), (ds_if (dtx_not (dtx_bl (dx_ucall E_is_table.len (da_cons de_var (da_cons de_var da_nil))))) ds_raise ds_next)⟩)
  exact h

end K7

set_option Elab.async false
set_option linter.all false
set_option maxRecDepth 100000
set_option maxHeartbeats 4000000
namespace K7
open PySem PySem.Spec PyProof.Rows L2 Q
variable [TbS]
theorem ok_meets {P : Program} {w : World} {K : PySem.W.Frag} {mg : Str → Option Value} {base : Heap} {Z : Zs} {f : Addr} {fd : FuncData} (T : Txt K mg Z w) (F : Fun K "meets" "meets" s_meets f fd) (Bc : fd.code = .ref Z.c_meets) (B : GxR.TabB base mg Z.c_meets Z.t_meets) (Bt : TbS.tb Z.t_meets) : FnG P w K mg base 2 f fd ["letter", "match"] (spD K 2 fn_meets) := by
  have h := fn_okC (P := P) (w := w) (mg := mg) (base := base) (k := 1) (g := b_meets) (fx := [true, true]) F sc_meets rfl (fun cdv A outer s H E hcd gu hr => by
    have tk := takes_of (X := cxOf (L2.CX P w) P w K mg base N_meets "meets" (defScope s_meets) f cdv A outer s H E) rfl rfl rfl rfl
    exact ⟨_, (pss_one (ps_ret (pe_allG (own := [("wanted", 2), ("value", 3)]) (c := Z.c_meets) (P := Z.t_meets) rfl sc_meets.nd hr (by rfl) T.b_all B (hcd.symm.trans Bc) (gxOk_by (N := N_meets) (sc := defScope s_meets) (by decide +kernel)) (RZ.pi_zipA (by rfl) T.b_zip (pa_cons (pv 1) (pa_cons (pv 0) pa_nil))) (fun _ _ _ _ _ _ => (pg_tup rfl (pgs_cons (pg_name (i := 2) sc_meets.nd rfl (Or.inl rfl)) (pgs_cons (pg_name (i := 3) sc_meets.nd rfl (Or.inl rfl)) pgs_nil)))) (fun _ _ _ _ _ _ => (pe_cmpR op_in_seq (pv 2) (pe_tup (pa_cons (pe_glob (v := .int (-1)) (by rfl) T.k_ANY ⟨_, rfl⟩) (pa_cons (pv 3) pa_nil))) (by rfl)))))), (ds_ret (dx_of (de_allG Bt (di_zipA (fd_cons (df_of de_var) (fd_cons (df_of de_var) fd_nil))) (dg_tup (dgs_cons (dg_name (by rfl)) (dgs_cons (dg_name (by rfl)) dgs_nil))) (df_of (de_op (df_of de_var) (df_of (de_tup (fd_cons (df_of (de_c fun _ => .int (-1))) (fd_cons (df_of de_var) fd_nil)))) dc_in)))))⟩)
  exact h

end K7

set_option Elab.async false
set_option linter.all false
set_option maxRecDepth 100000
set_option maxHeartbeats 4000000
namespace K7
open PySem PySem.Spec PyProof.Rows L2 Q
variable [TbS]
theorem ok_changed {P : Program} {w : World} {K : PySem.W.Frag} {mg : Str → Option Value} {base : Heap} {Z : Zs} {f : Addr} {fd : FuncData} (T : Txt K mg Z w) (F : Fun K "changed" "changed" s_changed f fd) (Bc : fd.code = .ref Z.c_changed) (B : GxR.TabB base mg Z.c_changed Z.t_changed) (Bt : TbS.tb Z.t_changed) : FnG P w K mg base 2 f fd ["letter", "change"] (spD K 2 fn_changed) := by
  have h := fn_okC (P := P) (w := w) (mg := mg) (base := base) (k := 1) (g := b_changed) (fx := [true, true]) F sc_changed rfl (fun cdv A outer s H E hcd gu hr => by
    have tk := takes_of (X := cxOf (L2.CX P w) P w K mg base N_changed "changed" (defScope s_changed) f cdv A outer s H E) rfl rfl rfl rfl
    exact ⟨_, (pss_one (ps_ret (pe_tupG (own := [("put", 2), ("value", 3)]) (c := Z.c_changed) (P := Z.t_changed) rfl sc_changed.nd hr (by rfl) T.b_tuple B (hcd.symm.trans Bc) (gxOk_by (N := N_changed) (sc := defScope s_changed) (by decide +kernel)) (RZ.pi_zipA (by rfl) T.b_zip (pa_cons (pv 1) (pa_cons (pv 0) pa_nil))) (fun _ _ _ _ _ _ => (pg_tup rfl (pgs_cons (pg_name (i := 2) sc_changed.nd rfl (Or.inl rfl)) (pgs_cons (pg_name (i := 3) sc_changed.nd rfl (Or.inl rfl)) pgs_nil)))) (fun _ _ _ _ _ _ => (pe_ifExp (pt_cmpR (op_eqD (Room.units (room_gx4 hr))) (pv 2) (pe_glob (v := .int (-1)) (by rfl) T.k_ANY ⟨_, rfl⟩) (nomark _)) (pv 3) (pv 2)))))), (ds_ret (dx_of (de_tupG Bt (di_zipA (fd_cons (df_of de_var) (fd_cons (df_of de_var) fd_nil))) (dg_tup (dgs_cons (dg_name (by rfl)) (dgs_cons (dg_name (by rfl)) dgs_nil))) (df_of (de_if (dt_test (df_of (de_op (df_of de_var) (df_of (de_c fun _ => .int (-1))) dc_eq))) de_var de_var)))))⟩)
  exact h

end K7

set_option Elab.async false
set_option linter.all false
set_option maxRecDepth 100000
set_option maxHeartbeats 4000000
namespace K7
open PySem PySem.Spec PyProof.Rows L2 Q
variable [TbS]
theorem ok_first_met {P : Program} {w : World} {K : PySem.W.Frag} {mg : Str → Option Value} {base : Heap} {Z : Zs} {f : Addr} {fd : FuncData} (T : Txt K mg Z w) (F : Fun K "first_met" "first_met" s_first_met f fd) (E_meets : FnE P w K mg base 2 "meets" ["letter", "match"] fn_meets) : FnG P w K mg base 3 f fd ["letter", "rules"] (spD K 2 fn_first_met) := by
  have h := fn_ok (P := P) (w := w) (mg := mg) (base := base) (k := 2) (g := b_first_met) (fx := [true, true]) F sc_first_met rfl (fun cdv A outer s H E gu hr => by
    have tk := takes_of (X := cxOf (L2.CX P w) P w K mg base N_first_met "first_met" (defScope s_first_met) f cdv A outer s H E) rfl rfl rfl rfl
    exact ⟨_, (pss_cons (ps_for (passes_of rfl) rfl (RE.pi_enumA (by rfl) T.b_enumerate (pa_cons (pv 1) pa_nil)) (pg_tup rfl (pgs_cons (pg_name (i := 2) sc_first_met.nd rfl (Or.inl rfl)) (pgs_cons (pg_name (i := 3) sc_first_met.nd rfl (Or.inl rfl)) pgs_nil))) (pss_one (ps_if (pt_val (pe_fnE E_meets (Room.mono hr (by omega)) gu (by rfl) (fun σ => passNo σ) (pa_cons (pv 0) (pa_cons (pe_ix ix_seq (pv 3) pe_int (fun _ _ => rfl)) pa_nil)))) (pss_one (ps_ret (pv 2))) pss_nil)))
    (pss_one (ps_ret pe_non))), (ds_seq (ds_for (di_enumA (fd_cons (df_of de_var) fd_nil)) (dg_tup (dgs_cons (dg_name (by rfl)) (dgs_cons (dg_name (by rfl)) dgs_nil))) (ds_if (dtx_of (dt_bl (df_of (de_fn E_meets.len (da_cons de_var (da_cons (de_op (df_of de_var) (df_of (de_c fun _ => .int 0)) dc_ix) da_nil)))))) (ds_ret (dx_of de_var)) ds_next))
    (ds_ret (dx_of (de_c fun _ => .non))))⟩)
  exact h

end K7

set_option Elab.async false
set_option linter.all false
set_option maxRecDepth 100000
set_option maxHeartbeats 4000000
namespace K7
open PySem PySem.Spec PyProof.Rows L2 Q
variable [TbS]
theorem ok_becomes {P : Program} {w : World} {K : PySem.W.Frag} {mg : Str → Option Value} {base : Heap} {Z : Zs} {f : Addr} {fd : FuncData} (T : Txt K mg Z w) (F : Fun K "becomes" "becomes" s_becomes f fd) (E_changed : FnE P w K mg base 2 "changed" ["letter", "change"] fn_changed) (E_first_met : FnE P w K mg base 3 "first_met" ["letter", "rules"] fn_first_met) : FnG P w K mg base 4 f fd ["letter", "rules"] (spD K 2 fn_becomes) := by
  have h := fn_ok (P := P) (w := w) (mg := mg) (base := base) (k := 3) (g := b_becomes) (fx := [true, true]) F sc_becomes rfl (fun cdv A outer s H E gu hr => by
    have tk := takes_of (X := cxOf (L2.CX P w) P w K mg base N_becomes "becomes" (defScope s_becomes) f cdv A outer s H E) rfl rfl rfl rfl
    exact ⟨_, (pss_cons (ps_set (i := 2) sc_becomes.nd rfl (Or.inl rfl) (pe_fnE E_first_met (Room.mono hr (by omega)) gu (by rfl) (fun σ => passNo σ) (pa_cons (pv 0) (pa_cons (pv 1) pa_nil))))
    (pss_cons (ps_if (pt_cmpR op_isN (pv 2) pe_non (nomark _)) (pss_one (ps_ret (pe_lst pa_nil))) pss_nil)
    (pss_one (ps_ret (pe_callB (cr_sortedL rfl) (by rfl) T.b_sorted (by decide +kernel) (pa_cons (RS.pe_scT (own := [("change", 3)]) hr rfl sc_becomes.nd (pi_list (pe_ix ix_seq (pe_ix ix_seq (pv 1) (pv 2) (fun _ _ => rfl)) pe_int (fun _ _ => rfl))) (blkOk_by (N := N_becomes) (sc := defScope s_becomes) (by decide +kernel)) (fun _ _ _ _ _ => (pg_name (i := 3) sc_becomes.nd rfl (Or.inl rfl))) (fun _ _ _ _ _ => pts_nil) (fun _ _ _ _ _ => (pe_fnE E_changed (Room.mono hr (by omega)) gu (by rfl) (fun σ => passNo σ) (pa_cons (pv 0) (pa_cons (pv 3) pa_nil))))) pa_nil)))))), (ds_seq (ds_asg (dx_of (de_fn E_first_met.len (da_cons de_var (da_cons de_var da_nil)))) (dg_name (by rfl)))
    (ds_seq (ds_if (dtx_of (dt_test (df_of (de_op (df_of de_var) (df_of (de_c fun _ => .non)) dc_isN)))) (ds_ret (dx_of (de_lst fd_nil))) ds_next)
    (ds_ret (dx_of (de_ssc (di_list (df_of (de_op (df_of (de_op (df_of de_var) (df_of de_var) dc_ix)) (df_of (de_c fun _ => .int 1)) dc_ix))) (dg_name (by rfl)) (df_of (de_fn E_changed.len (da_cons de_var (da_cons de_var da_nil)))))))))⟩)
  exact h

end K7

set_option Elab.async false
set_option linter.all false
set_option maxRecDepth 100000
set_option maxHeartbeats 4000000
namespace K7
open PySem PySem.Spec PyProof.Rows L2 Q
variable [TbS]
theorem ok_table_does {P : Program} {w : World} {K : PySem.W.Frag} {mg : Str → Option Value} {base : Heap} {Z : Zs} {f : Addr} {fd : FuncData} (T : Txt K mg Z w) (F : Fun K "table_does" "table_does" s_table_does f fd) (E_letters_of : FnE P w K mg base 4 "letters_of" ["shape"] (fn_letters_of Z)) (E_check_table : FnE P w K mg base 10 "check_table" ["shape", "table"] (fn_check_table Z)) (E_becomes : FnE P w K mg base 4 "becomes" ["letter", "rules"] fn_becomes) : FnG P w K mg base 11 f fd ["shape", "table"] (spD K 2 (fn_table_does Z)) := by
  have h := fn_ok (P := P) (w := w) (mg := mg) (base := base) (k := 10) (g := b_table_does Z) (fx := [true, true]) F sc_table_does rfl (fun cdv A outer s H E gu hr => by
    have tk := takes_of (X := cxOf (L2.CX P w) P w K mg base N_table_does "table_does" (defScope s_table_does) f cdv A outer s H E) rfl rfl rfl rfl
    exact ⟨_, (pss_cons (ps_expr (pe_fnE (E := WE _) E_check_table (Room.mono hr (by omega)) gu (by rfl) (fun σ => passAt tk σ) (pa_cons (pv 0) (pa_cons (pv 1) pa_nil))))
    (pss_one (ps_ret (pe_lc (own := [("letter", 2)]) rfl sc_table_does.nd (pi_list (pe_fnE E_letters_of (Room.mono hr (by omega)) gu (by rfl) (fun σ => passNo σ) (pa_cons (pv 0) pa_nil))) (blkOk_by (N := N_table_does) (sc := defScope s_table_does) (by decide +kernel)) (fun _ _ _ _ _ => (pg_name (i := 2) sc_table_does.nd rfl (Or.inl rfl))) (fun _ _ _ _ _ => pts_nil) (fun _ _ _ _ _ => (pe_fnE E_becomes (Room.mono hr (by omega)) gu (by rfl) (fun σ => passNo σ) (pa_cons (pv 2) (pa_cons (pv 1) pa_nil)))))))), (ds_seq (ds_drop (dx_ucall E_check_table.len (da_cons de_var (da_cons de_var da_nil))))
    (ds_ret (dx_of (de_comp (di_list (df_of (de_fn E_letters_of.len (da_cons de_var da_nil)))) (dg_name (by rfl)) dt_yes (dm_of (de_fn E_becomes.len (da_cons de_var (da_cons de_var da_nil))))))))⟩)
  exact h

end K7

set_option Elab.async false
set_option linter.all false
set_option maxRecDepth 100000
set_option maxHeartbeats 4000000
namespace K7
open PySem PySem.Spec PyProof.Rows L2 Q
variable [TbS]
theorem ok__law_mixed {P : Program} {w : World} {K : PySem.W.Frag} {mg : Str → Option Value} {base : Heap} {Z : Zs} {f : Addr} {fd : FuncData} (T : Txt K mg Z w) (F : Fun K "_law_mixed" "_law_mixed" s__law_mixed f fd) : FnG P w K mg base 1 f fd ["_law_cell_here", "_law_k"] (spD K 2 fn__law_mixed) := by
  have h := fn_ok (P := P) (w := w) (mg := mg) (base := base) (k := 0) (g := b__law_mixed) (fx := [true, true]) F sc__law_mixed rfl (fun cdv A outer s H E gu hr => by
    have tk := takes_of (X := cxOf (L2.CX P w) P w K mg base N__law_mixed "_law_mixed" (defScope s__law_mixed) f cdv A outer s H E) rfl rfl rfl rfl
    exact ⟨_, (pss_cons (ps_set (i := 2) sc__law_mixed.nd rfl (Or.inl rfl) (pe_op op_mod (pe_op op_add (pe_op op_add (pe_op op_mulW (pe_op op_mod (pv 0) pe_int) pe_int) (pe_op op_mulW (pv 1) pe_int)) pe_int) pe_int))
    (pss_cons (ps_set (i := 2) sc__law_mixed.nd rfl (Or.inl rfl) (pe_op op_mod (pe_op op_mulW (pv 2) (pv 2)) pe_int))
    (pss_one (ps_ret (pe_op op_mod (pe_op op_mulW (pv 2) (pe_op op_add (pv 2) pe_int)) pe_int))))), (ds_seq (ds_asg (dx_of (de_op (df_of (de_op (df_of (de_op (df_of (de_op (df_of (de_op (df_of de_var) (df_of (de_c fun _ => .int 2147483647)) dc_mod)) (df_of (de_c fun _ => .int 48271)) dc_mul)) (df_of (de_op (df_of de_var) (df_of (de_c fun _ => .int 69621)) dc_mul)) dc_add)) (df_of (de_c fun _ => .int 1048583)) dc_add)) (df_of (de_c fun _ => .int 2147483629)) dc_mod)) (dg_name (by rfl)))
    (ds_seq (ds_asg (dx_of (de_op (df_of (de_op (df_of de_var) (df_of de_var) dc_mul)) (df_of (de_c fun _ => .int 2147483587)) dc_mod)) (dg_name (by rfl)))
    (ds_ret (dx_of (de_op (df_of (de_op (df_of de_var) (df_of (de_op (df_of de_var) (df_of (de_c fun _ => .int 2)) dc_add)) dc_mul)) (df_of (de_c fun _ => .int 2147483579)) dc_mod)))))⟩)
  exact h

end K7

set_option Elab.async false
set_option linter.all false
set_option maxRecDepth 100000
set_option maxHeartbeats 4000000
namespace K7
open PySem PySem.Spec PyProof.Rows L2 Q
variable [TbS]
theorem ok__law_cell {P : Program} {w : World} {K : PySem.W.Frag} {mg : Str → Option Value} {base : Heap} {Z : Zs} {f : Addr} {fd : FuncData} (T : Txt K mg Z w) (F : Fun K "_law_cell" "_law_cell" s__law_cell f fd) (E__law_mixed : FnE P w K mg base 1 "_law_mixed" ["_law_cell_here", "_law_k"] fn__law_mixed) : FnG P w K mg base 2 f fd ["_law_script", "_law_k"] (spD K 2 fn__law_cell) := by
  have h := fn_ok (P := P) (w := w) (mg := mg) (base := base) (k := 1) (g := b__law_cell) (fx := [true, true]) F sc__law_cell rfl (fun cdv A outer s H E gu hr => by
    have tk := takes_of (X := cxOf (L2.CX P w) P w K mg base N__law_cell "_law_cell" (defScope s__law_cell) f cdv A outer s H E) rfl rfl rfl rfl
    exact ⟨_, (pss_cons (ps_set (i := 2) sc__law_cell.nd rfl (Or.inl rfl) pe_int)
    (pss_cons (ps_if (pt_cmpR op_lt (pv 1) (pe_callB call_len (by rfl) T.b_len (by decide +kernel) (pa_cons (pv 0) pa_nil)) (nomark _)) (pss_one (ps_set (i := 2) sc__law_cell.nd rfl (Or.inl rfl) (pe_ix ix_seq (pv 0) (pv 1) (fun _ _ => rfl)))) pss_nil)
    (pss_cons (ps_if (pt_cmpR op_ge (pv 2) (pe_op op_pow pe_int pe_int) (nomark _)) (pss_one (ps_ret (pe_op op_mod (pe_op op_sub (pv 2) (pe_op op_pow pe_int pe_int)) (pe_op op_mulW (pe_op op_mulW (pe_op op_mulW (pe_op op_pow pe_int pe_int) (pe_op op_pow pe_int pe_int)) (pe_op op_pow pe_int pe_int)) (pe_op op_pow pe_int pe_int))))) pss_nil)
    (pss_cons (ps_set (i := 3) sc__law_cell.nd rfl (Or.inl rfl) pe_int)
    (pss_cons (ps_for (passes_of rfl) rfl (pi_range1 (by rfl) T.b_range (pa_cons pe_int pa_nil)) (pg_name (i := 4) sc__law_cell.nd rfl (Or.inl rfl)) (pss_one (ps_set (i := 3) sc__law_cell.nd rfl (Or.inl rfl) (pe_op op_add (pe_op op_mulW (pv 3) pe_int) (pe_fnE E__law_mixed (Room.mono hr (by omega)) gu (by rfl) (fun σ => passNo σ) (pa_cons (pv 2) (pa_cons (pe_op op_add (pe_op op_add (pe_op op_mulW pe_int (pv 1)) (pe_op op_mulW pe_int (pv 4))) (pe_op op_mulW (pv 4) (pv 4))) pa_nil)))))))
    (pss_one (ps_ret (pv 3)))))))), (ds_seq (ds_asg (dx_of (de_c fun _ => .int 0)) (dg_name (by rfl)))
    (ds_seq (ds_if (dtx_of (dt_test (df_of (de_op (df_of de_var) (df_of (de_with (fd_cons (df_of de_var) fd_nil) dc_len)) dc_lt)))) (ds_asg (dx_of (de_op (df_of de_var) (df_of de_var) dc_ix)) (dg_name (by rfl))) ds_next)
    (ds_seq (ds_if (dtx_of (dt_test (df_of (de_op (df_of de_var) (df_of (de_op (df_of (de_c fun _ => .int 10)) (df_of (de_c fun _ => .int 18)) dc_pow)) dc_ge)))) (ds_ret (dx_of (de_op (df_of (de_op (df_of de_var) (df_of (de_op (df_of (de_c fun _ => .int 10)) (df_of (de_c fun _ => .int 18)) dc_pow)) dc_sub)) (df_of (de_op (df_of (de_op (df_of (de_op (df_of (de_op (df_of (de_c fun _ => .int 10)) (df_of (de_c fun _ => .int 60)) dc_pow)) (df_of (de_op (df_of (de_c fun _ => .int 10)) (df_of (de_c fun _ => .int 60)) dc_pow)) dc_mul)) (df_of (de_op (df_of (de_c fun _ => .int 10)) (df_of (de_c fun _ => .int 60)) dc_pow)) dc_mul)) (df_of (de_op (df_of (de_c fun _ => .int 10)) (df_of (de_c fun _ => .int 60)) dc_pow)) dc_mul)) dc_mod))) ds_next)
    (ds_seq (ds_asg (dx_of (de_c fun _ => .int 0)) (dg_name (by rfl)))
    (ds_seq (ds_for (di_range1 (fd_cons (df_of (de_c fun _ => .int 24)) fd_nil)) (dg_name (by rfl)) (ds_asg (dx_of (de_op (df_of (de_op (df_of de_var) (df_of (de_c fun _ => .int 2147483579)) dc_mul)) (df_of (de_fn E__law_mixed.len (da_cons de_var (da_cons (de_op (df_of (de_op (df_of (de_op (df_of (de_c fun _ => .int 7)) (df_of de_var) dc_mul)) (df_of (de_op (df_of (de_c fun _ => .int 100)) (df_of de_var) dc_mul)) dc_add)) (df_of (de_op (df_of de_var) (df_of de_var) dc_mul)) dc_add) da_nil)))) dc_add)) (dg_name (by rfl))))
    (ds_ret (dx_of de_var)))))))⟩)
  exact h

end K7

set_option Elab.async false
set_option linter.all false
set_option maxRecDepth 100000
set_option maxHeartbeats 4000000
namespace K7
open PySem PySem.Spec PyProof.Rows L2 Q
variable [TbS]
theorem ok__law_take {P : Program} {w : World} {K : PySem.W.Frag} {mg : Str → Option Value} {base : Heap} {Z : Zs} {f : Addr} {fd : FuncData} (T : Txt K mg Z w) (F : Fun K "_law_take" "_law_take" s__law_take f fd) : FnG P w K mg base 1 f fd ["_law_pile", "_law_size"] (spD K 2 fn__law_take) := by
  have h := fn_ok (P := P) (w := w) (mg := mg) (base := base) (k := 0) (g := b__law_take) (fx := [true, true]) F sc__law_take rfl (fun cdv A outer s H E gu hr => by
    have tk := takes_of (X := cxOf (L2.CX P w) P w K mg base N__law_take "_law_take" (defScope s__law_take) f cdv A outer s H E) rfl rfl rfl rfl
    exact ⟨_, (pss_cons (ps_set (i := 2) sc__law_take.nd rfl (Or.inl rfl) (pe_op op_mod (pe_ix ix_seq (pv 0) pe_int (fun _ _ => rfl)) (pv 1)))
    (pss_cons (ps_asg (pe_op op_fdivW (pe_ix ix_seq (pv 0) pe_int (fun _ _ => rfl)) (pv 1)) (pg_sub (pv 0) pe_int set_list))
    (pss_one (ps_ret (pv 2))))), (ds_seq (ds_asg (dx_of (de_op (df_of (de_ixO (df_of (de_c fun _ => .int 0)))) (df_of de_var) dc_mod)) (dg_name (by rfl)))
    (ds_seq (ds_asg (dx_of (de_op (df_of (de_ixO (df_of (de_c fun _ => .int 0)))) (df_of de_var) dc_div)) (dg_ix (df_of (de_c fun _ => .int 0))))
    (ds_ret (dx_of de_var))))⟩)
  exact h

end K7

set_option Elab.async false
set_option linter.all false
set_option maxRecDepth 100000
set_option maxHeartbeats 4000000
namespace K7
open PySem PySem.Spec PyProof.Rows L2 Q
variable [TbS]
theorem ok__law_shape {P : Program} {w : World} {K : PySem.W.Frag} {mg : Str → Option Value} {base : Heap} {Z : Zs} {f : Addr} {fd : FuncData} (T : Txt K mg Z w) (F : Fun K "_law_shape" "_law_shape" s__law_shape f fd) (E__law_take : FnE P w K mg base 1 "_law_take" ["_law_pile", "_law_size"] fn__law_take) : FnG P w K mg base 2 f fd ["_law_pile"] (spD K 1 fn__law_shape) := by
  have h := fn_ok (P := P) (w := w) (mg := mg) (base := base) (k := 1) (g := b__law_shape) (fx := [true]) F sc__law_shape rfl (fun cdv A outer s H E gu hr => by
    have tk := takes_of (X := cxOf (L2.CX P w) P w K mg base N__law_shape "_law_shape" (defScope s__law_shape) f cdv A outer s H E) rfl rfl rfl rfl
    exact ⟨_, (pss_cons (ps_set (i := 1) sc__law_shape.nd rfl (Or.inl rfl) (pe_lst (pa_cons (pe_tup (pa_cons pe_int (pa_cons pe_int pa_nil))) (pa_cons (pe_tup (pa_cons pe_int pa_nil)) (pa_cons (pe_tup (pa_cons pe_int (pa_cons pe_int pa_nil))) (pa_cons (pe_tup (pa_cons pe_int (pa_cons pe_int pa_nil))) (pa_cons (pe_tup (pa_cons pe_int (pa_cons pe_int (pa_cons pe_int pa_nil)))) (pa_cons (pe_tup (pa_cons pe_int (pa_cons pe_int pa_nil))) (pa_cons (pe_tup (pa_cons pe_int (pa_cons pe_int pa_nil))) (pa_cons (pe_tup (pa_cons pe_int (pa_cons pe_int pa_nil))) (pa_cons (pe_tup (pa_cons pe_int (pa_cons pe_int (pa_cons pe_int pa_nil)))) (pa_cons (pe_tup (pa_cons pe_int (pa_cons pe_int (pa_cons pe_int pa_nil)))) (pa_cons (pe_tup (pa_cons pe_int pa_nil)) pa_nil)))))))))))))
    (pss_cons (ps_set (i := 1) sc__law_shape.nd rfl (Or.inl rfl) (pe_op op_cat (pv 1) (pe_lst (pa_cons (pe_tup (pa_cons pe_int pa_nil)) (pa_cons (pe_tup (pa_cons pe_int (pa_cons pe_int (pa_cons pe_int pa_nil)))) pa_nil)))))
    (pss_one (ps_ret (pe_ix ix_seq (pv 1) (pe_fnE E__law_take (Room.mono hr (by omega)) gu (by rfl) (fun σ => passNo σ) (pa_cons (pv 0) (pa_cons pe_int pa_nil))) (fun _ _ => rfl)))))), (ds_seq (ds_asg (dx_of (de_lst (fd_cons (df_of (de_tup (fd_cons (df_of (de_c fun _ => .int 2)) (fd_cons (df_of (de_c fun _ => .int 2)) fd_nil)))) (fd_cons (df_of (de_tup (fd_cons (df_of (de_c fun _ => .int 3)) fd_nil))) (fd_cons (df_of (de_tup (fd_cons (df_of (de_c fun _ => .int 2)) (fd_cons (df_of (de_c fun _ => .int 3)) fd_nil)))) (fd_cons (df_of (de_tup (fd_cons (df_of (de_c fun _ => .int 4)) (fd_cons (df_of (de_c fun _ => .int 2)) fd_nil)))) (fd_cons (df_of (de_tup (fd_cons (df_of (de_c fun _ => .int 2)) (fd_cons (df_of (de_c fun _ => .int 2)) (fd_cons (df_of (de_c fun _ => .int 2)) fd_nil))))) (fd_cons (df_of (de_tup (fd_cons (df_of (de_c fun _ => .int 3)) (fd_cons (df_of (de_c fun _ => .int 3)) fd_nil)))) (fd_cons (df_of (de_tup (fd_cons (df_of (de_c fun _ => .int 1)) (fd_cons (df_of (de_c fun _ => .int 2)) fd_nil)))) (fd_cons (df_of (de_tup (fd_cons (df_of (de_c fun _ => .int 4)) (fd_cons (df_of (de_c fun _ => .int 4)) fd_nil)))) (fd_cons (df_of (de_tup (fd_cons (df_of (de_c fun _ => .int 3)) (fd_cons (df_of (de_c fun _ => .int 3)) (fd_cons (df_of (de_c fun _ => .int 3)) fd_nil))))) (fd_cons (df_of (de_tup (fd_cons (df_of (de_c fun _ => .int 2)) (fd_cons (df_of (de_c fun _ => .int 1)) (fd_cons (df_of (de_c fun _ => .int 3)) fd_nil))))) (fd_cons (df_of (de_tup (fd_cons (df_of (de_c fun _ => .int 1)) fd_nil))) fd_nil))))))))))))) (dg_name (by rfl)))
    (ds_seq (ds_asg (dx_of (de_op (df_of de_var) (df_of (de_lst (fd_cons (df_of (de_tup (fd_cons (df_of (de_c fun _ => .int 2)) fd_nil))) (fd_cons (df_of (de_tup (fd_cons (df_of (de_c fun _ => .int 4)) (fd_cons (df_of (de_c fun _ => .int 3)) (fd_cons (df_of (de_c fun _ => .int 2)) fd_nil))))) fd_nil)))) dc_catL)) (dg_name (by rfl)))
    (ds_ret (dx_of (de_op (df_of de_var) (df_of (de_fn E__law_take.len (da_cons de_var (da_cons (de_c fun _ => .int 13) da_nil)))) dc_ix)))))⟩)
  exact h

end K7

set_option Elab.async false
set_option linter.all false
set_option maxRecDepth 100000
set_option maxHeartbeats 4000000
namespace K7
open PySem PySem.Spec PyProof.Rows L2 Q
variable [TbS]
theorem ok__law_letters {P : Program} {w : World} {K : PySem.W.Frag} {mg : Str → Option Value} {base : Heap} {Z : Zs} {f : Addr} {fd : FuncData} (T : Txt K mg Z w) (F : Fun K "_law_letters" "_law_letters" s__law_letters f fd) : FnG P w K mg base 1 f fd ["_law_shape_here"] (spD K 1 fn__law_letters) := by
  have h := fn_ok (P := P) (w := w) (mg := mg) (base := base) (k := 0) (g := b__law_letters) (fx := [true]) F sc__law_letters rfl (fun cdv A outer s H E gu hr => by
    have tk := takes_of (X := cxOf (L2.CX P w) P w K mg base N__law_letters "_law_letters" (defScope s__law_letters) f cdv A outer s H E) rfl rfl rfl rfl
    exact ⟨_, (pss_cons (ps_set (i := 1) sc__law_letters.nd rfl (Or.inl rfl) (pe_lst (pa_cons (pe_tup pa_nil) pa_nil)))
    (pss_cons (ps_for (passes_of rfl) rfl (pi_tup (pv 0)) (pg_name (i := 2) sc__law_letters.nd rfl (Or.inl rfl)) (pss_cons (ps_set (i := 3) sc__law_letters.nd rfl (Or.inl rfl) (pe_lst pa_nil))
    (pss_cons (ps_for (passes_of rfl) rfl (pi_list (pv 1)) (pg_name (i := 4) sc__law_letters.nd rfl (Or.inr rfl)) (pss_one (ps_set (i := 3) sc__law_letters.nd rfl (Or.inl rfl) (pe_op op_cat (pv 3) (pe_lc (own := [("_law_value", 5)]) rfl sc__law_letters.nd (pi_range1 (by rfl) T.b_range (pa_cons (pv 2) pa_nil)) (blkOk_by (N := N__law_letters) (sc := defScope s__law_letters) (by decide +kernel)) (fun _ _ _ _ _ => (pg_name (i := 5) sc__law_letters.nd rfl (Or.inl rfl))) (fun _ _ _ _ _ => pts_nil) (fun _ _ _ _ _ => (pe_op op_catA (pv 4) (pe_tup (pa_cons (pv 5) pa_nil)))))))))
    (pss_one (ps_set (i := 1) sc__law_letters.nd rfl (Or.inl rfl) (pv 3))))))
    (pss_one (ps_ret (pv 1))))), (ds_seq (ds_asg (dx_of (de_lst (fd_cons (df_of (de_tup fd_nil)) fd_nil))) (dg_name (by rfl)))
    (ds_seq (ds_for (di_tup (df_of de_var)) (dg_name (by rfl)) (ds_seq (ds_asg (dx_of (de_lst fd_nil)) (dg_name (by rfl)))
    (ds_seq (ds_for (di_list (df_of de_var)) (dg_name (by rfl)) (ds_asg (dx_of (de_op (df_of de_var) (df_of (de_comp (di_range1 (fd_cons (df_of de_var) fd_nil)) (dg_name (by rfl)) dt_yes (dm_of (de_op (df_of de_var) (df_of (de_tup (fd_cons (df_of de_var) fd_nil))) dc_catT)))) dc_catL)) (dg_name (by rfl))))
    (ds_asg (dx_of de_var) (dg_name (by rfl))))))
    (ds_ret (dx_of de_var))))⟩)
  exact h

end K7

set_option Elab.async false
set_option linter.all false
set_option maxRecDepth 100000
set_option maxHeartbeats 4000000
namespace K7
open PySem PySem.Spec PyProof.Rows L2 Q
variable [TbS]
theorem ok__law_rule {P : Program} {w : World} {K : PySem.W.Frag} {mg : Str → Option Value} {base : Heap} {Z : Zs} {f : Addr} {fd : FuncData} (T : Txt K mg Z w) (F : Fun K "_law_rule" "_law_rule" s__law_rule f fd) (E__law_take : FnE P w K mg base 1 "_law_take" ["_law_pile", "_law_size"] fn__law_take) : FnG P w K mg base 2 f fd ["_law_pile", "_law_shape_here"] (spD K 2 fn__law_rule) := by
  have h := fn_ok (P := P) (w := w) (mg := mg) (base := base) (k := 1) (g := b__law_rule) (fx := [true, true]) F sc__law_rule rfl (fun cdv A outer s H E gu hr => by
    have tk := takes_of (X := cxOf (L2.CX P w) P w K mg base N__law_rule "_law_rule" (defScope s__law_rule) f cdv A outer s H E) rfl rfl rfl rfl
    exact ⟨_, (pss_cons (ps_set (i := 2) sc__law_rule.nd rfl (Or.inl rfl) (pe_callTy call_tuple_of (by rfl) T.b_tuple (by decide +kernel) (pa_cons (pe_lc (own := [("_law_count", 5)]) rfl sc__law_rule.nd (pi_tup (pv 1)) (blkOk_by (N := N__law_rule) (sc := defScope s__law_rule) (by decide +kernel)) (fun _ _ _ _ _ => (pg_name (i := 5) sc__law_rule.nd rfl (Or.inl rfl))) (fun _ _ _ _ _ => pts_nil) (fun _ _ _ _ _ => (pe_op op_sub (pe_fnE E__law_take (Room.mono hr (by omega)) gu (by rfl) (fun σ => passNo σ) (pa_cons (pv 0) (pa_cons (pe_op op_mulW pe_int (pv 5)) pa_nil))) (pv 5)))) pa_nil)))
    (pss_cons (ps_set (i := 3) sc__law_rule.nd rfl (Or.inl rfl) (pe_lst pa_nil))
    (pss_cons (ps_for (passes_of rfl) rfl (pi_range1 (by rfl) T.b_range (pa_cons (pe_fnE E__law_take (Room.mono hr (by omega)) gu (by rfl) (fun σ => passNo σ) (pa_cons (pv 0) (pa_cons pe_int pa_nil))) pa_nil)) (pg_name (i := 4) sc__law_rule.nd rfl (Or.inl rfl)) (pss_one (ps_expr (pe_bm PySem.F.plainAttrs_list PySem.F.slot_list_append PySem.F.type_list_append mt_append (pv 3) (pa_cons (pe_callTy call_tuple_of (by rfl) T.b_tuple (by decide +kernel) (pa_cons (pe_lc (own := [("_law_count", 5)]) rfl sc__law_rule.nd (pi_tup (pv 1)) (blkOk_by (N := N__law_rule) (sc := defScope s__law_rule) (by decide +kernel)) (fun _ _ _ _ _ => (pg_name (i := 5) sc__law_rule.nd rfl (Or.inl rfl))) (fun _ _ _ _ _ => pts_nil) (fun _ _ _ _ _ => (pe_callB (call_max2 rfl) (by rfl) T.b_max (by decide +kernel) (pa_cons (pe_op op_sub (pe_fnE E__law_take (Room.mono hr (by omega)) gu (by rfl) (fun σ => passNo σ) (pa_cons (pv 0) (pa_cons (pe_op op_mulW pe_int (pv 5)) pa_nil))) (pv 5)) (pa_cons (pe_un un_neg pe_int) pa_nil))))) pa_nil)) pa_nil)))))
    (pss_one (ps_ret (pe_tup (pa_cons (pe_callTy call_tuple_of (by rfl) T.b_tuple (by decide +kernel) (pa_cons (pe_lc (own := [("_law_value", 6)]) rfl sc__law_rule.nd (pi_tup (pv 2)) (blkOk_by (N := N__law_rule) (sc := defScope s__law_rule) (by decide +kernel)) (fun _ _ _ _ _ => (pg_name (i := 6) sc__law_rule.nd rfl (Or.inl rfl))) (fun _ _ _ _ _ => pts_nil) (fun _ _ _ _ _ => (pe_callB (call_max2 rfl) (by rfl) T.b_max (by decide +kernel) (pa_cons (pv 6) (pa_cons (pe_un un_neg pe_int) pa_nil))))) pa_nil)) (pa_cons (pe_callB (cr_sortedL rfl) (by rfl) T.b_sorted (by decide +kernel) (pa_cons (pe_callTy (cr_setOfT rfl (Room.units hr)) (by rfl) T.b_set (by decide +kernel) (pa_cons (pv 3) pa_nil)) pa_nil)) pa_nil)))))))), (ds_seq (ds_asg (dx_of (de_with (fd_cons (df_of (de_comp (di_tup (df_of de_var)) (dg_name (by rfl)) dt_yes (dm_of (de_op (df_of (de_fn E__law_take.len (da_cons de_var (da_cons (de_op (df_of (de_c fun _ => .int 2)) (df_of de_var) dc_mul) da_nil)))) (df_of de_var) dc_sub)))) fd_nil) dc_tuple)) (dg_name (by rfl)))
    (ds_seq (ds_asg (dx_of (de_lst fd_nil)) (dg_name (by rfl)))
    (ds_seq (ds_for (di_range1 (fd_cons (df_of (de_fn E__law_take.len (da_cons de_var (da_cons (de_c fun _ => .int 4) da_nil)))) fd_nil)) (dg_name (by rfl)) (ds_drop (dx_of (de_append (dm_of (de_with (fd_cons (df_of (de_comp (di_tup (df_of de_var)) (dg_name (by rfl)) dt_yes (dm_of (de_with (fd_cons (df_of (de_op (df_of (de_fn E__law_take.len (da_cons de_var (da_cons (de_op (df_of (de_c fun _ => .int 2)) (df_of de_var) dc_mul) da_nil)))) (df_of de_var) dc_sub)) (fd_cons (df_of (de_un (df_of (de_c fun _ => .int 1)) dc_neg)) fd_nil)) dc_max2)))) fd_nil) dc_tuple))))))
    (ds_ret (dx_of (de_tup (fd_cons (df_of (de_with (fd_cons (df_of (de_comp (di_tup (df_of de_var)) (dg_name (by rfl)) dt_yes (dm_of (de_with (fd_cons (df_of de_var) (fd_cons (df_of (de_un (df_of (de_c fun _ => .int 1)) dc_neg)) fd_nil)) dc_max2)))) fd_nil) dc_tuple)) (fd_cons (df_of (de_ss (df_of de_var))) fd_nil))))))))⟩)
  exact h

end K7

set_option Elab.async false
set_option linter.all false
set_option maxRecDepth 100000
set_option maxHeartbeats 4000000
namespace K7
open PySem PySem.Spec PyProof.Rows L2 Q
variable [TbS]
theorem ok__law_table {P : Program} {w : World} {K : PySem.W.Frag} {mg : Str → Option Value} {base : Heap} {Z : Zs} {f : Addr} {fd : FuncData} (T : Txt K mg Z w) (F : Fun K "_law_table" "_law_table" s__law_table f fd) (E__law_take : FnE P w K mg base 1 "_law_take" ["_law_pile", "_law_size"] fn__law_take) (E__law_rule : FnE P w K mg base 2 "_law_rule" ["_law_pile", "_law_shape_here"] fn__law_rule) : FnG P w K mg base 3 f fd ["_law_pile", "_law_shape_here"] (spD K 2 fn__law_table) := by
  have h := fn_ok (P := P) (w := w) (mg := mg) (base := base) (k := 2) (g := b__law_table) (fx := [true, true]) F sc__law_table rfl (fun cdv A outer s H E gu hr => by
    have tk := takes_of (X := cxOf (L2.CX P w) P w K mg base N__law_table "_law_table" (defScope s__law_table) f cdv A outer s H E) rfl rfl rfl rfl
    exact ⟨_, (pss_cons (ps_setLc (i := 2) (own := [("_law_turn", 3)]) rfl sc__law_table.nd rfl rfl (sw_true rfl rfl rfl (by decide +kernel)) (pi_range1 (by rfl) T.b_range (pa_cons (pe_fnE E__law_take (Room.mono hr (by omega)) gu (by rfl) (fun σ => passNo σ) (pa_cons (pv 0) (pa_cons pe_int pa_nil))) pa_nil)) (blkOk_by (N := N__law_table) (sc := defScope s__law_table) (by decide +kernel)) (fun _ _ _ _ _ => (pg_name (i := 3) sc__law_table.nd rfl (Or.inl rfl))) (fun _ _ _ _ _ => pts_nil) (fun _ _ _ _ _ => (pe_fnE E__law_rule (Room.mono hr (by omega)) gu (by rfl) (fun σ => passNo σ) (pa_cons (pv 0) (pa_cons (pv 1) pa_nil)))))
    (pss_cons (ps_if (pt_cmpR (op_eqD (Room.units hr)) (pe_fnE E__law_take (Room.mono hr (by omega)) gu (by rfl) (fun σ => passNo σ) (pa_cons (pv 0) (pa_cons pe_int pa_nil))) pe_int (nomark _)) (pss_one (ps_set (i := 2) sc__law_table.nd rfl (Or.inl rfl) (pe_op op_cat (pv 2) (pe_slice sl_list (pv 2) po_none (po_some (pe_fnE E__law_take (Room.mono hr (by omega)) gu (by rfl) (fun σ => passNo σ) (pa_cons (pv 0) (pa_cons pe_int pa_nil)))))))) pss_nil)
    (pss_one (ps_ret (pv 2))))), (ds_seq (ds_asg (dx_of (de_comp (di_range1 (fd_cons (df_of (de_fn E__law_take.len (da_cons de_var (da_cons (de_c fun _ => .int 9) da_nil)))) fd_nil)) (dg_name (by rfl)) dt_yes (dm_of (de_fn E__law_rule.len (da_cons de_var (da_cons de_var da_nil)))))) (dg_name (by rfl)))
    (ds_seq (ds_if (dtx_of (dt_test (df_of (de_op (df_of (de_fn E__law_take.len (da_cons de_var (da_cons (de_c fun _ => .int 4) da_nil)))) (df_of (de_c fun _ => .int 1)) dc_eq)))) (ds_asg (dx_of (de_op (df_of de_var) (df_of (de_sl dsl_lst (df_of de_var) dp_no (dp_at (df_of (de_fn E__law_take.len (da_cons de_var (da_cons (de_c fun _ => .int 3) da_nil))))))) dc_catL)) (dg_name (by rfl))) ds_next)
    (ds_ret (dx_of de_var))))⟩)
  exact h

end K7

set_option Elab.async false
set_option linter.all false
set_option maxRecDepth 100000
set_option maxHeartbeats 4000000
namespace K7
open PySem PySem.Spec PyProof.Rows L2 Q
variable [TbS]
theorem ok__law_becomes {P : Program} {w : World} {K : PySem.W.Frag} {mg : Str → Option Value} {base : Heap} {Z : Zs} {f : Addr} {fd : FuncData} (T : Txt K mg Z w) (F : Fun K "_law_becomes" "_law_becomes" s__law_becomes f fd) : FnG P w K mg base 1 f fd ["_law_table_here", "_law_letter"] (spD K 2 fn__law_becomes) := by
  have h := fn_ok (P := P) (w := w) (mg := mg) (base := base) (k := 0) (g := b__law_becomes) (fx := [true, true]) F sc__law_becomes rfl (fun cdv A outer s H E gu hr => by
    have tk := takes_of (X := cxOf (L2.CX P w) P w K mg base N__law_becomes "_law_becomes" (defScope s__law_becomes) f cdv A outer s H E) rfl rfl rfl rfl
    exact ⟨_, (pss_cons (ps_for (passes_of rfl) rfl (pi_list (pv 0)) (pg_tup rfl (pgs_cons (pg_name (i := 2) sc__law_becomes.nd rfl (Or.inr rfl)) (pgs_cons (pg_name (i := 3) sc__law_becomes.nd rfl (Or.inl rfl)) pgs_nil))) (pss_one (ps_if (pt_cmpR (op_eqD (Room.units hr)) (pe_callB call_len (by rfl) T.b_len (by decide +kernel) (pa_cons (pe_lc (own := [("_law_k", 6)]) rfl sc__law_becomes.nd (pi_range1 (by rfl) T.b_range (pa_cons (pe_callB call_len (by rfl) T.b_len (by decide +kernel) (pa_cons (pv 1) pa_nil)) pa_nil)) (blkOk_by (N := N__law_becomes) (sc := defScope s__law_becomes) (by decide +kernel)) (fun _ _ _ _ _ => (pg_name (i := 6) sc__law_becomes.nd rfl (Or.inl rfl))) (fun _ _ _ _ _ => (pts_one (pt_cmpR op_notIn_seq (pe_ix ix_seq (pv 2) (pv 6) (fun _ _ => rfl)) (pe_tup (pa_cons (pe_un un_neg pe_int) (pa_cons (pe_ix ix_seq (pv 1) (pv 6) (fun _ _ => rfl)) pa_nil))) (by rfl)))) (fun _ _ _ _ _ => (pv 6))) pa_nil)) pe_int (nomark _)) (pss_cons (ps_set (i := 4) sc__law_becomes.nd rfl (Or.inl rfl) (pe_lst pa_nil))
    (pss_cons (ps_for (passes_of rfl) rfl (pi_list (pv 3)) (pg_name (i := 5) sc__law_becomes.nd rfl (Or.inr rfl)) (pss_one (ps_expr (pe_bm PySem.F.plainAttrs_list PySem.F.slot_list_append PySem.F.type_list_append mt_append (pv 4) (pa_cons (pe_callTy call_tuple_of (by rfl) T.b_tuple (by decide +kernel) (pa_cons (pe_lc (own := [("_law_k", 6)]) rfl sc__law_becomes.nd (pi_range1 (by rfl) T.b_range (pa_cons (pe_callB call_len (by rfl) T.b_len (by decide +kernel) (pa_cons (pv 1) pa_nil)) pa_nil)) (blkOk_by (N := N__law_becomes) (sc := defScope s__law_becomes) (by decide +kernel)) (fun _ _ _ _ _ => (pg_name (i := 6) sc__law_becomes.nd rfl (Or.inl rfl))) (fun _ _ _ _ _ => pts_nil) (fun _ _ _ _ _ => (pe_ix ix_seq (pe_lst (pa_cons (pe_ix ix_seq (pv 5) (pv 6) (fun _ _ => rfl)) (pa_cons (pe_ix ix_seq (pv 1) (pv 6) (fun _ _ => rfl)) pa_nil))) (pe_callTy call_int1 (by rfl) T.b_int (by decide +kernel) (pa_cons (pe_cmpR (op_eqD (Room.units hr)) (pe_ix ix_seq (pv 5) (pv 6) (fun _ _ => rfl)) (pe_un un_neg pe_int) (nomark _)) pa_nil)) (fun _ _ => rfl)))) pa_nil)) pa_nil)))))
    (pss_one (ps_ret (pe_callB (cr_sortedL rfl) (by rfl) T.b_sorted (by decide +kernel) (pa_cons (pe_callTy (cr_setOfT rfl (Room.units hr)) (by rfl) T.b_set (by decide +kernel) (pa_cons (pv 4) pa_nil)) pa_nil)))))) pss_nil)))
    (pss_one (ps_ret (pe_lst pa_nil)))), (ds_seq (ds_for (di_list (df_of de_var)) (dg_tup (dgs_cons (dg_name (by rfl)) (dgs_cons (dg_name (by rfl)) dgs_nil))) (ds_if (dtx_of (dt_test (df_of (de_op (df_of (de_with (fd_cons (df_of (de_comp (di_range1 (fd_cons (df_of (de_with (fd_cons (df_of de_var) fd_nil) dc_len)) fd_nil)) (dg_name (by rfl)) (dt_test (df_of (de_op (df_of (de_op (df_of de_var) (df_of de_var) dc_ix)) (df_of (de_tup (fd_cons (df_of (de_un (df_of (de_c fun _ => .int 1)) dc_neg)) (fd_cons (df_of (de_op (df_of de_var) (df_of de_var) dc_ix)) fd_nil)))) dc_in))) (dm_of de_var))) fd_nil) dc_len)) (df_of (de_c fun _ => .int 0)) dc_eq)))) (ds_seq (ds_asg (dx_of (de_lst fd_nil)) (dg_name (by rfl)))
    (ds_seq (ds_for (di_list (df_of de_var)) (dg_name (by rfl)) (ds_drop (dx_of (de_append (dm_of (de_with (fd_cons (df_of (de_comp (di_range1 (fd_cons (df_of (de_with (fd_cons (df_of de_var) fd_nil) dc_len)) fd_nil)) (dg_name (by rfl)) dt_yes (dm_of (de_op (df_of (de_lst (fd_cons (df_of (de_op (df_of de_var) (df_of de_var) dc_ix)) (fd_cons (df_of (de_op (df_of de_var) (df_of de_var) dc_ix)) fd_nil)))) (df_of (de_with (fd_cons (df_of (de_op (df_of (de_op (df_of de_var) (df_of de_var) dc_ix)) (df_of (de_un (df_of (de_c fun _ => .int 1)) dc_neg)) dc_eq)) fd_nil) dc_int)) dc_ix)))) fd_nil) dc_tuple))))))
    (ds_ret (dx_of (de_ss (df_of de_var)))))) ds_next))
    (ds_ret (dx_of (de_lst fd_nil))))⟩)
  exact h

end K7

set_option Elab.async false
set_option linter.all false
set_option maxRecDepth 100000
set_option maxHeartbeats 4000000
namespace K7
open PySem PySem.Spec PyProof.Rows L2 Q
variable [TbS]
theorem ok__law_long {P : Program} {w : World} {K : PySem.W.Frag} {mg : Str → Option Value} {base : Heap} {Z : Zs} {f : Addr} {fd : FuncData} (T : Txt K mg Z w) (F : Fun K "_law_long" "_law_long" s__law_long f fd) (E__law_take : FnE P w K mg base 1 "_law_take" ["_law_pile", "_law_size"] fn__law_take) : FnG P w K mg base 2 f fd ["_law_pile", "_law_shape_here", "_law_table_here"] (spD K 3 fn__law_long) := by
  have h := fn_ok (P := P) (w := w) (mg := mg) (base := base) (k := 1) (g := b__law_long) (fx := [true, true, true]) F sc__law_long rfl (fun cdv A outer s H E gu hr => by
    have tk := takes_of (X := cxOf (L2.CX P w) P w K mg base N__law_long "_law_long" (defScope s__law_long) f cdv A outer s H E) rfl rfl rfl rfl
    exact ⟨_, (pss_cons (ps_if (pt_cmpR op_gt (pe_fnE E__law_take (Room.mono hr (by omega)) gu (by rfl) (fun σ => passNo σ) (pa_cons (pv 0) (pa_cons pe_int pa_nil))) pe_int (nomark _)) (pss_one (ps_ret (pv 2))) pss_nil)
    (pss_cons (ps_set (i := 3) sc__law_long.nd rfl (Or.inr rfl) (pe_lc (own := [("_law_turn", 7)]) rfl sc__law_long.nd (pi_range1 (by rfl) T.b_range (pa_cons pe_int pa_nil)) (blkOk_by (N := N__law_long) (sc := defScope s__law_long) (by decide +kernel)) (fun _ _ _ _ _ => (pg_name (i := 7) sc__law_long.nd rfl (Or.inl rfl))) (fun _ _ _ _ _ => pts_nil) (fun _ _ _ _ _ => (pe_callTy call_tuple_of (by rfl) T.b_tuple (by decide +kernel) (pa_cons (pe_lc (own := [("_law_count", 9)]) rfl sc__law_long.nd (pi_tup (pv 1)) (blkOk_by (by exact rfl)) (fun _ _ _ _ _ => (pg_name (i := 9) sc__law_long.nd rfl (Or.inl rfl))) (fun _ _ _ _ _ => pts_nil) (fun _ _ _ _ _ => (pe_fnE E__law_take (Room.mono hr (by omega)) gu (by rfl) (fun σ => passNo σ) (pa_cons (pv 0) (pa_cons (pv 9) pa_nil))))) pa_nil)))))
    (pss_cons (ps_set (i := 4) sc__law_long.nd rfl (Or.inl rfl) (pe_op op_add pe_int (pe_fnE E__law_take (Room.mono hr (by omega)) gu (by rfl) (fun σ => passNo σ) (pa_cons (pv 0) (pa_cons pe_int pa_nil)))))
    (pss_cons (ps_set (i := 5) sc__law_long.nd rfl (Or.inl rfl) (pe_fnE E__law_take (Room.mono hr (by omega)) gu (by rfl) (fun σ => passNo σ) (pa_cons (pv 0) (pa_cons (pe_op op_add (pv 4) pe_int) pa_nil))))
    (pss_cons (ps_setLc (i := 6) (own := [("_law_k", 8)]) rfl sc__law_long.nd rfl rfl (sw_true rfl rfl rfl (by decide +kernel)) (pi_range1 (by rfl) T.b_range (pa_cons (pv 4) pa_nil)) (blkOk_by (N := N__law_long) (sc := defScope s__law_long) (by decide +kernel)) (fun _ _ _ _ _ => (pg_name (i := 8) sc__law_long.nd rfl (Or.inl rfl))) (fun _ _ _ _ _ => pts_nil) (fun _ _ _ _ _ => (pe_tup (pa_cons (pe_ix ix_seq (pv 3) (pe_op op_mod (pv 8) pe_int) (fun _ _ => rfl)) (pa_cons (pe_lst pa_nil) pa_nil)))))
    (pss_one (ps_ret (pe_op op_cat (pe_op op_cat (pe_slice sl_list (pv 6) po_none (po_some (pv 5))) (pv 2)) (pe_slice sl_list (pv 6) (po_some (pv 5)) po_none))))))))), (ds_seq (ds_if (dtx_of (dt_test (df_of (de_op (df_of (de_fn E__law_take.len (da_cons de_var (da_cons (de_c fun _ => .int 4) da_nil)))) (df_of (de_c fun _ => .int 0)) dc_gt)))) (ds_ret (dx_of de_var)) ds_next)
    (ds_seq (ds_asg (dx_of (de_comp (di_range1 (fd_cons (df_of (de_c fun _ => .int 4)) fd_nil)) (dg_name (by rfl)) dt_yes (dm_of (de_with (fd_cons (df_of (de_comp (di_tup (df_of de_var)) (dg_name (by rfl)) dt_yes (dm_of (de_fn E__law_take.len (da_cons de_var (da_cons de_var da_nil)))))) fd_nil) dc_tuple)))) (dg_name (by rfl)))
    (ds_seq (ds_asg (dx_of (de_op (df_of (de_c fun _ => .int 24)) (df_of (de_fn E__law_take.len (da_cons de_var (da_cons (de_c fun _ => .int 27) da_nil)))) dc_add)) (dg_name (by rfl)))
    (ds_seq (ds_asg (dx_of (de_fn E__law_take.len (da_cons de_var (da_cons (de_op (df_of de_var) (df_of (de_c fun _ => .int 1)) dc_add) da_nil)))) (dg_name (by rfl)))
    (ds_seq (ds_asg (dx_of (de_comp (di_range1 (fd_cons (df_of de_var) fd_nil)) (dg_name (by rfl)) dt_yes (dm_of (de_tup (fd_cons (df_of (de_op (df_of de_var) (df_of (de_op (df_of de_var) (df_of (de_c fun _ => .int 4)) dc_mod)) dc_ix)) (fd_cons (df_of (de_lst fd_nil)) fd_nil)))))) (dg_name (by rfl)))
    (ds_ret (dx_of (de_op (df_of (de_op (df_of (de_sl dsl_lst (df_of de_var) dp_no (dp_at (df_of de_var)))) (df_of de_var) dc_catL)) (df_of (de_sl dsl_lst (df_of de_var) (dp_at (df_of de_var)) dp_no)) dc_catL))))))))⟩)
  exact h

end K7

set_option Elab.async false
set_option linter.all false
set_option maxRecDepth 100000
set_option maxHeartbeats 4000000
namespace K7
open PySem PySem.Spec PyProof.Rows L2 Q
variable [TbS]
theorem ok_law {P : Program} {w : World} {K : PySem.W.Frag} {mg : Str → Option Value} {base : Heap} {Z : Zs} {f : Addr} {fd : FuncData} (T : Txt K mg Z w) (F : Fun K "law" "law" s_law f fd) (E_table_does : FnE P w K mg base 11 "table_does" ["shape", "table"] (fn_table_does Z)) (E__law_cell : FnE P w K mg base 2 "_law_cell" ["_law_script", "_law_k"] fn__law_cell) (E__law_shape : FnE P w K mg base 2 "_law_shape" ["_law_pile"] fn__law_shape) (E__law_letters : FnE P w K mg base 1 "_law_letters" ["_law_shape_here"] fn__law_letters) (E__law_table : FnE P w K mg base 3 "_law_table" ["_law_pile", "_law_shape_here"] fn__law_table) (E__law_becomes : FnE P w K mg base 1 "_law_becomes" ["_law_table_here", "_law_letter"] fn__law_becomes) (E__law_long : FnE P w K mg base 2 "_law_long" ["_law_pile", "_law_shape_here", "_law_table_here"] fn__law_long) : FnG P w K mg base 12 f fd ["_law_script"] (spD K 1 (fn_law Z)) := by
  have h := fn_ok (P := P) (w := w) (mg := mg) (base := base) (k := 11) (g := b_law Z) (fx := [true]) F sc_law rfl (fun cdv A outer s H E gu hr => by
    have tk := takes_of (X := cxOf (L2.CX P w) P w K mg base N_law "law" (defScope s_law) f cdv A outer s H E) rfl rfl rfl rfl
    exact ⟨_, (pss_cons (ps_set (i := 1) sc_law.nd rfl (Or.inl rfl) (pe_lst (pa_cons (pe_tup (pa_cons (pe_tup (pa_cons pe_int (pa_cons pe_int pa_nil))) (pa_cons (pe_lst pa_nil) pa_nil))) (pa_cons (pe_tup (pa_cons (pe_tup (pa_cons pe_int pa_nil)) (pa_cons (pe_lst (pa_cons (pe_tup (pa_cons (pe_tup (pa_cons (pe_un un_neg pe_int) pa_nil)) (pa_cons (pe_lst (pa_cons (pe_tup (pa_cons (pe_un un_neg pe_int) pa_nil)) pa_nil)) pa_nil))) pa_nil)) pa_nil))) pa_nil))))
    (pss_cons (ps_for (passes_of rfl) rfl (pi_range1 (by rfl) T.b_range (pa_cons pe_int pa_nil)) (pg_name (i := 2) sc_law.nd rfl (Or.inl rfl)) (pss_cons (ps_set (i := 3) sc_law.nd rfl (Or.inl rfl) (pe_lst (pa_cons (pe_fnE E__law_cell (Room.mono hr (by omega)) gu (by rfl) (fun σ => passNo σ) (pa_cons (pv 0) (pa_cons (pv 2) pa_nil))) pa_nil)))
    (pss_cons (ps_set (i := 4) sc_law.nd rfl (Or.inl rfl) (pe_fnE E__law_shape (Room.mono hr (by omega)) gu (by rfl) (fun σ => passNo σ) (pa_cons (pv 3) pa_nil)))
    (pss_one (ps_expr (pe_bm PySem.F.plainAttrs_list PySem.F.slot_list_append PySem.F.type_list_append mt_append (pv 1) (pa_cons (pe_tup (pa_cons (pv 4) (pa_cons (pe_fnE E__law_long (Room.mono hr (by omega)) gu (by rfl) (fun σ => passNo σ) (pa_cons (pv 3) (pa_cons (pv 4) (pa_cons (pe_fnE E__law_table (Room.mono hr (by omega)) gu (by rfl) (fun σ => passNo σ) (pa_cons (pv 3) (pa_cons (pv 4) pa_nil))) pa_nil)))) pa_nil))) pa_nil)))))))
    (pss_cons (ps_for (passes_of rfl) rfl (pi_list (pe_op op_cat (pv 1) (pe_slice sl_list (pv 1) (po_some pe_int) (po_some pe_int)))) (pg_tup rfl (pgs_cons (pg_name (i := 4) sc_law.nd rfl (Or.inl rfl)) (pgs_cons (pg_name (i := 5) sc_law.nd rfl (Or.inr rfl)) pgs_nil))) (pss_cons (ps_set (i := 6) sc_law.nd rfl (Or.inl rfl) (pe_callB (call_rep gu hr) (by rfl) T.b_repr (by decide +kernel) (pa_cons (pv 5) pa_nil)))
    (pss_cons (ps_setLc (i := 7) (own := [("_law_letter", 10)]) rfl sc_law.nd rfl rfl (sw_true rfl rfl rfl (by decide +kernel)) (pi_list (pe_fnE E__law_letters (Room.mono hr (by omega)) gu (by rfl) (fun σ => passNo σ) (pa_cons (pv 4) pa_nil))) (blkOk_by (N := N_law) (sc := defScope s_law) (by decide +kernel)) (fun _ _ _ _ _ => (pg_name (i := 10) sc_law.nd rfl (Or.inl rfl))) (fun _ _ _ _ _ => pts_nil) (fun _ _ _ _ _ => (pe_fnE E__law_becomes (Room.mono hr (by omega)) gu (by rfl) (fun σ => passNo σ) (pa_cons (pv 5) (pa_cons (pv 10) pa_nil)))))
    (pss_cons (ps_set (i := 8) sc_law.nd rfl (Or.inl rfl) (pe_fnE (E := WE _) E_table_does (Room.mono hr (by omega)) gu (by rfl) (fun σ => passAt tk σ) (pa_cons (pv 4) (pa_cons (pv 5) pa_nil))))
    (pss_cons (ps_if (PW.pt (pw_or (pt_not (pt_val (pe_callB call_isi (by rfl) T.b_isinstance (by decide +kernel) (pa_cons (pv 8) (pa_cons (pe_bltn (v := .ty "list") (by rfl) T.b_list (by decide +kernel) rfl) pa_nil))))) (pw_or (pt_cmpR (op_neD (Room.units hr)) (pe_callB (call_rep gu hr) (by rfl) T.b_repr (by decide +kernel) (pa_cons (pv 8) pa_nil)) (pe_callB (call_rep gu hr) (by rfl) T.b_repr (by decide +kernel) (pa_cons (pv 7) pa_nil)) (nomark _)) (pw_or1 (pt_cmpR (op_neD (Room.units hr)) (pe_callB (call_rep gu hr) (by rfl) T.b_repr (by decide +kernel) (pa_cons (pv 5) pa_nil)) (pv 6) (nomark _)))))) (pss_one (ps_ret pe_bl)) pss_nil)
    (pss_cons (ps_for (passes_of rfl) rfl (pi_range1 (by rfl) T.b_range (pa_cons (pe_callB call_len (by rfl) T.b_len (by decide +kernel) (pa_cons (pv 8) pa_nil)) pa_nil)) (pg_name (i := 9) sc_law.nd rfl (Or.inl rfl)) (pss_cons (ps_expr (pe_bm PySem.F.plainAttrs_list PySem.F.slot_list_append PySem.F.type_list_append mt_append (pe_ix ix_seq (pv 8) (pv 9) (fun _ _ => rfl)) (pa_cons pe_int pa_nil)))
    (pss_one (ps_if (pt_cmpR (op_neD (Room.units hr)) (pe_callB (call_rep gu hr) (by rfl) T.b_repr (by decide +kernel) (pa_cons (pe_slice sl_list (pv 8) (po_some (pe_op op_add (pv 9) pe_int)) po_none) pa_nil)) (pe_callB (call_rep gu hr) (by rfl) T.b_repr (by decide +kernel) (pa_cons (pe_slice sl_list (pv 7) (po_some (pe_op op_add (pv 9) pe_int)) po_none) pa_nil)) (nomark _)) (pss_one (ps_ret pe_bl)) pss_nil))))
    (pss_one (ps_expr (pe_bm PySem.F.plainAttrs_list PySem.F.slot_list_append PySem.F.type_list_append mt_append (pv 8) (pa_cons (pe_lst pa_nil) pa_nil))))))))))
    (pss_one (ps_ret pe_bl))))), (ds_seq (ds_asg (dx_of (de_lst (fd_cons (df_of (de_tup (fd_cons (df_of (de_tup (fd_cons (df_of (de_c fun _ => .int 2)) (fd_cons (df_of (de_c fun _ => .int 2)) fd_nil)))) (fd_cons (df_of (de_lst fd_nil)) fd_nil)))) (fd_cons (df_of (de_tup (fd_cons (df_of (de_tup (fd_cons (df_of (de_c fun _ => .int 3)) fd_nil))) (fd_cons (df_of (de_lst (fd_cons (df_of (de_tup (fd_cons (df_of (de_tup (fd_cons (df_of (de_un (df_of (de_c fun _ => .int 1)) dc_neg)) fd_nil))) (fd_cons (df_of (de_lst (fd_cons (df_of (de_tup (fd_cons (df_of (de_un (df_of (de_c fun _ => .int 1)) dc_neg)) fd_nil))) fd_nil))) fd_nil)))) fd_nil))) fd_nil)))) fd_nil)))) (dg_name (by rfl)))
    (ds_seq (ds_for (di_range1 (fd_cons (df_of (de_c fun _ => .int 4)) fd_nil)) (dg_name (by rfl)) (ds_seq (ds_asg (dx_of (de_lst (fd_cons (df_of (de_fn E__law_cell.len (da_cons de_var (da_cons de_var da_nil)))) fd_nil))) (dg_name (by rfl)))
    (ds_seq (ds_asg (dx_of (de_fn E__law_shape.len (da_cons de_var da_nil))) (dg_name (by rfl)))
    (ds_drop (dx_of (de_append (dm_of (de_tup (fd_cons (df_of de_var) (fd_cons (df_of (de_fn E__law_long.len (da_cons de_var (da_cons de_var (da_cons (de_fn E__law_table.len (da_cons de_var (da_cons de_var da_nil))) da_nil))))) fd_nil))))))))))
    (ds_seq (ds_for (di_list (df_of (de_op (df_of de_var) (df_of (de_sl dsl_lst (df_of de_var) (dp_at (df_of (de_c fun _ => .int 2))) (dp_at (df_of (de_c fun _ => .int 3))))) dc_catL))) (dg_tup (dgs_cons (dg_name (by rfl)) (dgs_cons (dg_name (by rfl)) dgs_nil))) (ds_seq (ds_asg (dx_of (de_with (fd_cons (df_of de_var) fd_nil) dc_rep)) (dg_name (by rfl)))
    (ds_seq (ds_asg (dx_of (de_comp (di_list (df_of (de_fn E__law_letters.len (da_cons de_var da_nil)))) (dg_name (by rfl)) dt_yes (dm_of (de_fn E__law_becomes.len (da_cons de_var (da_cons de_var da_nil)))))) (dg_name (by rfl)))
    (ds_seq (ds_asg (dx_ucall E_table_does.len (da_cons de_var (da_cons de_var da_nil))) (dg_name (by rfl)))
    (ds_seq (ds_if (dtx_of (dt_scal (dt_or (dt_not (dt_bl (df_of (de_of (df_scal (df_of (de_isi (c := .list) (df_of de_var)))))))) (dt_or (dt_test (df_of (de_op (df_of (de_of (df_scal (df_of (de_with (fd_cons (df_of de_var) fd_nil) dc_rep))))) (df_of (de_with (fd_cons (df_of de_var) fd_nil) dc_rep)) dc_ne))) (dt_test (df_of (de_op (df_of (de_with (fd_cons (df_of de_var) fd_nil) dc_rep)) (df_of de_var) dc_ne))))))) (ds_ret (dx_of (de_c fun _ => .bl false))) ds_next)
    (ds_seq (ds_for (di_range1 (fd_cons (df_of (de_of (df_scal (df_of (de_with (fd_cons (df_of de_var) fd_nil) dc_len))))) fd_nil)) (dg_name (by rfl)) (ds_seq (ds_drop (dx_of (de_append2 (df_of de_var) (fun _ => .int 0))))
    (ds_if (dtx_of (dt_scal (dt_test (df_of (de_op (df_of (de_with (fd_cons (df_of (de_sl dsl_lst (df_of de_var) (dp_at (df_of (de_op (df_of de_var) (df_of (de_c fun _ => .int 1)) dc_add))) dp_no)) fd_nil) dc_rep)) (df_of (de_with (fd_cons (df_of (de_sl dsl_lst (df_of de_var) (dp_at (df_of (de_op (df_of de_var) (df_of (de_c fun _ => .int 1)) dc_add))) dp_no)) fd_nil) dc_rep)) dc_ne))))) (ds_ret (dx_of (de_c fun _ => .bl false))) ds_next)))
    (ds_drop (dx_of (de_append (dm_of (de_lst fd_nil)))))))))))
    (ds_ret (dx_of (de_c fun _ => .bl true))))))⟩)
  exact h
end K7

set_option Elab.async false
set_option linter.all false
set_option maxRecDepth 100000
set_option maxHeartbeats 8000000
namespace K7
open PySem PySem.Spec PyProof.Rows L2 Q
mutual
def lv : D → Bool
  | .non => true
  | .bl _ => true
  | .int _ => true
  | .str x => PyData.strOk x
  | .tup l => lvL l
  | .lst l => lvL l
  | _ => false
def lvL : List D → Bool
  | [] => true
  | d :: l => lv d && lvL l
end
mutual
def dep : D → Nat
  | .tup l => depL l + 1
  | .lst l => depL l + 1
  | _ => 0
def depL : List D → Nat
  | [] => 0
  | d :: l => max (dep d) (depL l)
end
def isNum : D → Bool
  | .int _ => true
  | _ => false
theorem v_is_number {d : D} (h : lv d = true) : fn_is_number [.fz d] = some (.ret (.fz (.bl (isNum d))), [.fz d]) := by
  cases d <;> first | rfl | (simp [lv] at h; done)
def shI (sh : List D) : Prop := ∀ x ∈ sh, ∃ n : Int, x = .int n
theorem len_cons (x : D) (l : List D) : gLen [.tup (x :: l)] = some (.val (.int (l.length + 1))) := rfl
theorem len_tup (l : List D) : gLen [.tup l] = some (.val (.int l.length)) := rfl
theorem at0 (x : D) (l : List D) : atI (x :: l) 0 = some x := by simp [atI, ixN]
theorem at1 (x y : D) (l : List D) : atI (x :: y :: l) 1 = some y := by
  have : (1 : Int) < (l.length : Int) + 1 + 1 := by omega
  simp [atI, ixN, this]
theorem at2 (x y z : D) (l : List D) : atI (x :: y :: z :: l) 2 = some z := by
  have : (2 : Int) < (l.length : Int) + 1 + 1 + 1 := by omega
  simp [atI, ixN, this]
theorem atN {l : List D} {i : Int} (h : 0 ≤ i) (h2 : i < l.length) : atI l i = l[i.toNat]? := by
  simp [atI, ixN, h, h2]
theorem cut1 (x : D) (l : List D) : Q.cutD (x :: l) (some 1) none = l := by
  unfold Q.cutD
  rw [show HT.sIx (x :: l).length 0 (some 1) = 1 by simp [HT.sIx], HT.sIx_none]
  simp
theorem lvL_mem : ∀ {l : List D}, lvL l = true → ∀ d ∈ l, lv d = true
  | [], _, d, h => by cases h
  | a :: l, h, d, hd => by
    simp only [lvL, Bool.and_eq_true] at h
    rcases List.mem_cons.mp hd with rfl | hd
    · exact h.1
    · exact lvL_mem h.2 d hd
abbrev testW : XB := xbLift (dScalT (dTru (dSh (dVar 4))))
theorem eq_int (a b : Int) : gEq [.int a, .int b] = some (.val (.bl (a == b))) := rfl
theorem ne_int (a b : Int) : gNe [.int a, .int b] = some (.val (.bl (!(a == b)))) := rfl
theorem ne_non (b : Int) : gNe [.non, .int b] = some (.val (.bl true)) := rfl
theorem eq_str {a b : Str} (ha : PyData.strOk a = true) (hb : PyData.strOk b = true) : gEq [.str a, .str b] = some (.val (.bl (a == b))) := by
  show (if SeqAt.shaped (.str a) = true ∧ SeqAt.shaped (.str b) = true then some (Rs.val (.bl (PyData.eqv (.str a) (.str b)))) else none) = _
  simp [SeqAt.shaped, PyData.eqv, PyData.canLay0, PyData.depth, ha, hb]
theorem fzs_data0 (M : List D) : T.data (.ls (M.map .fz)) = some (.lst M) := by
  show (dataL _).map D.lst = _
  rw [dataL_fz]
  rfl
theorem rngT {f : FDs} {r r1 : Q.Env} {i : Int} (h : f r = some ([.int i], r1)) (h0 : 0 ≤ i) (h1 : i ≤ 100) : dRange1 f r = some (upto 0 i.toNat, r1) := by
  unfold dRange1
  rw [h]
  exact if_pos ⟨by omega, by omega⟩
end K7

set_option Elab.async false
set_option linter.all false
set_option maxRecDepth 100000
set_option maxHeartbeats 8000000
namespace K7
open PySem PySem.Spec PyProof.Rows L2 Q
local macro_rules | `(tactic| walk_at "norm") => `(tactic| focus (first | (simp only [List.map_cons, List.map_nil]; done) | ((try simp only [List.map_cons, List.map_nil]); exact rfl)))
local macro_rules | `(tactic| walk_at "set") => `(tactic| focus (first | (dsimp only [List.set_cons_succ, List.set_cons_zero]; done) | ((try dsimp only [List.set_cons_succ, List.set_cons_zero]); exact rfl)))
local macro_rules | `(tactic| walk_at "frz") => `(tactic| focus (first | (simp only [frzE_cons, frzE_nil, frz_fz, frz_un, frz_ls, frz_ls1]; done) | ((try simp only [frzE_cons, frzE_nil, frz_fz, frz_un, frz_ls, frz_ls1]); exact rfl)))
local macro_rules | `(tactic| walk_at "pars") => `(tactic| focus (first | (simp only [pars, List.getElem?_cons_succ, List.getElem?_cons_zero, Option.bind_some, List.set_cons_succ, List.set_cons_zero]; done) | ((try simp only [pars, List.getElem?_cons_succ, List.getElem?_cons_zero, Option.bind_some, List.set_cons_succ, List.set_cons_zero]); exact rfl)))
local macro_rules | `(tactic| walk_at "back") => `(tactic| focus (first | (simp only [back, putBack, List.getElem?_cons_succ, List.getElem?_cons_zero, List.set_cons_succ, List.set_cons_zero]; done) | ((try simp only [back, putBack, List.getElem?_cons_succ, List.getElem?_cons_zero, List.set_cons_succ, List.set_cons_zero]); exact rfl)))
local macro_rules | `(tactic| walk_at "restore") => `(tactic| focus (first | with_reducible assumption | (simp only [restore, slotP, keepP, List.getElem?_cons_succ, List.getElem?_cons_zero, List.set_cons_succ, List.set_cons_zero]; done) | ((try simp only [restore, slotP, keepP, List.getElem?_cons_succ, List.getElem?_cons_zero, List.set_cons_succ, List.set_cons_zero]); exact rfl)))
local macro_rules | `(tactic| walk_at "wipe") => `(tactic| focus (first | (simp only [wipeT, List.set_cons_succ, List.set_cons_zero]; done) | ((try simp only [wipeT, List.set_cons_succ, List.set_cons_zero]); exact rfl)))
local macro_rules | `(tactic| walk_at "out") => `(tactic| focus (first | (simp only [outP, keepP, if_true, Bool.false_eq_true, if_false]; done) | ((try simp only [outP, keepP, if_true, Bool.false_eq_true, if_false]); exact rfl)))
local macro_rules | `(tactic| walk_at "side") => `(tactic| (first | with_reducible assumption | omega | decide))
local macro_rules | `(tactic| walk_at "mul") => `(tactic| (first | with_reducible assumption | exact mulW_small 62 62 (by omega) (by omega) (by decide) (by decide) (by decide)))
local macro_rules | `(tactic| walk_at "len") => `(tactic| focus ((try simp only [List.length_cons, List.length_nil, List.length_append, List.length_replicate, List.length_map]) <;> (first | omega | with_reducible assumption)))
local macro_rules | `(tactic| walk_at "at") => `(tactic| (first | with_reducible assumption | exact rfl))
local macro_rules | `(tactic| walk_at "eq") => `(tactic| (first | with_reducible assumption | with_reducible exact EV.eqI _ _ | with_reducible exact EV.neI _ _))
local macro_rules | `(tactic| walk_at "rep") => `(tactic| (with_reducible assumption))
local macro_rules | `(tactic| walk_at "in") => `(tactic| (first | with_reducible assumption | exact rfl))
local macro_rules | `(tactic| walk_at "ss") => `(tactic| (with_reducible assumption))
local macro_rules | `(tactic| walk_at "tru") => `(tactic| (first | exact rfl | with_reducible assumption))
local macro_rules | `(tactic| walk_at "call") => `(tactic| (with_reducible assumption))
local macro_rules | `(tactic| walk_at "aug") => `(tactic| (exact rfl))
local macro_rules | `(tactic| walk_at "bt") => `(tactic| (first | exact rfl | with_reducible assumption | (simp only [decide_eq_true_eq, decide_eq_false_iff_not, Bool.not_eq_true', Bool.not_eq_false', Bool.and_eq_true, Bool.or_eq_true, Bool.and_eq_false_iff, Bool.or_eq_false_iff, beq_iff_eq, beq_eq_false_iff_ne, ne_eq]; omega)))
local macro_rules | `(tactic| walk_at "ev") => `(tactic| first
  | ((with_reducible apply EV.shV); (exact rfl))
  | ((with_reducible apply EV.shO); (exact rfl); (walk_at "set"))
  | ((with_reducible apply EV.shD); (exact rfl); (with_reducible assumption); (walk_at "set"))
  | ((with_reducible exact EV.cE _))
  | ((with_reducible apply EV.shS); (walk_at "ev"))
  | ((with_reducible apply EV.shN); (walk_at "ev"))
  | ((with_reducible apply EV.scal); (walk_at "frz"); (walk_at "ev"); (exact rfl))
  | ((with_reducible apply EV.lift); (walk_at "ev"))
  | ((with_reducible exact EV.cW _))
  | ((with_reducible apply EV.varF); (exact rfl))
  | ((with_reducible apply EV.varL); (exact rfl))
  | ((with_reducible exact EV.fn))
  | ((with_reducible apply EV.fc); (walk_at "ev"); (walk_at "ev"))
  | ((with_reducible exact EV.an))
  | ((with_reducible apply EV.ac); (walk_at "ev"); (walk_at "ev"))
  | ((with_reducible exact EV.mn))
  | ((with_reducible apply EV.mc); (walk_at "ev"); (walk_at "ev"))
  | ((with_reducible apply EV.mV); (exact rfl))
  | ((with_reducible apply EV.mO); (exact rfl); (walk_at "set"))
  | ((with_reducible apply EV.mvMF); (exact rfl); (walk_at "set"))
  | ((with_reducible apply EV.mvML); (exact rfl); (walk_at "set"))
  | ((with_reducible apply EV.mS); (walk_at "ev"))
  | ((with_reducible apply EV.mN); (walk_at "ev"))
  | ((with_reducible apply EV.add); (walk_at "ev"); (walk_at "ev"))
  | ((with_reducible apply EV.sub); (walk_at "ev"); (walk_at "ev"))
  | ((with_reducible apply EV.mul); (walk_at "ev"); (walk_at "ev"); (walk_at "mul"))
  | ((with_reducible apply EV.mod); (walk_at "ev"); (walk_at "ev"); (walk_at "side"))
  | ((with_reducible apply EV.div); (walk_at "ev"); (walk_at "ev"); (walk_at "side"))
  | ((with_reducible apply EV.pow); (walk_at "ev"); (walk_at "ev"); (walk_at "side"))
  | ((with_reducible apply EV.shl); (walk_at "ev"); (walk_at "ev"); (walk_at "side"))
  | ((with_reducible apply EV.shr); (walk_at "ev"); (walk_at "ev"); (walk_at "side"))
  | ((with_reducible apply EV.band); (walk_at "ev"); (walk_at "ev"))
  | ((with_reducible apply EV.bor); (walk_at "ev"); (walk_at "ev"))
  | ((with_reducible apply EV.bxor); (walk_at "ev"); (walk_at "ev"))
  | ((with_reducible apply EV.lt); (walk_at "ev"); (walk_at "ev"))
  | ((with_reducible apply EV.le); (walk_at "ev"); (walk_at "ev"))
  | ((with_reducible apply EV.gt); (walk_at "ev"); (walk_at "ev"))
  | ((with_reducible apply EV.ge); (walk_at "ev"); (walk_at "ev"))
  | ((with_reducible apply EV.neg); (walk_at "ev"))
  | ((with_reducible apply EV.eqG); (walk_at "ev"); (walk_at "ev"); (walk_at "eq"))
  | ((with_reducible apply EV.neG); (walk_at "ev"); (walk_at "ev"); (walk_at "eq"))
  | ((with_reducible apply EV.isN); (walk_at "ev"); (walk_at "ev"))
  | ((with_reducible apply EV.notN); (walk_at "ev"); (walk_at "ev"))
  | ((with_reducible apply EV.ixL); (walk_at "ev"); (walk_at "ev"); (walk_at "at"))
  | ((with_reducible apply EV.ixT); (walk_at "ev"); (walk_at "ev"); (walk_at "at"))
  | ((with_reducible apply EV.catT); (walk_at "ev"); (walk_at "ev"); (walk_at "len"))
  | ((with_reducible apply EV.catL); (walk_at "ev"); (walk_at "ev"); (walk_at "len"))
  | ((with_reducible apply EV.catS); (walk_at "ev"); (walk_at "ev"); (walk_at "len"))
  | ((with_reducible apply EV.mulL); (walk_at "ev"); (walk_at "ev"); (walk_at "side"); (walk_at "side"))
  | ((with_reducible apply EV.lenL); (walk_at "ev"))
  | ((with_reducible apply EV.lenT); (walk_at "ev"))
  | ((with_reducible apply EV.lenR); (walk_at "ev"))
  | ((with_reducible apply EV.lenS); (walk_at "ev"); (walk_at "len"))
  | ((with_reducible apply EV.tupL); (walk_at "ev"))
  | ((with_reducible apply EV.tupT); (walk_at "ev"))
  | ((with_reducible apply EV.lisL); (walk_at "ev"))
  | ((with_reducible apply EV.lisT); (walk_at "ev"))
  | ((with_reducible apply EV.rep); (walk_at "ev"); (walk_at "rep"))
  | ((with_reducible apply EV.max2); (walk_at "ev"); (walk_at "ev"))
  | ((with_reducible apply EV.min2); (walk_at "ev"); (walk_at "ev"))
  | ((with_reducible apply EV.intI); (walk_at "ev"))
  | ((with_reducible apply EV.intB); (walk_at "ev"))
  | ((with_reducible apply EV.strI); (walk_at "ev"); (walk_at "side"))
  | ((with_reducible apply EV.inG); (walk_at "ev"); (walk_at "ev"); (walk_at "in"))
  | ((with_reducible apply EV.inR); (walk_at "ev"); (walk_at "ev"))
  | ((with_reducible apply EV.isi); (walk_at "ev"); (exact rfl))
  | ((with_reducible apply EV.revT); (walk_at "ev"))
  | ((with_reducible apply EV.revL); (walk_at "ev"))
  | ((with_reducible apply EV.tup); (walk_at "ev"); (walk_at "len"))
  | ((with_reducible apply EV.lst); (walk_at "ev"); (walk_at "len"))
  | ((with_reducible apply EV.ltT); (walk_at "ev"); (walk_at "ev"); (walk_at "side"); (walk_at "side"))
  | ((with_reducible exact EV.pN))
  | ((with_reducible apply EV.pA); (walk_at "ev"))
  | ((with_reducible apply EV.slL); (walk_at "ev"); (walk_at "ev"); (walk_at "ev"))
  | ((with_reducible apply EV.slT); (walk_at "ev"); (walk_at "ev"); (walk_at "ev"))
  | ((with_reducible apply EV.ss); (walk_at "ev"); (walk_at "ss"))
  | ((with_reducible apply EV.srt); (walk_at "ev"); (walk_at "ss"))
  | ((with_reducible apply EV.bl); (walk_at "ev"))
  | ((with_reducible apply EV.tru); (walk_at "ev"); (walk_at "tru"))
  | ((with_reducible apply EV.not); (walk_at "ev"))
  | ((with_reducible apply EV.and); (walk_at "ev"); (walk_at "ev"))
  | ((with_reducible apply EV.or); (walk_at "ev"); (walk_at "ev"))
  | ((with_reducible apply EV.andF); (walk_at "ev"); (walk_at "bt"))
  | ((with_reducible apply EV.andT); (walk_at "ev"); (walk_at "bt"); (walk_at "ev"))
  | ((with_reducible apply EV.orT); (walk_at "ev"); (walk_at "bt"))
  | ((with_reducible apply EV.orF); (walk_at "ev"); (walk_at "bt"); (walk_at "ev"))
  | ((with_reducible apply EV.boolW); (walk_at "ev"))
  | ((with_reducible apply EV.scalT); (walk_at "frz"); (walk_at "ev"))
  | ((with_reducible apply EV.ifET); (walk_at "ev"); (walk_at "bt"); (walk_at "ev"))
  | ((with_reducible apply EV.ifEF); (walk_at "ev"); (walk_at "bt"); (walk_at "ev"))
  | ((with_reducible apply EV.chn); (walk_at "ev"); (walk_at "ev"); (exact rfl); (walk_at "ev"); (exact rfl))
  | ((with_reducible apply EV.xl); (walk_at "ev"))
  | ((with_reducible apply EV.xb); (walk_at "ev"))
  | ((with_reducible apply EV.xblS); (walk_at "ev"))
  | ((with_reducible apply EV.xnot); (walk_at "ev"))
  | ((with_reducible apply EV.callS); (walk_at "ev"); (walk_at "pars"); (walk_at "norm"); (walk_at "call"); (exact rfl); (walk_at "back"))
  | ((with_reducible apply EV.callN); (walk_at "ev"); (walk_at "pars"); (walk_at "norm"); (walk_at "call"); (exact rfl); (walk_at "back"))
  | ((with_reducible apply EV.callXS); (walk_at "ev"); (walk_at "pars"); (walk_at "norm"); (walk_at "call"); (exact rfl); (walk_at "back"))
  | ((with_reducible apply EV.callXN); (walk_at "ev"); (walk_at "pars"); (walk_at "norm"); (walk_at "call"); (exact rfl); (walk_at "back"))
  | ((with_reducible apply EV.callXE); (walk_at "ev"); (walk_at "pars"); (walk_at "norm"); (walk_at "call"); (exact rfl); (walk_at "back"))
  | ((with_reducible apply EV.ixO); (exact rfl); (walk_at "ev"); (exact rfl); (walk_at "at"))
  | ((with_reducible apply EV.app); (exact rfl); (walk_at "ev"); (exact rfl); (walk_at "len"); (walk_at "set"))
  | ((with_reducible apply EV.appT); (exact rfl); (walk_at "ev"); (exact rfl); (walk_at "len"); (walk_at "set"))
  | ((with_reducible apply EV.ext); (exact rfl); (walk_at "ev"); (exact rfl); (walk_at "len"); (walk_at "set"))
  | ((with_reducible apply EV.pop); (exact rfl); (walk_at "set"))
  | ((with_reducible apply EV.comp); (walk_at "ev"); (walk_at "call"); (walk_at "restore"))
  | ((with_reducible apply EV.comp2); (walk_at "ev"); (walk_at "call"); (walk_at "restore"))
  | ((with_reducible apply EV.tupG); (walk_at "ev"); (walk_at "call"); (walk_at "restore"))
  | ((with_reducible apply EV.ssc); (walk_at "ev"); (walk_at "call"); (walk_at "restore"); (walk_at "ss"); (walk_at "ss"))
  | ((with_reducible apply EV.allG); (walk_at "ev"); (walk_at "call"); (walk_at "restore"))
  | ((with_reducible exact EV.yes))
  | ((with_reducible apply EV.itL); (walk_at "ev"))
  | ((with_reducible apply EV.itT); (walk_at "ev"))
  | ((with_reducible apply EV.rg1); (walk_at "ev"); (walk_at "side"); (walk_at "side"))
  | ((with_reducible apply EV.rg2); (walk_at "ev"); (walk_at "side"))
  | ((with_reducible apply EV.rg3); (walk_at "ev"); (walk_at "side"))
  | ((with_reducible apply EV.zpL); (walk_at "ev"))
  | ((with_reducible apply EV.zpT); (walk_at "ev"))
  | ((with_reducible apply EV.enm); (walk_at "ev"))
  | ((with_reducible apply EV.enmL); (walk_at "ev"))
  | ((with_reducible apply EV.enmT); (walk_at "ev"))
  | ((with_reducible apply EV.rvs); (walk_at "ev"))
  | ((with_reducible apply EV.gName); (walk_at "set"))
  | ((with_reducible exact EV.gsN))
  | ((with_reducible apply EV.gsC); (walk_at "ev"); (walk_at "ev"))
  | ((with_reducible apply EV.gTup); (exact rfl); (try simp only [List.map_cons, List.map_nil]); (walk_at "ev"))
  | ((with_reducible apply EV.gLst); (exact rfl); (try simp only [List.map_cons, List.map_nil]); (walk_at "ev"))
  | ((with_reducible apply EV.setO); (exact rfl); (walk_at "ev"); (exact rfl); (walk_at "at"); (walk_at "set"))
  | ((with_reducible exact EV.nxt))
  | ((with_reducible apply EV.seq); (walk_at "ev"); (walk_at "ev"))
  | ((with_reducible apply EV.seqR); (walk_at "ev"); (exact rfl))
  | ((with_reducible apply EV.seqX); (walk_at "ev"))
  | ((with_reducible apply EV.asgV); (walk_at "ev"); (walk_at "ev"))
  | ((with_reducible apply EV.asgS); (walk_at "ev"); (walk_at "ev"))
  | ((with_reducible apply EV.asgN); (walk_at "ev"); (walk_at "ev"))
  | ((with_reducible apply EV.asgX); (walk_at "ev"))
  | ((with_reducible apply EV.drop); (walk_at "ev"))
  | ((with_reducible apply EV.dropX); (walk_at "ev"))
  | ((with_reducible apply EV.ret); (walk_at "ev"))
  | ((with_reducible apply EV.ifT); (walk_at "ev"); (walk_at "bt"); (walk_at "ev"))
  | ((with_reducible apply EV.ifF); (walk_at "ev"); (walk_at "bt"); (walk_at "ev"))
  | ((with_reducible apply EV.aug); (exact rfl); (walk_at "ev"); (exact rfl); (walk_at "aug"); (walk_at "set"))
  | ((with_reducible apply EV.augO); (exact rfl); (walk_at "ev"); (exact rfl); (walk_at "side"); (walk_at "at"); (walk_at "at"); (walk_at "ev"); (walk_at "aug"); (exact rfl); (walk_at "set"))
  | ((with_reducible apply EV.for_); (walk_at "ev"); (walk_at "call")))
local macro_rules | `(tactic| walk_at "st") => `(tactic| ((with_reducible apply EV.seq); (walk_at "ev")))
local macro_rules | `(tactic| walk_at "le") => `(tactic| (exact Nat.le_of_ble_eq_true rfl))
local macro_rules | `(tactic| walk_at "fin") => `(tactic| first
  | ((apply EV.finS); (walk_at "le"); (walk_at "out"))
  | ((apply EV.finN); (walk_at "le"); (walk_at "out"))
  | ((apply EV.finV); (decide); (exact rfl); (walk_at "le"); (walk_at "out"))
  | ((apply EV.finW); (decide); (exact rfl); (walk_at "le"); (walk_at "out"))
  | ((apply EV.finP); (decide); (walk_at "ev"); (walk_at "le"); (walk_at "out"))
  | ((apply EV.finNx); (walk_at "le"); (walk_at "out"))
  | ((apply EV.finEx); (walk_at "le"); (walk_at "out")))
local macro_rules | `(tactic| walk_at "for") => `(tactic| ((with_reducible apply EV.seq); (with_reducible apply EV.for_); (walk_at "ev")))
local macro_rules | `(tactic| walk_at "gt") => `(tactic| ((simp only [wipeT, List.set_cons_succ, List.set_cons_zero]); (walk_at "ev")))
local macro_rules | `(tactic| walk_at "cc") => `(tactic| (apply EV.ccY; (walk_at "gt"); (first | exact EV.yes | walk_at "ev"); (walk_at "bt"); (walk_at "ev"); (walk_at "len")))
local macro_rules | `(tactic| walk_at "cn") => `(tactic| (apply EV.ccN; (walk_at "gt"); (walk_at "ev"); (walk_at "bt")))
local macro_rules | `(tactic| walk_at "rt") => `(tactic| ((with_reducible apply EV.seqR); (walk_at "ev"); (exact rfl)))
local macro_rules | `(tactic| walk_at "gg") => `(tactic| (apply EV.gt1; (walk_at "gt"); (walk_at "ev"); (walk_at "len")))
local macro_rules | `(tactic| walk_at "gs") => `(tactic| (apply EV.gs1; (walk_at "gt"); (walk_at "ev"); (walk_at "ss"); (walk_at "len")))

theorem v__law_take {n k : Int} (hk : 0 < k) (hk2 : k < 1000) : fn__law_take [.ls [.fz (.int n)], .fz (.int k)] = some (.ret (.fz (.int (n % k))), [.ls [.fz (.int (n / k))], .fz (.int k)]) := by
  have hc : CDivW n k := wide_div hk (b := 10) (by omega) (by decide) (by decide)
  apply fe__law_take
  · change b__law_take [oL [.int n], _, _] = _
    unfold b__law_take
    walk_at "st"
    walk_at "st"
    walk_at "ev"
  walk_at "fin"
def mixV (c k : Int) : Int := ((c % 2147483647 * 48271 + k * 69621 + 1048583) % 2147483629 * ((c % 2147483647 * 48271 + k * 69621 + 1048583) % 2147483629) % 2147483587) * ((c % 2147483647 * 48271 + k * 69621 + 1048583) % 2147483629 * ((c % 2147483647 * 48271 + k * 69621 + 1048583) % 2147483629) % 2147483587 + 2) % 2147483579
theorem mixV_lo (c k : Int) : 0 ≤ mixV c k := Int.emod_nonneg _ (by decide)
theorem mixV_hi (c k : Int) : mixV c k < 2147483579 := Int.emod_lt_of_pos _ (by decide)
theorem v__law_mixed {c k : Int} (hk : -(2 ^ 40) < k ∧ k < 2 ^ 40) : fn__law_mixed [.fz (.int c), .fz (.int k)] = some (.ret (.fz (.int (mixV c k))), [.fz (.int c), .fz (.int k)]) := by
  have m1 := Int.emod_nonneg c (show (2147483647 : Int) ≠ 0 by decide)
  have m2 := Int.emod_lt_of_pos c (show (0 : Int) < 2147483647 by decide)
  have n1 := Int.emod_nonneg (c % 2147483647 * 48271 + k * 69621 + 1048583) (show (2147483629 : Int) ≠ 0 by decide)
  have n2 := Int.emod_lt_of_pos (c % 2147483647 * 48271 + k * 69621 + 1048583) (show (0 : Int) < 2147483629 by decide)
  have o1 := Int.emod_nonneg ((c % 2147483647 * 48271 + k * 69621 + 1048583) % 2147483629 * ((c % 2147483647 * 48271 + k * 69621 + 1048583) % 2147483629)) (show (2147483587 : Int) ≠ 0 by decide)
  have o2 := Int.emod_lt_of_pos ((c % 2147483647 * 48271 + k * 69621 + 1048583) % 2147483629 * ((c % 2147483647 * 48271 + k * 69621 + 1048583) % 2147483629)) (show (0 : Int) < 2147483587 by decide)
  apply fe__law_mixed
  · unfold b__law_mixed
    walk_at "st"
    walk_at "st"
    walk_at "ev"
  walk_at "fin"
theorem upto_len (n : Nat) : (upto 0 n).length = n := by unfold upto; simp
theorem loop_cell {ns : List Int} {k x : Int} (h0 : 0 ≤ k) (h1 : k < 64) : ∀ (m j : Nat) (f : Int) (y : T), j + m = 24 → f.natAbs < 2 ^ (32 * j + 1) → ∃ (f' : Int) (y' : T), loopD (gdName 4) L__law_cell_1 ((List.range' j m).map fun (i : Nat) => .int (0 + (i : Int))) [.fz (.scr ns), .fz (.int k), .fz (.int x), .fz (.int f), y] = some (.nx [.fz (.scr ns), .fz (.int k), .fz (.int x), .fz (.int f'), y'])
  | 0, j, f, y, _, _ => ⟨f, y, rfl⟩
  | m + 1, j, f, y, hj, hf => by
    have m0 := mixV_lo x (7 * k + 100 * (0 + (j : Int)) + (0 + (j : Int)) * (0 + (j : Int)))
    have m1 := mixV_hi x (7 * k + 100 * (0 + (j : Int)) + (0 + (j : Int)) * (0 + (j : Int)))
    have j1 : (0 : Int) ≤ (0 + (j : Int)) := by omega
    have j2 : (0 + (j : Int)) < 24 := by omega
    have jj : (0 : Int) ≤ (0 + (j : Int)) * (0 + (j : Int)) ∧ (0 + (j : Int)) * (0 + (j : Int)) ≤ 24 * 24 := ⟨Int.mul_nonneg j1 j1, Int.mul_le_mul (by omega) (by omega) j1 (by decide)⟩
    have fb : f.natAbs < 2 ^ 800 := Nat.lt_of_lt_of_le hf (Nat.pow_le_pow_right (by decide) (by omega))
    have c1 : CMulW f 2147483579 := mulW_small 800 32 fb (by decide) (by decide) (by decide) (by decide)
    have hv := v__law_mixed (c := x) (k := 7 * k + 100 * (0 + (j : Int)) + (0 + (j : Int)) * (0 + (j : Int))) (by omega)
    have hn : (f * 2147483579 + mixV x (7 * k + 100 * (0 + (j : Int)) + (0 + (j : Int)) * (0 + (j : Int)))).natAbs < 2 ^ (32 * (j + 1) + 1) := by
      generalize mixV x (7 * k + 100 * (0 + (j : Int)) + (0 + (j : Int)) * (0 + (j : Int))) = v at m0 m1
      have e : 2 ^ (32 * (j + 1) + 1) = 2 ^ 32 * 2 ^ (32 * j + 1) := by rw [← Nat.pow_add]; congr 1; omega
      rw [e]
      generalize 2 ^ (32 * j + 1) = b at hf
      omega
    obtain ⟨f', y', e⟩ := loop_cell h0 h1 m (j + 1) (f * 2147483579 + mixV x (7 * k + 100 * (0 + (j : Int)) + (0 + (j : Int)) * (0 + (j : Int)))) (.fz (.int (0 + (j : Int)))) (by omega) hn
    refine ⟨f', y', ?_⟩
    rw [List.range'_succ, List.map_cons]
    apply EV.lpN
    · walk_at "ev"
    · unfold L__law_cell_1
      walk_at "ev"
    · exact e
theorem v__law_cell {ns : List Int} {k : Int} (h0 : 0 ≤ k) (h1 : k < 64) : ∃ c, fn__law_cell [.fz (.scr ns), .fz (.int k)] = some (.ret (.fz (.int c)), [.fz (.scr ns), .fz (.int k)]) := by
  have pw : CPow 10 18 := ⟨by decide, by decide, by decide⟩
  have pw2 : CPow 10 60 := ⟨by decide, by decide, by decide⟩
  -- the cell itself
  have cell : ∃ x : Int, ∀ {f : SD} {o : Option O}, f [.fz (.scr ns), .fz (.int k), .fz (.int x), .un, .un] = o → dSeq (dIf (xbLift (dBl (dSh (dOp gLt (dSh (dVar 1)) (dSh (dWith (fdCons (dSh (dVar 0)) fdNil) gLen)))))) (dAsg (xLift (dOp gIx (dSh (dVar 0)) (dSh (dVar 1)))) (gdName 2)) dNext) f [.fz (.scr ns), .fz (.int k), .fz (.int 0), .un, .un] = o := by
    by_cases c : k < ns.length
    · have hk : k.toNat < ns.length := by omega
      have a1 : L2.atI (ns.map D.int) k = some (.int ns[k.toNat]) := by
        unfold L2.atI L2.ixN
        rw [if_pos h0, List.length_map, if_pos c]
        simp [hk]
      refine ⟨ns[k.toNat], fun h => EV.seq (EV.ifT (EV.xb (EV.bl (EV.shS (EV.lt (EV.shV rfl) (EV.shS (EV.lenR (EV.shV rfl))))))) (decide_eq_true c) ?_) h⟩
      refine EV.asgS (EV.xl (EV.opW (d := .int ns[k.toNat]) (EV.shV rfl) (EV.shV rfl) ?_)) rfl
      simp only [gIx, D.items, Option.bind_some, a1]
    · exact ⟨0, fun h => EV.seq (EV.ifF (EV.xb (EV.bl (EV.shS (EV.lt (EV.shV rfl) (EV.shS (EV.lenR (EV.shV rfl))))))) (decide_eq_false c) rfl) h⟩
  obtain ⟨x, hx⟩ := cell
  by_cases big : (10 : Int) ^ 18 ≤ x
  · have q1 : CMulW ((10 : Int) ^ (60 : Int).toNat) (10 ^ (60 : Int).toNat) := by decide +kernel
    have q2 : CMulW ((10 : Int) ^ (60 : Int).toNat * 10 ^ (60 : Int).toNat) (10 ^ (60 : Int).toNat) := by decide +kernel
    have q3 : CMulW ((10 : Int) ^ (60 : Int).toNat * 10 ^ (60 : Int).toNat * 10 ^ (60 : Int).toNat) (10 ^ (60 : Int).toNat) := by decide +kernel
    have q4 : (0 : Int) < 10 ^ (60 : Int).toNat * 10 ^ (60 : Int).toNat * 10 ^ (60 : Int).toNat * 10 ^ (60 : Int).toNat := by decide +kernel
    have b1 : decide ((10 : Int) ^ (18 : Int).toNat ≤ x) = true := decide_eq_true big
    apply Exists.intro
    apply fe__law_cell
    · unfold b__law_cell
      walk_at "st"
      apply hx
      apply EV.seqR
      · walk_at "ev"
      · exact rfl
    walk_at "fin"
  · have b1 : decide ((10 : Int) ^ (18 : Int).toNat ≤ x) = false := decide_eq_false big
    obtain ⟨f', y', e⟩ := loop_cell (ns := ns) (x := x) h0 h1 24 0 0 .un (by omega) (by decide)
    have e2 : loopD (gdName 4) L__law_cell_1 (upto 0 (24 : Int).toNat) [.fz (.scr ns), .fz (.int k), .fz (.int x), .fz (.int 0), .un] = some (.nx [.fz (.scr ns), .fz (.int k), .fz (.int x), .fz (.int f'), y']) := by
      unfold upto
      rw [List.range_eq_range']
      exact e
    apply Exists.intro
    apply fe__law_cell
    · unfold b__law_cell
      walk_at "st"
      apply hx
      walk_at "st"
      walk_at "st"
      walk_at "st"
      walk_at "ev"
    walk_at "fin"
end K7

set_option Elab.async false
set_option linter.all false
set_option maxRecDepth 100000
set_option maxHeartbeats 8000000
namespace K7
open PySem PySem.Spec PyProof.Rows L2 Q
/-! ### shapes -/
def prodI : List Int → Int
  | [] => 1
  | x :: l => x * prodI l
structure GSh (sh : List D) : Prop where
  ex : ∃ l : List Int, sh = l.map .int ∧ (∀ x ∈ l, 1 ≤ x ∧ x ≤ 4) ∧ 1 ≤ l.length ∧ l.length ≤ 3 ∧ prodI l ≤ 27
theorem GSh.ints {sh : List D} (h : GSh sh) : shI sh := by
  obtain ⟨l, rfl, _⟩ := h.ex
  intro x hx
  obtain ⟨n, _, rfl⟩ := List.mem_map.mp hx
  exact ⟨n, rfl⟩
theorem cm {i j : Int} (h1 : 1 ≤ j) (h2 : j ≤ 4) : CMul i j := Or.inr ⟨by omega, by omega⟩
theorem v_is_shape {sh : List D} (h : GSh sh) : fn_is_shape [.fz (.tup sh)] = some (.ret (.fz (.bl true)), [.fz (.tup sh)]) := by
  obtain ⟨l, rfl, hx, h1, h3, hp⟩ := h.ex
  match l, h1, h3 with
  | [a], _, _ =>
    obtain ⟨a1, a4⟩ := hx a (by simp)
    have na := v_is_number (d := .int a) rfl
    have ca := cm (i := 1) a1 a4
    simp [prodI] at hp
    simp [fn_is_shape, b_is_shape, L_is_shape_1, fnD, dRet, xLift, dBool, dAnd, dOr, dNot, dBl, dSh, dIsi, dVar, share, T.data, D.isi, D.bool, retW, outP, keepP, dSeq, dIf, xbLift, dC, dOp, dWith, fdCons, fdNil, D.items, Rs.w, dChain, gLe, gLt, gGt, gGe, gRI0, gRI, gAdd, gSubI, dAsg, mv, gdName, dDrop, dCallX, dCall, daCons, daNil, pars, back, putBack, resW, dIfE, dNext, dRaise, dItemsT, dItemsL, dFor, dLift, W.tm, dTru, truth, isFz, dAug, gMul1, dScal, dScalT, T.frz, D.scal, dUn, gNeg, gTupD, gLstD, xNot, xBl, gIx, dSl, gSlT, pAt, pNo, dMv, gInt, dInR, len_tup, loopD, na, isNum, a1, a4, ca, hp]
  | [a, b], _, _ =>
    obtain ⟨a1, a4⟩ := hx a (by simp)
    obtain ⟨b1, b4⟩ := hx b (by simp)
    have na := v_is_number (d := .int a) rfl
    have nb := v_is_number (d := .int b) rfl
    have ca := cm (i := 1) a1 a4
    have cb := cm (i := a) b1 b4
    simp [prodI] at hp
    simp [fn_is_shape, b_is_shape, L_is_shape_1, fnD, dRet, xLift, dBool, dAnd, dOr, dNot, dBl, dSh, dIsi, dVar, share, T.data, D.isi, D.bool, retW, outP, keepP, dSeq, dIf, xbLift, dC, dOp, dWith, fdCons, fdNil, D.items, Rs.w, dChain, gLe, gLt, gGt, gGe, gRI0, gRI, gAdd, gSubI, dAsg, mv, gdName, dDrop, dCallX, dCall, daCons, daNil, pars, back, putBack, resW, dIfE, dNext, dRaise, dItemsT, dItemsL, dFor, dLift, W.tm, dTru, truth, isFz, dAug, gMul1, dScal, dScalT, T.frz, D.scal, dUn, gNeg, gTupD, gLstD, xNot, xBl, gIx, dSl, gSlT, pAt, pNo, dMv, gInt, dInR, len_tup, loopD, na, nb, isNum, a1, a4, b1, b4, ca, cb, hp]
  | [a, b, c], _, _ =>
    obtain ⟨a1, a4⟩ := hx a (by simp)
    obtain ⟨b1, b4⟩ := hx b (by simp)
    obtain ⟨c1, c4⟩ := hx c (by simp)
    have na := v_is_number (d := .int a) rfl
    have nb := v_is_number (d := .int b) rfl
    have nc := v_is_number (d := .int c) rfl
    have ca := cm (i := 1) a1 a4
    have cb := cm (i := a) b1 b4
    have cc := cm (i := a * b) c1 c4
    simp [prodI] at hp
    rw [← Int.mul_assoc] at hp
    simp [fn_is_shape, b_is_shape, L_is_shape_1, fnD, dRet, xLift, dBool, dAnd, dOr, dNot, dBl, dSh, dIsi, dVar, share, T.data, D.isi, D.bool, retW, outP, keepP, dSeq, dIf, xbLift, dC, dOp, dWith, fdCons, fdNil, D.items, Rs.w, dChain, gLe, gLt, gGt, gGe, gRI0, gRI, gAdd, gSubI, dAsg, mv, gdName, dDrop, dCallX, dCall, daCons, daNil, pars, back, putBack, resW, dIfE, dNext, dRaise, dItemsT, dItemsL, dFor, dLift, W.tm, dTru, truth, isFz, dAug, gMul1, dScal, dScalT, T.frz, D.scal, dUn, gNeg, gTupD, gLstD, xNot, xBl, gIx, dSl, gSlT, pAt, pNo, dMv, gInt, dInR, len_tup, loopD, na, nb, nc, isNum, a1, a4, b1, b4, c1, c4, ca, cb, cc, hp]
theorem v_check {Z : Zs} {sh : List D} (h : GSh sh) : fn_check_shape Z [.fz (.tup sh)] = some (.ret (.fz .non), [.fz (.tup sh)]) := by
  have hs := v_is_shape h
  simp [fn_check_shape, b_check_shape, fnD, dRet, xLift, dBool, dAnd, dOr, dNot, dBl, dSh, dIsi, dVar, share, T.data, D.isi, D.bool, retW, outP, keepP, dSeq, dIf, xbLift, dC, dOp, dWith, fdCons, fdNil, D.items, Rs.w, dChain, gLe, gLt, gGt, gGe, gRI0, gRI, gAdd, gSubI, dAsg, mv, gdName, dDrop, dCallX, dCall, daCons, daNil, pars, back, putBack, resW, dIfE, dNext, dRaise, dItemsT, dItemsL, dFor, dLift, W.tm, dTru, truth, isFz, dAug, gMul1, dScal, dScalT, T.frz, D.scal, dUn, gNeg, gTupD, gLstD, xNot, xBl, gIx, dSl, gSlT, pAt, pNo, dMv, gInt, dInR, hs]
theorem take_at {p k : Int} (hk : 0 < k) (hk2 : k < 1000) : fn__law_take [.ls [.fz (.int p)], .fz (.int k)] = some (.ret (.fz (.int (p % k))), [.ls [.fz (.int (p / k))], .fz (.int k)]) := v__law_take hk hk2
def shs1 : List (List Int) := [[2, 2], [3], [2, 3], [4, 2], [2, 2, 2], [3, 3], [1, 2], [4, 4], [3, 3, 3], [2, 1, 3], [1]]
def shs2 : List (List Int) := [[2], [4, 3, 2]]
def shD (l : List (List Int)) : List D := l.map fun x => .tup (x.map .int)
theorem shs_ok : (shs1 ++ shs2).all (fun l => l.all (fun x => decide (1 ≤ x ∧ x ≤ 4)) && decide (1 ≤ l.length) && decide (l.length ≤ 3) && decide (prodI l ≤ 27)) = true := by decide +kernel
theorem gsh_of {l : List Int} (h : l ∈ shs1 ++ shs2) : GSh (l.map .int) := by
  have := List.all_eq_true.mp shs_ok l h
  simp only [Bool.and_eq_true, decide_eq_true_eq] at this
  obtain ⟨⟨⟨h1, h2⟩, h3⟩, h4⟩ := this
  refine ⟨l, rfl, fun x hx => ?_, h2, h3, h4⟩
  have := List.all_eq_true.mp h1 x hx
  simpa using this
theorem cat_ok {a b : List D} (h : a.length + b.length ≤ 1000000) : gCatL [.lst a, .lst b] = some (.newL (a ++ b)) := by simp [gCatL, h]
theorem v__law_shape (p : Int) : ∃ (sh : List D) (p' : Int), GSh sh ∧ fn__law_shape [.ls [.fz (.int p)]] = some (.ret (.fz (.tup sh)), [.ls [.fz (.int p')]]) := by
  have ht := take_at (p := p) (k := 13) (by decide) (by decide)
  have r0 := Int.emod_nonneg p (show (13 : Int) ≠ 0 by decide)
  have r1 := Int.emod_lt_of_pos p (show (0 : Int) < 13 by decide)
  generalize hr : p % 13 = r at *
  have hlen : (shs1 ++ shs2).length = 13 := rfl
  have ri : r.toNat < (shs1 ++ shs2).length := by rw [hlen]; omega
  have hm := List.getElem_mem ri
  generalize hg : (shs1 ++ shs2)[r.toNat] = l at hm
  have hat : atI (shD shs1 ++ shD shs2) r = some (.tup (l.map .int)) := by
    have e : shD shs1 ++ shD shs2 = shD (shs1 ++ shs2) := by simp [shD]
    rw [e, atN r0 (by simp only [shD, List.length_map, hlen]; omega)]
    simp only [shD]
    rw [List.getElem?_map, List.getElem?_eq_getElem ri, hg]
    rfl
  refine ⟨l.map .int, p / 13, gsh_of hm, ?_⟩
  have key : b__law_shape [.ls [.fz (.int p)], .un] = some (.rt (.sh (.tup (l.map .int))) [.ls [.fz (.int (p / 13))], .fz (.lst (shD shs1 ++ shD shs2))]) := by
    unfold b__law_shape
    rw [seq_nx (r1 := [.ls [.fz (.int p)], .ls ((shD shs1).map .fz)]) (by rfl)]
    have sv : dSh (dVar 1) [.ls [.fz (.int p)], .ls ((shD shs1).map .fz)] = some (.lst (shD shs1), [.ls [.fz (.int p)], .fz (.lst (shD shs1))]) := by
      simp only [dSh, dVar, List.getElem?_cons_succ, List.getElem?_cons_zero, Option.bind_some, share, fzs_data]
      rfl
    have cat : gCatL [.lst (shD shs1), .lst (shD shs2)] = some (.newL (shD shs1 ++ shD shs2)) := cat_ok (by simp [shD, shs1, shs2])
    have s2 := asg_nw (i := 1) (op_eval (g := gCatL) (z := .newL (shD shs1 ++ shD shs2)) sv (fb := (dSh (dWith (fdCons (dSh (dWith (fdCons (dSh (dC (.int 2))) fdNil) gTupD)) (fdCons (dSh (dWith (fdCons (dSh (dC (.int 4))) (fdCons (dSh (dC (.int 3))) (fdCons (dSh (dC (.int 2))) fdNil))) gTupD)) fdNil)) gLstD))) (r2 := [.ls [.fz (.int p)], .fz (.lst (shD shs1))]) (b := .lst (shD shs2)) (by rfl) cat)
    rw [seq_nx s2]
    have sv2 : dSh (dVar 1) [.ls [.fz (.int p)], .ls ((shD shs1 ++ shD shs2).map .fz)] = some (.lst (shD shs1 ++ shD shs2), [.ls [.fz (.int p)], .fz (.lst (shD shs1 ++ shD shs2))]) := by
      simp only [dSh, dVar, List.getElem?_cons_succ, List.getElem?_cons_zero, Option.bind_some, share, fzs_data]
      rfl
    have hc : dSh (dCall fn__law_take (daCons (dVar 0) (daCons (dC (.int 13)) daNil))) [.ls [.fz (.int p)], .fz (.lst (shD shs1 ++ shD shs2))] = some (.int r, [.ls [.fz (.int (p / 13))], .fz (.lst (shD shs1 ++ shD shs2))]) := by
      simp [fnD, dRet, xLift, dBool, dAnd, dOr, dNot, dBl, dSh, dIsi, dVar, share, T.data, D.isi, D.bool, retW, outP, keepP, dSeq, dIf, xbLift, dC, dOp, dWith, fdCons, fdNil, D.items, Rs.w, dChain, gLe, gLt, gGt, gGe, gRI0, gRI, gAdd, gSubI, dAsg, mv, gdName, dDrop, dCallX, dCall, daCons, daNil, pars, back, putBack, resW, dIfE, dNext, dRaise, dItemsT, dItemsL, dFor, dLift, W.tm, dTru, truth, isFz, dAug, gMul1, dScal, dScalT, T.frz, D.scal, dUn, gNeg, gTupD, gLstD, xNot, xBl, gIx, dSl, gSlT, pAt, pNo, dMv, gInt, dInR, ht]
    have gi : gIx [.lst (shD shs1 ++ shD shs2), .int r] = some (.val (.tup (l.map .int))) := by
      simp only [gIx, D.items, Option.bind_some, hat]
    have o := op_eval (g := gIx) sv2 hc gi
    change dRet (xLift (dOp gIx (dSh (dVar 1)) (dSh (dCall fn__law_take (daCons (dVar 0) (daCons (dC (.int 13)) daNil)))))) [.ls [.fz (.int p)], .ls ((shD shs1 ++ shD shs2).map .fz)] = _
    unfold dRet xLift
    rw [o]
    rfl
  have q := fn_rt (n := 1) (N := 2) (fx := [true]) (b := b__law_shape) (ps := ([T.ls [T.fz (.int p)]] : List T)) (d := .tup (l.map .int)) (r := ([T.ls [T.fz (.int (p / 13))], T.fz (.lst (shD shs1 ++ shD shs2))] : List T)) rfl key (by simp)
  exact q
end K7

set_option Elab.async false
set_option linter.all false
set_option maxRecDepth 100000
set_option maxHeartbeats 8000000
namespace K7
open PySem PySem.Spec PyProof.Rows L2 Q
/-! ### what the law draws -/
def stockS : List Str := ["yes", "no", "is", "put", "then", "either", "not"]
def leaf : D → Bool
  | .non => true
  | .bl _ => true
  | .int i => decide (-5 ≤ i ∧ i ≤ 30)
  | .str s => stockS.contains s
  | _ => false
mutual
def wt : D → Nat
  | .tup l => wtL l + 10
  | .lst l => wtL l + 10
  | _ => 100
def wtL : List D → Nat
  | [] => 0
  | d :: l => wt d + 2 + wtL l
end
mutual
def fin : D → Bool
  | .tup l => finL l
  | .lst l => finL l
  | .non => leaf .non
  | .bl b => leaf (.bl b)
  | .int i => leaf (.int i)
  | .str s => leaf (.str s)
  | _ => false
def finL : List D → Bool
  | [] => true
  | d :: l => fin d && finL l
end
/-! ### texts of what is drawn -/
theorem strOk_app (a b : Str) : PyData.strOk (a ++ b) = (PyData.strOk a && PyData.strOk b) := by
  show (a.cps ++ b.cps).all _ = _
  rw [Array.all_append]
  rfl
theorem litx : PyData.strOk (", " : String) = true ∧ PyData.strOk ("" : String) = true ∧ PyData.strOk ("[" : String) = true ∧ PyData.strOk ("]" : String) = true ∧ PyData.strOk ("(" : String) = true ∧ PyData.strOk (",)" : String) = true ∧ PyData.strOk (")" : String) = true := by decide +kernel
theorem strOk_join : ∀ ts : List Str, (∀ t ∈ ts, PyData.strOk t = true) → PyData.strOk (Str.join ", " ts) = true
  | [], _ => litx.2.1
  | [x], h => h x (by simp)
  | x :: y :: r, h => by
    show PyData.strOk (x ++ ", " ++ Str.join ", " (y :: r)) = true
    rw [strOk_app, strOk_app, h x (by simp), strOk_join (y :: r) fun t ht => h t (List.mem_cons_of_mem _ ht), litx.1]
    rfl
theorem strOk_from : ∀ (ts : List Str) (k : Nat) (acc : Str), (∀ t ∈ ts, PyData.strOk t = true) → PyData.strOk acc = true → PyData.strOk (textFrom k acc ts) = true
  | [], k, acc, _, h => h
  | t :: r, k, acc, ht, h => by
    refine strOk_from r (k + 1) _ (fun u hu => ht u (List.mem_cons_of_mem _ hu)) ?_
    rw [strOk_app, strOk_app, h, ht t (by simp)]
    split <;> simp [litx]
theorem strOk_tup (ts : List Str) (h : ∀ t ∈ ts, PyData.strOk t = true) : PyData.strOk (tupleText ts) = true := by
  unfold tupleText
  rw [strOk_app, strOk_app, strOk_join ts h]
  split <;> simp [litx]
theorem strOk_lst (ts : List Str) (h : ∀ t ∈ ts, PyData.strOk t = true) : PyData.strOk (listText ts) = true := by
  unfold listText
  rw [strOk_app, strOk_from ts 0 "[" h litx.2.2.1, litx.2.2.2.1]
  rfl
def Shw (d : D) : Prop := ∃ x, d.py = some x ∧ x.showable = true ∧ x.depth = dep d ∧ x.shown.length ≤ wt d ∧ PyData.strOk x.shown = true
def ShwL (l : List D) : Prop := ∃ xs, pyL l = some xs ∧ PyData.showableAll xs = true ∧ PyData.depthAll xs = depL l ∧ ((PyData.shownAll xs).map (·.length)).sum + 2 * l.length ≤ wtL l ∧ (PyData.shownAll xs).length = l.length ∧ ∀ t ∈ PyData.shownAll xs, PyData.strOk t = true
def leafs : List D := [.non, .bl true, .bl false] ++ stockS.map D.str ++ (List.range 36).map fun i : Nat => D.int ((i : Int) - 5)
def shwB (d : D) : Bool := match d.py with
  | some x => x.showable && decide (x.depth = dep d) && decide (x.shown.length ≤ wt d) && PyData.strOk x.shown
  | none => false
theorem leafs_ok : leafs.all shwB = true := by decide +kernel
theorem leafs_lv : leafs.all lv = true := by decide +kernel
theorem leaf_mem {d : D} (h : leaf d = true) : d ∈ leafs := by
  unfold leafs
  cases d with
  | non => simp
  | bl b => cases b <;> simp
  | int i =>
    simp only [leaf, decide_eq_true_eq] at h
    apply List.mem_append_right
    refine List.mem_map.mpr ⟨(i + 5).toNat, by rw [List.mem_range]; omega, ?_⟩
    congr 1
    omega
  | str s =>
    apply List.mem_append_left
    apply List.mem_append_right
    refine List.mem_map.mpr ⟨s, ?_, rfl⟩
    simpa [leaf] using h
  | _ => cases h
theorem shw_leaf {d : D} (h : leaf d = true) : Shw d := by
  have := List.all_eq_true.mp leafs_ok d (leaf_mem h)
  unfold shwB at this
  split at this
  · rename_i x e
    simp only [Bool.and_eq_true, decide_eq_true_eq] at this
    exact ⟨x, e, this.1.1.1, this.1.1.2, this.1.2, this.2⟩
  · cases this
mutual
theorem shw : ∀ d : D, fin d = true → Shw d
  | .tup l, h => by
    obtain ⟨xs, e, a1, a2, a3, a4, a5⟩ := shwL l (by simpa only [fin] using h)
    refine ⟨.tuple xs, by show (pyL l).map PyData.tuple = _; rw [e]; rfl, a1, ?_, ?_, strOk_tup _ a5⟩
    · simp only [PyData.depth, dep, a2]
    · have := tupleText_len_le (PyData.shownAll xs)
      show (tupleText (PyData.shownAll xs)).length ≤ _
      simp only [wt]
      omega
  | .lst l, h => by
    obtain ⟨xs, e, a1, a2, a3, a4, a5⟩ := shwL l (by simpa only [fin] using h)
    refine ⟨.list xs, by show (pyL l).map PyData.list = _; rw [e]; rfl, a1, ?_, ?_, strOk_lst _ a5⟩
    · simp only [PyData.depth, dep, a2]
    · have := listText_len_le (PyData.shownAll xs)
      show (listText (PyData.shownAll xs)).length ≤ _
      simp only [wt]
      omega
  | .non, h => shw_leaf h
  | .bl _, h => shw_leaf h
  | .int _, h => shw_leaf h
  | .str _, h => shw_leaf h
  | .dk _ _, h => by simp [fin] at h
  | .dt _ _, h => by simp [fin] at h
  | .exc _, h => by simp [fin] at h
  | .scr _, h => by simp [fin] at h
  | .fnc _, h => by simp [fin] at h
theorem shwL : ∀ l : List D, finL l = true → ShwL l
  | [], _ => ⟨[], rfl, rfl, rfl, by simp [PyData.shownAll, wtL], rfl, by simp [PyData.shownAll]⟩
  | d :: l, h => by
    simp only [finL, Bool.and_eq_true] at h
    obtain ⟨x, e, b1, b2, b3, b4⟩ := shw d h.1
    obtain ⟨xs, e2, a1, a2, a3, a4, a5⟩ := shwL l h.2
    refine ⟨x :: xs, ?_, ?_, ?_, ?_, ?_, ?_⟩
    · show (d.py.bind fun x => (pyL l).map (x :: ·)) = _
      rw [e, e2]
      rfl
    · simp [PyData.showableAll, b1, a1]
    · simp only [PyData.depthAll, depL, a2, b2]
    · simp only [PyData.shownAll, List.map_cons, List.sum_cons, List.length_cons, wtL]
      omega
    · simp [PyData.shownAll, a4]
    · intro t ht
      simp only [PyData.shownAll, List.mem_cons] at ht
      rcases ht with rfl | ht
      · exact b4
      · exact a5 t ht
end
mutual
theorem lv_fin : ∀ d : D, fin d = true → lv d = true
  | .tup l, h => by simp only [lv]; exact lvL_fin l (by simpa only [fin] using h)
  | .lst l, h => by simp only [lv]; exact lvL_fin l (by simpa only [fin] using h)
  | .non, h => rfl
  | .bl _, h => rfl
  | .int _, h => rfl
  | .str s, h => List.all_eq_true.mp leafs_lv _ (leaf_mem (by simpa only [fin] using h))
  | .dk _ _, h => by simp [fin] at h
  | .dt _ _, h => by simp [fin] at h
  | .exc _, h => by simp [fin] at h
  | .scr _, h => by simp [fin] at h
  | .fnc _, h => by simp [fin] at h
theorem lvL_fin : ∀ l : List D, finL l = true → lvL l = true
  | [], _ => rfl
  | d :: l, h => by
    simp only [finL, Bool.and_eq_true] at h
    simp only [lvL, Bool.and_eq_true]
    exact ⟨lv_fin d h.1, lvL_fin l h.2⟩
end
mutual
theorem size_wt : ∀ d : D, d.size ≤ wt d
  | .tup l => by have := sizeL_wt l; simp only [D.size, wt]; omega
  | .lst l => by have := sizeL_wt l; simp only [D.size, wt]; omega
  | .non => by simp [D.size, wt]
  | .bl _ => by simp [D.size, wt]
  | .int _ => by simp [D.size, wt]
  | .str _ => by simp [D.size, wt]
  | .dk _ _ => by simp [D.size, wt]
  | .dt _ _ => by simp [D.size, wt]
  | .exc _ => by simp [D.size, wt]
  | .scr _ => by simp [D.size, wt]
  | .fnc _ => by simp [D.size, wt]
theorem sizeL_wt : ∀ l : List D, sizeL l ≤ wtL l
  | [] => by simp [sizeL, wtL]
  | d :: l => by
    have := size_wt d
    have := sizeL_wt l
    simp only [sizeL, wtL]
    omega
end
theorem ne_str {s : Str} (h : PyData.strOk s = true) : gNe [.str s, .str s] = some (.val (.bl false)) := by
  show (if SeqAt.shaped (.str s) = true ∧ SeqAt.shaped (.str s) = true then some (Rs.val (.bl (!PyData.eqv (.str s) (.str s)))) else none) = _
  simp [SeqAt.shaped, PyData.eqv, PyData.canLay0, PyData.depth, h]
theorem rep_ok {d : D} (h : fin d = true) (hk : dep d ≤ 190) (hw : wt d ≤ 1000000) : ∃ s, gRep [d] = some (.val (.str s)) ∧ PyData.strOk s = true := by
  obtain ⟨x, e, b1, b2, b3, b4⟩ := shw d h
  exact ⟨x.shown, by show (d.py.bind _) = _; rw [e]; exact if_pos ⟨b1, by omega, by omega⟩, b4⟩
end K7

set_option Elab.async false
set_option linter.all false
set_option maxRecDepth 100000
set_option maxHeartbeats 8000000
namespace K7
open PySem PySem.Spec PyProof.Rows L2 Q
/-! ### matches -/
def valD (m : Int) : D → Bool
  | .int i => decide (-1 ≤ i) && decide (i < m)
  | _ => false
def matL : List Int → List D → Bool
  | [], [] => true
  | m :: l, d :: t => valD m d && matL l t
  | _, _ => false
def mat (l : List Int) : D → Bool
  | .tup t => matL l t
  | _ => false
theorem v_value {d : D} (m : Int) (h : lv d = true) : fn_is_value_or_any [.fz d, .fz (.int m)] = some (.ret (.fz (.bl (valD m d))), [.fz d, .fz (.int m)]) := by
  have hn := v_is_number h
  cases d with
  | int i =>
    by_cases c : -1 ≤ i
    · simp [fn_is_value_or_any, b_is_value_or_any, fnD, dRet, xLift, dBool, dAnd, dOr, dNot, dBl, dSh, dIsi, dVar, share, T.data, D.isi, D.bool, retW, outP, keepP, dSeq, dIf, xbLift, dC, dOp, dWith, fdCons, fdNil, D.items, Rs.w, dChain, gLe, gLt, gGt, gGe, gRI0, gRI, gAdd, gSubI, dAsg, mv, gdName, dDrop, dCallX, dCall, daCons, daNil, pars, back, putBack, resW, dIfE, dNext, dRaise, dItemsT, dItemsL, dFor, dLift, W.tm, dTru, truth, isFz, dAug, gMul1, dScal, dScalT, T.frz, D.scal, dUn, gNeg, gTupD, gLstD, xNot, xBl, gIx, dSl, gSlT, pAt, pNo, dMv, gInt, dInR, hn, isNum, valD, c]
    · simp [fn_is_value_or_any, b_is_value_or_any, fnD, dRet, xLift, dBool, dAnd, dOr, dNot, dBl, dSh, dIsi, dVar, share, T.data, D.isi, D.bool, retW, outP, keepP, dSeq, dIf, xbLift, dC, dOp, dWith, fdCons, fdNil, D.items, Rs.w, dChain, gLe, gLt, gGt, gGe, gRI0, gRI, gAdd, gSubI, dAsg, mv, gdName, dDrop, dCallX, dCall, daCons, daNil, pars, back, putBack, resW, dIfE, dNext, dRaise, dItemsT, dItemsL, dFor, dLift, W.tm, dTru, truth, isFz, dAug, gMul1, dScal, dScalT, T.frz, D.scal, dUn, gNeg, gTupD, gLstD, xNot, xBl, gIx, dSl, gSlT, pAt, pNo, dMv, gInt, dInR, hn, isNum, valD, c]
  | non => simp [fn_is_value_or_any, b_is_value_or_any, fnD, dRet, xLift, dBool, dAnd, dOr, dNot, dBl, dSh, dIsi, dVar, share, T.data, D.isi, D.bool, retW, outP, keepP, dSeq, dIf, xbLift, dC, dOp, dWith, fdCons, fdNil, D.items, Rs.w, dChain, gLe, gLt, gGt, gGe, gRI0, gRI, gAdd, gSubI, dAsg, mv, gdName, dDrop, dCallX, dCall, daCons, daNil, pars, back, putBack, resW, dIfE, dNext, dRaise, dItemsT, dItemsL, dFor, dLift, W.tm, dTru, truth, isFz, dAug, gMul1, dScal, dScalT, T.frz, D.scal, dUn, gNeg, gTupD, gLstD, xNot, xBl, gIx, dSl, gSlT, pAt, pNo, dMv, gInt, dInR, hn, isNum, valD]
  | bl b => simp [fn_is_value_or_any, b_is_value_or_any, fnD, dRet, xLift, dBool, dAnd, dOr, dNot, dBl, dSh, dIsi, dVar, share, T.data, D.isi, D.bool, retW, outP, keepP, dSeq, dIf, xbLift, dC, dOp, dWith, fdCons, fdNil, D.items, Rs.w, dChain, gLe, gLt, gGt, gGe, gRI0, gRI, gAdd, gSubI, dAsg, mv, gdName, dDrop, dCallX, dCall, daCons, daNil, pars, back, putBack, resW, dIfE, dNext, dRaise, dItemsT, dItemsL, dFor, dLift, W.tm, dTru, truth, isFz, dAug, gMul1, dScal, dScalT, T.frz, D.scal, dUn, gNeg, gTupD, gLstD, xNot, xBl, gIx, dSl, gSlT, pAt, pNo, dMv, gInt, dInR, hn, isNum, valD]
  | str b => simp [fn_is_value_or_any, b_is_value_or_any, fnD, dRet, xLift, dBool, dAnd, dOr, dNot, dBl, dSh, dIsi, dVar, share, T.data, D.isi, D.bool, retW, outP, keepP, dSeq, dIf, xbLift, dC, dOp, dWith, fdCons, fdNil, D.items, Rs.w, dChain, gLe, gLt, gGt, gGe, gRI0, gRI, gAdd, gSubI, dAsg, mv, gdName, dDrop, dCallX, dCall, daCons, daNil, pars, back, putBack, resW, dIfE, dNext, dRaise, dItemsT, dItemsL, dFor, dLift, W.tm, dTru, truth, isFz, dAug, gMul1, dScal, dScalT, T.frz, D.scal, dUn, gNeg, gTupD, gLstD, xNot, xBl, gIx, dSl, gSlT, pAt, pNo, dMv, gInt, dInR, hn, isNum, valD]
  | tup b => simp [fn_is_value_or_any, b_is_value_or_any, fnD, dRet, xLift, dBool, dAnd, dOr, dNot, dBl, dSh, dIsi, dVar, share, T.data, D.isi, D.bool, retW, outP, keepP, dSeq, dIf, xbLift, dC, dOp, dWith, fdCons, fdNil, D.items, Rs.w, dChain, gLe, gLt, gGt, gGe, gRI0, gRI, gAdd, gSubI, dAsg, mv, gdName, dDrop, dCallX, dCall, daCons, daNil, pars, back, putBack, resW, dIfE, dNext, dRaise, dItemsT, dItemsL, dFor, dLift, W.tm, dTru, truth, isFz, dAug, gMul1, dScal, dScalT, T.frz, D.scal, dUn, gNeg, gTupD, gLstD, xNot, xBl, gIx, dSl, gSlT, pAt, pNo, dMv, gInt, dInR, hn, isNum, valD]
  | lst b => simp [fn_is_value_or_any, b_is_value_or_any, fnD, dRet, xLift, dBool, dAnd, dOr, dNot, dBl, dSh, dIsi, dVar, share, T.data, D.isi, D.bool, retW, outP, keepP, dSeq, dIf, xbLift, dC, dOp, dWith, fdCons, fdNil, D.items, Rs.w, dChain, gLe, gLt, gGt, gGe, gRI0, gRI, gAdd, gSubI, dAsg, mv, gdName, dDrop, dCallX, dCall, daCons, daNil, pars, back, putBack, resW, dIfE, dNext, dRaise, dItemsT, dItemsL, dFor, dLift, W.tm, dTru, truth, isFz, dAug, gMul1, dScal, dScalT, T.frz, D.scal, dUn, gNeg, gTupD, gLstD, xNot, xBl, gIx, dSl, gSlT, pAt, pNo, dMv, gInt, dInR, hn, isNum, valD]
  | _ => simp [lv] at h
theorem matL_len : ∀ {l : List Int} {t : List D}, matL l t = true → t.length = l.length
  | [], [], _ => rfl
  | m :: l, d :: t, h => by
    simp only [matL, Bool.and_eq_true] at h
    simp [matL_len h.2]
  | [], _ :: _, h => by simp [matL] at h
  | _ :: _, [], h => by simp [matL] at h
def elV : FD := (dSh (dCall fn_is_value_or_any (daCons (dVar 2) (daCons (dVar 3) daNil))))
theorem elV_ev {a b : T} {d : D} {m : Int} (h : lv d = true) : elV [a, b, .fz d, .fz (.int m)] = some (.bl (valD m d), [a, b, .fz d, .fz (.int m)]) := by
  have hv := v_value m h
  simp [elV, fnD, dRet, xLift, dBool, dAnd, dOr, dNot, dBl, dSh, dIsi, dVar, share, T.data, D.isi, D.bool, retW, outP, keepP, dSeq, dIf, xbLift, dC, dOp, dWith, fdCons, fdNil, D.items, Rs.w, dChain, gLe, gLt, gGt, gGe, gRI0, gRI, gAdd, gSubI, dAsg, mv, gdName, dDrop, dCallX, dCall, daCons, daNil, pars, back, putBack, resW, dIfE, dNext, dRaise, dItemsT, dItemsL, dFor, dLift, W.tm, dTru, truth, isFz, dAug, gMul1, dScal, dScalT, T.frz, D.scal, dUn, gNeg, gTupD, gLstD, xNot, xBl, gIx, dSl, gSlT, pAt, pNo, dMv, gInt, dInR, hv]
theorem all_match {a b : T} : ∀ (l : List Int) (t : List D) (x y : T), lvL t = true → t.length = l.length → ∃ x' y', allD (gdTup 2 (gdCons (gdName 2) (gdCons (gdName 3) gdNil))) elV [2, 3] (zipD t (l.map .int)) [a, b, x, y] = some (matL l t, [a, b, x', y'])
  | [], [], x, y, _, _ => ⟨x, y, rfl⟩
  | m :: l, d :: t, x, y, h, hl => by
    simp only [lvL, Bool.and_eq_true] at h
    obtain ⟨x', y', e⟩ := all_match (a := a) (b := b) l t (.fz d) (.fz (.int m)) h.2 (by simpa using hl)
    have st : (gdTup 2 (gdCons (gdName 2) (gdCons (gdName 3) gdNil))) (wipeT [a, b, x, y] [2, 3]) (.fz (.tup [d, .int m])) = some [a, b, .fz d, .fz (.int m)] := by
      simp [gdTup, T.tupParts, gdCons, gdNil, wipeT, restore, slotP, gdName]
    have ev := elV_ev (a := a) (b := b) (m := m) h.1
    cases c : valD m d with
    | true =>
      rw [c] at ev
      refine ⟨x', y', ?_⟩
      simp only [zipD, List.map_cons, List.zipWith_cons_cons, allD, st, ev, Option.bind_some, matL, c, Bool.true_and]
      exact e
    | false =>
      rw [c] at ev
      refine ⟨.fz d, .fz (.int m), ?_⟩
      simp only [zipD, List.map_cons, List.zipWith_cons_cons, allD, st, ev, Option.bind_some, matL, c, Bool.false_and]
  | [], _ :: _, _, _, _, h => by simp at h
  | _ :: _, [], _, _, _, h => by simp at h
theorem v_is_match {l : List Int} {d : D} (h : lv d = true) : fn_is_match [.fz (.tup (l.map .int)), .fz d] = some (.ret (.fz (.bl (mat l d))), [.fz (.tup (l.map .int)), .fz d]) := by
  cases d with
  | tup t =>
    by_cases c : t.length = l.length
    · obtain ⟨x', y', e⟩ := all_match (a := .fz (.tup (l.map .int))) (b := .fz (.tup t)) l t .un .un (by simpa only [lv] using h) c
      have ag : dAllG (dZipA (fdCons (dSh (dVar 1)) (fdCons (dSh (dVar 0)) fdNil))) (gdTup 2 (gdCons (gdName 2) (gdCons (gdName 3) gdNil))) elV [2, 3] [.fz (.tup (l.map .int)), .fz (.tup t), .un, .un] = some (.sh (.bl (matL l t)), [.fz (.tup (l.map .int)), .fz (.tup t), .un, .un]) := by
        have z : dZipA (fdCons (dSh (dVar 1)) (fdCons (dSh (dVar 0)) fdNil)) [.fz (.tup (l.map .int)), .fz (.tup t), .un, .un] = some (zipD t (l.map .int), [.fz (.tup (l.map .int)), .fz (.tup t), .un, .un]) := by
          simp [dZipA, fnD, dRet, xLift, dBool, dAnd, dOr, dNot, dBl, dSh, dIsi, dVar, share, T.data, D.isi, D.bool, retW, outP, keepP, dSeq, dIf, xbLift, dC, dOp, dWith, fdCons, fdNil, D.items, Rs.w, dChain, gLe, gLt, gGt, gGe, gRI0, gRI, gAdd, gSubI, dAsg, mv, gdName, dDrop, dCallX, dCall, daCons, daNil, pars, back, putBack, resW, dIfE, dNext, dRaise, dItemsT, dItemsL, dFor, dLift, W.tm, dTru, truth, isFz, dAug, gMul1, dScal, dScalT, T.frz, D.scal, dUn, gNeg, gTupD, gLstD, xNot, xBl, gIx, dSl, gSlT, pAt, pNo, dMv, gInt, dInR]
        unfold dAllG
        rw [z]
        simp only [Option.bind_some, e]
        simp [restore, slotP, keepP]
      have key : b_is_match [.fz (.tup (l.map .int)), .fz (.tup t), .un, .un] = some (.rt (.sh (.bl (matL l t))) [.fz (.tup (l.map .int)), .fz (.tup t), .un, .un]) := by
        unfold b_is_match
        rw [seq_nx (r1 := [.fz (.tup (l.map .int)), .fz (.tup t), .un, .un]) (by simp [fnD, dRet, xLift, dBool, dAnd, dOr, dNot, dBl, dSh, dIsi, dVar, share, T.data, D.isi, D.bool, retW, outP, keepP, dSeq, dIf, xbLift, dC, dOp, dWith, fdCons, fdNil, D.items, Rs.w, dChain, gLe, gLt, gGt, gGe, gRI0, gRI, gAdd, gSubI, dAsg, mv, gdName, dDrop, dCallX, dCall, daCons, daNil, pars, back, putBack, resW, dIfE, dNext, dRaise, dItemsT, dItemsL, dFor, dLift, W.tm, dTru, truth, isFz, dAug, gMul1, dScal, dScalT, T.frz, D.scal, dUn, gNeg, gTupD, gLstD, xNot, xBl, gIx, dSl, gSlT, pAt, pNo, dMv, gInt, dInR, len_tup, ne_int, c])]
        change dRet (xLift (dAllG _ _ elV [2, 3])) _ = _
        unfold dRet xLift
        rw [ag]
        rfl
      exact (fn_rt (n := 2) (N := 4) (fx := [true, true]) (ps := ([T.fz (.tup (l.map .int)), T.fz (.tup t)] : List T)) (by rfl) key (by simp)).trans (by simp [outP, mat])
    · have n : matL l t = false := by
        cases q : matL l t with
        | true => exact absurd (matL_len q) c
        | false => rfl
      have c2 : ((t.length : Int) == (l.length : Int)) = false := by simp; omega
      simp [fn_is_match, b_is_match, fnD, dRet, xLift, dBool, dAnd, dOr, dNot, dBl, dSh, dIsi, dVar, share, T.data, D.isi, D.bool, retW, outP, keepP, dSeq, dIf, xbLift, dC, dOp, dWith, fdCons, fdNil, D.items, Rs.w, dChain, gLe, gLt, gGt, gGe, gRI0, gRI, gAdd, gSubI, dAsg, mv, gdName, dDrop, dCallX, dCall, daCons, daNil, pars, back, putBack, resW, dIfE, dNext, dRaise, dItemsT, dItemsL, dFor, dLift, W.tm, dTru, truth, isFz, dAug, gMul1, dScal, dScalT, T.frz, D.scal, dUn, gNeg, gTupD, gLstD, xNot, xBl, gIx, dSl, gSlT, pAt, pNo, dMv, gInt, dInR, len_tup, ne_int, c2, mat, n]
  | non => simp [fn_is_match, b_is_match, fnD, dRet, xLift, dBool, dAnd, dOr, dNot, dBl, dSh, dIsi, dVar, share, T.data, D.isi, D.bool, retW, outP, keepP, dSeq, dIf, xbLift, dC, dOp, dWith, fdCons, fdNil, D.items, Rs.w, dChain, gLe, gLt, gGt, gGe, gRI0, gRI, gAdd, gSubI, dAsg, mv, gdName, dDrop, dCallX, dCall, daCons, daNil, pars, back, putBack, resW, dIfE, dNext, dRaise, dItemsT, dItemsL, dFor, dLift, W.tm, dTru, truth, isFz, dAug, gMul1, dScal, dScalT, T.frz, D.scal, dUn, gNeg, gTupD, gLstD, xNot, xBl, gIx, dSl, gSlT, pAt, pNo, dMv, gInt, dInR, mat]
  | bl b => simp [fn_is_match, b_is_match, fnD, dRet, xLift, dBool, dAnd, dOr, dNot, dBl, dSh, dIsi, dVar, share, T.data, D.isi, D.bool, retW, outP, keepP, dSeq, dIf, xbLift, dC, dOp, dWith, fdCons, fdNil, D.items, Rs.w, dChain, gLe, gLt, gGt, gGe, gRI0, gRI, gAdd, gSubI, dAsg, mv, gdName, dDrop, dCallX, dCall, daCons, daNil, pars, back, putBack, resW, dIfE, dNext, dRaise, dItemsT, dItemsL, dFor, dLift, W.tm, dTru, truth, isFz, dAug, gMul1, dScal, dScalT, T.frz, D.scal, dUn, gNeg, gTupD, gLstD, xNot, xBl, gIx, dSl, gSlT, pAt, pNo, dMv, gInt, dInR, mat]
  | int b => simp [fn_is_match, b_is_match, fnD, dRet, xLift, dBool, dAnd, dOr, dNot, dBl, dSh, dIsi, dVar, share, T.data, D.isi, D.bool, retW, outP, keepP, dSeq, dIf, xbLift, dC, dOp, dWith, fdCons, fdNil, D.items, Rs.w, dChain, gLe, gLt, gGt, gGe, gRI0, gRI, gAdd, gSubI, dAsg, mv, gdName, dDrop, dCallX, dCall, daCons, daNil, pars, back, putBack, resW, dIfE, dNext, dRaise, dItemsT, dItemsL, dFor, dLift, W.tm, dTru, truth, isFz, dAug, gMul1, dScal, dScalT, T.frz, D.scal, dUn, gNeg, gTupD, gLstD, xNot, xBl, gIx, dSl, gSlT, pAt, pNo, dMv, gInt, dInR, mat]
  | str b => simp [fn_is_match, b_is_match, fnD, dRet, xLift, dBool, dAnd, dOr, dNot, dBl, dSh, dIsi, dVar, share, T.data, D.isi, D.bool, retW, outP, keepP, dSeq, dIf, xbLift, dC, dOp, dWith, fdCons, fdNil, D.items, Rs.w, dChain, gLe, gLt, gGt, gGe, gRI0, gRI, gAdd, gSubI, dAsg, mv, gdName, dDrop, dCallX, dCall, daCons, daNil, pars, back, putBack, resW, dIfE, dNext, dRaise, dItemsT, dItemsL, dFor, dLift, W.tm, dTru, truth, isFz, dAug, gMul1, dScal, dScalT, T.frz, D.scal, dUn, gNeg, gTupD, gLstD, xNot, xBl, gIx, dSl, gSlT, pAt, pNo, dMv, gInt, dInR, mat]
  | lst b => simp [fn_is_match, b_is_match, fnD, dRet, xLift, dBool, dAnd, dOr, dNot, dBl, dSh, dIsi, dVar, share, T.data, D.isi, D.bool, retW, outP, keepP, dSeq, dIf, xbLift, dC, dOp, dWith, fdCons, fdNil, D.items, Rs.w, dChain, gLe, gLt, gGt, gGe, gRI0, gRI, gAdd, gSubI, dAsg, mv, gdName, dDrop, dCallX, dCall, daCons, daNil, pars, back, putBack, resW, dIfE, dNext, dRaise, dItemsT, dItemsL, dFor, dLift, W.tm, dTru, truth, isFz, dAug, gMul1, dScal, dScalT, T.frz, D.scal, dUn, gNeg, gTupD, gLstD, xNot, xBl, gIx, dSl, gSlT, pAt, pNo, dMv, gInt, dInR, mat]
  | _ => simp [lv] at h
theorem atI_nat (t : List D) (i : Nat) : atI t (i : Int) = t[i]? := by
  by_cases c : i < t.length
  · rw [atN (by omega) (by omega)]; rfl
  · rw [List.getElem?_eq_none (by omega)]
    have : ¬ ((i : Int) < (t.length : Int)) := by omega
    simp [atI, ixN, this]
end K7

set_option Elab.async false
set_option linter.all false
set_option maxRecDepth 100000
set_option maxHeartbeats 8000000
namespace K7
open PySem PySem.Spec PyProof.Rows L2 Q
/-! ### rising lists of tuples -/
section
local instance tb0 : TbS := ⟨fun _ => False⟩
theorem intsD_map : ∀ k : List Int, intsD (k.map .int) = some k
  | [] => rfl
  | x :: k => by simp only [List.map_cons, intsD, intsD_map k]; rfl
theorem tupsI_map : ∀ ks : List (List Int), tupsI (ks.map tupD) = some ks
  | [] => rfl
  | k :: ks => by
    show ((intsD (k.map .int)).bind fun n => (tupsI (ks.map tupD)).map (n :: ·)) = _
    rw [intsD_map, tupsI_map ks]
    rfl
theorem matL_ints : ∀ {l : List Int} {t : List D}, matL l t = true → ∃ k : List Int, t = k.map .int ∧ k.length = l.length
  | [], [], _ => ⟨[], rfl, rfl⟩
  | m :: l, d :: t, h => by
    simp only [matL, Bool.and_eq_true] at h
    obtain ⟨k, rfl, hk⟩ := matL_ints h.2
    cases d with
    | int i => exact ⟨i :: k, rfl, by simp [hk]⟩
    | _ => simp [valD] at h
  | [], _ :: _, h => by simp [matL] at h
  | _ :: _, [], h => by simp [matL] at h
theorem mats_tups {l : List Int} : ∀ {cs : List D}, cs.all (mat l) = true → ∃ ks : List (List Int), cs = ks.map tupD ∧ ∀ k ∈ ks, k.length = l.length
  | [], _ => ⟨[], rfl, by simp⟩
  | d :: cs, h => by
    simp only [List.all_cons, Bool.and_eq_true] at h
    obtain ⟨ks, rfl, hk⟩ := mats_tups h.2
    cases d with
    | tup t =>
      obtain ⟨k, rfl, hl⟩ := matL_ints (show matL l t = true from h.1)
      refine ⟨k :: ks, rfl, fun j hj => ?_⟩
      rcases List.mem_cons.mp hj with rfl | hj
      · exact hl
      · exact hk j hj
    | _ => simp [mat] at h
def riseI : List (List Int) → Bool
  | a :: b :: r => HT.lexLt a b && riseI (b :: r)
  | _ => true
def risD (cs : List D) : Bool := match tupsI cs with
  | some ks => riseI ks
  | none => false
theorem risD_map (ks : List (List Int)) : risD (ks.map tupD) = riseI ks := by
  unfold risD
  rw [tupsI_map]
theorem lexLt_eq : ∀ a b : List Int, HT.lexLt a b = lexI a b
  | [], [] => rfl
  | [], _ :: _ => rfl
  | _ :: _, [] => rfl
  | x :: a, y :: b => by
    simp only [HT.lexLt, lexI, lexLt_eq a b]
theorem rise_st : ∀ {ks : List (List Int)}, riseI ks = true → StI ks
  | [], _ => .nil
  | [a], _ => by simp [StI]
  | a :: b :: r, h => by
    simp only [riseI, Bool.and_eq_true, lexLt_eq] at h
    have ih := rise_st h.2
    refine List.pairwise_cons.mpr ⟨fun c hc => ?_, ih⟩
    rcases List.mem_cons.mp hc with rfl | hc
    · exact h.1
    · exact lexI_lt_tr h.1 ((List.pairwise_cons.mp ih).1 c hc)
theorem st_rise : ∀ {ks : List (List Int)}, StI ks → riseI ks = true
  | [], _ => rfl
  | [a], _ => rfl
  | a :: b :: r, h => by
    have p := List.pairwise_cons.mp h
    simp only [riseI, Bool.and_eq_true, lexLt_eq]
    exact ⟨p.1 b (by simp), st_rise p.2⟩
theorem rise_sort (ks : List (List Int)) : riseI ks = decide (ks = sortI ks) := by
  cases c : riseI ks with
  | true =>
    symm
    rw [decide_eq_true_eq]
    exact st_uniq (rise_st c) (st_sortI ks) fun y => mem_sortI.symm
  | false =>
    symm
    rw [decide_eq_false_iff_not]
    intro z
    have := st_sortI ks
    rw [← z] at this
    rw [st_rise this] at c
    cases c
end
theorem py_ints : ∀ k : List Int, pyL (k.map .int) = some (k.map PyData.int)
  | [] => rfl
  | x :: k => by
    show ((D.int x).py.bind fun z => (pyL (k.map .int)).map (z :: ·)) = _
    rw [py_ints k]
    rfl
theorem py_tups : ∀ ks : List (List Int), pyL (ks.map tupD) = some (ks.map fun k => PyData.tuple (k.map PyData.int))
  | [] => rfl
  | k :: ks => by
    show ((tupD k).py.bind fun z => (pyL (ks.map tupD)).map (z :: ·)) = _
    rw [py_tups ks]
    show (((pyL (k.map .int)).map PyData.tuple).bind fun z => _) = _
    rw [py_ints k]
    rfl
theorem eqv_ints : ∀ a b : List Int, PyData.eqvAll (a.map PyData.int) (b.map PyData.int) = decide (a = b)
  | [], [] => rfl
  | [], _ :: _ => by simp [PyData.eqvAll]
  | _ :: _, [] => by simp [PyData.eqvAll]
  | x :: a, y :: b => by
    simp only [List.map_cons, PyData.eqvAll, PyData.eqv, eqv_ints a b, List.cons.injEq, Bool.decide_and]
    rfl
theorem eqv_tups : ∀ a b : List (List Int), PyData.eqvAll (a.map fun k => PyData.tuple (k.map PyData.int)) (b.map fun k => PyData.tuple (k.map PyData.int)) = decide (a = b)
  | [], [] => rfl
  | [], _ :: _ => by simp [PyData.eqvAll]
  | _ :: _, [] => by simp [PyData.eqvAll]
  | x :: a, y :: b => by
    simp only [List.map_cons, PyData.eqvAll, PyData.eqv, eqv_tups a b, eqv_ints, List.cons.injEq, Bool.decide_and]
theorem lay_ints : ∀ a : List Int, PyData.canLayAll0 (a.map PyData.int) = true ∧ PyData.depthAll (a.map PyData.int) = 0
  | [] => ⟨rfl, rfl⟩
  | x :: a => by
    obtain ⟨h1, h2⟩ := lay_ints a
    exact ⟨by simp [PyData.canLayAll0, PyData.canLay0, h1], by simp [PyData.depthAll, PyData.depth, h2]⟩
theorem lay_tups : ∀ a : List (List Int), PyData.canLayAll0 (a.map fun k => PyData.tuple (k.map PyData.int)) = true ∧ PyData.depthAll (a.map fun k => PyData.tuple (k.map PyData.int)) ≤ 1
  | [] => ⟨rfl, by simp [PyData.depthAll]⟩
  | x :: a => by
    obtain ⟨h1, h2⟩ := lay_tups a
    obtain ⟨h3, h4⟩ := lay_ints x
    exact ⟨by simp [PyData.canLayAll0, PyData.canLay0, h1, h3], by simp only [List.map_cons, PyData.depthAll, PyData.depth, h4]; omega⟩
theorem ne_tups (a b : List (List Int)) : gNe [.lst (a.map tupD), .lst (b.map tupD)] = some (.val (.bl (!decide (a = b)))) := by
  have hp : ∀ a : List (List Int), (D.lst (a.map tupD)).py = some (.list (a.map fun k => PyData.tuple (k.map PyData.int))) := fun a => by
    show (pyL _).map PyData.list = _
    rw [py_tups]
    rfl
  have hs : ∀ a : List (List Int), SeqAt.shaped (.list (a.map fun k => PyData.tuple (k.map PyData.int))) = true := fun a => by
    obtain ⟨h1, h2⟩ := lay_tups a
    simp only [SeqAt.shaped, PyData.canLay0, h1, PyData.depth, Bool.true_and, decide_eq_true_eq]
    exact decide_eq_true (by omega)
  show ((D.lst (a.map tupD)).py.bind fun x => (D.lst (b.map tupD)).py.bind fun y => if SeqAt.shaped x = true ∧ SeqAt.shaped y = true then some (Rs.val (.bl (!PyData.eqv x y))) else none) = _
  rw [hp, hp]
  simp only [Option.bind_some, hs, and_self, if_true, PyData.eqv, eqv_tups]
theorem ss_tups {ks : List (List Int)} {n : Nat} (h0 : 0 < n) (h1 : ks.length < 64) (h : ∀ k ∈ ks, k.length = n) : gSS (.lst (ks.map tupD)) = some ((sortI ks).map tupD) := by
  show ((tupsI (ks.map tupD)).bind fun ks => if ks.length < 64 ∧ (ks.all fun k => k.length == (ks.headD [0]).length && decide (0 < k.length)) = true then some ((sortI ks).map tupD) else none) = _
  rw [tupsI_map]
  have ha : (ks.all fun k => k.length == (ks.headD [0]).length && decide (0 < k.length)) = true := by
    cases ks with
    | nil => rfl
    | cons a r =>
      rw [List.all_eq_true]
      intro k hk
      have e1 := h a (by simp)
      have e2 := h k hk
      simp [e1, e2, h0]
  simp only [Option.bind_some, h1, ha, and_self, if_true]
end K7

set_option Elab.async false
set_option linter.all false
set_option maxRecDepth 100000
set_option maxHeartbeats 8000000
namespace K7
open PySem PySem.Spec PyProof.Rows L2 Q
/-! ### rules and tables -/
theorem len_lst (l : List D) : gLen [.lst l] = some (.val (.int l.length)) := rfl
theorem cutL (l : List D) : Q.cutD l (some 1) none = l.drop 1 := by
  cases l with
  | nil => simp [Q.cutD]
  | cons x l => rw [cut1]; rfl
def elM : FD := (dSh (dCall fn_is_match (daCons (dVar 0) (daCons (dVar 2) daNil))))
theorem all_mats {l : List Int} {b y : T} : ∀ (cs : List D) (x : T), lvL cs = true → ∃ x', allD (gdName 2) elM [2] cs [.fz (.tup (l.map .int)), b, x, y] = some (cs.all (mat l), [.fz (.tup (l.map .int)), b, x', y])
  | [], x, _ => ⟨x, rfl⟩
  | d :: cs, x, h => by
    simp only [lvL, Bool.and_eq_true] at h
    obtain ⟨x', e⟩ := all_mats (l := l) (b := b) (y := y) cs (.fz d) h.2
    have hm := v_is_match (l := l) h.1
    have ev : elM [.fz (.tup (l.map .int)), b, .fz d, y] = some (.bl (mat l d), [.fz (.tup (l.map .int)), b, .fz d, y]) := by
      simp [elM, fnD, dRet, xLift, dBool, dAnd, dOr, dNot, dBl, dSh, dIsi, dVar, share, T.data, D.isi, D.bool, retW, outP, keepP, dSeq, dIf, xbLift, dC, dOp, dWith, fdCons, fdNil, D.items, Rs.w, dChain, gLe, gLt, gGt, gGe, gRI0, gRI, gAdd, gSubI, dAsg, mv, gdName, dDrop, dCallX, dCall, daCons, daNil, pars, back, putBack, resW, dIfE, dNext, dRaise, dItemsT, dItemsL, dFor, dLift, W.tm, dTru, truth, isFz, dAug, gMul1, dScal, dScalT, T.frz, D.scal, dUn, gNeg, gTupD, gLstD, xNot, xBl, gIx, dSl, gSlT, pAt, pNo, dMv, gInt, dInR, hm]
    cases c : mat l d with
    | true =>
      rw [c] at ev
      refine ⟨x', ?_⟩
      simp only [allD, wipeT, gdName, List.set_cons_succ, List.set_cons_zero, Option.bind_some, ev, List.all_cons, c, Bool.true_and]
      exact e
    | false =>
      rw [c] at ev
      refine ⟨.fz d, ?_⟩
      simp only [allD, wipeT, gdName, List.set_cons_succ, List.set_cons_zero, Option.bind_some, ev, List.all_cons, c, Bool.false_and]
def elL : FD := (dSh (dOp gLtT (dSh (dVar 2)) (dSh (dVar 3))))
theorem all_lts {a b : T} : ∀ (ks : List (List Int)) (x y : T), ∃ x' y', allD (gdTup 2 (gdCons (gdName 2) (gdCons (gdName 3) gdNil))) elL [2, 3] (zipD (ks.map tupD) ((ks.map tupD).drop 1)) [a, b, x, y] = some (riseI ks, [a, b, x', y'])
  | [], x, y => ⟨x, y, rfl⟩
  | [k], x, y => ⟨x, y, rfl⟩
  | k :: j :: ks, x, y => by
    obtain ⟨x', y', e⟩ := all_lts (a := a) (b := b) (j :: ks) (.fz (tupD k)) (.fz (tupD j))
    have st : (gdTup 2 (gdCons (gdName 2) (gdCons (gdName 3) gdNil))) (wipeT [a, b, x, y] [2, 3]) (.fz (.tup [tupD k, tupD j])) = some [a, b, .fz (tupD k), .fz (tupD j)] := by
      simp [gdTup, T.tupParts, gdCons, gdNil, wipeT, restore, slotP, gdName]
    have gl : gLtT [tupD k, tupD j] = some (.val (.bl (HT.lexLt k j))) := by
      show ((intsD (k.map .int)).bind fun ns => (intsD (j.map .int)).bind fun ms => some (Rs.val (.bl (HT.lexLt ns ms)))) = _
      rw [intsD_map, intsD_map]
      rfl
    have ev : elL [a, b, .fz (tupD k), .fz (tupD j)] = some (.bl (HT.lexLt k j), [a, b, .fz (tupD k), .fz (tupD j)]) := by
      simp [elL, fnD, dRet, xLift, dBool, dAnd, dOr, dNot, dBl, dSh, dIsi, dVar, share, T.data, D.isi, D.bool, retW, outP, keepP, dSeq, dIf, xbLift, dC, dOp, dWith, fdCons, fdNil, D.items, Rs.w, dChain, gLe, gLt, gGt, gGe, gRI0, gRI, gAdd, gSubI, dAsg, mv, gdName, dDrop, dCallX, dCall, daCons, daNil, pars, back, putBack, resW, dIfE, dNext, dRaise, dItemsT, dItemsL, dFor, dLift, W.tm, dTru, truth, isFz, dAug, gMul1, dScal, dScalT, T.frz, D.scal, dUn, gNeg, gTupD, gLstD, xNot, xBl, gIx, dSl, gSlT, pAt, pNo, dMv, gInt, dInR, gl]
    cases c : HT.lexLt k j with
    | true =>
      rw [c] at ev
      refine ⟨x', y', ?_⟩
      simp only [zipD, List.map_cons, List.drop_succ_cons, List.drop_zero, List.zipWith_cons_cons, allD, st, ev, Option.bind_some, riseI, c, Bool.true_and]
      exact e
    | false =>
      rw [c] at ev
      refine ⟨.fz (tupD k), .fz (tupD j), ?_⟩
      simp only [zipD, List.map_cons, List.drop_succ_cons, List.drop_zero, List.zipWith_cons_cons, allD, st, ev, Option.bind_some, riseI, c, Bool.false_and]
def chg (l : List Int) : D → Bool
  | .lst cs => cs.all (mat l) && risD cs
  | _ => false
theorem v_are_changes {l : List Int} {d : D} (h : lv d = true) : fn_are_changes [.fz (.tup (l.map .int)), .fz d] = some (.ret (.fz (.bl (chg l d))), [.fz (.tup (l.map .int)), .fz d]) := by
  cases d with
  | lst cs =>
    obtain ⟨x', e⟩ := all_mats (l := l) (b := .fz (.lst cs)) (y := .un) cs .un (by simpa only [lv] using h)
    have ag : dAllG (dItemsL (dSh (dVar 1))) (gdName 2) elM [2] [.fz (.tup (l.map .int)), .fz (.lst cs), .un, .un] = some (.sh (.bl (cs.all (mat l))), [.fz (.tup (l.map .int)), .fz (.lst cs), .un, .un]) := by
      have z : dItemsL (dSh (dVar 1)) [.fz (.tup (l.map .int)), .fz (.lst cs), .un, .un] = some (cs, [.fz (.tup (l.map .int)), .fz (.lst cs), .un, .un]) := by
        simp [fnD, dRet, xLift, dBool, dAnd, dOr, dNot, dBl, dSh, dIsi, dVar, share, T.data, D.isi, D.bool, retW, outP, keepP, dSeq, dIf, xbLift, dC, dOp, dWith, fdCons, fdNil, D.items, Rs.w, dChain, gLe, gLt, gGt, gGe, gRI0, gRI, gAdd, gSubI, dAsg, mv, gdName, dDrop, dCallX, dCall, daCons, daNil, pars, back, putBack, resW, dIfE, dNext, dRaise, dItemsT, dItemsL, dFor, dLift, W.tm, dTru, truth, isFz, dAug, gMul1, dScal, dScalT, T.frz, D.scal, dUn, gNeg, gTupD, gLstD, xNot, xBl, gIx, dSl, gSlT, pAt, pNo, dMv, gInt, dInR]
      unfold dAllG
      rw [z]
      simp only [Option.bind_some, e]
      simp [restore, slotP, keepP]
    have key : b_are_changes [.fz (.tup (l.map .int)), .fz (.lst cs), .un, .un] = some (.rt (.sh (.bl (chg l (.lst cs)))) [.fz (.tup (l.map .int)), .fz (.lst cs), .un, .un]) := by
      have fst : (dIf (xbLift (dOr (dNot (dBl (dSh (dIsi .list (dSh (dVar 1)))))) (dNot (dBl (dSh (dAllG (dItemsL (dSh (dVar 1))) (gdName 2) elM [2])))))) (dRet (xLift (dC (.bl false)))) dNext) [.fz (.tup (l.map .int)), .fz (.lst cs), .un, .un] = some (if cs.all (mat l) = true then .nx [.fz (.tup (l.map .int)), .fz (.lst cs), .un, .un] else .rt (.sh (.bl false)) [.fz (.tup (l.map .int)), .fz (.lst cs), .un, .un]) := by
        generalize hq : cs.all (mat l) = q at ag ⊢
        cases q <;> simp [fnD, dRet, xLift, dBool, dAnd, dOr, dNot, dBl, dSh, dIsi, dVar, share, T.data, D.isi, D.bool, retW, outP, keepP, dSeq, dIf, xbLift, dC, dOp, dWith, fdCons, fdNil, D.items, Rs.w, dChain, gLe, gLt, gGt, gGe, gRI0, gRI, gAdd, gSubI, dAsg, mv, gdName, dDrop, dCallX, dCall, daCons, daNil, pars, back, putBack, resW, dIfE, dNext, dRaise, dItemsT, dItemsL, dFor, dLift, W.tm, dTru, truth, isFz, dAug, gMul1, dScal, dScalT, T.frz, D.scal, dUn, gNeg, gTupD, gLstD, xNot, xBl, gIx, dSl, gSlT, pAt, pNo, dMv, gInt, dInR, ag]
      unfold b_are_changes
      change dSeq (dIf (xbLift (dOr (dNot (dBl (dSh (dIsi .list (dSh (dVar 1)))))) (dNot (dBl (dSh (dAllG (dItemsL (dSh (dVar 1))) (gdName 2) elM [2])))))) (dRet (xLift (dC (.bl false)))) dNext) (dRet (xLift (dAllG _ _ elL [2, 3]))) _ = _
      cases c : cs.all (mat l) with
      | false =>
        rw [c] at fst
        rw [seq_rt fst]
        simp only [chg, c, Bool.false_and]
      | true =>
        rw [c] at fst
        rw [seq_nx fst]
        obtain ⟨ks, rfl, hk⟩ := mats_tups c
        obtain ⟨x', y', e2⟩ := all_lts (a := .fz (.tup (l.map .int))) (b := .fz (.lst (ks.map tupD))) ks .un .un
        have z : dZipA (fdCons (dSh (dVar 1)) (fdCons (dSh (dSl gSlL (dSh (dVar 1)) (pAt (dSh (dC (.int 1)))) pNo)) fdNil)) [.fz (.tup (l.map .int)), .fz (.lst (ks.map tupD)), .un, .un] = some (zipD (ks.map tupD) ((ks.map tupD).drop 1), [.fz (.tup (l.map .int)), .fz (.lst (ks.map tupD)), .un, .un]) := by
          generalize ks.map tupD = cs
          have q1 : dSh (dVar 1) [.fz (.tup (l.map .int)), .fz (.lst cs), .un, .un] = some (.lst cs, [.fz (.tup (l.map .int)), .fz (.lst cs), .un, .un]) := by rfl
          have q2 : dSh (dSl gSlL (dSh (dVar 1)) (pAt (dSh (dC (.int 1)))) pNo) [.fz (.tup (l.map .int)), .fz (.lst cs), .un, .un] = some (.lst (cs.drop 1), [.fz (.tup (l.map .int)), .fz (.lst cs), .un, .un]) := by
            refine sh_nw (t := .ls ((cs.drop 1).map .fz)) ?_ (fzs_data _)
            unfold dSl
            rw [q1]
            have pa : pAt (dSh (dC (.int 1))) [.fz (.tup (l.map .int)), .fz (.lst cs), .un, .un] = some (some 1, [.fz (.tup (l.map .int)), .fz (.lst cs), .un, .un]) := rfl
            simp only [Option.bind_some, pNo, pa, gSlL, cutL]
            rfl
          unfold dZipA
          simp only [fdCons, fdNil, q1, q2, Option.bind_some]
        have ag2 : dAllG (dZipA (fdCons (dSh (dVar 1)) (fdCons (dSh (dSl gSlL (dSh (dVar 1)) (pAt (dSh (dC (.int 1)))) pNo)) fdNil))) (gdTup 2 (gdCons (gdName 2) (gdCons (gdName 3) gdNil))) elL [2, 3] [.fz (.tup (l.map .int)), .fz (.lst (ks.map tupD)), .un, .un] = some (.sh (.bl (riseI ks)), [.fz (.tup (l.map .int)), .fz (.lst (ks.map tupD)), .un, .un]) := by
          unfold dAllG
          rw [z]
          simp only [Option.bind_some, e2]
          simp [restore, slotP, keepP]
        unfold dRet xLift
        rw [ag2]
        simp only [chg, c, Bool.true_and, risD_map]
        rfl
    exact (fn_rt (n := 2) (N := 4) (fx := [true, true]) (ps := ([T.fz (.tup (l.map .int)), T.fz (.lst cs)] : List T)) (by rfl) key (by simp)).trans (by simp [outP])
  | non => simp [fn_are_changes, b_are_changes, fnD, dRet, xLift, dBool, dAnd, dOr, dNot, dBl, dSh, dIsi, dVar, share, T.data, D.isi, D.bool, retW, outP, keepP, dSeq, dIf, xbLift, dC, dOp, dWith, fdCons, fdNil, D.items, Rs.w, dChain, gLe, gLt, gGt, gGe, gRI0, gRI, gAdd, gSubI, dAsg, mv, gdName, dDrop, dCallX, dCall, daCons, daNil, pars, back, putBack, resW, dIfE, dNext, dRaise, dItemsT, dItemsL, dFor, dLift, W.tm, dTru, truth, isFz, dAug, gMul1, dScal, dScalT, T.frz, D.scal, dUn, gNeg, gTupD, gLstD, xNot, xBl, gIx, dSl, gSlT, pAt, pNo, dMv, gInt, dInR, chg]
  | bl b => simp [fn_are_changes, b_are_changes, fnD, dRet, xLift, dBool, dAnd, dOr, dNot, dBl, dSh, dIsi, dVar, share, T.data, D.isi, D.bool, retW, outP, keepP, dSeq, dIf, xbLift, dC, dOp, dWith, fdCons, fdNil, D.items, Rs.w, dChain, gLe, gLt, gGt, gGe, gRI0, gRI, gAdd, gSubI, dAsg, mv, gdName, dDrop, dCallX, dCall, daCons, daNil, pars, back, putBack, resW, dIfE, dNext, dRaise, dItemsT, dItemsL, dFor, dLift, W.tm, dTru, truth, isFz, dAug, gMul1, dScal, dScalT, T.frz, D.scal, dUn, gNeg, gTupD, gLstD, xNot, xBl, gIx, dSl, gSlT, pAt, pNo, dMv, gInt, dInR, chg]
  | int b => simp [fn_are_changes, b_are_changes, fnD, dRet, xLift, dBool, dAnd, dOr, dNot, dBl, dSh, dIsi, dVar, share, T.data, D.isi, D.bool, retW, outP, keepP, dSeq, dIf, xbLift, dC, dOp, dWith, fdCons, fdNil, D.items, Rs.w, dChain, gLe, gLt, gGt, gGe, gRI0, gRI, gAdd, gSubI, dAsg, mv, gdName, dDrop, dCallX, dCall, daCons, daNil, pars, back, putBack, resW, dIfE, dNext, dRaise, dItemsT, dItemsL, dFor, dLift, W.tm, dTru, truth, isFz, dAug, gMul1, dScal, dScalT, T.frz, D.scal, dUn, gNeg, gTupD, gLstD, xNot, xBl, gIx, dSl, gSlT, pAt, pNo, dMv, gInt, dInR, chg]
  | str b => simp [fn_are_changes, b_are_changes, fnD, dRet, xLift, dBool, dAnd, dOr, dNot, dBl, dSh, dIsi, dVar, share, T.data, D.isi, D.bool, retW, outP, keepP, dSeq, dIf, xbLift, dC, dOp, dWith, fdCons, fdNil, D.items, Rs.w, dChain, gLe, gLt, gGt, gGe, gRI0, gRI, gAdd, gSubI, dAsg, mv, gdName, dDrop, dCallX, dCall, daCons, daNil, pars, back, putBack, resW, dIfE, dNext, dRaise, dItemsT, dItemsL, dFor, dLift, W.tm, dTru, truth, isFz, dAug, gMul1, dScal, dScalT, T.frz, D.scal, dUn, gNeg, gTupD, gLstD, xNot, xBl, gIx, dSl, gSlT, pAt, pNo, dMv, gInt, dInR, chg]
  | tup b => simp [fn_are_changes, b_are_changes, fnD, dRet, xLift, dBool, dAnd, dOr, dNot, dBl, dSh, dIsi, dVar, share, T.data, D.isi, D.bool, retW, outP, keepP, dSeq, dIf, xbLift, dC, dOp, dWith, fdCons, fdNil, D.items, Rs.w, dChain, gLe, gLt, gGt, gGe, gRI0, gRI, gAdd, gSubI, dAsg, mv, gdName, dDrop, dCallX, dCall, daCons, daNil, pars, back, putBack, resW, dIfE, dNext, dRaise, dItemsT, dItemsL, dFor, dLift, W.tm, dTru, truth, isFz, dAug, gMul1, dScal, dScalT, T.frz, D.scal, dUn, gNeg, gTupD, gLstD, xNot, xBl, gIx, dSl, gSlT, pAt, pNo, dMv, gInt, dInR, chg]
  | _ => simp [lv] at h
def rlD (l : List Int) : D → Bool
  | .tup [a, b] => mat l a && chg l b
  | _ => false
theorem v_is_rule {l : List Int} {d : D} (h : lv d = true) : fn_is_rule [.fz (.tup (l.map .int)), .fz d] = some (.ret (.fz (.bl (rlD l d))), [.fz (.tup (l.map .int)), .fz d]) := by
  cases d with
  | tup t =>
    match t, h with
    | [], _ => simp [fn_is_rule, b_is_rule, fnD, dRet, xLift, dBool, dAnd, dOr, dNot, dBl, dSh, dIsi, dVar, share, T.data, D.isi, D.bool, retW, outP, keepP, dSeq, dIf, xbLift, dC, dOp, dWith, fdCons, fdNil, D.items, Rs.w, dChain, gLe, gLt, gGt, gGe, gRI0, gRI, gAdd, gSubI, dAsg, mv, gdName, dDrop, dCallX, dCall, daCons, daNil, pars, back, putBack, resW, dIfE, dNext, dRaise, dItemsT, dItemsL, dFor, dLift, W.tm, dTru, truth, isFz, dAug, gMul1, dScal, dScalT, T.frz, D.scal, dUn, gNeg, gTupD, gLstD, xNot, xBl, gIx, dSl, gSlT, pAt, pNo, dMv, gInt, dInR, len_tup, eq_int, rlD]
    | [a], _ => simp [fn_is_rule, b_is_rule, fnD, dRet, xLift, dBool, dAnd, dOr, dNot, dBl, dSh, dIsi, dVar, share, T.data, D.isi, D.bool, retW, outP, keepP, dSeq, dIf, xbLift, dC, dOp, dWith, fdCons, fdNil, D.items, Rs.w, dChain, gLe, gLt, gGt, gGe, gRI0, gRI, gAdd, gSubI, dAsg, mv, gdName, dDrop, dCallX, dCall, daCons, daNil, pars, back, putBack, resW, dIfE, dNext, dRaise, dItemsT, dItemsL, dFor, dLift, W.tm, dTru, truth, isFz, dAug, gMul1, dScal, dScalT, T.frz, D.scal, dUn, gNeg, gTupD, gLstD, xNot, xBl, gIx, dSl, gSlT, pAt, pNo, dMv, gInt, dInR, len_tup, eq_int, rlD]
    | [a, b], h =>
      simp only [lv, lvL, Bool.and_eq_true] at h
      have h1 := v_is_match (l := l) h.1
      have h2 := v_are_changes (l := l) h.2.1
      cases c : mat l a with
      | true =>
        rw [c] at h1
        simp [fn_is_rule, b_is_rule, fnD, dRet, xLift, dBool, dAnd, dOr, dNot, dBl, dSh, dIsi, dVar, share, T.data, D.isi, D.bool, retW, outP, keepP, dSeq, dIf, xbLift, dC, dOp, dWith, fdCons, fdNil, D.items, Rs.w, dChain, gLe, gLt, gGt, gGe, gRI0, gRI, gAdd, gSubI, dAsg, mv, gdName, dDrop, dCallX, dCall, daCons, daNil, pars, back, putBack, resW, dIfE, dNext, dRaise, dItemsT, dItemsL, dFor, dLift, W.tm, dTru, truth, isFz, dAug, gMul1, dScal, dScalT, T.frz, D.scal, dUn, gNeg, gTupD, gLstD, xNot, xBl, gIx, dSl, gSlT, pAt, pNo, dMv, gInt, dInR, len_tup, eq_int, rlD, at0, at1, h1, h2, c]
      | false =>
        rw [c] at h1
        simp [fn_is_rule, b_is_rule, fnD, dRet, xLift, dBool, dAnd, dOr, dNot, dBl, dSh, dIsi, dVar, share, T.data, D.isi, D.bool, retW, outP, keepP, dSeq, dIf, xbLift, dC, dOp, dWith, fdCons, fdNil, D.items, Rs.w, dChain, gLe, gLt, gGt, gGe, gRI0, gRI, gAdd, gSubI, dAsg, mv, gdName, dDrop, dCallX, dCall, daCons, daNil, pars, back, putBack, resW, dIfE, dNext, dRaise, dItemsT, dItemsL, dFor, dLift, W.tm, dTru, truth, isFz, dAug, gMul1, dScal, dScalT, T.frz, D.scal, dUn, gNeg, gTupD, gLstD, xNot, xBl, gIx, dSl, gSlT, pAt, pNo, dMv, gInt, dInR, len_tup, eq_int, rlD, at0, at1, h1, h2, c]
    | a :: b :: c :: r, _ =>
      have n : ((r.length : Int) + 1 + 1 + 1 == 2) = false := by simp; omega
      simp [fn_is_rule, b_is_rule, fnD, dRet, xLift, dBool, dAnd, dOr, dNot, dBl, dSh, dIsi, dVar, share, T.data, D.isi, D.bool, retW, outP, keepP, dSeq, dIf, xbLift, dC, dOp, dWith, fdCons, fdNil, D.items, Rs.w, dChain, gLe, gLt, gGt, gGe, gRI0, gRI, gAdd, gSubI, dAsg, mv, gdName, dDrop, dCallX, dCall, daCons, daNil, pars, back, putBack, resW, dIfE, dNext, dRaise, dItemsT, dItemsL, dFor, dLift, W.tm, dTru, truth, isFz, dAug, gMul1, dScal, dScalT, T.frz, D.scal, dUn, gNeg, gTupD, gLstD, xNot, xBl, gIx, dSl, gSlT, pAt, pNo, dMv, gInt, dInR, len_tup, eq_int, rlD, n]
  | non => simp [fn_is_rule, b_is_rule, fnD, dRet, xLift, dBool, dAnd, dOr, dNot, dBl, dSh, dIsi, dVar, share, T.data, D.isi, D.bool, retW, outP, keepP, dSeq, dIf, xbLift, dC, dOp, dWith, fdCons, fdNil, D.items, Rs.w, dChain, gLe, gLt, gGt, gGe, gRI0, gRI, gAdd, gSubI, dAsg, mv, gdName, dDrop, dCallX, dCall, daCons, daNil, pars, back, putBack, resW, dIfE, dNext, dRaise, dItemsT, dItemsL, dFor, dLift, W.tm, dTru, truth, isFz, dAug, gMul1, dScal, dScalT, T.frz, D.scal, dUn, gNeg, gTupD, gLstD, xNot, xBl, gIx, dSl, gSlT, pAt, pNo, dMv, gInt, dInR, rlD]
  | bl b => simp [fn_is_rule, b_is_rule, fnD, dRet, xLift, dBool, dAnd, dOr, dNot, dBl, dSh, dIsi, dVar, share, T.data, D.isi, D.bool, retW, outP, keepP, dSeq, dIf, xbLift, dC, dOp, dWith, fdCons, fdNil, D.items, Rs.w, dChain, gLe, gLt, gGt, gGe, gRI0, gRI, gAdd, gSubI, dAsg, mv, gdName, dDrop, dCallX, dCall, daCons, daNil, pars, back, putBack, resW, dIfE, dNext, dRaise, dItemsT, dItemsL, dFor, dLift, W.tm, dTru, truth, isFz, dAug, gMul1, dScal, dScalT, T.frz, D.scal, dUn, gNeg, gTupD, gLstD, xNot, xBl, gIx, dSl, gSlT, pAt, pNo, dMv, gInt, dInR, rlD]
  | int b => simp [fn_is_rule, b_is_rule, fnD, dRet, xLift, dBool, dAnd, dOr, dNot, dBl, dSh, dIsi, dVar, share, T.data, D.isi, D.bool, retW, outP, keepP, dSeq, dIf, xbLift, dC, dOp, dWith, fdCons, fdNil, D.items, Rs.w, dChain, gLe, gLt, gGt, gGe, gRI0, gRI, gAdd, gSubI, dAsg, mv, gdName, dDrop, dCallX, dCall, daCons, daNil, pars, back, putBack, resW, dIfE, dNext, dRaise, dItemsT, dItemsL, dFor, dLift, W.tm, dTru, truth, isFz, dAug, gMul1, dScal, dScalT, T.frz, D.scal, dUn, gNeg, gTupD, gLstD, xNot, xBl, gIx, dSl, gSlT, pAt, pNo, dMv, gInt, dInR, rlD]
  | str b => simp [fn_is_rule, b_is_rule, fnD, dRet, xLift, dBool, dAnd, dOr, dNot, dBl, dSh, dIsi, dVar, share, T.data, D.isi, D.bool, retW, outP, keepP, dSeq, dIf, xbLift, dC, dOp, dWith, fdCons, fdNil, D.items, Rs.w, dChain, gLe, gLt, gGt, gGe, gRI0, gRI, gAdd, gSubI, dAsg, mv, gdName, dDrop, dCallX, dCall, daCons, daNil, pars, back, putBack, resW, dIfE, dNext, dRaise, dItemsT, dItemsL, dFor, dLift, W.tm, dTru, truth, isFz, dAug, gMul1, dScal, dScalT, T.frz, D.scal, dUn, gNeg, gTupD, gLstD, xNot, xBl, gIx, dSl, gSlT, pAt, pNo, dMv, gInt, dInR, rlD]
  | lst b => simp [fn_is_rule, b_is_rule, fnD, dRet, xLift, dBool, dAnd, dOr, dNot, dBl, dSh, dIsi, dVar, share, T.data, D.isi, D.bool, retW, outP, keepP, dSeq, dIf, xbLift, dC, dOp, dWith, fdCons, fdNil, D.items, Rs.w, dChain, gLe, gLt, gGt, gGe, gRI0, gRI, gAdd, gSubI, dAsg, mv, gdName, dDrop, dCallX, dCall, daCons, daNil, pars, back, putBack, resW, dIfE, dNext, dRaise, dItemsT, dItemsL, dFor, dLift, W.tm, dTru, truth, isFz, dAug, gMul1, dScal, dScalT, T.frz, D.scal, dUn, gNeg, gTupD, gLstD, xNot, xBl, gIx, dSl, gSlT, pAt, pNo, dMv, gInt, dInR, rlD]
  | _ => simp [lv] at h
def elR : FD := (dSh (dCall fn_is_rule (daCons (dVar 0) (daCons (dVar 2) daNil))))
theorem all_rules {l : List Int} {b : T} : ∀ (cs : List D) (x : T), lvL cs = true → ∃ x', allD (gdName 2) elR [2] cs [.fz (.tup (l.map .int)), b, x] = some (cs.all (rlD l), [.fz (.tup (l.map .int)), b, x'])
  | [], x, _ => ⟨x, rfl⟩
  | d :: cs, x, h => by
    simp only [lvL, Bool.and_eq_true] at h
    obtain ⟨x', e⟩ := all_rules (l := l) (b := b) cs (.fz d) h.2
    have hm := v_is_rule (l := l) h.1
    have ev : elR [.fz (.tup (l.map .int)), b, .fz d] = some (.bl (rlD l d), [.fz (.tup (l.map .int)), b, .fz d]) := by
      simp [elR, fnD, dRet, xLift, dBool, dAnd, dOr, dNot, dBl, dSh, dIsi, dVar, share, T.data, D.isi, D.bool, retW, outP, keepP, dSeq, dIf, xbLift, dC, dOp, dWith, fdCons, fdNil, D.items, Rs.w, dChain, gLe, gLt, gGt, gGe, gRI0, gRI, gAdd, gSubI, dAsg, mv, gdName, dDrop, dCallX, dCall, daCons, daNil, pars, back, putBack, resW, dIfE, dNext, dRaise, dItemsT, dItemsL, dFor, dLift, W.tm, dTru, truth, isFz, dAug, gMul1, dScal, dScalT, T.frz, D.scal, dUn, gNeg, gTupD, gLstD, xNot, xBl, gIx, dSl, gSlT, pAt, pNo, dMv, gInt, dInR, hm]
    cases c : rlD l d with
    | true =>
      rw [c] at ev
      refine ⟨x', ?_⟩
      simp only [allD, wipeT, gdName, List.set_cons_succ, List.set_cons_zero, Option.bind_some, ev, List.all_cons, c, Bool.true_and]
      exact e
    | false =>
      rw [c] at ev
      refine ⟨.fz d, ?_⟩
      simp only [allD, wipeT, gdName, List.set_cons_succ, List.set_cons_zero, Option.bind_some, ev, List.all_cons, c, Bool.false_and]
def tbD (l : List Int) : D → Bool
  | .lst rs => decide (rs.length ≤ 60) && rs.all (rlD l)
  | _ => false
theorem v_is_table {Z : Zs} {l : List Int} {d : D} (hs : GSh (l.map .int)) (h : lv d = true) : fn_is_table Z [.fz (.tup (l.map .int)), .fz d] = some (.ret (.fz (.bl (tbD l d))), [.fz (.tup (l.map .int)), .fz d]) := by
  have hc := v_check (Z := Z) hs
  cases d with
  | lst rs =>
    obtain ⟨x', e⟩ := all_rules (l := l) (b := .fz (.lst rs)) rs .un (by simpa only [lv] using h)
    have ag : dAllG (dItemsL (dSh (dVar 1))) (gdName 2) elR [2] [.fz (.tup (l.map .int)), .fz (.lst rs), .un] = some (.sh (.bl (rs.all (rlD l))), [.fz (.tup (l.map .int)), .fz (.lst rs), .un]) := by
      have z : dItemsL (dSh (dVar 1)) [.fz (.tup (l.map .int)), .fz (.lst rs), .un] = some (rs, [.fz (.tup (l.map .int)), .fz (.lst rs), .un]) := by
        simp [fnD, dRet, xLift, dBool, dAnd, dOr, dNot, dBl, dSh, dIsi, dVar, share, T.data, D.isi, D.bool, retW, outP, keepP, dSeq, dIf, xbLift, dC, dOp, dWith, fdCons, fdNil, D.items, Rs.w, dChain, gLe, gLt, gGt, gGe, gRI0, gRI, gAdd, gSubI, dAsg, mv, gdName, dDrop, dCallX, dCall, daCons, daNil, pars, back, putBack, resW, dIfE, dNext, dRaise, dItemsT, dItemsL, dFor, dLift, W.tm, dTru, truth, isFz, dAug, gMul1, dScal, dScalT, T.frz, D.scal, dUn, gNeg, gTupD, gLstD, xNot, xBl, gIx, dSl, gSlT, pAt, pNo, dMv, gInt, dInR]
      unfold dAllG
      rw [z]
      simp only [Option.bind_some, e]
      simp [restore, slotP, keepP]
    have key : b_is_table Z [.fz (.tup (l.map .int)), .fz (.lst rs), .un] = some (.rt (.sh (.bl (tbD l (.lst rs)))) [.fz (.tup (l.map .int)), .fz (.lst rs), .un]) := by
      unfold b_is_table
      rw [seq_nx (r1 := [.fz (.tup (l.map .int)), .fz (.lst rs), .un]) (by simp [fnD, dRet, xLift, dBool, dAnd, dOr, dNot, dBl, dSh, dIsi, dVar, share, T.data, D.isi, D.bool, retW, outP, keepP, dSeq, dIf, xbLift, dC, dOp, dWith, fdCons, fdNil, D.items, Rs.w, dChain, gLe, gLt, gGt, gGe, gRI0, gRI, gAdd, gSubI, dAsg, mv, gdName, dDrop, dCallX, dCall, daCons, daNil, pars, back, putBack, resW, dIfE, dNext, dRaise, dItemsT, dItemsL, dFor, dLift, W.tm, dTru, truth, isFz, dAug, gMul1, dScal, dScalT, T.frz, D.scal, dUn, gNeg, gTupD, gLstD, xNot, xBl, gIx, dSl, gSlT, pAt, pNo, dMv, gInt, dInR, hc])]
      change dRet (xLift (dBool (dAnd (dBl (dSh (dIsi .list (dSh (dVar 1))))) (dBl (dSh (dBool (dAnd (dBl (dSh (dOp gLe (dSh (dWith (fdCons (dSh (dVar 1)) fdNil) gLen)) (dSh (dC (.int (60))))))) (dBl (dSh (dAllG (dItemsL (dSh (dVar 1))) (gdName 2) elR [2])))))))))) _ = _
      simp only [tbD]
      generalize hq : rs.all (rlD l) = q at ag ⊢
      by_cases c : rs.length ≤ 60
      · have c2 : (rs.length : Int) ≤ 60 := by omega
        simp [fnD, dRet, xLift, dBool, dAnd, dOr, dNot, dBl, dSh, dIsi, dVar, share, T.data, D.isi, D.bool, retW, outP, keepP, dSeq, dIf, xbLift, dC, dOp, dWith, fdCons, fdNil, D.items, Rs.w, dChain, gLe, gLt, gGt, gGe, gRI0, gRI, gAdd, gSubI, dAsg, mv, gdName, dDrop, dCallX, dCall, daCons, daNil, pars, back, putBack, resW, dIfE, dNext, dRaise, dItemsT, dItemsL, dFor, dLift, W.tm, dTru, truth, isFz, dAug, gMul1, dScal, dScalT, T.frz, D.scal, dUn, gNeg, gTupD, gLstD, xNot, xBl, gIx, dSl, gSlT, pAt, pNo, dMv, gInt, dInR, ag, len_lst, c, c2]
      · have c2 : ¬ ((rs.length : Int) ≤ 60) := by omega
        simp [fnD, dRet, xLift, dBool, dAnd, dOr, dNot, dBl, dSh, dIsi, dVar, share, T.data, D.isi, D.bool, retW, outP, keepP, dSeq, dIf, xbLift, dC, dOp, dWith, fdCons, fdNil, D.items, Rs.w, dChain, gLe, gLt, gGt, gGe, gRI0, gRI, gAdd, gSubI, dAsg, mv, gdName, dDrop, dCallX, dCall, daCons, daNil, pars, back, putBack, resW, dIfE, dNext, dRaise, dItemsT, dItemsL, dFor, dLift, W.tm, dTru, truth, isFz, dAug, gMul1, dScal, dScalT, T.frz, D.scal, dUn, gNeg, gTupD, gLstD, xNot, xBl, gIx, dSl, gSlT, pAt, pNo, dMv, gInt, dInR, ag, len_lst, c, c2]
    exact (fn_rt (n := 2) (N := 3) (fx := [true, true]) (ps := ([T.fz (.tup (l.map .int)), T.fz (.lst rs)] : List T)) (by rfl) key (by simp)).trans (by simp [outP])
  | non => simp [fn_is_table, b_is_table, fnD, dRet, xLift, dBool, dAnd, dOr, dNot, dBl, dSh, dIsi, dVar, share, T.data, D.isi, D.bool, retW, outP, keepP, dSeq, dIf, xbLift, dC, dOp, dWith, fdCons, fdNil, D.items, Rs.w, dChain, gLe, gLt, gGt, gGe, gRI0, gRI, gAdd, gSubI, dAsg, mv, gdName, dDrop, dCallX, dCall, daCons, daNil, pars, back, putBack, resW, dIfE, dNext, dRaise, dItemsT, dItemsL, dFor, dLift, W.tm, dTru, truth, isFz, dAug, gMul1, dScal, dScalT, T.frz, D.scal, dUn, gNeg, gTupD, gLstD, xNot, xBl, gIx, dSl, gSlT, pAt, pNo, dMv, gInt, dInR, hc, tbD]
  | bl b => simp [fn_is_table, b_is_table, fnD, dRet, xLift, dBool, dAnd, dOr, dNot, dBl, dSh, dIsi, dVar, share, T.data, D.isi, D.bool, retW, outP, keepP, dSeq, dIf, xbLift, dC, dOp, dWith, fdCons, fdNil, D.items, Rs.w, dChain, gLe, gLt, gGt, gGe, gRI0, gRI, gAdd, gSubI, dAsg, mv, gdName, dDrop, dCallX, dCall, daCons, daNil, pars, back, putBack, resW, dIfE, dNext, dRaise, dItemsT, dItemsL, dFor, dLift, W.tm, dTru, truth, isFz, dAug, gMul1, dScal, dScalT, T.frz, D.scal, dUn, gNeg, gTupD, gLstD, xNot, xBl, gIx, dSl, gSlT, pAt, pNo, dMv, gInt, dInR, hc, tbD]
  | int b => simp [fn_is_table, b_is_table, fnD, dRet, xLift, dBool, dAnd, dOr, dNot, dBl, dSh, dIsi, dVar, share, T.data, D.isi, D.bool, retW, outP, keepP, dSeq, dIf, xbLift, dC, dOp, dWith, fdCons, fdNil, D.items, Rs.w, dChain, gLe, gLt, gGt, gGe, gRI0, gRI, gAdd, gSubI, dAsg, mv, gdName, dDrop, dCallX, dCall, daCons, daNil, pars, back, putBack, resW, dIfE, dNext, dRaise, dItemsT, dItemsL, dFor, dLift, W.tm, dTru, truth, isFz, dAug, gMul1, dScal, dScalT, T.frz, D.scal, dUn, gNeg, gTupD, gLstD, xNot, xBl, gIx, dSl, gSlT, pAt, pNo, dMv, gInt, dInR, hc, tbD]
  | str b => simp [fn_is_table, b_is_table, fnD, dRet, xLift, dBool, dAnd, dOr, dNot, dBl, dSh, dIsi, dVar, share, T.data, D.isi, D.bool, retW, outP, keepP, dSeq, dIf, xbLift, dC, dOp, dWith, fdCons, fdNil, D.items, Rs.w, dChain, gLe, gLt, gGt, gGe, gRI0, gRI, gAdd, gSubI, dAsg, mv, gdName, dDrop, dCallX, dCall, daCons, daNil, pars, back, putBack, resW, dIfE, dNext, dRaise, dItemsT, dItemsL, dFor, dLift, W.tm, dTru, truth, isFz, dAug, gMul1, dScal, dScalT, T.frz, D.scal, dUn, gNeg, gTupD, gLstD, xNot, xBl, gIx, dSl, gSlT, pAt, pNo, dMv, gInt, dInR, hc, tbD]
  | tup b => simp [fn_is_table, b_is_table, fnD, dRet, xLift, dBool, dAnd, dOr, dNot, dBl, dSh, dIsi, dVar, share, T.data, D.isi, D.bool, retW, outP, keepP, dSeq, dIf, xbLift, dC, dOp, dWith, fdCons, fdNil, D.items, Rs.w, dChain, gLe, gLt, gGt, gGe, gRI0, gRI, gAdd, gSubI, dAsg, mv, gdName, dDrop, dCallX, dCall, daCons, daNil, pars, back, putBack, resW, dIfE, dNext, dRaise, dItemsT, dItemsL, dFor, dLift, W.tm, dTru, truth, isFz, dAug, gMul1, dScal, dScalT, T.frz, D.scal, dUn, gNeg, gTupD, gLstD, xNot, xBl, gIx, dSl, gSlT, pAt, pNo, dMv, gInt, dInR, hc, tbD]
  | _ => simp [lv] at h
theorem v_check_table {Z : Zs} {l : List Int} {d : D} (hs : GSh (l.map .int)) (h : lv d = true) (ht : tbD l d = true) : fn_check_table Z [.fz (.tup (l.map .int)), .fz d] = some (.ret (.fz .non), [.fz (.tup (l.map .int)), .fz d]) := by
  have t := v_is_table (Z := Z) hs h
  rw [ht] at t
  simp [fn_check_table, b_check_table, fnD, dRet, xLift, dBool, dAnd, dOr, dNot, dBl, dSh, dIsi, dVar, share, T.data, D.isi, D.bool, retW, outP, keepP, dSeq, dIf, xbLift, dC, dOp, dWith, fdCons, fdNil, D.items, Rs.w, dChain, gLe, gLt, gGt, gGe, gRI0, gRI, gAdd, gSubI, dAsg, mv, gdName, dDrop, dCallX, dCall, daCons, daNil, pars, back, putBack, resW, dIfE, dNext, dRaise, dItemsT, dItemsL, dFor, dLift, W.tm, dTru, truth, isFz, dAug, gMul1, dScal, dScalT, T.frz, D.scal, dUn, gNeg, gTupD, gLstD, xNot, xBl, gIx, dSl, gSlT, pAt, pNo, dMv, gInt, dInR, t]
end K7

set_option Elab.async false
set_option linter.all false
set_option maxRecDepth 100000
set_option maxHeartbeats 8000000
namespace K7
open PySem PySem.Spec PyProof.Rows L2 Q
local macro_rules | `(tactic| walk_at "norm") => `(tactic| focus (first | (simp only [List.map_cons, List.map_nil]; done) | ((try simp only [List.map_cons, List.map_nil]); exact rfl)))
local macro_rules | `(tactic| walk_at "set") => `(tactic| focus (first | (dsimp only [List.set_cons_succ, List.set_cons_zero]; done) | ((try dsimp only [List.set_cons_succ, List.set_cons_zero]); exact rfl)))
local macro_rules | `(tactic| walk_at "frz") => `(tactic| focus (first | (simp only [frzE_cons, frzE_nil, frz_fz, frz_un, frz_ls, frz_ls1]; done) | ((try simp only [frzE_cons, frzE_nil, frz_fz, frz_un, frz_ls, frz_ls1]); exact rfl)))
local macro_rules | `(tactic| walk_at "pars") => `(tactic| focus (first | (simp only [pars, List.getElem?_cons_succ, List.getElem?_cons_zero, Option.bind_some, List.set_cons_succ, List.set_cons_zero]; done) | ((try simp only [pars, List.getElem?_cons_succ, List.getElem?_cons_zero, Option.bind_some, List.set_cons_succ, List.set_cons_zero]); exact rfl)))
local macro_rules | `(tactic| walk_at "back") => `(tactic| focus (first | (simp only [back, putBack, List.getElem?_cons_succ, List.getElem?_cons_zero, List.set_cons_succ, List.set_cons_zero]; done) | ((try simp only [back, putBack, List.getElem?_cons_succ, List.getElem?_cons_zero, List.set_cons_succ, List.set_cons_zero]); exact rfl)))
local macro_rules | `(tactic| walk_at "restore") => `(tactic| focus (first | with_reducible assumption | (simp only [restore, slotP, keepP, List.getElem?_cons_succ, List.getElem?_cons_zero, List.set_cons_succ, List.set_cons_zero]; done) | ((try simp only [restore, slotP, keepP, List.getElem?_cons_succ, List.getElem?_cons_zero, List.set_cons_succ, List.set_cons_zero]); exact rfl)))
local macro_rules | `(tactic| walk_at "wipe") => `(tactic| focus (first | (simp only [wipeT, List.set_cons_succ, List.set_cons_zero]; done) | ((try simp only [wipeT, List.set_cons_succ, List.set_cons_zero]); exact rfl)))
local macro_rules | `(tactic| walk_at "out") => `(tactic| focus (first | (simp only [outP, keepP, if_true, Bool.false_eq_true, if_false]; done) | ((try simp only [outP, keepP, if_true, Bool.false_eq_true, if_false]); exact rfl)))
local macro_rules | `(tactic| walk_at "side") => `(tactic| (first | with_reducible assumption | omega | decide))
local macro_rules | `(tactic| walk_at "mul") => `(tactic| (first | with_reducible assumption | exact mulW_small 62 62 (by omega) (by omega) (by decide) (by decide) (by decide)))
local macro_rules | `(tactic| walk_at "len") => `(tactic| focus ((try simp only [List.length_cons, List.length_nil, List.length_append, List.length_replicate, List.length_map]) <;> (first | omega | with_reducible assumption)))
local macro_rules | `(tactic| walk_at "at") => `(tactic| (first | with_reducible assumption | exact rfl))
local macro_rules | `(tactic| walk_at "eq") => `(tactic| (first | with_reducible assumption | with_reducible exact EV.eqI _ _ | with_reducible exact EV.neI _ _))
local macro_rules | `(tactic| walk_at "rep") => `(tactic| (with_reducible assumption))
local macro_rules | `(tactic| walk_at "in") => `(tactic| (first | with_reducible assumption | exact rfl))
local macro_rules | `(tactic| walk_at "ss") => `(tactic| (with_reducible assumption))
local macro_rules | `(tactic| walk_at "tru") => `(tactic| (first | exact rfl | with_reducible assumption))
local macro_rules | `(tactic| walk_at "call") => `(tactic| (with_reducible assumption))
local macro_rules | `(tactic| walk_at "aug") => `(tactic| (exact rfl))
local macro_rules | `(tactic| walk_at "bt") => `(tactic| (first | exact rfl | with_reducible assumption | (simp only [decide_eq_true_eq, decide_eq_false_iff_not, Bool.not_eq_true', Bool.not_eq_false', Bool.and_eq_true, Bool.or_eq_true, Bool.and_eq_false_iff, Bool.or_eq_false_iff, beq_iff_eq, beq_eq_false_iff_ne, ne_eq]; omega)))
local macro_rules | `(tactic| walk_at "ev") => `(tactic| first
  | ((with_reducible apply EV.shV); (exact rfl))
  | ((with_reducible apply EV.shO); (exact rfl); (walk_at "set"))
  | ((with_reducible apply EV.shD); (exact rfl); (with_reducible assumption); (walk_at "set"))
  | ((with_reducible exact EV.cE _))
  | ((with_reducible apply EV.shS); (walk_at "ev"))
  | ((with_reducible apply EV.shN); (walk_at "ev"))
  | ((with_reducible apply EV.scal); (walk_at "frz"); (walk_at "ev"); (exact rfl))
  | ((with_reducible apply EV.lift); (walk_at "ev"))
  | ((with_reducible exact EV.cW _))
  | ((with_reducible apply EV.varF); (exact rfl))
  | ((with_reducible apply EV.varL); (exact rfl))
  | ((with_reducible exact EV.fn))
  | ((with_reducible apply EV.fc); (walk_at "ev"); (walk_at "ev"))
  | ((with_reducible exact EV.an))
  | ((with_reducible apply EV.ac); (walk_at "ev"); (walk_at "ev"))
  | ((with_reducible exact EV.mn))
  | ((with_reducible apply EV.mc); (walk_at "ev"); (walk_at "ev"))
  | ((with_reducible apply EV.mV); (exact rfl))
  | ((with_reducible apply EV.mO); (exact rfl); (walk_at "set"))
  | ((with_reducible apply EV.mvMF); (exact rfl); (walk_at "set"))
  | ((with_reducible apply EV.mvML); (exact rfl); (walk_at "set"))
  | ((with_reducible apply EV.mS); (walk_at "ev"))
  | ((with_reducible apply EV.mN); (walk_at "ev"))
  | ((with_reducible apply EV.add); (walk_at "ev"); (walk_at "ev"))
  | ((with_reducible apply EV.sub); (walk_at "ev"); (walk_at "ev"))
  | ((with_reducible apply EV.mul); (walk_at "ev"); (walk_at "ev"); (walk_at "mul"))
  | ((with_reducible apply EV.mod); (walk_at "ev"); (walk_at "ev"); (walk_at "side"))
  | ((with_reducible apply EV.div); (walk_at "ev"); (walk_at "ev"); (walk_at "side"))
  | ((with_reducible apply EV.pow); (walk_at "ev"); (walk_at "ev"); (walk_at "side"))
  | ((with_reducible apply EV.shl); (walk_at "ev"); (walk_at "ev"); (walk_at "side"))
  | ((with_reducible apply EV.shr); (walk_at "ev"); (walk_at "ev"); (walk_at "side"))
  | ((with_reducible apply EV.band); (walk_at "ev"); (walk_at "ev"))
  | ((with_reducible apply EV.bor); (walk_at "ev"); (walk_at "ev"))
  | ((with_reducible apply EV.bxor); (walk_at "ev"); (walk_at "ev"))
  | ((with_reducible apply EV.lt); (walk_at "ev"); (walk_at "ev"))
  | ((with_reducible apply EV.le); (walk_at "ev"); (walk_at "ev"))
  | ((with_reducible apply EV.gt); (walk_at "ev"); (walk_at "ev"))
  | ((with_reducible apply EV.ge); (walk_at "ev"); (walk_at "ev"))
  | ((with_reducible apply EV.neg); (walk_at "ev"))
  | ((with_reducible apply EV.eqG); (walk_at "ev"); (walk_at "ev"); (walk_at "eq"))
  | ((with_reducible apply EV.neG); (walk_at "ev"); (walk_at "ev"); (walk_at "eq"))
  | ((with_reducible apply EV.isN); (walk_at "ev"); (walk_at "ev"))
  | ((with_reducible apply EV.notN); (walk_at "ev"); (walk_at "ev"))
  | ((with_reducible apply EV.ixL); (walk_at "ev"); (walk_at "ev"); (walk_at "at"))
  | ((with_reducible apply EV.ixT); (walk_at "ev"); (walk_at "ev"); (walk_at "at"))
  | ((with_reducible apply EV.catT); (walk_at "ev"); (walk_at "ev"); (walk_at "len"))
  | ((with_reducible apply EV.catL); (walk_at "ev"); (walk_at "ev"); (walk_at "len"))
  | ((with_reducible apply EV.catS); (walk_at "ev"); (walk_at "ev"); (walk_at "len"))
  | ((with_reducible apply EV.mulL); (walk_at "ev"); (walk_at "ev"); (walk_at "side"); (walk_at "side"))
  | ((with_reducible apply EV.lenL); (walk_at "ev"))
  | ((with_reducible apply EV.lenT); (walk_at "ev"))
  | ((with_reducible apply EV.lenR); (walk_at "ev"))
  | ((with_reducible apply EV.lenS); (walk_at "ev"); (walk_at "len"))
  | ((with_reducible apply EV.tupL); (walk_at "ev"))
  | ((with_reducible apply EV.tupT); (walk_at "ev"))
  | ((with_reducible apply EV.lisL); (walk_at "ev"))
  | ((with_reducible apply EV.lisT); (walk_at "ev"))
  | ((with_reducible apply EV.rep); (walk_at "ev"); (walk_at "rep"))
  | ((with_reducible apply EV.max2); (walk_at "ev"); (walk_at "ev"))
  | ((with_reducible apply EV.min2); (walk_at "ev"); (walk_at "ev"))
  | ((with_reducible apply EV.intI); (walk_at "ev"))
  | ((with_reducible apply EV.intB); (walk_at "ev"))
  | ((with_reducible apply EV.strI); (walk_at "ev"); (walk_at "side"))
  | ((with_reducible apply EV.inG); (walk_at "ev"); (walk_at "ev"); (walk_at "in"))
  | ((with_reducible apply EV.inR); (walk_at "ev"); (walk_at "ev"))
  | ((with_reducible apply EV.isi); (walk_at "ev"); (exact rfl))
  | ((with_reducible apply EV.revT); (walk_at "ev"))
  | ((with_reducible apply EV.revL); (walk_at "ev"))
  | ((with_reducible apply EV.tup); (walk_at "ev"); (walk_at "len"))
  | ((with_reducible apply EV.lst); (walk_at "ev"); (walk_at "len"))
  | ((with_reducible apply EV.ltT); (walk_at "ev"); (walk_at "ev"); (walk_at "side"); (walk_at "side"))
  | ((with_reducible exact EV.pN))
  | ((with_reducible apply EV.pA); (walk_at "ev"))
  | ((with_reducible apply EV.slL); (walk_at "ev"); (walk_at "ev"); (walk_at "ev"))
  | ((with_reducible apply EV.slT); (walk_at "ev"); (walk_at "ev"); (walk_at "ev"))
  | ((with_reducible apply EV.ss); (walk_at "ev"); (walk_at "ss"))
  | ((with_reducible apply EV.srt); (walk_at "ev"); (walk_at "ss"))
  | ((with_reducible apply EV.bl); (walk_at "ev"))
  | ((with_reducible apply EV.tru); (walk_at "ev"); (walk_at "tru"))
  | ((with_reducible apply EV.not); (walk_at "ev"))
  | ((with_reducible apply EV.and); (walk_at "ev"); (walk_at "ev"))
  | ((with_reducible apply EV.or); (walk_at "ev"); (walk_at "ev"))
  | ((with_reducible apply EV.andF); (walk_at "ev"); (walk_at "bt"))
  | ((with_reducible apply EV.andT); (walk_at "ev"); (walk_at "bt"); (walk_at "ev"))
  | ((with_reducible apply EV.orT); (walk_at "ev"); (walk_at "bt"))
  | ((with_reducible apply EV.orF); (walk_at "ev"); (walk_at "bt"); (walk_at "ev"))
  | ((with_reducible apply EV.boolW); (walk_at "ev"))
  | ((with_reducible apply EV.scalT); (walk_at "frz"); (walk_at "ev"))
  | ((with_reducible apply EV.ifET); (walk_at "ev"); (walk_at "bt"); (walk_at "ev"))
  | ((with_reducible apply EV.ifEF); (walk_at "ev"); (walk_at "bt"); (walk_at "ev"))
  | ((with_reducible apply EV.chn); (walk_at "ev"); (walk_at "ev"); (exact rfl); (walk_at "ev"); (exact rfl))
  | ((with_reducible apply EV.xl); (walk_at "ev"))
  | ((with_reducible apply EV.xb); (walk_at "ev"))
  | ((with_reducible apply EV.xblS); (walk_at "ev"))
  | ((with_reducible apply EV.xnot); (walk_at "ev"))
  | ((with_reducible apply EV.callS); (walk_at "ev"); (walk_at "pars"); (walk_at "norm"); (walk_at "call"); (exact rfl); (walk_at "back"))
  | ((with_reducible apply EV.callN); (walk_at "ev"); (walk_at "pars"); (walk_at "norm"); (walk_at "call"); (exact rfl); (walk_at "back"))
  | ((with_reducible apply EV.callXS); (walk_at "ev"); (walk_at "pars"); (walk_at "norm"); (walk_at "call"); (exact rfl); (walk_at "back"))
  | ((with_reducible apply EV.callXN); (walk_at "ev"); (walk_at "pars"); (walk_at "norm"); (walk_at "call"); (exact rfl); (walk_at "back"))
  | ((with_reducible apply EV.callXE); (walk_at "ev"); (walk_at "pars"); (walk_at "norm"); (walk_at "call"); (exact rfl); (walk_at "back"))
  | ((with_reducible apply EV.ixO); (exact rfl); (walk_at "ev"); (exact rfl); (walk_at "at"))
  | ((with_reducible apply EV.app); (exact rfl); (walk_at "ev"); (exact rfl); (walk_at "len"); (walk_at "set"))
  | ((with_reducible apply EV.appT); (exact rfl); (walk_at "ev"); (exact rfl); (walk_at "len"); (walk_at "set"))
  | ((with_reducible apply EV.ext); (exact rfl); (walk_at "ev"); (exact rfl); (walk_at "len"); (walk_at "set"))
  | ((with_reducible apply EV.pop); (exact rfl); (walk_at "set"))
  | ((with_reducible apply EV.comp); (walk_at "ev"); (walk_at "call"); (walk_at "restore"))
  | ((with_reducible apply EV.comp2); (walk_at "ev"); (walk_at "call"); (walk_at "restore"))
  | ((with_reducible apply EV.tupG); (walk_at "ev"); (walk_at "call"); (walk_at "restore"))
  | ((with_reducible apply EV.ssc); (walk_at "ev"); (walk_at "call"); (walk_at "restore"); (walk_at "ss"); (walk_at "ss"))
  | ((with_reducible apply EV.allG); (walk_at "ev"); (walk_at "call"); (walk_at "restore"))
  | ((with_reducible exact EV.yes))
  | ((with_reducible apply EV.itL); (walk_at "ev"))
  | ((with_reducible apply EV.itT); (walk_at "ev"))
  | ((with_reducible apply EV.rg1); (walk_at "ev"); (walk_at "side"); (walk_at "side"))
  | ((with_reducible apply EV.rg2); (walk_at "ev"); (walk_at "side"))
  | ((with_reducible apply EV.rg3); (walk_at "ev"); (walk_at "side"))
  | ((with_reducible apply EV.zpL); (walk_at "ev"))
  | ((with_reducible apply EV.zpT); (walk_at "ev"))
  | ((with_reducible apply EV.enm); (walk_at "ev"))
  | ((with_reducible apply EV.enmL); (walk_at "ev"))
  | ((with_reducible apply EV.enmT); (walk_at "ev"))
  | ((with_reducible apply EV.rvs); (walk_at "ev"))
  | ((with_reducible apply EV.gName); (walk_at "set"))
  | ((with_reducible exact EV.gsN))
  | ((with_reducible apply EV.gsC); (walk_at "ev"); (walk_at "ev"))
  | ((with_reducible apply EV.gTup); (exact rfl); (try simp only [List.map_cons, List.map_nil]); (walk_at "ev"))
  | ((with_reducible apply EV.gLst); (exact rfl); (try simp only [List.map_cons, List.map_nil]); (walk_at "ev"))
  | ((with_reducible apply EV.setO); (exact rfl); (walk_at "ev"); (exact rfl); (walk_at "at"); (walk_at "set"))
  | ((with_reducible exact EV.nxt))
  | ((with_reducible apply EV.seq); (walk_at "ev"); (walk_at "ev"))
  | ((with_reducible apply EV.seqR); (walk_at "ev"); (exact rfl))
  | ((with_reducible apply EV.seqX); (walk_at "ev"))
  | ((with_reducible apply EV.asgV); (walk_at "ev"); (walk_at "ev"))
  | ((with_reducible apply EV.asgS); (walk_at "ev"); (walk_at "ev"))
  | ((with_reducible apply EV.asgN); (walk_at "ev"); (walk_at "ev"))
  | ((with_reducible apply EV.asgX); (walk_at "ev"))
  | ((with_reducible apply EV.drop); (walk_at "ev"))
  | ((with_reducible apply EV.dropX); (walk_at "ev"))
  | ((with_reducible apply EV.ret); (walk_at "ev"))
  | ((with_reducible apply EV.ifT); (walk_at "ev"); (walk_at "bt"); (walk_at "ev"))
  | ((with_reducible apply EV.ifF); (walk_at "ev"); (walk_at "bt"); (walk_at "ev"))
  | ((with_reducible apply EV.aug); (exact rfl); (walk_at "ev"); (exact rfl); (walk_at "aug"); (walk_at "set"))
  | ((with_reducible apply EV.augO); (exact rfl); (walk_at "ev"); (exact rfl); (walk_at "side"); (walk_at "at"); (walk_at "at"); (walk_at "ev"); (walk_at "aug"); (exact rfl); (walk_at "set"))
  | ((with_reducible apply EV.for_); (walk_at "ev"); (walk_at "call")))
local macro_rules | `(tactic| walk_at "st") => `(tactic| ((with_reducible apply EV.seq); (walk_at "ev")))
local macro_rules | `(tactic| walk_at "le") => `(tactic| (exact Nat.le_of_ble_eq_true rfl))
local macro_rules | `(tactic| walk_at "fin") => `(tactic| first
  | ((apply EV.finS); (walk_at "le"); (walk_at "out"))
  | ((apply EV.finN); (walk_at "le"); (walk_at "out"))
  | ((apply EV.finV); (decide); (exact rfl); (walk_at "le"); (walk_at "out"))
  | ((apply EV.finW); (decide); (exact rfl); (walk_at "le"); (walk_at "out"))
  | ((apply EV.finP); (decide); (walk_at "ev"); (walk_at "le"); (walk_at "out"))
  | ((apply EV.finNx); (walk_at "le"); (walk_at "out"))
  | ((apply EV.finEx); (walk_at "le"); (walk_at "out")))
local macro_rules | `(tactic| walk_at "for") => `(tactic| ((with_reducible apply EV.seq); (with_reducible apply EV.for_); (walk_at "ev")))
local macro_rules | `(tactic| walk_at "gt") => `(tactic| ((simp only [wipeT, List.set_cons_succ, List.set_cons_zero]); (walk_at "ev")))
local macro_rules | `(tactic| walk_at "cc") => `(tactic| (apply EV.ccY; (walk_at "gt"); (first | exact EV.yes | walk_at "ev"); (walk_at "bt"); (walk_at "ev"); (walk_at "len")))
local macro_rules | `(tactic| walk_at "cn") => `(tactic| (apply EV.ccN; (walk_at "gt"); (walk_at "ev"); (walk_at "bt")))
local macro_rules | `(tactic| walk_at "rt") => `(tactic| ((with_reducible apply EV.seqR); (walk_at "ev"); (exact rfl)))
local macro_rules | `(tactic| walk_at "gg") => `(tactic| (apply EV.gt1; (walk_at "gt"); (walk_at "ev"); (walk_at "len")))
local macro_rules | `(tactic| walk_at "gs") => `(tactic| (apply EV.gs1; (walk_at "gt"); (walk_at "ev"); (walk_at "ss"); (walk_at "len")))

/-! ### rules and tables -/
abbrev Rule := List Int × List (List Int)
def ruD (r : Rule) : D := .tup [tupD r.1, .lst (r.2.map tupD)]
/-- values from n of the count on -/
def lo2 (n : Int → Int) : List Int → List Int → Prop
  | [], [] => True
  | c :: l, v :: k => n c ≤ v ∧ v < c ∧ lo2 n l k
  | _, _ => False
abbrev Vl (l k : List Int) : Prop := lo2 (fun _ => -1) l k
theorem lo2_len {n : Int → Int} : ∀ {l k : List Int}, lo2 n l k → k.length = l.length
  | [], [], _ => rfl
  | _ :: _, _ :: _, h => by simp [lo2_len h.2.2]
  | [], _ :: _, h => h.elim
  | _ :: _, [], h => h.elim
theorem lo2_bd {n : Int → Int} : ∀ {l k : List Int}, lo2 n l k → (∀ c ∈ l, c ≤ 4 ∧ -5 ≤ n c) → ∀ x ∈ k, -5 ≤ x ∧ x ≤ 4
  | [], [], _, _ => by simp
  | c :: l, v :: k, h, hl => fun x hx => by
    rcases List.mem_cons.mp hx with rfl | hx
    · have := hl c (by simp); have := h.1; have := h.2.1; omega
    · exact lo2_bd h.2.2 (fun d hd => hl d (by simp [hd])) x hx
  | [], _ :: _, h, _ => h.elim
  | _ :: _, [], h, _ => h.elim
theorem vl_bd {l k : List Int} (h : Vl l k) (hl : ∀ c ∈ l, 1 ≤ c ∧ c ≤ 4) : ∀ x ∈ k, -5 ≤ x ∧ x ≤ 4 := lo2_bd h fun c hc => ⟨(hl c hc).2, by omega⟩
theorem vl_mat : ∀ {l k : List Int}, Vl l k → matL l (k.map .int) = true
  | [], [], _ => rfl
  | c :: l, v :: k, h => by
    have h1 : -1 ≤ v := h.1
    have h2 := h.2.1
    simp [matL, valD, h1, h2, vl_mat (l := l) (k := k) h.2.2]
  | [], _ :: _, h => h.elim
  | _ :: _, [], h => h.elim
structure RuOk (l : List Int) (r : Rule) : Prop where
  m : Vl l r.1
  cs : ∀ c ∈ r.2, Vl l c
  st : StI r.2
  n : r.2.length ≤ 3
theorem RuOk.rl {l : List Int} {r : Rule} (h : RuOk l r) : rlD l (ruD r) = true := by
  have h1 : mat l (tupD r.1) = true := vl_mat h.m
  have h2 : (r.2.map tupD).all (mat l) = true := by
    rw [List.all_eq_true]
    intro d hd
    obtain ⟨c, hc, rfl⟩ := List.mem_map.mp hd
    exact vl_mat (h.cs c hc)
  simp only [ruD, rlD, h1, chg, h2, risD_map, st_rise h.st, Bool.and_self]
structure TbOk (l : List Int) (tb : List Rule) : Prop where
  ok : ∀ r ∈ tb, RuOk l r
  n : tb.length ≤ 60
def tbl (tb : List Rule) : List D := tb.map ruD
theorem TbOk.tb {l : List Int} {tb : List Rule} (h : TbOk l tb) : tbD l (.lst (tbl tb)) = true := by
  have h1 : (tbl tb).length ≤ 60 := by simp [tbl, h.n]
  have h2 : (tbl tb).all (rlD l) = true := by
    rw [List.all_eq_true]
    intro d hd
    obtain ⟨c, hc, rfl⟩ := List.mem_map.mp hd
    exact (h.ok c hc).rl
  simp only [tbD, h1, h2, decide_true, Bool.and_self]
/-! ### what is drawn -/
theorem cutD_take (M : List D) {x : Int} (h : 0 ≤ x) : Q.cutD M none (some x) = M.take x.toNat := by
  unfold Q.cutD
  simp only [HT.sIx_none, List.drop_zero, Nat.sub_zero, Nat.zero_min]
  have e : HT.sIx M.length M.length (some x) = min x.toNat M.length := by
    unfold HT.sIx
    simp only [Option.map_some]
    first | rfl | (simp; omega)
  rw [e]
  by_cases c : x.toNat ≤ M.length
  · rw [Nat.min_eq_left c]
  · rw [Nat.min_eq_right (by omega), List.take_of_length_le (by omega), List.take_of_length_le (by omega)]
theorem cutD_drop (M : List D) {x : Int} (h : 0 ≤ x) : Q.cutD M (some x) none = M.drop x.toNat := by
  unfold Q.cutD
  have e : HT.sIx M.length 0 (some x) = min x.toNat M.length := by
    unfold HT.sIx
    simp only [Option.map_some]
    first | rfl | (simp; omega)
  rw [e]
  simp only [HT.sIx_none]
  by_cases c : x.toNat ≤ M.length
  · rw [Nat.min_eq_left c, List.take_of_length_le (by simp)]
  · rw [Nat.min_eq_right (by omega), List.drop_of_length_le (by omega), List.drop_of_length_le (by omega)]
    simp
end K7

set_option Elab.async false
set_option linter.all false
set_option maxRecDepth 100000
set_option maxHeartbeats 8000000
namespace K7
open PySem PySem.Spec PyProof.Rows L2 Q
local macro_rules | `(tactic| walk_at "norm") => `(tactic| focus (first | (simp only [List.map_cons, List.map_nil]; done) | ((try simp only [List.map_cons, List.map_nil]); exact rfl)))
local macro_rules | `(tactic| walk_at "set") => `(tactic| focus (first | (dsimp only [List.set_cons_succ, List.set_cons_zero]; done) | ((try dsimp only [List.set_cons_succ, List.set_cons_zero]); exact rfl)))
local macro_rules | `(tactic| walk_at "frz") => `(tactic| focus (first | (simp only [frzE_cons, frzE_nil, frz_fz, frz_un, frz_ls, frz_ls1]; done) | ((try simp only [frzE_cons, frzE_nil, frz_fz, frz_un, frz_ls, frz_ls1]); exact rfl)))
local macro_rules | `(tactic| walk_at "pars") => `(tactic| focus (first | (simp only [pars, List.getElem?_cons_succ, List.getElem?_cons_zero, Option.bind_some, List.set_cons_succ, List.set_cons_zero]; done) | ((try simp only [pars, List.getElem?_cons_succ, List.getElem?_cons_zero, Option.bind_some, List.set_cons_succ, List.set_cons_zero]); exact rfl)))
local macro_rules | `(tactic| walk_at "back") => `(tactic| focus (first | (simp only [back, putBack, List.getElem?_cons_succ, List.getElem?_cons_zero, List.set_cons_succ, List.set_cons_zero]; done) | ((try simp only [back, putBack, List.getElem?_cons_succ, List.getElem?_cons_zero, List.set_cons_succ, List.set_cons_zero]); exact rfl)))
local macro_rules | `(tactic| walk_at "restore") => `(tactic| focus (first | with_reducible assumption | (simp only [restore, slotP, keepP, List.getElem?_cons_succ, List.getElem?_cons_zero, List.set_cons_succ, List.set_cons_zero]; done) | ((try simp only [restore, slotP, keepP, List.getElem?_cons_succ, List.getElem?_cons_zero, List.set_cons_succ, List.set_cons_zero]); exact rfl)))
local macro_rules | `(tactic| walk_at "wipe") => `(tactic| focus (first | (simp only [wipeT, List.set_cons_succ, List.set_cons_zero]; done) | ((try simp only [wipeT, List.set_cons_succ, List.set_cons_zero]); exact rfl)))
local macro_rules | `(tactic| walk_at "out") => `(tactic| focus (first | (simp only [outP, keepP, if_true, Bool.false_eq_true, if_false]; done) | ((try simp only [outP, keepP, if_true, Bool.false_eq_true, if_false]); exact rfl)))
local macro_rules | `(tactic| walk_at "side") => `(tactic| (first | with_reducible assumption | omega | decide))
local macro_rules | `(tactic| walk_at "mul") => `(tactic| (first | with_reducible assumption | exact mulW_small 62 62 (by omega) (by omega) (by decide) (by decide) (by decide)))
local macro_rules | `(tactic| walk_at "len") => `(tactic| focus ((try simp only [List.length_cons, List.length_nil, List.length_append, List.length_replicate, List.length_map]) <;> (first | omega | with_reducible assumption)))
local macro_rules | `(tactic| walk_at "at") => `(tactic| (first | with_reducible assumption | exact rfl))
local macro_rules | `(tactic| walk_at "eq") => `(tactic| (first | with_reducible assumption | with_reducible exact EV.eqI _ _ | with_reducible exact EV.neI _ _))
local macro_rules | `(tactic| walk_at "rep") => `(tactic| (with_reducible assumption))
local macro_rules | `(tactic| walk_at "in") => `(tactic| (first | with_reducible assumption | exact rfl))
local macro_rules | `(tactic| walk_at "ss") => `(tactic| (with_reducible assumption))
local macro_rules | `(tactic| walk_at "tru") => `(tactic| (first | exact rfl | with_reducible assumption))
local macro_rules | `(tactic| walk_at "call") => `(tactic| (with_reducible assumption))
local macro_rules | `(tactic| walk_at "aug") => `(tactic| (exact rfl))
local macro_rules | `(tactic| walk_at "bt") => `(tactic| (first | exact rfl | with_reducible assumption | (simp only [decide_eq_true_eq, decide_eq_false_iff_not, Bool.not_eq_true', Bool.not_eq_false', Bool.and_eq_true, Bool.or_eq_true, Bool.and_eq_false_iff, Bool.or_eq_false_iff, beq_iff_eq, beq_eq_false_iff_ne, ne_eq]; omega)))
local macro_rules | `(tactic| walk_at "ev") => `(tactic| first
  | ((with_reducible apply EV.shV); (exact rfl))
  | ((with_reducible apply EV.shO); (exact rfl); (walk_at "set"))
  | ((with_reducible apply EV.shD); (exact rfl); (with_reducible assumption); (walk_at "set"))
  | ((with_reducible exact EV.cE _))
  | ((with_reducible apply EV.shS); (walk_at "ev"))
  | ((with_reducible apply EV.shN); (walk_at "ev"))
  | ((with_reducible apply EV.scal); (walk_at "frz"); (walk_at "ev"); (exact rfl))
  | ((with_reducible apply EV.lift); (walk_at "ev"))
  | ((with_reducible exact EV.cW _))
  | ((with_reducible apply EV.varF); (exact rfl))
  | ((with_reducible apply EV.varL); (exact rfl))
  | ((with_reducible exact EV.fn))
  | ((with_reducible apply EV.fc); (walk_at "ev"); (walk_at "ev"))
  | ((with_reducible exact EV.an))
  | ((with_reducible apply EV.ac); (walk_at "ev"); (walk_at "ev"))
  | ((with_reducible exact EV.mn))
  | ((with_reducible apply EV.mc); (walk_at "ev"); (walk_at "ev"))
  | ((with_reducible apply EV.mV); (exact rfl))
  | ((with_reducible apply EV.mO); (exact rfl); (walk_at "set"))
  | ((with_reducible apply EV.mvMF); (exact rfl); (walk_at "set"))
  | ((with_reducible apply EV.mvML); (exact rfl); (walk_at "set"))
  | ((with_reducible apply EV.mS); (walk_at "ev"))
  | ((with_reducible apply EV.mN); (walk_at "ev"))
  | ((with_reducible apply EV.add); (walk_at "ev"); (walk_at "ev"))
  | ((with_reducible apply EV.sub); (walk_at "ev"); (walk_at "ev"))
  | ((with_reducible apply EV.mul); (walk_at "ev"); (walk_at "ev"); (walk_at "mul"))
  | ((with_reducible apply EV.mod); (walk_at "ev"); (walk_at "ev"); (walk_at "side"))
  | ((with_reducible apply EV.div); (walk_at "ev"); (walk_at "ev"); (walk_at "side"))
  | ((with_reducible apply EV.pow); (walk_at "ev"); (walk_at "ev"); (walk_at "side"))
  | ((with_reducible apply EV.shl); (walk_at "ev"); (walk_at "ev"); (walk_at "side"))
  | ((with_reducible apply EV.shr); (walk_at "ev"); (walk_at "ev"); (walk_at "side"))
  | ((with_reducible apply EV.band); (walk_at "ev"); (walk_at "ev"))
  | ((with_reducible apply EV.bor); (walk_at "ev"); (walk_at "ev"))
  | ((with_reducible apply EV.bxor); (walk_at "ev"); (walk_at "ev"))
  | ((with_reducible apply EV.lt); (walk_at "ev"); (walk_at "ev"))
  | ((with_reducible apply EV.le); (walk_at "ev"); (walk_at "ev"))
  | ((with_reducible apply EV.gt); (walk_at "ev"); (walk_at "ev"))
  | ((with_reducible apply EV.ge); (walk_at "ev"); (walk_at "ev"))
  | ((with_reducible apply EV.neg); (walk_at "ev"))
  | ((with_reducible apply EV.eqG); (walk_at "ev"); (walk_at "ev"); (walk_at "eq"))
  | ((with_reducible apply EV.neG); (walk_at "ev"); (walk_at "ev"); (walk_at "eq"))
  | ((with_reducible apply EV.isN); (walk_at "ev"); (walk_at "ev"))
  | ((with_reducible apply EV.notN); (walk_at "ev"); (walk_at "ev"))
  | ((with_reducible apply EV.ixL); (walk_at "ev"); (walk_at "ev"); (walk_at "at"))
  | ((with_reducible apply EV.ixT); (walk_at "ev"); (walk_at "ev"); (walk_at "at"))
  | ((with_reducible apply EV.catT); (walk_at "ev"); (walk_at "ev"); (walk_at "len"))
  | ((with_reducible apply EV.catL); (walk_at "ev"); (walk_at "ev"); (walk_at "len"))
  | ((with_reducible apply EV.catS); (walk_at "ev"); (walk_at "ev"); (walk_at "len"))
  | ((with_reducible apply EV.mulL); (walk_at "ev"); (walk_at "ev"); (walk_at "side"); (walk_at "side"))
  | ((with_reducible apply EV.lenL); (walk_at "ev"))
  | ((with_reducible apply EV.lenT); (walk_at "ev"))
  | ((with_reducible apply EV.lenR); (walk_at "ev"))
  | ((with_reducible apply EV.lenS); (walk_at "ev"); (walk_at "len"))
  | ((with_reducible apply EV.tupL); (walk_at "ev"))
  | ((with_reducible apply EV.tupT); (walk_at "ev"))
  | ((with_reducible apply EV.lisL); (walk_at "ev"))
  | ((with_reducible apply EV.lisT); (walk_at "ev"))
  | ((with_reducible apply EV.rep); (walk_at "ev"); (walk_at "rep"))
  | ((with_reducible apply EV.max2); (walk_at "ev"); (walk_at "ev"))
  | ((with_reducible apply EV.min2); (walk_at "ev"); (walk_at "ev"))
  | ((with_reducible apply EV.intI); (walk_at "ev"))
  | ((with_reducible apply EV.intB); (walk_at "ev"))
  | ((with_reducible apply EV.strI); (walk_at "ev"); (walk_at "side"))
  | ((with_reducible apply EV.inG); (walk_at "ev"); (walk_at "ev"); (walk_at "in"))
  | ((with_reducible apply EV.inR); (walk_at "ev"); (walk_at "ev"))
  | ((with_reducible apply EV.isi); (walk_at "ev"); (exact rfl))
  | ((with_reducible apply EV.revT); (walk_at "ev"))
  | ((with_reducible apply EV.revL); (walk_at "ev"))
  | ((with_reducible apply EV.tup); (walk_at "ev"); (walk_at "len"))
  | ((with_reducible apply EV.lst); (walk_at "ev"); (walk_at "len"))
  | ((with_reducible apply EV.ltT); (walk_at "ev"); (walk_at "ev"); (walk_at "side"); (walk_at "side"))
  | ((with_reducible exact EV.pN))
  | ((with_reducible apply EV.pA); (walk_at "ev"))
  | ((with_reducible apply EV.slL); (walk_at "ev"); (walk_at "ev"); (walk_at "ev"))
  | ((with_reducible apply EV.slT); (walk_at "ev"); (walk_at "ev"); (walk_at "ev"))
  | ((with_reducible apply EV.ss); (walk_at "ev"); (walk_at "ss"))
  | ((with_reducible apply EV.srt); (walk_at "ev"); (walk_at "ss"))
  | ((with_reducible apply EV.bl); (walk_at "ev"))
  | ((with_reducible apply EV.tru); (walk_at "ev"); (walk_at "tru"))
  | ((with_reducible apply EV.not); (walk_at "ev"))
  | ((with_reducible apply EV.and); (walk_at "ev"); (walk_at "ev"))
  | ((with_reducible apply EV.or); (walk_at "ev"); (walk_at "ev"))
  | ((with_reducible apply EV.andF); (walk_at "ev"); (walk_at "bt"))
  | ((with_reducible apply EV.andT); (walk_at "ev"); (walk_at "bt"); (walk_at "ev"))
  | ((with_reducible apply EV.orT); (walk_at "ev"); (walk_at "bt"))
  | ((with_reducible apply EV.orF); (walk_at "ev"); (walk_at "bt"); (walk_at "ev"))
  | ((with_reducible apply EV.boolW); (walk_at "ev"))
  | ((with_reducible apply EV.scalT); (walk_at "frz"); (walk_at "ev"))
  | ((with_reducible apply EV.ifET); (walk_at "ev"); (walk_at "bt"); (walk_at "ev"))
  | ((with_reducible apply EV.ifEF); (walk_at "ev"); (walk_at "bt"); (walk_at "ev"))
  | ((with_reducible apply EV.chn); (walk_at "ev"); (walk_at "ev"); (exact rfl); (walk_at "ev"); (exact rfl))
  | ((with_reducible apply EV.xl); (walk_at "ev"))
  | ((with_reducible apply EV.xb); (walk_at "ev"))
  | ((with_reducible apply EV.xblS); (walk_at "ev"))
  | ((with_reducible apply EV.xnot); (walk_at "ev"))
  | ((with_reducible apply EV.callS); (walk_at "ev"); (walk_at "pars"); (walk_at "norm"); (walk_at "call"); (exact rfl); (walk_at "back"))
  | ((with_reducible apply EV.callN); (walk_at "ev"); (walk_at "pars"); (walk_at "norm"); (walk_at "call"); (exact rfl); (walk_at "back"))
  | ((with_reducible apply EV.callXS); (walk_at "ev"); (walk_at "pars"); (walk_at "norm"); (walk_at "call"); (exact rfl); (walk_at "back"))
  | ((with_reducible apply EV.callXN); (walk_at "ev"); (walk_at "pars"); (walk_at "norm"); (walk_at "call"); (exact rfl); (walk_at "back"))
  | ((with_reducible apply EV.callXE); (walk_at "ev"); (walk_at "pars"); (walk_at "norm"); (walk_at "call"); (exact rfl); (walk_at "back"))
  | ((with_reducible apply EV.ixO); (exact rfl); (walk_at "ev"); (exact rfl); (walk_at "at"))
  | ((with_reducible apply EV.app); (exact rfl); (walk_at "ev"); (exact rfl); (walk_at "len"); (walk_at "set"))
  | ((with_reducible apply EV.appT); (exact rfl); (walk_at "ev"); (exact rfl); (walk_at "len"); (walk_at "set"))
  | ((with_reducible apply EV.ext); (exact rfl); (walk_at "ev"); (exact rfl); (walk_at "len"); (walk_at "set"))
  | ((with_reducible apply EV.pop); (exact rfl); (walk_at "set"))
  | ((with_reducible apply EV.comp); (walk_at "ev"); (walk_at "call"); (walk_at "restore"))
  | ((with_reducible apply EV.comp2); (walk_at "ev"); (walk_at "call"); (walk_at "restore"))
  | ((with_reducible apply EV.tupG); (walk_at "ev"); (walk_at "call"); (walk_at "restore"))
  | ((with_reducible apply EV.ssc); (walk_at "ev"); (walk_at "call"); (walk_at "restore"); (walk_at "ss"); (walk_at "ss"))
  | ((with_reducible apply EV.allG); (walk_at "ev"); (walk_at "call"); (walk_at "restore"))
  | ((with_reducible exact EV.yes))
  | ((with_reducible apply EV.itL); (walk_at "ev"))
  | ((with_reducible apply EV.itT); (walk_at "ev"))
  | ((with_reducible apply EV.rg1); (walk_at "ev"); (walk_at "side"); (walk_at "side"))
  | ((with_reducible apply EV.rg2); (walk_at "ev"); (walk_at "side"))
  | ((with_reducible apply EV.rg3); (walk_at "ev"); (walk_at "side"))
  | ((with_reducible apply EV.zpL); (walk_at "ev"))
  | ((with_reducible apply EV.zpT); (walk_at "ev"))
  | ((with_reducible apply EV.enm); (walk_at "ev"))
  | ((with_reducible apply EV.enmL); (walk_at "ev"))
  | ((with_reducible apply EV.enmT); (walk_at "ev"))
  | ((with_reducible apply EV.rvs); (walk_at "ev"))
  | ((with_reducible apply EV.gName); (walk_at "set"))
  | ((with_reducible exact EV.gsN))
  | ((with_reducible apply EV.gsC); (walk_at "ev"); (walk_at "ev"))
  | ((with_reducible apply EV.gTup); (exact rfl); (try simp only [List.map_cons, List.map_nil]); (walk_at "ev"))
  | ((with_reducible apply EV.gLst); (exact rfl); (try simp only [List.map_cons, List.map_nil]); (walk_at "ev"))
  | ((with_reducible apply EV.setO); (exact rfl); (walk_at "ev"); (exact rfl); (walk_at "at"); (walk_at "set"))
  | ((with_reducible exact EV.nxt))
  | ((with_reducible apply EV.seq); (walk_at "ev"); (walk_at "ev"))
  | ((with_reducible apply EV.seqR); (walk_at "ev"); (exact rfl))
  | ((with_reducible apply EV.seqX); (walk_at "ev"))
  | ((with_reducible apply EV.asgV); (walk_at "ev"); (walk_at "ev"))
  | ((with_reducible apply EV.asgS); (walk_at "ev"); (walk_at "ev"))
  | ((with_reducible apply EV.asgN); (walk_at "ev"); (walk_at "ev"))
  | ((with_reducible apply EV.asgX); (walk_at "ev"))
  | ((with_reducible apply EV.drop); (walk_at "ev"))
  | ((with_reducible apply EV.dropX); (walk_at "ev"))
  | ((with_reducible apply EV.ret); (walk_at "ev"))
  | ((with_reducible apply EV.ifT); (walk_at "ev"); (walk_at "bt"); (walk_at "ev"))
  | ((with_reducible apply EV.ifF); (walk_at "ev"); (walk_at "bt"); (walk_at "ev"))
  | ((with_reducible apply EV.aug); (exact rfl); (walk_at "ev"); (exact rfl); (walk_at "aug"); (walk_at "set"))
  | ((with_reducible apply EV.augO); (exact rfl); (walk_at "ev"); (exact rfl); (walk_at "side"); (walk_at "at"); (walk_at "at"); (walk_at "ev"); (walk_at "aug"); (exact rfl); (walk_at "set"))
  | ((with_reducible apply EV.for_); (walk_at "ev"); (walk_at "call")))
local macro_rules | `(tactic| walk_at "st") => `(tactic| ((with_reducible apply EV.seq); (walk_at "ev")))
local macro_rules | `(tactic| walk_at "le") => `(tactic| (exact Nat.le_of_ble_eq_true rfl))
local macro_rules | `(tactic| walk_at "fin") => `(tactic| first
  | ((apply EV.finS); (walk_at "le"); (walk_at "out"))
  | ((apply EV.finN); (walk_at "le"); (walk_at "out"))
  | ((apply EV.finV); (decide); (exact rfl); (walk_at "le"); (walk_at "out"))
  | ((apply EV.finW); (decide); (exact rfl); (walk_at "le"); (walk_at "out"))
  | ((apply EV.finP); (decide); (walk_at "ev"); (walk_at "le"); (walk_at "out"))
  | ((apply EV.finNx); (walk_at "le"); (walk_at "out"))
  | ((apply EV.finEx); (walk_at "le"); (walk_at "out")))
local macro_rules | `(tactic| walk_at "for") => `(tactic| ((with_reducible apply EV.seq); (with_reducible apply EV.for_); (walk_at "ev")))
local macro_rules | `(tactic| walk_at "gt") => `(tactic| ((simp only [wipeT, List.set_cons_succ, List.set_cons_zero]); (walk_at "ev")))
local macro_rules | `(tactic| walk_at "cc") => `(tactic| (apply EV.ccY; (walk_at "gt"); (first | exact EV.yes | walk_at "ev"); (walk_at "bt"); (walk_at "ev"); (walk_at "len")))
local macro_rules | `(tactic| walk_at "cn") => `(tactic| (apply EV.ccN; (walk_at "gt"); (walk_at "ev"); (walk_at "bt")))
local macro_rules | `(tactic| walk_at "rt") => `(tactic| ((with_reducible apply EV.seqR); (walk_at "ev"); (exact rfl)))
local macro_rules | `(tactic| walk_at "gg") => `(tactic| (apply EV.gt1; (walk_at "gt"); (walk_at "ev"); (walk_at "len")))
local macro_rules | `(tactic| walk_at "gs") => `(tactic| (apply EV.gs1; (walk_at "gt"); (walk_at "ev"); (walk_at "ss"); (walk_at "len")))

theorem mulW2 {a : Int} (h1 : 1 ≤ a) (h4 : a ≤ 4) : CMulW 2 a := mulW_small 3 3 (by omega) (by omega) (by decide) (by decide) (by decide)
theorem comp_r1 {b c d e g : T} : ∀ (l : List Int) (p : Int) (M : List D) (x : T), (∀ a ∈ l, 1 ≤ a ∧ a ≤ 4) → M.length + l.length ≤ 1000 → ∃ (k : List Int) (p' : Int) (x' : T), lo2 (fun c => -c) l k ∧ compD (gdName 5) dYes c__law_rule_1 [5] (l.map .int) [.ls [.fz (.int p)], b, c, d, e, x, g] (M.map .fz) = some ((M ++ k.map D.int).map .fz, [.ls [.fz (.int p')], b, c, d, e, x', g])
  | [], p, M, x, _, _ => ⟨[], p, x, trivial, by simp [compD]⟩
  | a :: l, p, M, x, h, hb => by
    obtain ⟨h1, h4⟩ := h a (by simp)
    simp only [List.length_cons] at hb
    have r0 := Int.emod_nonneg p (show 2 * a ≠ 0 by omega)
    have r1 := Int.emod_lt_of_pos p (show 0 < 2 * a by omega)
    have ht := take_at (p := p) (k := 2 * a) (by omega) (by omega)
    have hm := mulW2 h1 h4
    obtain ⟨k, p', x', hk, ec⟩ := comp_r1 (b := b) (c := c) (d := d) (e := e) (g := g) l (p / (2 * a)) (M ++ [.int (p % (2 * a) - a)]) (.fz (.int a)) (fun y hy => h y (by simp [hy])) (by simp; omega)
    refine ⟨(p % (2 * a) - a) :: k, p', x', ⟨by show -a ≤ _; omega, by omega, hk⟩, ?_⟩
    rw [List.map_cons]
    walk_at "cc"
    rw [ec]; simp
theorem comp_r3 {b c d e g : T} : ∀ (l : List Int) (p : Int) (M : List D) (x : T), (∀ a ∈ l, 1 ≤ a ∧ a ≤ 4) → M.length + l.length ≤ 1000 → ∃ (k : List Int) (p' : Int) (x' : T), Vl l k ∧ compD (gdName 5) dYes c__law_rule_3 [5] (l.map .int) [.ls [.fz (.int p)], b, c, d, e, x, g] (M.map .fz) = some ((M ++ k.map D.int).map .fz, [.ls [.fz (.int p')], b, c, d, e, x', g])
  | [], p, M, x, _, _ => ⟨[], p, x, trivial, by simp [compD]⟩
  | a :: l, p, M, x, h, hb => by
    obtain ⟨h1, h4⟩ := h a (by simp)
    simp only [List.length_cons] at hb
    have r0 := Int.emod_nonneg p (show 2 * a ≠ 0 by omega)
    have r1 := Int.emod_lt_of_pos p (show 0 < 2 * a by omega)
    have ht := take_at (p := p) (k := 2 * a) (by omega) (by omega)
    have hm := mulW2 h1 h4
    obtain ⟨k, p', x', hk, ec⟩ := comp_r3 (b := b) (c := c) (d := d) (e := e) (g := g) l (p / (2 * a)) (M ++ [.int (max (p % (2 * a) - a) (-1))]) (.fz (.int a)) (fun y hy => h y (by simp [hy])) (by simp; omega)
    refine ⟨max (p % (2 * a) - a) (-1) :: k, p', x', ⟨by show (-1 : Int) ≤ _; omega, by omega, hk⟩, ?_⟩
    rw [List.map_cons]
    walk_at "cc"
    rw [ec]; simp
theorem comp_r4 {a b c d e x : T} {l : List Int} : ∀ (l k : List Int) (M : List D) (g : T), (∀ a ∈ l, 1 ≤ a ∧ a ≤ 4) → lo2 (fun c => -c) l k → M.length + k.length ≤ 1000 → ∃ (k' : List Int) (g' : T), Vl l k' ∧ compD (gdName 6) dYes c__law_rule_4 [6] (k.map .int) [a, b, c, d, e, x, g] (M.map .fz) = some ((M ++ k'.map D.int).map .fz, [a, b, c, d, e, x, g'])
  | [], [], M, g, _, _, _ => ⟨[], g, trivial, by simp [compD]⟩
  | n :: l, y :: k, M, g, h, hk, hb => by
    obtain ⟨h1, h4⟩ := h n (by simp)
    have b1 : -n ≤ y := hk.1
    have b2 := hk.2.1
    simp only [List.length_cons] at hb
    obtain ⟨k', g', hk', ec⟩ := comp_r4 (a := a) (b := b) (c := c) (d := d) (e := e) (x := x) (l := l) l k (M ++ [.int (max y (-1))]) (.fz (.int y)) (fun y hy => h y (by simp [hy])) hk.2.2 (by simp; omega)
    refine ⟨max y (-1) :: k', g', ⟨by show (-1 : Int) ≤ _; omega, by omega, hk'⟩, ?_⟩
    rw [List.map_cons]
    walk_at "cc"
    rw [ec]; simp
  | [], _ :: _, _, _, _, h, _ => h.elim
  | _ :: _, [], _, _, _, h, _ => h.elim
theorem loop_r2 {l : List Int} {c : T} (hl : ∀ a ∈ l, 1 ≤ a ∧ a ≤ 4) (hn : l.length ≤ 3) : ∀ (js : List D) (p : Int) (ks : List (List Int)) (e : T), ks.length + js.length ≤ 50 → (∀ k ∈ ks, Vl l k) → ∃ (p' : Int) (ks' : List (List Int)) (e' : T), (∀ k ∈ ks', Vl l k) ∧ ks'.length = ks.length + js.length ∧
    loopD (gdName 4) L__law_rule_2 js [.ls [.fz (.int p)], .fz (.tup (l.map .int)), c, oL (ks.map tupD), e, .un, .un] = some (.nx [.ls [.fz (.int p')], .fz (.tup (l.map .int)), c, oL (ks'.map tupD), e', .un, .un])
  | [], p, ks, e, _, hk => ⟨p, ks, e, hk, by simp, rfl⟩
  | j :: js, p, ks, e, hb, hk => by
    simp only [List.length_cons] at hb
    obtain ⟨k, p1, x1, vk, ec⟩ := comp_r3 (b := .fz (.tup (l.map .int))) (c := c) (d := oL (ks.map tupD)) (e := .fz j) (g := .un) l p [] .un hl (by simp; omega)
    rw [List.nil_append, List.map_nil] at ec
    obtain ⟨p', ks', e', h1, h2, h3⟩ := loop_r2 (c := c) hl hn js p1 (ks ++ [k]) (.fz j) (by simp; omega) (fun x hx => by
      rcases List.mem_append.mp hx with q | q
      · exact hk x q
      · simp at q; subst q; exact vk)
    refine ⟨p', ks', e', h1, by simp at h2 ⊢; omega, ?_⟩
    rw [List.map_append] at h3
    apply EV.lpN
    · walk_at "ev"
    · walk_at "ev"
    · exact h3
theorem sort_len : ∀ ks : List (List Int), (sortI ks).length ≤ ks.length := by
  have ins : ∀ (x : List Int) (l : List (List Int)), (insI x l).length ≤ l.length + 1 := fun x l => by
    induction l with
    | nil => simp [insI]
    | cons y l ih =>
      unfold insI
      split
      · simp
      split
      · simp
      · simp only [List.length_cons]; omega
  intro ks
  induction ks with
  | nil => simp [sortI]
  | cons k ks ih =>
    have := ins k (sortI ks)
    show (insI k (sortI ks)).length ≤ _
    simp only [List.length_cons]
    omega
local instance tb1 : TbS := ⟨fun _ => False⟩
theorem v__law_rule {l : List Int} (p : Int) (hl : ∀ a ∈ l, 1 ≤ a ∧ a ≤ 4) (h1 : 1 ≤ l.length) (h3 : l.length ≤ 3) : ∃ (r : Rule) (p' : Int), RuOk l r ∧ fn__law_rule [.ls [.fz (.int p)], .fz (.tup (l.map .int))] = some (.ret (.fz (ruD r)), [.ls [.fz (.int p')], .fz (.tup (l.map .int))]) := by
  obtain ⟨m0, p1, x1, vm0, e1⟩ := comp_r1 (b := .fz (.tup (l.map .int))) (c := .un) (d := .un) (e := .un) (g := .un) l p [] .un hl (by simp; omega)
  rw [List.nil_append, List.map_nil] at e1
  have ht := take_at (p := p1) (k := 4) (by decide) (by decide)
  have r0 := Int.emod_nonneg p1 (show (4 : Int) ≠ 0 by decide)
  have r1 := Int.emod_lt_of_pos p1 (show (0 : Int) < 4 by decide)
  obtain ⟨p2, ks, e', hks, hlen, e2⟩ := loop_r2 (c := .fz (.tup (m0.map .int))) hl h3 (upto 0 (p1 % 4).toNat) (p1 / 4) [] .un (by rw [upto_len]; simp; omega) (by simp)
  rw [upto_len, List.length_nil] at hlen
  obtain ⟨m, g', hm, e3⟩ := comp_r4 (a := .ls [.fz (.int p2)]) (b := .fz (.tup (l.map .int))) (c := .fz (.tup (m0.map .int))) (d := oL (ks.map tupD)) (e := e') (x := .un) (l := l) l m0 [] .un hl vm0 (by have := lo2_len vm0; simp; omega)
  rw [List.nil_append, List.map_nil] at e3
  have sl : (sortI ks).length ≤ 3 := by have := sort_len ks; omega
  have ss := ss_tups (ks := ks) (n := l.length) (by omega) (by omega) (fun k hk => lo2_len (hks k hk))
  refine ⟨(m, sortI ks), p2, ⟨hm, fun k hk => hks k (mem_sortI.mp hk), st_sortI ks, sl⟩, ?_⟩
  apply fe__law_rule
  · unfold b__law_rule
    walk_at "st"
    walk_at "st"
    walk_at "for"
    exact e2
    walk_at "ev"
  walk_at "fin"
end K7

set_option Elab.async false
set_option linter.all false
set_option maxRecDepth 100000
set_option maxHeartbeats 8000000
namespace K7
open PySem PySem.Spec PyProof.Rows L2 Q
local macro_rules | `(tactic| walk_at "norm") => `(tactic| focus (first | (simp only [List.map_cons, List.map_nil]; done) | ((try simp only [List.map_cons, List.map_nil]); exact rfl)))
local macro_rules | `(tactic| walk_at "set") => `(tactic| focus (first | (dsimp only [List.set_cons_succ, List.set_cons_zero]; done) | ((try dsimp only [List.set_cons_succ, List.set_cons_zero]); exact rfl)))
local macro_rules | `(tactic| walk_at "frz") => `(tactic| focus (first | (simp only [frzE_cons, frzE_nil, frz_fz, frz_un, frz_ls, frz_ls1]; done) | ((try simp only [frzE_cons, frzE_nil, frz_fz, frz_un, frz_ls, frz_ls1]); exact rfl)))
local macro_rules | `(tactic| walk_at "pars") => `(tactic| focus (first | (simp only [pars, List.getElem?_cons_succ, List.getElem?_cons_zero, Option.bind_some, List.set_cons_succ, List.set_cons_zero]; done) | ((try simp only [pars, List.getElem?_cons_succ, List.getElem?_cons_zero, Option.bind_some, List.set_cons_succ, List.set_cons_zero]); exact rfl)))
local macro_rules | `(tactic| walk_at "back") => `(tactic| focus (first | (simp only [back, putBack, List.getElem?_cons_succ, List.getElem?_cons_zero, List.set_cons_succ, List.set_cons_zero]; done) | ((try simp only [back, putBack, List.getElem?_cons_succ, List.getElem?_cons_zero, List.set_cons_succ, List.set_cons_zero]); exact rfl)))
local macro_rules | `(tactic| walk_at "restore") => `(tactic| focus (first | with_reducible assumption | (simp only [restore, slotP, keepP, List.getElem?_cons_succ, List.getElem?_cons_zero, List.set_cons_succ, List.set_cons_zero]; done) | ((try simp only [restore, slotP, keepP, List.getElem?_cons_succ, List.getElem?_cons_zero, List.set_cons_succ, List.set_cons_zero]); exact rfl)))
local macro_rules | `(tactic| walk_at "wipe") => `(tactic| focus (first | (simp only [wipeT, List.set_cons_succ, List.set_cons_zero]; done) | ((try simp only [wipeT, List.set_cons_succ, List.set_cons_zero]); exact rfl)))
local macro_rules | `(tactic| walk_at "out") => `(tactic| focus (first | (simp only [outP, keepP, if_true, Bool.false_eq_true, if_false]; done) | ((try simp only [outP, keepP, if_true, Bool.false_eq_true, if_false]); exact rfl)))
local macro_rules | `(tactic| walk_at "side") => `(tactic| (first | with_reducible assumption | omega | decide))
local macro_rules | `(tactic| walk_at "mul") => `(tactic| (first | with_reducible assumption | exact mulW_small 62 62 (by omega) (by omega) (by decide) (by decide) (by decide)))
local macro_rules | `(tactic| walk_at "len") => `(tactic| focus ((try simp only [List.length_cons, List.length_nil, List.length_append, List.length_replicate, List.length_map]) <;> (first | omega | with_reducible assumption)))
local macro_rules | `(tactic| walk_at "at") => `(tactic| (first | with_reducible assumption | exact rfl))
local macro_rules | `(tactic| walk_at "eq") => `(tactic| (first | with_reducible assumption | with_reducible exact EV.eqI _ _ | with_reducible exact EV.neI _ _))
local macro_rules | `(tactic| walk_at "rep") => `(tactic| (with_reducible assumption))
local macro_rules | `(tactic| walk_at "in") => `(tactic| (first | with_reducible assumption | exact rfl))
local macro_rules | `(tactic| walk_at "ss") => `(tactic| (with_reducible assumption))
local macro_rules | `(tactic| walk_at "tru") => `(tactic| (first | exact rfl | with_reducible assumption))
local macro_rules | `(tactic| walk_at "call") => `(tactic| (with_reducible assumption))
local macro_rules | `(tactic| walk_at "aug") => `(tactic| (exact rfl))
local macro_rules | `(tactic| walk_at "bt") => `(tactic| (first | exact rfl | with_reducible assumption | (simp only [decide_eq_true_eq, decide_eq_false_iff_not, Bool.not_eq_true', Bool.not_eq_false', Bool.and_eq_true, Bool.or_eq_true, Bool.and_eq_false_iff, Bool.or_eq_false_iff, beq_iff_eq, beq_eq_false_iff_ne, ne_eq]; omega)))
local macro_rules | `(tactic| walk_at "ev") => `(tactic| first
  | ((with_reducible apply EV.shV); (exact rfl))
  | ((with_reducible apply EV.shO); (exact rfl); (walk_at "set"))
  | ((with_reducible apply EV.shD); (exact rfl); (with_reducible assumption); (walk_at "set"))
  | ((with_reducible exact EV.cE _))
  | ((with_reducible apply EV.shS); (walk_at "ev"))
  | ((with_reducible apply EV.shN); (walk_at "ev"))
  | ((with_reducible apply EV.scal); (walk_at "frz"); (walk_at "ev"); (exact rfl))
  | ((with_reducible apply EV.lift); (walk_at "ev"))
  | ((with_reducible exact EV.cW _))
  | ((with_reducible apply EV.varF); (exact rfl))
  | ((with_reducible apply EV.varL); (exact rfl))
  | ((with_reducible exact EV.fn))
  | ((with_reducible apply EV.fc); (walk_at "ev"); (walk_at "ev"))
  | ((with_reducible exact EV.an))
  | ((with_reducible apply EV.ac); (walk_at "ev"); (walk_at "ev"))
  | ((with_reducible exact EV.mn))
  | ((with_reducible apply EV.mc); (walk_at "ev"); (walk_at "ev"))
  | ((with_reducible apply EV.mV); (exact rfl))
  | ((with_reducible apply EV.mO); (exact rfl); (walk_at "set"))
  | ((with_reducible apply EV.mvMF); (exact rfl); (walk_at "set"))
  | ((with_reducible apply EV.mvML); (exact rfl); (walk_at "set"))
  | ((with_reducible apply EV.mS); (walk_at "ev"))
  | ((with_reducible apply EV.mN); (walk_at "ev"))
  | ((with_reducible apply EV.add); (walk_at "ev"); (walk_at "ev"))
  | ((with_reducible apply EV.sub); (walk_at "ev"); (walk_at "ev"))
  | ((with_reducible apply EV.mul); (walk_at "ev"); (walk_at "ev"); (walk_at "mul"))
  | ((with_reducible apply EV.mod); (walk_at "ev"); (walk_at "ev"); (walk_at "side"))
  | ((with_reducible apply EV.div); (walk_at "ev"); (walk_at "ev"); (walk_at "side"))
  | ((with_reducible apply EV.pow); (walk_at "ev"); (walk_at "ev"); (walk_at "side"))
  | ((with_reducible apply EV.shl); (walk_at "ev"); (walk_at "ev"); (walk_at "side"))
  | ((with_reducible apply EV.shr); (walk_at "ev"); (walk_at "ev"); (walk_at "side"))
  | ((with_reducible apply EV.band); (walk_at "ev"); (walk_at "ev"))
  | ((with_reducible apply EV.bor); (walk_at "ev"); (walk_at "ev"))
  | ((with_reducible apply EV.bxor); (walk_at "ev"); (walk_at "ev"))
  | ((with_reducible apply EV.lt); (walk_at "ev"); (walk_at "ev"))
  | ((with_reducible apply EV.le); (walk_at "ev"); (walk_at "ev"))
  | ((with_reducible apply EV.gt); (walk_at "ev"); (walk_at "ev"))
  | ((with_reducible apply EV.ge); (walk_at "ev"); (walk_at "ev"))
  | ((with_reducible apply EV.neg); (walk_at "ev"))
  | ((with_reducible apply EV.eqG); (walk_at "ev"); (walk_at "ev"); (walk_at "eq"))
  | ((with_reducible apply EV.neG); (walk_at "ev"); (walk_at "ev"); (walk_at "eq"))
  | ((with_reducible apply EV.isN); (walk_at "ev"); (walk_at "ev"))
  | ((with_reducible apply EV.notN); (walk_at "ev"); (walk_at "ev"))
  | ((with_reducible apply EV.ixL); (walk_at "ev"); (walk_at "ev"); (walk_at "at"))
  | ((with_reducible apply EV.ixT); (walk_at "ev"); (walk_at "ev"); (walk_at "at"))
  | ((with_reducible apply EV.catT); (walk_at "ev"); (walk_at "ev"); (walk_at "len"))
  | ((with_reducible apply EV.catL); (walk_at "ev"); (walk_at "ev"); (walk_at "len"))
  | ((with_reducible apply EV.catS); (walk_at "ev"); (walk_at "ev"); (walk_at "len"))
  | ((with_reducible apply EV.mulL); (walk_at "ev"); (walk_at "ev"); (walk_at "side"); (walk_at "side"))
  | ((with_reducible apply EV.lenL); (walk_at "ev"))
  | ((with_reducible apply EV.lenT); (walk_at "ev"))
  | ((with_reducible apply EV.lenR); (walk_at "ev"))
  | ((with_reducible apply EV.lenS); (walk_at "ev"); (walk_at "len"))
  | ((with_reducible apply EV.tupL); (walk_at "ev"))
  | ((with_reducible apply EV.tupT); (walk_at "ev"))
  | ((with_reducible apply EV.lisL); (walk_at "ev"))
  | ((with_reducible apply EV.lisT); (walk_at "ev"))
  | ((with_reducible apply EV.rep); (walk_at "ev"); (walk_at "rep"))
  | ((with_reducible apply EV.max2); (walk_at "ev"); (walk_at "ev"))
  | ((with_reducible apply EV.min2); (walk_at "ev"); (walk_at "ev"))
  | ((with_reducible apply EV.intI); (walk_at "ev"))
  | ((with_reducible apply EV.intB); (walk_at "ev"))
  | ((with_reducible apply EV.strI); (walk_at "ev"); (walk_at "side"))
  | ((with_reducible apply EV.inG); (walk_at "ev"); (walk_at "ev"); (walk_at "in"))
  | ((with_reducible apply EV.inR); (walk_at "ev"); (walk_at "ev"))
  | ((with_reducible apply EV.isi); (walk_at "ev"); (exact rfl))
  | ((with_reducible apply EV.revT); (walk_at "ev"))
  | ((with_reducible apply EV.revL); (walk_at "ev"))
  | ((with_reducible apply EV.tup); (walk_at "ev"); (walk_at "len"))
  | ((with_reducible apply EV.lst); (walk_at "ev"); (walk_at "len"))
  | ((with_reducible apply EV.ltT); (walk_at "ev"); (walk_at "ev"); (walk_at "side"); (walk_at "side"))
  | ((with_reducible exact EV.pN))
  | ((with_reducible apply EV.pA); (walk_at "ev"))
  | ((with_reducible apply EV.slL); (walk_at "ev"); (walk_at "ev"); (walk_at "ev"))
  | ((with_reducible apply EV.slT); (walk_at "ev"); (walk_at "ev"); (walk_at "ev"))
  | ((with_reducible apply EV.ss); (walk_at "ev"); (walk_at "ss"))
  | ((with_reducible apply EV.srt); (walk_at "ev"); (walk_at "ss"))
  | ((with_reducible apply EV.bl); (walk_at "ev"))
  | ((with_reducible apply EV.tru); (walk_at "ev"); (walk_at "tru"))
  | ((with_reducible apply EV.not); (walk_at "ev"))
  | ((with_reducible apply EV.and); (walk_at "ev"); (walk_at "ev"))
  | ((with_reducible apply EV.or); (walk_at "ev"); (walk_at "ev"))
  | ((with_reducible apply EV.andF); (walk_at "ev"); (walk_at "bt"))
  | ((with_reducible apply EV.andT); (walk_at "ev"); (walk_at "bt"); (walk_at "ev"))
  | ((with_reducible apply EV.orT); (walk_at "ev"); (walk_at "bt"))
  | ((with_reducible apply EV.orF); (walk_at "ev"); (walk_at "bt"); (walk_at "ev"))
  | ((with_reducible apply EV.boolW); (walk_at "ev"))
  | ((with_reducible apply EV.scalT); (walk_at "frz"); (walk_at "ev"))
  | ((with_reducible apply EV.ifET); (walk_at "ev"); (walk_at "bt"); (walk_at "ev"))
  | ((with_reducible apply EV.ifEF); (walk_at "ev"); (walk_at "bt"); (walk_at "ev"))
  | ((with_reducible apply EV.chn); (walk_at "ev"); (walk_at "ev"); (exact rfl); (walk_at "ev"); (exact rfl))
  | ((with_reducible apply EV.xl); (walk_at "ev"))
  | ((with_reducible apply EV.xb); (walk_at "ev"))
  | ((with_reducible apply EV.xblS); (walk_at "ev"))
  | ((with_reducible apply EV.xnot); (walk_at "ev"))
  | ((with_reducible apply EV.callS); (walk_at "ev"); (walk_at "pars"); (walk_at "norm"); (walk_at "call"); (exact rfl); (walk_at "back"))
  | ((with_reducible apply EV.callN); (walk_at "ev"); (walk_at "pars"); (walk_at "norm"); (walk_at "call"); (exact rfl); (walk_at "back"))
  | ((with_reducible apply EV.callXS); (walk_at "ev"); (walk_at "pars"); (walk_at "norm"); (walk_at "call"); (exact rfl); (walk_at "back"))
  | ((with_reducible apply EV.callXN); (walk_at "ev"); (walk_at "pars"); (walk_at "norm"); (walk_at "call"); (exact rfl); (walk_at "back"))
  | ((with_reducible apply EV.callXE); (walk_at "ev"); (walk_at "pars"); (walk_at "norm"); (walk_at "call"); (exact rfl); (walk_at "back"))
  | ((with_reducible apply EV.ixO); (exact rfl); (walk_at "ev"); (exact rfl); (walk_at "at"))
  | ((with_reducible apply EV.app); (exact rfl); (walk_at "ev"); (exact rfl); (walk_at "len"); (walk_at "set"))
  | ((with_reducible apply EV.appT); (exact rfl); (walk_at "ev"); (exact rfl); (walk_at "len"); (walk_at "set"))
  | ((with_reducible apply EV.ext); (exact rfl); (walk_at "ev"); (exact rfl); (walk_at "len"); (walk_at "set"))
  | ((with_reducible apply EV.pop); (exact rfl); (walk_at "set"))
  | ((with_reducible apply EV.comp); (walk_at "ev"); (walk_at "call"); (walk_at "restore"))
  | ((with_reducible apply EV.comp2); (walk_at "ev"); (walk_at "call"); (walk_at "restore"))
  | ((with_reducible apply EV.tupG); (walk_at "ev"); (walk_at "call"); (walk_at "restore"))
  | ((with_reducible apply EV.ssc); (walk_at "ev"); (walk_at "call"); (walk_at "restore"); (walk_at "ss"); (walk_at "ss"))
  | ((with_reducible apply EV.allG); (walk_at "ev"); (walk_at "call"); (walk_at "restore"))
  | ((with_reducible exact EV.yes))
  | ((with_reducible apply EV.itL); (walk_at "ev"))
  | ((with_reducible apply EV.itT); (walk_at "ev"))
  | ((with_reducible apply EV.rg1); (walk_at "ev"); (walk_at "side"); (walk_at "side"))
  | ((with_reducible apply EV.rg2); (walk_at "ev"); (walk_at "side"))
  | ((with_reducible apply EV.rg3); (walk_at "ev"); (walk_at "side"))
  | ((with_reducible apply EV.zpL); (walk_at "ev"))
  | ((with_reducible apply EV.zpT); (walk_at "ev"))
  | ((with_reducible apply EV.enm); (walk_at "ev"))
  | ((with_reducible apply EV.enmL); (walk_at "ev"))
  | ((with_reducible apply EV.enmT); (walk_at "ev"))
  | ((with_reducible apply EV.rvs); (walk_at "ev"))
  | ((with_reducible apply EV.gName); (walk_at "set"))
  | ((with_reducible exact EV.gsN))
  | ((with_reducible apply EV.gsC); (walk_at "ev"); (walk_at "ev"))
  | ((with_reducible apply EV.gTup); (exact rfl); (try simp only [List.map_cons, List.map_nil]); (walk_at "ev"))
  | ((with_reducible apply EV.gLst); (exact rfl); (try simp only [List.map_cons, List.map_nil]); (walk_at "ev"))
  | ((with_reducible apply EV.setO); (exact rfl); (walk_at "ev"); (exact rfl); (walk_at "at"); (walk_at "set"))
  | ((with_reducible exact EV.nxt))
  | ((with_reducible apply EV.seq); (walk_at "ev"); (walk_at "ev"))
  | ((with_reducible apply EV.seqR); (walk_at "ev"); (exact rfl))
  | ((with_reducible apply EV.seqX); (walk_at "ev"))
  | ((with_reducible apply EV.asgV); (walk_at "ev"); (walk_at "ev"))
  | ((with_reducible apply EV.asgS); (walk_at "ev"); (walk_at "ev"))
  | ((with_reducible apply EV.asgN); (walk_at "ev"); (walk_at "ev"))
  | ((with_reducible apply EV.asgX); (walk_at "ev"))
  | ((with_reducible apply EV.drop); (walk_at "ev"))
  | ((with_reducible apply EV.dropX); (walk_at "ev"))
  | ((with_reducible apply EV.ret); (walk_at "ev"))
  | ((with_reducible apply EV.ifT); (walk_at "ev"); (walk_at "bt"); (walk_at "ev"))
  | ((with_reducible apply EV.ifF); (walk_at "ev"); (walk_at "bt"); (walk_at "ev"))
  | ((with_reducible apply EV.aug); (exact rfl); (walk_at "ev"); (exact rfl); (walk_at "aug"); (walk_at "set"))
  | ((with_reducible apply EV.augO); (exact rfl); (walk_at "ev"); (exact rfl); (walk_at "side"); (walk_at "at"); (walk_at "at"); (walk_at "ev"); (walk_at "aug"); (exact rfl); (walk_at "set"))
  | ((with_reducible apply EV.for_); (walk_at "ev"); (walk_at "call")))
local macro_rules | `(tactic| walk_at "st") => `(tactic| ((with_reducible apply EV.seq); (walk_at "ev")))
local macro_rules | `(tactic| walk_at "le") => `(tactic| (exact Nat.le_of_ble_eq_true rfl))
local macro_rules | `(tactic| walk_at "fin") => `(tactic| first
  | ((apply EV.finS); (walk_at "le"); (walk_at "out"))
  | ((apply EV.finN); (walk_at "le"); (walk_at "out"))
  | ((apply EV.finV); (decide); (exact rfl); (walk_at "le"); (walk_at "out"))
  | ((apply EV.finW); (decide); (exact rfl); (walk_at "le"); (walk_at "out"))
  | ((apply EV.finP); (decide); (walk_at "ev"); (walk_at "le"); (walk_at "out"))
  | ((apply EV.finNx); (walk_at "le"); (walk_at "out"))
  | ((apply EV.finEx); (walk_at "le"); (walk_at "out")))
local macro_rules | `(tactic| walk_at "for") => `(tactic| ((with_reducible apply EV.seq); (with_reducible apply EV.for_); (walk_at "ev")))
local macro_rules | `(tactic| walk_at "gt") => `(tactic| ((simp only [wipeT, List.set_cons_succ, List.set_cons_zero]); (walk_at "ev")))
local macro_rules | `(tactic| walk_at "cc") => `(tactic| (apply EV.ccY; (walk_at "gt"); (first | exact EV.yes | walk_at "ev"); (walk_at "bt"); (walk_at "ev"); (walk_at "len")))
local macro_rules | `(tactic| walk_at "cn") => `(tactic| (apply EV.ccN; (walk_at "gt"); (walk_at "ev"); (walk_at "bt")))
local macro_rules | `(tactic| walk_at "rt") => `(tactic| ((with_reducible apply EV.seqR); (walk_at "ev"); (exact rfl)))
local macro_rules | `(tactic| walk_at "gg") => `(tactic| (apply EV.gt1; (walk_at "gt"); (walk_at "ev"); (walk_at "len")))
local macro_rules | `(tactic| walk_at "gs") => `(tactic| (apply EV.gs1; (walk_at "gt"); (walk_at "ev"); (walk_at "ss"); (walk_at "len")))

/-! ### tables that are drawn -/
theorem comp_t1 {l : List Int} {c : T} (hl : ∀ a ∈ l, 1 ≤ a ∧ a ≤ 4) (h1 : 1 ≤ l.length) (h3 : l.length ≤ 3) : ∀ (js : List D) (p : Int) (M : List D) (x : T), M.length + js.length ≤ 1000 → ∃ (tb : List Rule) (p' : Int) (x' : T), (∀ r ∈ tb, RuOk l r) ∧ tb.length = js.length ∧ compD (gdName 3) dYes c__law_table_1 [3] js [.ls [.fz (.int p)], .fz (.tup (l.map .int)), c, x] (M.map .fz) = some ((M ++ tbl tb).map .fz, [.ls [.fz (.int p')], .fz (.tup (l.map .int)), c, x'])
  | [], p, M, x, _ => ⟨[], p, x, by simp, rfl, by simp [compD, tbl]⟩
  | j :: js, p, M, x, hb => by
    simp only [List.length_cons] at hb
    obtain ⟨d, p1, rd, hd⟩ := v__law_rule p hl h1 h3
    obtain ⟨tb, p', x', h4, h5, ec⟩ := comp_t1 (l := l) (c := c) hl h1 h3 js p1 (M ++ [ruD d]) (.fz j) (by simp; omega)
    refine ⟨d :: tb, p', x', fun e he => ?_, by simp [h5], ?_⟩
    · rcases List.mem_cons.mp he with rfl | he
      · exact rd
      · exact h4 e he
    · walk_at "cc"
      rw [ec]; simp [tbl]
theorem v__law_table {l : List Int} (p : Int) (hl : ∀ a ∈ l, 1 ≤ a ∧ a ≤ 4) (h1 : 1 ≤ l.length) (h3 : l.length ≤ 3) : ∃ (tb : List Rule) (p' : Int), (∀ r ∈ tb, RuOk l r) ∧ tb.length ≤ 10 ∧ fn__law_table [.ls [.fz (.int p)], .fz (.tup (l.map .int))] = some (.ret (.ls ((tbl tb).map .fz)), [.ls [.fz (.int p')], .fz (.tup (l.map .int))]) := by
  have ht := take_at (p := p) (k := 9) (by decide) (by decide)
  have r0 := Int.emod_nonneg p (show (9 : Int) ≠ 0 by decide)
  have r1 := Int.emod_lt_of_pos p (show (0 : Int) < 9 by decide)
  obtain ⟨tb, p1, x1, rd, dl, e1⟩ := comp_t1 (l := l) (c := .un) hl h1 h3 (upto 0 (p % 9).toNat) (p / 9) [] .un (by rw [upto_len]; simp; omega)
  rw [upto_len] at dl
  rw [List.nil_append, List.map_nil] at e1
  have ht2 := take_at (p := p1) (k := 4) (by decide) (by decide)
  have ht3 := take_at (p := p1 / 4) (k := 3) (by decide) (by decide)
  have q0 := Int.emod_nonneg (p1 / 4) (show (3 : Int) ≠ 0 by decide)
  have q1 := Int.emod_lt_of_pos (p1 / 4) (show (0 : Int) < 3 by decide)
  have hc := cutD_take (tbl tb) q0
  have bl : (tbl tb).length = tb.length := by simp [tbl]
  have cl : ((tbl tb).take (p1 / 4 % 3).toNat).length ≤ 2 := by rw [List.length_take]; omega
  cases c : (p1 % 4 == 1) with
  | false =>
    refine ⟨tb, p1 / 4, rd, by omega, ?_⟩
    apply fe__law_table
    · unfold b__law_table
      walk_at "st"
      walk_at "st"
      walk_at "ev"
    walk_at "fin"
  | true =>
    refine ⟨tb ++ tb.take (p1 / 4 % 3).toNat, p1 / 4 / 3, fun r hr => ?_, by simp; omega, ?_⟩
    · rcases List.mem_append.mp hr with h | h
      · exact rd r h
      · exact rd r (List.mem_of_mem_take h)
    have fin : tbl (tb ++ tb.take (p1 / 4 % 3).toNat) = tbl tb ++ Q.cutD (tbl tb) none (some (p1 / 4 % 3)) := by rw [hc]; simp [tbl, List.map_take]
    rw [fin]
    have cl2 : (tbl tb).length + (Q.cutD (tbl tb) none (some (p1 / 4 % 3))).length ≤ 1000000 := by rw [hc]; omega
    apply fe__law_table
    · unfold b__law_table
      walk_at "st"
      walk_at "st"
      walk_at "ev"
    walk_at "fin"
end K7

set_option Elab.async false
set_option linter.all false
set_option maxRecDepth 100000
set_option maxHeartbeats 8000000
namespace Q
namespace EV
open PySem PySem.Spec PyProof.Rows L2
variable {r r1 r2 r3 : Env}
theorem ccT {h : GD} {b : BD} {e : MD} {own : List Nat} {d : D} {t : T} {l : List D} {acc : List T} {z : Option (List T × Env)} {c : Bool} (h1 : h (wipeT r own) (.fz d) = some r1) (h2 : b r1 = some (c, r2)) (hc : c = true) (h3 : e r2 = some (t, r3)) (hl : acc.length < 1000000) (h4 : compD h b e own l r3 (acc ++ [t]) = z) : compD h b e own (d :: l) r acc = z := by
  subst hc
  simp only [compD, h1, Option.bind_some, h2, if_true, h3, hl]; exact h4
theorem compT {f : ID} {h : GD} {b : BD} {e : MD} {own : List Nat} {l : List D} {M : List T} (h1 : f r = some (l, r1)) (h2 : compD h b e own l r1 [] = some (M, r2)) (h3 : restore r1 own r2 = r3) : dComp f h b e own r = some (.nw (.ls M), r3) := by
  unfold dComp; rw [h1]; simp only [Option.bind_some]; rw [h2]; simp only [Option.bind_some, h3]
theorem c2Y {h : GD} {b : BD} {f1 : ID} {hh : GD} {b1 : BD} {e : MD} {own own1 : List Nat} {d : D} {l l1 : List D} {acc acc1 : List T} {r4 : Env} {z : Option (List T × Env)} {c : Bool} (h1 : h (wipeT r own) (.fz d) = some r1) (h2 : b r1 = some (c, r2)) (hc : c = true) (h3 : f1 r2 = some (l1, r3)) (h4 : compD hh b1 e own1 l1 r3 acc = some (acc1, r4)) (h5 : comp2D h b f1 hh b1 e own own1 l r4 acc1 = z) : comp2D h b f1 hh b1 e own own1 (d :: l) r acc = z := by
  subst hc
  simp only [comp2D, h1, Option.bind_some, h2, if_true, h3, h4]; exact h5
theorem alT {h : GD} {e : FD} {own : List Nat} {d : D} {l : List D} {z : Option (Bool × Env)} (h1 : h (wipeT r own) (.fz d) = some r1) (h2 : e r1 = some (.bl true, r2)) (h3 : allD h e own l r2 = z) : allD h e own (d :: l) r = z := by
  simp only [allD, h1, Option.bind_some, h2]; exact h3
theorem alF {h : GD} {e : FD} {own : List Nat} {d : D} {l : List D} (h1 : h (wipeT r own) (.fz d) = some r1) (h2 : e r1 = some (.bl false, r2)) : allD h e own (d :: l) r = some (false, r2) := by
  simp only [allD, h1, Option.bind_some, h2]
end EV
end Q
namespace K7
open PySem PySem.Spec PyProof.Rows L2 Q
local macro_rules | `(tactic| walk_at "norm") => `(tactic| focus (first | (simp only [List.map_cons, List.map_nil]; done) | ((try simp only [List.map_cons, List.map_nil]); exact rfl)))
local macro_rules | `(tactic| walk_at "set") => `(tactic| focus (first | (dsimp only [List.set_cons_succ, List.set_cons_zero]; done) | ((try dsimp only [List.set_cons_succ, List.set_cons_zero]); exact rfl)))
local macro_rules | `(tactic| walk_at "frz") => `(tactic| focus (first | (simp only [frzE_cons, frzE_nil, frz_fz, frz_un, frz_ls, frz_ls1]; done) | ((try simp only [frzE_cons, frzE_nil, frz_fz, frz_un, frz_ls, frz_ls1]); exact rfl)))
local macro_rules | `(tactic| walk_at "pars") => `(tactic| focus (first | (simp only [pars, List.getElem?_cons_succ, List.getElem?_cons_zero, Option.bind_some, List.set_cons_succ, List.set_cons_zero]; done) | ((try simp only [pars, List.getElem?_cons_succ, List.getElem?_cons_zero, Option.bind_some, List.set_cons_succ, List.set_cons_zero]); exact rfl)))
local macro_rules | `(tactic| walk_at "back") => `(tactic| focus (first | (simp only [back, putBack, List.getElem?_cons_succ, List.getElem?_cons_zero, List.set_cons_succ, List.set_cons_zero]; done) | ((try simp only [back, putBack, List.getElem?_cons_succ, List.getElem?_cons_zero, List.set_cons_succ, List.set_cons_zero]); exact rfl)))
local macro_rules | `(tactic| walk_at "restore") => `(tactic| focus (first | with_reducible assumption | (simp only [restore, slotP, keepP, List.getElem?_cons_succ, List.getElem?_cons_zero, List.set_cons_succ, List.set_cons_zero]; done) | ((try simp only [restore, slotP, keepP, List.getElem?_cons_succ, List.getElem?_cons_zero, List.set_cons_succ, List.set_cons_zero]); exact rfl)))
local macro_rules | `(tactic| walk_at "wipe") => `(tactic| focus (first | (simp only [wipeT, List.set_cons_succ, List.set_cons_zero]; done) | ((try simp only [wipeT, List.set_cons_succ, List.set_cons_zero]); exact rfl)))
local macro_rules | `(tactic| walk_at "out") => `(tactic| focus (first | (simp only [outP, keepP, if_true, Bool.false_eq_true, if_false]; done) | ((try simp only [outP, keepP, if_true, Bool.false_eq_true, if_false]); exact rfl)))
local macro_rules | `(tactic| walk_at "side") => `(tactic| (first | with_reducible assumption | omega | decide))
local macro_rules | `(tactic| walk_at "mul") => `(tactic| (first | with_reducible assumption | exact mulW_small 62 62 (by omega) (by omega) (by decide) (by decide) (by decide)))
local macro_rules | `(tactic| walk_at "len") => `(tactic| focus ((try simp only [List.length_cons, List.length_nil, List.length_append, List.length_replicate, List.length_map]) <;> (first | omega | with_reducible assumption)))
local macro_rules | `(tactic| walk_at "at") => `(tactic| (first | with_reducible assumption | exact rfl))
local macro_rules | `(tactic| walk_at "eq") => `(tactic| (first | with_reducible assumption | with_reducible exact EV.eqI _ _ | with_reducible exact EV.neI _ _))
local macro_rules | `(tactic| walk_at "rep") => `(tactic| (with_reducible assumption))
local macro_rules | `(tactic| walk_at "in") => `(tactic| (first | with_reducible assumption | exact rfl))
local macro_rules | `(tactic| walk_at "ss") => `(tactic| (with_reducible assumption))
local macro_rules | `(tactic| walk_at "tru") => `(tactic| (first | exact rfl | with_reducible assumption))
local macro_rules | `(tactic| walk_at "call") => `(tactic| (with_reducible assumption))
local macro_rules | `(tactic| walk_at "aug") => `(tactic| (exact rfl))
local macro_rules | `(tactic| walk_at "bt") => `(tactic| (first | exact rfl | with_reducible assumption | (simp only [decide_eq_true_eq, decide_eq_false_iff_not, Bool.not_eq_true', Bool.not_eq_false', Bool.and_eq_true, Bool.or_eq_true, Bool.and_eq_false_iff, Bool.or_eq_false_iff, beq_iff_eq, beq_eq_false_iff_ne, ne_eq]; omega)))
local macro_rules | `(tactic| walk_at "ev") => `(tactic| first
  | ((with_reducible apply EV.shV); (exact rfl))
  | ((with_reducible apply EV.shO); (exact rfl); (walk_at "set"))
  | ((with_reducible apply EV.shD); (exact rfl); (with_reducible assumption); (walk_at "set"))
  | ((with_reducible exact EV.cE _))
  | ((with_reducible apply EV.shS); (walk_at "ev"))
  | ((with_reducible apply EV.shN); (walk_at "ev"))
  | ((with_reducible apply EV.scal); (walk_at "frz"); (walk_at "ev"); (exact rfl))
  | ((with_reducible apply EV.lift); (walk_at "ev"))
  | ((with_reducible exact EV.cW _))
  | ((with_reducible apply EV.varF); (exact rfl))
  | ((with_reducible apply EV.varL); (exact rfl))
  | ((with_reducible exact EV.fn))
  | ((with_reducible apply EV.fc); (walk_at "ev"); (walk_at "ev"))
  | ((with_reducible exact EV.an))
  | ((with_reducible apply EV.ac); (walk_at "ev"); (walk_at "ev"))
  | ((with_reducible exact EV.mn))
  | ((with_reducible apply EV.mc); (walk_at "ev"); (walk_at "ev"))
  | ((with_reducible apply EV.mV); (exact rfl))
  | ((with_reducible apply EV.mO); (exact rfl); (walk_at "set"))
  | ((with_reducible apply EV.mvMF); (exact rfl); (walk_at "set"))
  | ((with_reducible apply EV.mvML); (exact rfl); (walk_at "set"))
  | ((with_reducible apply EV.mS); (walk_at "ev"))
  | ((with_reducible apply EV.mN); (walk_at "ev"))
  | ((with_reducible apply EV.add); (walk_at "ev"); (walk_at "ev"))
  | ((with_reducible apply EV.sub); (walk_at "ev"); (walk_at "ev"))
  | ((with_reducible apply EV.mul); (walk_at "ev"); (walk_at "ev"); (walk_at "mul"))
  | ((with_reducible apply EV.mod); (walk_at "ev"); (walk_at "ev"); (walk_at "side"))
  | ((with_reducible apply EV.div); (walk_at "ev"); (walk_at "ev"); (walk_at "side"))
  | ((with_reducible apply EV.pow); (walk_at "ev"); (walk_at "ev"); (walk_at "side"))
  | ((with_reducible apply EV.shl); (walk_at "ev"); (walk_at "ev"); (walk_at "side"))
  | ((with_reducible apply EV.shr); (walk_at "ev"); (walk_at "ev"); (walk_at "side"))
  | ((with_reducible apply EV.band); (walk_at "ev"); (walk_at "ev"))
  | ((with_reducible apply EV.bor); (walk_at "ev"); (walk_at "ev"))
  | ((with_reducible apply EV.bxor); (walk_at "ev"); (walk_at "ev"))
  | ((with_reducible apply EV.lt); (walk_at "ev"); (walk_at "ev"))
  | ((with_reducible apply EV.le); (walk_at "ev"); (walk_at "ev"))
  | ((with_reducible apply EV.gt); (walk_at "ev"); (walk_at "ev"))
  | ((with_reducible apply EV.ge); (walk_at "ev"); (walk_at "ev"))
  | ((with_reducible apply EV.neg); (walk_at "ev"))
  | ((with_reducible apply EV.eqG); (walk_at "ev"); (walk_at "ev"); (walk_at "eq"))
  | ((with_reducible apply EV.neG); (walk_at "ev"); (walk_at "ev"); (walk_at "eq"))
  | ((with_reducible apply EV.isN); (walk_at "ev"); (walk_at "ev"))
  | ((with_reducible apply EV.notN); (walk_at "ev"); (walk_at "ev"))
  | ((with_reducible apply EV.ixL); (walk_at "ev"); (walk_at "ev"); (walk_at "at"))
  | ((with_reducible apply EV.ixT); (walk_at "ev"); (walk_at "ev"); (walk_at "at"))
  | ((with_reducible apply EV.catT); (walk_at "ev"); (walk_at "ev"); (walk_at "len"))
  | ((with_reducible apply EV.catL); (walk_at "ev"); (walk_at "ev"); (walk_at "len"))
  | ((with_reducible apply EV.catS); (walk_at "ev"); (walk_at "ev"); (walk_at "len"))
  | ((with_reducible apply EV.mulL); (walk_at "ev"); (walk_at "ev"); (walk_at "side"); (walk_at "side"))
  | ((with_reducible apply EV.lenL); (walk_at "ev"))
  | ((with_reducible apply EV.lenT); (walk_at "ev"))
  | ((with_reducible apply EV.lenR); (walk_at "ev"))
  | ((with_reducible apply EV.lenS); (walk_at "ev"); (walk_at "len"))
  | ((with_reducible apply EV.tupL); (walk_at "ev"))
  | ((with_reducible apply EV.tupT); (walk_at "ev"))
  | ((with_reducible apply EV.lisL); (walk_at "ev"))
  | ((with_reducible apply EV.lisT); (walk_at "ev"))
  | ((with_reducible apply EV.rep); (walk_at "ev"); (walk_at "rep"))
  | ((with_reducible apply EV.max2); (walk_at "ev"); (walk_at "ev"))
  | ((with_reducible apply EV.min2); (walk_at "ev"); (walk_at "ev"))
  | ((with_reducible apply EV.intI); (walk_at "ev"))
  | ((with_reducible apply EV.intB); (walk_at "ev"))
  | ((with_reducible apply EV.strI); (walk_at "ev"); (walk_at "side"))
  | ((with_reducible apply EV.inG); (walk_at "ev"); (walk_at "ev"); (walk_at "in"))
  | ((with_reducible apply EV.inR); (walk_at "ev"); (walk_at "ev"))
  | ((with_reducible apply EV.isi); (walk_at "ev"); (exact rfl))
  | ((with_reducible apply EV.revT); (walk_at "ev"))
  | ((with_reducible apply EV.revL); (walk_at "ev"))
  | ((with_reducible apply EV.tup); (walk_at "ev"); (walk_at "len"))
  | ((with_reducible apply EV.lst); (walk_at "ev"); (walk_at "len"))
  | ((with_reducible apply EV.ltT); (walk_at "ev"); (walk_at "ev"); (walk_at "side"); (walk_at "side"))
  | ((with_reducible exact EV.pN))
  | ((with_reducible apply EV.pA); (walk_at "ev"))
  | ((with_reducible apply EV.slL); (walk_at "ev"); (walk_at "ev"); (walk_at "ev"))
  | ((with_reducible apply EV.slT); (walk_at "ev"); (walk_at "ev"); (walk_at "ev"))
  | ((with_reducible apply EV.ss); (walk_at "ev"); (walk_at "ss"))
  | ((with_reducible apply EV.srt); (walk_at "ev"); (walk_at "ss"))
  | ((with_reducible apply EV.bl); (walk_at "ev"))
  | ((with_reducible apply EV.tru); (walk_at "ev"); (walk_at "tru"))
  | ((with_reducible apply EV.not); (walk_at "ev"))
  | ((with_reducible apply EV.and); (walk_at "ev"); (walk_at "ev"))
  | ((with_reducible apply EV.or); (walk_at "ev"); (walk_at "ev"))
  | ((with_reducible apply EV.andF); (walk_at "ev"); (walk_at "bt"))
  | ((with_reducible apply EV.andT); (walk_at "ev"); (walk_at "bt"); (walk_at "ev"))
  | ((with_reducible apply EV.orT); (walk_at "ev"); (walk_at "bt"))
  | ((with_reducible apply EV.orF); (walk_at "ev"); (walk_at "bt"); (walk_at "ev"))
  | ((with_reducible apply EV.boolW); (walk_at "ev"))
  | ((with_reducible apply EV.scalT); (walk_at "frz"); (walk_at "ev"))
  | ((with_reducible apply EV.ifET); (walk_at "ev"); (walk_at "bt"); (walk_at "ev"))
  | ((with_reducible apply EV.ifEF); (walk_at "ev"); (walk_at "bt"); (walk_at "ev"))
  | ((with_reducible apply EV.chn); (walk_at "ev"); (walk_at "ev"); (exact rfl); (walk_at "ev"); (exact rfl))
  | ((with_reducible apply EV.xl); (walk_at "ev"))
  | ((with_reducible apply EV.xb); (walk_at "ev"))
  | ((with_reducible apply EV.xblS); (walk_at "ev"))
  | ((with_reducible apply EV.xnot); (walk_at "ev"))
  | ((with_reducible apply EV.callS); (walk_at "ev"); (walk_at "pars"); (walk_at "norm"); (walk_at "call"); (exact rfl); (walk_at "back"))
  | ((with_reducible apply EV.callN); (walk_at "ev"); (walk_at "pars"); (walk_at "norm"); (walk_at "call"); (exact rfl); (walk_at "back"))
  | ((with_reducible apply EV.callXS); (walk_at "ev"); (walk_at "pars"); (walk_at "norm"); (walk_at "call"); (exact rfl); (walk_at "back"))
  | ((with_reducible apply EV.callXN); (walk_at "ev"); (walk_at "pars"); (walk_at "norm"); (walk_at "call"); (exact rfl); (walk_at "back"))
  | ((with_reducible apply EV.callXE); (walk_at "ev"); (walk_at "pars"); (walk_at "norm"); (walk_at "call"); (exact rfl); (walk_at "back"))
  | ((with_reducible apply EV.ixO); (exact rfl); (walk_at "ev"); (exact rfl); (walk_at "at"))
  | ((with_reducible apply EV.app); (exact rfl); (walk_at "ev"); (exact rfl); (walk_at "len"); (walk_at "set"))
  | ((with_reducible apply EV.appT); (exact rfl); (walk_at "ev"); (exact rfl); (walk_at "len"); (walk_at "set"))
  | ((with_reducible apply EV.ext); (exact rfl); (walk_at "ev"); (exact rfl); (walk_at "len"); (walk_at "set"))
  | ((with_reducible apply EV.pop); (exact rfl); (walk_at "set"))
  | ((with_reducible apply EV.comp); (walk_at "ev"); (walk_at "call"); (walk_at "restore"))
  | ((with_reducible apply EV.comp2); (walk_at "ev"); (walk_at "call"); (walk_at "restore"))
  | ((with_reducible apply EV.tupG); (walk_at "ev"); (walk_at "call"); (walk_at "restore"))
  | ((with_reducible apply EV.ssc); (walk_at "ev"); (walk_at "call"); (walk_at "restore"); (walk_at "ss"); (walk_at "ss"))
  | ((with_reducible apply EV.allG); (walk_at "ev"); (walk_at "call"); (walk_at "restore"))
  | ((with_reducible exact EV.yes))
  | ((with_reducible apply EV.itL); (walk_at "ev"))
  | ((with_reducible apply EV.itT); (walk_at "ev"))
  | ((with_reducible apply EV.rg1); (walk_at "ev"); (walk_at "side"); (walk_at "side"))
  | ((with_reducible apply EV.rg2); (walk_at "ev"); (walk_at "side"))
  | ((with_reducible apply EV.rg3); (walk_at "ev"); (walk_at "side"))
  | ((with_reducible apply EV.zpL); (walk_at "ev"))
  | ((with_reducible apply EV.zpT); (walk_at "ev"))
  | ((with_reducible apply EV.enm); (walk_at "ev"))
  | ((with_reducible apply EV.enmL); (walk_at "ev"))
  | ((with_reducible apply EV.enmT); (walk_at "ev"))
  | ((with_reducible apply EV.rvs); (walk_at "ev"))
  | ((with_reducible apply EV.gName); (walk_at "set"))
  | ((with_reducible exact EV.gsN))
  | ((with_reducible apply EV.gsC); (walk_at "ev"); (walk_at "ev"))
  | ((with_reducible apply EV.gTup); (exact rfl); (try simp only [List.map_cons, List.map_nil]); (walk_at "ev"))
  | ((with_reducible apply EV.gLst); (exact rfl); (try simp only [List.map_cons, List.map_nil]); (walk_at "ev"))
  | ((with_reducible apply EV.setO); (exact rfl); (walk_at "ev"); (exact rfl); (walk_at "at"); (walk_at "set"))
  | ((with_reducible exact EV.nxt))
  | ((with_reducible apply EV.seq); (walk_at "ev"); (walk_at "ev"))
  | ((with_reducible apply EV.seqR); (walk_at "ev"); (exact rfl))
  | ((with_reducible apply EV.seqX); (walk_at "ev"))
  | ((with_reducible apply EV.asgV); (walk_at "ev"); (walk_at "ev"))
  | ((with_reducible apply EV.asgS); (walk_at "ev"); (walk_at "ev"))
  | ((with_reducible apply EV.asgN); (walk_at "ev"); (walk_at "ev"))
  | ((with_reducible apply EV.asgX); (walk_at "ev"))
  | ((with_reducible apply EV.drop); (walk_at "ev"))
  | ((with_reducible apply EV.dropX); (walk_at "ev"))
  | ((with_reducible apply EV.ret); (walk_at "ev"))
  | ((with_reducible apply EV.ifT); (walk_at "ev"); (walk_at "bt"); (walk_at "ev"))
  | ((with_reducible apply EV.ifF); (walk_at "ev"); (walk_at "bt"); (walk_at "ev"))
  | ((with_reducible apply EV.aug); (exact rfl); (walk_at "ev"); (exact rfl); (walk_at "aug"); (walk_at "set"))
  | ((with_reducible apply EV.augO); (exact rfl); (walk_at "ev"); (exact rfl); (walk_at "side"); (walk_at "at"); (walk_at "at"); (walk_at "ev"); (walk_at "aug"); (exact rfl); (walk_at "set"))
  | ((with_reducible apply EV.for_); (walk_at "ev"); (walk_at "call")))
local macro_rules | `(tactic| walk_at "st") => `(tactic| ((with_reducible apply EV.seq); (walk_at "ev")))
local macro_rules | `(tactic| walk_at "le") => `(tactic| (exact Nat.le_of_ble_eq_true rfl))
local macro_rules | `(tactic| walk_at "fin") => `(tactic| first
  | ((apply EV.finS); (walk_at "le"); (walk_at "out"))
  | ((apply EV.finN); (walk_at "le"); (walk_at "out"))
  | ((apply EV.finV); (decide); (exact rfl); (walk_at "le"); (walk_at "out"))
  | ((apply EV.finW); (decide); (exact rfl); (walk_at "le"); (walk_at "out"))
  | ((apply EV.finP); (decide); (walk_at "ev"); (walk_at "le"); (walk_at "out"))
  | ((apply EV.finNx); (walk_at "le"); (walk_at "out"))
  | ((apply EV.finEx); (walk_at "le"); (walk_at "out")))
local macro_rules | `(tactic| walk_at "for") => `(tactic| ((with_reducible apply EV.seq); (with_reducible apply EV.for_); (walk_at "ev")))
local macro_rules | `(tactic| walk_at "gt") => `(tactic| ((simp only [wipeT, List.set_cons_succ, List.set_cons_zero]); (walk_at "ev")))
local macro_rules | `(tactic| walk_at "cc") => `(tactic| (apply EV.ccY; (walk_at "gt"); (first | exact EV.yes | walk_at "ev"); (walk_at "bt"); (walk_at "ev"); (walk_at "len")))
local macro_rules | `(tactic| walk_at "cn") => `(tactic| (apply EV.ccN; (walk_at "gt"); (walk_at "ev"); (walk_at "bt")))
local macro_rules | `(tactic| walk_at "rt") => `(tactic| ((with_reducible apply EV.seqR); (walk_at "ev"); (exact rfl)))
local macro_rules | `(tactic| walk_at "gg") => `(tactic| (apply EV.gt1; (walk_at "gt"); (walk_at "ev"); (walk_at "len")))
local macro_rules | `(tactic| walk_at "gs") => `(tactic| (apply EV.gs1; (walk_at "gt"); (walk_at "ev"); (walk_at "ss"); (walk_at "len")))

/-! ### letters -/
def nums (c : Int) : List Int := (List.range c.toNat).map fun (i : Nat) => (0 : Int) + (i : Int)
theorem nums_upto (c : Int) : upto 0 c.toNat = (nums c).map .int := by unfold upto nums; rw [List.map_map]; rfl
theorem nums_len {c : Int} (h1 : 1 ≤ c) (h4 : c ≤ 4) : (nums c).length ≤ 4 := by simp [nums]; omega
theorem nums_mem {c i : Int} (h : i ∈ nums c) : 0 ≤ i ∧ i < c := by
  unfold nums at h
  obtain ⟨k, hk, rfl⟩ := List.mem_map.mp h
  rw [List.mem_range] at hk
  omega
def extL (c : Int) (F : List (List Int)) : List (List Int) := F.flatMap fun y => (nums c).map fun i => y ++ [i]
def LI : List Int → List (List Int) → List (List Int)
  | [], F => F
  | c :: l, F => LI l (extL c F)
theorem ext_len {c : Int} (h1 : 1 ≤ c) (h4 : c ≤ 4) : ∀ F : List (List Int), (extL c F).length ≤ 4 * F.length
  | [] => by simp [extL]
  | y :: F => by
    have := ext_len h1 h4 F
    have := nums_len h1 h4
    simp only [extL, List.flatMap_cons, List.length_append, List.length_map, List.length_cons] at *
    omega
theorem ext_mem {c : Int} {m : Nat} {F : List (List Int)} (h : ∀ y ∈ F, y.length = m) : ∀ k ∈ extL c F, k.length = m + 1 := fun k hk => by
  unfold extL at hk
  obtain ⟨y, hy, hk⟩ := List.mem_flatMap.mp hk
  obtain ⟨i, _, rfl⟩ := List.mem_map.mp hk
  simp [h y hy]
theorem LI_ok : ∀ (l : List Int) (m : Nat) (F : List (List Int)), (∀ c ∈ l, 1 ≤ c ∧ c ≤ 4) → (∀ k ∈ F, k.length = m) → (∀ k ∈ LI l F, k.length = m + l.length) ∧ (LI l F).length ≤ 4 ^ l.length * F.length
  | [], m, F, _, h => ⟨h, by simp [LI]⟩
  | c :: l, m, F, hl, h => by
    obtain ⟨h1, h4⟩ := hl c (by simp)
    obtain ⟨a, b⟩ := LI_ok l (m + 1) (extL c F) (fun d hd => hl d (by simp [hd])) (ext_mem h)
    refine ⟨fun k hk => by rw [a k hk]; simp only [List.length_cons]; omega, Nat.le_trans b ?_⟩
    have := ext_len h1 h4 F
    rw [List.length_cons, Nat.pow_succ, Nat.mul_assoc]
    exact Nat.mul_le_mul_left _ this
theorem comp_l3 {a b c d : T} {y : List Int} (hy : y.length ≤ 10) : ∀ (vs : List Int) (M : List D) (x : T), M.length + vs.length ≤ 1000 → ∃ (x' : T), compD (gdName 5) dYes c__law_letters_3 [5] (vs.map .int) [a, b, c, d, .fz (.tup (y.map .int)), x] (M.map .fz) = some ((M ++ (vs.map fun i => y ++ [i]).map tupD).map .fz, [a, b, c, d, .fz (.tup (y.map .int)), x'])
  | [], M, x, _ => ⟨x, by simp [compD]⟩
  | i :: vs, M, x, hb => by
    simp only [List.length_cons] at hb
    obtain ⟨x', e⟩ := comp_l3 (a := a) (b := b) (c := c) (d := d) hy vs (M ++ [.tup (y.map .int ++ [.int i])]) (.fz (.int i)) (by simp; omega)
    refine ⟨x', ?_⟩
    rw [List.map_cons]
    walk_at "cc"
    rw [e]; simp [tupD]
theorem loop_l2 {a b : T} {c : Int} {m : Nat} (h1 : 1 ≤ c) (h4 : c ≤ 4) (hm : m ≤ 9) : ∀ (Ys : List (List Int)) (L : List (List Int)) (x : T), (∀ y ∈ Ys, y.length = m) → L.length + 4 * Ys.length ≤ 1000 → ∃ (x' : T),
    loopD (gdName 4) L__law_letters_2 (Ys.map tupD) [a, b, .fz (.int c), oL (L.map tupD), x, .un] = some (.nx [a, b, .fz (.int c), oL ((L ++ extL c Ys).map tupD), x', .un])
  | [], L, x, _, _ => ⟨x, by simp [extL, loopD]⟩
  | y :: Ys, L, x, hY, hb => by
    simp only [List.length_cons] at hb
    have ul := nums_len h1 h4
    obtain ⟨x5, ec⟩ := comp_l3 (a := a) (b := b) (c := .fz (.int c)) (d := .fz (.lst (L.map tupD))) (y := y) (by rw [hY y (by simp)]; omega) (nums c) [] .un (by simp; omega)
    rw [List.nil_append, List.map_nil, ← nums_upto] at ec
    generalize hK : ((nums c).map fun i => y ++ [i]) = Ks at ec
    have kl : Ks.length ≤ 4 := by rw [← hK, List.length_map]; exact ul
    obtain ⟨x', e⟩ := loop_l2 (a := a) (b := b) h1 h4 hm Ys (L ++ Ks) (.fz (.tup (y.map .int))) (fun z hz => hY z (by simp [hz])) (by rw [List.length_append]; omega)
    refine ⟨x', ?_⟩
    have ex : L ++ extL c (y :: Ys) = L ++ Ks ++ extL c Ys := by rw [← hK]; simp [extL]
    rw [ex]
    rw [List.map_append (l₁ := L) (l₂ := Ks)] at e
    have hl : (L.map tupD).length + (Ks.map tupD).length ≤ 1000000 := by simp; omega
    show loopD _ _ (.tup (y.map .int) :: Ys.map tupD) _ = _
    apply EV.lpN
    · walk_at "ev"
    · walk_at "ev"
    · exact e
theorem loop_l1 {a : T} : ∀ (l : List Int) (m : Nat) (F : List (List Int)) (t x y z : T), (∀ c ∈ l, 1 ≤ c ∧ c ≤ 4) → m + l.length ≤ 3 → (∀ k ∈ F, k.length = m) → F.length ≤ 4 ^ m → (t = oL (F.map tupD) ∨ t = .fz (.lst (F.map tupD))) → ∃ (t' x' y' z' : T), (l = [] → t' = t) ∧ (l ≠ [] → t' = .fz (.lst ((LI l F).map tupD))) ∧
    loopD (gdName 2) L__law_letters_1 (l.map .int) [a, t, x, y, z, .un] = some (.nx [a, t', x', y', z', .un])
  | [], m, F, t, x, y, z, _, hm, hF, hn, _ => ⟨t, x, y, z, fun _ => rfl, fun h => absurd rfl h, rfl⟩
  | c :: l, m, F, t, x, y, z, hl, hm, hF, hn, ht => by
    simp only [List.length_cons] at hm
    obtain ⟨h1, h4⟩ := hl c (by simp)
    have hp : 4 ^ m ≤ 16 := by
      have : 4 ^ m ≤ 4 ^ 2 := Nat.pow_le_pow_right (by decide) (by omega)
      omega
    obtain ⟨x4, e2⟩ := loop_l2 (a := a) (b := .fz (.lst (F.map tupD))) (c := c) (m := m) h1 h4 (by omega) F [] z hF (by simp; omega)
    rw [List.nil_append] at e2
    have k1 := ext_mem (c := c) hF
    have k2 := ext_len h1 h4 F
    obtain ⟨t', x', y', z', h8, h7, e⟩ := loop_l1 (a := a) l (m + 1) (extL c F) (.fz (.lst ((extL c F).map tupD))) (.fz (.int c)) (.fz (.lst ((extL c F).map tupD))) x4 (fun d hd => hl d (by simp [hd])) (by omega) k1 (by rw [Nat.pow_succ]; omega) (Or.inr rfl)
    refine ⟨t', x', y', z', (fun z => by cases z), fun _ => ?_, ?_⟩
    · cases l with
      | nil => rw [h8 rfl]; rfl
      | cons d l => exact h7 (by simp)
    rw [List.map_cons]
    have e2' : loopD (gdName 4) L__law_letters_2 (F.map tupD) [a, .fz (.lst (F.map tupD)), .fz (.int c), .ls (List.map T.fz []), z, .un] = some (.nx [a, .fz (.lst (F.map tupD)), .fz (.int c), oL ((extL c F).map tupD), x4, .un]) := e2
    rcases ht with rfl | rfl <;>
    · apply EV.lpN
      · walk_at "ev"
      · walk_at "st"
        walk_at "st"
        walk_at "ev"
      · exact e
theorem v__law_letters {l : List Int} (hl : ∀ c ∈ l, 1 ≤ c ∧ c ≤ 4) (h1 : 1 ≤ l.length) (h3 : l.length ≤ 3) : fn__law_letters [.fz (.tup (l.map .int))] = some (.ret (.fz (.lst ((LI l [[]]).map tupD))), [.fz (.tup (l.map .int))]) := by
  obtain ⟨t', x', y', z', h8, h7, e⟩ := loop_l1 (a := .fz (.tup (l.map .int))) l 0 [[]] (oL [tupD []]) .un .un .un hl (by omega) (by simp) (by simp) (Or.inl rfl)
  rw [h7 (by intro z; subst z; simp at h1)] at e
  have e2 : loopD (gdName 2) L__law_letters_1 (l.map .int) [.fz (.tup (l.map .int)), .ls (List.map T.fz [.tup []]), .un, .un, .un, .un] = _ := e
  apply fe__law_letters
  · unfold b__law_letters
    walk_at "st"
    walk_at "st"
    walk_at "ev"
  walk_at "fin"
/-! ### the program's letters -/
theorem comp_p2 {Z : Zs} {a b c : T} {y : List Int} (hy : y.length ≤ 10) : ∀ (vs : List Int) (M : List D) (x : T), M.length + vs.length ≤ 1000 → ∃ (x' : T), compD (gdName 4) dYes (c_letters_of_2 Z) [4] (vs.map .int) [a, b, c, .fz (.tup (y.map .int)), x] (M.map .fz) = some ((M ++ (vs.map fun i => y ++ [i]).map tupD).map .fz, [a, b, c, .fz (.tup (y.map .int)), x'])
  | [], M, x, _ => ⟨x, by simp [compD]⟩
  | i :: vs, M, x, hb => by
    simp only [List.length_cons] at hb
    obtain ⟨x', e⟩ := comp_p2 (Z := Z) (a := a) (b := b) (c := c) hy vs (M ++ [.tup (y.map .int ++ [.int i])]) (.fz (.int i)) (by simp; omega)
    refine ⟨x', ?_⟩
    rw [List.map_cons]
    walk_at "cc"
    rw [e]; simp [tupD]
theorem comp_p1 {Z : Zs} {a b : T} {c : Int} {m : Nat} (h1 : 1 ≤ c) (h4 : c ≤ 4) (hm : m ≤ 9) : ∀ (Ys L : List (List Int)) (x y : T), (∀ y ∈ Ys, y.length = m) → L.length + 4 * Ys.length ≤ 1000 → ∃ (x' y' : T),
    comp2D (gdName 3) dYes (ci_letters_of_2 Z) (gdName 4) dYes (c_letters_of_2 Z) [3, 4] [4] (Ys.map tupD) [a, b, .fz (.int c), x, y] ((L.map tupD).map .fz) = some (((L ++ extL c Ys).map tupD).map .fz, [a, b, .fz (.int c), x', y'])
  | [], L, x, y, _, _ => ⟨x, y, by simp [extL, comp2D]⟩
  | k :: Ys, L, x, y, hY, hb => by
    simp only [List.length_cons] at hb
    have ul := nums_len h1 h4
    obtain ⟨x5, ec⟩ := comp_p2 (Z := Z) (a := a) (b := b) (c := .fz (.int c)) (y := k) (by rw [hY k (by simp)]; omega) (nums c) (L.map tupD) .un (by simp; omega)
    rw [← nums_upto, ← List.map_append] at ec
    generalize hK : ((nums c).map fun i => k ++ [i]) = Ks at ec
    have kl : Ks.length ≤ 4 := by rw [← hK, List.length_map]; exact ul
    obtain ⟨x', y', e⟩ := comp_p1 (Z := Z) (a := a) (b := b) h1 h4 hm Ys (L ++ Ks) (.fz (.tup (k.map .int))) x5 (fun z hz => hY z (by simp [hz])) (by rw [List.length_append]; omega)
    refine ⟨x', y', ?_⟩
    have ex : L ++ extL c (k :: Ys) = L ++ Ks ++ extL c Ys := by rw [← hK]; simp [extL]
    rw [ex]
    show comp2D _ _ _ _ _ _ _ _ (.tup (k.map .int) :: Ys.map tupD) _ _ = _
    apply EV.c2Y
    · walk_at "gt"
    · exact EV.yes
    · rfl
    · walk_at "ev"
    · exact ec
    · exact e
theorem loop_p1 {Z : Zs} {a : T} : ∀ (l : List Int) (m : Nat) (F : List (List Int)) (x : T), (∀ c ∈ l, 1 ≤ c ∧ c ≤ 4) → m + l.length ≤ 3 → (∀ k ∈ F, k.length = m) → F.length ≤ 4 ^ m → ∃ (x' : T),
    loopD (gdName 2) (L_letters_of_1 Z) (l.map .int) [a, oL (F.map tupD), x, .un, .un] = some (.nx [a, oL ((LI l F).map tupD), x', .un, .un])
  | [], m, F, x, _, hm, hF, hn => ⟨x, rfl⟩
  | c :: l, m, F, x, hl, hm, hF, hn => by
    simp only [List.length_cons] at hm
    obtain ⟨h1, h4⟩ := hl c (by simp)
    have hp : 4 ^ m ≤ 16 := by
      have : 4 ^ m ≤ 4 ^ 2 := Nat.pow_le_pow_right (by decide) (by omega)
      omega
    obtain ⟨x', y', e2⟩ := comp_p1 (Z := Z) (a := a) (b := .fz (.lst (F.map tupD))) (c := c) (m := m) h1 h4 (by omega) F [] .un .un hF (by simp; omega)
    rw [List.nil_append, List.map_nil, List.map_nil] at e2
    have k1 := ext_mem (c := c) hF
    have k2 := ext_len h1 h4 F
    obtain ⟨x5, e⟩ := loop_p1 (Z := Z) (a := a) l (m + 1) (extL c F) (.fz (.int c)) (fun d hd => hl d (by simp [hd])) (by omega) k1 (by rw [Nat.pow_succ]; omega)
    refine ⟨x5, ?_⟩
    rw [List.map_cons]
    apply EV.lpN
    · walk_at "ev"
    · walk_at "ev"
    · exact e
theorem v_letters_of {Z : Zs} {l : List Int} (hs : GSh (l.map .int)) (hl : ∀ c ∈ l, 1 ≤ c ∧ c ≤ 4) (h3 : l.length ≤ 3) : fn_letters_of Z [.fz (.tup (l.map .int))] = some (.ret (oL ((LI l [[]]).map tupD)), [.fz (.tup (l.map .int))]) := by
  have hc := v_check (Z := Z) hs
  obtain ⟨x', e⟩ := loop_p1 (Z := Z) (a := .fz (.tup (l.map .int))) l 0 [[]] .un hl (by omega) (by simp) (by simp)
  have e2 : loopD (gdName 2) (L_letters_of_1 Z) (l.map .int) [.fz (.tup (l.map .int)), .ls (List.map T.fz [.tup []]), .un, .un, .un] = _ := e
  apply fe_letters_of
  · unfold b_letters_of
    walk_at "st"
    walk_at "st"
    walk_at "st"
    walk_at "ev"
  walk_at "fin"
end K7

set_option Elab.async false
set_option linter.all false
set_option maxRecDepth 100000
set_option maxHeartbeats 8000000
namespace K7
open PySem PySem.Spec PyProof.Rows L2 Q
local macro_rules | `(tactic| walk_at "norm") => `(tactic| focus (first | (simp only [List.map_cons, List.map_nil]; done) | ((try simp only [List.map_cons, List.map_nil]); exact rfl)))
local macro_rules | `(tactic| walk_at "set") => `(tactic| focus (first | (dsimp only [List.set_cons_succ, List.set_cons_zero]; done) | ((try dsimp only [List.set_cons_succ, List.set_cons_zero]); exact rfl)))
local macro_rules | `(tactic| walk_at "frz") => `(tactic| focus (first | (simp only [frzE_cons, frzE_nil, frz_fz, frz_un, frz_ls, frz_ls1]; done) | ((try simp only [frzE_cons, frzE_nil, frz_fz, frz_un, frz_ls, frz_ls1]); exact rfl)))
local macro_rules | `(tactic| walk_at "pars") => `(tactic| focus (first | (simp only [pars, List.getElem?_cons_succ, List.getElem?_cons_zero, Option.bind_some, List.set_cons_succ, List.set_cons_zero]; done) | ((try simp only [pars, List.getElem?_cons_succ, List.getElem?_cons_zero, Option.bind_some, List.set_cons_succ, List.set_cons_zero]); exact rfl)))
local macro_rules | `(tactic| walk_at "back") => `(tactic| focus (first | (simp only [back, putBack, List.getElem?_cons_succ, List.getElem?_cons_zero, List.set_cons_succ, List.set_cons_zero]; done) | ((try simp only [back, putBack, List.getElem?_cons_succ, List.getElem?_cons_zero, List.set_cons_succ, List.set_cons_zero]); exact rfl)))
local macro_rules | `(tactic| walk_at "restore") => `(tactic| focus (first | with_reducible assumption | (simp only [restore, slotP, keepP, List.getElem?_cons_succ, List.getElem?_cons_zero, List.set_cons_succ, List.set_cons_zero]; done) | ((try simp only [restore, slotP, keepP, List.getElem?_cons_succ, List.getElem?_cons_zero, List.set_cons_succ, List.set_cons_zero]); exact rfl)))
local macro_rules | `(tactic| walk_at "wipe") => `(tactic| focus (first | (simp only [wipeT, List.set_cons_succ, List.set_cons_zero]; done) | ((try simp only [wipeT, List.set_cons_succ, List.set_cons_zero]); exact rfl)))
local macro_rules | `(tactic| walk_at "out") => `(tactic| focus (first | (simp only [outP, keepP, if_true, Bool.false_eq_true, if_false]; done) | ((try simp only [outP, keepP, if_true, Bool.false_eq_true, if_false]); exact rfl)))
local macro_rules | `(tactic| walk_at "side") => `(tactic| (first | with_reducible assumption | omega | decide))
local macro_rules | `(tactic| walk_at "mul") => `(tactic| (first | with_reducible assumption | exact mulW_small 62 62 (by omega) (by omega) (by decide) (by decide) (by decide)))
local macro_rules | `(tactic| walk_at "len") => `(tactic| focus ((try simp only [List.length_cons, List.length_nil, List.length_append, List.length_replicate, List.length_map]) <;> (first | omega | with_reducible assumption)))
local macro_rules | `(tactic| walk_at "at") => `(tactic| (first | with_reducible assumption | exact rfl))
local macro_rules | `(tactic| walk_at "eq") => `(tactic| (first | with_reducible assumption | with_reducible exact EV.eqI _ _ | with_reducible exact EV.neI _ _))
local macro_rules | `(tactic| walk_at "rep") => `(tactic| (with_reducible assumption))
local macro_rules | `(tactic| walk_at "in") => `(tactic| (first | with_reducible assumption | exact rfl))
local macro_rules | `(tactic| walk_at "ss") => `(tactic| (with_reducible assumption))
local macro_rules | `(tactic| walk_at "tru") => `(tactic| (first | exact rfl | with_reducible assumption))
local macro_rules | `(tactic| walk_at "call") => `(tactic| (with_reducible assumption))
local macro_rules | `(tactic| walk_at "aug") => `(tactic| (exact rfl))
local macro_rules | `(tactic| walk_at "bt") => `(tactic| (first | exact rfl | with_reducible assumption | (simp only [decide_eq_true_eq, decide_eq_false_iff_not, Bool.not_eq_true', Bool.not_eq_false', Bool.and_eq_true, Bool.or_eq_true, Bool.and_eq_false_iff, Bool.or_eq_false_iff, beq_iff_eq, beq_eq_false_iff_ne, ne_eq]; omega)))
local macro_rules | `(tactic| walk_at "ev") => `(tactic| first
  | ((with_reducible apply EV.shV); (exact rfl))
  | ((with_reducible apply EV.shO); (exact rfl); (walk_at "set"))
  | ((with_reducible apply EV.shD); (exact rfl); (with_reducible assumption); (walk_at "set"))
  | ((with_reducible exact EV.cE _))
  | ((with_reducible apply EV.shS); (walk_at "ev"))
  | ((with_reducible apply EV.shN); (walk_at "ev"))
  | ((with_reducible apply EV.scal); (walk_at "frz"); (walk_at "ev"); (exact rfl))
  | ((with_reducible apply EV.lift); (walk_at "ev"))
  | ((with_reducible exact EV.cW _))
  | ((with_reducible apply EV.varF); (exact rfl))
  | ((with_reducible apply EV.varL); (exact rfl))
  | ((with_reducible exact EV.fn))
  | ((with_reducible apply EV.fc); (walk_at "ev"); (walk_at "ev"))
  | ((with_reducible exact EV.an))
  | ((with_reducible apply EV.ac); (walk_at "ev"); (walk_at "ev"))
  | ((with_reducible exact EV.mn))
  | ((with_reducible apply EV.mc); (walk_at "ev"); (walk_at "ev"))
  | ((with_reducible apply EV.mV); (exact rfl))
  | ((with_reducible apply EV.mO); (exact rfl); (walk_at "set"))
  | ((with_reducible apply EV.mvMF); (exact rfl); (walk_at "set"))
  | ((with_reducible apply EV.mvML); (exact rfl); (walk_at "set"))
  | ((with_reducible apply EV.mS); (walk_at "ev"))
  | ((with_reducible apply EV.mN); (walk_at "ev"))
  | ((with_reducible apply EV.add); (walk_at "ev"); (walk_at "ev"))
  | ((with_reducible apply EV.sub); (walk_at "ev"); (walk_at "ev"))
  | ((with_reducible apply EV.mul); (walk_at "ev"); (walk_at "ev"); (walk_at "mul"))
  | ((with_reducible apply EV.mod); (walk_at "ev"); (walk_at "ev"); (walk_at "side"))
  | ((with_reducible apply EV.div); (walk_at "ev"); (walk_at "ev"); (walk_at "side"))
  | ((with_reducible apply EV.pow); (walk_at "ev"); (walk_at "ev"); (walk_at "side"))
  | ((with_reducible apply EV.shl); (walk_at "ev"); (walk_at "ev"); (walk_at "side"))
  | ((with_reducible apply EV.shr); (walk_at "ev"); (walk_at "ev"); (walk_at "side"))
  | ((with_reducible apply EV.band); (walk_at "ev"); (walk_at "ev"))
  | ((with_reducible apply EV.bor); (walk_at "ev"); (walk_at "ev"))
  | ((with_reducible apply EV.bxor); (walk_at "ev"); (walk_at "ev"))
  | ((with_reducible apply EV.lt); (walk_at "ev"); (walk_at "ev"))
  | ((with_reducible apply EV.le); (walk_at "ev"); (walk_at "ev"))
  | ((with_reducible apply EV.gt); (walk_at "ev"); (walk_at "ev"))
  | ((with_reducible apply EV.ge); (walk_at "ev"); (walk_at "ev"))
  | ((with_reducible apply EV.neg); (walk_at "ev"))
  | ((with_reducible apply EV.eqG); (walk_at "ev"); (walk_at "ev"); (walk_at "eq"))
  | ((with_reducible apply EV.neG); (walk_at "ev"); (walk_at "ev"); (walk_at "eq"))
  | ((with_reducible apply EV.isN); (walk_at "ev"); (walk_at "ev"))
  | ((with_reducible apply EV.notN); (walk_at "ev"); (walk_at "ev"))
  | ((with_reducible apply EV.ixL); (walk_at "ev"); (walk_at "ev"); (walk_at "at"))
  | ((with_reducible apply EV.ixT); (walk_at "ev"); (walk_at "ev"); (walk_at "at"))
  | ((with_reducible apply EV.catT); (walk_at "ev"); (walk_at "ev"); (walk_at "len"))
  | ((with_reducible apply EV.catL); (walk_at "ev"); (walk_at "ev"); (walk_at "len"))
  | ((with_reducible apply EV.catS); (walk_at "ev"); (walk_at "ev"); (walk_at "len"))
  | ((with_reducible apply EV.mulL); (walk_at "ev"); (walk_at "ev"); (walk_at "side"); (walk_at "side"))
  | ((with_reducible apply EV.lenL); (walk_at "ev"))
  | ((with_reducible apply EV.lenT); (walk_at "ev"))
  | ((with_reducible apply EV.lenR); (walk_at "ev"))
  | ((with_reducible apply EV.lenS); (walk_at "ev"); (walk_at "len"))
  | ((with_reducible apply EV.tupL); (walk_at "ev"))
  | ((with_reducible apply EV.tupT); (walk_at "ev"))
  | ((with_reducible apply EV.lisL); (walk_at "ev"))
  | ((with_reducible apply EV.lisT); (walk_at "ev"))
  | ((with_reducible apply EV.rep); (walk_at "ev"); (walk_at "rep"))
  | ((with_reducible apply EV.max2); (walk_at "ev"); (walk_at "ev"))
  | ((with_reducible apply EV.min2); (walk_at "ev"); (walk_at "ev"))
  | ((with_reducible apply EV.intI); (walk_at "ev"))
  | ((with_reducible apply EV.intB); (walk_at "ev"))
  | ((with_reducible apply EV.strI); (walk_at "ev"); (walk_at "side"))
  | ((with_reducible apply EV.inG); (walk_at "ev"); (walk_at "ev"); (walk_at "in"))
  | ((with_reducible apply EV.inR); (walk_at "ev"); (walk_at "ev"))
  | ((with_reducible apply EV.isi); (walk_at "ev"); (exact rfl))
  | ((with_reducible apply EV.revT); (walk_at "ev"))
  | ((with_reducible apply EV.revL); (walk_at "ev"))
  | ((with_reducible apply EV.tup); (walk_at "ev"); (walk_at "len"))
  | ((with_reducible apply EV.lst); (walk_at "ev"); (walk_at "len"))
  | ((with_reducible apply EV.ltT); (walk_at "ev"); (walk_at "ev"); (walk_at "side"); (walk_at "side"))
  | ((with_reducible exact EV.pN))
  | ((with_reducible apply EV.pA); (walk_at "ev"))
  | ((with_reducible apply EV.slL); (walk_at "ev"); (walk_at "ev"); (walk_at "ev"))
  | ((with_reducible apply EV.slT); (walk_at "ev"); (walk_at "ev"); (walk_at "ev"))
  | ((with_reducible apply EV.ss); (walk_at "ev"); (walk_at "ss"))
  | ((with_reducible apply EV.srt); (walk_at "ev"); (walk_at "ss"))
  | ((with_reducible apply EV.bl); (walk_at "ev"))
  | ((with_reducible apply EV.tru); (walk_at "ev"); (walk_at "tru"))
  | ((with_reducible apply EV.not); (walk_at "ev"))
  | ((with_reducible apply EV.and); (walk_at "ev"); (walk_at "ev"))
  | ((with_reducible apply EV.or); (walk_at "ev"); (walk_at "ev"))
  | ((with_reducible apply EV.andF); (walk_at "ev"); (walk_at "bt"))
  | ((with_reducible apply EV.andT); (walk_at "ev"); (walk_at "bt"); (walk_at "ev"))
  | ((with_reducible apply EV.orT); (walk_at "ev"); (walk_at "bt"))
  | ((with_reducible apply EV.orF); (walk_at "ev"); (walk_at "bt"); (walk_at "ev"))
  | ((with_reducible apply EV.boolW); (walk_at "ev"))
  | ((with_reducible apply EV.scalT); (walk_at "frz"); (walk_at "ev"))
  | ((with_reducible apply EV.ifET); (walk_at "ev"); (walk_at "bt"); (walk_at "ev"))
  | ((with_reducible apply EV.ifEF); (walk_at "ev"); (walk_at "bt"); (walk_at "ev"))
  | ((with_reducible apply EV.chn); (walk_at "ev"); (walk_at "ev"); (exact rfl); (walk_at "ev"); (exact rfl))
  | ((with_reducible apply EV.xl); (walk_at "ev"))
  | ((with_reducible apply EV.xb); (walk_at "ev"))
  | ((with_reducible apply EV.xblS); (walk_at "ev"))
  | ((with_reducible apply EV.xnot); (walk_at "ev"))
  | ((with_reducible apply EV.callS); (walk_at "ev"); (walk_at "pars"); (walk_at "norm"); (walk_at "call"); (exact rfl); (walk_at "back"))
  | ((with_reducible apply EV.callN); (walk_at "ev"); (walk_at "pars"); (walk_at "norm"); (walk_at "call"); (exact rfl); (walk_at "back"))
  | ((with_reducible apply EV.callXS); (walk_at "ev"); (walk_at "pars"); (walk_at "norm"); (walk_at "call"); (exact rfl); (walk_at "back"))
  | ((with_reducible apply EV.callXN); (walk_at "ev"); (walk_at "pars"); (walk_at "norm"); (walk_at "call"); (exact rfl); (walk_at "back"))
  | ((with_reducible apply EV.callXE); (walk_at "ev"); (walk_at "pars"); (walk_at "norm"); (walk_at "call"); (exact rfl); (walk_at "back"))
  | ((with_reducible apply EV.ixO); (exact rfl); (walk_at "ev"); (exact rfl); (walk_at "at"))
  | ((with_reducible apply EV.app); (exact rfl); (walk_at "ev"); (exact rfl); (walk_at "len"); (walk_at "set"))
  | ((with_reducible apply EV.appT); (exact rfl); (walk_at "ev"); (exact rfl); (walk_at "len"); (walk_at "set"))
  | ((with_reducible apply EV.ext); (exact rfl); (walk_at "ev"); (exact rfl); (walk_at "len"); (walk_at "set"))
  | ((with_reducible apply EV.pop); (exact rfl); (walk_at "set"))
  | ((with_reducible apply EV.comp); (walk_at "ev"); (walk_at "call"); (walk_at "restore"))
  | ((with_reducible apply EV.comp2); (walk_at "ev"); (walk_at "call"); (walk_at "restore"))
  | ((with_reducible apply EV.tupG); (walk_at "ev"); (walk_at "call"); (walk_at "restore"))
  | ((with_reducible apply EV.ssc); (walk_at "ev"); (walk_at "call"); (walk_at "restore"); (walk_at "ss"); (walk_at "ss"))
  | ((with_reducible apply EV.allG); (walk_at "ev"); (walk_at "call"); (walk_at "restore"))
  | ((with_reducible exact EV.yes))
  | ((with_reducible apply EV.itL); (walk_at "ev"))
  | ((with_reducible apply EV.itT); (walk_at "ev"))
  | ((with_reducible apply EV.rg1); (walk_at "ev"); (walk_at "side"); (walk_at "side"))
  | ((with_reducible apply EV.rg2); (walk_at "ev"); (walk_at "side"))
  | ((with_reducible apply EV.rg3); (walk_at "ev"); (walk_at "side"))
  | ((with_reducible apply EV.zpL); (walk_at "ev"))
  | ((with_reducible apply EV.zpT); (walk_at "ev"))
  | ((with_reducible apply EV.enm); (walk_at "ev"))
  | ((with_reducible apply EV.enmL); (walk_at "ev"))
  | ((with_reducible apply EV.enmT); (walk_at "ev"))
  | ((with_reducible apply EV.rvs); (walk_at "ev"))
  | ((with_reducible apply EV.gName); (walk_at "set"))
  | ((with_reducible exact EV.gsN))
  | ((with_reducible apply EV.gsC); (walk_at "ev"); (walk_at "ev"))
  | ((with_reducible apply EV.gTup); (exact rfl); (try simp only [List.map_cons, List.map_nil]); (walk_at "ev"))
  | ((with_reducible apply EV.gLst); (exact rfl); (try simp only [List.map_cons, List.map_nil]); (walk_at "ev"))
  | ((with_reducible apply EV.setO); (exact rfl); (walk_at "ev"); (exact rfl); (walk_at "at"); (walk_at "set"))
  | ((with_reducible exact EV.nxt))
  | ((with_reducible apply EV.seq); (walk_at "ev"); (walk_at "ev"))
  | ((with_reducible apply EV.seqR); (walk_at "ev"); (exact rfl))
  | ((with_reducible apply EV.seqX); (walk_at "ev"))
  | ((with_reducible apply EV.asgV); (walk_at "ev"); (walk_at "ev"))
  | ((with_reducible apply EV.asgS); (walk_at "ev"); (walk_at "ev"))
  | ((with_reducible apply EV.asgN); (walk_at "ev"); (walk_at "ev"))
  | ((with_reducible apply EV.asgX); (walk_at "ev"))
  | ((with_reducible apply EV.drop); (walk_at "ev"))
  | ((with_reducible apply EV.dropX); (walk_at "ev"))
  | ((with_reducible apply EV.ret); (walk_at "ev"))
  | ((with_reducible apply EV.ifT); (walk_at "ev"); (walk_at "bt"); (walk_at "ev"))
  | ((with_reducible apply EV.ifF); (walk_at "ev"); (walk_at "bt"); (walk_at "ev"))
  | ((with_reducible apply EV.aug); (exact rfl); (walk_at "ev"); (exact rfl); (walk_at "aug"); (walk_at "set"))
  | ((with_reducible apply EV.augO); (exact rfl); (walk_at "ev"); (exact rfl); (walk_at "side"); (walk_at "at"); (walk_at "at"); (walk_at "ev"); (walk_at "aug"); (exact rfl); (walk_at "set"))
  | ((with_reducible apply EV.for_); (walk_at "ev"); (walk_at "call")))
local macro_rules | `(tactic| walk_at "st") => `(tactic| ((with_reducible apply EV.seq); (walk_at "ev")))
local macro_rules | `(tactic| walk_at "le") => `(tactic| (exact Nat.le_of_ble_eq_true rfl))
local macro_rules | `(tactic| walk_at "fin") => `(tactic| first
  | ((apply EV.finS); (walk_at "le"); (walk_at "out"))
  | ((apply EV.finN); (walk_at "le"); (walk_at "out"))
  | ((apply EV.finV); (decide); (exact rfl); (walk_at "le"); (walk_at "out"))
  | ((apply EV.finW); (decide); (exact rfl); (walk_at "le"); (walk_at "out"))
  | ((apply EV.finP); (decide); (walk_at "ev"); (walk_at "le"); (walk_at "out"))
  | ((apply EV.finNx); (walk_at "le"); (walk_at "out"))
  | ((apply EV.finEx); (walk_at "le"); (walk_at "out")))
local macro_rules | `(tactic| walk_at "for") => `(tactic| ((with_reducible apply EV.seq); (with_reducible apply EV.for_); (walk_at "ev")))
local macro_rules | `(tactic| walk_at "gt") => `(tactic| ((simp only [wipeT, List.set_cons_succ, List.set_cons_zero]); (walk_at "ev")))
local macro_rules | `(tactic| walk_at "cc") => `(tactic| (apply EV.ccY; (walk_at "gt"); (first | exact EV.yes | walk_at "ev"); (walk_at "bt"); (walk_at "ev"); (walk_at "len")))
local macro_rules | `(tactic| walk_at "cn") => `(tactic| (apply EV.ccN; (walk_at "gt"); (walk_at "ev"); (walk_at "bt")))
local macro_rules | `(tactic| walk_at "rt") => `(tactic| ((with_reducible apply EV.seqR); (walk_at "ev"); (exact rfl)))
local macro_rules | `(tactic| walk_at "gg") => `(tactic| (apply EV.gt1; (walk_at "gt"); (walk_at "ev"); (walk_at "len")))
local macro_rules | `(tactic| walk_at "gs") => `(tactic| (apply EV.gs1; (walk_at "gt"); (walk_at "ev"); (walk_at "ss"); (walk_at "len")))

theorem at_ints (k : List Int) (m : Nat) (h : m < k.length) : L2.atI (k.map D.int) (m : Int) = some (.int k[m]) := by
  rw [atI_nat, List.getElem?_map, List.getElem?_eq_getElem h]; rfl
def putI (x : List Int) (f : Nat) (v : Int) : List Int := x.take f ++ [v] ++ x.drop (f + 1)
theorem putI_len {x : List Int} {f : Nat} {v : Int} (h : f < x.length) : (putI x f v).length = x.length := by simp [putI]; omega
section
local instance tb3 : TbS := ⟨fun _ => False⟩
theorem sort_eq {a b : List (List Int)} (h : ∀ y, y ∈ a ↔ y ∈ b) : sortI a = sortI b := st_uniq (st_sortI a) (st_sortI b) fun y => by rw [mem_sortI, mem_sortI, h]
theorem sort_mem {a : List (List Int)} {y : List Int} : y ∈ sortI a ↔ y ∈ a := mem_sortI
theorem sort_idem (a : List (List Int)) : sortI (sortI a) = sortI a := sort_eq fun _ => mem_sortI
end
def meetsN (x : List Int) : Nat → List Int → Bool
  | _, [] => true
  | n, v :: k => (v == -1 || x[n]? == some v) && meetsN x (n + 1) k
def chgN : List Int → Nat → List Int → List Int
  | x, _, [] => x
  | x, n, v :: k => chgN (if v = -1 then x else putI x n v) (n + 1) k
theorem chg_len : ∀ (k : List Int) (f : Nat) (x : List Int), f + k.length ≤ x.length → (chgN x f k).length = x.length
  | [], _, _, _ => rfl
  | v :: k, f, x, h => by
    simp only [List.length_cons] at h
    unfold chgN
    split
    · exact chg_len k (f + 1) x (by omega)
    · rw [chg_len k (f + 1) _ (by rw [putI_len (by omega)]; omega), putI_len (by omega)]
def becI (x : List Int) : List Rule → List (List Int)
  | [] => []
  | r :: tb => if meetsN x 0 r.1 = true then sortI (r.2.map fun c => chgN x 0 c) else becI x tb
theorem bec_len {l : List Int} {x : List Int} (hx : x.length = l.length) (h0 : 0 < l.length) (h3 : l.length ≤ 3) : ∀ tb : List Rule, (∀ r ∈ tb, RuOk l r) → (becI x tb).length ≤ 3 ∧ ∀ y ∈ becI x tb, y.length = l.length
  | [], _ => ⟨by simp [becI], by simp [becI]⟩
  | r :: tb, h => by
    have o := h r (by simp)
    unfold becI
    split
    · refine ⟨Nat.le_trans (sort_len _) (by rw [List.length_map]; exact o.n), fun y hy => ?_⟩
      rw [sort_mem] at hy
      obtain ⟨c, hc, rfl⟩ := List.mem_map.mp hy
      have cl := lo2_len (o.cs c hc)
      rw [chg_len c 0 x (by omega), hx]
    · exact bec_len hx h0 h3 tb fun r hr => h r (by simp [hr])
theorem bec_sorted (x : List Int) : ∀ tb : List Rule, sortI (becI x tb) = becI x tb
  | [] => rfl
  | r :: tb => by
    unfold becI
    split
    · exact sort_idem _
    · exact bec_sorted x tb
end K7

set_option Elab.async false
set_option linter.all false
set_option maxRecDepth 100000
set_option maxHeartbeats 8000000
namespace K7
open PySem PySem.Spec PyProof.Rows L2 Q
local macro_rules | `(tactic| walk_at "norm") => `(tactic| focus (first | (simp only [List.map_cons, List.map_nil]; done) | ((try simp only [List.map_cons, List.map_nil]); exact rfl)))
local macro_rules | `(tactic| walk_at "set") => `(tactic| focus (first | (dsimp only [List.set_cons_succ, List.set_cons_zero]; done) | ((try dsimp only [List.set_cons_succ, List.set_cons_zero]); exact rfl)))
local macro_rules | `(tactic| walk_at "frz") => `(tactic| focus (first | (simp only [frzE_cons, frzE_nil, frz_fz, frz_un, frz_ls, frz_ls1]; done) | ((try simp only [frzE_cons, frzE_nil, frz_fz, frz_un, frz_ls, frz_ls1]); exact rfl)))
local macro_rules | `(tactic| walk_at "pars") => `(tactic| focus (first | (simp only [pars, List.getElem?_cons_succ, List.getElem?_cons_zero, Option.bind_some, List.set_cons_succ, List.set_cons_zero]; done) | ((try simp only [pars, List.getElem?_cons_succ, List.getElem?_cons_zero, Option.bind_some, List.set_cons_succ, List.set_cons_zero]); exact rfl)))
local macro_rules | `(tactic| walk_at "back") => `(tactic| focus (first | (simp only [back, putBack, List.getElem?_cons_succ, List.getElem?_cons_zero, List.set_cons_succ, List.set_cons_zero]; done) | ((try simp only [back, putBack, List.getElem?_cons_succ, List.getElem?_cons_zero, List.set_cons_succ, List.set_cons_zero]); exact rfl)))
local macro_rules | `(tactic| walk_at "restore") => `(tactic| focus (first | with_reducible assumption | (simp only [restore, slotP, keepP, List.getElem?_cons_succ, List.getElem?_cons_zero, List.set_cons_succ, List.set_cons_zero]; done) | ((try simp only [restore, slotP, keepP, List.getElem?_cons_succ, List.getElem?_cons_zero, List.set_cons_succ, List.set_cons_zero]); exact rfl)))
local macro_rules | `(tactic| walk_at "wipe") => `(tactic| focus (first | (simp only [wipeT, List.set_cons_succ, List.set_cons_zero]; done) | ((try simp only [wipeT, List.set_cons_succ, List.set_cons_zero]); exact rfl)))
local macro_rules | `(tactic| walk_at "out") => `(tactic| focus (first | (simp only [outP, keepP, if_true, Bool.false_eq_true, if_false]; done) | ((try simp only [outP, keepP, if_true, Bool.false_eq_true, if_false]); exact rfl)))
local macro_rules | `(tactic| walk_at "side") => `(tactic| (first | with_reducible assumption | omega | decide))
local macro_rules | `(tactic| walk_at "mul") => `(tactic| (first | with_reducible assumption | exact mulW_small 62 62 (by omega) (by omega) (by decide) (by decide) (by decide)))
local macro_rules | `(tactic| walk_at "len") => `(tactic| focus ((try simp only [List.length_cons, List.length_nil, List.length_append, List.length_replicate, List.length_map]) <;> (first | omega | with_reducible assumption)))
local macro_rules | `(tactic| walk_at "at") => `(tactic| (first | with_reducible assumption | exact rfl))
local macro_rules | `(tactic| walk_at "eq") => `(tactic| (first | with_reducible assumption | with_reducible exact EV.eqI _ _ | with_reducible exact EV.neI _ _))
local macro_rules | `(tactic| walk_at "rep") => `(tactic| (with_reducible assumption))
local macro_rules | `(tactic| walk_at "in") => `(tactic| (first | with_reducible assumption | exact rfl))
local macro_rules | `(tactic| walk_at "ss") => `(tactic| (with_reducible assumption))
local macro_rules | `(tactic| walk_at "tru") => `(tactic| (first | exact rfl | with_reducible assumption))
local macro_rules | `(tactic| walk_at "call") => `(tactic| (with_reducible assumption))
local macro_rules | `(tactic| walk_at "aug") => `(tactic| (exact rfl))
local macro_rules | `(tactic| walk_at "bt") => `(tactic| (first | exact rfl | with_reducible assumption | (simp only [decide_eq_true_eq, decide_eq_false_iff_not, Bool.not_eq_true', Bool.not_eq_false', Bool.and_eq_true, Bool.or_eq_true, Bool.and_eq_false_iff, Bool.or_eq_false_iff, beq_iff_eq, beq_eq_false_iff_ne, ne_eq]; omega)))
local macro_rules | `(tactic| walk_at "ev") => `(tactic| first
  | ((with_reducible apply EV.shV); (exact rfl))
  | ((with_reducible apply EV.shO); (exact rfl); (walk_at "set"))
  | ((with_reducible apply EV.shD); (exact rfl); (with_reducible assumption); (walk_at "set"))
  | ((with_reducible exact EV.cE _))
  | ((with_reducible apply EV.shS); (walk_at "ev"))
  | ((with_reducible apply EV.shN); (walk_at "ev"))
  | ((with_reducible apply EV.scal); (walk_at "frz"); (walk_at "ev"); (exact rfl))
  | ((with_reducible apply EV.lift); (walk_at "ev"))
  | ((with_reducible exact EV.cW _))
  | ((with_reducible apply EV.varF); (exact rfl))
  | ((with_reducible apply EV.varL); (exact rfl))
  | ((with_reducible exact EV.fn))
  | ((with_reducible apply EV.fc); (walk_at "ev"); (walk_at "ev"))
  | ((with_reducible exact EV.an))
  | ((with_reducible apply EV.ac); (walk_at "ev"); (walk_at "ev"))
  | ((with_reducible exact EV.mn))
  | ((with_reducible apply EV.mc); (walk_at "ev"); (walk_at "ev"))
  | ((with_reducible apply EV.mV); (exact rfl))
  | ((with_reducible apply EV.mO); (exact rfl); (walk_at "set"))
  | ((with_reducible apply EV.mvMF); (exact rfl); (walk_at "set"))
  | ((with_reducible apply EV.mvML); (exact rfl); (walk_at "set"))
  | ((with_reducible apply EV.mS); (walk_at "ev"))
  | ((with_reducible apply EV.mN); (walk_at "ev"))
  | ((with_reducible apply EV.add); (walk_at "ev"); (walk_at "ev"))
  | ((with_reducible apply EV.sub); (walk_at "ev"); (walk_at "ev"))
  | ((with_reducible apply EV.mul); (walk_at "ev"); (walk_at "ev"); (walk_at "mul"))
  | ((with_reducible apply EV.mod); (walk_at "ev"); (walk_at "ev"); (walk_at "side"))
  | ((with_reducible apply EV.div); (walk_at "ev"); (walk_at "ev"); (walk_at "side"))
  | ((with_reducible apply EV.pow); (walk_at "ev"); (walk_at "ev"); (walk_at "side"))
  | ((with_reducible apply EV.shl); (walk_at "ev"); (walk_at "ev"); (walk_at "side"))
  | ((with_reducible apply EV.shr); (walk_at "ev"); (walk_at "ev"); (walk_at "side"))
  | ((with_reducible apply EV.band); (walk_at "ev"); (walk_at "ev"))
  | ((with_reducible apply EV.bor); (walk_at "ev"); (walk_at "ev"))
  | ((with_reducible apply EV.bxor); (walk_at "ev"); (walk_at "ev"))
  | ((with_reducible apply EV.lt); (walk_at "ev"); (walk_at "ev"))
  | ((with_reducible apply EV.le); (walk_at "ev"); (walk_at "ev"))
  | ((with_reducible apply EV.gt); (walk_at "ev"); (walk_at "ev"))
  | ((with_reducible apply EV.ge); (walk_at "ev"); (walk_at "ev"))
  | ((with_reducible apply EV.neg); (walk_at "ev"))
  | ((with_reducible apply EV.eqG); (walk_at "ev"); (walk_at "ev"); (walk_at "eq"))
  | ((with_reducible apply EV.neG); (walk_at "ev"); (walk_at "ev"); (walk_at "eq"))
  | ((with_reducible apply EV.isN); (walk_at "ev"); (walk_at "ev"))
  | ((with_reducible apply EV.notN); (walk_at "ev"); (walk_at "ev"))
  | ((with_reducible apply EV.ixL); (walk_at "ev"); (walk_at "ev"); (walk_at "at"))
  | ((with_reducible apply EV.ixT); (walk_at "ev"); (walk_at "ev"); (walk_at "at"))
  | ((with_reducible apply EV.catT); (walk_at "ev"); (walk_at "ev"); (walk_at "len"))
  | ((with_reducible apply EV.catL); (walk_at "ev"); (walk_at "ev"); (walk_at "len"))
  | ((with_reducible apply EV.catS); (walk_at "ev"); (walk_at "ev"); (walk_at "len"))
  | ((with_reducible apply EV.mulL); (walk_at "ev"); (walk_at "ev"); (walk_at "side"); (walk_at "side"))
  | ((with_reducible apply EV.lenL); (walk_at "ev"))
  | ((with_reducible apply EV.lenT); (walk_at "ev"))
  | ((with_reducible apply EV.lenR); (walk_at "ev"))
  | ((with_reducible apply EV.lenS); (walk_at "ev"); (walk_at "len"))
  | ((with_reducible apply EV.tupL); (walk_at "ev"))
  | ((with_reducible apply EV.tupT); (walk_at "ev"))
  | ((with_reducible apply EV.lisL); (walk_at "ev"))
  | ((with_reducible apply EV.lisT); (walk_at "ev"))
  | ((with_reducible apply EV.rep); (walk_at "ev"); (walk_at "rep"))
  | ((with_reducible apply EV.max2); (walk_at "ev"); (walk_at "ev"))
  | ((with_reducible apply EV.min2); (walk_at "ev"); (walk_at "ev"))
  | ((with_reducible apply EV.intI); (walk_at "ev"))
  | ((with_reducible apply EV.intB); (walk_at "ev"))
  | ((with_reducible apply EV.strI); (walk_at "ev"); (walk_at "side"))
  | ((with_reducible apply EV.inG); (walk_at "ev"); (walk_at "ev"); (walk_at "in"))
  | ((with_reducible apply EV.inR); (walk_at "ev"); (walk_at "ev"))
  | ((with_reducible apply EV.isi); (walk_at "ev"); (exact rfl))
  | ((with_reducible apply EV.revT); (walk_at "ev"))
  | ((with_reducible apply EV.revL); (walk_at "ev"))
  | ((with_reducible apply EV.tup); (walk_at "ev"); (walk_at "len"))
  | ((with_reducible apply EV.lst); (walk_at "ev"); (walk_at "len"))
  | ((with_reducible apply EV.ltT); (walk_at "ev"); (walk_at "ev"); (walk_at "side"); (walk_at "side"))
  | ((with_reducible exact EV.pN))
  | ((with_reducible apply EV.pA); (walk_at "ev"))
  | ((with_reducible apply EV.slL); (walk_at "ev"); (walk_at "ev"); (walk_at "ev"))
  | ((with_reducible apply EV.slT); (walk_at "ev"); (walk_at "ev"); (walk_at "ev"))
  | ((with_reducible apply EV.ss); (walk_at "ev"); (walk_at "ss"))
  | ((with_reducible apply EV.srt); (walk_at "ev"); (walk_at "ss"))
  | ((with_reducible apply EV.bl); (walk_at "ev"))
  | ((with_reducible apply EV.tru); (walk_at "ev"); (walk_at "tru"))
  | ((with_reducible apply EV.not); (walk_at "ev"))
  | ((with_reducible apply EV.and); (walk_at "ev"); (walk_at "ev"))
  | ((with_reducible apply EV.or); (walk_at "ev"); (walk_at "ev"))
  | ((with_reducible apply EV.andF); (walk_at "ev"); (walk_at "bt"))
  | ((with_reducible apply EV.andT); (walk_at "ev"); (walk_at "bt"); (walk_at "ev"))
  | ((with_reducible apply EV.orT); (walk_at "ev"); (walk_at "bt"))
  | ((with_reducible apply EV.orF); (walk_at "ev"); (walk_at "bt"); (walk_at "ev"))
  | ((with_reducible apply EV.boolW); (walk_at "ev"))
  | ((with_reducible apply EV.scalT); (walk_at "frz"); (walk_at "ev"))
  | ((with_reducible apply EV.ifET); (walk_at "ev"); (walk_at "bt"); (walk_at "ev"))
  | ((with_reducible apply EV.ifEF); (walk_at "ev"); (walk_at "bt"); (walk_at "ev"))
  | ((with_reducible apply EV.chn); (walk_at "ev"); (walk_at "ev"); (exact rfl); (walk_at "ev"); (exact rfl))
  | ((with_reducible apply EV.xl); (walk_at "ev"))
  | ((with_reducible apply EV.xb); (walk_at "ev"))
  | ((with_reducible apply EV.xblS); (walk_at "ev"))
  | ((with_reducible apply EV.xnot); (walk_at "ev"))
  | ((with_reducible apply EV.callS); (walk_at "ev"); (walk_at "pars"); (walk_at "norm"); (walk_at "call"); (exact rfl); (walk_at "back"))
  | ((with_reducible apply EV.callN); (walk_at "ev"); (walk_at "pars"); (walk_at "norm"); (walk_at "call"); (exact rfl); (walk_at "back"))
  | ((with_reducible apply EV.callXS); (walk_at "ev"); (walk_at "pars"); (walk_at "norm"); (walk_at "call"); (exact rfl); (walk_at "back"))
  | ((with_reducible apply EV.callXN); (walk_at "ev"); (walk_at "pars"); (walk_at "norm"); (walk_at "call"); (exact rfl); (walk_at "back"))
  | ((with_reducible apply EV.callXE); (walk_at "ev"); (walk_at "pars"); (walk_at "norm"); (walk_at "call"); (exact rfl); (walk_at "back"))
  | ((with_reducible apply EV.ixO); (exact rfl); (walk_at "ev"); (exact rfl); (walk_at "at"))
  | ((with_reducible apply EV.app); (exact rfl); (walk_at "ev"); (exact rfl); (walk_at "len"); (walk_at "set"))
  | ((with_reducible apply EV.appT); (exact rfl); (walk_at "ev"); (exact rfl); (walk_at "len"); (walk_at "set"))
  | ((with_reducible apply EV.ext); (exact rfl); (walk_at "ev"); (exact rfl); (walk_at "len"); (walk_at "set"))
  | ((with_reducible apply EV.pop); (exact rfl); (walk_at "set"))
  | ((with_reducible apply EV.comp); (walk_at "ev"); (walk_at "call"); (walk_at "restore"))
  | ((with_reducible apply EV.comp2); (walk_at "ev"); (walk_at "call"); (walk_at "restore"))
  | ((with_reducible apply EV.tupG); (walk_at "ev"); (walk_at "call"); (walk_at "restore"))
  | ((with_reducible apply EV.ssc); (walk_at "ev"); (walk_at "call"); (walk_at "restore"); (walk_at "ss"); (walk_at "ss"))
  | ((with_reducible apply EV.allG); (walk_at "ev"); (walk_at "call"); (walk_at "restore"))
  | ((with_reducible exact EV.yes))
  | ((with_reducible apply EV.itL); (walk_at "ev"))
  | ((with_reducible apply EV.itT); (walk_at "ev"))
  | ((with_reducible apply EV.rg1); (walk_at "ev"); (walk_at "side"); (walk_at "side"))
  | ((with_reducible apply EV.rg2); (walk_at "ev"); (walk_at "side"))
  | ((with_reducible apply EV.rg3); (walk_at "ev"); (walk_at "side"))
  | ((with_reducible apply EV.zpL); (walk_at "ev"))
  | ((with_reducible apply EV.zpT); (walk_at "ev"))
  | ((with_reducible apply EV.enm); (walk_at "ev"))
  | ((with_reducible apply EV.enmL); (walk_at "ev"))
  | ((with_reducible apply EV.enmT); (walk_at "ev"))
  | ((with_reducible apply EV.rvs); (walk_at "ev"))
  | ((with_reducible apply EV.gName); (walk_at "set"))
  | ((with_reducible exact EV.gsN))
  | ((with_reducible apply EV.gsC); (walk_at "ev"); (walk_at "ev"))
  | ((with_reducible apply EV.gTup); (exact rfl); (try simp only [List.map_cons, List.map_nil]); (walk_at "ev"))
  | ((with_reducible apply EV.gLst); (exact rfl); (try simp only [List.map_cons, List.map_nil]); (walk_at "ev"))
  | ((with_reducible apply EV.setO); (exact rfl); (walk_at "ev"); (exact rfl); (walk_at "at"); (walk_at "set"))
  | ((with_reducible exact EV.nxt))
  | ((with_reducible apply EV.seq); (walk_at "ev"); (walk_at "ev"))
  | ((with_reducible apply EV.seqR); (walk_at "ev"); (exact rfl))
  | ((with_reducible apply EV.seqX); (walk_at "ev"))
  | ((with_reducible apply EV.asgV); (walk_at "ev"); (walk_at "ev"))
  | ((with_reducible apply EV.asgS); (walk_at "ev"); (walk_at "ev"))
  | ((with_reducible apply EV.asgN); (walk_at "ev"); (walk_at "ev"))
  | ((with_reducible apply EV.asgX); (walk_at "ev"))
  | ((with_reducible apply EV.drop); (walk_at "ev"))
  | ((with_reducible apply EV.dropX); (walk_at "ev"))
  | ((with_reducible apply EV.ret); (walk_at "ev"))
  | ((with_reducible apply EV.ifT); (walk_at "ev"); (walk_at "bt"); (walk_at "ev"))
  | ((with_reducible apply EV.ifF); (walk_at "ev"); (walk_at "bt"); (walk_at "ev"))
  | ((with_reducible apply EV.aug); (exact rfl); (walk_at "ev"); (exact rfl); (walk_at "aug"); (walk_at "set"))
  | ((with_reducible apply EV.augO); (exact rfl); (walk_at "ev"); (exact rfl); (walk_at "side"); (walk_at "at"); (walk_at "at"); (walk_at "ev"); (walk_at "aug"); (exact rfl); (walk_at "set"))
  | ((with_reducible apply EV.for_); (walk_at "ev"); (walk_at "call")))
local macro_rules | `(tactic| walk_at "st") => `(tactic| ((with_reducible apply EV.seq); (walk_at "ev")))
local macro_rules | `(tactic| walk_at "le") => `(tactic| (exact Nat.le_of_ble_eq_true rfl))
local macro_rules | `(tactic| walk_at "fin") => `(tactic| first
  | ((apply EV.finS); (walk_at "le"); (walk_at "out"))
  | ((apply EV.finN); (walk_at "le"); (walk_at "out"))
  | ((apply EV.finV); (decide); (exact rfl); (walk_at "le"); (walk_at "out"))
  | ((apply EV.finW); (decide); (exact rfl); (walk_at "le"); (walk_at "out"))
  | ((apply EV.finP); (decide); (walk_at "ev"); (walk_at "le"); (walk_at "out"))
  | ((apply EV.finNx); (walk_at "le"); (walk_at "out"))
  | ((apply EV.finEx); (walk_at "le"); (walk_at "out")))
local macro_rules | `(tactic| walk_at "for") => `(tactic| ((with_reducible apply EV.seq); (with_reducible apply EV.for_); (walk_at "ev")))
local macro_rules | `(tactic| walk_at "gt") => `(tactic| ((simp only [wipeT, List.set_cons_succ, List.set_cons_zero]); (walk_at "ev")))
local macro_rules | `(tactic| walk_at "cc") => `(tactic| (apply EV.ccY; (walk_at "gt"); (first | exact EV.yes | walk_at "ev"); (walk_at "bt"); (walk_at "ev"); (walk_at "len")))
local macro_rules | `(tactic| walk_at "cn") => `(tactic| (apply EV.ccN; (walk_at "gt"); (walk_at "ev"); (walk_at "bt")))
local macro_rules | `(tactic| walk_at "rt") => `(tactic| ((with_reducible apply EV.seqR); (walk_at "ev"); (exact rfl)))
local macro_rules | `(tactic| walk_at "gg") => `(tactic| (apply EV.gt1; (walk_at "gt"); (walk_at "ev"); (walk_at "len")))
local macro_rules | `(tactic| walk_at "gs") => `(tactic| (apply EV.gs1; (walk_at "gt"); (walk_at "ev"); (walk_at "ss"); (walk_at "len")))

theorem upto_nat (n : Nat) : upto 0 n = (List.range' 0 n).map fun (j : Nat) => D.int (j : Int) := by
  unfold upto
  rw [List.range_eq_range']
  apply List.map_congr_left
  intro k _
  congr 1; omega
theorem inV (v u : Int) : gIn true [.int v, .tup [.int (-1), .int u]] = some (.val (.bl (!((-1 : Int) == v || u == v)))) := by
  simp [gIn, D.items, D.scal, D.eqF]
theorem comp_b2 {a d e f : T} {x m : List Int} (hl : m.length = x.length) : ∀ (n i : Nat) (M : List D) (g : T), i + n = x.length → M.length + n ≤ 1000 → ∃ (F : List D) (g' : T), F.isEmpty = meetsN x i (m.drop i) ∧ compD (gdName 6) ct__law_becomes_2 c__law_becomes_2 [6] ((List.range' i n).map fun (j : Nat) => D.int (j : Int)) [a, .fz (.tup (x.map .int)), .fz (.tup (m.map .int)), d, e, f, g] (M.map .fz) = some ((M ++ F).map .fz, [a, .fz (.tup (x.map .int)), .fz (.tup (m.map .int)), d, e, f, g'])
  | 0, i, M, g, h, _ => ⟨[], g, by rw [List.drop_of_length_le (by omega)]; rfl, by simp [compD]⟩
  | n + 1, i, M, g, h, hb => by
    have h1 := at_ints x i (by omega)
    have h2 := at_ints m i (by omega)
    have hi := inV m[i] x[i]
    have hd : m.drop i = m[i] :: m.drop (i + 1) := List.drop_eq_getElem_cons (by omega)
    have hm : meetsN x i (m.drop i) = ((m[i] == -1 || x[i]? == some m[i]) && meetsN x (i + 1) (m.drop (i + 1))) := by rw [hd]; rfl
    have he : (x[i]? == some m[i]) = (x[i] == m[i]) := by rw [List.getElem?_eq_getElem (by omega : i < x.length)]; rfl
    have hc : ((-1 : Int) == m[i]) = (m[i] == -1) := by
      by_cases c : m[i] = -1
      · rw [c]
      · have c1 : (m[i] == -1) = false := by simpa using c
        have c2 : ((-1 : Int) == m[i]) = false := by simpa using fun z => c z.symm
        rw [c1, c2]
    rw [hm, he, List.range'_succ, List.map_cons]
    cases q : (m[i] == -1 || x[i] == m[i]) with
    | true =>
      obtain ⟨F, g', e1, e2⟩ := comp_b2 (a := a) (d := d) (e := e) (f := f) hl n (i + 1) M (.fz (.int i)) (by omega) (by omega)
      have hq : (!((-1 : Int) == m[i] || x[i] == m[i])) = false := by rw [hc, q]; rfl
      refine ⟨F, g', by rw [e1]; rfl, ?_⟩
      walk_at "cn"
      exact e2
    | false =>
      obtain ⟨F, g', e1, e2⟩ := comp_b2 (a := a) (d := d) (e := e) (f := f) hl n (i + 1) (M ++ [.int i]) (.fz (.int i)) (by omega) (by simp; omega)
      have hq : (!((-1 : Int) == m[i] || x[i] == m[i])) = true := by rw [hc, q]; rfl
      refine ⟨.int i :: F, g', rfl, ?_⟩
      walk_at "cc"
      rw [e2]; simp
def zipC (c x : List Int) : List Int := List.zipWith (fun c x => if c = -1 then x else c) c x
theorem chg_zip : ∀ (k : List Int) (f : Nat) (x : List Int), f + k.length = x.length → chgN x f k = x.take f ++ zipC k (x.drop f)
  | [], f, x, h => by
    simp only [List.length_nil] at h
    simp [chgN, zipC, List.take_of_length_le (show x.length ≤ f by omega)]
  | v :: k, f, x, h => by
    simp only [List.length_cons] at h
    have hf : f < x.length := by omega
    have hd : x.drop f = x[f] :: x.drop (f + 1) := List.drop_eq_getElem_cons hf
    unfold chgN
    by_cases c : v = -1
    · rw [if_pos c, chg_zip k (f + 1) x (by omega), hd]
      simp only [zipC, List.zipWith_cons_cons, if_pos c]
      rw [List.take_succ_eq_append_getElem hf, List.append_assoc]
      rfl
    · rw [if_neg c, chg_zip k (f + 1) (putI x f v) (by rw [putI_len hf]; omega), hd]
      simp only [zipC, List.zipWith_cons_cons, if_neg c]
      have h1 : (putI x f v).take (f + 1) = x.take f ++ [v] := by
        unfold putI
        rw [List.take_append_of_le_length (by simp; omega)]
        exact List.take_of_length_le (by simp; omega)
      have h2 : (putI x f v).drop (f + 1) = x.drop (f + 1) := by
        unfold putI
        rw [List.drop_append_of_le_length (by simp; omega)]
        rw [List.drop_of_length_le (by simp; omega)]
        rfl
      rw [h1, h2, List.append_assoc]
      rfl
theorem atC (c x : Int) : L2.atI [D.int c, D.int x] (if (c == -1) = true then 1 else 0) = some (.int (if c = -1 then x else c)) := by
  by_cases h : c = -1
  · have e : (c == -1) = true := by simpa using h
    rw [e, if_pos h]; rfl
  · have e : (c == -1) = false := by simpa using h
    rw [e, if_neg h]; rfl
theorem comp_b4 {a d b e : T} {x c : List Int} (hl : c.length = x.length) : ∀ (n i : Nat) (M : List D) (g : T), i + n = x.length → M.length + n ≤ 1000 → ∃ (g' : T), compD (gdName 6) dYes c__law_becomes_4 [6] ((List.range' i n).map fun (j : Nat) => D.int (j : Int)) [a, .fz (.tup (x.map .int)), b, d, e, .fz (.tup (c.map .int)), g] (M.map .fz) = some ((M ++ (zipC (c.drop i) (x.drop i)).map D.int).map .fz, [a, .fz (.tup (x.map .int)), b, d, e, .fz (.tup (c.map .int)), g'])
  | 0, i, M, g, h, _ => ⟨g, by rw [List.drop_of_length_le (by omega), List.drop_of_length_le (by omega)]; simp [compD, zipC]⟩
  | n + 1, i, M, g, h, hb => by
    have h1 := at_ints x i (by omega)
    have h2 := at_ints c i (by omega)
    have h3 := atC c[i] x[i]
    have hd : c.drop i = c[i] :: c.drop (i + 1) := List.drop_eq_getElem_cons (by omega)
    have hd2 : x.drop i = x[i] :: x.drop (i + 1) := List.drop_eq_getElem_cons (by omega)
    obtain ⟨g', e2⟩ := comp_b4 (a := a) (b := b) (d := d) (e := e) hl n (i + 1) (M ++ [.int (if c[i] = -1 then x[i] else c[i])]) (.fz (.int i)) (by omega) (by simp; omega)
    refine ⟨g', ?_⟩
    rw [List.range'_succ, List.map_cons]
    walk_at "cc"
    have hz : zipC (c.drop i) (x.drop i) = (if c[i] = -1 then x[i] else c[i]) :: zipC (c.drop (i + 1)) (x.drop (i + 1)) := by rw [hd, hd2]; rfl
    rw [e2, hz]; simp
theorem loop_b3 {a b d : T} {x : List Int} (hx : x.length ≤ 100) : ∀ (cs : List (List Int)) (F : List (List Int)) (z : T), (∀ c ∈ cs, c.length = x.length) → F.length + cs.length ≤ 1000 → ∃ z', loopD (gdName 5) L__law_becomes_3 (cs.map tupD) [a, .fz (.tup (x.map .int)), b, d, oL (F.map tupD), z, .un] = some (.nx [a, .fz (.tup (x.map .int)), b, d, oL ((F ++ cs.map fun c => chgN x 0 c).map tupD), z', .un])
  | [], F, z, _, _ => ⟨z, by simp [loopD]⟩
  | c :: cs, F, z, h, hb => by
    simp only [List.length_cons] at hb
    have hc := h c (by simp)
    obtain ⟨g', e4⟩ := comp_b4 (a := a) (b := b) (d := d) (e := oL (F.map tupD)) hc x.length 0 [] .un (by omega) (by simp; omega)
    rw [List.nil_append, List.map_nil, ← upto_nat, List.drop_zero, List.drop_zero] at e4
    have hz : zipC c x = chgN x 0 c := by rw [chg_zip c 0 x (by omega)]; simp
    rw [hz] at e4
    have hu : upto 0 x.length = upto 0 (((x.map D.int).length : Nat) : Int).toNat := by rw [Int.toNat_natCast, List.length_map]
    rw [hu] at e4
    obtain ⟨z', e⟩ := loop_b3 (a := a) (b := b) (d := d) hx cs (F ++ [chgN x 0 c]) (.fz (.tup (c.map .int))) (fun c' hc' => h c' (by simp [hc'])) (by simp; omega)
    refine ⟨z', ?_⟩
    rw [List.map_append] at e
    have hn : (((x.map D.int).length : Nat) : Int) < 2 ^ 62 := by rw [List.length_map]; omega
    have hcs : F ++ (c :: cs).map (fun c => chgN x 0 c) = F ++ [chgN x 0 c] ++ cs.map fun c => chgN x 0 c := by simp
    rw [hcs]
    show loopD _ _ (.tup (c.map .int) :: cs.map tupD) _ = _
    apply EV.lpN
    · walk_at "ev"
    · walk_at "ev"
    · exact e
theorem loop_b1 {a : T} {l x : List Int} (hx : x.length = l.length) (h0 : 0 < l.length) (h3 : l.length ≤ 3) : ∀ (tb : List Rule) (u v w z : T), (w = .un ∨ ∃ q, w = .fz q) → (∀ r ∈ tb, RuOk l r) → (∃ u' v' w' z', loopD (gdTup 2 (gdCons (gdName 2) (gdCons (gdName 3) gdNil))) L__law_becomes_1 (tbl tb) [a, .fz (.tup (x.map .int)), u, v, w, z, .un] = some (.rt (.nw (.ls (((becI x tb).map tupD).map .fz))) [a, .fz (.tup (x.map .int)), u', v', w', z', .un])) ∨
    (becI x tb = [] ∧ ∃ u' v', loopD (gdTup 2 (gdCons (gdName 2) (gdCons (gdName 3) gdNil))) L__law_becomes_1 (tbl tb) [a, .fz (.tup (x.map .int)), u, v, w, z, .un] = some (.nx [a, .fz (.tup (x.map .int)), u', v', w, z, .un]))
  | [], u, v, w, z, _, _ => Or.inr ⟨rfl, u, v, rfl⟩
  | r :: tb, u, v, w, z, hw, h => by
    have o := h r (by simp)
    have ml := lo2_len o.m
    obtain ⟨F, g', e1, e2⟩ := comp_b2 (a := a) (d := .fz (.lst (r.2.map tupD))) (e := w) (f := z) (x := x) (m := r.1) (by omega) x.length 0 [] .un (by omega) (by simp; omega)
    rw [List.drop_zero] at e1
    rw [List.nil_append, List.map_nil, ← upto_nat] at e2
    have hu : upto 0 x.length = upto 0 (((x.map D.int).length : Nat) : Int).toNat := by rw [Int.toNat_natCast, List.length_map]
    rw [hu] at e2
    have hn : (((x.map D.int).length : Nat) : Int) < 2 ^ 62 := by rw [List.length_map]; omega
    have hF : ((F.length : Int) == 0) = meetsN x 0 r.1 := by
      rw [← e1]
      cases F with
      | nil => rfl
      | cons d F => simp; omega
    cases q : meetsN x 0 r.1 with
    | true =>
      rw [q] at hF
      have hb : becI x (r :: tb) = sortI (r.2.map fun c => chgN x 0 c) := by
        show (if meetsN x 0 r.1 = true then _ else _) = _
        rw [q]; rfl
      rw [hb]
      have on := o.n
      obtain ⟨z', e3⟩ := loop_b3 (a := a) (b := .fz (.tup (r.1.map .int))) (d := .fz (.lst (r.2.map tupD))) (x := x) (by omega) r.2 [] z (fun c hc => by rw [lo2_len (o.cs c hc), hx]) (by simp; omega)
      rw [List.nil_append] at e3
      have e3' : loopD (gdName 5) L__law_becomes_3 (r.2.map tupD) [a, .fz (.tup (x.map .int)), .fz (.tup (r.1.map .int)), .fz (.lst (r.2.map tupD)), .ls (List.map T.fz []), z, .un] = some (.nx [a, .fz (.tup (x.map .int)), .fz (.tup (r.1.map .int)), .fz (.lst (r.2.map tupD)), oL ((r.2.map fun c => chgN x 0 c).map tupD), z', .un]) := e3
      have ss := ss_tups (ks := r.2.map fun c => chgN x 0 c) (n := l.length) h0 (by rw [List.length_map]; omega) (fun k hk => by
        obtain ⟨c, hc, rfl⟩ := List.mem_map.mp hk
        have cl := lo2_len (o.cs c hc)
        rw [chg_len c 0 x (by omega), hx])
      refine Or.inl ⟨.fz (.tup (r.1.map .int)), .fz (.lst (r.2.map tupD)), .fz (.lst ((r.2.map fun c => chgN x 0 c).map tupD)), z', ?_⟩
      show loopD _ _ (.tup [.tup (r.1.map .int), .lst (r.2.map tupD)] :: tbl tb) _ = _
      apply EV.lpR
      · walk_at "ev"
      · walk_at "ev"
    | false =>
      rw [q] at hF
      have hb : becI x (r :: tb) = becI x tb := by
        show (if meetsN x 0 r.1 = true then _ else _) = _
        rw [q]; rfl
      rw [hb]
      rcases loop_b1 (a := a) hx h0 h3 tb (.fz (.tup (r.1.map .int))) (.fz (.lst (r.2.map tupD))) w z hw (fun r hr => h r (by simp [hr])) with ⟨u', v', w', z', e⟩ | ⟨e0, u', v', e⟩
      · refine Or.inl ⟨u', v', w', z', ?_⟩
        show loopD _ _ (.tup [.tup (r.1.map .int), .lst (r.2.map tupD)] :: tbl tb) _ = _
        apply EV.lpN
        · walk_at "ev"
        · walk_at "ev"
        · exact e
      · refine Or.inr ⟨e0, u', v', ?_⟩
        show loopD _ _ (.tup [.tup (r.1.map .int), .lst (r.2.map tupD)] :: tbl tb) _ = _
        apply EV.lpN
        · walk_at "ev"
        · walk_at "ev"
        · exact e
theorem v__law_becomes {l x : List Int} {tb : List Rule} (hx : x.length = l.length) (h0 : 0 < l.length) (h3 : l.length ≤ 3) (h : ∀ r ∈ tb, RuOk l r) : fn__law_becomes [.fz (.lst (tbl tb)), .fz (.tup (x.map .int))] = some (.ret (.ls (((becI x tb).map tupD).map .fz)), [.fz (.lst (tbl tb)), .fz (.tup (x.map .int))]) := by
  rcases loop_b1 (a := .fz (.lst (tbl tb))) hx h0 h3 tb .un .un .un .un (Or.inl rfl) h with ⟨u', v', w', z', e⟩ | ⟨e0, u', v', e⟩
  · apply fe__law_becomes
    · unfold b__law_becomes
      walk_at "rt"
    walk_at "fin"
  · rw [e0]
    apply fe__law_becomes
    · unfold b__law_becomes
      walk_at "st"
      walk_at "ev"
    walk_at "fin"
end K7

set_option Elab.async false
set_option linter.all false
set_option maxRecDepth 100000
set_option maxHeartbeats 8000000
namespace Q
namespace EV
open PySem PySem.Spec PyProof.Rows L2
variable {r r1 r2 r3 : Env}
theorem shP {f : ED} {i : Nat} {d : D} (h1 : f r = some (.pl i, r1)) (h2 : r1[i]? = some (.fz d)) : dSh f r = some (d, r1) := by
  have s := shV h2
  unfold dSh at s ⊢
  unfold dVar at s
  rw [h2] at s
  rw [h1]
  exact s
end EV
end Q
namespace K7
open PySem PySem.Spec PyProof.Rows L2 Q
local macro_rules | `(tactic| walk_at "norm") => `(tactic| focus (first | (simp only [List.map_cons, List.map_nil]; done) | ((try simp only [List.map_cons, List.map_nil]); exact rfl)))
local macro_rules | `(tactic| walk_at "set") => `(tactic| focus (first | (dsimp only [List.set_cons_succ, List.set_cons_zero]; done) | ((try dsimp only [List.set_cons_succ, List.set_cons_zero]); exact rfl)))
local macro_rules | `(tactic| walk_at "frz") => `(tactic| focus (first | (simp only [frzE_cons, frzE_nil, frz_fz, frz_un, frz_ls, frz_ls1]; done) | ((try simp only [frzE_cons, frzE_nil, frz_fz, frz_un, frz_ls, frz_ls1]); exact rfl)))
local macro_rules | `(tactic| walk_at "pars") => `(tactic| focus (first | (simp only [pars, List.getElem?_cons_succ, List.getElem?_cons_zero, Option.bind_some, List.set_cons_succ, List.set_cons_zero]; done) | ((try simp only [pars, List.getElem?_cons_succ, List.getElem?_cons_zero, Option.bind_some, List.set_cons_succ, List.set_cons_zero]); exact rfl)))
local macro_rules | `(tactic| walk_at "back") => `(tactic| focus (first | (simp only [back, putBack, List.getElem?_cons_succ, List.getElem?_cons_zero, List.set_cons_succ, List.set_cons_zero]; done) | ((try simp only [back, putBack, List.getElem?_cons_succ, List.getElem?_cons_zero, List.set_cons_succ, List.set_cons_zero]); exact rfl)))
local macro_rules | `(tactic| walk_at "restore") => `(tactic| focus (first | with_reducible assumption | (simp only [restore, slotP, keepP, List.getElem?_cons_succ, List.getElem?_cons_zero, List.set_cons_succ, List.set_cons_zero]; done) | ((try simp only [restore, slotP, keepP, List.getElem?_cons_succ, List.getElem?_cons_zero, List.set_cons_succ, List.set_cons_zero]); exact rfl)))
local macro_rules | `(tactic| walk_at "wipe") => `(tactic| focus (first | (simp only [wipeT, List.set_cons_succ, List.set_cons_zero]; done) | ((try simp only [wipeT, List.set_cons_succ, List.set_cons_zero]); exact rfl)))
local macro_rules | `(tactic| walk_at "out") => `(tactic| focus (first | (simp only [outP, keepP, if_true, Bool.false_eq_true, if_false]; done) | ((try simp only [outP, keepP, if_true, Bool.false_eq_true, if_false]); exact rfl)))
local macro_rules | `(tactic| walk_at "side") => `(tactic| (first | with_reducible assumption | omega | decide))
local macro_rules | `(tactic| walk_at "mul") => `(tactic| (first | with_reducible assumption | exact mulW_small 62 62 (by omega) (by omega) (by decide) (by decide) (by decide)))
local macro_rules | `(tactic| walk_at "len") => `(tactic| focus ((try simp only [List.length_cons, List.length_nil, List.length_append, List.length_replicate, List.length_map]) <;> (first | omega | with_reducible assumption)))
local macro_rules | `(tactic| walk_at "at") => `(tactic| (first | with_reducible assumption | exact rfl))
local macro_rules | `(tactic| walk_at "eq") => `(tactic| (first | with_reducible assumption | with_reducible exact EV.eqI _ _ | with_reducible exact EV.neI _ _))
local macro_rules | `(tactic| walk_at "rep") => `(tactic| (with_reducible assumption))
local macro_rules | `(tactic| walk_at "in") => `(tactic| (first | with_reducible assumption | exact rfl))
local macro_rules | `(tactic| walk_at "ss") => `(tactic| (with_reducible assumption))
local macro_rules | `(tactic| walk_at "tru") => `(tactic| (first | exact rfl | with_reducible assumption))
local macro_rules | `(tactic| walk_at "call") => `(tactic| (with_reducible assumption))
local macro_rules | `(tactic| walk_at "aug") => `(tactic| (exact rfl))
local macro_rules | `(tactic| walk_at "bt") => `(tactic| (first | exact rfl | with_reducible assumption | (simp only [decide_eq_true_eq, decide_eq_false_iff_not, Bool.not_eq_true', Bool.not_eq_false', Bool.and_eq_true, Bool.or_eq_true, Bool.and_eq_false_iff, Bool.or_eq_false_iff, beq_iff_eq, beq_eq_false_iff_ne, ne_eq]; omega)))
local macro_rules | `(tactic| walk_at "ev") => `(tactic| first
  | ((with_reducible apply EV.shV); (exact rfl))
  | ((with_reducible apply EV.shO); (exact rfl); (walk_at "set"))
  | ((with_reducible apply EV.shD); (exact rfl); (with_reducible assumption); (walk_at "set"))
  | ((with_reducible exact EV.cE _))
  | ((with_reducible apply EV.shS); (walk_at "ev"))
  | ((with_reducible apply EV.shN); (walk_at "ev"))
  | ((with_reducible apply EV.scal); (walk_at "frz"); (walk_at "ev"); (exact rfl))
  | ((with_reducible apply EV.lift); (walk_at "ev"))
  | ((with_reducible exact EV.cW _))
  | ((with_reducible apply EV.varF); (exact rfl))
  | ((with_reducible apply EV.varL); (exact rfl))
  | ((with_reducible exact EV.fn))
  | ((with_reducible apply EV.fc); (walk_at "ev"); (walk_at "ev"))
  | ((with_reducible exact EV.an))
  | ((with_reducible apply EV.ac); (walk_at "ev"); (walk_at "ev"))
  | ((with_reducible exact EV.mn))
  | ((with_reducible apply EV.mc); (walk_at "ev"); (walk_at "ev"))
  | ((with_reducible apply EV.mV); (exact rfl))
  | ((with_reducible apply EV.mO); (exact rfl); (walk_at "set"))
  | ((with_reducible apply EV.mvMF); (exact rfl); (walk_at "set"))
  | ((with_reducible apply EV.mvML); (exact rfl); (walk_at "set"))
  | ((with_reducible apply EV.mS); (walk_at "ev"))
  | ((with_reducible apply EV.mN); (walk_at "ev"))
  | ((with_reducible apply EV.add); (walk_at "ev"); (walk_at "ev"))
  | ((with_reducible apply EV.sub); (walk_at "ev"); (walk_at "ev"))
  | ((with_reducible apply EV.mul); (walk_at "ev"); (walk_at "ev"); (walk_at "mul"))
  | ((with_reducible apply EV.mod); (walk_at "ev"); (walk_at "ev"); (walk_at "side"))
  | ((with_reducible apply EV.div); (walk_at "ev"); (walk_at "ev"); (walk_at "side"))
  | ((with_reducible apply EV.pow); (walk_at "ev"); (walk_at "ev"); (walk_at "side"))
  | ((with_reducible apply EV.shl); (walk_at "ev"); (walk_at "ev"); (walk_at "side"))
  | ((with_reducible apply EV.shr); (walk_at "ev"); (walk_at "ev"); (walk_at "side"))
  | ((with_reducible apply EV.band); (walk_at "ev"); (walk_at "ev"))
  | ((with_reducible apply EV.bor); (walk_at "ev"); (walk_at "ev"))
  | ((with_reducible apply EV.bxor); (walk_at "ev"); (walk_at "ev"))
  | ((with_reducible apply EV.lt); (walk_at "ev"); (walk_at "ev"))
  | ((with_reducible apply EV.le); (walk_at "ev"); (walk_at "ev"))
  | ((with_reducible apply EV.gt); (walk_at "ev"); (walk_at "ev"))
  | ((with_reducible apply EV.ge); (walk_at "ev"); (walk_at "ev"))
  | ((with_reducible apply EV.neg); (walk_at "ev"))
  | ((with_reducible apply EV.eqG); (walk_at "ev"); (walk_at "ev"); (walk_at "eq"))
  | ((with_reducible apply EV.neG); (walk_at "ev"); (walk_at "ev"); (walk_at "eq"))
  | ((with_reducible apply EV.isN); (walk_at "ev"); (walk_at "ev"))
  | ((with_reducible apply EV.notN); (walk_at "ev"); (walk_at "ev"))
  | ((with_reducible apply EV.ixL); (walk_at "ev"); (walk_at "ev"); (walk_at "at"))
  | ((with_reducible apply EV.ixT); (walk_at "ev"); (walk_at "ev"); (walk_at "at"))
  | ((with_reducible apply EV.catT); (walk_at "ev"); (walk_at "ev"); (walk_at "len"))
  | ((with_reducible apply EV.catL); (walk_at "ev"); (walk_at "ev"); (walk_at "len"))
  | ((with_reducible apply EV.catS); (walk_at "ev"); (walk_at "ev"); (walk_at "len"))
  | ((with_reducible apply EV.mulL); (walk_at "ev"); (walk_at "ev"); (walk_at "side"); (walk_at "side"))
  | ((with_reducible apply EV.lenL); (walk_at "ev"))
  | ((with_reducible apply EV.lenT); (walk_at "ev"))
  | ((with_reducible apply EV.lenR); (walk_at "ev"))
  | ((with_reducible apply EV.lenS); (walk_at "ev"); (walk_at "len"))
  | ((with_reducible apply EV.tupL); (walk_at "ev"))
  | ((with_reducible apply EV.tupT); (walk_at "ev"))
  | ((with_reducible apply EV.lisL); (walk_at "ev"))
  | ((with_reducible apply EV.lisT); (walk_at "ev"))
  | ((with_reducible apply EV.rep); (walk_at "ev"); (walk_at "rep"))
  | ((with_reducible apply EV.max2); (walk_at "ev"); (walk_at "ev"))
  | ((with_reducible apply EV.min2); (walk_at "ev"); (walk_at "ev"))
  | ((with_reducible apply EV.intI); (walk_at "ev"))
  | ((with_reducible apply EV.intB); (walk_at "ev"))
  | ((with_reducible apply EV.strI); (walk_at "ev"); (walk_at "side"))
  | ((with_reducible apply EV.inG); (walk_at "ev"); (walk_at "ev"); (walk_at "in"))
  | ((with_reducible apply EV.inR); (walk_at "ev"); (walk_at "ev"))
  | ((with_reducible apply EV.isi); (walk_at "ev"); (exact rfl))
  | ((with_reducible apply EV.revT); (walk_at "ev"))
  | ((with_reducible apply EV.revL); (walk_at "ev"))
  | ((with_reducible apply EV.tup); (walk_at "ev"); (walk_at "len"))
  | ((with_reducible apply EV.lst); (walk_at "ev"); (walk_at "len"))
  | ((with_reducible apply EV.ltT); (walk_at "ev"); (walk_at "ev"); (walk_at "side"); (walk_at "side"))
  | ((with_reducible exact EV.pN))
  | ((with_reducible apply EV.pA); (walk_at "ev"))
  | ((with_reducible apply EV.slL); (walk_at "ev"); (walk_at "ev"); (walk_at "ev"))
  | ((with_reducible apply EV.slT); (walk_at "ev"); (walk_at "ev"); (walk_at "ev"))
  | ((with_reducible apply EV.ss); (walk_at "ev"); (walk_at "ss"))
  | ((with_reducible apply EV.srt); (walk_at "ev"); (walk_at "ss"))
  | ((with_reducible apply EV.bl); (walk_at "ev"))
  | ((with_reducible apply EV.tru); (walk_at "ev"); (walk_at "tru"))
  | ((with_reducible apply EV.not); (walk_at "ev"))
  | ((with_reducible apply EV.and); (walk_at "ev"); (walk_at "ev"))
  | ((with_reducible apply EV.or); (walk_at "ev"); (walk_at "ev"))
  | ((with_reducible apply EV.andF); (walk_at "ev"); (walk_at "bt"))
  | ((with_reducible apply EV.andT); (walk_at "ev"); (walk_at "bt"); (walk_at "ev"))
  | ((with_reducible apply EV.orT); (walk_at "ev"); (walk_at "bt"))
  | ((with_reducible apply EV.orF); (walk_at "ev"); (walk_at "bt"); (walk_at "ev"))
  | ((with_reducible apply EV.boolW); (walk_at "ev"))
  | ((with_reducible apply EV.scalT); (walk_at "frz"); (walk_at "ev"))
  | ((with_reducible apply EV.ifET); (walk_at "ev"); (walk_at "bt"); (walk_at "ev"))
  | ((with_reducible apply EV.ifEF); (walk_at "ev"); (walk_at "bt"); (walk_at "ev"))
  | ((with_reducible apply EV.chn); (walk_at "ev"); (walk_at "ev"); (exact rfl); (walk_at "ev"); (exact rfl))
  | ((with_reducible apply EV.xl); (walk_at "ev"))
  | ((with_reducible apply EV.xb); (walk_at "ev"))
  | ((with_reducible apply EV.xblS); (walk_at "ev"))
  | ((with_reducible apply EV.xnot); (walk_at "ev"))
  | ((with_reducible apply EV.callS); (walk_at "ev"); (walk_at "pars"); (walk_at "norm"); (walk_at "call"); (exact rfl); (walk_at "back"))
  | ((with_reducible apply EV.callN); (walk_at "ev"); (walk_at "pars"); (walk_at "norm"); (walk_at "call"); (exact rfl); (walk_at "back"))
  | ((with_reducible apply EV.callXS); (walk_at "ev"); (walk_at "pars"); (walk_at "norm"); (walk_at "call"); (exact rfl); (walk_at "back"))
  | ((with_reducible apply EV.callXN); (walk_at "ev"); (walk_at "pars"); (walk_at "norm"); (walk_at "call"); (exact rfl); (walk_at "back"))
  | ((with_reducible apply EV.callXE); (walk_at "ev"); (walk_at "pars"); (walk_at "norm"); (walk_at "call"); (exact rfl); (walk_at "back"))
  | ((with_reducible apply EV.ixO); (exact rfl); (walk_at "ev"); (exact rfl); (walk_at "at"))
  | ((with_reducible apply EV.app); (exact rfl); (walk_at "ev"); (exact rfl); (walk_at "len"); (walk_at "set"))
  | ((with_reducible apply EV.appT); (exact rfl); (walk_at "ev"); (exact rfl); (walk_at "len"); (walk_at "set"))
  | ((with_reducible apply EV.ext); (exact rfl); (walk_at "ev"); (exact rfl); (walk_at "len"); (walk_at "set"))
  | ((with_reducible apply EV.pop); (exact rfl); (walk_at "set"))
  | ((with_reducible apply EV.comp); (walk_at "ev"); (walk_at "call"); (walk_at "restore"))
  | ((with_reducible apply EV.comp2); (walk_at "ev"); (walk_at "call"); (walk_at "restore"))
  | ((with_reducible apply EV.tupG); (walk_at "ev"); (walk_at "call"); (walk_at "restore"))
  | ((with_reducible apply EV.ssc); (walk_at "ev"); (walk_at "call"); (walk_at "restore"); (walk_at "ss"); (walk_at "ss"))
  | ((with_reducible apply EV.allG); (walk_at "ev"); (walk_at "call"); (walk_at "restore"))
  | ((with_reducible exact EV.yes))
  | ((with_reducible apply EV.itL); (walk_at "ev"))
  | ((with_reducible apply EV.itT); (walk_at "ev"))
  | ((with_reducible apply EV.rg1); (walk_at "ev"); (walk_at "side"); (walk_at "side"))
  | ((with_reducible apply EV.rg2); (walk_at "ev"); (walk_at "side"))
  | ((with_reducible apply EV.rg3); (walk_at "ev"); (walk_at "side"))
  | ((with_reducible apply EV.zpL); (walk_at "ev"))
  | ((with_reducible apply EV.zpT); (walk_at "ev"))
  | ((with_reducible apply EV.enm); (walk_at "ev"))
  | ((with_reducible apply EV.enmL); (walk_at "ev"))
  | ((with_reducible apply EV.enmT); (walk_at "ev"))
  | ((with_reducible apply EV.rvs); (walk_at "ev"))
  | ((with_reducible apply EV.gName); (walk_at "set"))
  | ((with_reducible exact EV.gsN))
  | ((with_reducible apply EV.gsC); (walk_at "ev"); (walk_at "ev"))
  | ((with_reducible apply EV.gTup); (exact rfl); (try simp only [List.map_cons, List.map_nil]); (walk_at "ev"))
  | ((with_reducible apply EV.gLst); (exact rfl); (try simp only [List.map_cons, List.map_nil]); (walk_at "ev"))
  | ((with_reducible apply EV.setO); (exact rfl); (walk_at "ev"); (exact rfl); (walk_at "at"); (walk_at "set"))
  | ((with_reducible exact EV.nxt))
  | ((with_reducible apply EV.seq); (walk_at "ev"); (walk_at "ev"))
  | ((with_reducible apply EV.seqR); (walk_at "ev"); (exact rfl))
  | ((with_reducible apply EV.seqX); (walk_at "ev"))
  | ((with_reducible apply EV.asgV); (walk_at "ev"); (walk_at "ev"))
  | ((with_reducible apply EV.asgS); (walk_at "ev"); (walk_at "ev"))
  | ((with_reducible apply EV.asgN); (walk_at "ev"); (walk_at "ev"))
  | ((with_reducible apply EV.asgX); (walk_at "ev"))
  | ((with_reducible apply EV.drop); (walk_at "ev"))
  | ((with_reducible apply EV.dropX); (walk_at "ev"))
  | ((with_reducible apply EV.ret); (walk_at "ev"))
  | ((with_reducible apply EV.ifT); (walk_at "ev"); (walk_at "bt"); (walk_at "ev"))
  | ((with_reducible apply EV.ifF); (walk_at "ev"); (walk_at "bt"); (walk_at "ev"))
  | ((with_reducible apply EV.aug); (exact rfl); (walk_at "ev"); (exact rfl); (walk_at "aug"); (walk_at "set"))
  | ((with_reducible apply EV.augO); (exact rfl); (walk_at "ev"); (exact rfl); (walk_at "side"); (walk_at "at"); (walk_at "at"); (walk_at "ev"); (walk_at "aug"); (exact rfl); (walk_at "set"))
  | ((with_reducible apply EV.for_); (walk_at "ev"); (walk_at "call")))
local macro_rules | `(tactic| walk_at "st") => `(tactic| ((with_reducible apply EV.seq); (walk_at "ev")))
local macro_rules | `(tactic| walk_at "le") => `(tactic| (exact Nat.le_of_ble_eq_true rfl))
local macro_rules | `(tactic| walk_at "fin") => `(tactic| first
  | ((apply EV.finS); (walk_at "le"); (walk_at "out"))
  | ((apply EV.finN); (walk_at "le"); (walk_at "out"))
  | ((apply EV.finV); (decide); (exact rfl); (walk_at "le"); (walk_at "out"))
  | ((apply EV.finW); (decide); (exact rfl); (walk_at "le"); (walk_at "out"))
  | ((apply EV.finP); (decide); (walk_at "ev"); (walk_at "le"); (walk_at "out"))
  | ((apply EV.finNx); (walk_at "le"); (walk_at "out"))
  | ((apply EV.finEx); (walk_at "le"); (walk_at "out")))
local macro_rules | `(tactic| walk_at "for") => `(tactic| ((with_reducible apply EV.seq); (with_reducible apply EV.for_); (walk_at "ev")))
local macro_rules | `(tactic| walk_at "gt") => `(tactic| ((simp only [wipeT, List.set_cons_succ, List.set_cons_zero]); (walk_at "ev")))
local macro_rules | `(tactic| walk_at "cc") => `(tactic| (apply EV.ccY; (walk_at "gt"); (first | exact EV.yes | walk_at "ev"); (walk_at "bt"); (walk_at "ev"); (walk_at "len")))
local macro_rules | `(tactic| walk_at "cn") => `(tactic| (apply EV.ccN; (walk_at "gt"); (walk_at "ev"); (walk_at "bt")))
local macro_rules | `(tactic| walk_at "rt") => `(tactic| ((with_reducible apply EV.seqR); (walk_at "ev"); (exact rfl)))
local macro_rules | `(tactic| walk_at "gg") => `(tactic| (apply EV.gt1; (walk_at "gt"); (walk_at "ev"); (walk_at "len")))
local macro_rules | `(tactic| walk_at "gs") => `(tactic| (apply EV.gs1; (walk_at "gt"); (walk_at "ev"); (walk_at "ss"); (walk_at "len")))

/-! ### the program: what a table does -/
def mtZ : List Int → List Int → Bool
  | v :: k, u :: x => ((-1 : Int) == v || u == v) && mtZ k x
  | _, _ => true
theorem inW (v u : Int) : gIn false [.int v, .tup [.int (-1), .int u]] = some (.val (.bl ((-1 : Int) == v || u == v))) := by
  simp [gIn, D.items, D.scal, D.eqF]
theorem mtZ_eq : ∀ (k : List Int) (f : Nat) (x : List Int), f + k.length = x.length → mtZ k (x.drop f) = meetsN x f k
  | [], _, _, _ => by simp [mtZ, meetsN]
  | v :: k, f, x, h => by
    simp only [List.length_cons] at h
    have hf : f < x.length := by omega
    have hd : x.drop f = x[f] :: x.drop (f + 1) := List.drop_eq_getElem_cons hf
    rw [hd]
    unfold mtZ meetsN
    rw [mtZ_eq k (f + 1) x (by omega), List.getElem?_eq_getElem hf]
    have hc : ((-1 : Int) == v) = (v == -1) := by
      by_cases c : v = -1
      · rw [c]
      · have c1 : (v == -1) = false := by simpa using c
        have c2 : ((-1 : Int) == v) = false := by simpa using fun z => c z.symm
        rw [c1, c2]
    rw [hc]
    rfl
theorem all_m {a b : T} : ∀ (k x : List Int) (p q : T), k.length = x.length → ∃ p' q', allD (gdTup 2 (gdCons (gdName 2) (gdCons (gdName 3) gdNil))) g_meets_1 [2, 3] (zipD (k.map .int) (x.map .int)) [a, b, p, q] = some (mtZ k x, [a, b, p', q'])
  | [], [], p, q, _ => ⟨p, q, rfl⟩
  | v :: k, u :: x, p, q, h => by
    have hi := inW v u
    unfold mtZ
    show ∃ p' q', allD _ _ _ (.tup [.int v, .int u] :: zipD (k.map .int) (x.map .int)) _ = _
    cases c : ((-1 : Int) == v || u == v) with
    | true =>
      rw [c] at hi
      obtain ⟨p', q', e⟩ := all_m (a := a) (b := b) k x (.fz (.int v)) (.fz (.int u)) (by simpa using h)
      refine ⟨p', q', ?_⟩
      apply EV.alT
      · walk_at "gt"
      · walk_at "ev"
      · exact e
    | false =>
      rw [c] at hi
      refine ⟨.fz (.int v), .fz (.int u), ?_⟩
      apply EV.alF
      · walk_at "gt"
      · walk_at "ev"
  | [], _ :: _, _, _, h => by simp at h
  | _ :: _, [], _, _, h => by simp at h
theorem v_meets {x k : List Int} (h : k.length = x.length) : fn_meets [.fz (.tup (x.map .int)), .fz (.tup (k.map .int))] = some (.ret (.fz (.bl (meetsN x 0 k))), [.fz (.tup (x.map .int)), .fz (.tup (k.map .int))]) := by
  obtain ⟨p', q', e⟩ := all_m (a := .fz (.tup (x.map .int))) (b := .fz (.tup (k.map .int))) k x .un .un h
  have m := mtZ_eq k 0 x (by omega)
  rw [List.drop_zero] at m
  rw [m] at e
  apply fe_meets
  · unfold b_meets
    walk_at "ev"
  walk_at "fin"
theorem gat_c {a b : T} : ∀ (k x : List Int) (M : List D) (p q : T), k.length = x.length → M.length + k.length ≤ 1000 → ∃ p' q', gatD (gdTup 2 (gdCons (gdName 2) (gdCons (gdName 3) gdNil))) g_changed_1 [2, 3] (zipD (k.map .int) (x.map .int)) [a, b, p, q] M = some (M ++ (zipC k x).map .int, [a, b, p', q'])
  | [], [], M, p, q, _, _ => ⟨p, q, by simp [zipD, zipC, gatD]⟩
  | v :: k, u :: x, M, p, q, h, hb => by
    simp only [List.length_cons] at hb
    obtain ⟨p', q', e⟩ := gat_c (a := a) (b := b) k x (M ++ [.int (if v = -1 then u else v)]) (.fz (.int v)) (.fz (.int u)) (by simpa using h) (by simp; omega)
    refine ⟨p', q', ?_⟩
    show gatD _ _ _ (.tup [.int v, .int u] :: zipD (k.map .int) (x.map .int)) _ _ = _
    have hz : zipC (v :: k) (u :: x) = (if v = -1 then u else v) :: zipC k x := rfl
    by_cases c : v = -1
    · have c1 : (v == (-1 : Int)) = true := by simpa using c
      rw [if_pos c] at e hz
      apply EV.gt1
      · walk_at "gt"
      · apply EV.shP
        · apply EV.ifET
          · walk_at "ev"
          · exact c1
          · walk_at "ev"
        · rfl
      · omega
      · rw [e, hz]; simp
    · have c1 : (v == (-1 : Int)) = false := by simpa using c
      rw [if_neg c] at e hz
      apply EV.gt1
      · walk_at "gt"
      · apply EV.shP
        · apply EV.ifEF
          · walk_at "ev"
          · exact c1
          · walk_at "ev"
        · rfl
      · omega
      · rw [e, hz]; simp
  | [], _ :: _, _, _, _, h, _ => by simp at h
  | _ :: _, [], _, _, _, h, _ => by simp at h
theorem v_changed {x k : List Int} (h : k.length = x.length) (hb : x.length ≤ 100) : fn_changed [.fz (.tup (x.map .int)), .fz (.tup (k.map .int))] = some (.ret (.fz (.tup ((chgN x 0 k).map .int))), [.fz (.tup (x.map .int)), .fz (.tup (k.map .int))]) := by
  obtain ⟨p', q', e⟩ := gat_c (a := .fz (.tup (x.map .int))) (b := .fz (.tup (k.map .int))) k x [] .un .un h (by simp; omega)
  have m := chg_zip k 0 x (by omega)
  rw [List.take_zero, List.nil_append, List.drop_zero] at m
  rw [← m, List.nil_append] at e
  apply fe_changed
  · unfold b_changed
    walk_at "ev"
  walk_at "fin"
def fmI (x : List Int) : Nat → List Rule → Option Nat
  | _, [] => none
  | n, r :: tb => if meetsN x 0 r.1 = true then some n else fmI x (n + 1) tb
theorem loop_fm {a : T} {x : List Int} : ∀ (tb : List Rule) (n : Nat) (p q : T), (∀ r ∈ tb, r.1.length = x.length) →
    (∃ m p' q', fmI x n tb = some m ∧ p' = .fz (.int (m : Nat)) ∧ loopD (gdTup 2 (gdCons (gdName 2) (gdCons (gdName 3) gdNil))) L_first_met_1 (((tbl tb).zipIdx n).map fun p => .tup [.int (p.2 : Nat), p.1]) [.fz (.tup (x.map .int)), a, p, q] = some (.rt (.pl 2) [.fz (.tup (x.map .int)), a, p', q'])) ∨
    (fmI x n tb = none ∧ ∃ p' q', loopD (gdTup 2 (gdCons (gdName 2) (gdCons (gdName 3) gdNil))) L_first_met_1 (((tbl tb).zipIdx n).map fun p => .tup [.int (p.2 : Nat), p.1]) [.fz (.tup (x.map .int)), a, p, q] = some (.nx [.fz (.tup (x.map .int)), a, p', q']))
  | [], n, p, q, _ => Or.inr ⟨rfl, p, q, rfl⟩
  | r :: tb, n, p, q, h => by
    have t := v_meets (x := x) (h r (by simp))
    have e0 : ((tbl (r :: tb)).zipIdx n).map (fun p => D.tup [.int (p.2 : Nat), p.1]) = .tup [.int (n : Nat), .tup [.tup (r.1.map .int), .lst (r.2.map tupD)]] :: (((tbl tb).zipIdx (n + 1)).map fun p => .tup [.int (p.2 : Nat), p.1]) := by
      show ((ruD r :: tbl tb).zipIdx n).map _ = _
      rw [List.zipIdx_cons, List.map_cons]; rfl
    rw [e0]
    unfold fmI
    cases c : meetsN x 0 r.1 with
    | true =>
      rw [c] at t
      refine Or.inl ⟨n, .fz (.int (n : Nat)), .fz (ruD r), by simp, rfl, ?_⟩
      unfold ruD tupD
      apply EV.lpR
      · walk_at "ev"
      · walk_at "ev"
    | false =>
      rw [c] at t
      simp only [Bool.false_eq_true, if_false]
      rcases loop_fm (a := a) (x := x) tb (n + 1) (.fz (.int (n : Nat))) (.fz (.tup [.tup (r.1.map .int), .lst (r.2.map tupD)])) (fun r hr => h r (by simp [hr])) with ⟨m, p', q', h1, h2, e⟩ | ⟨h1, p', q', e⟩
      · refine Or.inl ⟨m, p', q', h1, h2, ?_⟩
        apply EV.lpN
        · walk_at "ev"
        · walk_at "ev"
        · exact e
      · refine Or.inr ⟨h1, p', q', ?_⟩
        apply EV.lpN
        · walk_at "ev"
        · walk_at "ev"
        · exact e
def fmD (x : List Int) (tb : List Rule) : D := match fmI x 0 tb with
  | some n => .int (n : Nat)
  | none => .non
theorem v_first_met {x : List Int} {tb : List Rule} (h : ∀ r ∈ tb, r.1.length = x.length) : fn_first_met [.fz (.tup (x.map .int)), .fz (.lst (tbl tb))] = some (.ret (.fz (fmD x tb)), [.fz (.tup (x.map .int)), .fz (.lst (tbl tb))]) := by
  unfold fmD
  rcases loop_fm (a := .fz (.lst (tbl tb))) (x := x) tb 0 .un .un h with ⟨m, p', q', h1, rfl, e⟩ | ⟨h1, p', q', e⟩
  · rw [h1]
    change loopD _ _ (enumD (tbl tb)) _ = _ at e
    apply fe_first_met
    · unfold b_first_met
      walk_at "rt"
    walk_at "fin"
  · rw [h1]
    change loopD _ _ (enumD (tbl tb)) _ = _ at e
    apply fe_first_met
    · unfold b_first_met
      walk_at "st"
      walk_at "ev"
    walk_at "fin"
end K7

set_option Elab.async false
set_option linter.all false
set_option maxRecDepth 100000
set_option maxHeartbeats 8000000
namespace Q
namespace EV
open PySem PySem.Spec PyProof.Rows L2
variable {r r1 r2 r3 : Env}
theorem ssc2 {f : ID} {h : GD} {e : FD} {own : List Nat} {l : List D} {M : List (List Int)} (h1 : f r = some (l, r1)) (h2 : gatS h e own l r1 [] = some (M, r2)) (h3 : restore r1 own r2 = r3) (hc : (M.all fun k => k.length == (M.headD [0]).length && decide (0 < k.length)) = true) : dSSC f h e own r = some (.nw (.ls (((sortI M).map tupD).map .fz)), r3) := ssc h1 h2 h3 hc rfl
end EV
end Q
namespace K7
open PySem PySem.Spec PyProof.Rows L2 Q
local macro_rules | `(tactic| walk_at "norm") => `(tactic| focus (first | (simp only [List.map_cons, List.map_nil]; done) | ((try simp only [List.map_cons, List.map_nil]); exact rfl)))
local macro_rules | `(tactic| walk_at "set") => `(tactic| focus (first | (dsimp only [List.set_cons_succ, List.set_cons_zero]; done) | ((try dsimp only [List.set_cons_succ, List.set_cons_zero]); exact rfl)))
local macro_rules | `(tactic| walk_at "frz") => `(tactic| focus (first | (simp only [frzE_cons, frzE_nil, frz_fz, frz_un, frz_ls, frz_ls1]; done) | ((try simp only [frzE_cons, frzE_nil, frz_fz, frz_un, frz_ls, frz_ls1]); exact rfl)))
local macro_rules | `(tactic| walk_at "pars") => `(tactic| focus (first | (simp only [pars, List.getElem?_cons_succ, List.getElem?_cons_zero, Option.bind_some, List.set_cons_succ, List.set_cons_zero]; done) | ((try simp only [pars, List.getElem?_cons_succ, List.getElem?_cons_zero, Option.bind_some, List.set_cons_succ, List.set_cons_zero]); exact rfl)))
local macro_rules | `(tactic| walk_at "back") => `(tactic| focus (first | (simp only [back, putBack, List.getElem?_cons_succ, List.getElem?_cons_zero, List.set_cons_succ, List.set_cons_zero]; done) | ((try simp only [back, putBack, List.getElem?_cons_succ, List.getElem?_cons_zero, List.set_cons_succ, List.set_cons_zero]); exact rfl)))
local macro_rules | `(tactic| walk_at "restore") => `(tactic| focus (first | with_reducible assumption | (simp only [restore, slotP, keepP, List.getElem?_cons_succ, List.getElem?_cons_zero, List.set_cons_succ, List.set_cons_zero]; done) | ((try simp only [restore, slotP, keepP, List.getElem?_cons_succ, List.getElem?_cons_zero, List.set_cons_succ, List.set_cons_zero]); exact rfl)))
local macro_rules | `(tactic| walk_at "wipe") => `(tactic| focus (first | (simp only [wipeT, List.set_cons_succ, List.set_cons_zero]; done) | ((try simp only [wipeT, List.set_cons_succ, List.set_cons_zero]); exact rfl)))
local macro_rules | `(tactic| walk_at "out") => `(tactic| focus (first | (simp only [outP, keepP, if_true, Bool.false_eq_true, if_false]; done) | ((try simp only [outP, keepP, if_true, Bool.false_eq_true, if_false]); exact rfl)))
local macro_rules | `(tactic| walk_at "side") => `(tactic| (first | with_reducible assumption | omega | decide))
local macro_rules | `(tactic| walk_at "mul") => `(tactic| (first | with_reducible assumption | exact mulW_small 62 62 (by omega) (by omega) (by decide) (by decide) (by decide)))
local macro_rules | `(tactic| walk_at "len") => `(tactic| focus ((try simp only [List.length_cons, List.length_nil, List.length_append, List.length_replicate, List.length_map]) <;> (first | omega | with_reducible assumption)))
local macro_rules | `(tactic| walk_at "at") => `(tactic| (first | with_reducible assumption | exact rfl))
local macro_rules | `(tactic| walk_at "eq") => `(tactic| (first | with_reducible assumption | with_reducible exact EV.eqI _ _ | with_reducible exact EV.neI _ _))
local macro_rules | `(tactic| walk_at "rep") => `(tactic| (with_reducible assumption))
local macro_rules | `(tactic| walk_at "in") => `(tactic| (first | with_reducible assumption | exact rfl))
local macro_rules | `(tactic| walk_at "ss") => `(tactic| (with_reducible assumption))
local macro_rules | `(tactic| walk_at "tru") => `(tactic| (first | exact rfl | with_reducible assumption))
local macro_rules | `(tactic| walk_at "call") => `(tactic| (with_reducible assumption))
local macro_rules | `(tactic| walk_at "aug") => `(tactic| (exact rfl))
local macro_rules | `(tactic| walk_at "bt") => `(tactic| (first | exact rfl | with_reducible assumption | (simp only [decide_eq_true_eq, decide_eq_false_iff_not, Bool.not_eq_true', Bool.not_eq_false', Bool.and_eq_true, Bool.or_eq_true, Bool.and_eq_false_iff, Bool.or_eq_false_iff, beq_iff_eq, beq_eq_false_iff_ne, ne_eq]; omega)))
local macro_rules | `(tactic| walk_at "ev") => `(tactic| first
  | ((with_reducible apply EV.shV); (exact rfl))
  | ((with_reducible apply EV.shO); (exact rfl); (walk_at "set"))
  | ((with_reducible apply EV.shD); (exact rfl); (with_reducible assumption); (walk_at "set"))
  | ((with_reducible exact EV.cE _))
  | ((with_reducible apply EV.shS); (walk_at "ev"))
  | ((with_reducible apply EV.shN); (walk_at "ev"))
  | ((with_reducible apply EV.scal); (walk_at "frz"); (walk_at "ev"); (exact rfl))
  | ((with_reducible apply EV.lift); (walk_at "ev"))
  | ((with_reducible exact EV.cW _))
  | ((with_reducible apply EV.varF); (exact rfl))
  | ((with_reducible apply EV.varL); (exact rfl))
  | ((with_reducible exact EV.fn))
  | ((with_reducible apply EV.fc); (walk_at "ev"); (walk_at "ev"))
  | ((with_reducible exact EV.an))
  | ((with_reducible apply EV.ac); (walk_at "ev"); (walk_at "ev"))
  | ((with_reducible exact EV.mn))
  | ((with_reducible apply EV.mc); (walk_at "ev"); (walk_at "ev"))
  | ((with_reducible apply EV.mV); (exact rfl))
  | ((with_reducible apply EV.mO); (exact rfl); (walk_at "set"))
  | ((with_reducible apply EV.mvMF); (exact rfl); (walk_at "set"))
  | ((with_reducible apply EV.mvML); (exact rfl); (walk_at "set"))
  | ((with_reducible apply EV.mS); (walk_at "ev"))
  | ((with_reducible apply EV.mN); (walk_at "ev"))
  | ((with_reducible apply EV.add); (walk_at "ev"); (walk_at "ev"))
  | ((with_reducible apply EV.sub); (walk_at "ev"); (walk_at "ev"))
  | ((with_reducible apply EV.mul); (walk_at "ev"); (walk_at "ev"); (walk_at "mul"))
  | ((with_reducible apply EV.mod); (walk_at "ev"); (walk_at "ev"); (walk_at "side"))
  | ((with_reducible apply EV.div); (walk_at "ev"); (walk_at "ev"); (walk_at "side"))
  | ((with_reducible apply EV.pow); (walk_at "ev"); (walk_at "ev"); (walk_at "side"))
  | ((with_reducible apply EV.shl); (walk_at "ev"); (walk_at "ev"); (walk_at "side"))
  | ((with_reducible apply EV.shr); (walk_at "ev"); (walk_at "ev"); (walk_at "side"))
  | ((with_reducible apply EV.band); (walk_at "ev"); (walk_at "ev"))
  | ((with_reducible apply EV.bor); (walk_at "ev"); (walk_at "ev"))
  | ((with_reducible apply EV.bxor); (walk_at "ev"); (walk_at "ev"))
  | ((with_reducible apply EV.lt); (walk_at "ev"); (walk_at "ev"))
  | ((with_reducible apply EV.le); (walk_at "ev"); (walk_at "ev"))
  | ((with_reducible apply EV.gt); (walk_at "ev"); (walk_at "ev"))
  | ((with_reducible apply EV.ge); (walk_at "ev"); (walk_at "ev"))
  | ((with_reducible apply EV.neg); (walk_at "ev"))
  | ((with_reducible apply EV.eqG); (walk_at "ev"); (walk_at "ev"); (walk_at "eq"))
  | ((with_reducible apply EV.neG); (walk_at "ev"); (walk_at "ev"); (walk_at "eq"))
  | ((with_reducible apply EV.isN); (walk_at "ev"); (walk_at "ev"))
  | ((with_reducible apply EV.notN); (walk_at "ev"); (walk_at "ev"))
  | ((with_reducible apply EV.ixL); (walk_at "ev"); (walk_at "ev"); (walk_at "at"))
  | ((with_reducible apply EV.ixT); (walk_at "ev"); (walk_at "ev"); (walk_at "at"))
  | ((with_reducible apply EV.catT); (walk_at "ev"); (walk_at "ev"); (walk_at "len"))
  | ((with_reducible apply EV.catL); (walk_at "ev"); (walk_at "ev"); (walk_at "len"))
  | ((with_reducible apply EV.catS); (walk_at "ev"); (walk_at "ev"); (walk_at "len"))
  | ((with_reducible apply EV.mulL); (walk_at "ev"); (walk_at "ev"); (walk_at "side"); (walk_at "side"))
  | ((with_reducible apply EV.lenL); (walk_at "ev"))
  | ((with_reducible apply EV.lenT); (walk_at "ev"))
  | ((with_reducible apply EV.lenR); (walk_at "ev"))
  | ((with_reducible apply EV.lenS); (walk_at "ev"); (walk_at "len"))
  | ((with_reducible apply EV.tupL); (walk_at "ev"))
  | ((with_reducible apply EV.tupT); (walk_at "ev"))
  | ((with_reducible apply EV.lisL); (walk_at "ev"))
  | ((with_reducible apply EV.lisT); (walk_at "ev"))
  | ((with_reducible apply EV.rep); (walk_at "ev"); (walk_at "rep"))
  | ((with_reducible apply EV.max2); (walk_at "ev"); (walk_at "ev"))
  | ((with_reducible apply EV.min2); (walk_at "ev"); (walk_at "ev"))
  | ((with_reducible apply EV.intI); (walk_at "ev"))
  | ((with_reducible apply EV.intB); (walk_at "ev"))
  | ((with_reducible apply EV.strI); (walk_at "ev"); (walk_at "side"))
  | ((with_reducible apply EV.inG); (walk_at "ev"); (walk_at "ev"); (walk_at "in"))
  | ((with_reducible apply EV.inR); (walk_at "ev"); (walk_at "ev"))
  | ((with_reducible apply EV.isi); (walk_at "ev"); (exact rfl))
  | ((with_reducible apply EV.revT); (walk_at "ev"))
  | ((with_reducible apply EV.revL); (walk_at "ev"))
  | ((with_reducible apply EV.tup); (walk_at "ev"); (walk_at "len"))
  | ((with_reducible apply EV.lst); (walk_at "ev"); (walk_at "len"))
  | ((with_reducible apply EV.ltT); (walk_at "ev"); (walk_at "ev"); (walk_at "side"); (walk_at "side"))
  | ((with_reducible exact EV.pN))
  | ((with_reducible apply EV.pA); (walk_at "ev"))
  | ((with_reducible apply EV.slL); (walk_at "ev"); (walk_at "ev"); (walk_at "ev"))
  | ((with_reducible apply EV.slT); (walk_at "ev"); (walk_at "ev"); (walk_at "ev"))
  | ((with_reducible apply EV.ss); (walk_at "ev"); (walk_at "ss"))
  | ((with_reducible apply EV.srt); (walk_at "ev"); (walk_at "ss"))
  | ((with_reducible apply EV.bl); (walk_at "ev"))
  | ((with_reducible apply EV.tru); (walk_at "ev"); (walk_at "tru"))
  | ((with_reducible apply EV.not); (walk_at "ev"))
  | ((with_reducible apply EV.and); (walk_at "ev"); (walk_at "ev"))
  | ((with_reducible apply EV.or); (walk_at "ev"); (walk_at "ev"))
  | ((with_reducible apply EV.andF); (walk_at "ev"); (walk_at "bt"))
  | ((with_reducible apply EV.andT); (walk_at "ev"); (walk_at "bt"); (walk_at "ev"))
  | ((with_reducible apply EV.orT); (walk_at "ev"); (walk_at "bt"))
  | ((with_reducible apply EV.orF); (walk_at "ev"); (walk_at "bt"); (walk_at "ev"))
  | ((with_reducible apply EV.boolW); (walk_at "ev"))
  | ((with_reducible apply EV.scalT); (walk_at "frz"); (walk_at "ev"))
  | ((with_reducible apply EV.ifET); (walk_at "ev"); (walk_at "bt"); (walk_at "ev"))
  | ((with_reducible apply EV.ifEF); (walk_at "ev"); (walk_at "bt"); (walk_at "ev"))
  | ((with_reducible apply EV.chn); (walk_at "ev"); (walk_at "ev"); (exact rfl); (walk_at "ev"); (exact rfl))
  | ((with_reducible apply EV.xl); (walk_at "ev"))
  | ((with_reducible apply EV.xb); (walk_at "ev"))
  | ((with_reducible apply EV.xblS); (walk_at "ev"))
  | ((with_reducible apply EV.xnot); (walk_at "ev"))
  | ((with_reducible apply EV.callS); (walk_at "ev"); (walk_at "pars"); (walk_at "norm"); (walk_at "call"); (exact rfl); (walk_at "back"))
  | ((with_reducible apply EV.callN); (walk_at "ev"); (walk_at "pars"); (walk_at "norm"); (walk_at "call"); (exact rfl); (walk_at "back"))
  | ((with_reducible apply EV.callXS); (walk_at "ev"); (walk_at "pars"); (walk_at "norm"); (walk_at "call"); (exact rfl); (walk_at "back"))
  | ((with_reducible apply EV.callXN); (walk_at "ev"); (walk_at "pars"); (walk_at "norm"); (walk_at "call"); (exact rfl); (walk_at "back"))
  | ((with_reducible apply EV.callXE); (walk_at "ev"); (walk_at "pars"); (walk_at "norm"); (walk_at "call"); (exact rfl); (walk_at "back"))
  | ((with_reducible apply EV.ixO); (exact rfl); (walk_at "ev"); (exact rfl); (walk_at "at"))
  | ((with_reducible apply EV.app); (exact rfl); (walk_at "ev"); (exact rfl); (walk_at "len"); (walk_at "set"))
  | ((with_reducible apply EV.appT); (exact rfl); (walk_at "ev"); (exact rfl); (walk_at "len"); (walk_at "set"))
  | ((with_reducible apply EV.ext); (exact rfl); (walk_at "ev"); (exact rfl); (walk_at "len"); (walk_at "set"))
  | ((with_reducible apply EV.pop); (exact rfl); (walk_at "set"))
  | ((with_reducible apply EV.comp); (walk_at "ev"); (walk_at "call"); (walk_at "restore"))
  | ((with_reducible apply EV.comp2); (walk_at "ev"); (walk_at "call"); (walk_at "restore"))
  | ((with_reducible apply EV.tupG); (walk_at "ev"); (walk_at "call"); (walk_at "restore"))
  | ((with_reducible apply EV.ssc); (walk_at "ev"); (walk_at "call"); (walk_at "restore"); (walk_at "ss"); (walk_at "ss"))
  | ((with_reducible apply EV.allG); (walk_at "ev"); (walk_at "call"); (walk_at "restore"))
  | ((with_reducible exact EV.yes))
  | ((with_reducible apply EV.itL); (walk_at "ev"))
  | ((with_reducible apply EV.itT); (walk_at "ev"))
  | ((with_reducible apply EV.rg1); (walk_at "ev"); (walk_at "side"); (walk_at "side"))
  | ((with_reducible apply EV.rg2); (walk_at "ev"); (walk_at "side"))
  | ((with_reducible apply EV.rg3); (walk_at "ev"); (walk_at "side"))
  | ((with_reducible apply EV.zpL); (walk_at "ev"))
  | ((with_reducible apply EV.zpT); (walk_at "ev"))
  | ((with_reducible apply EV.enm); (walk_at "ev"))
  | ((with_reducible apply EV.enmL); (walk_at "ev"))
  | ((with_reducible apply EV.enmT); (walk_at "ev"))
  | ((with_reducible apply EV.rvs); (walk_at "ev"))
  | ((with_reducible apply EV.gName); (walk_at "set"))
  | ((with_reducible exact EV.gsN))
  | ((with_reducible apply EV.gsC); (walk_at "ev"); (walk_at "ev"))
  | ((with_reducible apply EV.gTup); (exact rfl); (try simp only [List.map_cons, List.map_nil]); (walk_at "ev"))
  | ((with_reducible apply EV.gLst); (exact rfl); (try simp only [List.map_cons, List.map_nil]); (walk_at "ev"))
  | ((with_reducible apply EV.setO); (exact rfl); (walk_at "ev"); (exact rfl); (walk_at "at"); (walk_at "set"))
  | ((with_reducible exact EV.nxt))
  | ((with_reducible apply EV.seq); (walk_at "ev"); (walk_at "ev"))
  | ((with_reducible apply EV.seqR); (walk_at "ev"); (exact rfl))
  | ((with_reducible apply EV.seqX); (walk_at "ev"))
  | ((with_reducible apply EV.asgV); (walk_at "ev"); (walk_at "ev"))
  | ((with_reducible apply EV.asgS); (walk_at "ev"); (walk_at "ev"))
  | ((with_reducible apply EV.asgN); (walk_at "ev"); (walk_at "ev"))
  | ((with_reducible apply EV.asgX); (walk_at "ev"))
  | ((with_reducible apply EV.drop); (walk_at "ev"))
  | ((with_reducible apply EV.dropX); (walk_at "ev"))
  | ((with_reducible apply EV.ret); (walk_at "ev"))
  | ((with_reducible apply EV.ifT); (walk_at "ev"); (walk_at "bt"); (walk_at "ev"))
  | ((with_reducible apply EV.ifF); (walk_at "ev"); (walk_at "bt"); (walk_at "ev"))
  | ((with_reducible apply EV.aug); (exact rfl); (walk_at "ev"); (exact rfl); (walk_at "aug"); (walk_at "set"))
  | ((with_reducible apply EV.augO); (exact rfl); (walk_at "ev"); (exact rfl); (walk_at "side"); (walk_at "at"); (walk_at "at"); (walk_at "ev"); (walk_at "aug"); (exact rfl); (walk_at "set"))
  | ((with_reducible apply EV.for_); (walk_at "ev"); (walk_at "call")))
local macro_rules | `(tactic| walk_at "st") => `(tactic| ((with_reducible apply EV.seq); (walk_at "ev")))
local macro_rules | `(tactic| walk_at "le") => `(tactic| (exact Nat.le_of_ble_eq_true rfl))
local macro_rules | `(tactic| walk_at "fin") => `(tactic| first
  | ((apply EV.finS); (walk_at "le"); (walk_at "out"))
  | ((apply EV.finN); (walk_at "le"); (walk_at "out"))
  | ((apply EV.finV); (decide); (exact rfl); (walk_at "le"); (walk_at "out"))
  | ((apply EV.finW); (decide); (exact rfl); (walk_at "le"); (walk_at "out"))
  | ((apply EV.finP); (decide); (walk_at "ev"); (walk_at "le"); (walk_at "out"))
  | ((apply EV.finNx); (walk_at "le"); (walk_at "out"))
  | ((apply EV.finEx); (walk_at "le"); (walk_at "out")))
local macro_rules | `(tactic| walk_at "for") => `(tactic| ((with_reducible apply EV.seq); (with_reducible apply EV.for_); (walk_at "ev")))
local macro_rules | `(tactic| walk_at "gt") => `(tactic| ((simp only [wipeT, List.set_cons_succ, List.set_cons_zero]); (walk_at "ev")))
local macro_rules | `(tactic| walk_at "cc") => `(tactic| (apply EV.ccY; (walk_at "gt"); (first | exact EV.yes | walk_at "ev"); (walk_at "bt"); (walk_at "ev"); (walk_at "len")))
local macro_rules | `(tactic| walk_at "cn") => `(tactic| (apply EV.ccN; (walk_at "gt"); (walk_at "ev"); (walk_at "bt")))
local macro_rules | `(tactic| walk_at "rt") => `(tactic| ((with_reducible apply EV.seqR); (walk_at "ev"); (exact rfl)))
local macro_rules | `(tactic| walk_at "gg") => `(tactic| (apply EV.gt1; (walk_at "gt"); (walk_at "ev"); (walk_at "len")))
local macro_rules | `(tactic| walk_at "gs") => `(tactic| (apply EV.gs1; (walk_at "gt"); (walk_at "ev"); (walk_at "ss"); (walk_at "len")))

theorem fm_none {x : List Int} : ∀ (tb : List Rule) (n : Nat), fmI x n tb = none → becI x tb = []
  | [], _, _ => rfl
  | r :: tb, n, h => by
    unfold fmI at h
    unfold becI
    split at h
    · cases h
    · rename_i c
      rw [if_neg c]
      exact fm_none tb (n + 1) h
theorem fm_some {x : List Int} : ∀ (tb : List Rule) (n m : Nat), fmI x n tb = some m → ∃ r, n ≤ m ∧ tb[m - n]? = some r ∧ becI x tb = sortI (r.2.map fun c => chgN x 0 c)
  | [], _, _, h => by cases h
  | r :: tb, n, m, h => by
    unfold fmI at h
    unfold becI
    split at h
    · rename_i c
      cases h
      exact ⟨r, Nat.le_refl _, by simp, if_pos c⟩
    · rename_i c
      obtain ⟨r', h1, h2, h3⟩ := fm_some tb (n + 1) m h
      refine ⟨r', by omega, ?_, by rw [if_neg c]; exact h3⟩
      have : m - n = (m - (n + 1)) + 1 := by omega
      rw [this, List.getElem?_cons_succ]
      exact h2
theorem gat_b {b c : T} {x : List Int} (hx : x.length ≤ 100) : ∀ (cs M : List (List Int)) (p : T), (∀ k ∈ cs, k.length = x.length) → M.length + cs.length ≤ 60 → ∃ p', gatS (gdName 3) g_becomes_1 [3] (cs.map tupD) [.fz (.tup (x.map .int)), b, c, p] M = some (M ++ cs.map (fun k => chgN x 0 k), [.fz (.tup (x.map .int)), b, c, p'])
  | [], M, p, _, _ => ⟨p, by simp [gatS]⟩
  | k :: cs, M, p, h, hb => by
    simp only [List.length_cons] at hb
    have t := v_changed (x := x) (h k (by simp)) hx
    obtain ⟨p', e⟩ := gat_b (b := b) (c := c) hx cs (M ++ [chgN x 0 k]) (.fz (.tup (k.map .int))) (fun k hk => h k (by simp [hk])) (by simp; omega)
    have hi : intT (.tup ((chgN x 0 k).map .int)) = some (chgN x 0 k) := intsD_map _
    refine ⟨p', ?_⟩
    show gatS _ _ _ (.tup (k.map .int) :: cs.map tupD) _ _ = _
    apply EV.gs1
    · walk_at "gt"
    · walk_at "ev"
    · exact hi
    · omega
    · rw [e]; simp
theorem v_becomes {l x : List Int} {tb : List Rule} (hx : x.length = l.length) (h0 : 0 < l.length) (h3 : l.length ≤ 3) (h : ∀ r ∈ tb, RuOk l r) : fn_becomes [.fz (.tup (x.map .int)), .fz (.lst (tbl tb))] = some (.ret (.ls (((becI x tb).map tupD).map .fz)), [.fz (.tup (x.map .int)), .fz (.lst (tbl tb))]) := by
  have f := v_first_met (x := x) (tb := tb) fun r hr => by rw [lo2_len (h r hr).m, hx]
  cases c : fmI x 0 tb with
  | none =>
    have fd : fmD x tb = .non := by unfold fmD; rw [c]
    rw [fd] at f
    rw [fm_none tb 0 c]
    apply fe_becomes
    · unfold b_becomes
      walk_at "st"
      walk_at "rt"
    walk_at "fin"
  | some m =>
    have fd : fmD x tb = .int (m : Nat) := by unfold fmD; rw [c]
    rw [fd] at f
    obtain ⟨r, _, hr, hb⟩ := fm_some tb 0 m c
    have rm : r ∈ tb := List.mem_of_getElem? hr
    have o := h r rm
    have on := o.n
    have ha : L2.atI (tbl tb) ((m : Nat) : Int) = some (.tup [.tup (r.1.map .int), .lst (r.2.map tupD)]) := by
      rw [atI_nat, tbl, List.getElem?_map]
      rw [Nat.sub_zero] at hr
      rw [hr]; rfl
    obtain ⟨p', e⟩ := gat_b (b := .fz (.lst (tbl tb))) (c := .fz (.int (m : Nat))) (x := x) (by omega) r.2 [] .un (fun k hk => by rw [lo2_len (o.cs k hk), hx]) (by simp; omega)
    rw [List.nil_append] at e
    have al : ∀ k ∈ r.2.map (fun k => chgN x 0 k), k.length = l.length := fun k hk => by
      obtain ⟨c, hc, rfl⟩ := List.mem_map.mp hk
      rw [chg_len c 0 x (by rw [lo2_len (o.cs c hc)]; omega), hx]
    have ca : ((r.2.map fun k => chgN x 0 k).all fun k => k.length == ((r.2.map fun k => chgN x 0 k).headD [0]).length && decide (0 < k.length)) = true := by
      rw [List.all_eq_true]
      intro k hk
      have hk' := al k hk
      have hh : ((r.2.map fun k => chgN x 0 k).headD [0]).length = l.length := by
        generalize r.2.map (fun k => chgN x 0 k) = L at hk al
        cases L with
        | nil => cases hk
        | cons y L => exact al y (by simp)
      rw [hh, hk']
      simp [h0]
    rw [hb]
    apply fe_becomes
    · unfold b_becomes
      walk_at "st"
      walk_at "st"
      apply EV.ret
      apply EV.xl
      apply EV.ssc2
      · walk_at "ev"
      · exact e
      · walk_at "restore"
      · exact ca
    walk_at "fin"
theorem comp_td {Z : Zs} {a : T} {l : List Int} {tb : List Rule} (h0 : 0 < l.length) (h3 : l.length ≤ 3) (h : ∀ r ∈ tb, RuOk l r) : ∀ (F : List (List Int)) (M : List T) (x : T), (∀ k ∈ F, k.length = l.length) → M.length + F.length ≤ 1000 → ∃ x', compD (gdName 2) dYes (c_table_does_1 Z) [2] (F.map tupD) [a, .fz (.lst (tbl tb)), x] M = some (M ++ F.map (fun k => oL ((becI k tb).map tupD)), [a, .fz (.lst (tbl tb)), x'])
  | [], M, x, _, _ => ⟨x, by simp [compD]⟩
  | k :: F, M, x, hF, hb => by
    simp only [List.length_cons] at hb
    have b := v_becomes (x := k) (hF k (by simp)) h0 h3 h
    obtain ⟨x', e⟩ := comp_td (Z := Z) (a := a) h0 h3 h F (M ++ [oL ((becI k tb).map tupD)]) (.fz (.tup (k.map .int))) (fun k hk => hF k (by simp [hk])) (by simp; omega)
    refine ⟨x', ?_⟩
    show compD _ _ _ _ (.tup (k.map .int) :: F.map tupD) _ _ = _
    apply EV.ccT
    · walk_at "gt"
    · exact EV.yes
    · rfl
    · walk_at "ev"
    · omega
    · rw [e]; simp
def didL (l : List Int) (tb : List Rule) : List T := (LI l [[]]).map fun k => oL ((becI k tb).map tupD)
theorem v_table_does {Z : Zs} {l : List Int} {tb : List Rule} (hs : GSh (l.map .int)) (hl : ∀ c ∈ l, 1 ≤ c ∧ c ≤ 4) (h0 : 0 < l.length) (h3 : l.length ≤ 3) (h : TbOk l tb) (hv : lv (.lst (tbl tb)) = true) : fn_table_does Z [.fz (.tup (l.map .int)), .fz (.lst (tbl tb))] = some (.ret (.ls (didL l tb)), [.fz (.tup (l.map .int)), .fz (.lst (tbl tb))]) := by
  have hc := v_check_table (Z := Z) hs hv h.tb
  have ht := v_letters_of (Z := Z) hs hl h3
  obtain ⟨hm, hn⟩ := LI_ok l 0 [[]] hl (by simp)
  have hp : 4 ^ l.length ≤ 4 ^ 3 := Nat.pow_le_pow_right (by decide) h3
  obtain ⟨x', e⟩ := comp_td (Z := Z) (a := .fz (.tup (l.map .int))) h0 h3 h.ok (LI l [[]]) [] .un (fun k hk => by rw [hm k hk]; omega) (by simp at hn ⊢; omega)
  rw [List.nil_append] at e
  apply fe_table_does
  · unfold b_table_does
    walk_at "st"
    apply EV.ret
    apply EV.xl
    apply EV.compT
    · walk_at "ev"
    · exact e
    · walk_at "restore"
  walk_at "fin"
end K7

set_option Elab.async false
set_option linter.all false
set_option maxRecDepth 100000
set_option maxHeartbeats 8000000
namespace K7
open PySem PySem.Spec PyProof.Rows L2 Q
local macro_rules | `(tactic| walk_at "norm") => `(tactic| focus (first | (simp only [List.map_cons, List.map_nil]; done) | ((try simp only [List.map_cons, List.map_nil]); exact rfl)))
local macro_rules | `(tactic| walk_at "set") => `(tactic| focus (first | (dsimp only [List.set_cons_succ, List.set_cons_zero]; done) | ((try dsimp only [List.set_cons_succ, List.set_cons_zero]); exact rfl)))
local macro_rules | `(tactic| walk_at "frz") => `(tactic| focus (first | (simp only [frzE_cons, frzE_nil, frz_fz, frz_un, frz_ls, frz_ls1]; done) | ((try simp only [frzE_cons, frzE_nil, frz_fz, frz_un, frz_ls, frz_ls1]); exact rfl)))
local macro_rules | `(tactic| walk_at "pars") => `(tactic| focus (first | (simp only [pars, List.getElem?_cons_succ, List.getElem?_cons_zero, Option.bind_some, List.set_cons_succ, List.set_cons_zero]; done) | ((try simp only [pars, List.getElem?_cons_succ, List.getElem?_cons_zero, Option.bind_some, List.set_cons_succ, List.set_cons_zero]); exact rfl)))
local macro_rules | `(tactic| walk_at "back") => `(tactic| focus (first | (simp only [back, putBack, List.getElem?_cons_succ, List.getElem?_cons_zero, List.set_cons_succ, List.set_cons_zero]; done) | ((try simp only [back, putBack, List.getElem?_cons_succ, List.getElem?_cons_zero, List.set_cons_succ, List.set_cons_zero]); exact rfl)))
local macro_rules | `(tactic| walk_at "restore") => `(tactic| focus (first | with_reducible assumption | (simp only [restore, slotP, keepP, List.getElem?_cons_succ, List.getElem?_cons_zero, List.set_cons_succ, List.set_cons_zero]; done) | ((try simp only [restore, slotP, keepP, List.getElem?_cons_succ, List.getElem?_cons_zero, List.set_cons_succ, List.set_cons_zero]); exact rfl)))
local macro_rules | `(tactic| walk_at "wipe") => `(tactic| focus (first | (simp only [wipeT, List.set_cons_succ, List.set_cons_zero]; done) | ((try simp only [wipeT, List.set_cons_succ, List.set_cons_zero]); exact rfl)))
local macro_rules | `(tactic| walk_at "out") => `(tactic| focus (first | (simp only [outP, keepP, if_true, Bool.false_eq_true, if_false]; done) | ((try simp only [outP, keepP, if_true, Bool.false_eq_true, if_false]); exact rfl)))
local macro_rules | `(tactic| walk_at "side") => `(tactic| (first | with_reducible assumption | omega | decide))
local macro_rules | `(tactic| walk_at "mul") => `(tactic| (first | with_reducible assumption | exact mulW_small 62 62 (by omega) (by omega) (by decide) (by decide) (by decide)))
local macro_rules | `(tactic| walk_at "len") => `(tactic| focus ((try simp only [List.length_cons, List.length_nil, List.length_append, List.length_replicate, List.length_map]) <;> (first | omega | with_reducible assumption)))
local macro_rules | `(tactic| walk_at "at") => `(tactic| (first | with_reducible assumption | exact rfl))
local macro_rules | `(tactic| walk_at "eq") => `(tactic| (first | with_reducible assumption | with_reducible exact EV.eqI _ _ | with_reducible exact EV.neI _ _))
local macro_rules | `(tactic| walk_at "rep") => `(tactic| (with_reducible assumption))
local macro_rules | `(tactic| walk_at "in") => `(tactic| (first | with_reducible assumption | exact rfl))
local macro_rules | `(tactic| walk_at "ss") => `(tactic| (with_reducible assumption))
local macro_rules | `(tactic| walk_at "tru") => `(tactic| (first | exact rfl | with_reducible assumption))
local macro_rules | `(tactic| walk_at "call") => `(tactic| (with_reducible assumption))
local macro_rules | `(tactic| walk_at "aug") => `(tactic| (exact rfl))
local macro_rules | `(tactic| walk_at "bt") => `(tactic| (first | exact rfl | with_reducible assumption | (simp only [decide_eq_true_eq, decide_eq_false_iff_not, Bool.not_eq_true', Bool.not_eq_false', Bool.and_eq_true, Bool.or_eq_true, Bool.and_eq_false_iff, Bool.or_eq_false_iff, beq_iff_eq, beq_eq_false_iff_ne, ne_eq]; omega)))
local macro_rules | `(tactic| walk_at "ev") => `(tactic| first
  | ((with_reducible apply EV.shV); (exact rfl))
  | ((with_reducible apply EV.shO); (exact rfl); (walk_at "set"))
  | ((with_reducible apply EV.shD); (exact rfl); (with_reducible assumption); (walk_at "set"))
  | ((with_reducible exact EV.cE _))
  | ((with_reducible apply EV.shS); (walk_at "ev"))
  | ((with_reducible apply EV.shN); (walk_at "ev"))
  | ((with_reducible apply EV.scal); (walk_at "frz"); (walk_at "ev"); (exact rfl))
  | ((with_reducible apply EV.lift); (walk_at "ev"))
  | ((with_reducible exact EV.cW _))
  | ((with_reducible apply EV.varF); (exact rfl))
  | ((with_reducible apply EV.varL); (exact rfl))
  | ((with_reducible exact EV.fn))
  | ((with_reducible apply EV.fc); (walk_at "ev"); (walk_at "ev"))
  | ((with_reducible exact EV.an))
  | ((with_reducible apply EV.ac); (walk_at "ev"); (walk_at "ev"))
  | ((with_reducible exact EV.mn))
  | ((with_reducible apply EV.mc); (walk_at "ev"); (walk_at "ev"))
  | ((with_reducible apply EV.mV); (exact rfl))
  | ((with_reducible apply EV.mO); (exact rfl); (walk_at "set"))
  | ((with_reducible apply EV.mvMF); (exact rfl); (walk_at "set"))
  | ((with_reducible apply EV.mvML); (exact rfl); (walk_at "set"))
  | ((with_reducible apply EV.mS); (walk_at "ev"))
  | ((with_reducible apply EV.mN); (walk_at "ev"))
  | ((with_reducible apply EV.add); (walk_at "ev"); (walk_at "ev"))
  | ((with_reducible apply EV.sub); (walk_at "ev"); (walk_at "ev"))
  | ((with_reducible apply EV.mul); (walk_at "ev"); (walk_at "ev"); (walk_at "mul"))
  | ((with_reducible apply EV.mod); (walk_at "ev"); (walk_at "ev"); (walk_at "side"))
  | ((with_reducible apply EV.div); (walk_at "ev"); (walk_at "ev"); (walk_at "side"))
  | ((with_reducible apply EV.pow); (walk_at "ev"); (walk_at "ev"); (walk_at "side"))
  | ((with_reducible apply EV.shl); (walk_at "ev"); (walk_at "ev"); (walk_at "side"))
  | ((with_reducible apply EV.shr); (walk_at "ev"); (walk_at "ev"); (walk_at "side"))
  | ((with_reducible apply EV.band); (walk_at "ev"); (walk_at "ev"))
  | ((with_reducible apply EV.bor); (walk_at "ev"); (walk_at "ev"))
  | ((with_reducible apply EV.bxor); (walk_at "ev"); (walk_at "ev"))
  | ((with_reducible apply EV.lt); (walk_at "ev"); (walk_at "ev"))
  | ((with_reducible apply EV.le); (walk_at "ev"); (walk_at "ev"))
  | ((with_reducible apply EV.gt); (walk_at "ev"); (walk_at "ev"))
  | ((with_reducible apply EV.ge); (walk_at "ev"); (walk_at "ev"))
  | ((with_reducible apply EV.neg); (walk_at "ev"))
  | ((with_reducible apply EV.eqG); (walk_at "ev"); (walk_at "ev"); (walk_at "eq"))
  | ((with_reducible apply EV.neG); (walk_at "ev"); (walk_at "ev"); (walk_at "eq"))
  | ((with_reducible apply EV.isN); (walk_at "ev"); (walk_at "ev"))
  | ((with_reducible apply EV.notN); (walk_at "ev"); (walk_at "ev"))
  | ((with_reducible apply EV.ixL); (walk_at "ev"); (walk_at "ev"); (walk_at "at"))
  | ((with_reducible apply EV.ixT); (walk_at "ev"); (walk_at "ev"); (walk_at "at"))
  | ((with_reducible apply EV.catT); (walk_at "ev"); (walk_at "ev"); (walk_at "len"))
  | ((with_reducible apply EV.catL); (walk_at "ev"); (walk_at "ev"); (walk_at "len"))
  | ((with_reducible apply EV.catS); (walk_at "ev"); (walk_at "ev"); (walk_at "len"))
  | ((with_reducible apply EV.mulL); (walk_at "ev"); (walk_at "ev"); (walk_at "side"); (walk_at "side"))
  | ((with_reducible apply EV.lenL); (walk_at "ev"))
  | ((with_reducible apply EV.lenT); (walk_at "ev"))
  | ((with_reducible apply EV.lenR); (walk_at "ev"))
  | ((with_reducible apply EV.lenS); (walk_at "ev"); (walk_at "len"))
  | ((with_reducible apply EV.tupL); (walk_at "ev"))
  | ((with_reducible apply EV.tupT); (walk_at "ev"))
  | ((with_reducible apply EV.lisL); (walk_at "ev"))
  | ((with_reducible apply EV.lisT); (walk_at "ev"))
  | ((with_reducible apply EV.rep); (walk_at "ev"); (walk_at "rep"))
  | ((with_reducible apply EV.max2); (walk_at "ev"); (walk_at "ev"))
  | ((with_reducible apply EV.min2); (walk_at "ev"); (walk_at "ev"))
  | ((with_reducible apply EV.intI); (walk_at "ev"))
  | ((with_reducible apply EV.intB); (walk_at "ev"))
  | ((with_reducible apply EV.strI); (walk_at "ev"); (walk_at "side"))
  | ((with_reducible apply EV.inG); (walk_at "ev"); (walk_at "ev"); (walk_at "in"))
  | ((with_reducible apply EV.inR); (walk_at "ev"); (walk_at "ev"))
  | ((with_reducible apply EV.isi); (walk_at "ev"); (exact rfl))
  | ((with_reducible apply EV.revT); (walk_at "ev"))
  | ((with_reducible apply EV.revL); (walk_at "ev"))
  | ((with_reducible apply EV.tup); (walk_at "ev"); (walk_at "len"))
  | ((with_reducible apply EV.lst); (walk_at "ev"); (walk_at "len"))
  | ((with_reducible apply EV.ltT); (walk_at "ev"); (walk_at "ev"); (walk_at "side"); (walk_at "side"))
  | ((with_reducible exact EV.pN))
  | ((with_reducible apply EV.pA); (walk_at "ev"))
  | ((with_reducible apply EV.slL); (walk_at "ev"); (walk_at "ev"); (walk_at "ev"))
  | ((with_reducible apply EV.slT); (walk_at "ev"); (walk_at "ev"); (walk_at "ev"))
  | ((with_reducible apply EV.ss); (walk_at "ev"); (walk_at "ss"))
  | ((with_reducible apply EV.srt); (walk_at "ev"); (walk_at "ss"))
  | ((with_reducible apply EV.bl); (walk_at "ev"))
  | ((with_reducible apply EV.tru); (walk_at "ev"); (walk_at "tru"))
  | ((with_reducible apply EV.not); (walk_at "ev"))
  | ((with_reducible apply EV.and); (walk_at "ev"); (walk_at "ev"))
  | ((with_reducible apply EV.or); (walk_at "ev"); (walk_at "ev"))
  | ((with_reducible apply EV.andF); (walk_at "ev"); (walk_at "bt"))
  | ((with_reducible apply EV.andT); (walk_at "ev"); (walk_at "bt"); (walk_at "ev"))
  | ((with_reducible apply EV.orT); (walk_at "ev"); (walk_at "bt"))
  | ((with_reducible apply EV.orF); (walk_at "ev"); (walk_at "bt"); (walk_at "ev"))
  | ((with_reducible apply EV.boolW); (walk_at "ev"))
  | ((with_reducible apply EV.scalT); (walk_at "frz"); (walk_at "ev"))
  | ((with_reducible apply EV.ifET); (walk_at "ev"); (walk_at "bt"); (walk_at "ev"))
  | ((with_reducible apply EV.ifEF); (walk_at "ev"); (walk_at "bt"); (walk_at "ev"))
  | ((with_reducible apply EV.chn); (walk_at "ev"); (walk_at "ev"); (exact rfl); (walk_at "ev"); (exact rfl))
  | ((with_reducible apply EV.xl); (walk_at "ev"))
  | ((with_reducible apply EV.xb); (walk_at "ev"))
  | ((with_reducible apply EV.xblS); (walk_at "ev"))
  | ((with_reducible apply EV.xnot); (walk_at "ev"))
  | ((with_reducible apply EV.callS); (walk_at "ev"); (walk_at "pars"); (walk_at "norm"); (walk_at "call"); (exact rfl); (walk_at "back"))
  | ((with_reducible apply EV.callN); (walk_at "ev"); (walk_at "pars"); (walk_at "norm"); (walk_at "call"); (exact rfl); (walk_at "back"))
  | ((with_reducible apply EV.callXS); (walk_at "ev"); (walk_at "pars"); (walk_at "norm"); (walk_at "call"); (exact rfl); (walk_at "back"))
  | ((with_reducible apply EV.callXN); (walk_at "ev"); (walk_at "pars"); (walk_at "norm"); (walk_at "call"); (exact rfl); (walk_at "back"))
  | ((with_reducible apply EV.callXE); (walk_at "ev"); (walk_at "pars"); (walk_at "norm"); (walk_at "call"); (exact rfl); (walk_at "back"))
  | ((with_reducible apply EV.ixO); (exact rfl); (walk_at "ev"); (exact rfl); (walk_at "at"))
  | ((with_reducible apply EV.app); (exact rfl); (walk_at "ev"); (exact rfl); (walk_at "len"); (walk_at "set"))
  | ((with_reducible apply EV.appT); (exact rfl); (walk_at "ev"); (exact rfl); (walk_at "len"); (walk_at "set"))
  | ((with_reducible apply EV.ext); (exact rfl); (walk_at "ev"); (exact rfl); (walk_at "len"); (walk_at "set"))
  | ((with_reducible apply EV.pop); (exact rfl); (walk_at "set"))
  | ((with_reducible apply EV.comp); (walk_at "ev"); (walk_at "call"); (walk_at "restore"))
  | ((with_reducible apply EV.comp2); (walk_at "ev"); (walk_at "call"); (walk_at "restore"))
  | ((with_reducible apply EV.tupG); (walk_at "ev"); (walk_at "call"); (walk_at "restore"))
  | ((with_reducible apply EV.ssc); (walk_at "ev"); (walk_at "call"); (walk_at "restore"); (walk_at "ss"); (walk_at "ss"))
  | ((with_reducible apply EV.allG); (walk_at "ev"); (walk_at "call"); (walk_at "restore"))
  | ((with_reducible exact EV.yes))
  | ((with_reducible apply EV.itL); (walk_at "ev"))
  | ((with_reducible apply EV.itT); (walk_at "ev"))
  | ((with_reducible apply EV.rg1); (walk_at "ev"); (walk_at "side"); (walk_at "side"))
  | ((with_reducible apply EV.rg2); (walk_at "ev"); (walk_at "side"))
  | ((with_reducible apply EV.rg3); (walk_at "ev"); (walk_at "side"))
  | ((with_reducible apply EV.zpL); (walk_at "ev"))
  | ((with_reducible apply EV.zpT); (walk_at "ev"))
  | ((with_reducible apply EV.enm); (walk_at "ev"))
  | ((with_reducible apply EV.enmL); (walk_at "ev"))
  | ((with_reducible apply EV.enmT); (walk_at "ev"))
  | ((with_reducible apply EV.rvs); (walk_at "ev"))
  | ((with_reducible apply EV.gName); (walk_at "set"))
  | ((with_reducible exact EV.gsN))
  | ((with_reducible apply EV.gsC); (walk_at "ev"); (walk_at "ev"))
  | ((with_reducible apply EV.gTup); (exact rfl); (try simp only [List.map_cons, List.map_nil]); (walk_at "ev"))
  | ((with_reducible apply EV.gLst); (exact rfl); (try simp only [List.map_cons, List.map_nil]); (walk_at "ev"))
  | ((with_reducible apply EV.setO); (exact rfl); (walk_at "ev"); (exact rfl); (walk_at "at"); (walk_at "set"))
  | ((with_reducible exact EV.nxt))
  | ((with_reducible apply EV.seq); (walk_at "ev"); (walk_at "ev"))
  | ((with_reducible apply EV.seqR); (walk_at "ev"); (exact rfl))
  | ((with_reducible apply EV.seqX); (walk_at "ev"))
  | ((with_reducible apply EV.asgV); (walk_at "ev"); (walk_at "ev"))
  | ((with_reducible apply EV.asgS); (walk_at "ev"); (walk_at "ev"))
  | ((with_reducible apply EV.asgN); (walk_at "ev"); (walk_at "ev"))
  | ((with_reducible apply EV.asgX); (walk_at "ev"))
  | ((with_reducible apply EV.drop); (walk_at "ev"))
  | ((with_reducible apply EV.dropX); (walk_at "ev"))
  | ((with_reducible apply EV.ret); (walk_at "ev"))
  | ((with_reducible apply EV.ifT); (walk_at "ev"); (walk_at "bt"); (walk_at "ev"))
  | ((with_reducible apply EV.ifF); (walk_at "ev"); (walk_at "bt"); (walk_at "ev"))
  | ((with_reducible apply EV.aug); (exact rfl); (walk_at "ev"); (exact rfl); (walk_at "aug"); (walk_at "set"))
  | ((with_reducible apply EV.augO); (exact rfl); (walk_at "ev"); (exact rfl); (walk_at "side"); (walk_at "at"); (walk_at "at"); (walk_at "ev"); (walk_at "aug"); (exact rfl); (walk_at "set"))
  | ((with_reducible apply EV.for_); (walk_at "ev"); (walk_at "call")))
local macro_rules | `(tactic| walk_at "st") => `(tactic| ((with_reducible apply EV.seq); (walk_at "ev")))
local macro_rules | `(tactic| walk_at "le") => `(tactic| (exact Nat.le_of_ble_eq_true rfl))
local macro_rules | `(tactic| walk_at "fin") => `(tactic| first
  | ((apply EV.finS); (walk_at "le"); (walk_at "out"))
  | ((apply EV.finN); (walk_at "le"); (walk_at "out"))
  | ((apply EV.finV); (decide); (exact rfl); (walk_at "le"); (walk_at "out"))
  | ((apply EV.finW); (decide); (exact rfl); (walk_at "le"); (walk_at "out"))
  | ((apply EV.finP); (decide); (walk_at "ev"); (walk_at "le"); (walk_at "out"))
  | ((apply EV.finNx); (walk_at "le"); (walk_at "out"))
  | ((apply EV.finEx); (walk_at "le"); (walk_at "out")))
local macro_rules | `(tactic| walk_at "for") => `(tactic| ((with_reducible apply EV.seq); (with_reducible apply EV.for_); (walk_at "ev")))
local macro_rules | `(tactic| walk_at "gt") => `(tactic| ((simp only [wipeT, List.set_cons_succ, List.set_cons_zero]); (walk_at "ev")))
local macro_rules | `(tactic| walk_at "cc") => `(tactic| (apply EV.ccY; (walk_at "gt"); (first | exact EV.yes | walk_at "ev"); (walk_at "bt"); (walk_at "ev"); (walk_at "len")))
local macro_rules | `(tactic| walk_at "cn") => `(tactic| (apply EV.ccN; (walk_at "gt"); (walk_at "ev"); (walk_at "bt")))
local macro_rules | `(tactic| walk_at "rt") => `(tactic| ((with_reducible apply EV.seqR); (walk_at "ev"); (exact rfl)))
local macro_rules | `(tactic| walk_at "gg") => `(tactic| (apply EV.gt1; (walk_at "gt"); (walk_at "ev"); (walk_at "len")))
local macro_rules | `(tactic| walk_at "gs") => `(tactic| (apply EV.gs1; (walk_at "gt"); (walk_at "ev"); (walk_at "ss"); (walk_at "len")))

/-! ### long tables -/
theorem lo2_vl : ∀ {l k : List Int}, lo2 (fun _ => 0) l k → Vl l k
  | [], [], _ => trivial
  | c :: l, v :: k, h => ⟨by have : (0 : Int) ≤ v := h.1; show (-1 : Int) ≤ v; omega, h.2.1, lo2_vl (l := l) (k := k) h.2.2⟩
  | [], _ :: _, h => h.elim
  | _ :: _, [], h => h.elim
theorem comp_g2 {b c d e f g h i : T} : ∀ (l : List Int) (p : Int) (M : List D) (x : T), (∀ a ∈ l, 1 ≤ a ∧ a ≤ 4) → M.length + l.length ≤ 1000 → ∃ (k : List Int) (p' : Int) (x' : T), lo2 (fun _ => 0) l k ∧ compD (gdName 9) dYes c__law_long_2 [9] (l.map .int) [.ls [.fz (.int p)], b, c, d, e, f, g, h, i, x] (M.map .fz) = some ((M ++ k.map D.int).map .fz, [.ls [.fz (.int p')], b, c, d, e, f, g, h, i, x'])
  | [], p, M, x, _, _ => ⟨[], p, x, trivial, by simp [compD]⟩
  | a :: l, p, M, x, hl, hb => by
    obtain ⟨h1, h4⟩ := hl a (by simp)
    simp only [List.length_cons] at hb
    have r0 := Int.emod_nonneg p (show a ≠ 0 by omega)
    have r1 := Int.emod_lt_of_pos p (show 0 < a by omega)
    have ht := take_at (p := p) (k := a) (by omega) (by omega)
    obtain ⟨k, p', x', hk, ec⟩ := comp_g2 (b := b) (c := c) (d := d) (e := e) (f := f) (g := g) (h := h) (i := i) l (p / a) (M ++ [.int (p % a)]) (.fz (.int a)) (fun y hy => hl y (by simp [hy])) (by simp; omega)
    refine ⟨p % a :: k, p', x', ⟨by show (0 : Int) ≤ _; omega, by omega, hk⟩, ?_⟩
    rw [List.map_cons]
    walk_at "cc"
    rw [ec]; simp
theorem comp_g1 {l : List Int} {c d e f g i : T} (hl : ∀ a ∈ l, 1 ≤ a ∧ a ≤ 4) (h3 : l.length ≤ 3) : ∀ (js : List D) (p : Int) (M : List D) (x : T), M.length + js.length ≤ 1000 → ∃ (ks : List (List Int)) (p' : Int) (x' : T), (∀ k ∈ ks, Vl l k) ∧ ks.length = js.length ∧ compD (gdName 7) dYes c__law_long_1 [7] js [.ls [.fz (.int p)], .fz (.tup (l.map .int)), c, d, e, f, g, x, i, .un] (M.map .fz) = some ((M ++ ks.map tupD).map .fz, [.ls [.fz (.int p')], .fz (.tup (l.map .int)), c, d, e, f, g, x', i, .un])
  | [], p, M, x, _ => ⟨[], p, x, by simp, rfl, by simp [compD]⟩
  | j :: js, p, M, x, hb => by
    simp only [List.length_cons] at hb
    obtain ⟨k, p1, x1, hk, e2⟩ := comp_g2 (b := .fz (.tup (l.map .int))) (c := c) (d := d) (e := e) (f := f) (g := g) (h := .fz j) (i := i) l p [] .un hl (by simp; omega)
    rw [List.nil_append, List.map_nil] at e2
    obtain ⟨ks, p', x', h4, h5, ec⟩ := comp_g1 (l := l) (c := c) (d := d) (e := e) (f := f) (g := g) (i := i) hl h3 js p1 (M ++ [.tup (k.map .int)]) (.fz j) (by simp; omega)
    refine ⟨k :: ks, p', x', fun y hy => ?_, by simp [h5], ?_⟩
    · rcases List.mem_cons.mp hy with rfl | hy
      · exact lo2_vl hk
      · exact h4 y hy
    · walk_at "cc"
      rw [ec]; simp [tupD]
theorem comp_g3 {l : List Int} {a b c e f g h y : T} {ks : List (List Int)} (hk : ∀ k ∈ ks, Vl l k) (k4 : ks.length = 4) : ∀ (js : List Int) (M : List D) (d x : T), (d = oL (ks.map tupD) ∨ d = .fz (.lst (ks.map tupD))) → M.length + js.length ≤ 1000 → ∃ (rs : List Rule) (d' x' : T), (∀ r ∈ rs, RuOk l r) ∧ rs.length = js.length ∧ compD (gdName 8) dYes c__law_long_3 [8] (js.map .int) [a, b, c, d, e, f, g, h, x, y] (M.map .fz) = some ((M ++ tbl rs).map .fz, [a, b, c, d', e, f, g, h, x', y])
  | [], M, d, x, _, _ => ⟨[], d, x, by simp, rfl, by simp [compD, tbl]⟩
  | j :: js, M, d, x, hd, hb => by
    simp only [List.length_cons] at hb
    have r0 := Int.emod_nonneg j (show (4 : Int) ≠ 0 by decide)
    have r1 := Int.emod_lt_of_pos j (show (0 : Int) < 4 by decide)
    obtain ⟨n, hn⟩ : ∃ n : Nat, j % 4 = (n : Int) := ⟨(j % 4).toNat, by omega⟩
    have nl : n < ks.length := by omega
    have ha : L2.atI (ks.map tupD) (j % 4) = some (.tup (ks[n].map .int)) := by
      rw [hn, atI_nat, List.getElem?_map, List.getElem?_eq_getElem nl]; rfl
    have vk := hk ks[n] (List.getElem_mem nl)
    obtain ⟨rs, d', x', h4, h5, ec⟩ := comp_g3 (l := l) (a := a) (b := b) (c := c) (e := e) (f := f) (g := g) (h := h) (y := y) hk k4 js (M ++ [.tup [.tup (ks[n].map .int), .lst []]]) (.fz (.lst (ks.map tupD))) (.fz (.int j)) (Or.inr rfl) (by simp; omega)
    refine ⟨(ks[n], []) :: rs, d', x', fun r hr => ?_, by simp [h5], ?_⟩
    · rcases List.mem_cons.mp hr with rfl | hr
      · exact ⟨vk, by simp, by simp [StI], by simp⟩
      · exact h4 r hr
    · rw [List.map_cons]
      rcases hd with rfl | rfl <;>
      · walk_at "cc"
        rw [ec]; simp [tbl, ruD, tupD]
theorem v__law_long {l : List Int} {tb : List Rule} (p : Int) (hl : ∀ a ∈ l, 1 ≤ a ∧ a ≤ 4) (h3 : l.length ≤ 3) (h : ∀ r ∈ tb, RuOk l r) (hn : tb.length ≤ 10) : ∃ (tb' : List Rule) (p' : Int) (t : T), TbOk l tb' ∧ (t = .fz (.lst (tbl tb')) ∨ t = oL (tbl tb')) ∧ fn__law_long [.ls [.fz (.int p)], .fz (.tup (l.map .int)), oL (tbl tb)] = some (.ret t, [.ls [.fz (.int p')], .fz (.tup (l.map .int)), .fz (.lst (tbl tb))]) := by
  have ht := take_at (p := p) (k := 4) (by decide) (by decide)
  by_cases c : p % 4 > 0
  · refine ⟨tb, p / 4, _, ⟨h, by omega⟩, Or.inl rfl, ?_⟩
    apply fe__law_long
    · unfold b__law_long
      walk_at "rt"
    walk_at "fin"
  · obtain ⟨ks, p1, x1, hk, k4, e1⟩ := comp_g1 (l := l) (c := oL (tbl tb)) (d := .un) (e := .un) (f := .un) (g := .un) (i := .un) hl h3 (upto 0 (4 : Int).toNat) (p / 4) [] .un (by rw [upto_len]; simp)
    rw [List.nil_append, List.map_nil] at e1
    rw [upto_len] at k4
    have ht2 := take_at (p := p1) (k := 27) (by decide) (by decide)
    have q0 := Int.emod_nonneg p1 (show (27 : Int) ≠ 0 by decide)
    have q1 := Int.emod_lt_of_pos p1 (show (0 : Int) < 27 by decide)
    have ht3 := take_at (p := p1 / 27) (k := 24 + p1 % 27 + 1) (by omega) (by omega)
    have s0 := Int.emod_nonneg (p1 / 27) (show 24 + p1 % 27 + 1 ≠ 0 by omega)
    have s1 := Int.emod_lt_of_pos (p1 / 27) (show 0 < 24 + p1 % 27 + 1 by omega)
    generalize hat : p1 / 27 % (24 + p1 % 27 + 1) = at' at ht3 s0 s1
    have nl : (nums (24 + p1 % 27)).length ≤ 50 := by simp [nums]; omega
    obtain ⟨rs, d', x2, hr, rl, e2⟩ := comp_g3 (l := l) (a := .ls [.fz (.int (p1 / 27 / (24 + p1 % 27 + 1)))]) (b := .fz (.tup (l.map .int))) (c := oL (tbl tb)) (e := .fz (.int (24 + p1 % 27))) (f := .fz (.int at')) (g := .un) (h := .un) (y := .un) hk (by simpa using k4) (nums (24 + p1 % 27)) [] (oL (ks.map tupD)) .un (Or.inl rfl) (by simp; omega)
    rw [List.nil_append, List.map_nil, ← nums_upto] at e2
    have c1 := cutD_take (tbl rs) s0
    have c2 := cutD_drop (tbl rs) s0
    have bl : (tbl rs).length ≤ 50 := by rw [tbl, List.length_map, rl]; exact nl
    have bt : (tbl tb).length ≤ 10 := by rw [tbl, List.length_map]; exact hn
    have l1 : (Q.cutD (tbl rs) none (some at')).length ≤ 50 := by rw [c1, List.length_take]; omega
    have l2 : (Q.cutD (tbl rs) (some at') none).length ≤ 50 := by rw [c2, List.length_drop]; omega
    have fin : tbl (rs.take at'.toNat ++ tb ++ rs.drop at'.toNat) = Q.cutD (tbl rs) none (some at') ++ tbl tb ++ Q.cutD (tbl rs) (some at') none := by rw [c1, c2]; simp [tbl, List.map_take, List.map_drop]
    refine ⟨rs.take at'.toNat ++ tb ++ rs.drop at'.toNat, p1 / 27 / (24 + p1 % 27 + 1), _, ⟨fun r hr' => ?_, ?_⟩, Or.inr rfl, ?_⟩
    · rcases List.mem_append.mp hr' with z | z
      · rcases List.mem_append.mp z with z | z
        · exact hr r (List.mem_of_mem_take z)
        · exact h r z
      · exact hr r (List.mem_of_mem_drop z)
    · have rn : rs.length ≤ 50 := by rw [rl]; exact nl
      simp only [List.length_append, List.length_take, List.length_drop]; omega
    rw [fin]
    apply fe__law_long
    · unfold b__law_long
      walk_at "st"
      walk_at "st"
      walk_at "st"
      walk_at "st"
      walk_at "st"
      walk_at "ev"
    walk_at "fin"
end K7

set_option Elab.async false
set_option linter.all false
set_option maxRecDepth 100000
set_option maxHeartbeats 8000000
namespace Q
open PySem PySem.Spec PyProof.Rows L2
/-- an own list of own lists -/
abbrev nestL (Ws : List (List D)) : T := .ls (Ws.map fun M => .ls (M.map .fz))
theorem dataL_nest : ∀ Ws : List (List D), dataL (Ws.map fun M => T.ls (M.map .fz)) = some (Ws.map .lst)
  | [] => rfl
  | M :: Ws => by
    have e : T.data (.ls (M.map .fz)) = some (.lst M) := fzs_data M
    show ((T.data (.ls (M.map .fz))).bind fun d => (dataL (Ws.map fun M => T.ls (M.map .fz))).map (d :: ·)) = _
    rw [e, dataL_nest Ws]; rfl
theorem frz_nest (Ws : List (List D)) : T.frz (.ls (Ws.map fun M => .ls (M.map .fz))) = .fz (.lst (Ws.map .lst)) := by
  have e : T.data (.ls (Ws.map fun M => .ls (M.map .fz))) = some (.lst (Ws.map .lst)) := by
    show (dataL _).map D.lst = _
    rw [dataL_nest]; rfl
  unfold T.frz; rw [e]
namespace EV
variable {r r1 r2 r3 : Env}
theorem app2 {i : Nat} {f : FD} {d : D} {Ws : List (List D)} {j : Nat} (hj : j < Ws.length) (h0 : r[i]? = some (nestL Ws)) (h1 : f r = some (.int (j : Nat), r1)) (h2 : r1[i]? = some (nestL Ws)) (hl : Ws[j].length < 1000000) (hs : r1.set i (nestL (Ws.set j (Ws[j] ++ [d]))) = r2) : dAppend2 i f d r = some (.sh .non, r2) := by
  have e1 : L2.ixN (Ws.map fun M => T.ls (M.map .fz)).length ((j : Nat) : Int) = some j := by
    unfold L2.ixN
    rw [List.length_map]
    have a : ¬ ((j : Int) < 0) := by omega
    have b : (j : Int) < (Ws.length : Int) := by omega
    simp [a, b]
    try omega
  have e2 : (Ws.map fun M => T.ls (M.map .fz))[j]? = some (.ls (Ws[j].map .fz)) := by rw [List.getElem?_map, List.getElem?_eq_getElem hj]; rfl
  have e3 : (Ws[j].map T.fz).length < 1000000 := by rw [List.length_map]; exact hl
  have e4 : (nestL (Ws.set j (Ws[j] ++ [d]))) = .ls ((Ws.map fun M => T.ls (M.map .fz)).set j (.ls (Ws[j].map .fz ++ [.fz d]))) := by
    unfold nestL; rw [List.map_set]; simp
  unfold dAppend2
  rw [h0]
  simp only [isLs, if_true, h1, Option.bind_some, h2]
  rw [e1]
  simp only [Option.bind_some]
  rw [e2]
  simp only [e3, if_true]
  rw [← hs, e4]
end EV
end Q

set_option Elab.async false
set_option linter.all false
set_option maxRecDepth 100000
set_option maxHeartbeats 8000000
namespace K7
open PySem PySem.Spec PyProof.Rows L2 Q
local macro_rules | `(tactic| walk_at "norm") => `(tactic| focus (first | (simp only [List.map_cons, List.map_nil]; done) | ((try simp only [List.map_cons, List.map_nil]); exact rfl)))
local macro_rules | `(tactic| walk_at "set") => `(tactic| focus (first | (dsimp only [List.set_cons_succ, List.set_cons_zero]; done) | ((try dsimp only [List.set_cons_succ, List.set_cons_zero]); exact rfl)))
local macro_rules | `(tactic| walk_at "frz") => `(tactic| focus (first | (simp only [frzE_cons, frzE_nil, frz_fz, frz_un, frz_ls, frz_ls1]; done) | ((try simp only [frzE_cons, frzE_nil, frz_fz, frz_un, frz_ls, frz_ls1]); exact rfl)))
local macro_rules | `(tactic| walk_at "pars") => `(tactic| focus (first | (simp only [pars, List.getElem?_cons_succ, List.getElem?_cons_zero, Option.bind_some, List.set_cons_succ, List.set_cons_zero]; done) | ((try simp only [pars, List.getElem?_cons_succ, List.getElem?_cons_zero, Option.bind_some, List.set_cons_succ, List.set_cons_zero]); exact rfl)))
local macro_rules | `(tactic| walk_at "back") => `(tactic| focus (first | (simp only [back, putBack, List.getElem?_cons_succ, List.getElem?_cons_zero, List.set_cons_succ, List.set_cons_zero]; done) | ((try simp only [back, putBack, List.getElem?_cons_succ, List.getElem?_cons_zero, List.set_cons_succ, List.set_cons_zero]); exact rfl)))
local macro_rules | `(tactic| walk_at "restore") => `(tactic| focus (first | with_reducible assumption | (simp only [restore, slotP, keepP, List.getElem?_cons_succ, List.getElem?_cons_zero, List.set_cons_succ, List.set_cons_zero]; done) | ((try simp only [restore, slotP, keepP, List.getElem?_cons_succ, List.getElem?_cons_zero, List.set_cons_succ, List.set_cons_zero]); exact rfl)))
local macro_rules | `(tactic| walk_at "wipe") => `(tactic| focus (first | (simp only [wipeT, List.set_cons_succ, List.set_cons_zero]; done) | ((try simp only [wipeT, List.set_cons_succ, List.set_cons_zero]); exact rfl)))
local macro_rules | `(tactic| walk_at "out") => `(tactic| focus (first | (simp only [outP, keepP, if_true, Bool.false_eq_true, if_false]; done) | ((try simp only [outP, keepP, if_true, Bool.false_eq_true, if_false]); exact rfl)))
local macro_rules | `(tactic| walk_at "side") => `(tactic| (first | with_reducible assumption | omega | decide))
local macro_rules | `(tactic| walk_at "mul") => `(tactic| (first | with_reducible assumption | exact mulW_small 62 62 (by omega) (by omega) (by decide) (by decide) (by decide)))
local macro_rules | `(tactic| walk_at "len") => `(tactic| focus ((try simp only [List.length_cons, List.length_nil, List.length_append, List.length_replicate, List.length_map]) <;> (first | omega | with_reducible assumption)))
local macro_rules | `(tactic| walk_at "at") => `(tactic| (first | with_reducible assumption | exact rfl))
local macro_rules | `(tactic| walk_at "eq") => `(tactic| (first | with_reducible assumption | with_reducible exact EV.eqI _ _ | with_reducible exact EV.neI _ _))
local macro_rules | `(tactic| walk_at "rep") => `(tactic| (with_reducible assumption))
local macro_rules | `(tactic| walk_at "in") => `(tactic| (first | with_reducible assumption | exact rfl))
local macro_rules | `(tactic| walk_at "ss") => `(tactic| (with_reducible assumption))
local macro_rules | `(tactic| walk_at "tru") => `(tactic| (first | exact rfl | with_reducible assumption))
local macro_rules | `(tactic| walk_at "call") => `(tactic| (with_reducible assumption))
local macro_rules | `(tactic| walk_at "aug") => `(tactic| (exact rfl))
local macro_rules | `(tactic| walk_at "bt") => `(tactic| (first | exact rfl | with_reducible assumption | (simp only [decide_eq_true_eq, decide_eq_false_iff_not, Bool.not_eq_true', Bool.not_eq_false', Bool.and_eq_true, Bool.or_eq_true, Bool.and_eq_false_iff, Bool.or_eq_false_iff, beq_iff_eq, beq_eq_false_iff_ne, ne_eq]; omega)))
local macro_rules | `(tactic| walk_at "ev") => `(tactic| first
  | ((with_reducible apply EV.shV); (exact rfl))
  | ((with_reducible apply EV.shO); (exact rfl); (walk_at "set"))
  | ((with_reducible apply EV.shD); (exact rfl); (with_reducible assumption); (walk_at "set"))
  | ((with_reducible exact EV.cE _))
  | ((with_reducible apply EV.shS); (walk_at "ev"))
  | ((with_reducible apply EV.shN); (walk_at "ev"))
  | ((with_reducible apply EV.scal); (walk_at "frz"); (walk_at "ev"); (exact rfl))
  | ((with_reducible apply EV.lift); (walk_at "ev"))
  | ((with_reducible exact EV.cW _))
  | ((with_reducible apply EV.varF); (exact rfl))
  | ((with_reducible apply EV.varL); (exact rfl))
  | ((with_reducible exact EV.fn))
  | ((with_reducible apply EV.fc); (walk_at "ev"); (walk_at "ev"))
  | ((with_reducible exact EV.an))
  | ((with_reducible apply EV.ac); (walk_at "ev"); (walk_at "ev"))
  | ((with_reducible exact EV.mn))
  | ((with_reducible apply EV.mc); (walk_at "ev"); (walk_at "ev"))
  | ((with_reducible apply EV.mV); (exact rfl))
  | ((with_reducible apply EV.mO); (exact rfl); (walk_at "set"))
  | ((with_reducible apply EV.mvMF); (exact rfl); (walk_at "set"))
  | ((with_reducible apply EV.mvML); (exact rfl); (walk_at "set"))
  | ((with_reducible apply EV.mS); (walk_at "ev"))
  | ((with_reducible apply EV.mN); (walk_at "ev"))
  | ((with_reducible apply EV.add); (walk_at "ev"); (walk_at "ev"))
  | ((with_reducible apply EV.sub); (walk_at "ev"); (walk_at "ev"))
  | ((with_reducible apply EV.mul); (walk_at "ev"); (walk_at "ev"); (walk_at "mul"))
  | ((with_reducible apply EV.mod); (walk_at "ev"); (walk_at "ev"); (walk_at "side"))
  | ((with_reducible apply EV.div); (walk_at "ev"); (walk_at "ev"); (walk_at "side"))
  | ((with_reducible apply EV.pow); (walk_at "ev"); (walk_at "ev"); (walk_at "side"))
  | ((with_reducible apply EV.shl); (walk_at "ev"); (walk_at "ev"); (walk_at "side"))
  | ((with_reducible apply EV.shr); (walk_at "ev"); (walk_at "ev"); (walk_at "side"))
  | ((with_reducible apply EV.band); (walk_at "ev"); (walk_at "ev"))
  | ((with_reducible apply EV.bor); (walk_at "ev"); (walk_at "ev"))
  | ((with_reducible apply EV.bxor); (walk_at "ev"); (walk_at "ev"))
  | ((with_reducible apply EV.lt); (walk_at "ev"); (walk_at "ev"))
  | ((with_reducible apply EV.le); (walk_at "ev"); (walk_at "ev"))
  | ((with_reducible apply EV.gt); (walk_at "ev"); (walk_at "ev"))
  | ((with_reducible apply EV.ge); (walk_at "ev"); (walk_at "ev"))
  | ((with_reducible apply EV.neg); (walk_at "ev"))
  | ((with_reducible apply EV.eqG); (walk_at "ev"); (walk_at "ev"); (walk_at "eq"))
  | ((with_reducible apply EV.neG); (walk_at "ev"); (walk_at "ev"); (walk_at "eq"))
  | ((with_reducible apply EV.isN); (walk_at "ev"); (walk_at "ev"))
  | ((with_reducible apply EV.notN); (walk_at "ev"); (walk_at "ev"))
  | ((with_reducible apply EV.ixL); (walk_at "ev"); (walk_at "ev"); (walk_at "at"))
  | ((with_reducible apply EV.ixT); (walk_at "ev"); (walk_at "ev"); (walk_at "at"))
  | ((with_reducible apply EV.catT); (walk_at "ev"); (walk_at "ev"); (walk_at "len"))
  | ((with_reducible apply EV.catL); (walk_at "ev"); (walk_at "ev"); (walk_at "len"))
  | ((with_reducible apply EV.catS); (walk_at "ev"); (walk_at "ev"); (walk_at "len"))
  | ((with_reducible apply EV.mulL); (walk_at "ev"); (walk_at "ev"); (walk_at "side"); (walk_at "side"))
  | ((with_reducible apply EV.lenL); (walk_at "ev"))
  | ((with_reducible apply EV.lenT); (walk_at "ev"))
  | ((with_reducible apply EV.lenR); (walk_at "ev"))
  | ((with_reducible apply EV.lenS); (walk_at "ev"); (walk_at "len"))
  | ((with_reducible apply EV.tupL); (walk_at "ev"))
  | ((with_reducible apply EV.tupT); (walk_at "ev"))
  | ((with_reducible apply EV.lisL); (walk_at "ev"))
  | ((with_reducible apply EV.lisT); (walk_at "ev"))
  | ((with_reducible apply EV.rep); (walk_at "ev"); (walk_at "rep"))
  | ((with_reducible apply EV.max2); (walk_at "ev"); (walk_at "ev"))
  | ((with_reducible apply EV.min2); (walk_at "ev"); (walk_at "ev"))
  | ((with_reducible apply EV.intI); (walk_at "ev"))
  | ((with_reducible apply EV.intB); (walk_at "ev"))
  | ((with_reducible apply EV.strI); (walk_at "ev"); (walk_at "side"))
  | ((with_reducible apply EV.inG); (walk_at "ev"); (walk_at "ev"); (walk_at "in"))
  | ((with_reducible apply EV.inR); (walk_at "ev"); (walk_at "ev"))
  | ((with_reducible apply EV.isi); (walk_at "ev"); (exact rfl))
  | ((with_reducible apply EV.revT); (walk_at "ev"))
  | ((with_reducible apply EV.revL); (walk_at "ev"))
  | ((with_reducible apply EV.tup); (walk_at "ev"); (walk_at "len"))
  | ((with_reducible apply EV.lst); (walk_at "ev"); (walk_at "len"))
  | ((with_reducible apply EV.ltT); (walk_at "ev"); (walk_at "ev"); (walk_at "side"); (walk_at "side"))
  | ((with_reducible exact EV.pN))
  | ((with_reducible apply EV.pA); (walk_at "ev"))
  | ((with_reducible apply EV.slL); (walk_at "ev"); (walk_at "ev"); (walk_at "ev"))
  | ((with_reducible apply EV.slT); (walk_at "ev"); (walk_at "ev"); (walk_at "ev"))
  | ((with_reducible apply EV.ss); (walk_at "ev"); (walk_at "ss"))
  | ((with_reducible apply EV.srt); (walk_at "ev"); (walk_at "ss"))
  | ((with_reducible apply EV.bl); (walk_at "ev"))
  | ((with_reducible apply EV.tru); (walk_at "ev"); (walk_at "tru"))
  | ((with_reducible apply EV.not); (walk_at "ev"))
  | ((with_reducible apply EV.and); (walk_at "ev"); (walk_at "ev"))
  | ((with_reducible apply EV.or); (walk_at "ev"); (walk_at "ev"))
  | ((with_reducible apply EV.andF); (walk_at "ev"); (walk_at "bt"))
  | ((with_reducible apply EV.andT); (walk_at "ev"); (walk_at "bt"); (walk_at "ev"))
  | ((with_reducible apply EV.orT); (walk_at "ev"); (walk_at "bt"))
  | ((with_reducible apply EV.orF); (walk_at "ev"); (walk_at "bt"); (walk_at "ev"))
  | ((with_reducible apply EV.boolW); (walk_at "ev"))
  | ((with_reducible apply EV.scalT); (walk_at "frz"); (walk_at "ev"))
  | ((with_reducible apply EV.ifET); (walk_at "ev"); (walk_at "bt"); (walk_at "ev"))
  | ((with_reducible apply EV.ifEF); (walk_at "ev"); (walk_at "bt"); (walk_at "ev"))
  | ((with_reducible apply EV.chn); (walk_at "ev"); (walk_at "ev"); (exact rfl); (walk_at "ev"); (exact rfl))
  | ((with_reducible apply EV.xl); (walk_at "ev"))
  | ((with_reducible apply EV.xb); (walk_at "ev"))
  | ((with_reducible apply EV.xblS); (walk_at "ev"))
  | ((with_reducible apply EV.xnot); (walk_at "ev"))
  | ((with_reducible apply EV.callS); (walk_at "ev"); (walk_at "pars"); (walk_at "norm"); (walk_at "call"); (exact rfl); (walk_at "back"))
  | ((with_reducible apply EV.callN); (walk_at "ev"); (walk_at "pars"); (walk_at "norm"); (walk_at "call"); (exact rfl); (walk_at "back"))
  | ((with_reducible apply EV.callXS); (walk_at "ev"); (walk_at "pars"); (walk_at "norm"); (walk_at "call"); (exact rfl); (walk_at "back"))
  | ((with_reducible apply EV.callXN); (walk_at "ev"); (walk_at "pars"); (walk_at "norm"); (walk_at "call"); (exact rfl); (walk_at "back"))
  | ((with_reducible apply EV.callXE); (walk_at "ev"); (walk_at "pars"); (walk_at "norm"); (walk_at "call"); (exact rfl); (walk_at "back"))
  | ((with_reducible apply EV.ixO); (exact rfl); (walk_at "ev"); (exact rfl); (walk_at "at"))
  | ((with_reducible apply EV.app); (exact rfl); (walk_at "ev"); (exact rfl); (walk_at "len"); (walk_at "set"))
  | ((with_reducible apply EV.appT); (exact rfl); (walk_at "ev"); (exact rfl); (walk_at "len"); (walk_at "set"))
  | ((with_reducible apply EV.ext); (exact rfl); (walk_at "ev"); (exact rfl); (walk_at "len"); (walk_at "set"))
  | ((with_reducible apply EV.pop); (exact rfl); (walk_at "set"))
  | ((with_reducible apply EV.comp); (walk_at "ev"); (walk_at "call"); (walk_at "restore"))
  | ((with_reducible apply EV.comp2); (walk_at "ev"); (walk_at "call"); (walk_at "restore"))
  | ((with_reducible apply EV.tupG); (walk_at "ev"); (walk_at "call"); (walk_at "restore"))
  | ((with_reducible apply EV.ssc); (walk_at "ev"); (walk_at "call"); (walk_at "restore"); (walk_at "ss"); (walk_at "ss"))
  | ((with_reducible apply EV.allG); (walk_at "ev"); (walk_at "call"); (walk_at "restore"))
  | ((with_reducible exact EV.yes))
  | ((with_reducible apply EV.itL); (walk_at "ev"))
  | ((with_reducible apply EV.itT); (walk_at "ev"))
  | ((with_reducible apply EV.rg1); (walk_at "ev"); (walk_at "side"); (walk_at "side"))
  | ((with_reducible apply EV.rg2); (walk_at "ev"); (walk_at "side"))
  | ((with_reducible apply EV.rg3); (walk_at "ev"); (walk_at "side"))
  | ((with_reducible apply EV.zpL); (walk_at "ev"))
  | ((with_reducible apply EV.zpT); (walk_at "ev"))
  | ((with_reducible apply EV.enm); (walk_at "ev"))
  | ((with_reducible apply EV.enmL); (walk_at "ev"))
  | ((with_reducible apply EV.enmT); (walk_at "ev"))
  | ((with_reducible apply EV.rvs); (walk_at "ev"))
  | ((with_reducible apply EV.gName); (walk_at "set"))
  | ((with_reducible exact EV.gsN))
  | ((with_reducible apply EV.gsC); (walk_at "ev"); (walk_at "ev"))
  | ((with_reducible apply EV.gTup); (exact rfl); (try simp only [List.map_cons, List.map_nil]); (walk_at "ev"))
  | ((with_reducible apply EV.gLst); (exact rfl); (try simp only [List.map_cons, List.map_nil]); (walk_at "ev"))
  | ((with_reducible apply EV.setO); (exact rfl); (walk_at "ev"); (exact rfl); (walk_at "at"); (walk_at "set"))
  | ((with_reducible exact EV.nxt))
  | ((with_reducible apply EV.seq); (walk_at "ev"); (walk_at "ev"))
  | ((with_reducible apply EV.seqR); (walk_at "ev"); (exact rfl))
  | ((with_reducible apply EV.seqX); (walk_at "ev"))
  | ((with_reducible apply EV.asgV); (walk_at "ev"); (walk_at "ev"))
  | ((with_reducible apply EV.asgS); (walk_at "ev"); (walk_at "ev"))
  | ((with_reducible apply EV.asgN); (walk_at "ev"); (walk_at "ev"))
  | ((with_reducible apply EV.asgX); (walk_at "ev"))
  | ((with_reducible apply EV.drop); (walk_at "ev"))
  | ((with_reducible apply EV.dropX); (walk_at "ev"))
  | ((with_reducible apply EV.ret); (walk_at "ev"))
  | ((with_reducible apply EV.ifT); (walk_at "ev"); (walk_at "bt"); (walk_at "ev"))
  | ((with_reducible apply EV.ifF); (walk_at "ev"); (walk_at "bt"); (walk_at "ev"))
  | ((with_reducible apply EV.aug); (exact rfl); (walk_at "ev"); (exact rfl); (walk_at "aug"); (walk_at "set"))
  | ((with_reducible apply EV.augO); (exact rfl); (walk_at "ev"); (exact rfl); (walk_at "side"); (walk_at "at"); (walk_at "at"); (walk_at "ev"); (walk_at "aug"); (exact rfl); (walk_at "set"))
  | ((with_reducible apply EV.for_); (walk_at "ev"); (walk_at "call")))
local macro_rules | `(tactic| walk_at "st") => `(tactic| ((with_reducible apply EV.seq); (walk_at "ev")))
local macro_rules | `(tactic| walk_at "le") => `(tactic| (exact Nat.le_of_ble_eq_true rfl))
local macro_rules | `(tactic| walk_at "fin") => `(tactic| first
  | ((apply EV.finS); (walk_at "le"); (walk_at "out"))
  | ((apply EV.finN); (walk_at "le"); (walk_at "out"))
  | ((apply EV.finV); (decide); (exact rfl); (walk_at "le"); (walk_at "out"))
  | ((apply EV.finW); (decide); (exact rfl); (walk_at "le"); (walk_at "out"))
  | ((apply EV.finP); (decide); (walk_at "ev"); (walk_at "le"); (walk_at "out"))
  | ((apply EV.finNx); (walk_at "le"); (walk_at "out"))
  | ((apply EV.finEx); (walk_at "le"); (walk_at "out")))
local macro_rules | `(tactic| walk_at "for") => `(tactic| ((with_reducible apply EV.seq); (with_reducible apply EV.for_); (walk_at "ev")))
local macro_rules | `(tactic| walk_at "gt") => `(tactic| ((simp only [wipeT, List.set_cons_succ, List.set_cons_zero]); (walk_at "ev")))
local macro_rules | `(tactic| walk_at "cc") => `(tactic| (apply EV.ccY; (walk_at "gt"); (first | exact EV.yes | walk_at "ev"); (walk_at "bt"); (walk_at "ev"); (walk_at "len")))
local macro_rules | `(tactic| walk_at "cn") => `(tactic| (apply EV.ccN; (walk_at "gt"); (walk_at "ev"); (walk_at "bt")))
local macro_rules | `(tactic| walk_at "rt") => `(tactic| ((with_reducible apply EV.seqR); (walk_at "ev"); (exact rfl)))
local macro_rules | `(tactic| walk_at "gg") => `(tactic| (apply EV.gt1; (walk_at "gt"); (walk_at "ev"); (walk_at "len")))
local macro_rules | `(tactic| walk_at "gs") => `(tactic| (apply EV.gs1; (walk_at "gt"); (walk_at "ev"); (walk_at "ss"); (walk_at "len")))

local macro_rules | `(tactic| walk_at "frz") => `(tactic| focus ((try simp only [frzE_cons, frzE_nil, frz_fz, frz_un, frz_ls, frz_ls1, frz_nest]); exact rfl))
structure Fcts (K : PySem.W.Frag) (Z : Zs) : Prop where
  ok : True
/-! ### what can be shown -/
structure Gd (n w : Nat) (d : D) : Prop where
  fin : fin d = true
  dep : dep d ≤ n
  wt : wt d ≤ w
theorem Gd.str {s : Str} (h : s ∈ stockS) : Gd 0 100 (.str s) := ⟨by simpa only [K7.fin, leaf, List.contains_iff_mem] using h, by simp [K7.dep], by simp [K7.wt]⟩
theorem Gd.int {i : Int} (h : -5 ≤ i ∧ i ≤ 30) : Gd 0 100 (.int i) := ⟨by simp only [K7.fin, leaf, decide_eq_true_eq]; omega, by simp [K7.dep], by simp [K7.wt]⟩
theorem Gd.mono {n m w v : Nat} {d : D} (h : Gd n w d) (h1 : n ≤ m) (h2 : w ≤ v) : Gd m v d := ⟨h.fin, Nat.le_trans h.dep h1, Nat.le_trans h.wt h2⟩
theorem Gd.t1 {n w : Nat} {a : D} (h : Gd n w a) : Gd (n + 1) (w + 12) (.tup [a]) := by
  obtain ⟨h1, h2, h3⟩ := h
  refine ⟨by simp [K7.fin, finL, h1], ?_, ?_⟩
  · simp only [K7.dep, depL]; omega
  · simp only [K7.wt, wtL]; omega
theorem Gd.t2 {n m w v : Nat} {a b : D} (h : Gd n w a) (k : Gd m v b) : Gd (max n m + 1) (w + v + 14) (.tup [a, b]) := by
  obtain ⟨h1, h2, h3⟩ := h
  obtain ⟨k1, k2, k3⟩ := k
  refine ⟨by simp [K7.fin, finL, h1, k1], ?_, ?_⟩
  · simp only [K7.dep, depL]; omega
  · simp only [K7.wt, wtL]; omega
theorem Gd.t3 {n m o w v u : Nat} {a b c : D} (h : Gd n w a) (k : Gd m v b) (j : Gd o u c) : Gd (max n (max m o) + 1) (w + v + u + 16) (.tup [a, b, c]) := by
  obtain ⟨h1, h2, h3⟩ := h
  obtain ⟨k1, k2, k3⟩ := k
  obtain ⟨j1, j2, j3⟩ := j
  refine ⟨by simp [K7.fin, finL, h1, k1, j1], ?_, ?_⟩
  · simp only [K7.dep, depL]; omega
  · simp only [K7.wt, wtL]; omega
theorem gd_list {n w : Nat} : ∀ {l : List D}, (∀ d ∈ l, Gd n w d) → finL l = true ∧ depL l ≤ n ∧ wtL l ≤ (w + 2) * l.length
  | [], _ => ⟨rfl, by simp [depL], by simp [wtL]⟩
  | d :: l, h => by
    obtain ⟨a1, a2, a3⟩ := h d (by simp)
    obtain ⟨b1, b2, b3⟩ := gd_list (l := l) fun e he => h e (by simp [he])
    refine ⟨by simp only [finL, a1, b1]; rfl, ?_, ?_⟩
    · simp only [depL]; omega
    · simp only [wtL, List.length_cons, Nat.mul_succ]; omega
theorem Gd.lst {n w k : Nat} {l : List D} (h : ∀ d ∈ l, Gd n w d) (hk : l.length ≤ k) : Gd (n + 1) ((w + 2) * k + 10) (.lst l) := by
  obtain ⟨h1, h2, h3⟩ := gd_list h
  have := Nat.mul_le_mul_left (w + 2) hk
  exact ⟨by simpa only [K7.fin] using h1, by simp only [K7.dep]; omega, by simp only [K7.wt]; omega⟩
theorem Gd.tup {n w k : Nat} {l : List D} (h : ∀ d ∈ l, Gd n w d) (hk : l.length ≤ k) : Gd (n + 1) ((w + 2) * k + 10) (.tup l) := by
  obtain ⟨h1, h2, h3⟩ := gd_list h
  have := Nat.mul_le_mul_left (w + 2) hk
  exact ⟨by simpa only [K7.fin] using h1, by simp only [K7.dep]; omega, by simp only [K7.wt]; omega⟩
theorem gd_tbl {l : List Int} (hl : ∀ c ∈ l, 1 ≤ c ∧ c ≤ 4) (h3 : l.length ≤ 3) {tb : List Rule} (h : TbOk l tb) : Gd 10 200000 (.lst (tbl tb)) := by
  have tv : ∀ k : List Int, Vl l k → Gd 1 320 (tupD k) := fun k hk => (Gd.tup (n := 0) (w := 100) (k := 3) (fun d hd => by
    obtain ⟨v, hv, rfl⟩ := List.mem_map.mp hd
    exact Gd.int (by have := vl_bd hk hl v hv; omega)) (by rw [List.length_map, lo2_len hk]; exact h3)).mono (by decide) (by decide)
  refine (Gd.lst (n := 3) (w := 2000) (k := 60) (fun d hd => ?_) (by rw [tbl, List.length_map]; exact h.n)).mono (by decide) (by decide)
  obtain ⟨r, hr, rfl⟩ := List.mem_map.mp hd
  have o := h.ok r hr
  exact (Gd.t2 (tv r.1 o.m) (Gd.lst (n := 1) (w := 320) (k := 3) (fun d hd => by
    obtain ⟨c, hc, rfl⟩ := List.mem_map.mp hd
    exact tv c (o.cs c hc)) (by rw [List.length_map]; exact o.n))).mono (by decide) (by decide)
/-- a shape and a table of it -/
structure Pr (d : D) : Prop where
  ex : ∃ (l : List Int) (tb : List Rule), d = .tup [.tup (l.map .int), .lst (tbl tb)] ∧ GSh (l.map .int) ∧ (∀ c ∈ l, 1 ≤ c ∧ c ≤ 4) ∧ 1 ≤ l.length ∧ l.length ≤ 3 ∧ TbOk l tb

theorem zip_mem : ∀ (c x : List Int), ∀ v ∈ zipC c x, v ∈ c ∨ v ∈ x
  | [], _, v, h => by simp [zipC] at h
  | _ :: _, [], v, h => by simp [zipC] at h
  | a :: c, b :: x, v, h => by
    have e : zipC (a :: c) (b :: x) = (if a = -1 then b else a) :: zipC c x := rfl
    rw [e] at h
    rcases List.mem_cons.mp h with h | h
    · split at h <;> simp [h]
    · rcases zip_mem c x v h with q | q
      · exact Or.inl (List.mem_cons_of_mem _ q)
      · exact Or.inr (List.mem_cons_of_mem _ q)
theorem LI_val : ∀ (l : List Int) (F : List (List Int)), (∀ c ∈ l, 1 ≤ c ∧ c ≤ 4) → (∀ k ∈ F, ∀ v ∈ k, -5 ≤ v ∧ v ≤ 4) → ∀ k ∈ LI l F, ∀ v ∈ k, -5 ≤ v ∧ v ≤ 4
  | [], F, _, h => h
  | c :: l, F, hl, h => by
    refine LI_val l (extL c F) (fun d hd => hl d (by simp [hd])) fun k hk v hv => ?_
    unfold extL at hk
    obtain ⟨y, hy, hk⟩ := List.mem_flatMap.mp hk
    obtain ⟨i, hi, rfl⟩ := List.mem_map.mp hk
    have := nums_mem hi
    have := (hl c (by simp)).2
    rcases List.mem_append.mp hv with q | q
    · exact h y hy v q
    · simp at q; omega
theorem bec_val {l k : List Int} (hl : ∀ c ∈ l, 1 ≤ c ∧ c ≤ 4) (hk : k.length = l.length) (hv : ∀ v ∈ k, -5 ≤ v ∧ v ≤ 4) : ∀ tb : List Rule, (∀ r ∈ tb, RuOk l r) → ∀ y ∈ becI k tb, ∀ v ∈ y, -5 ≤ v ∧ v ≤ 4
  | [], _ => by simp [becI]
  | r :: tb, h => by
    have o := h r (by simp)
    unfold becI
    split
    · intro y hy v hvy
      rw [sort_mem] at hy
      obtain ⟨c, hc, rfl⟩ := List.mem_map.mp hy
      have cl := lo2_len (o.cs c hc)
      rw [chg_zip c 0 k (by omega)] at hvy
      rw [List.take_zero, List.nil_append, List.drop_zero] at hvy
      rcases zip_mem c k v hvy with q | q
      · exact vl_bd (o.cs c hc) hl v q
      · exact hv v q
    · exact bec_val hl hk hv tb fun r hr => h r (by simp [hr])
def bsL (l : List Int) (tb : List Rule) : List (List D) := (LI l [[]]).map fun k => (becI k tb).map tupD
theorem did_bs (l : List Int) (tb : List Rule) : T.ls (didL l tb) = nestL (bsL l tb) := by
  unfold didL bsL nestL; rw [List.map_map]; rfl
theorem bs_ok {l : List Int} {tb : List Rule} (hl : ∀ c ∈ l, 1 ≤ c ∧ c ≤ 4) (h0 : 0 < l.length) (h3 : l.length ≤ 3) (h : ∀ r ∈ tb, RuOk l r) : (bsL l tb).length ≤ 64 ∧ ∀ M ∈ bsL l tb, M.length ≤ 3 ∧ Gd 3 1300 (.lst M) := by
  obtain ⟨hm, hn⟩ := LI_ok l 0 [[]] hl (by simp)
  have hp : 4 ^ l.length ≤ 4 ^ 3 := Nat.pow_le_pow_right (by decide) h3
  have hv := LI_val l [[]] hl (by simp)
  refine ⟨by unfold bsL; rw [List.length_map]; simp at hn; omega, fun M hM => ?_⟩
  unfold bsL at hM
  obtain ⟨k, hk, rfl⟩ := List.mem_map.mp hM
  have kl : k.length = l.length := by rw [hm k hk]; omega
  obtain ⟨b1, b2⟩ := bec_len kl h0 h3 tb h
  refine ⟨by rw [List.length_map]; exact b1, (Gd.lst (n := 1) (w := 320) (k := 3) (fun d hd => ?_) (by rw [List.length_map]; exact b1)).mono (by decide) (by decide)⟩
  obtain ⟨y, hy, rfl⟩ := List.mem_map.mp hd
  refine (Gd.tup (n := 0) (w := 100) (k := 3) (fun d hd => ?_) (by rw [List.length_map, b2 y hy]; exact h3)).mono (by decide) (by decide)
  obtain ⟨v, hv', rfl⟩ := List.mem_map.mp hd
  exact Gd.int (by have := bec_val hl kl (hv k hk) tb h y hy v hv'; omega)
theorem comp_due {Z : Zs} {a0 a1 a2 a3 a4 a6 a7 a8 a9 : T} {l : List Int} {tb : List Rule} (h0 : 0 < l.length) (h3 : l.length ≤ 3) (h : ∀ r ∈ tb, RuOk l r) : ∀ (F : List (List Int)) (M : List T) (x : T), (∀ k ∈ F, k.length = l.length) → M.length + F.length ≤ 1000 → ∃ x', compD (gdName 10) dYes (c_law_3 Z) [10] (F.map tupD) [a0, a1, a2, a3, a4, .fz (.lst (tbl tb)), a6, a7, a8, a9, x] M = some (M ++ F.map (fun k => oL ((becI k tb).map tupD)), [a0, a1, a2, a3, a4, .fz (.lst (tbl tb)), a6, a7, a8, a9, x'])
  | [], M, x, _, _ => ⟨x, by simp [compD]⟩
  | k :: F, M, x, hF, hb => by
    simp only [List.length_cons] at hb
    have b := v__law_becomes (x := k) (hF k (by simp)) h0 h3 h
    obtain ⟨x', e⟩ := comp_due (Z := Z) (a0 := a0) (a1 := a1) (a2 := a2) (a3 := a3) (a4 := a4) (a6 := a6) (a7 := a7) (a8 := a8) (a9 := a9) h0 h3 h F (M ++ [oL ((becI k tb).map tupD)]) (.fz (.tup (k.map .int))) (fun k hk => hF k (by simp [hk])) (by simp; omega)
    refine ⟨x', ?_⟩
    show compD _ _ _ _ (.tup (k.map .int) :: F.map tupD) _ _ = _
    apply EV.ccT
    · walk_at "gt"
    · exact EV.yes
    · rfl
    · walk_at "ev"
    · omega
    · rw [e]; simp
theorem loop_l4 {Z : Zs} {a0 a1 a2 a3 a4 a5 a6 : T} {D0 : List (List D)} (hd : D0.length ≤ 64) (hg : ∀ M ∈ D0, M.length ≤ 3 ∧ Gd 3 1300 (.lst M)) : ∀ (n i : Nat) (Ws : List (List D)) (x : T), i + n = D0.length → Ws.length = D0.length → Ws.drop i = D0.drop i → ∃ (Ws' : List (List D)) (x' : T), Ws'.length = D0.length ∧ loopD (gdName 9) (L_law_4 Z) ((List.range' i n).map fun (j : Nat) => D.int (j : Int)) [a0, a1, a2, a3, a4, a5, a6, nestL D0, nestL Ws, x, .un] = some (.nx [a0, a1, a2, a3, a4, a5, a6, nestL D0, nestL Ws', x', .un])
  | 0, i, Ws, x, _, hw, _ => ⟨Ws, x, hw, rfl⟩
  | n + 1, i, Ws, x, hi, hw, hs => by
    have il : i < Ws.length := by omega
    have ew : Ws[i] = D0[i]'(by omega) := by
      have e1 : (Ws.drop i)[0]? = (D0.drop i)[0]? := by rw [hs]
      rw [List.getElem?_drop, List.getElem?_drop, Nat.add_zero, List.getElem?_eq_getElem il, List.getElem?_eq_getElem (by omega)] at e1
      exact Option.some.inj e1
    have wl : Ws[i].length < 1000000 := by
      rw [ew]; have := (hg _ (List.getElem_mem (show i < D0.length by omega))).1; omega
    have hs2 : (Ws.set i (Ws[i] ++ [.int 0])).drop (i + 1) = D0.drop (i + 1) := by
      rw [List.drop_set_of_lt (by omega)]
      have := congrArg (List.drop 1) hs
      rw [List.drop_drop, List.drop_drop] at this
      simpa [Nat.add_comm] using this
    have gd : Gd 4 100000 (.lst ((D0.drop (i + 1)).map .lst)) := (Gd.lst (n := 3) (w := 1300) (k := 64) (fun d hd' => by
      obtain ⟨M, hM, rfl⟩ := List.mem_map.mp hd'
      exact (hg M (List.mem_of_mem_drop hM)).2) (by rw [List.length_map, List.length_drop]; omega)).mono (by decide) (by decide)
    obtain ⟨s, rs, ks⟩ := rep_ok gd.fin (by have := gd.dep; omega) (by have := gd.wt; omega)
    have ne := ne_str ks
    have i1 : (0 : Int) ≤ (i : Int) + 1 := by omega
    have i2 : ((i : Int) + 1).toNat = i + 1 := by omega
    have c1 := cutD_drop (D0.map .lst) i1
    have c2 := cutD_drop ((Ws.set i (Ws[i] ++ [.int 0])).map .lst) i1
    rw [i2, ← List.map_drop] at c1 c2
    rw [hs2] at c2
    have r1 := rs
    have r2 := rs
    rw [← c1] at r1
    rw [← c2] at r2
    obtain ⟨Ws', x', h5, e⟩ := loop_l4 (Z := Z) (a0 := a0) (a1 := a1) (a2 := a2) (a3 := a3) (a4 := a4) (a5 := a5) (a6 := a6) hd hg n (i + 1) (Ws.set i (Ws[i] ++ [.int 0])) (.fz (.int i)) (by omega) (by rw [List.length_set]; exact hw) hs2
    refine ⟨Ws', x', h5, ?_⟩
    rw [List.range'_succ, List.map_cons]
    have hap : dAppend2 8 (dSh (dVar 9)) (.int 0) [a0, a1, a2, a3, a4, a5, a6, nestL D0, nestL Ws, .fz (.int (i : Int)), .un] = some (.sh .non, [a0, a1, a2, a3, a4, a5, a6, nestL D0, nestL (Ws.set i (Ws[i] ++ [.int 0])), .fz (.int (i : Int)), .un]) := by
      apply EV.app2 il
      · rfl
      · walk_at "ev"
      · rfl
      · exact wl
      · rfl
    generalize Ws.set i (Ws[i] ++ [.int 0]) = W2 at hap e r2
    apply EV.lpN
    · walk_at "ev"
    · apply EV.seq
      · apply EV.drop
        apply EV.xl
        exact hap
      · walk_at "ev"
    · exact e
end K7

set_option Elab.async false
set_option linter.all false
set_option maxRecDepth 100000
set_option maxHeartbeats 8000000
namespace K7
open PySem PySem.Spec PyProof.Rows L2 Q
local macro_rules | `(tactic| walk_at "norm") => `(tactic| focus (first | (simp only [List.map_cons, List.map_nil]; done) | ((try simp only [List.map_cons, List.map_nil]); exact rfl)))
local macro_rules | `(tactic| walk_at "set") => `(tactic| focus (first | (dsimp only [List.set_cons_succ, List.set_cons_zero]; done) | ((try dsimp only [List.set_cons_succ, List.set_cons_zero]); exact rfl)))
local macro_rules | `(tactic| walk_at "frz") => `(tactic| focus (first | (simp only [frzE_cons, frzE_nil, frz_fz, frz_un, frz_ls, frz_ls1]; done) | ((try simp only [frzE_cons, frzE_nil, frz_fz, frz_un, frz_ls, frz_ls1]); exact rfl)))
local macro_rules | `(tactic| walk_at "pars") => `(tactic| focus (first | (simp only [pars, List.getElem?_cons_succ, List.getElem?_cons_zero, Option.bind_some, List.set_cons_succ, List.set_cons_zero]; done) | ((try simp only [pars, List.getElem?_cons_succ, List.getElem?_cons_zero, Option.bind_some, List.set_cons_succ, List.set_cons_zero]); exact rfl)))
local macro_rules | `(tactic| walk_at "back") => `(tactic| focus (first | (simp only [back, putBack, List.getElem?_cons_succ, List.getElem?_cons_zero, List.set_cons_succ, List.set_cons_zero]; done) | ((try simp only [back, putBack, List.getElem?_cons_succ, List.getElem?_cons_zero, List.set_cons_succ, List.set_cons_zero]); exact rfl)))
local macro_rules | `(tactic| walk_at "restore") => `(tactic| focus (first | with_reducible assumption | (simp only [restore, slotP, keepP, List.getElem?_cons_succ, List.getElem?_cons_zero, List.set_cons_succ, List.set_cons_zero]; done) | ((try simp only [restore, slotP, keepP, List.getElem?_cons_succ, List.getElem?_cons_zero, List.set_cons_succ, List.set_cons_zero]); exact rfl)))
local macro_rules | `(tactic| walk_at "wipe") => `(tactic| focus (first | (simp only [wipeT, List.set_cons_succ, List.set_cons_zero]; done) | ((try simp only [wipeT, List.set_cons_succ, List.set_cons_zero]); exact rfl)))
local macro_rules | `(tactic| walk_at "out") => `(tactic| focus (first | (simp only [outP, keepP, if_true, Bool.false_eq_true, if_false]; done) | ((try simp only [outP, keepP, if_true, Bool.false_eq_true, if_false]); exact rfl)))
local macro_rules | `(tactic| walk_at "side") => `(tactic| (first | with_reducible assumption | omega | decide))
local macro_rules | `(tactic| walk_at "mul") => `(tactic| (first | with_reducible assumption | exact mulW_small 62 62 (by omega) (by omega) (by decide) (by decide) (by decide)))
local macro_rules | `(tactic| walk_at "len") => `(tactic| focus ((try simp only [List.length_cons, List.length_nil, List.length_append, List.length_replicate, List.length_map]) <;> (first | omega | with_reducible assumption)))
local macro_rules | `(tactic| walk_at "at") => `(tactic| (first | with_reducible assumption | exact rfl))
local macro_rules | `(tactic| walk_at "eq") => `(tactic| (first | with_reducible assumption | with_reducible exact EV.eqI _ _ | with_reducible exact EV.neI _ _))
local macro_rules | `(tactic| walk_at "rep") => `(tactic| (with_reducible assumption))
local macro_rules | `(tactic| walk_at "in") => `(tactic| (first | with_reducible assumption | exact rfl))
local macro_rules | `(tactic| walk_at "ss") => `(tactic| (with_reducible assumption))
local macro_rules | `(tactic| walk_at "tru") => `(tactic| (first | exact rfl | with_reducible assumption))
local macro_rules | `(tactic| walk_at "call") => `(tactic| (with_reducible assumption))
local macro_rules | `(tactic| walk_at "aug") => `(tactic| (exact rfl))
local macro_rules | `(tactic| walk_at "bt") => `(tactic| (first | exact rfl | with_reducible assumption | (simp only [decide_eq_true_eq, decide_eq_false_iff_not, Bool.not_eq_true', Bool.not_eq_false', Bool.and_eq_true, Bool.or_eq_true, Bool.and_eq_false_iff, Bool.or_eq_false_iff, beq_iff_eq, beq_eq_false_iff_ne, ne_eq]; omega)))
local macro_rules | `(tactic| walk_at "ev") => `(tactic| first
  | ((with_reducible apply EV.shV); (exact rfl))
  | ((with_reducible apply EV.shO); (exact rfl); (walk_at "set"))
  | ((with_reducible apply EV.shD); (exact rfl); (with_reducible assumption); (walk_at "set"))
  | ((with_reducible exact EV.cE _))
  | ((with_reducible apply EV.shS); (walk_at "ev"))
  | ((with_reducible apply EV.shN); (walk_at "ev"))
  | ((with_reducible apply EV.scal); (walk_at "frz"); (walk_at "ev"); (exact rfl))
  | ((with_reducible apply EV.lift); (walk_at "ev"))
  | ((with_reducible exact EV.cW _))
  | ((with_reducible apply EV.varF); (exact rfl))
  | ((with_reducible apply EV.varL); (exact rfl))
  | ((with_reducible exact EV.fn))
  | ((with_reducible apply EV.fc); (walk_at "ev"); (walk_at "ev"))
  | ((with_reducible exact EV.an))
  | ((with_reducible apply EV.ac); (walk_at "ev"); (walk_at "ev"))
  | ((with_reducible exact EV.mn))
  | ((with_reducible apply EV.mc); (walk_at "ev"); (walk_at "ev"))
  | ((with_reducible apply EV.mV); (exact rfl))
  | ((with_reducible apply EV.mO); (exact rfl); (walk_at "set"))
  | ((with_reducible apply EV.mvMF); (exact rfl); (walk_at "set"))
  | ((with_reducible apply EV.mvML); (exact rfl); (walk_at "set"))
  | ((with_reducible apply EV.mS); (walk_at "ev"))
  | ((with_reducible apply EV.mN); (walk_at "ev"))
  | ((with_reducible apply EV.add); (walk_at "ev"); (walk_at "ev"))
  | ((with_reducible apply EV.sub); (walk_at "ev"); (walk_at "ev"))
  | ((with_reducible apply EV.mul); (walk_at "ev"); (walk_at "ev"); (walk_at "mul"))
  | ((with_reducible apply EV.mod); (walk_at "ev"); (walk_at "ev"); (walk_at "side"))
  | ((with_reducible apply EV.div); (walk_at "ev"); (walk_at "ev"); (walk_at "side"))
  | ((with_reducible apply EV.pow); (walk_at "ev"); (walk_at "ev"); (walk_at "side"))
  | ((with_reducible apply EV.shl); (walk_at "ev"); (walk_at "ev"); (walk_at "side"))
  | ((with_reducible apply EV.shr); (walk_at "ev"); (walk_at "ev"); (walk_at "side"))
  | ((with_reducible apply EV.band); (walk_at "ev"); (walk_at "ev"))
  | ((with_reducible apply EV.bor); (walk_at "ev"); (walk_at "ev"))
  | ((with_reducible apply EV.bxor); (walk_at "ev"); (walk_at "ev"))
  | ((with_reducible apply EV.lt); (walk_at "ev"); (walk_at "ev"))
  | ((with_reducible apply EV.le); (walk_at "ev"); (walk_at "ev"))
  | ((with_reducible apply EV.gt); (walk_at "ev"); (walk_at "ev"))
  | ((with_reducible apply EV.ge); (walk_at "ev"); (walk_at "ev"))
  | ((with_reducible apply EV.neg); (walk_at "ev"))
  | ((with_reducible apply EV.eqG); (walk_at "ev"); (walk_at "ev"); (walk_at "eq"))
  | ((with_reducible apply EV.neG); (walk_at "ev"); (walk_at "ev"); (walk_at "eq"))
  | ((with_reducible apply EV.isN); (walk_at "ev"); (walk_at "ev"))
  | ((with_reducible apply EV.notN); (walk_at "ev"); (walk_at "ev"))
  | ((with_reducible apply EV.ixL); (walk_at "ev"); (walk_at "ev"); (walk_at "at"))
  | ((with_reducible apply EV.ixT); (walk_at "ev"); (walk_at "ev"); (walk_at "at"))
  | ((with_reducible apply EV.catT); (walk_at "ev"); (walk_at "ev"); (walk_at "len"))
  | ((with_reducible apply EV.catL); (walk_at "ev"); (walk_at "ev"); (walk_at "len"))
  | ((with_reducible apply EV.catS); (walk_at "ev"); (walk_at "ev"); (walk_at "len"))
  | ((with_reducible apply EV.mulL); (walk_at "ev"); (walk_at "ev"); (walk_at "side"); (walk_at "side"))
  | ((with_reducible apply EV.lenL); (walk_at "ev"))
  | ((with_reducible apply EV.lenT); (walk_at "ev"))
  | ((with_reducible apply EV.lenR); (walk_at "ev"))
  | ((with_reducible apply EV.lenS); (walk_at "ev"); (walk_at "len"))
  | ((with_reducible apply EV.tupL); (walk_at "ev"))
  | ((with_reducible apply EV.tupT); (walk_at "ev"))
  | ((with_reducible apply EV.lisL); (walk_at "ev"))
  | ((with_reducible apply EV.lisT); (walk_at "ev"))
  | ((with_reducible apply EV.rep); (walk_at "ev"); (walk_at "rep"))
  | ((with_reducible apply EV.max2); (walk_at "ev"); (walk_at "ev"))
  | ((with_reducible apply EV.min2); (walk_at "ev"); (walk_at "ev"))
  | ((with_reducible apply EV.intI); (walk_at "ev"))
  | ((with_reducible apply EV.intB); (walk_at "ev"))
  | ((with_reducible apply EV.strI); (walk_at "ev"); (walk_at "side"))
  | ((with_reducible apply EV.inG); (walk_at "ev"); (walk_at "ev"); (walk_at "in"))
  | ((with_reducible apply EV.inR); (walk_at "ev"); (walk_at "ev"))
  | ((with_reducible apply EV.isi); (walk_at "ev"); (exact rfl))
  | ((with_reducible apply EV.revT); (walk_at "ev"))
  | ((with_reducible apply EV.revL); (walk_at "ev"))
  | ((with_reducible apply EV.tup); (walk_at "ev"); (walk_at "len"))
  | ((with_reducible apply EV.lst); (walk_at "ev"); (walk_at "len"))
  | ((with_reducible apply EV.ltT); (walk_at "ev"); (walk_at "ev"); (walk_at "side"); (walk_at "side"))
  | ((with_reducible exact EV.pN))
  | ((with_reducible apply EV.pA); (walk_at "ev"))
  | ((with_reducible apply EV.slL); (walk_at "ev"); (walk_at "ev"); (walk_at "ev"))
  | ((with_reducible apply EV.slT); (walk_at "ev"); (walk_at "ev"); (walk_at "ev"))
  | ((with_reducible apply EV.ss); (walk_at "ev"); (walk_at "ss"))
  | ((with_reducible apply EV.srt); (walk_at "ev"); (walk_at "ss"))
  | ((with_reducible apply EV.bl); (walk_at "ev"))
  | ((with_reducible apply EV.tru); (walk_at "ev"); (walk_at "tru"))
  | ((with_reducible apply EV.not); (walk_at "ev"))
  | ((with_reducible apply EV.and); (walk_at "ev"); (walk_at "ev"))
  | ((with_reducible apply EV.or); (walk_at "ev"); (walk_at "ev"))
  | ((with_reducible apply EV.andF); (walk_at "ev"); (walk_at "bt"))
  | ((with_reducible apply EV.andT); (walk_at "ev"); (walk_at "bt"); (walk_at "ev"))
  | ((with_reducible apply EV.orT); (walk_at "ev"); (walk_at "bt"))
  | ((with_reducible apply EV.orF); (walk_at "ev"); (walk_at "bt"); (walk_at "ev"))
  | ((with_reducible apply EV.boolW); (walk_at "ev"))
  | ((with_reducible apply EV.scalT); (walk_at "frz"); (walk_at "ev"))
  | ((with_reducible apply EV.ifET); (walk_at "ev"); (walk_at "bt"); (walk_at "ev"))
  | ((with_reducible apply EV.ifEF); (walk_at "ev"); (walk_at "bt"); (walk_at "ev"))
  | ((with_reducible apply EV.chn); (walk_at "ev"); (walk_at "ev"); (exact rfl); (walk_at "ev"); (exact rfl))
  | ((with_reducible apply EV.xl); (walk_at "ev"))
  | ((with_reducible apply EV.xb); (walk_at "ev"))
  | ((with_reducible apply EV.xblS); (walk_at "ev"))
  | ((with_reducible apply EV.xnot); (walk_at "ev"))
  | ((with_reducible apply EV.callS); (walk_at "ev"); (walk_at "pars"); (walk_at "norm"); (walk_at "call"); (exact rfl); (walk_at "back"))
  | ((with_reducible apply EV.callN); (walk_at "ev"); (walk_at "pars"); (walk_at "norm"); (walk_at "call"); (exact rfl); (walk_at "back"))
  | ((with_reducible apply EV.callXS); (walk_at "ev"); (walk_at "pars"); (walk_at "norm"); (walk_at "call"); (exact rfl); (walk_at "back"))
  | ((with_reducible apply EV.callXN); (walk_at "ev"); (walk_at "pars"); (walk_at "norm"); (walk_at "call"); (exact rfl); (walk_at "back"))
  | ((with_reducible apply EV.callXE); (walk_at "ev"); (walk_at "pars"); (walk_at "norm"); (walk_at "call"); (exact rfl); (walk_at "back"))
  | ((with_reducible apply EV.ixO); (exact rfl); (walk_at "ev"); (exact rfl); (walk_at "at"))
  | ((with_reducible apply EV.app); (exact rfl); (walk_at "ev"); (exact rfl); (walk_at "len"); (walk_at "set"))
  | ((with_reducible apply EV.appT); (exact rfl); (walk_at "ev"); (exact rfl); (walk_at "len"); (walk_at "set"))
  | ((with_reducible apply EV.ext); (exact rfl); (walk_at "ev"); (exact rfl); (walk_at "len"); (walk_at "set"))
  | ((with_reducible apply EV.pop); (exact rfl); (walk_at "set"))
  | ((with_reducible apply EV.comp); (walk_at "ev"); (walk_at "call"); (walk_at "restore"))
  | ((with_reducible apply EV.comp2); (walk_at "ev"); (walk_at "call"); (walk_at "restore"))
  | ((with_reducible apply EV.tupG); (walk_at "ev"); (walk_at "call"); (walk_at "restore"))
  | ((with_reducible apply EV.ssc); (walk_at "ev"); (walk_at "call"); (walk_at "restore"); (walk_at "ss"); (walk_at "ss"))
  | ((with_reducible apply EV.allG); (walk_at "ev"); (walk_at "call"); (walk_at "restore"))
  | ((with_reducible exact EV.yes))
  | ((with_reducible apply EV.itL); (walk_at "ev"))
  | ((with_reducible apply EV.itT); (walk_at "ev"))
  | ((with_reducible apply EV.rg1); (walk_at "ev"); (walk_at "side"); (walk_at "side"))
  | ((with_reducible apply EV.rg2); (walk_at "ev"); (walk_at "side"))
  | ((with_reducible apply EV.rg3); (walk_at "ev"); (walk_at "side"))
  | ((with_reducible apply EV.zpL); (walk_at "ev"))
  | ((with_reducible apply EV.zpT); (walk_at "ev"))
  | ((with_reducible apply EV.enm); (walk_at "ev"))
  | ((with_reducible apply EV.enmL); (walk_at "ev"))
  | ((with_reducible apply EV.enmT); (walk_at "ev"))
  | ((with_reducible apply EV.rvs); (walk_at "ev"))
  | ((with_reducible apply EV.gName); (walk_at "set"))
  | ((with_reducible exact EV.gsN))
  | ((with_reducible apply EV.gsC); (walk_at "ev"); (walk_at "ev"))
  | ((with_reducible apply EV.gTup); (exact rfl); (try simp only [List.map_cons, List.map_nil]); (walk_at "ev"))
  | ((with_reducible apply EV.gLst); (exact rfl); (try simp only [List.map_cons, List.map_nil]); (walk_at "ev"))
  | ((with_reducible apply EV.setO); (exact rfl); (walk_at "ev"); (exact rfl); (walk_at "at"); (walk_at "set"))
  | ((with_reducible exact EV.nxt))
  | ((with_reducible apply EV.seq); (walk_at "ev"); (walk_at "ev"))
  | ((with_reducible apply EV.seqR); (walk_at "ev"); (exact rfl))
  | ((with_reducible apply EV.seqX); (walk_at "ev"))
  | ((with_reducible apply EV.asgV); (walk_at "ev"); (walk_at "ev"))
  | ((with_reducible apply EV.asgS); (walk_at "ev"); (walk_at "ev"))
  | ((with_reducible apply EV.asgN); (walk_at "ev"); (walk_at "ev"))
  | ((with_reducible apply EV.asgX); (walk_at "ev"))
  | ((with_reducible apply EV.drop); (walk_at "ev"))
  | ((with_reducible apply EV.dropX); (walk_at "ev"))
  | ((with_reducible apply EV.ret); (walk_at "ev"))
  | ((with_reducible apply EV.ifT); (walk_at "ev"); (walk_at "bt"); (walk_at "ev"))
  | ((with_reducible apply EV.ifF); (walk_at "ev"); (walk_at "bt"); (walk_at "ev"))
  | ((with_reducible apply EV.aug); (exact rfl); (walk_at "ev"); (exact rfl); (walk_at "aug"); (walk_at "set"))
  | ((with_reducible apply EV.augO); (exact rfl); (walk_at "ev"); (exact rfl); (walk_at "side"); (walk_at "at"); (walk_at "at"); (walk_at "ev"); (walk_at "aug"); (exact rfl); (walk_at "set"))
  | ((with_reducible apply EV.for_); (walk_at "ev"); (walk_at "call")))
local macro_rules | `(tactic| walk_at "st") => `(tactic| ((with_reducible apply EV.seq); (walk_at "ev")))
local macro_rules | `(tactic| walk_at "le") => `(tactic| (exact Nat.le_of_ble_eq_true rfl))
local macro_rules | `(tactic| walk_at "fin") => `(tactic| first
  | ((apply EV.finS); (walk_at "le"); (walk_at "out"))
  | ((apply EV.finN); (walk_at "le"); (walk_at "out"))
  | ((apply EV.finV); (decide); (exact rfl); (walk_at "le"); (walk_at "out"))
  | ((apply EV.finW); (decide); (exact rfl); (walk_at "le"); (walk_at "out"))
  | ((apply EV.finP); (decide); (walk_at "ev"); (walk_at "le"); (walk_at "out"))
  | ((apply EV.finNx); (walk_at "le"); (walk_at "out"))
  | ((apply EV.finEx); (walk_at "le"); (walk_at "out")))
local macro_rules | `(tactic| walk_at "for") => `(tactic| ((with_reducible apply EV.seq); (with_reducible apply EV.for_); (walk_at "ev")))
local macro_rules | `(tactic| walk_at "gt") => `(tactic| ((simp only [wipeT, List.set_cons_succ, List.set_cons_zero]); (walk_at "ev")))
local macro_rules | `(tactic| walk_at "cc") => `(tactic| (apply EV.ccY; (walk_at "gt"); (first | exact EV.yes | walk_at "ev"); (walk_at "bt"); (walk_at "ev"); (walk_at "len")))
local macro_rules | `(tactic| walk_at "cn") => `(tactic| (apply EV.ccN; (walk_at "gt"); (walk_at "ev"); (walk_at "bt")))
local macro_rules | `(tactic| walk_at "rt") => `(tactic| ((with_reducible apply EV.seqR); (walk_at "ev"); (exact rfl)))
local macro_rules | `(tactic| walk_at "gg") => `(tactic| (apply EV.gt1; (walk_at "gt"); (walk_at "ev"); (walk_at "len")))
local macro_rules | `(tactic| walk_at "gs") => `(tactic| (apply EV.gs1; (walk_at "gt"); (walk_at "ev"); (walk_at "ss"); (walk_at "len")))

local macro_rules | `(tactic| walk_at "frz") => `(tactic| focus ((try simp only [frzE_cons, frzE_nil, frz_fz, frz_un, frz_ls, frz_ls1, frz_nest]); exact rfl))
theorem loop_l3 {Z : Zs} {a0 a1 a2 a3 : T} : ∀ (S : List D) (x4 x5 x6 x7 x8 x9 : T), (∀ d ∈ S, Pr d) → ∃ y4 y5 y6 y7 y8 y9, loopD (gdTup 2 (gdCons (gdName 4) (gdCons (gdName 5) gdNil))) (L_law_2 Z) S [a0, a1, a2, a3, x4, x5, x6, x7, x8, x9, .un] = some (.nx [a0, a1, a2, a3, y4, y5, y6, y7, y8, y9, .un])
  | [], x4, x5, x6, x7, x8, x9, _ => ⟨x4, x5, x6, x7, x8, x9, rfl⟩
  | d :: S, x4, x5, x6, x7, x8, x9, h => by
    obtain ⟨l, tb, rfl, hs, hl, h1, h3, ht⟩ := (h d (by simp)).ex
    have g1 := gd_tbl hl h3 ht
    obtain ⟨s1, r1, k1⟩ := rep_ok g1.fin (by have := g1.dep; omega) (by have := g1.wt; omega)
    have n1 := ne_str k1
    obtain ⟨hd, hg⟩ := bs_ok hl h1 h3 ht.ok
    have g2 : Gd 4 100000 (.lst ((bsL l tb).map .lst)) := (Gd.lst (n := 3) (w := 1300) (k := 64) (fun d hd' => by
      obtain ⟨M, hM, rfl⟩ := List.mem_map.mp hd'
      exact (hg M hM).2) (by rw [List.length_map]; exact hd)).mono (by decide) (by decide)
    obtain ⟨s2, r2, k2⟩ := rep_ok g2.fin (by have := g2.dep; omega) (by have := g2.wt; omega)
    have n2 := ne_str k2
    have vt := v_table_does (Z := Z) hs hl h1 h3 ht (lv_fin _ g1.fin)
    rw [did_bs] at vt
    have vl := v__law_letters hl h1 h3
    obtain ⟨hm, hn⟩ := LI_ok l 0 [[]] hl (by simp)
    have hp : 4 ^ l.length ≤ 4 ^ 3 := Nat.pow_le_pow_right (by decide) h3
    obtain ⟨x', e1⟩ := comp_due (Z := Z) (a0 := a0) (a1 := a1) (a2 := a2) (a3 := a3) (a4 := .fz (.tup (l.map .int))) (a6 := .fz (.str s1)) (a7 := x7) (a8 := x8) (a9 := x9) h1 h3 ht.ok (LI l [[]]) [] .un (fun k hk => by rw [hm k hk]; omega) (by simp at hn ⊢; omega)
    rw [List.nil_append] at e1
    change compD _ _ _ _ _ _ _ = some (didL l tb, _) at e1
    have eb : didL l tb = (bsL l tb).map fun M => T.ls (M.map .fz) := by have := did_bs l tb; unfold nestL at this; exact T.ls.inj this
    rw [eb] at e1
    generalize bsL l tb = B at hd hg g2 r2 vt e1
    obtain ⟨Ws, z9, hw, e4⟩ := loop_l4 (Z := Z) (a0 := a0) (a1 := a1) (a2 := a2) (a3 := a3) (a4 := .fz (.tup (l.map .int))) (a5 := .fz (.lst (tbl tb))) (a6 := .fz (.str s1)) hd hg B.length 0 B x9 (by omega) rfl rfl
    rw [← upto_nat] at e4
    have hu : upto 0 B.length = upto 0 (((B.map D.lst).length : Nat) : Int).toNat := by rw [Int.toNat_natCast, List.length_map]
    rw [hu] at e4
    have hn2 : (((B.map D.lst).length : Nat) : Int) < 2 ^ 62 := by rw [List.length_map]; omega
    have wl : (Ws.map fun M => T.ls (M.map .fz)).length < 1000000 := by rw [List.length_map]; omega
    obtain ⟨y4, y5, y6, y7, y8, y9, e⟩ := loop_l3 (Z := Z) (a0 := a0) (a1 := a1) (a2 := a2) (a3 := a3) S (.fz (.tup (l.map .int))) (.fz (.lst (tbl tb))) (.fz (.str s1)) (nestL B) (.ls ((Ws.map fun M => T.ls (M.map .fz)) ++ [.ls []])) z9 (fun d hd => h d (by simp [hd]))
    refine ⟨y4, y5, y6, y7, y8, y9, ?_⟩
    apply EV.lpN
    · walk_at "ev"
    · walk_at "st"
      apply EV.seq
      · apply EV.asgN
        · apply EV.xl
          apply EV.compT
          · walk_at "ev"
          · exact e1
          · walk_at "restore"
        · walk_at "ev"
      walk_at "st"
      walk_at "st"
      walk_at "st"
      apply EV.drop
      apply EV.xl
      apply EV.appT
      · rfl
      · walk_at "ev"
      · rfl
      · exact wl
      · rfl
    · exact e
end K7

set_option Elab.async false
set_option linter.all false
set_option maxRecDepth 100000
set_option maxHeartbeats 8000000
namespace K7
open PySem PySem.Spec PyProof.Rows L2 Q
local macro_rules | `(tactic| walk_at "norm") => `(tactic| focus (first | (simp only [List.map_cons, List.map_nil]; done) | ((try simp only [List.map_cons, List.map_nil]); exact rfl)))
local macro_rules | `(tactic| walk_at "set") => `(tactic| focus (first | (dsimp only [List.set_cons_succ, List.set_cons_zero]; done) | ((try dsimp only [List.set_cons_succ, List.set_cons_zero]); exact rfl)))
local macro_rules | `(tactic| walk_at "frz") => `(tactic| focus (first | (simp only [frzE_cons, frzE_nil, frz_fz, frz_un, frz_ls, frz_ls1]; done) | ((try simp only [frzE_cons, frzE_nil, frz_fz, frz_un, frz_ls, frz_ls1]); exact rfl)))
local macro_rules | `(tactic| walk_at "pars") => `(tactic| focus (first | (simp only [pars, List.getElem?_cons_succ, List.getElem?_cons_zero, Option.bind_some, List.set_cons_succ, List.set_cons_zero]; done) | ((try simp only [pars, List.getElem?_cons_succ, List.getElem?_cons_zero, Option.bind_some, List.set_cons_succ, List.set_cons_zero]); exact rfl)))
local macro_rules | `(tactic| walk_at "back") => `(tactic| focus (first | (simp only [back, putBack, List.getElem?_cons_succ, List.getElem?_cons_zero, List.set_cons_succ, List.set_cons_zero]; done) | ((try simp only [back, putBack, List.getElem?_cons_succ, List.getElem?_cons_zero, List.set_cons_succ, List.set_cons_zero]); exact rfl)))
local macro_rules | `(tactic| walk_at "restore") => `(tactic| focus (first | with_reducible assumption | (simp only [restore, slotP, keepP, List.getElem?_cons_succ, List.getElem?_cons_zero, List.set_cons_succ, List.set_cons_zero]; done) | ((try simp only [restore, slotP, keepP, List.getElem?_cons_succ, List.getElem?_cons_zero, List.set_cons_succ, List.set_cons_zero]); exact rfl)))
local macro_rules | `(tactic| walk_at "wipe") => `(tactic| focus (first | (simp only [wipeT, List.set_cons_succ, List.set_cons_zero]; done) | ((try simp only [wipeT, List.set_cons_succ, List.set_cons_zero]); exact rfl)))
local macro_rules | `(tactic| walk_at "out") => `(tactic| focus (first | (simp only [outP, keepP, if_true, Bool.false_eq_true, if_false]; done) | ((try simp only [outP, keepP, if_true, Bool.false_eq_true, if_false]); exact rfl)))
local macro_rules | `(tactic| walk_at "side") => `(tactic| (first | with_reducible assumption | omega | decide))
local macro_rules | `(tactic| walk_at "mul") => `(tactic| (first | with_reducible assumption | exact mulW_small 62 62 (by omega) (by omega) (by decide) (by decide) (by decide)))
local macro_rules | `(tactic| walk_at "len") => `(tactic| focus ((try simp only [List.length_cons, List.length_nil, List.length_append, List.length_replicate, List.length_map]) <;> (first | omega | with_reducible assumption)))
local macro_rules | `(tactic| walk_at "at") => `(tactic| (first | with_reducible assumption | exact rfl))
local macro_rules | `(tactic| walk_at "eq") => `(tactic| (first | with_reducible assumption | with_reducible exact EV.eqI _ _ | with_reducible exact EV.neI _ _))
local macro_rules | `(tactic| walk_at "rep") => `(tactic| (with_reducible assumption))
local macro_rules | `(tactic| walk_at "in") => `(tactic| (first | with_reducible assumption | exact rfl))
local macro_rules | `(tactic| walk_at "ss") => `(tactic| (with_reducible assumption))
local macro_rules | `(tactic| walk_at "tru") => `(tactic| (first | exact rfl | with_reducible assumption))
local macro_rules | `(tactic| walk_at "call") => `(tactic| (with_reducible assumption))
local macro_rules | `(tactic| walk_at "aug") => `(tactic| (exact rfl))
local macro_rules | `(tactic| walk_at "bt") => `(tactic| (first | exact rfl | with_reducible assumption | (simp only [decide_eq_true_eq, decide_eq_false_iff_not, Bool.not_eq_true', Bool.not_eq_false', Bool.and_eq_true, Bool.or_eq_true, Bool.and_eq_false_iff, Bool.or_eq_false_iff, beq_iff_eq, beq_eq_false_iff_ne, ne_eq]; omega)))
local macro_rules | `(tactic| walk_at "ev") => `(tactic| first
  | ((with_reducible apply EV.shV); (exact rfl))
  | ((with_reducible apply EV.shO); (exact rfl); (walk_at "set"))
  | ((with_reducible apply EV.shD); (exact rfl); (with_reducible assumption); (walk_at "set"))
  | ((with_reducible exact EV.cE _))
  | ((with_reducible apply EV.shS); (walk_at "ev"))
  | ((with_reducible apply EV.shN); (walk_at "ev"))
  | ((with_reducible apply EV.scal); (walk_at "frz"); (walk_at "ev"); (exact rfl))
  | ((with_reducible apply EV.lift); (walk_at "ev"))
  | ((with_reducible exact EV.cW _))
  | ((with_reducible apply EV.varF); (exact rfl))
  | ((with_reducible apply EV.varL); (exact rfl))
  | ((with_reducible exact EV.fn))
  | ((with_reducible apply EV.fc); (walk_at "ev"); (walk_at "ev"))
  | ((with_reducible exact EV.an))
  | ((with_reducible apply EV.ac); (walk_at "ev"); (walk_at "ev"))
  | ((with_reducible exact EV.mn))
  | ((with_reducible apply EV.mc); (walk_at "ev"); (walk_at "ev"))
  | ((with_reducible apply EV.mV); (exact rfl))
  | ((with_reducible apply EV.mO); (exact rfl); (walk_at "set"))
  | ((with_reducible apply EV.mvMF); (exact rfl); (walk_at "set"))
  | ((with_reducible apply EV.mvML); (exact rfl); (walk_at "set"))
  | ((with_reducible apply EV.mS); (walk_at "ev"))
  | ((with_reducible apply EV.mN); (walk_at "ev"))
  | ((with_reducible apply EV.add); (walk_at "ev"); (walk_at "ev"))
  | ((with_reducible apply EV.sub); (walk_at "ev"); (walk_at "ev"))
  | ((with_reducible apply EV.mul); (walk_at "ev"); (walk_at "ev"); (walk_at "mul"))
  | ((with_reducible apply EV.mod); (walk_at "ev"); (walk_at "ev"); (walk_at "side"))
  | ((with_reducible apply EV.div); (walk_at "ev"); (walk_at "ev"); (walk_at "side"))
  | ((with_reducible apply EV.pow); (walk_at "ev"); (walk_at "ev"); (walk_at "side"))
  | ((with_reducible apply EV.shl); (walk_at "ev"); (walk_at "ev"); (walk_at "side"))
  | ((with_reducible apply EV.shr); (walk_at "ev"); (walk_at "ev"); (walk_at "side"))
  | ((with_reducible apply EV.band); (walk_at "ev"); (walk_at "ev"))
  | ((with_reducible apply EV.bor); (walk_at "ev"); (walk_at "ev"))
  | ((with_reducible apply EV.bxor); (walk_at "ev"); (walk_at "ev"))
  | ((with_reducible apply EV.lt); (walk_at "ev"); (walk_at "ev"))
  | ((with_reducible apply EV.le); (walk_at "ev"); (walk_at "ev"))
  | ((with_reducible apply EV.gt); (walk_at "ev"); (walk_at "ev"))
  | ((with_reducible apply EV.ge); (walk_at "ev"); (walk_at "ev"))
  | ((with_reducible apply EV.neg); (walk_at "ev"))
  | ((with_reducible apply EV.eqG); (walk_at "ev"); (walk_at "ev"); (walk_at "eq"))
  | ((with_reducible apply EV.neG); (walk_at "ev"); (walk_at "ev"); (walk_at "eq"))
  | ((with_reducible apply EV.isN); (walk_at "ev"); (walk_at "ev"))
  | ((with_reducible apply EV.notN); (walk_at "ev"); (walk_at "ev"))
  | ((with_reducible apply EV.ixL); (walk_at "ev"); (walk_at "ev"); (walk_at "at"))
  | ((with_reducible apply EV.ixT); (walk_at "ev"); (walk_at "ev"); (walk_at "at"))
  | ((with_reducible apply EV.catT); (walk_at "ev"); (walk_at "ev"); (walk_at "len"))
  | ((with_reducible apply EV.catL); (walk_at "ev"); (walk_at "ev"); (walk_at "len"))
  | ((with_reducible apply EV.catS); (walk_at "ev"); (walk_at "ev"); (walk_at "len"))
  | ((with_reducible apply EV.mulL); (walk_at "ev"); (walk_at "ev"); (walk_at "side"); (walk_at "side"))
  | ((with_reducible apply EV.lenL); (walk_at "ev"))
  | ((with_reducible apply EV.lenT); (walk_at "ev"))
  | ((with_reducible apply EV.lenR); (walk_at "ev"))
  | ((with_reducible apply EV.lenS); (walk_at "ev"); (walk_at "len"))
  | ((with_reducible apply EV.tupL); (walk_at "ev"))
  | ((with_reducible apply EV.tupT); (walk_at "ev"))
  | ((with_reducible apply EV.lisL); (walk_at "ev"))
  | ((with_reducible apply EV.lisT); (walk_at "ev"))
  | ((with_reducible apply EV.rep); (walk_at "ev"); (walk_at "rep"))
  | ((with_reducible apply EV.max2); (walk_at "ev"); (walk_at "ev"))
  | ((with_reducible apply EV.min2); (walk_at "ev"); (walk_at "ev"))
  | ((with_reducible apply EV.intI); (walk_at "ev"))
  | ((with_reducible apply EV.intB); (walk_at "ev"))
  | ((with_reducible apply EV.strI); (walk_at "ev"); (walk_at "side"))
  | ((with_reducible apply EV.inG); (walk_at "ev"); (walk_at "ev"); (walk_at "in"))
  | ((with_reducible apply EV.inR); (walk_at "ev"); (walk_at "ev"))
  | ((with_reducible apply EV.isi); (walk_at "ev"); (exact rfl))
  | ((with_reducible apply EV.revT); (walk_at "ev"))
  | ((with_reducible apply EV.revL); (walk_at "ev"))
  | ((with_reducible apply EV.tup); (walk_at "ev"); (walk_at "len"))
  | ((with_reducible apply EV.lst); (walk_at "ev"); (walk_at "len"))
  | ((with_reducible apply EV.ltT); (walk_at "ev"); (walk_at "ev"); (walk_at "side"); (walk_at "side"))
  | ((with_reducible exact EV.pN))
  | ((with_reducible apply EV.pA); (walk_at "ev"))
  | ((with_reducible apply EV.slL); (walk_at "ev"); (walk_at "ev"); (walk_at "ev"))
  | ((with_reducible apply EV.slT); (walk_at "ev"); (walk_at "ev"); (walk_at "ev"))
  | ((with_reducible apply EV.ss); (walk_at "ev"); (walk_at "ss"))
  | ((with_reducible apply EV.srt); (walk_at "ev"); (walk_at "ss"))
  | ((with_reducible apply EV.bl); (walk_at "ev"))
  | ((with_reducible apply EV.tru); (walk_at "ev"); (walk_at "tru"))
  | ((with_reducible apply EV.not); (walk_at "ev"))
  | ((with_reducible apply EV.and); (walk_at "ev"); (walk_at "ev"))
  | ((with_reducible apply EV.or); (walk_at "ev"); (walk_at "ev"))
  | ((with_reducible apply EV.andF); (walk_at "ev"); (walk_at "bt"))
  | ((with_reducible apply EV.andT); (walk_at "ev"); (walk_at "bt"); (walk_at "ev"))
  | ((with_reducible apply EV.orT); (walk_at "ev"); (walk_at "bt"))
  | ((with_reducible apply EV.orF); (walk_at "ev"); (walk_at "bt"); (walk_at "ev"))
  | ((with_reducible apply EV.boolW); (walk_at "ev"))
  | ((with_reducible apply EV.scalT); (walk_at "frz"); (walk_at "ev"))
  | ((with_reducible apply EV.ifET); (walk_at "ev"); (walk_at "bt"); (walk_at "ev"))
  | ((with_reducible apply EV.ifEF); (walk_at "ev"); (walk_at "bt"); (walk_at "ev"))
  | ((with_reducible apply EV.chn); (walk_at "ev"); (walk_at "ev"); (exact rfl); (walk_at "ev"); (exact rfl))
  | ((with_reducible apply EV.xl); (walk_at "ev"))
  | ((with_reducible apply EV.xb); (walk_at "ev"))
  | ((with_reducible apply EV.xblS); (walk_at "ev"))
  | ((with_reducible apply EV.xnot); (walk_at "ev"))
  | ((with_reducible apply EV.callS); (walk_at "ev"); (walk_at "pars"); (walk_at "norm"); (walk_at "call"); (exact rfl); (walk_at "back"))
  | ((with_reducible apply EV.callN); (walk_at "ev"); (walk_at "pars"); (walk_at "norm"); (walk_at "call"); (exact rfl); (walk_at "back"))
  | ((with_reducible apply EV.callXS); (walk_at "ev"); (walk_at "pars"); (walk_at "norm"); (walk_at "call"); (exact rfl); (walk_at "back"))
  | ((with_reducible apply EV.callXN); (walk_at "ev"); (walk_at "pars"); (walk_at "norm"); (walk_at "call"); (exact rfl); (walk_at "back"))
  | ((with_reducible apply EV.callXE); (walk_at "ev"); (walk_at "pars"); (walk_at "norm"); (walk_at "call"); (exact rfl); (walk_at "back"))
  | ((with_reducible apply EV.ixO); (exact rfl); (walk_at "ev"); (exact rfl); (walk_at "at"))
  | ((with_reducible apply EV.app); (exact rfl); (walk_at "ev"); (exact rfl); (walk_at "len"); (walk_at "set"))
  | ((with_reducible apply EV.appT); (exact rfl); (walk_at "ev"); (exact rfl); (walk_at "len"); (walk_at "set"))
  | ((with_reducible apply EV.ext); (exact rfl); (walk_at "ev"); (exact rfl); (walk_at "len"); (walk_at "set"))
  | ((with_reducible apply EV.pop); (exact rfl); (walk_at "set"))
  | ((with_reducible apply EV.comp); (walk_at "ev"); (walk_at "call"); (walk_at "restore"))
  | ((with_reducible apply EV.comp2); (walk_at "ev"); (walk_at "call"); (walk_at "restore"))
  | ((with_reducible apply EV.tupG); (walk_at "ev"); (walk_at "call"); (walk_at "restore"))
  | ((with_reducible apply EV.ssc); (walk_at "ev"); (walk_at "call"); (walk_at "restore"); (walk_at "ss"); (walk_at "ss"))
  | ((with_reducible apply EV.allG); (walk_at "ev"); (walk_at "call"); (walk_at "restore"))
  | ((with_reducible exact EV.yes))
  | ((with_reducible apply EV.itL); (walk_at "ev"))
  | ((with_reducible apply EV.itT); (walk_at "ev"))
  | ((with_reducible apply EV.rg1); (walk_at "ev"); (walk_at "side"); (walk_at "side"))
  | ((with_reducible apply EV.rg2); (walk_at "ev"); (walk_at "side"))
  | ((with_reducible apply EV.rg3); (walk_at "ev"); (walk_at "side"))
  | ((with_reducible apply EV.zpL); (walk_at "ev"))
  | ((with_reducible apply EV.zpT); (walk_at "ev"))
  | ((with_reducible apply EV.enm); (walk_at "ev"))
  | ((with_reducible apply EV.enmL); (walk_at "ev"))
  | ((with_reducible apply EV.enmT); (walk_at "ev"))
  | ((with_reducible apply EV.rvs); (walk_at "ev"))
  | ((with_reducible apply EV.gName); (walk_at "set"))
  | ((with_reducible exact EV.gsN))
  | ((with_reducible apply EV.gsC); (walk_at "ev"); (walk_at "ev"))
  | ((with_reducible apply EV.gTup); (exact rfl); (try simp only [List.map_cons, List.map_nil]); (walk_at "ev"))
  | ((with_reducible apply EV.gLst); (exact rfl); (try simp only [List.map_cons, List.map_nil]); (walk_at "ev"))
  | ((with_reducible apply EV.setO); (exact rfl); (walk_at "ev"); (exact rfl); (walk_at "at"); (walk_at "set"))
  | ((with_reducible exact EV.nxt))
  | ((with_reducible apply EV.seq); (walk_at "ev"); (walk_at "ev"))
  | ((with_reducible apply EV.seqR); (walk_at "ev"); (exact rfl))
  | ((with_reducible apply EV.seqX); (walk_at "ev"))
  | ((with_reducible apply EV.asgV); (walk_at "ev"); (walk_at "ev"))
  | ((with_reducible apply EV.asgS); (walk_at "ev"); (walk_at "ev"))
  | ((with_reducible apply EV.asgN); (walk_at "ev"); (walk_at "ev"))
  | ((with_reducible apply EV.asgX); (walk_at "ev"))
  | ((with_reducible apply EV.drop); (walk_at "ev"))
  | ((with_reducible apply EV.dropX); (walk_at "ev"))
  | ((with_reducible apply EV.ret); (walk_at "ev"))
  | ((with_reducible apply EV.ifT); (walk_at "ev"); (walk_at "bt"); (walk_at "ev"))
  | ((with_reducible apply EV.ifF); (walk_at "ev"); (walk_at "bt"); (walk_at "ev"))
  | ((with_reducible apply EV.aug); (exact rfl); (walk_at "ev"); (exact rfl); (walk_at "aug"); (walk_at "set"))
  | ((with_reducible apply EV.augO); (exact rfl); (walk_at "ev"); (exact rfl); (walk_at "side"); (walk_at "at"); (walk_at "at"); (walk_at "ev"); (walk_at "aug"); (exact rfl); (walk_at "set"))
  | ((with_reducible apply EV.for_); (walk_at "ev"); (walk_at "call")))
local macro_rules | `(tactic| walk_at "st") => `(tactic| ((with_reducible apply EV.seq); (walk_at "ev")))
local macro_rules | `(tactic| walk_at "le") => `(tactic| (exact Nat.le_of_ble_eq_true rfl))
local macro_rules | `(tactic| walk_at "fin") => `(tactic| first
  | ((apply EV.finS); (walk_at "le"); (walk_at "out"))
  | ((apply EV.finN); (walk_at "le"); (walk_at "out"))
  | ((apply EV.finV); (decide); (exact rfl); (walk_at "le"); (walk_at "out"))
  | ((apply EV.finW); (decide); (exact rfl); (walk_at "le"); (walk_at "out"))
  | ((apply EV.finP); (decide); (walk_at "ev"); (walk_at "le"); (walk_at "out"))
  | ((apply EV.finNx); (walk_at "le"); (walk_at "out"))
  | ((apply EV.finEx); (walk_at "le"); (walk_at "out")))
local macro_rules | `(tactic| walk_at "for") => `(tactic| ((with_reducible apply EV.seq); (with_reducible apply EV.for_); (walk_at "ev")))
local macro_rules | `(tactic| walk_at "gt") => `(tactic| ((simp only [wipeT, List.set_cons_succ, List.set_cons_zero]); (walk_at "ev")))
local macro_rules | `(tactic| walk_at "cc") => `(tactic| (apply EV.ccY; (walk_at "gt"); (first | exact EV.yes | walk_at "ev"); (walk_at "bt"); (walk_at "ev"); (walk_at "len")))
local macro_rules | `(tactic| walk_at "cn") => `(tactic| (apply EV.ccN; (walk_at "gt"); (walk_at "ev"); (walk_at "bt")))
local macro_rules | `(tactic| walk_at "rt") => `(tactic| ((with_reducible apply EV.seqR); (walk_at "ev"); (exact rfl)))
local macro_rules | `(tactic| walk_at "gg") => `(tactic| (apply EV.gt1; (walk_at "gt"); (walk_at "ev"); (walk_at "len")))
local macro_rules | `(tactic| walk_at "gs") => `(tactic| (apply EV.gs1; (walk_at "gt"); (walk_at "ev"); (walk_at "ss"); (walk_at "len")))

theorem loop_l1' {Z : Zs} {ns : List Int} {a5 a6 a7 a8 a9 a10 : T} : ∀ (ks S : List D) (x2 x3 x4 : T), (∀ d ∈ ks, ∃ k : Int, d = .int k ∧ 0 ≤ k ∧ k < 4) → S.length + ks.length ≤ 1000 → (∀ d ∈ S, Pr d) → ∃ (S' : List D) (y2 y3 y4 : T), (∀ d ∈ S', Pr d) ∧ S'.length = S.length + ks.length ∧ loopD (gdName 2) (L_law_1 Z) ks [.fz (.scr ns), oL S, x2, x3, x4, a5, a6, a7, a8, a9, a10] = some (.nx [.fz (.scr ns), oL S', y2, y3, y4, a5, a6, a7, a8, a9, a10])
  | [], S, x2, x3, x4, _, _, hS => ⟨S, x2, x3, x4, hS, by simp, rfl⟩
  | d :: ks, S, x2, x3, x4, hk, hb, hS => by
    simp only [List.length_cons] at hb
    obtain ⟨k, rfl, k0, k4⟩ := hk d (by simp)
    obtain ⟨c, hc⟩ := v__law_cell (ns := ns) (k := k) k0 (by omega)
    obtain ⟨sh, p1, hs, hsh⟩ := v__law_shape c
    obtain ⟨l, rfl, hl, h1, h3, _⟩ := id hs.ex
    obtain ⟨tb0, p2, rb, nb, ht⟩ := v__law_table p1 hl h1 h3
    obtain ⟨tb, p3, t, ok, ft, hlg⟩ := v__law_long p2 hl h3 rb nb
    obtain ⟨S', y2, y3, y4, s1, s2, e⟩ := loop_l1' (Z := Z) (ns := ns) (a5 := a5) (a6 := a6) (a7 := a7) (a8 := a8) (a9 := a9) (a10 := a10) ks (S ++ [.tup [.tup (l.map .int), .lst (tbl tb)]]) (.fz (.int k)) (.ls [.fz (.int p3)]) (.fz (.tup (l.map .int))) (fun d hd => hk d (by simp [hd])) (by simp; omega) (fun d hd => by
      rcases List.mem_append.mp hd with q | q
      · exact hS d q
      · simp at q; subst q; exact ⟨l, tb, rfl, hs, hl, h1, h3, ok⟩)
    refine ⟨S', y2, y3, y4, s1, by simp at s2 ⊢; omega, ?_⟩
    rcases ft with rfl | rfl <;>
    · apply EV.lpN
      · walk_at "ev"
      · walk_at "st"
        walk_at "st"
        walk_at "ev"
      · exact e
theorem cut_mem {M : List D} {a b : Option Int} : ∀ d ∈ Q.cutD M a b, d ∈ M := fun d h => by
  unfold Q.cutD at h
  exact List.mem_of_mem_drop (List.mem_of_mem_take h)
theorem cut_len {M : List D} {a b : Option Int} : (Q.cutD M a b).length ≤ M.length := by
  unfold Q.cutD
  rw [List.length_take, List.length_drop]; omega
theorem true_law : ∀ (K : PySem.W.Frag) (Z : Zs), Fcts K Z → ∀ ns : List Int, ns.length ≤ 63 → ∃ ps', (fn_law Z) [.fz (.scr ns)] = some (.ret (.fz (.bl true)), ps') ∧ ps'.length = 1 := by
  intro K Z _ ns _
  have p0 : ∀ d ∈ ([.tup [.tup [.int 2, .int 2], .lst []], .tup [.tup [.int 3], .lst [.tup [.tup [.int (-1)], .lst [.tup [.int (-1)]]]]]] : List D), Pr d := by
    intro d hd
    simp only [List.mem_cons, List.not_mem_nil, or_false] at hd
    rcases hd with rfl | rfl
    · exact ⟨[2, 2], [], rfl, gsh_of (l := [2, 2]) (by decide), by decide, by decide, by decide, by simp, by simp⟩
    · refine ⟨[3], [([-1], [[-1]])], rfl, gsh_of (l := [3]) (by decide), by decide, by decide, by decide, fun r hr => ?_, by simp⟩
      simp at hr
      subst hr
      refine ⟨⟨by show (-1 : Int) ≤ _; omega, by omega, trivial⟩, fun c hc => ?_, by simp [StI], by simp⟩
      simp at hc
      subst hc
      exact ⟨by show (-1 : Int) ≤ _; omega, by omega, trivial⟩
  obtain ⟨S, y2, y3, y4, hS, hSl, e2⟩ := loop_l1' (Z := Z) (ns := ns) (a5 := .un) (a6 := .un) (a7 := .un) (a8 := .un) (a9 := .un) (a10 := .un) (upto 0 (4 : Int).toNat) _ .un .un .un (fun d hd => by
    unfold upto at hd
    obtain ⟨i, hi, rfl⟩ := List.mem_map.mp hd
    rw [List.mem_range] at hi
    exact ⟨_, rfl, by omega, by omega⟩) (by rw [upto_len]; simp) p0
  rw [upto_len] at hSl
  have sl : S.length ≤ 6 := by simp at hSl; omega
  have cl := cut_len (M := S) (a := some 2) (b := some 3)
  have cl2 : S.length + (Q.cutD S (some 2) (some 3)).length ≤ 1000000 := by omega
  obtain ⟨z4, z5, z6, z7, z8, z9, e3⟩ := loop_l3 (Z := Z) (a0 := .fz (.scr ns)) (a1 := .fz (.lst S)) (a2 := y2) (a3 := y3) (S ++ Q.cutD S (some 2) (some 3)) y4 .un .un .un .un .un (fun d hd => by
    rcases List.mem_append.mp hd with q | q
    · exact hS d q
    · exact hS d (cut_mem d q))
  apply Exists.intro
  refine ⟨?_, ?_⟩
  · apply fe_law
    · unfold b_law
      walk_at "st"
      walk_at "for"
      · exact e2
      walk_at "st"
      walk_at "ev"
    walk_at "fin"
  · rfl
end K7

set_option Elab.async false
set_option linter.all false
set_option maxRecDepth 100000
set_option maxHeartbeats 4000000
namespace K7
open PySem PySem.Spec PyProof.Rows L2 Q
theorem all_mk {P : Program} {w : World} {K : PySem.W.Frag} {h : Heap} {mg : Str → Option Value} {fa : Addr} (true_law : ∀ (K : PySem.W.Frag) (Z : Zs), Fcts K Z → ∀ ns : List Int, ns.length ≤ 63 → ∃ ps', (fn_law Z) [.fz (.scr ns)] = some (.ret (.fz (.bl true)), ps') ∧ ps'.length = 1)
    (X : K.In h) (G : h.Ns mainGlobals mg) (hfa : mg "law" = some (.ref fa))
    {f_is_number : Addr} {od_is_number an_is_number : Option Addr} {sl_is_number : Array (Option Value)} {oc_is_number kV_is_number dc_is_number pm_is_number cd_is_number ct_is_number : Value} {f_is_shape : Addr} {od_is_shape an_is_shape : Option Addr} {sl_is_shape : Array (Option Value)} {oc_is_shape kV_is_shape dc_is_shape pm_is_shape cd_is_shape ct_is_shape : Value} {f_check_shape : Addr} {od_check_shape an_check_shape : Option Addr} {sl_check_shape : Array (Option Value)} {oc_check_shape kV_check_shape dc_check_shape pm_check_shape cd_check_shape ct_check_shape : Value} {f_letters_of : Addr} {od_letters_of an_letters_of : Option Addr} {sl_letters_of : Array (Option Value)} {oc_letters_of kV_letters_of dc_letters_of pm_letters_of cd_letters_of ct_letters_of : Value} {f_is_value_or_any : Addr} {od_is_value_or_any an_is_value_or_any : Option Addr} {sl_is_value_or_any : Array (Option Value)} {oc_is_value_or_any kV_is_value_or_any dc_is_value_or_any pm_is_value_or_any cd_is_value_or_any ct_is_value_or_any : Value} {f_is_match : Addr} {od_is_match an_is_match : Option Addr} {sl_is_match : Array (Option Value)} {oc_is_match kV_is_match dc_is_match pm_is_match cd_is_match ct_is_match : Value} {f_are_changes : Addr} {od_are_changes an_are_changes : Option Addr} {sl_are_changes : Array (Option Value)} {oc_are_changes kV_are_changes dc_are_changes pm_are_changes cd_are_changes ct_are_changes : Value} {f_is_rule : Addr} {od_is_rule an_is_rule : Option Addr} {sl_is_rule : Array (Option Value)} {oc_is_rule kV_is_rule dc_is_rule pm_is_rule cd_is_rule ct_is_rule : Value} {f_is_table : Addr} {od_is_table an_is_table : Option Addr} {sl_is_table : Array (Option Value)} {oc_is_table kV_is_table dc_is_table pm_is_table cd_is_table ct_is_table : Value} {f_check_table : Addr} {od_check_table an_check_table : Option Addr} {sl_check_table : Array (Option Value)} {oc_check_table kV_check_table dc_check_table pm_check_table cd_check_table ct_check_table : Value} {f_meets : Addr} {od_meets an_meets : Option Addr} {sl_meets : Array (Option Value)} {oc_meets kV_meets dc_meets pm_meets cd_meets ct_meets : Value} {f_changed : Addr} {od_changed an_changed : Option Addr} {sl_changed : Array (Option Value)} {oc_changed kV_changed dc_changed pm_changed cd_changed ct_changed : Value} {f_first_met : Addr} {od_first_met an_first_met : Option Addr} {sl_first_met : Array (Option Value)} {oc_first_met kV_first_met dc_first_met pm_first_met cd_first_met ct_first_met : Value} {f_becomes : Addr} {od_becomes an_becomes : Option Addr} {sl_becomes : Array (Option Value)} {oc_becomes kV_becomes dc_becomes pm_becomes cd_becomes ct_becomes : Value} {f_table_does : Addr} {od_table_does an_table_does : Option Addr} {sl_table_does : Array (Option Value)} {oc_table_does kV_table_does dc_table_does pm_table_does cd_table_does ct_table_does : Value} {f__law_mixed : Addr} {od__law_mixed an__law_mixed : Option Addr} {sl__law_mixed : Array (Option Value)} {oc__law_mixed kV__law_mixed dc__law_mixed pm__law_mixed cd__law_mixed ct__law_mixed : Value} {f__law_cell : Addr} {od__law_cell an__law_cell : Option Addr} {sl__law_cell : Array (Option Value)} {oc__law_cell kV__law_cell dc__law_cell pm__law_cell cd__law_cell ct__law_cell : Value} {f__law_take : Addr} {od__law_take an__law_take : Option Addr} {sl__law_take : Array (Option Value)} {oc__law_take kV__law_take dc__law_take pm__law_take cd__law_take ct__law_take : Value} {f__law_shape : Addr} {od__law_shape an__law_shape : Option Addr} {sl__law_shape : Array (Option Value)} {oc__law_shape kV__law_shape dc__law_shape pm__law_shape cd__law_shape ct__law_shape : Value} {f__law_letters : Addr} {od__law_letters an__law_letters : Option Addr} {sl__law_letters : Array (Option Value)} {oc__law_letters kV__law_letters dc__law_letters pm__law_letters cd__law_letters ct__law_letters : Value} {f__law_rule : Addr} {od__law_rule an__law_rule : Option Addr} {sl__law_rule : Array (Option Value)} {oc__law_rule kV__law_rule dc__law_rule pm__law_rule cd__law_rule ct__law_rule : Value} {f__law_table : Addr} {od__law_table an__law_table : Option Addr} {sl__law_table : Array (Option Value)} {oc__law_table kV__law_table dc__law_table pm__law_table cd__law_table ct__law_table : Value} {f__law_becomes : Addr} {od__law_becomes an__law_becomes : Option Addr} {sl__law_becomes : Array (Option Value)} {oc__law_becomes kV__law_becomes dc__law_becomes pm__law_becomes cd__law_becomes ct__law_becomes : Value} {f__law_long : Addr} {od__law_long an__law_long : Option Addr} {sl__law_long : Array (Option Value)} {oc__law_long kV__law_long dc__law_long pm__law_long cd__law_long ct__law_long : Value} {f_law : Addr} {od_law an_law : Option Addr} {sl_law : Array (Option Value)} {oc_law kV_law dc_law pm_law cd_law ct_law : Value} {cc_is_match tt_is_match : Addr} {ce_is_match : Value} {cdd_is_match : Option Addr} {cvs_is_match : Array Value} {csl_is_match : Array (Option Value)} {cc_are_changes tt_are_changes : Addr} {ce_are_changes : Value} {cdd_are_changes : Option Addr} {cvs_are_changes : Array Value} {csl_are_changes : Array (Option Value)} {cc_is_table tt_is_table : Addr} {ce_is_table : Value} {cdd_is_table : Option Addr} {cvs_is_table : Array Value} {csl_is_table : Array (Option Value)} {cc_meets tt_meets : Addr} {ce_meets : Value} {cdd_meets : Option Addr} {cvs_meets : Array Value} {csl_meets : Array (Option Value)} {cc_changed tt_changed : Addr} {ce_changed : Value} {cdd_changed : Option Addr} {cvs_changed : Array Value} {csl_changed : Array (Option Value)} {t_ANY : Tok} {t_MOST_FIELDS : Tok} {t_MOST_LETTERS : Tok} {t_MOST_RULES : Tok} {t_MOST_VALUES : Tok} {C_SayError : Addr} {C_NoShape : Addr} {C_NoTable : Addr}
    (a_is_number : PySem.W.nsIn K mainGlobals "is_number" = some (some (.ref f_is_number)))
    (l_is_number : K.lookup f_is_number = some ⟨oc_is_number, od_is_number, .func (PySem.W.fnOf "is_number" "is_number" (defArgs s_is_number) (defBody s_is_number) (defScope s_is_number) .none kV_is_number dc_is_number pm_is_number an_is_number cd_is_number ct_is_number), sl_is_number⟩)
    (c_is_number : PySem.W.codeIn K cd_is_number "is_number" = true)
    (k_is_number : PySem.W.keepIn K (.ref f_is_number) = true)
    (a_is_shape : PySem.W.nsIn K mainGlobals "is_shape" = some (some (.ref f_is_shape)))
    (l_is_shape : K.lookup f_is_shape = some ⟨oc_is_shape, od_is_shape, .func (PySem.W.fnOf "is_shape" "is_shape" (defArgs s_is_shape) (defBody s_is_shape) (defScope s_is_shape) .none kV_is_shape dc_is_shape pm_is_shape an_is_shape cd_is_shape ct_is_shape), sl_is_shape⟩)
    (c_is_shape : PySem.W.codeIn K cd_is_shape "is_shape" = true)
    (k_is_shape : PySem.W.keepIn K (.ref f_is_shape) = true)
    (a_check_shape : PySem.W.nsIn K mainGlobals "check_shape" = some (some (.ref f_check_shape)))
    (l_check_shape : K.lookup f_check_shape = some ⟨oc_check_shape, od_check_shape, .func (PySem.W.fnOf "check_shape" "check_shape" (defArgs s_check_shape) (defBody s_check_shape) (defScope s_check_shape) .none kV_check_shape dc_check_shape pm_check_shape an_check_shape cd_check_shape ct_check_shape), sl_check_shape⟩)
    (c_check_shape : PySem.W.codeIn K cd_check_shape "check_shape" = true)
    (k_check_shape : PySem.W.keepIn K (.ref f_check_shape) = true)
    (a_letters_of : PySem.W.nsIn K mainGlobals "letters_of" = some (some (.ref f_letters_of)))
    (l_letters_of : K.lookup f_letters_of = some ⟨oc_letters_of, od_letters_of, .func (PySem.W.fnOf "letters_of" "letters_of" (defArgs s_letters_of) (defBody s_letters_of) (defScope s_letters_of) .none kV_letters_of dc_letters_of pm_letters_of an_letters_of cd_letters_of ct_letters_of), sl_letters_of⟩)
    (c_letters_of : PySem.W.codeIn K cd_letters_of "letters_of" = true)
    (k_letters_of : PySem.W.keepIn K (.ref f_letters_of) = true)
    (a_is_value_or_any : PySem.W.nsIn K mainGlobals "is_value_or_any" = some (some (.ref f_is_value_or_any)))
    (l_is_value_or_any : K.lookup f_is_value_or_any = some ⟨oc_is_value_or_any, od_is_value_or_any, .func (PySem.W.fnOf "is_value_or_any" "is_value_or_any" (defArgs s_is_value_or_any) (defBody s_is_value_or_any) (defScope s_is_value_or_any) .none kV_is_value_or_any dc_is_value_or_any pm_is_value_or_any an_is_value_or_any cd_is_value_or_any ct_is_value_or_any), sl_is_value_or_any⟩)
    (c_is_value_or_any : PySem.W.codeIn K cd_is_value_or_any "is_value_or_any" = true)
    (k_is_value_or_any : PySem.W.keepIn K (.ref f_is_value_or_any) = true)
    (a_is_match : PySem.W.nsIn K mainGlobals "is_match" = some (some (.ref f_is_match)))
    (l_is_match : K.lookup f_is_match = some ⟨oc_is_match, od_is_match, .func (PySem.W.fnOf "is_match" "is_match" (defArgs s_is_match) (defBody s_is_match) (defScope s_is_match) .none kV_is_match dc_is_match pm_is_match an_is_match cd_is_match ct_is_match), sl_is_match⟩)
    (c_is_match : PySem.W.codeIn K cd_is_match "is_match" = true)
    (k_is_match : PySem.W.keepIn K (.ref f_is_match) = true)
    (a_are_changes : PySem.W.nsIn K mainGlobals "are_changes" = some (some (.ref f_are_changes)))
    (l_are_changes : K.lookup f_are_changes = some ⟨oc_are_changes, od_are_changes, .func (PySem.W.fnOf "are_changes" "are_changes" (defArgs s_are_changes) (defBody s_are_changes) (defScope s_are_changes) .none kV_are_changes dc_are_changes pm_are_changes an_are_changes cd_are_changes ct_are_changes), sl_are_changes⟩)
    (c_are_changes : PySem.W.codeIn K cd_are_changes "are_changes" = true)
    (k_are_changes : PySem.W.keepIn K (.ref f_are_changes) = true)
    (a_is_rule : PySem.W.nsIn K mainGlobals "is_rule" = some (some (.ref f_is_rule)))
    (l_is_rule : K.lookup f_is_rule = some ⟨oc_is_rule, od_is_rule, .func (PySem.W.fnOf "is_rule" "is_rule" (defArgs s_is_rule) (defBody s_is_rule) (defScope s_is_rule) .none kV_is_rule dc_is_rule pm_is_rule an_is_rule cd_is_rule ct_is_rule), sl_is_rule⟩)
    (c_is_rule : PySem.W.codeIn K cd_is_rule "is_rule" = true)
    (k_is_rule : PySem.W.keepIn K (.ref f_is_rule) = true)
    (a_is_table : PySem.W.nsIn K mainGlobals "is_table" = some (some (.ref f_is_table)))
    (l_is_table : K.lookup f_is_table = some ⟨oc_is_table, od_is_table, .func (PySem.W.fnOf "is_table" "is_table" (defArgs s_is_table) (defBody s_is_table) (defScope s_is_table) .none kV_is_table dc_is_table pm_is_table an_is_table cd_is_table ct_is_table), sl_is_table⟩)
    (c_is_table : PySem.W.codeIn K cd_is_table "is_table" = true)
    (k_is_table : PySem.W.keepIn K (.ref f_is_table) = true)
    (a_check_table : PySem.W.nsIn K mainGlobals "check_table" = some (some (.ref f_check_table)))
    (l_check_table : K.lookup f_check_table = some ⟨oc_check_table, od_check_table, .func (PySem.W.fnOf "check_table" "check_table" (defArgs s_check_table) (defBody s_check_table) (defScope s_check_table) .none kV_check_table dc_check_table pm_check_table an_check_table cd_check_table ct_check_table), sl_check_table⟩)
    (c_check_table : PySem.W.codeIn K cd_check_table "check_table" = true)
    (k_check_table : PySem.W.keepIn K (.ref f_check_table) = true)
    (a_meets : PySem.W.nsIn K mainGlobals "meets" = some (some (.ref f_meets)))
    (l_meets : K.lookup f_meets = some ⟨oc_meets, od_meets, .func (PySem.W.fnOf "meets" "meets" (defArgs s_meets) (defBody s_meets) (defScope s_meets) .none kV_meets dc_meets pm_meets an_meets cd_meets ct_meets), sl_meets⟩)
    (c_meets : PySem.W.codeIn K cd_meets "meets" = true)
    (k_meets : PySem.W.keepIn K (.ref f_meets) = true)
    (a_changed : PySem.W.nsIn K mainGlobals "changed" = some (some (.ref f_changed)))
    (l_changed : K.lookup f_changed = some ⟨oc_changed, od_changed, .func (PySem.W.fnOf "changed" "changed" (defArgs s_changed) (defBody s_changed) (defScope s_changed) .none kV_changed dc_changed pm_changed an_changed cd_changed ct_changed), sl_changed⟩)
    (c_changed : PySem.W.codeIn K cd_changed "changed" = true)
    (k_changed : PySem.W.keepIn K (.ref f_changed) = true)
    (a_first_met : PySem.W.nsIn K mainGlobals "first_met" = some (some (.ref f_first_met)))
    (l_first_met : K.lookup f_first_met = some ⟨oc_first_met, od_first_met, .func (PySem.W.fnOf "first_met" "first_met" (defArgs s_first_met) (defBody s_first_met) (defScope s_first_met) .none kV_first_met dc_first_met pm_first_met an_first_met cd_first_met ct_first_met), sl_first_met⟩)
    (c_first_met : PySem.W.codeIn K cd_first_met "first_met" = true)
    (k_first_met : PySem.W.keepIn K (.ref f_first_met) = true)
    (a_becomes : PySem.W.nsIn K mainGlobals "becomes" = some (some (.ref f_becomes)))
    (l_becomes : K.lookup f_becomes = some ⟨oc_becomes, od_becomes, .func (PySem.W.fnOf "becomes" "becomes" (defArgs s_becomes) (defBody s_becomes) (defScope s_becomes) .none kV_becomes dc_becomes pm_becomes an_becomes cd_becomes ct_becomes), sl_becomes⟩)
    (c_becomes : PySem.W.codeIn K cd_becomes "becomes" = true)
    (k_becomes : PySem.W.keepIn K (.ref f_becomes) = true)
    (a_table_does : PySem.W.nsIn K mainGlobals "table_does" = some (some (.ref f_table_does)))
    (l_table_does : K.lookup f_table_does = some ⟨oc_table_does, od_table_does, .func (PySem.W.fnOf "table_does" "table_does" (defArgs s_table_does) (defBody s_table_does) (defScope s_table_does) .none kV_table_does dc_table_does pm_table_does an_table_does cd_table_does ct_table_does), sl_table_does⟩)
    (c_table_does : PySem.W.codeIn K cd_table_does "table_does" = true)
    (k_table_does : PySem.W.keepIn K (.ref f_table_does) = true)
    (a__law_mixed : PySem.W.nsIn K mainGlobals "_law_mixed" = some (some (.ref f__law_mixed)))
    (l__law_mixed : K.lookup f__law_mixed = some ⟨oc__law_mixed, od__law_mixed, .func (PySem.W.fnOf "_law_mixed" "_law_mixed" (defArgs s__law_mixed) (defBody s__law_mixed) (defScope s__law_mixed) .none kV__law_mixed dc__law_mixed pm__law_mixed an__law_mixed cd__law_mixed ct__law_mixed), sl__law_mixed⟩)
    (c__law_mixed : PySem.W.codeIn K cd__law_mixed "_law_mixed" = true)
    (k__law_mixed : PySem.W.keepIn K (.ref f__law_mixed) = true)
    (a__law_cell : PySem.W.nsIn K mainGlobals "_law_cell" = some (some (.ref f__law_cell)))
    (l__law_cell : K.lookup f__law_cell = some ⟨oc__law_cell, od__law_cell, .func (PySem.W.fnOf "_law_cell" "_law_cell" (defArgs s__law_cell) (defBody s__law_cell) (defScope s__law_cell) .none kV__law_cell dc__law_cell pm__law_cell an__law_cell cd__law_cell ct__law_cell), sl__law_cell⟩)
    (c__law_cell : PySem.W.codeIn K cd__law_cell "_law_cell" = true)
    (k__law_cell : PySem.W.keepIn K (.ref f__law_cell) = true)
    (a__law_take : PySem.W.nsIn K mainGlobals "_law_take" = some (some (.ref f__law_take)))
    (l__law_take : K.lookup f__law_take = some ⟨oc__law_take, od__law_take, .func (PySem.W.fnOf "_law_take" "_law_take" (defArgs s__law_take) (defBody s__law_take) (defScope s__law_take) .none kV__law_take dc__law_take pm__law_take an__law_take cd__law_take ct__law_take), sl__law_take⟩)
    (c__law_take : PySem.W.codeIn K cd__law_take "_law_take" = true)
    (k__law_take : PySem.W.keepIn K (.ref f__law_take) = true)
    (a__law_shape : PySem.W.nsIn K mainGlobals "_law_shape" = some (some (.ref f__law_shape)))
    (l__law_shape : K.lookup f__law_shape = some ⟨oc__law_shape, od__law_shape, .func (PySem.W.fnOf "_law_shape" "_law_shape" (defArgs s__law_shape) (defBody s__law_shape) (defScope s__law_shape) .none kV__law_shape dc__law_shape pm__law_shape an__law_shape cd__law_shape ct__law_shape), sl__law_shape⟩)
    (c__law_shape : PySem.W.codeIn K cd__law_shape "_law_shape" = true)
    (k__law_shape : PySem.W.keepIn K (.ref f__law_shape) = true)
    (a__law_letters : PySem.W.nsIn K mainGlobals "_law_letters" = some (some (.ref f__law_letters)))
    (l__law_letters : K.lookup f__law_letters = some ⟨oc__law_letters, od__law_letters, .func (PySem.W.fnOf "_law_letters" "_law_letters" (defArgs s__law_letters) (defBody s__law_letters) (defScope s__law_letters) .none kV__law_letters dc__law_letters pm__law_letters an__law_letters cd__law_letters ct__law_letters), sl__law_letters⟩)
    (c__law_letters : PySem.W.codeIn K cd__law_letters "_law_letters" = true)
    (k__law_letters : PySem.W.keepIn K (.ref f__law_letters) = true)
    (a__law_rule : PySem.W.nsIn K mainGlobals "_law_rule" = some (some (.ref f__law_rule)))
    (l__law_rule : K.lookup f__law_rule = some ⟨oc__law_rule, od__law_rule, .func (PySem.W.fnOf "_law_rule" "_law_rule" (defArgs s__law_rule) (defBody s__law_rule) (defScope s__law_rule) .none kV__law_rule dc__law_rule pm__law_rule an__law_rule cd__law_rule ct__law_rule), sl__law_rule⟩)
    (c__law_rule : PySem.W.codeIn K cd__law_rule "_law_rule" = true)
    (k__law_rule : PySem.W.keepIn K (.ref f__law_rule) = true)
    (a__law_table : PySem.W.nsIn K mainGlobals "_law_table" = some (some (.ref f__law_table)))
    (l__law_table : K.lookup f__law_table = some ⟨oc__law_table, od__law_table, .func (PySem.W.fnOf "_law_table" "_law_table" (defArgs s__law_table) (defBody s__law_table) (defScope s__law_table) .none kV__law_table dc__law_table pm__law_table an__law_table cd__law_table ct__law_table), sl__law_table⟩)
    (c__law_table : PySem.W.codeIn K cd__law_table "_law_table" = true)
    (k__law_table : PySem.W.keepIn K (.ref f__law_table) = true)
    (a__law_becomes : PySem.W.nsIn K mainGlobals "_law_becomes" = some (some (.ref f__law_becomes)))
    (l__law_becomes : K.lookup f__law_becomes = some ⟨oc__law_becomes, od__law_becomes, .func (PySem.W.fnOf "_law_becomes" "_law_becomes" (defArgs s__law_becomes) (defBody s__law_becomes) (defScope s__law_becomes) .none kV__law_becomes dc__law_becomes pm__law_becomes an__law_becomes cd__law_becomes ct__law_becomes), sl__law_becomes⟩)
    (c__law_becomes : PySem.W.codeIn K cd__law_becomes "_law_becomes" = true)
    (k__law_becomes : PySem.W.keepIn K (.ref f__law_becomes) = true)
    (a__law_long : PySem.W.nsIn K mainGlobals "_law_long" = some (some (.ref f__law_long)))
    (l__law_long : K.lookup f__law_long = some ⟨oc__law_long, od__law_long, .func (PySem.W.fnOf "_law_long" "_law_long" (defArgs s__law_long) (defBody s__law_long) (defScope s__law_long) .none kV__law_long dc__law_long pm__law_long an__law_long cd__law_long ct__law_long), sl__law_long⟩)
    (c__law_long : PySem.W.codeIn K cd__law_long "_law_long" = true)
    (k__law_long : PySem.W.keepIn K (.ref f__law_long) = true)
    (a_law : PySem.W.nsIn K mainGlobals "law" = some (some (.ref f_law)))
    (l_law : K.lookup f_law = some ⟨oc_law, od_law, .func (PySem.W.fnOf "law" "law" (defArgs s_law) (defBody s_law) (defScope s_law) .none kV_law dc_law pm_law an_law cd_law ct_law), sl_law⟩)
    (c_law : PySem.W.codeIn K cd_law "law" = true)
    (k_law : PySem.W.keepIn K (.ref f_law) = true)
    (qc_is_match : cd_is_match = .ref cc_is_match)
    (lc_is_match : K.lookup cc_is_match = some ⟨ce_is_match, cdd_is_match, .fields cvs_is_match, csl_is_match⟩)
    (qt_is_match : cvs_is_match[11]? = some (.ref tt_is_match))
    (nk_is_match : K.lookup tt_is_match = none)
    (tb_is_match : TabOf K mg h "is_match")
    (qc_are_changes : cd_are_changes = .ref cc_are_changes)
    (lc_are_changes : K.lookup cc_are_changes = some ⟨ce_are_changes, cdd_are_changes, .fields cvs_are_changes, csl_are_changes⟩)
    (qt_are_changes : cvs_are_changes[11]? = some (.ref tt_are_changes))
    (nk_are_changes : K.lookup tt_are_changes = none)
    (tb_are_changes : TabOf K mg h "are_changes")
    (qc_is_table : cd_is_table = .ref cc_is_table)
    (lc_is_table : K.lookup cc_is_table = some ⟨ce_is_table, cdd_is_table, .fields cvs_is_table, csl_is_table⟩)
    (qt_is_table : cvs_is_table[11]? = some (.ref tt_is_table))
    (nk_is_table : K.lookup tt_is_table = none)
    (tb_is_table : TabOf K mg h "is_table")
    (qc_meets : cd_meets = .ref cc_meets)
    (lc_meets : K.lookup cc_meets = some ⟨ce_meets, cdd_meets, .fields cvs_meets, csl_meets⟩)
    (qt_meets : cvs_meets[11]? = some (.ref tt_meets))
    (nk_meets : K.lookup tt_meets = none)
    (tb_meets : TabOf K mg h "meets")
    (qc_changed : cd_changed = .ref cc_changed)
    (lc_changed : K.lookup cc_changed = some ⟨ce_changed, cdd_changed, .fields cvs_changed, csl_changed⟩)
    (qt_changed : cvs_changed[11]? = some (.ref tt_changed))
    (nk_changed : K.lookup tt_changed = none)
    (tb_changed : TabOf K mg h "changed")
    (z_all : PySem.W.nsIn K mainGlobals "all" = some none)
    (z_bool : PySem.W.nsIn K mainGlobals "bool" = some none)
    (z_enumerate : PySem.W.nsIn K mainGlobals "enumerate" = some none)
    (z_int : PySem.W.nsIn K mainGlobals "int" = some none)
    (z_isinstance : PySem.W.nsIn K mainGlobals "isinstance" = some none)
    (z_len : PySem.W.nsIn K mainGlobals "len" = some none)
    (z_list : PySem.W.nsIn K mainGlobals "list" = some none)
    (z_max : PySem.W.nsIn K mainGlobals "max" = some none)
    (z_range : PySem.W.nsIn K mainGlobals "range" = some none)
    (z_repr : PySem.W.nsIn K mainGlobals "repr" = some none)
    (z_set : PySem.W.nsIn K mainGlobals "set" = some none)
    (z_sorted : PySem.W.nsIn K mainGlobals "sorted" = some none)
    (z_tuple : PySem.W.nsIn K mainGlobals "tuple" = some none)
    (z_zip : PySem.W.nsIn K mainGlobals "zip" = some none)
    (q_ANY : PySem.W.nsIn K mainGlobals "ANY" = some (some (.int (-1) t_ANY)))
    (q_MOST_FIELDS : PySem.W.nsIn K mainGlobals "MOST_FIELDS" = some (some (.int (3) t_MOST_FIELDS)))
    (q_MOST_LETTERS : PySem.W.nsIn K mainGlobals "MOST_LETTERS" = some (some (.int (27) t_MOST_LETTERS)))
    (q_MOST_RULES : PySem.W.nsIn K mainGlobals "MOST_RULES" = some (some (.int (60) t_MOST_RULES)))
    (q_MOST_VALUES : PySem.W.nsIn K mainGlobals "MOST_VALUES" = some (some (.int (4) t_MOST_VALUES)))
    (g_SayError : PySem.W.nsIn K mainGlobals "SayError" = some (some (.ref C_SayError)))
    (g_NoShape : PySem.W.nsIn K mainGlobals "NoShape" = some (some (.ref C_NoShape)))
    (g_NoTable : PySem.W.nsIn K mainGlobals "NoTable" = some (some (.ref C_NoTable)))
    (x_NoShape : PySem.W.excIn K C_NoShape [.type "ValueError", .type "Exception", .type "BaseException", .type "object"] "ValueError.__new__" = true)
    (p_NoShape : PySem.W.keepIn K (.ref C_NoShape) = true)
    (u_NoShape : PySem.W.subIn K (.ref C_NoShape) (.type "BaseException") = some true)
    (t_NoShape : PySem.W.typeIn K (.ref C_NoShape) = some (.type "type"))
    (x_NoTable : PySem.W.excIn K C_NoTable [.type "ValueError", .type "Exception", .type "BaseException", .type "object"] "ValueError.__new__" = true)
    (p_NoTable : PySem.W.keepIn K (.ref C_NoTable) = true)
    (u_NoTable : PySem.W.subIn K (.ref C_NoTable) (.type "BaseException") = some true)
    (t_NoTable : PySem.W.typeIn K (.ref C_NoTable) = some (.type "type")) :
    ∃ (fd : FuncData) (cs : List (Addr × Addr)) (sp : Sp), (∀ (s : Shared) (v : Value), BindsTo s fd ⟨[v], []⟩ [("_law_script", v)]) ∧ (∀ p ∈ cs, h.get? p.2 = some tab0 ∧ K.lookup p.2 = none ∧ PySem.W.CodeHd h p.1 p.2) ∧
      (∀ base : Heap, K.In base → base.Ns mainGlobals mg → (∀ p ∈ cs, GxR.TabB base mg p.1 p.2) → FnG P w K mg base 12 fa fd ["_law_script"] sp) ∧
      ∀ (H : Hp) (a : Addr) (ns : List Int), ns.length ≤ 63 → (∀ p ∈ cs, H p.2 = some (.tbl #[])) → SqL K H a (ns.map V.int) → sp [.ref a] H (fun v _ => v = .bl true) fun _ _ _ => False := by
  have e := hfa.symm.trans (PySem.W.mg_of X G a_law)
  cases e
  let Z : Zs := ⟨C_SayError, C_NoShape, C_NoTable, cc_is_match, tt_is_match, cc_are_changes, tt_are_changes, cc_is_table, tt_is_table, cc_meets, tt_meets, cc_changed, tt_changed⟩
  let _ : TbS := ⟨fun b => b ∈ [tt_is_match, tt_are_changes, tt_is_table, tt_meets, tt_changed]⟩
  have T : Txt K mg Z w := { b_all := PySem.W.mg_none_of X G z_all, b_bool := PySem.W.mg_none_of X G z_bool, b_enumerate := PySem.W.mg_none_of X G z_enumerate, b_int := PySem.W.mg_none_of X G z_int, b_isinstance := PySem.W.mg_none_of X G z_isinstance, b_len := PySem.W.mg_none_of X G z_len, b_list := PySem.W.mg_none_of X G z_list, b_max := PySem.W.mg_none_of X G z_max, b_range := PySem.W.mg_none_of X G z_range, b_repr := PySem.W.mg_none_of X G z_repr, b_set := PySem.W.mg_none_of X G z_set, b_sorted := PySem.W.mg_none_of X G z_sorted, b_tuple := PySem.W.mg_none_of X G z_tuple, b_zip := PySem.W.mg_none_of X G z_zip, k_ANY := by unfold tok_ANY; rw [PySem.W.mg_of X G q_ANY], k_MOST_FIELDS := by unfold tok_MOST_FIELDS; rw [PySem.W.mg_of X G q_MOST_FIELDS], k_MOST_LETTERS := by unfold tok_MOST_LETTERS; rw [PySem.W.mg_of X G q_MOST_LETTERS], k_MOST_RULES := by unfold tok_MOST_RULES; rw [PySem.W.mg_of X G q_MOST_RULES], k_MOST_VALUES := by unfold tok_MOST_VALUES; rw [PySem.W.mg_of X G q_MOST_VALUES], c_SayError := PySem.W.mg_of X G g_SayError, c_NoShape := PySem.W.mg_of X G g_NoShape, c_NoTable := PySem.W.mg_of X G g_NoTable, x_NoShape := x_NoShape, p_NoShape := p_NoShape, u_NoShape := u_NoShape, t_NoShape := t_NoShape, x_NoTable := x_NoTable, p_NoTable := p_NoTable, u_NoTable := u_NoTable, t_NoTable := t_NoTable }
  have FC : Fcts K Z := { ok := trivial }
  have F_is_number := fun_mk (st := s_is_number) l_is_number c_is_number k_is_number
  have F_is_shape := fun_mk (st := s_is_shape) l_is_shape c_is_shape k_is_shape
  have F_check_shape := fun_mk (st := s_check_shape) l_check_shape c_check_shape k_check_shape
  have F_letters_of := fun_mk (st := s_letters_of) l_letters_of c_letters_of k_letters_of
  have F_is_value_or_any := fun_mk (st := s_is_value_or_any) l_is_value_or_any c_is_value_or_any k_is_value_or_any
  have F_is_match := fun_mk (st := s_is_match) l_is_match c_is_match k_is_match
  have F_are_changes := fun_mk (st := s_are_changes) l_are_changes c_are_changes k_are_changes
  have F_is_rule := fun_mk (st := s_is_rule) l_is_rule c_is_rule k_is_rule
  have F_is_table := fun_mk (st := s_is_table) l_is_table c_is_table k_is_table
  have F_check_table := fun_mk (st := s_check_table) l_check_table c_check_table k_check_table
  have F_meets := fun_mk (st := s_meets) l_meets c_meets k_meets
  have F_changed := fun_mk (st := s_changed) l_changed c_changed k_changed
  have F_first_met := fun_mk (st := s_first_met) l_first_met c_first_met k_first_met
  have F_becomes := fun_mk (st := s_becomes) l_becomes c_becomes k_becomes
  have F_table_does := fun_mk (st := s_table_does) l_table_does c_table_does k_table_does
  have F__law_mixed := fun_mk (st := s__law_mixed) l__law_mixed c__law_mixed k__law_mixed
  have F__law_cell := fun_mk (st := s__law_cell) l__law_cell c__law_cell k__law_cell
  have F__law_take := fun_mk (st := s__law_take) l__law_take c__law_take k__law_take
  have F__law_shape := fun_mk (st := s__law_shape) l__law_shape c__law_shape k__law_shape
  have F__law_letters := fun_mk (st := s__law_letters) l__law_letters c__law_letters k__law_letters
  have F__law_rule := fun_mk (st := s__law_rule) l__law_rule c__law_rule k__law_rule
  have F__law_table := fun_mk (st := s__law_table) l__law_table c__law_table k__law_table
  have F__law_becomes := fun_mk (st := s__law_becomes) l__law_becomes c__law_becomes k__law_becomes
  have F__law_long := fun_mk (st := s__law_long) l__law_long c__law_long k__law_long
  have F_law := fun_mk (st := s_law) l_law c_law k_law
  have y_is_match := tb_is_match _ cc_is_match tt_is_match _ _ _ _ _ _ (PySem.W.mg_of X G a_is_match) l_is_match rfl qc_is_match lc_is_match qt_is_match
  have y_are_changes := tb_are_changes _ cc_are_changes tt_are_changes _ _ _ _ _ _ (PySem.W.mg_of X G a_are_changes) l_are_changes rfl qc_are_changes lc_are_changes qt_are_changes
  have y_is_table := tb_is_table _ cc_is_table tt_is_table _ _ _ _ _ _ (PySem.W.mg_of X G a_is_table) l_is_table rfl qc_is_table lc_is_table qt_is_table
  have y_meets := tb_meets _ cc_meets tt_meets _ _ _ _ _ _ (PySem.W.mg_of X G a_meets) l_meets rfl qc_meets lc_meets qt_meets
  have y_changed := tb_changed _ cc_changed tt_changed _ _ _ _ _ _ (PySem.W.mg_of X G a_changed) l_changed rfl qc_changed lc_changed qt_changed
  refine ⟨PySem.W.fnOf "law" "law" (defArgs s_law) (defBody s_law) (defScope s_law) .none kV_law dc_law pm_law an_law cd_law ct_law, [(cc_is_match, tt_is_match), (cc_are_changes, tt_are_changes), (cc_is_table, tt_is_table), (cc_meets, tt_meets), (cc_changed, tt_changed)], spD K 1 (fn_law Z), fun s v => .of_eq rfl, ?_, fun base _ _ tbs => ?_, fun H a ns hl hH hS => ?_⟩
  case refine_1 =>
    simp only [List.forall_mem_cons]
    exact ⟨⟨y_is_match.1, nk_is_match, y_is_match.2⟩, ⟨y_are_changes.1, nk_are_changes, y_are_changes.2⟩, ⟨y_is_table.1, nk_is_table, y_is_table.2⟩, ⟨y_meets.1, nk_meets, y_meets.2⟩, ⟨y_changed.1, nk_changed, y_changed.2⟩, fun p hp => by cases hp⟩
  case refine_3 =>
    obtain ⟨ps', e, hl'⟩ := true_law K Z FC ns hl
    refine law_sp hS (fun b hb => ?_) e hl'
    simp only [List.forall_mem_cons] at hH
    replace hb : b ∈ [tt_is_match, tt_are_changes, tt_is_table, tt_meets, tt_changed] := hb
    simp only [List.mem_cons, List.not_mem_nil, or_false] at hb
    obtain ⟨hh_is_match, hh_are_changes, hh_is_table, hh_meets, hh_changed, _⟩ := hH
    rcases hb with rfl | rfl | rfl | rfl | rfl
    · exact ⟨#[], hh_is_match, trivial⟩
    · exact ⟨#[], hh_are_changes, trivial⟩
    · exact ⟨#[], hh_is_table, trivial⟩
    · exact ⟨#[], hh_meets, trivial⟩
    · exact ⟨#[], hh_changed, trivial⟩
  simp only [List.forall_mem_cons] at tbs
  obtain ⟨B_is_match, B_are_changes, B_is_table, B_meets, B_changed, _⟩ := tbs
  have E_is_number : FnE P w K mg base 1 "is_number" ["thing"] fn_is_number := ⟨⟨_, _, ok_is_number T F_is_number, PySem.W.mg_of X G a_is_number, k_is_number, F_is_number.binds (ps := ["thing"]) fun _ _ _ _ _ _ us hl => match us, hl with | [_], _ => rfl⟩, fun qs z e => fnD_len qs z e⟩
  have E_is_shape : FnE P w K mg base 2 "is_shape" ["thing"] fn_is_shape := ⟨⟨_, _, ok_is_shape T F_is_shape E_is_number, PySem.W.mg_of X G a_is_shape, k_is_shape, F_is_shape.binds (ps := ["thing"]) fun _ _ _ _ _ _ us hl => match us, hl with | [_], _ => rfl⟩, fun qs z e => fnD_len qs z e⟩
  have E_check_shape : FnE P w K mg base 3 "check_shape" ["shape"] (fn_check_shape Z) := ⟨⟨_, _, ok_check_shape T F_check_shape E_is_shape, PySem.W.mg_of X G a_check_shape, k_check_shape, F_check_shape.binds (ps := ["shape"]) fun _ _ _ _ _ _ us hl => match us, hl with | [_], _ => rfl⟩, fun qs z e => fnD_len qs z e⟩
  have E_letters_of : FnE P w K mg base 4 "letters_of" ["shape"] (fn_letters_of Z) := ⟨⟨_, _, ok_letters_of T F_letters_of E_check_shape, PySem.W.mg_of X G a_letters_of, k_letters_of, F_letters_of.binds (ps := ["shape"]) fun _ _ _ _ _ _ us hl => match us, hl with | [_], _ => rfl⟩, fun qs z e => fnD_len qs z e⟩
  have E_is_value_or_any : FnE P w K mg base 2 "is_value_or_any" ["thing", "many"] fn_is_value_or_any := ⟨⟨_, _, ok_is_value_or_any T F_is_value_or_any E_is_number, PySem.W.mg_of X G a_is_value_or_any, k_is_value_or_any, F_is_value_or_any.binds (ps := ["thing", "many"]) fun _ _ _ _ _ _ us hl => match us, hl with | [_, _], _ => rfl⟩, fun qs z e => fnD_len qs z e⟩
  have E_is_match : FnE P w K mg base 4 "is_match" ["shape", "thing"] fn_is_match := ⟨⟨_, _, ok_is_match T F_is_match qc_is_match B_is_match (show tt_is_match ∈ [tt_is_match, tt_are_changes, tt_is_table, tt_meets, tt_changed] by simp) E_is_value_or_any, PySem.W.mg_of X G a_is_match, k_is_match, F_is_match.binds (ps := ["shape", "thing"]) fun _ _ _ _ _ _ us hl => match us, hl with | [_, _], _ => rfl⟩, fun qs z e => fnD_len qs z e⟩
  have E_are_changes : FnE P w K mg base 6 "are_changes" ["shape", "thing"] fn_are_changes := ⟨⟨_, _, ok_are_changes T F_are_changes qc_are_changes B_are_changes (show tt_are_changes ∈ [tt_is_match, tt_are_changes, tt_is_table, tt_meets, tt_changed] by simp) E_is_match, PySem.W.mg_of X G a_are_changes, k_are_changes, F_are_changes.binds (ps := ["shape", "thing"]) fun _ _ _ _ _ _ us hl => match us, hl with | [_, _], _ => rfl⟩, fun qs z e => fnD_len qs z e⟩
  have E_is_rule : FnE P w K mg base 7 "is_rule" ["shape", "thing"] fn_is_rule := ⟨⟨_, _, ok_is_rule T F_is_rule E_is_match E_are_changes, PySem.W.mg_of X G a_is_rule, k_is_rule, F_is_rule.binds (ps := ["shape", "thing"]) fun _ _ _ _ _ _ us hl => match us, hl with | [_, _], _ => rfl⟩, fun qs z e => fnD_len qs z e⟩
  have E_is_table : FnE P w K mg base 9 "is_table" ["shape", "thing"] (fn_is_table Z) := ⟨⟨_, _, ok_is_table T F_is_table qc_is_table B_is_table (show tt_is_table ∈ [tt_is_match, tt_are_changes, tt_is_table, tt_meets, tt_changed] by simp) E_check_shape E_is_rule, PySem.W.mg_of X G a_is_table, k_is_table, F_is_table.binds (ps := ["shape", "thing"]) fun _ _ _ _ _ _ us hl => match us, hl with | [_, _], _ => rfl⟩, fun qs z e => fnD_len qs z e⟩
  have E_check_table : FnE P w K mg base 10 "check_table" ["shape", "table"] (fn_check_table Z) := ⟨⟨_, _, ok_check_table T F_check_table E_is_table, PySem.W.mg_of X G a_check_table, k_check_table, F_check_table.binds (ps := ["shape", "table"]) fun _ _ _ _ _ _ us hl => match us, hl with | [_, _], _ => rfl⟩, fun qs z e => fnD_len qs z e⟩
  have E_meets : FnE P w K mg base 2 "meets" ["letter", "match"] fn_meets := ⟨⟨_, _, ok_meets T F_meets qc_meets B_meets (show tt_meets ∈ [tt_is_match, tt_are_changes, tt_is_table, tt_meets, tt_changed] by simp), PySem.W.mg_of X G a_meets, k_meets, F_meets.binds (ps := ["letter", "match"]) fun _ _ _ _ _ _ us hl => match us, hl with | [_, _], _ => rfl⟩, fun qs z e => fnD_len qs z e⟩
  have E_changed : FnE P w K mg base 2 "changed" ["letter", "change"] fn_changed := ⟨⟨_, _, ok_changed T F_changed qc_changed B_changed (show tt_changed ∈ [tt_is_match, tt_are_changes, tt_is_table, tt_meets, tt_changed] by simp), PySem.W.mg_of X G a_changed, k_changed, F_changed.binds (ps := ["letter", "change"]) fun _ _ _ _ _ _ us hl => match us, hl with | [_, _], _ => rfl⟩, fun qs z e => fnD_len qs z e⟩
  have E_first_met : FnE P w K mg base 3 "first_met" ["letter", "rules"] fn_first_met := ⟨⟨_, _, ok_first_met T F_first_met E_meets, PySem.W.mg_of X G a_first_met, k_first_met, F_first_met.binds (ps := ["letter", "rules"]) fun _ _ _ _ _ _ us hl => match us, hl with | [_, _], _ => rfl⟩, fun qs z e => fnD_len qs z e⟩
  have E_becomes : FnE P w K mg base 4 "becomes" ["letter", "rules"] fn_becomes := ⟨⟨_, _, ok_becomes T F_becomes E_changed E_first_met, PySem.W.mg_of X G a_becomes, k_becomes, F_becomes.binds (ps := ["letter", "rules"]) fun _ _ _ _ _ _ us hl => match us, hl with | [_, _], _ => rfl⟩, fun qs z e => fnD_len qs z e⟩
  have E_table_does : FnE P w K mg base 11 "table_does" ["shape", "table"] (fn_table_does Z) := ⟨⟨_, _, ok_table_does T F_table_does E_letters_of E_check_table E_becomes, PySem.W.mg_of X G a_table_does, k_table_does, F_table_does.binds (ps := ["shape", "table"]) fun _ _ _ _ _ _ us hl => match us, hl with | [_, _], _ => rfl⟩, fun qs z e => fnD_len qs z e⟩
  have E__law_mixed : FnE P w K mg base 1 "_law_mixed" ["_law_cell_here", "_law_k"] fn__law_mixed := ⟨⟨_, _, ok__law_mixed T F__law_mixed, PySem.W.mg_of X G a__law_mixed, k__law_mixed, F__law_mixed.binds (ps := ["_law_cell_here", "_law_k"]) fun _ _ _ _ _ _ us hl => match us, hl with | [_, _], _ => rfl⟩, fun qs z e => fnD_len qs z e⟩
  have E__law_cell : FnE P w K mg base 2 "_law_cell" ["_law_script", "_law_k"] fn__law_cell := ⟨⟨_, _, ok__law_cell T F__law_cell E__law_mixed, PySem.W.mg_of X G a__law_cell, k__law_cell, F__law_cell.binds (ps := ["_law_script", "_law_k"]) fun _ _ _ _ _ _ us hl => match us, hl with | [_, _], _ => rfl⟩, fun qs z e => fnD_len qs z e⟩
  have E__law_take : FnE P w K mg base 1 "_law_take" ["_law_pile", "_law_size"] fn__law_take := ⟨⟨_, _, ok__law_take T F__law_take, PySem.W.mg_of X G a__law_take, k__law_take, F__law_take.binds (ps := ["_law_pile", "_law_size"]) fun _ _ _ _ _ _ us hl => match us, hl with | [_, _], _ => rfl⟩, fun qs z e => fnD_len qs z e⟩
  have E__law_shape : FnE P w K mg base 2 "_law_shape" ["_law_pile"] fn__law_shape := ⟨⟨_, _, ok__law_shape T F__law_shape E__law_take, PySem.W.mg_of X G a__law_shape, k__law_shape, F__law_shape.binds (ps := ["_law_pile"]) fun _ _ _ _ _ _ us hl => match us, hl with | [_], _ => rfl⟩, fun qs z e => fnD_len qs z e⟩
  have E__law_letters : FnE P w K mg base 1 "_law_letters" ["_law_shape_here"] fn__law_letters := ⟨⟨_, _, ok__law_letters T F__law_letters, PySem.W.mg_of X G a__law_letters, k__law_letters, F__law_letters.binds (ps := ["_law_shape_here"]) fun _ _ _ _ _ _ us hl => match us, hl with | [_], _ => rfl⟩, fun qs z e => fnD_len qs z e⟩
  have E__law_rule : FnE P w K mg base 2 "_law_rule" ["_law_pile", "_law_shape_here"] fn__law_rule := ⟨⟨_, _, ok__law_rule T F__law_rule E__law_take, PySem.W.mg_of X G a__law_rule, k__law_rule, F__law_rule.binds (ps := ["_law_pile", "_law_shape_here"]) fun _ _ _ _ _ _ us hl => match us, hl with | [_, _], _ => rfl⟩, fun qs z e => fnD_len qs z e⟩
  have E__law_table : FnE P w K mg base 3 "_law_table" ["_law_pile", "_law_shape_here"] fn__law_table := ⟨⟨_, _, ok__law_table T F__law_table E__law_take E__law_rule, PySem.W.mg_of X G a__law_table, k__law_table, F__law_table.binds (ps := ["_law_pile", "_law_shape_here"]) fun _ _ _ _ _ _ us hl => match us, hl with | [_, _], _ => rfl⟩, fun qs z e => fnD_len qs z e⟩
  have E__law_becomes : FnE P w K mg base 1 "_law_becomes" ["_law_table_here", "_law_letter"] fn__law_becomes := ⟨⟨_, _, ok__law_becomes T F__law_becomes, PySem.W.mg_of X G a__law_becomes, k__law_becomes, F__law_becomes.binds (ps := ["_law_table_here", "_law_letter"]) fun _ _ _ _ _ _ us hl => match us, hl with | [_, _], _ => rfl⟩, fun qs z e => fnD_len qs z e⟩
  have E__law_long : FnE P w K mg base 2 "_law_long" ["_law_pile", "_law_shape_here", "_law_table_here"] fn__law_long := ⟨⟨_, _, ok__law_long T F__law_long E__law_take, PySem.W.mg_of X G a__law_long, k__law_long, F__law_long.binds (ps := ["_law_pile", "_law_shape_here", "_law_table_here"]) fun _ _ _ _ _ _ us hl => match us, hl with | [_, _, _], _ => rfl⟩, fun qs z e => fnD_len qs z e⟩
  exact ok_law T F_law E_table_does E__law_cell E__law_shape E__law_letters E__law_table E__law_becomes E__law_long

end K7
open PySem PySem.W PyProof.Rows
set_option maxRecDepth 100000 in
set_option maxHeartbeats 0 in
theorem PySem.Challenge.cw_roadsay_k57_what_tables_do_holds : PySem.Challenge.rw_roadsay_k57_what_tables_do.Holds := by
  w_on; o_law; k_head; (case hw => w_witness2)
  k_fill
  refine Q.walk_gT (l := PySem.Challenge.rw_roadsay_k57_what_tables_do) (n := 63) (k := 12) (x := "_law_script") rfl (by decide) rfl ⟨rfl, by decide, by decide⟩ (fun w h Y => PySem.W.kIn_of Y) ?F
  case F =>
    intro w mg fa h KX G hmg tabs
    refine' K7.all_mk K7.true_law KX G hmg ?a_is_number ?l_is_number ?c_is_number ?k_is_number ?a_is_shape ?l_is_shape ?c_is_shape ?k_is_shape ?a_check_shape ?l_check_shape ?c_check_shape ?k_check_shape ?a_letters_of ?l_letters_of ?c_letters_of ?k_letters_of ?a_is_value_or_any ?l_is_value_or_any ?c_is_value_or_any ?k_is_value_or_any ?a_is_match ?l_is_match ?c_is_match ?k_is_match ?a_are_changes ?l_are_changes ?c_are_changes ?k_are_changes ?a_is_rule ?l_is_rule ?c_is_rule ?k_is_rule ?a_is_table ?l_is_table ?c_is_table ?k_is_table ?a_check_table ?l_check_table ?c_check_table ?k_check_table ?a_meets ?l_meets ?c_meets ?k_meets ?a_changed ?l_changed ?c_changed ?k_changed ?a_first_met ?l_first_met ?c_first_met ?k_first_met ?a_becomes ?l_becomes ?c_becomes ?k_becomes ?a_table_does ?l_table_does ?c_table_does ?k_table_does ?a__law_mixed ?l__law_mixed ?c__law_mixed ?k__law_mixed ?a__law_cell ?l__law_cell ?c__law_cell ?k__law_cell ?a__law_take ?l__law_take ?c__law_take ?k__law_take ?a__law_shape ?l__law_shape ?c__law_shape ?k__law_shape ?a__law_letters ?l__law_letters ?c__law_letters ?k__law_letters ?a__law_rule ?l__law_rule ?c__law_rule ?k__law_rule ?a__law_table ?l__law_table ?c__law_table ?k__law_table ?a__law_becomes ?l__law_becomes ?c__law_becomes ?k__law_becomes ?a__law_long ?l__law_long ?c__law_long ?k__law_long ?a_law ?l_law ?c_law ?k_law ?qc_is_match ?lc_is_match ?qt_is_match ?nk_is_match ?tb_is_match ?qc_are_changes ?lc_are_changes ?qt_are_changes ?nk_are_changes ?tb_are_changes ?qc_is_table ?lc_is_table ?qt_is_table ?nk_is_table ?tb_is_table ?qc_meets ?lc_meets ?qt_meets ?nk_meets ?tb_meets ?qc_changed ?lc_changed ?qt_changed ?nk_changed ?tb_changed ?z_all ?z_bool ?z_enumerate ?z_int ?z_isinstance ?z_len ?z_list ?z_max ?z_range ?z_repr ?z_set ?z_sorted ?z_tuple ?z_zip ?q_ANY ?q_MOST_FIELDS ?q_MOST_LETTERS ?q_MOST_RULES ?q_MOST_VALUES ?g_SayError ?g_NoShape ?g_NoTable ?x_NoShape ?p_NoShape ?u_NoShape ?t_NoShape ?x_NoTable ?p_NoTable ?u_NoTable ?t_NoTable
    (case a_is_number => k_is)
    (case l_is_number => k_is)
    (case c_is_number => k_is)
    (case k_is_number => k_is)
    (case a_is_shape => k_is)
    (case l_is_shape => k_is)
    (case c_is_shape => k_is)
    (case k_is_shape => k_is)
    (case a_check_shape => k_is)
    (case l_check_shape => k_is)
    (case c_check_shape => k_is)
    (case k_check_shape => k_is)
    (case a_letters_of => k_is)
    (case l_letters_of => k_is)
    (case c_letters_of => k_is)
    (case k_letters_of => k_is)
    (case a_is_value_or_any => k_is)
    (case l_is_value_or_any => k_is)
    (case c_is_value_or_any => k_is)
    (case k_is_value_or_any => k_is)
    (case a_is_match => k_is)
    (case l_is_match => k_is)
    (case c_is_match => k_is)
    (case k_is_match => k_is)
    (case a_are_changes => k_is)
    (case l_are_changes => k_is)
    (case c_are_changes => k_is)
    (case k_are_changes => k_is)
    (case a_is_rule => k_is)
    (case l_is_rule => k_is)
    (case c_is_rule => k_is)
    (case k_is_rule => k_is)
    (case a_is_table => k_is)
    (case l_is_table => k_is)
    (case c_is_table => k_is)
    (case k_is_table => k_is)
    (case a_check_table => k_is)
    (case l_check_table => k_is)
    (case c_check_table => k_is)
    (case k_check_table => k_is)
    (case a_meets => k_is)
    (case l_meets => k_is)
    (case c_meets => k_is)
    (case k_meets => k_is)
    (case a_changed => k_is)
    (case l_changed => k_is)
    (case c_changed => k_is)
    (case k_changed => k_is)
    (case a_first_met => k_is)
    (case l_first_met => k_is)
    (case c_first_met => k_is)
    (case k_first_met => k_is)
    (case a_becomes => k_is)
    (case l_becomes => k_is)
    (case c_becomes => k_is)
    (case k_becomes => k_is)
    (case a_table_does => k_is)
    (case l_table_does => k_is)
    (case c_table_does => k_is)
    (case k_table_does => k_is)
    (case a__law_mixed => k_is)
    (case l__law_mixed => k_is)
    (case c__law_mixed => k_is)
    (case k__law_mixed => k_is)
    (case a__law_cell => k_is)
    (case l__law_cell => k_is)
    (case c__law_cell => k_is)
    (case k__law_cell => k_is)
    (case a__law_take => k_is)
    (case l__law_take => k_is)
    (case c__law_take => k_is)
    (case k__law_take => k_is)
    (case a__law_shape => k_is)
    (case l__law_shape => k_is)
    (case c__law_shape => k_is)
    (case k__law_shape => k_is)
    (case a__law_letters => k_is)
    (case l__law_letters => k_is)
    (case c__law_letters => k_is)
    (case k__law_letters => k_is)
    (case a__law_rule => k_is)
    (case l__law_rule => k_is)
    (case c__law_rule => k_is)
    (case k__law_rule => k_is)
    (case a__law_table => k_is)
    (case l__law_table => k_is)
    (case c__law_table => k_is)
    (case k__law_table => k_is)
    (case a__law_becomes => k_is)
    (case l__law_becomes => k_is)
    (case c__law_becomes => k_is)
    (case k__law_becomes => k_is)
    (case a__law_long => k_is)
    (case l__law_long => k_is)
    (case c__law_long => k_is)
    (case k__law_long => k_is)
    (case a_law => k_is)
    (case l_law => k_is)
    (case c_law => k_is)
    (case k_law => k_is)
    (case qc_is_match => rfl)
    (case lc_is_match => rfl)
    (case qt_is_match => rfl)
    (case nk_is_match => rfl)
    (case tb_is_match => exact tabs _ (by rfl))
    (case qc_are_changes => rfl)
    (case lc_are_changes => rfl)
    (case qt_are_changes => rfl)
    (case nk_are_changes => rfl)
    (case tb_are_changes => exact tabs _ (by rfl))
    (case qc_is_table => rfl)
    (case lc_is_table => rfl)
    (case qt_is_table => rfl)
    (case nk_is_table => rfl)
    (case tb_is_table => exact tabs _ (by rfl))
    (case qc_meets => rfl)
    (case lc_meets => rfl)
    (case qt_meets => rfl)
    (case nk_meets => rfl)
    (case tb_meets => exact tabs _ (by rfl))
    (case qc_changed => rfl)
    (case lc_changed => rfl)
    (case qt_changed => rfl)
    (case nk_changed => rfl)
    (case tb_changed => exact tabs _ (by rfl))
    (case z_all => k_is)
    (case z_bool => k_is)
    (case z_enumerate => k_is)
    (case z_int => k_is)
    (case z_isinstance => k_is)
    (case z_len => k_is)
    (case z_list => k_is)
    (case z_max => k_is)
    (case z_range => k_is)
    (case z_repr => k_is)
    (case z_set => k_is)
    (case z_sorted => k_is)
    (case z_tuple => k_is)
    (case z_zip => k_is)
    (case q_ANY => k_is)
    (case q_MOST_FIELDS => k_is)
    (case q_MOST_LETTERS => k_is)
    (case q_MOST_RULES => k_is)
    (case q_MOST_VALUES => k_is)
    (case g_SayError => k_is)
    (case g_NoShape => k_is)
    (case g_NoTable => k_is)
    (case x_NoShape => k_exc)
    (case p_NoShape => k_is)
    (case u_NoShape => k_is)
    (case t_NoShape => k_is)
    (case x_NoTable => k_exc)
    (case p_NoTable => k_is)
    (case u_NoTable => k_is)
    (case t_NoTable => k_is)
