import PyProof.Rows.All
import Wide.All
import OpenK.AllK
import Wide.FinOn
import HandS.AnyAll
import HandS.GenCall
import HandS.Lambda
import HandS.ForMost
import HandS.ForExc
import HandS.IsInst
import HandS.Evl
import HandS.ExcInit
import HandS.Conv
import PySem.Challenge.RW_markspass_k02_whole_rows
import HandS.ExcField
import HandS.ExcIs
import HandS.ClsMeth
import HandS.FStr
import PyProof.FString2
import KE.GoesEnum
import KE.GoesMore
import HandS.List
import HandS.TupAny
import KE.KLam
import KE.KExcIs
import PyProof.Rows.CountFlat
import HandS.TupMul
import HandS.WordsExc
import HandS.Head2
import HandS.HeadHook4
import HandS.HeadWalk
/-! ### MkGen -/
set_option Elab.async false
set_option linter.all false
set_option maxRecDepth 100000
set_option maxHeartbeats 4000000
namespace Mk
open PySem PySem.Spec PyProof.Rows L2

theorem over_gen {A : Around} {elt target iter : Expr} {ifs : List Expr} {scope : Scope} {pos : Pos} {it acc : Value} {env : Env} :
    A.over (.compLoop (.GeneratorExp elt [⟨target, iter, ifs, 0⟩] scope pos) 0 it acc env) [] = A.deeper env := by
  first
  | rfl
  | (obtain ⟨hd, d, fr, gs, u⟩ := A; simp [Around.over, Around.deeper, marksOver, frameCount, unitsOf, envsOf, guardsOf, pushEnvs, pushGuards, Code.envs, Code.env?, Code.isFrame, Code.guards, Code.isGuard, Code.weight, Code.frames, Code.isCreation, Code.isCaller, Code.cUnits])
theorem over_genS {A : Around} {elt target iter : Expr} {ifs : List Expr} {scope : Scope} {pos : Pos} {it acc : Value} {env : Env} :
    A.over (.compStart (.GeneratorExp elt [⟨target, iter, ifs, 0⟩] scope pos) 0 it acc env) [] = A.deeper env := by
  first
  | rfl
  | (obtain ⟨hd, d, fr, gs, u⟩ := A; simp [Around.over, Around.deeper, marksOver, frameCount, unitsOf, envsOf, guardsOf, pushEnvs, pushGuards, Code.envs, Code.env?, Code.isFrame, Code.guards, Code.isGuard, Code.weight, Code.frames, Code.isCreation, Code.isCaller, Code.cUnits])

theorem wipe_get_out {σ : L2.St} {i : Nat} : ∀ {vs : List Nat}, i ∉ vs → (wipe σ vs)[i]? = σ[i]?
  | [], _ => rfl
  | v :: vs, h => by
    unfold wipe
    have h1 : v ≠ i := fun e => h (by rw [e]; exact List.mem_cons_self)
    rw [List.getElem?_set_ne h1]
    exact wipe_get_out fun z => h (List.mem_cons_of_mem _ z)
theorem wipe_get_in {σ : L2.St} {i : Nat} : ∀ {vs : List Nat}, i ∈ vs → i < σ.length → (wipe σ vs)[i]? = some none
  | [], h, _ => by cases h
  | v :: vs, h, hl => by
    unfold wipe
    by_cases e : v = i
    · subst e
      rw [List.getElem?_set_self (by rw [wipe_length]; exact hl)]
    · rw [List.getElem?_set_ne e]
      rcases List.mem_cons.mp h with z | z
      · exact absurd z.symm e
      · exact wipe_get_in z hl
theorem wipe_wipe (σ : L2.St) (vs : List Nat) : wipe (wipe σ vs) vs = wipe σ vs := by
  apply List.ext_getElem?
  intro i
  by_cases hi : i ∈ vs
  · by_cases hl : i < σ.length
    · rw [wipe_get_in hi (by rw [wipe_length]; exact hl), wipe_get_in hi hl]
    · rw [List.getElem?_eq_none (by rw [wipe_length, wipe_length]; omega), List.getElem?_eq_none (by rw [wipe_length]; omega)]
  · rw [wipe_get_out hi]

/-- the context of a generator expression's frame: entered at s -/
abbrev gblk (X : Cx) (s : Shared) (H : Hp) (cenv : Env) (fp : List Addr) (pn : List (Addr × Obj)) : Cx :=
  { X with A := X.A.in1.in1.deeper cenv, s_0 := s, H_0 := H, env := cenv, outer := X.stack, stack := cenv :: X.stack, ex := fp, fn := fun _ => false, calm := true, pn := pn, xe := fun _ _ => False }

/-- what the generator's own scope must be -/
structure GOk (N : List Str) (sc scope : Scope) (own : List (Str × Nat)) : Prop where
  blk : BlkOk N sc scope own
  co : scope.isCoroutine = false
  cell : ∀ y ∈ scope.names, y.2 ≠ .cell
  dot : scope.names.lookup (".0" : Str) = some NameKind.local

section
variable {X : Cx} {pins : List (Addr × Obj)} {σ : L2.St} {H : Hp} {s : Shared}

theorem gen_start {scope : Scope} {own : List (Str × Nat)} {fp : List Addr} {a : Addr} {o : Obj} {code : Value} {it : Value} {h' : Heap} {g' : Array GenState} {t' : Nat}
    (I : Inv X pins σ H s) (ok : GOk X.N X.env.scope scope own) (hN : X.N.Nodup) (hd : X.A.handled = none) (hfp : ∀ b ∈ fp, FpOk X pins H b ∧ b < s.heap.objs.size)
    (hn : h'.Ns s.heap.objs.size (fun y => if y = ".0" then some it else none)) (kp : ∀ b u, s.heap.get? b = some u → h'.get? b = some u) (ha : h'.get? a = some o) (hsa : s.heap.objs.size < a) (hoc : ∀ v, o.data ≠ .cell v) (hg : AllBare g') :
    Inv (gblk X s H (genEnv scope (cloFrom X.env.cells scope.names []) s.heap.objs.size code builtinsNs X.env) fp [(a, o)]) [] (wipe σ (own.map (·.2))) H { s with heap := h', gens := g', toks := t' } := by
  have hfree : ∀ y ∈ scope.names, y.2 = .free → ∃ c, X.env.cells.lookup y.1 = some c := fun y hy e => by
    rcases ok.blk.free y hy e with k | k
    · exact I.ok.has _ (.inl k)
    · exact I.ok.has _ (.inr k)
  have cm : ∀ {y c}, (cloFrom X.env.cells scope.names []).lookup y = some c → X.env.cells.lookup y = some c := fun {y c} e => by
    rcases cloFrom_mem (PySem.mem_of_lookup e) with hm | ⟨h1, h2⟩
    · cases hm
    · obtain ⟨c1, hc⟩ := hfree _ h1 rfl
      have hc : X.env.cells.lookup y = some c1 := hc
      have e2 : c = c1 := by
        rw [h2, hc] <;> rfl
      rw [e2]
      exact hc
  have look : ∀ {y}, scope.names.lookup y = some .free → ∃ c, (cloFrom X.env.cells scope.names []).lookup y = some c := fun {y} hl => by
    have hy : (y, NameKind.free) ∈ scope.names := PySem.mem_of_lookup hl
    exact mem_lookup (cloFrom_has (cells := X.env.cells) (acc := []) hy)
  have clt : ∀ {y c}, X.env.cells.lookup y = some c → c < s.heap.objs.size := fun {y c} e => by
    obtain ⟨v, z⟩ := I.cell y c e
    exact z.lt
  generalize hce : genEnv scope (cloFrom X.env.cells scope.names []) s.heap.objs.size code builtinsNs X.env = ce
  have cL : ce.locals = s.heap.objs.size := by rw [← hce]; rfl
  have cC : ce.cells = cloFrom X.env.cells scope.names [] := by rw [← hce]; rfl
  have cS : ce.scope = scope := by rw [← hce]; rfl
  have cF : ce.frame = some ce.locals := by rw [← hce]; rfl
  have okB : (gblk X s H ce fp [(a, o)]).Ok := by
    refine ⟨I.ok.mod, by show ce.scope.kind = _; rw [cS]; exact ok.blk.kind, by show ce.globals = _; rw [← hce]; exact I.ok.glob, by show ce.builtins = _; rw [← hce]; rfl, by show s.heap.objs.size ≤ ce.locals; rw [cL]; exact Nat.le_refl _,
      fun y z c e1 e2 => ?_, fun y hy => ?_, fun y c z e => ?_, fun _ => hd, Around.frames_deeper (show X.A.in1.in1.frames = some X.stack from I.ok.frames), .inr ⟨rfl, cF⟩, fun b hb => ⟨?_, fun y c e z => ?_⟩, I.bs, Nat.le_trans I.ok.bsz I.sz, fun b ob e hb => ?_, fun b hb z => ?_, I.stack, I.stkFree⟩
    · have e1 : ce.cells.lookup y = some c := e1
      have e2 : ce.cells.lookup z = some c := e2
      rw [cC] at e1 e2
      exact I.ok.inj y z c (cm e1) (cm e2)
    · have hy : ce.scope.names.lookup y = some .cell ∨ ce.scope.names.lookup y = some .free := hy
      show ∃ c, ce.cells.lookup y = some c
      rw [cS] at hy
      rw [cC]
      rcases hy with hy | hy
      · exact absurd rfl (ok.cell _ (PySem.mem_of_lookup hy))
      · exact look hy
    · cases (show false = true from z)
    · show b ≠ ce.locals
      rw [cL]; exact Nat.ne_of_lt (hfp b hb).2
    · have e : ce.cells.lookup y = some c := e
      rw [cC] at e
      exact (hfp b hb).1.2.2.2.2.1 y c (cm e) z
    · rcases (hfp b hb).1.2.2.2.1 with z | z
      · exact I.ok.noex b ob e z
      · exact absurd (Nat.lt_of_lt_of_le (Heap.lt_size e) (Nat.le_trans I.ok.bsz z)) (Nat.lt_irrefl _)
    · rcases List.mem_cons.mp (I.stkSub b z) with z | z
      · exact (hfp b hb).1.2.1 z
      · exact (hfp b hb).1.2.2.1 z
  refine ⟨okB, rfl, hg, Un.kept kp, ⟨(fun y : Str => if y = ".0" then some it else none), ?_, fun i y v e1 e2 e3 => ?_⟩, fun y c e => ?_, ?_, fun y c e => ?_, fun p hp => ?_, I.hok.kept kp, by rw [wipe_length]; exact I.len⟩
  · show Heap.Ns _ ce.locals _
    rw [cL]
    exact hn
  · obtain ⟨e2, hne⟩ := wipe_some e2
    have e3 : Vis ce.scope y := e3
    rw [cS] at e3
    have nown : ¬ (scope.names.lookup y = some .local ∨ scope.names.lookup y = some .cell) := fun hh => by
      have hm : ∃ k, (y, k) ∈ scope.names ∧ (k = .local ∨ k = .cell) := by
        rcases hh with hh | hh
        · exact ⟨_, PySem.mem_of_lookup hh, .inl rfl⟩
        · exact ⟨_, PySem.mem_of_lookup hh, .inr rfl⟩
      obtain ⟨k, hm, hk⟩ := hm
      rcases ok.blk.own _ hm hk with e' | e'
      · obtain ⟨p, hp, hpy⟩ := List.mem_map.mp e'
        have e3 := ok.blk.ix p hp
        have : p.1 = y := hpy
        rw [this] at e3
        exact hne (List.mem_map.mpr ⟨p, hp, nodup_ix hN e3 e1⟩)
      · exact e' (List.mem_of_getElem? e1)
    have hfr : scope.names.lookup y = some .free := by
      rcases e3 with k | k | k
      · exact absurd (.inl k) nown
      · exact absurd (.inr k) nown
      · exact k
    obtain ⟨m, hn', hl⟩ := I.loc
    have hvis : Vis X.env.scope y := (ok.blk.free _ (PySem.mem_of_lookup hfr) rfl).elim (fun k => .inr (.inl k)) (fun k => .inr (.inr k))
    obtain ⟨u, r, q⟩ := hl i y v e1 e2 hvis
    obtain ⟨c2, h2⟩ := look hfr
    refine ⟨u, r, .inr ⟨.inr (show ce.scope.names.lookup y = some .free by rw [cS]; exact hfr), c2, by show ce.cells.lookup y = some c2; rw [cC]; exact h2, ?_⟩⟩
    have c1 := cm h2
    rcases q with ⟨k', _⟩ | ⟨_, c3, e', z⟩
    · have k' : X.env.scope.names.lookup y = some .local := k'
      rcases ok.blk.free _ (PySem.mem_of_lookup hfr) rfl with k2 | k2 <;> rw [show X.env.scope.names.lookup y = _ from k2] at k' <;> cases k'
    · rw [c1] at e'
      cases e'
      exact z.keeps kp
  · have e : ce.cells.lookup y = some c := e
    rw [cC] at e
    obtain ⟨v, z⟩ := I.cell y c (cm e)
    exact ⟨v, z.keeps kp⟩
  · show H ce.locals = none
    rw [cL]; exact I.hok.fresh (Nat.le_refl _)
  · have e : ce.cells.lookup y = some c := e
    rw [cC] at e
    exact I.freeC y c (cm e)
  · have hp' : p = (a, o) := by simpa using hp
    subst hp'
    refine ⟨ha, I.hok.fresh (Nat.le_of_lt hsa), ?_, fun z => ?_, hoc⟩
    · show a ≠ ce.locals
      rw [cL]; exact Nat.ne_of_gt hsa
    · have z : a ∈ frs X.stack := z
      rcases List.mem_cons.mp (I.stkSub a z) with z | z
      · have h1 := I.lt
        rw [← z] at h1
        exact Nat.lt_irrefl _ (Nat.lt_trans hsa h1)
      · exact I.nofs (Nat.le_of_lt hsa) z
end

theorem Inv_gens {X : Cx} {pins : List (Addr × Obj)} {σ : L2.St} {H : Hp} {s : Shared} {g' : Array GenState} (I : Inv X pins σ H s) (hb : AllBare g') : Inv X pins σ H { s with gens := g' } :=
  ⟨I.ok, I.os, hb, I.base, I.loc, I.cell, I.free, I.freeC, I.pin, I.hok, I.len⟩
theorem bare_set {s : Shared} {g : Nat} {x : GenState} (hb : AllBare s.gens) (hx : x.bare = true) : AllBare (s.setGen g x).gens := by
  intro y hy
  have hy : y ∈ s.gens.setIfInBounds g x := hy
  obtain ⟨i, hi, e⟩ := Array.mem_iff_getElem.mp hy
  rw [Array.size_setIfInBounds] at hi
  rw [Array.getElem_setIfInBounds (by simpa using hi)] at e
  split at e
  · rw [← e]; exact hx
  · rw [← e]; exact hb _ (Array.getElem_mem hi)
/-- resumed: only the generators' states have moved -/
structure Rs (s s' : Shared) : Prop where
  heap : s'.heap = s.heap
  os : s'.os = s.os
  bare : AllBare s'.gens
theorem Rs.inv {X : Cx} {pins : List (Addr × Obj)} {σ : L2.St} {H : Hp} {s s' : Shared} (r : Rs s s') (I : Inv X pins σ H s) : Inv X pins σ H s' := by
  obtain ⟨h, g, d, t, o⟩ := s'
  obtain ⟨r1, r2, r3⟩ := r
  have r1 : h = s.heap := r1
  have r2 : o = s.os := r2
  subst r1
  subst r2
  exact ⟨I.ok, I.os, r3, I.base, I.loc, I.cell, I.free, I.freeC, I.pin, I.hok, I.len⟩
/-- what a turn hands out: False, and all is done; or True -/
def AProto (Y : Cx) (FF : Shared → Prop) : Protocol := fun _ _ v s kap =>
  (v = .bool false ∧ FF s) ∨ (v = .bool true ∧ (∃ σ H, Inv Y [] σ H s) ∧ ∀ s'', Rs s s'' → kap (.send .none) s'')
abbrev AEnd (FT : Shared → Prop) : GenEnd := fun n s₀ r s₁ => r = .ok .next ∧ (fun (_ : Nat) (_ s₁ : Shared) => FT s₁) n s₀ s₁

section
variable {X : Cx}
theorem gseg_loop {s4 : Shared} {H2 : Hp} {ce : Env} {fp : List Addr} {pn : List (Addr × Obj)} {σw : L2.St} {vs : List Nat} {tg elt iter : Expr} {scope : Scope} {pos : Pos} {J : It} {it : Addr} {tn : Nat → Heap → Prop} {g : TG} {te : TE} {Q : VK} {W : Nat → Nat → Hp → Prop}
    (T : Turn X.prog X.w X.K tg J fp it tn) (hco : ce.scope.isCoroutine = false) (hw : wipe σw vs = σw)
    (pg : PG (gblk X s4 H2 ce fp pn) tg g) (pe : PE (gblk X s4 H2 ce fp pn) elt te) (hpn : ∀ p ∈ pn, p.1 ∉ fp)
    (turn : ∀ i m H, W i m H → (J.stop i H ∧ Q (.bl true) H) ∨ (J.go i H ∧ ∃ Nx : Hp → Prop, (∀ H', Nx H' → ∃ m', m' < m ∧ W (i + 1) m' H') ∧ ∀ x H', J.yld i H x H' → g x σw H' fun σ2 H3 => wipe σ2 vs = σw ∧ te σ2 H3 fun y H4 => ∃ b, y = .bl b ∧ if b = true then Nx H4 else Q (.bl false) H4)) :
    ∀ (N i m : Nat) (H' : Hp) (s₀ s : Shared), m < N → Inv (gblk X s4 H2 ce fp pn) [] σw H' s → tn i s.heap → (∀ b ∈ fp, H' b = none) → W i m H' →
      Seg (model X.prog X.w) X.A.in1.in1 (AEnd fun s₁ => ∃ σ' H', Inv (gblk X s4 H2 ce fp pn) [] σ' H' s₁ ∧ Q (.bl true) H') (AProto (gblk X s4 H2 ce fp pn) fun s₁ => ∃ σ' H', Inv (gblk X s4 H2 ce fp pn) [] σ' H' s₁ ∧ Q (.bl false) H') N s₀
        (.compLoop (.GeneratorExp elt [⟨tg, iter, [], 0⟩] scope pos) 0 (.ref it) .none ce)
        ((model X.prog X.w).den (.compLoop (.GeneratorExp elt [⟨tg, iter, [], 0⟩] scope pos) 0 (.ref it) .none ce)) [] s := by
  have stat : ∀ {σ' : L2.St} {H' : Hp} {s' : Shared}, Inv (gblk X s4 H2 ce fp pn) [] σ' H' s' → (∀ b ∈ fp, H' b = none) → ∀ b ∈ fp, FpOk (gblk X s4 H2 ce fp pn) [] H' b := fun {σ' H' s'} I' hn b hb =>
    ⟨hn b hb, (I'.ok.exf b hb).1, I'.ok.exfs b hb, .inl hb, fun x c e => (I'.ok.exf b hb).2 x c e, fun p hp z => by
      have hp' : p ∈ pn := by simpa using hp
      exact hpn p hp' (by rw [z]; exact hb)⟩
  intro N
  induction N with
  | zero => intro i m H' s₀ s hm; exact absurd hm (Nat.not_lt_zero _)
  | succ N ih =>
    intro i m H' s₀ s hm I st nf w
    show Seg _ _ _ _ _ s₀ _ ((compTurn (.GeneratorExp elt [⟨tg, iter, [], 0⟩] scope pos) 0 (.ref it) .none ce).onRaise (leaving ce)) [] s
    rw [compTurn_gen, Sem.onRaise_eq_wrap]
    refine seg_bind_wrap (wpAny_standAt ?_)
    rcases turn i m H' w with ⟨stop, qq⟩ | ⟨go, Nx, hNx, step⟩
    · have td := T.done (gblk X s4 H2 ce fp pn) rfl rfl rfl rfl i [] s _ H' (fun _ _ => False) I (stat I nf) st stop
      refine seg_bind_wrap ?_
      rw [over_gen]
      refine thnF td fun r s6 ⟨hr, I6⟩ => ?_
      subst hr
      exact seg_end (.ok .next) ⟨rfl, _, _, I6, qq⟩
    · have ti := T.item (gblk X s4 H2 ce fp pn) rfl rfl rfl rfl i [] s _ H' (fun _ _ => False) I (stat I nf) st go
      refine seg_bind_wrap ?_
      rw [over_gen]
      refine thnF ti fun r s6 ⟨u, hr, h6⟩ => ?_
      subst hr
      refine seg_bind_wrap ?_
      rw [over_gen]
      refine thnF h6 fun _ s7 ⟨x, H7, I7, r7, y7, st7, n7⟩ => ?_
      have I7' := I7.pinned (stat I7 n7) (T.obj _ _ st7)
      refine seg_bind_wrap ?_
      rw [over_gen]
      refine thnF (pg.run _ s7 _ H7 x u _ I7' r7 (step x H7 y7)) fun _ s8 ⟨σ8, H8, I8, hw8, q8⟩ => ?_
      refine seg_bind_wrap (m := forIn ([] : List Expr) true _) ?_
      simp only [List.forIn_nil]
      refine wpAny_pure ?_
      simp only [if_true]
      have hy : ∀ v, yieldOut ce v = yieldValue v := fun v => by simp only [yieldOut, hco, Bool.false_eq_true, if_false]
      simp only [hy]
      rw [Sem.bind_eq_wrap', Sem.bind_eq_wrap', Sem.wrap_wrap, Sem.wrap_wrap]
      refine seg_wrap ?_
      rw [over_gen]
      refine thnF (pe.run _ s8 σ8 H8 _ I8 q8) fun z s10 ⟨yv, H10, I10, r10, b, eb, nx⟩ => ?_
      subst eb
      have r10 : z = .bool b := r10
      subst r10
      have I11 : Inv (gblk X s4 H2 ce fp pn) [] σw H10 s10 := (I10.unpinned (pins := [])).weak (by rw [← hw8, wipe_length]) (fun j v e => by
        rw [← hw8] at e
        exact (wipe_some e).1)
      cases b with
      | false =>
        refine seg_at (seg_yield rfl rfl rfl (.inl ⟨rfl, _, _, I11, ?_⟩))
        simpa using nx
      | true =>
        simp only [if_true] at nx
        obtain ⟨m', hm', w'⟩ := hNx _ nx
        have pin' : ∀ b ∈ fp, ∀ o, s7.heap.get? b = some o → s10.heap.get? b = some o ∧ H10 b = none := fun b hb o e =>
          let z := I10.pin (b, o) (List.mem_append_right _ (List.mem_append_right _ (mem_pinsAt hb e)))
          ⟨z.1, z.2.1⟩
        refine seg_at (seg_yield rfl rfl rfl (.inr ⟨rfl, ⟨_, _, I11⟩, fun s'' rs => ?_⟩))
        refine seg_again rfl (ih (i + 1) m' H10 s'' s'' (by omega) (rs.inv I11) ?_ (fun b hb => ?_) w')
        · rw [rs.heap]
          exact T.keep _ _ _ st7 fun b hb o e => (pin' b hb o e).1
        · obtain ⟨o, e, _⟩ := T.obj _ _ st7 b hb
          exact (pin' b hb o e).2
end

section
variable {X : Cx} {a : Addr} {g : Nat} {gob : Obj}
/-- asleep, with at most N more turns -/
def Sus (X Y : Cx) (a : Addr) (g : Nat) (FT FF : Shared → Prop) (N : Nat) (s : Shared) : Prop :=
  (∃ σ H, Inv Y [] σ H s) ∧ ∃ gs, s.gens[g]? = some gs ∧ ∀ s'', Rs s s'' → gs.Goes (model X.prog X.w) X.A.in1.in1 (AEnd FT) (AProto Y FF) N (.send .none) s''
theorem all_loop {Y : Cx} {FT FF : Shared → Prop} {R : Result → Shared → Prop} (hh : X.A.handled = none) (hroom : X.A.depth < recursionLimit) (hgen : ∀ {σ H s}, Inv Y [] σ H s → s.heap.IsGen a g)
    (hT : ∀ s1 h' gs', FT s1 → (∀ b o, s1.heap.get? b = some o → h'.get? b = some o) → gs'.bare = true → R (.ok (.ret (.bool true))) { s1.setGen g gs' with heap := h' })
    (hF : ∀ s1 gs', FF s1 → gs'.bare = true → R (.ok (.ret (.bool false))) (s1.setGen g gs')) :
    ∀ (N : Nat) (s : Shared), Sus X Y a g FT FF N s → codeAny (model X.prog X.w) X.A (.builtin "all.loop" ⟨[.ref a], []⟩) R s := by
  intro N
  induction N with
  | zero =>
    intro s hs
    obtain ⟨⟨σ, H, I⟩, gs, hgs, hgo⟩ := hs
    have hlt : g < s.gens.size := by
      rcases Nat.lt_or_ge g s.gens.size with h | h
      · exact h
      · rw [Array.getElem?_eq_none h] at hgs; cases hgs
    refine codeAny_builtin F.entry_all_loop ?_
    rw [Around.under_plainId F.plain_all_loop _]
    show wpAny _ X.A.in1 (pyNext (.ref a) >>= _) _ _ s
    refine wpAny_bind (wpAny_pyNext_genexpQ (A := X.A.in1) (P := fun _ _ s₁ => FT s₁) (Y := AProto Y FF) hh I.nolimit hroom (hgen I) hgs (hgo _ ⟨rfl, rfl, bare_set I.bare rfl⟩) (fun v s₁ gs' hb hv => ?_) (fun s₁ hp h' hk => ?_))
    · rcases hv with ⟨rfl, hv⟩ | ⟨rfl, ⟨σ1, H1, I1⟩, hv⟩
      · refine wpAny_bind (wpAny_holding (wpAny_truthy_bool ?_))
        refine wpAny_bind (wpAny_letGo ?_)
        simp only [Bool.false_eq_true, if_false]
        exact wpAny_bind (wpAny_rule (wpAny_pure (hF _ _ hv hb)))
      · exact (hv s₁ ⟨rfl, rfl, I1.bare⟩).elim
    · exact wpAny_bind (wpAny_rule (wpAny_pure (hT s₁ h' .finished hp hk rfl)))
  | succ N ih =>
    intro s hs
    obtain ⟨⟨σ, H, I⟩, gs, hgs, hgo⟩ := hs
    have hlt : g < s.gens.size := by
      rcases Nat.lt_or_ge g s.gens.size with h | h
      · exact h
      · rw [Array.getElem?_eq_none h] at hgs; cases hgs
    refine codeAny_builtin F.entry_all_loop ?_
    rw [Around.under_plainId F.plain_all_loop _]
    show wpAny _ X.A.in1 (pyNext (.ref a) >>= _) _ _ s
    refine wpAny_bind (GenW.wpAny_gsz (n := g + 1) hlt (wpAny_pyNext_genexpQ (A := X.A.in1) (P := fun _ _ s₁ => FT s₁) (Y := AProto Y FF) hh I.nolimit hroom (hgen I) hgs (hgo _ ⟨rfl, rfl, bare_set I.bare rfl⟩) (fun v s₁ gs' hb hv => ?_) (fun s₁ hp h' hk => ?_)))
    · intro hsz
      rcases hv with ⟨rfl, hv⟩ | ⟨rfl, ⟨σ1, H1, I1⟩, hv⟩
      · refine wpAny_bind (wpAny_holding (wpAny_truthy_bool ?_))
        refine wpAny_bind (wpAny_letGo ?_)
        simp only [Bool.false_eq_true, if_false]
        exact wpAny_bind (wpAny_rule (wpAny_pure (hF _ _ hv hb)))
      · refine wpAny_bind (wpAny_holding (wpAny_truthy_bool ?_))
        refine wpAny_bind (wpAny_letGo ?_)
        simp only [if_true]
        refine wpAny_pure ⟨plainId_quiet F.plain_all_loop _, ih _ ⟨⟨σ1, H1, Inv_gens I1 (bare_set I1.bare hb)⟩, gs', ?_, fun s'' rs => hv s'' ⟨rs.heap, rs.os, rs.bare⟩⟩⟩
        have hsz' : g < s₁.gens.size := by
          have e : (s₁.setGen g gs').gens.size = s₁.gens.size := by simp [Shared.setGen]
          rw [e] at hsz
          exact hsz
        simp [Shared.setGen, hsz']
    · intro _
      exact wpAny_bind (wpAny_rule (wpAny_pure (hT s₁ h' .finished hp hk rfl)))
end

theorem gseg_start {X : Cx} {ce : Env} {fp : List Addr} {tg elt iter : Expr} {scope : Scope} {pos : Pos} {J : It} {it : Addr} {tn : Nat → Heap → Prop} {R : GenEnd} {Yp : Protocol} {N : Nat} {s₀ s : Shared}
    (T : Turn X.prog X.w X.K tg J fp it tn) (st : tn 0 s.heap)
    (loop : Seg (model X.prog X.w) X.A.in1.in1 R Yp N s₀ (.compLoop (.GeneratorExp elt [⟨tg, iter, [], 0⟩] scope pos) 0 (.ref it) .none ce) ((model X.prog X.w).den (.compLoop (.GeneratorExp elt [⟨tg, iter, [], 0⟩] scope pos) 0 (.ref it) .none ce)) [] s) :
    Seg (model X.prog X.w) X.A.in1.in1 R Yp N s₀ (.compStart (.GeneratorExp elt [⟨tg, iter, [], 0⟩] scope pos) 0 (.ref it) .none ce) ((model X.prog X.w).den (.compStart (.GeneratorExp elt [⟨tg, iter, [], 0⟩] scope pos) 0 (.ref it) .none ce)) [] s := by
  show Seg _ _ _ _ _ s₀ _ ((compStart (.GeneratorExp elt [⟨tg, iter, [], 0⟩] scope pos) 0 (.ref it) .none ce).onRaise (leaving ce)) [] s
  unfold compStart
  rw [Sem.onRaise_eq_wrap]
  show Seg _ _ _ _ _ s₀ _ ((ask >>= _).wrap _ _ _ _) [] s
  refine seg_bind_wrap (wpAny_askSetting ?_)
  split
  · exact seg_again rfl loop
  · first
      | exact seg_bind_wrap (wpAny_rule (seg_bind_wrap (wpAny_standAt (seg_bind_wrap (T.self _ 0 s _ _ st (seg_again rfl loop))))))
      | (refine seg_bind_wrap (wpAny_rule ?_); show Seg _ _ _ _ _ s₀ _ ((standAt iter.pos >>= _).wrap _ _ _ _) [] s; exact seg_bind_wrap (wpAny_standAt (seg_bind_wrap (T.self _ 0 s _ _ st (seg_again rfl loop)))))

theorem boot_all : bootBuiltins "all" = some (.builtin "all") := by decide +kernel

/-- all(elt for target in iter): W by the turn and a measure -/
def tAllG (P : Addr) (wi : TI) (g : TG) (te : TE) (vs : List Nat) : TE := fun σ H Q => wi σ H fun J H1 => GxR.TabG H1 P ∧ ∀ H2, GxR.Tabbed P H1 H2 → ∃ W : Nat → Nat → Hp → Prop, (∃ m, W 0 m H2) ∧ ∀ i m H, W i m H →
  (J.stop i H ∧ Q (.bl true) H) ∨ (J.go i H ∧ ∃ Nx : Hp → Prop, (∀ H', Nx H' → ∃ m', m' < m ∧ W (i + 1) m' H') ∧ ∀ x H', J.yld i H x H' → g x (wipe σ vs) H' fun σ2 H3 => wipe σ2 vs = wipe σ vs ∧ te σ2 H3 fun y H4 => ∃ b, y = .bl b ∧ if b = true then Nx H4 else Q (.bl false) H4)
theorem pe_all {X : Cx} {k : Nat} {c P : Addr} {elt tg iter : Expr} {scope : Scope} {own : List (Str × Nat)} {p pos gpos : Pos} {wi : TI} {g : TG} {te : TE}
    (hr : Room k X.A) (hg : Gl X "all") (hm : X.mg "all" = none) (TB : GxR.TabB X.base X.mg c P) (hcode : X.env.code = .ref c) (ok : GOk X.N X.env.scope scope own) (hN : X.N.Nodup) (hi : PI X tg iter wi)
    (hpg : ∀ (s : Shared) (H : Hp) (C : Addr) (cl : List (Str × Addr)) (code : Value) (fp : List Addr) (pn : List (Addr × Obj)), PG (gblk X s H (genEnv scope cl C code builtinsNs X.env) fp pn) tg g)
    (hpe : ∀ (s : Shared) (H : Hp) (C : Addr) (cl : List (Str × Addr)) (code : Value) (fp : List Addr) (pn : List (Addr × Obj)), PE (gblk X s H (genEnv scope cl C code builtinsNs X.env) fp pn) elt te)
    (hs : ∀ v, genFold iter X.env v = pure v := by intro _; rfl)
    (he : starEach [.GeneratorExp elt [⟨tg, iter, [], 0⟩] scope gpos] X.env = (false, eval (.GeneratorExp elt [⟨tg, iter, [], 0⟩] scope gpos) X.env) :: starEach [] X.env := by rfl) :
    PE X (.Call (.Name "all" p) [.GeneratorExp elt [⟨tg, iter, [], 0⟩] scope gpos] [] pos) (tAllG P wi g te (own.map (·.2))) := by
  refine ⟨fun pins s σ H Q I h => ?_⟩
  have hfree : ∀ y ∈ scope.names, y.2 = .free → ∃ c, X.env.cells.lookup y.1 = some c := fun y hy e => by
    rcases ok.blk.free y hy e with k | k
    · exact I.ok.has _ (.inl k)
    · exact I.ok.has _ (.inr k)
  have hdp : X.A.depth < recursionLimit := by have := hr.dp; omega
  refine wpAny_Call_Name_kw (ld_blt I hg hm boot_all ?_)
  refine PyProof.Rows.callWith_builtin1 ?_ he (by rfl)
  rw [he]
  show wpAny _ _ (spliced ((false, eval (.GeneratorExp elt [⟨tg, iter, [], 0⟩] scope gpos) X.env) :: backTo pos (starEach [] X.env))) _ _ s
  refine Calls.spliced_cons (wpAny_GeneratorExp_make ok.co (closure_ok hfree) ok.cell ok.dot ok.blk.kind hdp ?_ hs)
  refine thn (hi.run pins s σ H _ I h) fun xv s1 hx => thn hx fun itv s2 h2 => ?_
  obtain ⟨it, fp, tn, J, H1, e, I2, T, st2, f2, ⟨ps, hP, ht⟩, q⟩ := h2
  subst e
  refine ⟨I2.nolimit, ?_⟩
  have hPs : s2.heap.get? P = some { cls := .none, data := .fields ps } := I2.hok P _ hP
  have cd : PySem.W.CodeHd s2.heap c P := TB.code.keeps fun b u e => I2.bk b u e
  have sz : ∀ b ∈ fp, b < s2.heap.objs.size := fun b hb => by
    obtain ⟨o, e, _⟩ := T.obj _ _ st2 b hb
    exact Heap.lt_size e
  have nfP : ∀ b ∈ fp, b ≠ P := fun b hb z => by
    have n := (f2 b hb).1
    rw [z, hP] at n
    cases n
  refine wpAny_mono (Q := fun code s3 => ∃ h3 tk ps', s3 = { s2 with heap := h3, toks := tk } ∧ Heap.ExtBut P s2.heap h3 ∧ s2.heap.objs.size ≤ h3.objs.size ∧ h3.get? P = some { cls := .none, data := .fields ps' } ∧ (∃ more, ps' = ps ++ more) ∧ TriplesOk ps'.toList) (E := X.xe) ?_ (fun code s3 h3 => ?_) fun _ _ z => z
  · cases hf : codeAmong gpos ps.toList with
    | none =>
      refine wpAny_genexprCodeX hcode (cd.code hPs ht) (cd.tab hPs) hf fun c' h' tk hx hge hlt hco' _ htab' _ => ?_
      obtain ⟨o1, vs, f1, tf, fl, tg, inF, tx, tt, op, _, _, _, _, _, _, _, _, _, htr, _⟩ := hco'
      exact ⟨h', tk, _, rfl, hx, Nat.le_trans hge (Nat.le_of_lt hlt), htab'.2, ⟨_, rfl⟩, htr⟩
    | some cv =>
      refine wpAny_genexprCode_hit hcode (cd.code hPs ht) hf ?_
      exact ⟨s2.heap, s2.toks, ps, rfl, Heap.ExtBut.refl _ _, Nat.le_refl _, hPs, ⟨#[], by simp⟩, ht⟩
  obtain ⟨h3, tk, ps', rfl, hx3, hsz3, hP3, ⟨more, em⟩, ht3⟩ := h3
  have J0 : Inv X pins σ (upd H1 P (.tbl (ps ++ more))) { s2 with heap := h3, toks := tk } :=
    GxR.inv_tab (more := more) (h' := h3) (g' := s2.gens) (d' := s2.drawn) (t' := tk) I2 hP (fun b u hb e => hx3 b u hb e) (by rw [← em]; exact hP3) I2.bare
  have tabd : GxR.Tabbed P H1 (upd H1 P (.tbl (ps ++ more))) := ⟨⟨ps ++ more, upd_same, by rw [← em]; exact ht3⟩, fun b hb => upd_ne hb⟩
  obtain ⟨W, ⟨m0, w0⟩, turn⟩ := q _ tabd
  generalize hH2 : upd H1 P (.tbl (ps ++ more)) = H2 at J0 tabd w0
  have f4 : ∀ b ∈ fp, FpOk X pins H2 b ∧ b < h3.objs.size := fun b hb => by
    refine ⟨⟨?_, (f2 b hb).2⟩, Nat.lt_of_lt_of_le (sz b hb) hsz3⟩
    rw [← hH2, upd_ne (nfP b hb)]
    exact (f2 b hb).1
  have st3 : tn 0 h3 := T.keep _ _ _ st2 fun b hb o e => hx3 b o (nfP b hb) e
  obtain ⟨bm, ob, e1, e2, e3, e4, e5, e6, e7, e8⟩ := TB.bm
  refine wpAny_builtinsFor (m := X.mg) (by rw [I2.ok.glob]; exact (I2.mod.glob.keeps I2.bk).extBut hx3 TB.gP) e1 e2 (hx3 _ _ e4 (I2.bk _ _ e5)) e6 e7 e8 ?_
  intro h' hn hs'
  have hsz : h'.objs.size = h3.objs.size + 1 := by rw [hs'.1, Heap.size_push]
  have keep' : ∀ b o, h3.get? b = some o → h'.get? b = some o := fun b o e => hs'.extBut b o (Nat.ne_of_lt (Heap.lt_size e)) (Heap.get?_push_of_some _ e)
  refine Calls.spliced_nil ?_
  generalize hgo : ({ cls := .type "generator", data := .fields #[.int s2.gens.size 0, .str "<genexpr>" (tk + 1), .str (X.env.qual ++ "<genexpr>") (tk + 1 + 1)] } : Obj) = gob
  have hgd : ∀ v, gob.data ≠ .cell v := fun v z => by rw [← hgo] at z; cases z
  have hfr : gob.isFreed = false := by rw [← hgo]; rfl
  have k5 : ∀ b o, h3.get? b = some o → (h'.push gob).get? b = some o := fun b o e => Heap.get?_push_of_some _ (keep' b o e)
  have ha5 : (h'.push gob).get? h'.objs.size = some gob := Heap.get?_push_size _ hfr
  have hgb : ∀ cc, AllBare (s2.gens.push (.fresh cc)) := fun cc y hy => by
    rcases Array.mem_push.mp hy with z | z
    · exact I2.bare y z
    · rw [z]; rfl
  have I5 := fun cc => gen_start (code := code) (it := .ref it) (g' := s2.gens.push (.fresh cc)) (t' := tk + 1 + 1 + 1) J0 ok hN hr.hd f4 (hn.push gob) k5 ha5 (by show h3.objs.size < h'.objs.size; omega) hgd (hgb cc)
  generalize hce : genEnv scope (cloFrom X.env.cells scope.names []) h3.objs.size code builtinsNs X.env = ce
  have hce' : genEnv scope (cloFrom X.env.cells scope.names []) ({ s2 with heap := h3, toks := tk } : Shared).heap.objs.size code builtinsNs X.env = ce := hce
  rw [hce'] at I5
  have I5' := I5 (.compStart (.GeneratorExp elt [⟨tg, iter, [], 0⟩] scope gpos) 0 (.ref it) .none ce)
  have pg := hpg { s2 with heap := h3, toks := tk } H2 h3.objs.size (cloFrom X.env.cells scope.names []) code fp [(h'.objs.size, gob)]
  have pe := hpe { s2 with heap := h3, toks := tk } H2 h3.objs.size (cloFrom X.env.cells scope.names []) code fp [(h'.objs.size, gob)]
  rw [hce] at pg pe
  have st5 : tn 0 (h'.push gob) := T.keep _ _ _ st3 fun b _ o e => k5 b o e
  have hco : ce.scope.isCoroutine = false := by rw [← hce]; exact ok.co
  have hpn : ∀ p ∈ [(h'.objs.size, gob)], p.1 ∉ fp := fun p hp hb => by
    have hp' : p = (h'.objs.size, gob) := by simpa using hp
    rw [hp'] at hb
    have h9 : (h'.objs.size : Nat) < h3.objs.size := (f4 _ hb).2
    omega
  have back : ∀ {σ' : L2.St} {H' : Hp} {s' : Shared}, Inv (gblk X { s2 with heap := h3, toks := tk } H2 ce fp [(h'.objs.size, gob)]) [] σ' H' s' → Inv X pins σ H' s' := fun {σ' H' s'} I6 =>
    J0.call' (ch := fp) I6.os I6.base I6.hok I6.bare fun b hb => ⟨(f4 b hb).1.2.2.2.1, (f4 b hb).1.2.1, (f4 b hb).1.2.2.2.2.1, (f4 b hb).1.2.2.2.2.2⟩
  have isg : ∀ {σ' : L2.St} {H' : Hp} {s' : Shared}, Inv (gblk X { s2 with heap := h3, toks := tk } H2 ce fp [(h'.objs.size, gob)]) [] σ' H' s' → s'.heap.IsGen h'.objs.size s2.gens.size := fun {σ' H' s'} I6 => by
    have z := (I6.pin (h'.objs.size, gob) (List.mem_append_left _ List.mem_cons_self)).1
    exact ⟨gob, _, _, z, by rw [← hgo], by rw [← hgo], by rw [← hgo]⟩
  have hww : wipe (wipe σ (own.map (·.2))) (own.map (·.2)) = wipe σ (own.map (·.2)) := wipe_wipe σ _
  refine call_function_tree F.kind_all F.plain_all F.entry_all (F.args_all1 _) ?_
  unfold Builtin.«all»
  refine wpAny_bind (m := oneArg "all" _) (wpAny_pure ?_)
  refine wpAny_bind (wpAny_pyIter_gen (isg I5') ?_)
  refine wpAny_pure ⟨plainId_quiet F.plain_all_loop _, all_loop (Y := gblk X { s2 with heap := h3, toks := tk } H2 ce fp [(h'.objs.size, gob)]) (g := s2.gens.size)
    (FT := fun s₁ => ∃ σ' H', Inv (gblk X { s2 with heap := h3, toks := tk } H2 ce fp [(h'.objs.size, gob)]) [] σ' H' s₁ ∧ Q (.bl true) H') (FF := fun s₁ => ∃ σ' H', Inv (gblk X { s2 with heap := h3, toks := tk } H2 ce fp [(h'.objs.size, gob)]) [] σ' H' s₁ ∧ Q (.bl false) H')
    hr.hd hdp isg (fun s1 h9 gs' ⟨σ', H', I6, q6⟩ hk hb => ?_) (fun s1 gs' ⟨σ', H', I6, q6⟩ hb => ?_) (m0 + 1) _ ⟨⟨_, _, I5'⟩, .fresh (.compStart (.GeneratorExp elt [⟨tg, iter, [], 0⟩] scope gpos) 0 (.ref it) .none ce), by simp, fun s'' rs => ⟨rfl, ?_⟩⟩⟩
  · refine gseg_start T (by rw [rs.heap]; exact st5) ?_
    refine gseg_loop (σw := wipe σ (own.map (·.2))) (vs := own.map (·.2)) (W := W) T hco hww pg pe hpn turn (m0 + 1) 0 m0 H2 s'' s'' (Nat.lt_succ_self _) (rs.inv I5') (by rw [rs.heap]; exact st5) (fun b hb => (f4 b hb).1.1) w0
  · have I7 := (Inv_gens I6 (bare_set (g := s2.gens.size) (x := gs') I6.bare hb)).kept (t' := s1.toks) (h' := h9) hk
    exact ⟨.bl true, H', back I7, rfl, q6⟩
  · exact ⟨.bl false, H', back (Inv_gens I6 (bare_set (g := s2.gens.size) (x := gs') I6.bare hb)), rfl, q6⟩
end Mk

/-! ### MkData -/
set_option Elab.async false
set_option linter.all false
set_option maxRecDepth 100000
set_option maxHeartbeats 4000000
namespace Mk
open PySem PySem.Spec PyProof.Rows L2

/-- data -/
inductive D where
  | non | bl (b : Bool) | int (i : Int) | str (s : Str) | tup (l : List D) | lst (l : List D)

mutual
def Im (K : PySem.W.Frag) (H : Hp) : D → V → Prop
  | .non, v => v = .non
  | .bl b, v => v = .bl b
  | .int i, v => v = .int i
  | .str s, v => v = .str s
  | .tup ds, v => ∃ a xs, v = .ref a ∧ SqT K H a xs ∧ ImL K H ds xs
  | .lst ds, v => ∃ a xs, v = .ref a ∧ SqL K H a xs ∧ ImL K H ds xs
def ImL (K : PySem.W.Frag) (H : Hp) : List D → List V → Prop
  | [], xs => xs = []
  | d :: ds, xs => ∃ v vs, xs = v :: vs ∧ Im K H d v ∧ ImL K H ds vs
end
/-- all but tables stays -/
abbrev ExtN := LamX.ExtN
/-- what is read stays so -/
structure EE (K : PySem.W.Frag) (H H' : Hp) : Prop where
  t : ∀ a xs, SqT K H a xs → SqT K H' a xs
  l : ∀ a xs, SqL K H a xs → SqL K H' a xs
theorem ExtN.ee {K : PySem.W.Frag} {H H' : Hp} (e : ExtN H H') : EE K H H' := by
  refine ⟨fun a xs h => ?_, fun a xs h => ?_⟩
  · rcases h with (h | ⟨o, h⟩) | h
    · exact .inl (.inl (e _ _ h fun ps z => by cases z))
    · exact .inl (.inr ⟨o, e _ _ h fun ps z => by cases z⟩)
    · exact .inr h
  · rcases h with (h | ⟨o, h⟩) | h
    · exact .inl (.inl (e _ _ h fun ps z => by cases z))
    · exact .inl (.inr ⟨o, e _ _ h fun ps z => by cases z⟩)
    · exact .inr h
mutual
theorem Im.mono {K : PySem.W.Frag} {H H' : Hp} (e : EE K H H') : ∀ {d : D} {v : V}, Im K H d v → Im K H' d v
  | .non, _, h => h
  | .bl _, _, h => h
  | .int _, _, h => h
  | .str _, _, h => h
  | .tup ds, _, h => by
    unfold Im at h ⊢
    obtain ⟨a, xs, h1, h2, h3⟩ := h
    exact ⟨a, xs, h1, e.t _ _ h2, ImL.mono e h3⟩
  | .lst ds, _, h => by
    unfold Im at h ⊢
    obtain ⟨a, xs, h1, h2, h3⟩ := h
    exact ⟨a, xs, h1, e.l _ _ h2, ImL.mono e h3⟩
theorem ImL.mono {K : PySem.W.Frag} {H H' : Hp} (e : EE K H H') : ∀ {ds : List D} {vs : List V}, ImL K H ds vs → ImL K H' ds vs
  | [], _, h => h
  | d :: ds, _, h => by
    unfold ImL at h ⊢
    obtain ⟨v, vs, h1, h2, h3⟩ := h
    exact ⟨v, vs, h1, Im.mono e h2, ImL.mono e h3⟩
end
/-! no list within -/
mutual
def NoL : D → Prop
  | .tup ds => NoLs ds
  | .lst _ => False
  | _ => True
def NoLs : List D → Prop
  | [] => True
  | d :: ds => NoL d ∧ NoLs ds
end
abbrev TSt (K : PySem.W.Frag) (H H' : Hp) : Prop := ∀ a xs, SqT K H a xs → SqT K H' a xs
mutual
theorem Im.tt {K : PySem.W.Frag} {H H' : Hp} (e : TSt K H H') : ∀ {d : D} {v : V}, NoL d → Im K H d v → Im K H' d v
  | .non, _, _, h => h
  | .bl _, _, _, h => h
  | .int _, _, _, h => h
  | .str _, _, _, h => h
  | .tup ds, _, n, h => by
    unfold Im at h ⊢
    unfold NoL at n
    obtain ⟨a, xs, h1, h2, h3⟩ := h
    exact ⟨a, xs, h1, e _ _ h2, ImL.tt e n h3⟩
  | .lst ds, _, n, h => by unfold NoL at n; exact n.elim
theorem ImL.tt {K : PySem.W.Frag} {H H' : Hp} (e : TSt K H H') : ∀ {ds : List D} {vs : List V}, NoLs ds → ImL K H ds vs → ImL K H' ds vs
  | [], _, _, h => h
  | d :: ds, _, n, h => by
    unfold ImL at h ⊢
    unfold NoLs at n
    obtain ⟨v, vs, h1, h2, h3⟩ := h
    exact ⟨v, vs, h1, Im.tt e n.1 h2, ImL.tt e n.2 h3⟩
end
theorem TSt.upd_new {K : PySem.W.Frag} {H : Hp} {p : Addr} {o : HO} (h : H p = none) : TSt K H (upd H p o) := fun a xs q => by
  rcases q with (q | ⟨ob, q⟩) | q
  · exact .inl (.inl (by rw [upd_ne (ne_of_none q h)]; exact q))
  · exact .inl (.inr ⟨ob, by rw [upd_ne (ne_of_none q h)]; exact q⟩)
  · exact .inr q
theorem TSt.upd_lst {K : PySem.W.Frag} {H : Hp} {p : Addr} {xs : List V} {o : HO} (h : H p = some (.lst xs)) : TSt K H (upd H p o) := fun a ys q => by
  rcases q with (q | ⟨ob, q⟩) | q
  · exact .inl (.inl (by rw [upd_ne (ne_of q h (by intro z; cases z))]; exact q))
  · exact .inl (.inr ⟨ob, by rw [upd_ne (ne_of q h (by intro z; cases z))]; exact q⟩)
  · exact .inr q
theorem TSt.refl {K : PySem.W.Frag} (H : Hp) : TSt K H H := fun _ _ h => h
theorem TSt.trans {K : PySem.W.Frag} {H H1 H2 : Hp} (a : TSt K H H1) (b : TSt K H1 H2) : TSt K H H2 := fun x y h => b x y (a x y h)
theorem ExtN.new {H : Hp} {p : Addr} {o : HO} (h : H p = none) : ExtN H (upd H p o) := fun a u e _ => by
  rw [upd_ne (ne_of_none e h)]; exact e
/-- an object that H does not know may change -/
theorem ExtN.mut {H H' : Hp} {p : Addr} {o : HO} (e : ExtN H H') (h : H p = none) : ExtN H (upd H' p o) := fun a u ha n => by
  rw [upd_ne (ne_of_none ha h)]; exact e a u ha n
theorem ImL.length {K : PySem.W.Frag} {H : Hp} : ∀ {ds : List D} {vs : List V}, ImL K H ds vs → vs.length = ds.length
  | [], _, h => by unfold ImL at h; rw [h]; rfl
  | d :: ds, _, h => by
    unfold ImL at h
    obtain ⟨v, vs, rfl, _, h3⟩ := h
    rw [List.length_cons, List.length_cons, ImL.length h3]
theorem ImL.get {K : PySem.W.Frag} {H : Hp} : ∀ {ds : List D} {vs : List V} {i : Nat} {v : V}, ImL K H ds vs → vs[i]? = some v → ∃ d, ds[i]? = some d ∧ Im K H d v
  | [], _, i, v, h, e => by unfold ImL at h; rw [h] at e; cases e
  | d :: ds, _, 0, v, h, e => by
    unfold ImL at h
    obtain ⟨w, vs, rfl, h2, _⟩ := h
    cases e
    exact ⟨d, rfl, h2⟩
  | d :: ds, _, i + 1, v, h, e => by
    unfold ImL at h
    obtain ⟨w, vs, rfl, _, h3⟩ := h
    exact ImL.get (i := i) h3 e
theorem ImL.get' {K : PySem.W.Frag} {H : Hp} : ∀ {ds : List D} {vs : List V} {i : Nat} {d : D}, ImL K H ds vs → ds[i]? = some d → ∃ v, vs[i]? = some v ∧ Im K H d v
  | [], _, i, d, h, e => by cases e
  | d :: ds, _, 0, v, h, e => by
    unfold ImL at h
    obtain ⟨w, vs, rfl, h2, _⟩ := h
    cases e
    exact ⟨w, rfl, h2⟩
  | d :: ds, _, i + 1, v, h, e => by
    unfold ImL at h
    obtain ⟨w, vs, rfl, _, h3⟩ := h
    exact ImL.get' (i := i) h3 e
theorem ImL.append {K : PySem.W.Frag} {H : Hp} : ∀ {ds es : List D} {vs ws : List V}, ImL K H ds vs → ImL K H es ws → ImL K H (ds ++ es) (vs ++ ws)
  | [], _, _, _, h, k => by unfold ImL at h; rw [h]; exact k
  | d :: ds, _, _, _, h, k => by
    unfold ImL at h
    obtain ⟨v, vs, rfl, h2, h3⟩ := h
    show ImL K H (d :: (ds ++ _)) (v :: (vs ++ _))
    unfold ImL
    exact ⟨v, _, rfl, h2, ImL.append h3 k⟩
theorem imL_nil {K : PySem.W.Frag} {H : Hp} : ImL K H [] [] := by unfold ImL; rfl
theorem imL_cons {K : PySem.W.Frag} {H : Hp} {d : D} {v : V} {ds : List D} {vs : List V} (h : Im K H d v) (k : ImL K H ds vs) : ImL K H (d :: ds) (v :: vs) := by unfold ImL; exact ⟨v, vs, rfl, h, k⟩
theorem im_tup {K : PySem.W.Frag} {H : Hp} {a : Addr} {ds : List D} {xs : List V} (h : SqT K H a xs) (k : ImL K H ds xs) : Im K H (.tup ds) (.ref a) := by unfold Im; exact ⟨a, xs, rfl, h, k⟩
theorem im_tup' {K : PySem.W.Frag} {H : Hp} {v : V} {ds : List D} (h : Im K H (.tup ds) v) : ∃ a xs, v = .ref a ∧ SqT K H a xs ∧ ImL K H ds xs := by unfold Im at h; exact h
theorem im_int {K : PySem.W.Frag} {H : Hp} {i : Int} : Im K H (.int i) (.int i) := by unfold Im; rfl
theorem im_int' {K : PySem.W.Frag} {H : Hp} {i : Int} {v : V} (h : Im K H (.int i) v) : v = .int i := by unfold Im at h; exact h
theorem im_non {K : PySem.W.Frag} {H : Hp} : Im K H .non .non := by unfold Im; rfl

/-! ### isinstance -/
def tyD : D → String
  | .non => "NoneType" | .bl _ => "bool" | .int _ => "int" | .str _ => "str" | .tup _ => "tuple" | .lst _ => "list"
theorem Im.ty {K : PySem.W.Frag} {H : Hp} : ∀ {d : D} {v : V}, Im K H d v → TyX K H v (.type (tyD d))
  | .non, v, h => by unfold Im at h; subst h; exact .base .non
  | .bl b, v, h => by unfold Im at h; subst h; exact .base (.bl b)
  | .int i, v, h => by unfold Im at h; subst h; exact .base (.int i)
  | .str s, v, h => by unfold Im at h; subst h; exact .base (.str s)
  | .tup ds, v, h => by
    unfold Im at h
    obtain ⟨a, xs, rfl, h2, _⟩ := h
    rcases h2 with (h | ⟨o, h⟩) | ⟨o, its, n, h, c, _⟩
    · exact .base (.tup h)
    · exact .fTuple h
    · exact .kTuple h c
  | .lst ds, v, h => by
    unfold Im at h
    obtain ⟨a, xs, rfl, h2, _⟩ := h
    rcases h2 with (h | ⟨o, h⟩) | ⟨o, its, n, h, c, _⟩
    · exact .base (.lst h)
    · exact .base (.frz h)
    · exact .kList h c
def isInt : D → Bool | .int _ => true | .bl _ => true | _ => false
def isBool : D → Bool | .bl _ => true | _ => false
def isTup : D → Bool | .tup _ => true | _ => false
def isLst : D → Bool | .lst _ => true | _ => false
def isStr : D → Bool | .str _ => true | _ => false
theorem kit_int : ∀ d : D, kitB (tyD d) "int" = some (isInt d)
  | .non => (by decide +kernel : kitB "NoneType" "int" = some false)
  | .bl _ => (by decide +kernel : kitB "bool" "int" = some true)
  | .int _ => (by decide +kernel : kitB "int" "int" = some true)
  | .str _ => (by decide +kernel : kitB "str" "int" = some false)
  | .tup _ => (by decide +kernel : kitB "tuple" "int" = some false)
  | .lst _ => (by decide +kernel : kitB "list" "int" = some false)
theorem kit_bool : ∀ d : D, kitB (tyD d) "bool" = some (isBool d)
  | .non => (by decide +kernel : kitB "NoneType" "bool" = some false)
  | .bl _ => (by decide +kernel : kitB "bool" "bool" = some true)
  | .int _ => (by decide +kernel : kitB "int" "bool" = some false)
  | .str _ => (by decide +kernel : kitB "str" "bool" = some false)
  | .tup _ => (by decide +kernel : kitB "tuple" "bool" = some false)
  | .lst _ => (by decide +kernel : kitB "list" "bool" = some false)
theorem kit_tuple : ∀ d : D, kitB (tyD d) "tuple" = some (isTup d)
  | .non => (by decide +kernel : kitB "NoneType" "tuple" = some false)
  | .bl _ => (by decide +kernel : kitB "bool" "tuple" = some false)
  | .int _ => (by decide +kernel : kitB "int" "tuple" = some false)
  | .str _ => (by decide +kernel : kitB "str" "tuple" = some false)
  | .tup _ => (by decide +kernel : kitB "tuple" "tuple" = some true)
  | .lst _ => (by decide +kernel : kitB "list" "tuple" = some false)
theorem kit_list : ∀ d : D, kitB (tyD d) "list" = some (isLst d)
  | .non => (by decide +kernel : kitB "NoneType" "list" = some false)
  | .bl _ => (by decide +kernel : kitB "bool" "list" = some false)
  | .int _ => (by decide +kernel : kitB "int" "list" = some false)
  | .str _ => (by decide +kernel : kitB "str" "list" = some false)
  | .tup _ => (by decide +kernel : kitB "tuple" "list" = some false)
  | .lst _ => (by decide +kernel : kitB "list" "list" = some true)
theorem kit_str : ∀ d : D, kitB (tyD d) "str" = some (isStr d)
  | .non => (by decide +kernel : kitB "NoneType" "str" = some false)
  | .bl _ => (by decide +kernel : kitB "bool" "str" = some false)
  | .int _ => (by decide +kernel : kitB "int" "str" = some false)
  | .str _ => (by decide +kernel : kitB "str" "str" = some true)
  | .tup _ => (by decide +kernel : kitB "tuple" "str" = some false)
  | .lst _ => (by decide +kernel : kitB "list" "str" = some false)
theorem rd_int {K : PySem.W.Frag} {H : Hp} {d : D} {v : V} {Q : VK} (h : Im K H d v) (q : Q (.bl (isInt d)) H) : rIsi K [v, .ty "int"] H Q :=
  ⟨v, .ty "int", _, _, _, rfl, .ty _, h.ty, kit_ty (kit_int d), q⟩
theorem rd_bool {K : PySem.W.Frag} {H : Hp} {d : D} {v : V} {Q : VK} (h : Im K H d v) (q : Q (.bl (isBool d)) H) : rIsi K [v, .ty "bool"] H Q :=
  ⟨v, .ty "bool", _, _, _, rfl, .ty _, h.ty, kit_ty (kit_bool d), q⟩
theorem rd_tuple {K : PySem.W.Frag} {H : Hp} {d : D} {v : V} {Q : VK} (h : Im K H d v) (q : Q (.bl (isTup d)) H) : rIsi K [v, .ty "tuple"] H Q :=
  ⟨v, .ty "tuple", _, _, _, rfl, .ty _, h.ty, kit_ty (kit_tuple d), q⟩
theorem rd_list {K : PySem.W.Frag} {H : Hp} {d : D} {v : V} {Q : VK} (h : Im K H d v) (q : Q (.bl (isLst d)) H) : rIsi K [v, .ty "list"] H Q :=
  ⟨v, .ty "list", _, _, _, rfl, .ty _, h.ty, kit_ty (kit_list d), q⟩
theorem rd_str {K : PySem.W.Frag} {H : Hp} {d : D} {v : V} {Q : VK} (h : Im K H d v) (q : Q (.bl (isStr d)) H) : rIsi K [v, .ty "str"] H Q :=
  ⟨v, .ty "str", _, _, _, rfl, .ty _, h.ty, kit_ty (kit_str d), q⟩
end Mk

/-! ### MkC -/
set_option Elab.async false
set_option linter.all false
set_option maxRecDepth 100000
set_option maxHeartbeats 4000000
namespace Mk
open PySem PySem.Spec PyProof.Rows L2
section
variable {K : PySem.W.Frag} {D' : Ends} {σ : L2.St} {H : Hp} {Q : VK} {QB : Bool → Hp → Prop} {te ta tb tc : TE} {t u : TT} {ts tz : TS} {i : Nat} {v : V}
theorem c_ret (h : te σ H D'.rt) : tRet te D' σ H := h
theorem c_retN (h : D'.rt .non H) : tRetN D' σ H := h
theorem c_seq (h : ts { D' with nx := tz D' } σ H) : tSeq ts tz D' σ H := h
theorem c_set (h : te σ H fun x H1 => D'.nx (σ.set i (some x)) H1) : tAsg te (gName i) D' σ H := h
theorem c_asg {g : TG} (h : te σ H fun x H1 => g x σ H1 D'.nx) : tAsg te g D' σ H := h
theorem c_aug {ti : TIp} {x : V} (e : σ[i]? = some (some x)) (h : te σ H fun y H1 => ti x y H1 fun z H2 => D'.nx (σ.set i (some z)) H2) : tAug i te ti D' σ H := ⟨x, e, h⟩
theorem v_un {g : Int → V} {a : Int} (ha : ∀ Q : VK, Q (.int a) H → ta σ H Q) : ∀ Q : VK, Q (g a) H → tUn (rU g) ta σ H Q := fun Q q => ha _ ⟨a, rfl, q⟩
theorem c_drop (h : te σ H fun _ H1 => D'.nx σ H1) : tDrop te D' σ H := h
theorem c_if (h : t σ H fun b H1 => if b = true then ts D' σ H1 else tz D' σ H1) : tIfS t ts tz D' σ H := h
theorem c_next (h : D'.nx σ H) : tNext D' σ H := h
theorem c_var (h : σ[i]? = some (some v)) (q : Q v H) : tVar i σ H Q := ⟨v, h, q⟩
theorem c_c (q : Q v H) : tC v σ H Q := q
theorem c_not (h : t σ H fun c H1 => QB (!c) H1) : tNot t σ H QB := h
theorem c_or (h : t σ H fun c H1 => if c = true then QB true H1 else u σ H1 QB) : tOr t u σ H QB := h
theorem c_and (h : t σ H fun c H1 => if c = true then u σ H1 QB else QB false H1) : tAnd t u σ H QB := h
theorem c_B (h : te σ H fun x H1 => ∃ c, x = .bl c ∧ QB c H1) : tB te σ H QB := h
theorem c_test (h : te σ H fun x H1 => ∃ c, x = .bl c ∧ QB c H1) : tTest te σ H QB := h
theorem c_op {r : R2} (h : ta σ H fun x H1 => tb σ H1 fun y H2 => r x y H2 Q) : tOp r ta tb σ H Q := h
theorem c_call {sp : Sp} {dvs : List V} {E : XK} {tl : TA} (h : tl σ H fun vs H1 => sp (vs ++ dvs) H1 Q E) : tCall sp dvs E tl σ H Q := h
theorem c_cons {tr : TA} {QL : List V → Hp → Prop} (h : ta σ H fun x H1 => tr σ H1 fun xs H2 => QL (x :: xs) H2) : tCons ta tr σ H QL := h
theorem c_nil {QL : List V → Hp → Prop} (h : QL [] H) : tNil σ H QL := h
theorem c_andV (h : ta σ H fun x H1 => ∃ c, x = .bl c ∧ if c = true then tb σ H1 Q else Q (.bl false) H1) : tAndV ta tb σ H Q := h
theorem c_orV (h : ta σ H fun x H1 => ∃ c, x = .bl c ∧ if c = true then Q (.bl true) H1 else tb σ H1 Q) : tOrV ta tb σ H Q := h
theorem c_notV (h : ta σ H fun x H1 => ∃ c, x = .bl c ∧ Q (.bl (!c)) H1) : tNotV ta σ H Q := h
theorem c_ifE (h : t σ H fun c H1 => if c = true then ta σ H1 Q else tb σ H1 Q) : tIf t ta tb σ H Q := h
/-! ### whole forms -/
theorem c_isInt {d : D} (e : σ[i]? = some (some v)) (hd : Im K H d v) (q : Q (.bl (isInt d)) H) : tCB (rIsi K) (tCons (tVar i) (tCons (tC (.ty "int")) tNil)) σ H Q := ⟨v, e, (rd_int hd q : rIsi K [v, .ty "int"] H Q)⟩
theorem c_isBool {d : D} (e : σ[i]? = some (some v)) (hd : Im K H d v) (q : Q (.bl (isBool d)) H) : tCB (rIsi K) (tCons (tVar i) (tCons (tC (.ty "bool")) tNil)) σ H Q := ⟨v, e, (rd_bool hd q : rIsi K [v, .ty "bool"] H Q)⟩
theorem c_isTup {d : D} (e : σ[i]? = some (some v)) (hd : Im K H d v) (q : Q (.bl (isTup d)) H) : tCB (rIsi K) (tCons (tVar i) (tCons (tC (.ty "tuple")) tNil)) σ H Q := ⟨v, e, (rd_tuple hd q : rIsi K [v, .ty "tuple"] H Q)⟩
theorem c_isLst {d : D} (e : σ[i]? = some (some v)) (hd : Im K H d v) (q : Q (.bl (isLst d)) H) : tCB (rIsi K) (tCons (tVar i) (tCons (tC (.ty "list")) tNil)) σ H Q := ⟨v, e, (rd_list hd q : rIsi K [v, .ty "list"] H Q)⟩
theorem c_isStr {d : D} (e : σ[i]? = some (some v)) (hd : Im K H d v) (q : Q (.bl (isStr d)) H) : tCB (rIsi K) (tCons (tVar i) (tCons (tC (.ty "str")) tNil)) σ H Q := ⟨v, e, (rd_str hd q : rIsi K [v, .ty "str"] H Q)⟩
/-- a <= b <= c, of ints that are known -/
theorem c_chain {a b c : Int} (ha : ∀ Q : VK, Q (.int a) H → ta σ H Q) (hb : ∀ Q : VK, Q (.int b) H → tb σ H Q) (hc : ∀ Q : VK, Q (.int c) H → tc σ H Q) (q : Q (.bl (decide (a ≤ b) && decide (b ≤ c))) H) :
    tChain (rI0 fun i j => .bl (decide (i ≤ j))) (rI0 fun i j => .bl (decide (i ≤ j))) ta tb tc σ H Q := by
  refine ha _ (hb _ ⟨a, b, rfl, rfl, _, rfl, ?_⟩)
  cases h1 : decide (a ≤ b) with
  | true =>
    refine iteT (hc _ ⟨b, c, rfl, rfl, ?_⟩)
    rw [h1] at q
    exact q
  | false =>
    refine iteF ?_
    rw [h1] at q
    exact q
theorem v_var {v : V} (e : σ[i]? = some (some v)) : ∀ Q : VK, Q v H → tVar i σ H Q := fun _ q => ⟨v, e, q⟩
theorem v_c {v : V} : ∀ Q : VK, Q v H → tC v σ H Q := fun _ q => q
/-- len of a list or a tuple -/
abbrev rLenQ (K : PySem.W.Frag) : List V → Hp → VK → Prop := fun xs H Q => ∃ p ys, xs = [.ref p] ∧ (SqL K H p ys ∨ SqT K H p ys) ∧ Q (.int ys.length) H
theorem v_len {a : Addr} {xs : List V} (ha : ∀ Q : VK, Q (.ref a) H → ta σ H Q) (h : SqL K H a xs ∨ SqT K H a xs) : ∀ Q : VK, Q (.int xs.length) H → tCB (rLenQ K) (tCons ta tNil) σ H Q := fun Q q => ha _ (show rLenQ K [.ref a] H Q from ⟨a, xs, rfl, h, q⟩)
/-- e[i] -/
theorem v_ixT {a : Addr} {xs : List V} {j : Int} {v : V} (ha : ∀ Q : VK, Q (.ref a) H → ta σ H Q) (hb : ∀ Q : VK, Q (.int j) H → tb σ H Q) (h : SqT K H a xs) (e : atI xs j = some v) : ∀ Q : VK, Q v H → tOp (rIxT K) ta tb σ H Q := fun Q q =>
  ha _ (hb _ ⟨a, xs, j, v, rfl, rfl, h, e, q⟩)
theorem v_ixL {a : Addr} {xs : List V} {j : Int} {v : V} (ha : ∀ Q : VK, Q (.ref a) H → ta σ H Q) (hb : ∀ Q : VK, Q (.int j) H → tb σ H Q) (h : SqL K H a xs) (e : atI xs j = some v) : ∀ Q : VK, Q v H → tOp (rIxL K) ta tb σ H Q := fun Q q =>
  ha _ (hb _ ⟨a, xs, j, v, rfl, rfl, h, e, q⟩)
theorem v_op0 {g : Int → Int → V} {a b : Int} (ha : ∀ Q : VK, Q (.int a) H → ta σ H Q) (hb : ∀ Q : VK, Q (.int b) H → tb σ H Q) : ∀ Q : VK, Q (g a b) H → tOp (rI0 g) ta tb σ H Q := fun Q q =>
  ha _ (hb _ ⟨a, b, rfl, rfl, q⟩)
theorem v_opb {g : Int → Int → Bool} {a b : Int} (ha : ∀ Q : VK, Q (.int a) H → ta σ H Q) (hb : ∀ Q : VK, Q (.int b) H → tb σ H Q) : ∀ Q : VK, Q (.bl (g a b)) H → tOp (rI0 fun i j => .bl (g i j)) ta tb σ H Q := fun Q q =>
  ha _ (hb _ ⟨a, b, rfl, rfl, q⟩)
theorem v_eq {x y : V} (ha : ∀ Q : VK, Q x H → ta σ H Q) (hb : ∀ Q : VK, Q y H → tb σ H Q) (hs : scal x y = true) : ∀ Q : VK, Q (.bl (decide (x = y))) H → tOp rEq ta tb σ H Q := fun Q q =>
  ha _ (hb _ ⟨hs, q⟩)
theorem v_ne {x y : V} (ha : ∀ Q : VK, Q x H → ta σ H Q) (hb : ∀ Q : VK, Q y H → tb σ H Q) (hs : scal x y = true) : ∀ Q : VK, Q (.bl (!decide (x = y))) H → tOp rNe ta tb σ H Q := fun Q q =>
  ha _ (hb _ ⟨hs, q⟩)
/-- the argument list -/
theorem va_cons {tr : TA} {x : V} {xs : List V} (ha : ∀ Q : VK, Q x H → ta σ H Q) (hr : ∀ Q : List V → Hp → Prop, Q xs H → tr σ H Q) : ∀ Q : List V → Hp → Prop, Q (x :: xs) H → tCons ta tr σ H Q := fun Q q => ha _ (hr _ q)
theorem va_nil : ∀ Q : List V → Hp → Prop, Q [] H → tNil σ H Q := fun Q q => q
theorem c_callv {sp : Sp} {dvs : List V} {E : XK} {tl : TA} {xs : List V} (h : ∀ Q : List V → Hp → Prop, Q xs H → tl σ H Q) (q : sp (xs ++ dvs) H Q E) : tCall sp dvs E tl σ H Q := h _ q
theorem c_v {x : V} (h : ∀ Q : VK, Q x H → te σ H Q) (q : Q x H) : te σ H Q := h Q q
/-- a test of a known bool -/
theorem c_testv {b : Bool} (h : ∀ Q : VK, Q (.bl b) H → te σ H Q) (q : QB b H) : tTest te σ H QB := h _ ⟨b, rfl, q⟩
theorem c_Bv {b : Bool} (h : ∀ Q : VK, Q (.bl b) H → te σ H Q) (q : QB b H) : tB te σ H QB := h _ ⟨b, rfl, q⟩
end
end Mk

/-! ### MkQ -/
set_option Elab.async false
set_option linter.all false
set_option maxRecDepth 100000
set_option maxHeartbeats 4000000
namespace Mk
open PySem PySem.Spec PyProof.Rows L2
open GxR (TabG Tabbed)

/-! ### all over a tuple -/
theorem all_tup {K : PySem.W.Frag} {a P : Addr} {xs : List V} {j : Nat} {te : TE} {σ : L2.St} {H1 : Hp} {vs : List Nat} {Q : VK} (hT : TabG H1 P) (hjs : ∀ x, wipe ((wipe σ vs).set j (some x)) vs = wipe σ vs) (Pv : Nat → Hp → Prop) (h0 : ∀ H2, Tabbed P H1 H2 → Pv 0 H2)
    (hl : ∀ i H, i ≤ xs.length → Pv i H → SqT K H a xs)
    (hs : ∀ i x H, xs[i]? = some x → Pv i H → te ((wipe σ vs).set j (some x)) H fun y H4 => ∃ b, y = .bl b ∧ if b = true then Pv (i + 1) H4 else Q (.bl false) H4) (hd : ∀ H, Pv xs.length H → Q (.bl true) H) :
    TabG H1 P ∧ ∀ H2, Tabbed P H1 H2 → ∃ W : Nat → Nat → Hp → Prop, (∃ m, W 0 m H2) ∧ ∀ i m H, W i m H →
      ((Itt K a).stop i H ∧ Q (.bl true) H) ∨ ((Itt K a).go i H ∧ ∃ Nx : Hp → Prop, (∀ H', Nx H' → ∃ m', m' < m ∧ W (i + 1) m' H') ∧ ∀ x H', (Itt K a).yld i H x H' → gName j x (wipe σ vs) H' fun σ2 H3 => wipe σ2 vs = wipe σ vs ∧ te σ2 H3 fun y H4 => ∃ b, y = .bl b ∧ if b = true then Nx H4 else Q (.bl false) H4) := by
  refine ⟨hT, fun H2 t2 => ⟨fun i m H => m = xs.length - i ∧ i ≤ xs.length ∧ Pv i H, ⟨xs.length, by simp, Nat.zero_le _, h0 H2 t2⟩, ?_⟩⟩
  rintro i m H ⟨rfl, hi, p⟩
  have q := hl i H hi p
  by_cases hlt : i < xs.length
  · refine .inr ⟨⟨xs, xs[i], q, by simp [hlt]⟩, Pv (i + 1), fun H' p' => ⟨xs.length - (i + 1), by omega, rfl, hlt, p'⟩, fun x H' y => ?_⟩
    obtain ⟨e, y⟩ := y
    subst e
    exact ⟨hjs x, hs i x _ (y xs q) p⟩
  · have e : i = xs.length := by omega
    subst e
    exact .inl ⟨⟨xs, q, Nat.le_refl _⟩, hd H p⟩

theorem Tabbed.refl {P : Addr} {H : Hp} (h : TabG H P) : Tabbed P H H := ⟨h, fun _ _ => rfl⟩
theorem Tabbed.trans {P : Addr} {H H1 H2 : Hp} (a : Tabbed P H H1) (b : Tabbed P H1 H2) : Tabbed P H H2 := ⟨b.1, fun c hc => (b.2 c hc).trans (a.2 c hc)⟩
theorem Tabbed.ext {P : Addr} {H H1 : Hp} (h : TabG H P) (a : Tabbed P H H1) : ExtN H H1 := fun b o e n => by
  by_cases hb : b = P
  · obtain ⟨ps, hp, _⟩ := h
    rw [hb, hp] at e
    exact absurd (Option.some.inj e).symm (n ps)
  · rw [a.2 b hb]; exact e
theorem TabG.tabbed {P P' : Addr} {H H1 : Hp} (h : TabG H P') (a : Tabbed P H H1) : TabG H1 P' := by
  by_cases hb : P' = P
  · rw [hb]; exact a.1
  · obtain ⟨ps, hp, ht⟩ := h
    exact ⟨ps, by rw [a.2 P' hb]; exact hp, ht⟩

theorem Room.gen {k : Nat} {A : Around} {env : Env} (hr : Room (k + 1) A) : Room k (A.in1.in1.deeper env) := by
  have h1 := hr.hd
  have h2 := hr.dp
  have h3 := hr.un
  refine ⟨h1, ?_, ?_⟩
  · show A.depth + 1 + 3 * k + 5 < recursionLimit
    omega
  · have e : (A.in1.in1.deeper env).units = A.units + 1 + 1 + 3 := rfl
    rw [e]
    omega

/-! ### what the functions work out -/
def isNum (d : D) (lo hi : Int) : Bool := match d with
  | .int i => decide (lo ≤ i) && decide (i ≤ hi)
  | _ => false
def isTupOf (d : D) (lo hi : Int) : Bool := match d with
  | .tup l => decide (lo ≤ (l.length : Int)) && decide ((l.length : Int) ≤ hi)
  | _ => false
def items : D → List D
  | .tup l => l
  | .lst l => l
  | _ => []
def areNums (d : D) (many most : Int) : Bool := isTupOf d many many && (items d).all fun x => isNum x 0 most

/-! ### the text -/
def top (i : Nat) : Stmt := PySem.Challenge.pw_markspass_k02_whole_rows.main.body.getD i (.Pass ⟨0, 0, 0, 0⟩)
abbrev sIsNum : Stmt := top 19
abbrev sIsTup : Stmt := top 20
abbrev sAreNums : Stmt := top 21
abbrev sAreSteps : Stmt := top 22
abbrev sCheckQ : Stmt := top 23
abbrev sNamesOf : Stmt := top 24

/-- the built-in names that the module does not hide -/
structure Glb (mg : Str → Option Value) : Prop where
  isi : mg "isinstance" = none
  int : mg "int" = none
  bool : mg "bool" = none
  tuple : mg "tuple" = none
  list : mg "list" = none
  len : mg "len" = none
  all : mg "all" = none
theorem boot_isi : bootBuiltins "isinstance" = some (.builtin "isinstance") := by decide +kernel
theorem boot_int' : bootBuiltins "int" = some (.type "int") := by decide +kernel
theorem boot_bool' : bootBuiltins "bool" = some (.type "bool") := by decide +kernel
theorem boot_tuple' : bootBuiltins "tuple" = some (.type "tuple") := by decide +kernel
theorem boot_list' : bootBuiltins "list" = some (.type "list") := by decide +kernel

section
variable {P : Program} {w : World} {K : PySem.W.Frag} {mg : Str → Option Value} {base : Heap}

/-! ### is_number -/
def spIsNum (K : PySem.W.Frag) : Sp := fun vs H Q _ => ∃ (d : D) (v : V) (lo hi : Int), vs = [v, .int lo, .int hi] ∧ Im K H d v ∧ Q (.bl (isNum d lo hi)) H
theorem scIsNum : FnScope ["value", "least", "most"] ["value", "least", "most"] (defScope sIsNum) := ⟨rfl, rfl, rfl, by decide +kernel, rfl, by decide +kernel, by decide +kernel⟩
theorem ok_isNum {f : Addr} {fd : FuncData} (F : Fun K "is_number" "is_number" sIsNum f fd) (B : Glb mg) : FnOk P w K mg base CX0 1 f fd ["value", "least", "most"] (spIsNum K) := by
  refine F.ok scIsNum (fun vs H Q E h => ?_) (fun cdv A outer s H vs Q E hr h => ?_)
  · obtain ⟨d, v, lo, hi, rfl, _⟩ := h
    rfl
  · obtain ⟨d, v, lo, hi, rfl, hd, q⟩ := h
    refine ⟨_, pss_one (ps_ret (pe_and (pe_callB call_isi (by rfl) B.isi boot_isi (pa_cons (pv 0) (pa_cons (pe_bltn (v := .ty "int") (by rfl) B.int boot_int' rfl) pa_nil)))
      (pe_and (pe_not (pe_callB call_isi (by rfl) B.isi boot_isi (pa_cons (pv 0) (pa_cons (pe_bltn (v := .ty "bool") (by rfl) B.bool boot_bool' rfl) pa_nil))))
        (pe_one (pe_chain op_le op_le (pv 1) (pv 0) (pv 2)))))), ?_⟩
    refine c_ret (c_andV (c_isInt rfl hd ⟨_, rfl, ?_⟩))
    cases d with
    | int i =>
      obtain rfl := im_int' hd
      exact iteT (c_andV (c_notV (c_isBool rfl hd ⟨_, rfl, _, rfl, iteT (c_chain (v_var rfl) (v_var rfl) (v_var rfl) q)⟩)))
    | bl b => exact iteT (c_andV (c_notV (c_isBool rfl hd ⟨_, rfl, _, rfl, iteF q⟩)))
    | non => exact iteF q
    | str _ => exact iteF q
    | tup _ => exact iteF q
    | lst _ => exact iteF q

/-! ### is_tuple_of -/
def spIsTup (K : PySem.W.Frag) : Sp := fun vs H Q _ => ∃ (d : D) (v : V) (lo hi : Int), vs = [v, .int lo, .int hi] ∧ Im K H d v ∧ Q (.bl (isTupOf d lo hi)) H
theorem scIsTup : FnScope ["value", "least", "most"] ["value", "least", "most"] (defScope sIsTup) := ⟨rfl, rfl, rfl, by decide +kernel, rfl, by decide +kernel, by decide +kernel⟩
theorem ok_isTup {f : Addr} {fd : FuncData} (F : Fun K "is_tuple_of" "is_tuple_of" sIsTup f fd) (B : Glb mg) : FnOk P w K mg base CX0 1 f fd ["value", "least", "most"] (spIsTup K) := by
  refine F.ok scIsTup (fun vs H Q E h => ?_) (fun cdv A outer s H vs Q E hr h => ?_)
  · obtain ⟨d, v, lo, hi, rfl, _⟩ := h
    rfl
  · obtain ⟨d, v, lo, hi, rfl, hd, q⟩ := h
    refine ⟨_, pss_one (ps_ret (pe_and (pe_callB call_isi (by rfl) B.isi boot_isi (pa_cons (pv 0) (pa_cons (pe_bltn (v := .ty "tuple") (by rfl) B.tuple boot_tuple' rfl) pa_nil)))
        (pe_one (pe_chain op_le op_le (pv 1) (pe_callB call_len_seq (by rfl) B.len boot_len (pa_cons (pv 0) pa_nil)) (pv 2))))), ?_⟩
    refine c_ret (c_andV (c_isTup rfl hd ⟨_, rfl, ?_⟩))
    cases d with
    | tup l =>
      obtain ⟨a, xs, rfl, hx, hl⟩ := im_tup' hd
      refine iteT (c_chain (v_var rfl) (v_len (v_var rfl) (.inr hx)) (v_var rfl) ?_)
      rw [hl.length]
      exact q
    | bl b => exact iteF q
    | int b => exact iteF q
    | non => exact iteF q
    | str _ => exact iteF q
    | lst _ => exact iteF q

end

/-! ### defs with a table of their own -/
theorem Fun.code_of {x qual : Str} {st : Stmt} {K : PySem.W.Frag} {f : Addr} {fd : FuncData} (F : Fun K x qual st f fd) : True := True.intro
/-- as Fun.ok, the def's code object told -/
theorem Fun.okC {P : Program} {w : World} {K : PySem.W.Frag} {mg : Str → Option Value} {base : Heap} {x qual : Str} {st : Stmt} {f : Addr} {fd : FuncData} {N ps : List Str} {k : Nat} {sp : Sp} (F : Fun K x qual st f fd) (S : FnScope N ps (defScope st)) (len : ∀ vs H Q E, sp vs H Q E → vs.length = ps.length)
    (hbody : ∀ (A : Around) (outer : List Env) (s : Shared) (H : Hp) (vs : List V) (Q : VK) (E : XK), Room k (A.deeper (envOfC qual (defScope st) s.heap.objs.size f fd.code)) → sp vs H Q E →
      ∃ t, PSs (cxOf CX0 P w K mg base N qual (defScope st) f fd.code A outer s H E).nox (defBody st) t ∧ t { nx := fun _ H' => Q .non H', rt := Q } (start N vs) H) : FnOk P w K mg base CX0 (k + 1) f fd ps sp := by
  obtain ⟨oc, od, kV, doc, pm, an, cdv, ct, osl, rfl, lk, hcd⟩ := F.ex
  refine fn_of lk hcd S len fun A outer s H vs Q E hr hsp => ?_
  obtain ⟨t, h, q⟩ := hbody A outer s H vs Q E hr hsp
  exact ⟨t, h.nox, q⟩
theorem Fun.okXC {P : Program} {w : World} {K : PySem.W.Frag} {mg : Str → Option Value} {base : Heap} {x qual : Str} {st : Stmt} {f : Addr} {fd : FuncData} {N ps : List Str} {k : Nat} {sp : Sp} (F : Fun K x qual st f fd) (S : FnScope N ps (defScope st)) (len : ∀ vs H Q E, sp vs H Q E → vs.length = ps.length)
    (hbody : ∀ (A : Around) (outer : List Env) (s : Shared) (H : Hp) (vs : List V) (Q : VK) (E : XK), Room k (A.deeper (envOfC qual (defScope st) s.heap.objs.size f fd.code)) → sp vs H Q E →
      ∃ t, PSs (cxOf (L2.CX P w) P w K mg base N qual (defScope st) f fd.code A outer s H E) (defBody st) t ∧ t { nx := fun _ H' => Q .non H', rt := Q } (start N vs) H) : FnOk P w K mg base (L2.CX P w) (k + 1) f fd ps sp := by
  obtain ⟨oc, od, kV, doc, pm, an, cdv, ct, osl, rfl, lk, hcd⟩ := F.ex
  exact fn_of lk hcd S len fun A outer s H vs Q E hr hsp => hbody A outer s H vs Q E hr hsp
/-- fd's code object and its table -/
structure Own (mg : Str → Option Value) (base : Heap) (fd : FuncData) (c T : Addr) : Prop where
  code : fd.code = .ref c
  tb : GxR.TabB base mg c T
def gC (N : List Str) (sc scope : Scope) (own : List (Str × Nat)) : Bool :=
  blkC N sc scope own && (!scope.isCoroutine && ((scope.names.all fun y => !decide (y.2 = .cell)) && decide (scope.names.lookup (".0" : Str) = some NameKind.local)))
theorem gOk_by {N : List Str} {sc scope : Scope} {own : List (Str × Nat)} (h : gC N sc scope own = true) : GOk N sc scope own := by
  unfold gC at h
  simp only [Bool.and_eq_true, List.all_eq_true, decide_eq_true_eq, Bool.not_eq_true', decide_eq_false_iff_not] at h
  obtain ⟨h1, h2, h3, h4⟩ := h
  exact ⟨blkOk_by h1, h2, fun y hy => h3 y hy, h4⟩
theorem all_take {l : List D} {i : Nat} {x : D} {f : D → Bool} (h : l[i]? = some x) : (l.take (i + 1)).all f = ((l.take i).all f && f x) := by
  rw [List.take_add_one, h]
  simp
theorem all_cut {l : List D} {i : Nat} {x : D} {f : D → Bool} (h : l[i]? = some x) (hf : f x = false) : l.all f = false := by
  rw [List.all_eq_false]
  exact ⟨x, List.mem_of_getElem? h, by rw [hf]; exact Bool.false_ne_true⟩
/-- all(.. for x in t), t a tuple -/
theorem c_allT {K : PySem.W.Frag} {a T : Addr} {xs : List V} {j : Nat} {tl te : TE} {σ : L2.St} {H : Hp} {vs : List Nat} {Q : VK} (ha : ∀ Q : VK, Q (.ref a) H → tl σ H Q) (hx : SqT K H a xs) (hT : TabG H T) (hjs : ∀ x, wipe ((wipe σ vs).set j (some x)) vs = wipe σ vs) (Pv : Nat → Hp → Prop)
    (h0 : ∀ H2, Tabbed T H H2 → Pv 0 H2) (hl : ∀ i H, i ≤ xs.length → Pv i H → SqT K H a xs)
    (hs : ∀ i x H, xs[i]? = some x → Pv i H → te ((wipe σ vs).set j (some x)) H fun y H4 => ∃ b, y = .bl b ∧ if b = true then Pv (i + 1) H4 else Q (.bl false) H4) (hd : ∀ H, Pv xs.length H → Q (.bl true) H) :
    tAllG T (iTup K tl) (gName j) te vs σ H Q := ha _ ⟨a, rfl, ⟨xs, hx⟩, all_tup hT hjs Pv h0 hl hs hd⟩

section
variable {P : Program} {w : World} {K : PySem.W.Frag} {mg : Str → Option Value} {base : Heap}
/-! ### are_numbers -/
def spAreNums (K : PySem.W.Frag) (T : Addr) : Sp := fun vs H Q _ => ∃ (d : D) (v : V) (many most : Int), vs = [v, .int many, .int most] ∧ Im K H d v ∧ TabG H T ∧ ∀ H', Tabbed T H H' → Q (.bl (areNums d many most)) H'
theorem scAreNums : FnScope ["value", "many", "most", "part"] ["value", "many", "most"] (defScope sAreNums) := ⟨rfl, rfl, rfl, by decide +kernel, rfl, by decide +kernel, by decide +kernel⟩
theorem ok_areNums {f c T fN fT : Addr} {fd fdN fdT : FuncData} (F : Fun K "are_numbers" "are_numbers" sAreNums f fd) (B : Glb mg) (O : Own mg base fd c T)
    (FN : Fun K "is_number" "is_number" sIsNum fN fdN) (bN : Binds K fdN ["value", "least", "most"] []) (gN : mg "is_number" = some (.ref fN)) (FT : Fun K "is_tuple_of" "is_tuple_of" sIsTup fT fdT) (bT : Binds K fdT ["value", "least", "most"] []) (gT : mg "is_tuple_of" = some (.ref fT)) :
    FnOk P w K mg base CX0 3 f fd ["value", "many", "most"] (spAreNums K T) := by
  have GN : FnOk P w K mg base CX0 1 fN fdN ["value", "least", "most"] (spIsNum K) := ok_isNum FN B
  have GT : FnOk P w K mg base CX0 1 fT fdT ["value", "least", "most"] (spIsTup K) := ok_isTup FT B
  refine Fun.okC F scAreNums (fun vs H Q E h => ?_) (fun A outer s H vs Q E hr h => ?_)
  · obtain ⟨d, v, lo, hi, rfl, _⟩ := h
    rfl
  · obtain ⟨d, v, many, most, rfl, hd, hT, q⟩ := h
    refine ⟨_, pss_one (ps_ret (pe_and (pe_call GT (hr.mono (by decide)) (by rfl) gT FT.kp bT .nil pass0 (pa_cons (pv 0) (pa_cons (pv 1) (pa_cons (pv 1) pa_nil))))
      (pe_one (pe_all (own := [("part", 3)]) (g := gName 3) hr (by rfl) B.all O.tb O.code (gOk_by (N := ["value", "many", "most", "part"]) (sc := defScope sAreNums) (by decide +kernel)) scAreNums.nd (pi_tup (pv 0)) (fun _ _ _ _ _ _ _ => pg_name (i := 3) scAreNums.nd rfl (Or.inl rfl))
        (fun _ _ _ _ _ _ _ => pe_call GN (Room.gen hr) (by rfl) gN FN.kp bN .nil pass0 (pa_cons (pv 3) (pa_cons pe_int (pa_cons (pv 2) pa_nil)))))))), ?_⟩
    refine c_ret (c_andV (c_callv (va_cons (v_var rfl) (va_cons (v_var rfl) (va_cons (v_var rfl) va_nil))) ⟨d, v, many, many, rfl, hd, _, rfl, ?_⟩))
    cases h1 : isTupOf d many many with
    | false =>
      refine iteF ?_
      have e : areNums d many most = false := by unfold areNums; rw [h1]; rfl
      rw [e] at q
      exact q H (Tabbed.refl hT)
    | true =>
      refine iteT ?_
      have e : areNums d many most = (items d).all fun x => isNum x 0 most := by unfold areNums; rw [h1]; rfl
      rw [e] at q
      cases d with
      | tup l =>
        obtain ⟨a, xs, rfl, hx, hl⟩ := im_tup' hd
        refine c_allT (xs := xs) (v_var rfl) hx hT (fun x => rfl) (fun i H' => Tabbed T H H' ∧ (l.take i).all (fun x => isNum x 0 most) = true) (fun H2 t2 => ⟨t2, rfl⟩) (fun i H' _ p => (ExtN.ee (Tabbed.ext hT p.1)).t _ _ hx) (fun i x H' hi p => ?_) (fun H' p => ?_)
        · obtain ⟨dx, hdx, him⟩ := hl.get hi
          refine c_callv (va_cons (v_var rfl) (va_cons v_c (va_cons (v_var rfl) va_nil))) ⟨dx, x, 0, most, rfl, him.mono (ExtN.ee (Tabbed.ext hT p.1)), _, rfl, ?_⟩
          cases h2 : isNum dx 0 most with
          | true => exact iteT ⟨p.1, by rw [all_take hdx, p.2, h2]; rfl⟩
          | false =>
            refine iteF ?_
            have e2 : ((items (D.tup l)).all fun x => isNum x 0 most) = false := all_cut (l := l) hdx h2
            rw [e2] at q
            exact q H' p.1
        · have e2 : ((items (D.tup l)).all fun x => isNum x 0 most) = true := by
            have z := p.2
            rw [hl.length, List.take_length] at z
            exact z
          rw [e2] at q
          exact q H' p.1
      | _ => cases h1
end

/-! ### what stands beside: the tables of the defs at G -/
structure AmOk (Am : Hp → Prop) (G : List Addr) : Prop where
  get : ∀ {T H}, T ∈ G → Am H → TabG H T
  tab : ∀ {T H H'}, T ∈ G → Am H → Tabbed T H H' → Am H'
  same : ∀ {H H'}, Am H → (∀ b o, H b = some o → (∀ xs, o ≠ .lst xs) → H' b = some o) → Am H'
theorem AmOk.new {Am : Hp → Prop} {G : List Addr} (A : AmOk Am G) {H : Hp} {p : Addr} {o : HO} (h : Am H) (n : H p = none) : Am (upd H p o) := A.same h fun b u e _ => by
  rw [upd_ne (ne_of_none e n)]; exact e
theorem AmOk.lst {Am : Hp → Prop} {G : List Addr} (A : AmOk Am G) {H : Hp} {p : Addr} {o : HO} {xs : List V} (h : Am H) (n : H p = some (.lst xs)) : Am (upd H p o) := A.same h fun b u e q => by
  rw [upd_ne (fun z => by rw [z, n] at e; exact q xs (Option.some.inj e).symm)]; exact e

/-! ### are_steps -/
def head0 (d : D) : D := (items d).getD 0 .non
def areSt (d : D) : Bool := isTupOf d 1 6 && (isTupOf (head0 d) 1 3 && (items d).all fun x => areNums x ((items (head0 d)).length : Int) (((items d).length : Int) - 1))
structure Cns (mg : Str → Option Value) : Prop where
  ms : ∃ t, mg "MOST_STATES" = some (.int 6 t)
  mn : ∃ t, mg "MOST_NAMES" = some (.int 3 t)
  ml : ∃ t, mg "MOST_LENGTH" = some (.int 2000 t)
section
variable {P : Program} {w : World} {K : PySem.W.Frag} {mg : Str → Option Value} {base : Heap} {Am : Hp → Prop} {G : List Addr}
/-- returns v -/
abbrev Rt (Am : Hp → Prop) (H : Hp) (Q : VK) (v : V) : Prop := ∀ H', ExtN H H' → Am H' → Q v H'
def spAreSteps (K : PySem.W.Frag) (Am : Hp → Prop) : Sp := fun vs H Q _ => ∃ (d : D) (v : V), vs = [v] ∧ Im K H d v ∧ Am H ∧ Rt Am H Q (.bl (areSt d))
theorem scAreSteps : FnScope ["value", "names", "last", "nexts"] ["value"] (defScope sAreSteps) := ⟨rfl, rfl, rfl, by decide +kernel, rfl, by decide +kernel, by decide +kernel⟩
theorem ok_areSteps {f c T T0 fN fT : Addr} {fd fdN fdT : FuncData} (A : AmOk Am G) (hT : T ∈ G) (hT0 : T0 ∈ G) (F : Fun K "are_steps" "are_steps" sAreSteps f fd) (B : Glb mg) (C : Cns mg) (O : Own mg base fd c T)
    (GN : FnOk P w K mg base CX0 3 fN fdN ["value", "many", "most"] (spAreNums K T0)) (kN : PySem.W.keepIn K (.ref fN) = true) (bN : Binds K fdN ["value", "many", "most"] []) (gN : mg "are_numbers" = some (.ref fN))
    (GT : FnOk P w K mg base CX0 1 fT fdT ["value", "least", "most"] (spIsTup K)) (kT : PySem.W.keepIn K (.ref fT) = true) (bT : Binds K fdT ["value", "least", "most"] []) (gT : mg "is_tuple_of" = some (.ref fT)) :
    FnOk P w K mg base CX0 5 f fd ["value"] (spAreSteps K Am) := by
  obtain ⟨t1, m1⟩ := C.ms
  obtain ⟨t2, m2⟩ := C.mn
  refine Fun.okC F scAreSteps (fun vs H Q E h => ?_) (fun Ar outer s H vs Q E hr h => ?_)
  · obtain ⟨d, v, rfl, _⟩ := h
    rfl
  · obtain ⟨d, v, rfl, hd, hA, q⟩ := h
    have hr1 : Room 1 _ := hr.mono (by decide)
    refine ⟨_, pss_cons (ps_if (PW.pt (pw_or (pt_not (pt_val (pe_call GT hr1 (by rfl) gT kT bT .nil pass0 (pa_cons (pv 0) (pa_cons pe_int (pa_cons (pe_glob (v := .int 6) (by rfl) m1 ⟨_, rfl⟩) pa_nil))))))
        (pw_or1 (pt_not (pt_val (pe_call GT hr1 (by rfl) gT kT bT .nil pass0 (pa_cons (pe_ix ix_tup (pv 0) pe_int (fun _ _ => rfl)) (pa_cons pe_int (pa_cons (pe_glob (v := .int 3) (by rfl) m2 ⟨_, rfl⟩) pa_nil))))))))) (pss_one (ps_ret pe_bl)) pss_nil)
      (pss_cons (ps_set (i := 1) scAreSteps.nd rfl (Or.inr rfl) (pe_callB call_len_seq (by rfl) B.len boot_len (pa_cons (pe_ix ix_tup (pv 0) pe_int (fun _ _ => rfl)) pa_nil)))
      (pss_cons (ps_set (i := 2) scAreSteps.nd rfl (Or.inr rfl) (pe_op op_sub (pe_callB call_len_seq (by rfl) B.len boot_len (pa_cons (pv 0) pa_nil)) pe_int))
      (pss_one (ps_ret (pe_all (own := [("nexts", 3)]) (g := gName 3) hr (by rfl) B.all O.tb O.code (gOk_by (N := ["value", "names", "last", "nexts"]) (sc := defScope sAreSteps) (by decide +kernel)) scAreSteps.nd (pi_tup (pv 0)) (fun _ _ _ _ _ _ _ => pg_name (i := 3) scAreSteps.nd rfl (Or.inl rfl))
        (fun _ _ _ _ _ _ _ => pe_call GN (Room.gen hr) (by rfl) gN kN bN .nil pass0 (pa_cons (pv 3) (pa_cons (pv 1) (pa_cons (pv 2) pa_nil))))))))), ?_⟩
    refine c_seq (c_if (c_or (c_not (c_B (c_callv (va_cons (v_var rfl) (va_cons v_c (va_cons v_c va_nil))) ⟨d, v, 1, 6, rfl, hd, _, rfl, ?_⟩)))))
    cases h1 : isTupOf d 1 6 with
    | false =>
      refine iteT (iteT (c_ret (c_c ?_)))
      have e : areSt d = false := by unfold areSt; rw [h1]; rfl
      rw [e] at q
      exact q H (LamX.ExtN.refl H) hA
    | true =>
      refine iteF ?_
      cases d with
      | tup l =>
        obtain ⟨a, xs, rfl, hx, hl⟩ := im_tup' hd
        have hlen : 1 ≤ l.length := by
          have z : (decide ((1 : Int) ≤ (l.length : Int)) && decide ((l.length : Int) ≤ 6)) = true := h1
          simp only [Bool.and_eq_true, decide_eq_true_eq] at z
          omega
        obtain ⟨d0, hd0⟩ : ∃ d0, l[0]? = some d0 := ⟨l[0], List.getElem?_eq_getElem (by omega)⟩
        obtain ⟨v0, hv0, hm0⟩ := hl.get' hd0
        have eh : head0 (.tup l) = d0 := by unfold head0 items; rw [List.getD_eq_getElem?_getD, hd0]; rfl
        have v00 : ∀ {σ : L2.St}, σ[0]? = some (some (.ref a)) → ∀ Q : VK, Q v0 H → tOp (rIxT K) (tVar 0) (tC (.int 0)) σ H Q := fun h => v_ixT (v_var h) v_c hx (atI_nat (j := 0) hv0)
        refine c_not (c_B (c_callv (va_cons (v00 rfl) (va_cons v_c (va_cons v_c va_nil))) ⟨d0, v0, 1, 3, rfl, hm0, _, rfl, ?_⟩))
        cases h2 : isTupOf d0 1 3 with
        | false =>
          refine iteT (c_ret (c_c ?_))
          have e : areSt (.tup l) = false := by unfold areSt; rw [h1, eh, h2]; rfl
          rw [e] at q
          exact q H (LamX.ExtN.refl H) hA
        | true =>
          refine iteF (c_next ?_)
          cases d0 with
          | tup l0 =>
            obtain ⟨a0, xs0, rfl, hx0, hl0⟩ := im_tup' hm0
            have e : areSt (.tup l) = l.all fun x => areNums x (l0.length : Int) ((l.length : Int) - 1) := by unfold areSt; rw [h1, eh, h2]; rfl
            rw [e] at q
            refine c_seq (c_set (c_v (v_len (v00 rfl) (.inr hx0)) ?_))
            refine c_seq (c_set (c_v (v_op0 (v_len (v_var rfl) (.inr hx)) v_c) ?_))
            rw [hl0.length, hl.length]
            refine c_ret (c_allT (xs := xs) (v_var rfl) hx (A.get hT hA) (fun x => rfl) (fun i H' => ExtN H H' ∧ Am H' ∧ (l.take i).all (fun x => areNums x (l0.length : Int) ((l.length : Int) - 1)) = true) (fun H2 t2 => ⟨Tabbed.ext (A.get hT hA) t2, A.tab hT hA t2, rfl⟩) (fun i H' _ p => (ExtN.ee p.1).t _ _ hx) (fun i x H' hi p => ?_) (fun H' p => ?_))
            · obtain ⟨dx, hdx, him⟩ := hl.get hi
              refine c_callv (va_cons (v_var rfl) (va_cons (v_var rfl) (va_cons (v_var rfl) va_nil))) ⟨dx, x, _, _, rfl, him.mono (ExtN.ee p.1), A.get hT0 p.2.1, fun H2 t2 => ⟨_, rfl, ?_⟩⟩
              have e1 : ExtN H H2 := LamX.ExtN.trans p.1 (Tabbed.ext (A.get hT0 p.2.1) t2)
              have a1 : Am H2 := A.tab hT0 p.2.1 t2
              cases h3 : areNums dx (l0.length : Int) ((l.length : Int) - 1) with
              | true => exact iteT ⟨e1, a1, by rw [all_take hdx, p.2.2, h3]; rfl⟩
              | false =>
                refine iteF ?_
                rw [all_cut hdx h3] at q
                exact q H2 e1 a1
            · have e2 : (l.all fun x => areNums x (l0.length : Int) ((l.length : Int) - 1)) = true := by
                have z := p.2.2
                rw [hl.length, List.take_length] at z
                exact z
              rw [e2] at q
              exact q H' p.1 p.2.1
          | _ => cases h2
      | _ => cases h1
end
end Mk

/-! ### MkExc -/
set_option Elab.async false
set_option linter.all false
set_option maxRecDepth 100000
set_option maxHeartbeats 4000000
namespace Mk
open PySem PySem.Spec PyProof.Rows L2
section
variable {X : Cx}
/-- {x}: a text, an int or None, as a text -/
def tFmtN (te : TE) : TE := fun σ H Q => te σ H fun x H1 => (∃ y : Str, x = .str y ∧ y.length ≤ sizeLine ∧ Q (.str y) H1) ∨ (∃ i : Int, x = .int i ∧ i.natAbs.log2 < 1920 ∧ Q (.str (toString i)) H1) ∨ (x = .non ∧ Q (.str "None") H1)
theorem pe_fmtN {e : Expr} {te : TE} {pos : Pos} (he : PE X e te) : PE X (.FormattedValue e (-1) none pos) (tFmtN te) := by
  refine ⟨fun pins s σ H Q I h => ?_⟩
  refine wpAny_FormattedValue_plain (thn (he.run pins s σ H _ I h) fun v s1 hv => ?_)
  obtain ⟨x, H1, I1, r1, q⟩ := hv
  rcases q with ⟨y, rfl, hz, q⟩ | ⟨i, rfl, hz, q⟩ | ⟨rfl, q⟩
  · obtain ⟨t, rfl⟩ := r1
    exact wpAny_formatField_str ⟨.str y, H1, I1, ⟨t, rfl⟩, q⟩ ⟨.str y, H1, I1.tok _, ⟨_, rfl⟩, q⟩ hz
  · obtain ⟨t, rfl⟩ := r1
    exact wpAny_formatField_int hz ⟨.str (toString i), H1, I1.tok _, ⟨_, rfl⟩, q⟩
  · obtain rfl : v = Value.none := r1
    exact wpAny_formatField_none ⟨.str "None", H1, I1.tok _, ⟨_, rfl⟩, q⟩
/-- the base class B (at CB), whose __init__ is ValueError's -/
structure BaseT (K : PySem.W.Frag) (mg : Str → Option Value) (x : Str) (CB : Addr) (mc : Value) : Prop where
  g : mg x = some (.ref CB)
  rd : ClX.CRead K CB mc
  at_ : PySem.W.findCls K (.ref CB) mc "__init__" = some (.val (.builtin "ValueError.__init__"))
theorem pe_meinit {x : Str} {CB : Addr} {mc : Value} {e : Expr} {es : List Expr} {ta : TA} {p1 p2 pos : Pos} {pl : Sem Bool} (T : BaseT X.K X.mg x CB mc) (hg : Gl X x) (ha : PA X (e :: es) ta) (hdb : (x == ("__debug__" : Str)) = false := by decide)
    (hc : eval (.Call (.Attribute (.Name x p1) "__init__" p2) (e :: es) [] pos) X.env = (do
      let ov ← eval (.Name x p1) X.env
      standAt p2.atName
      let (f, first) ← holding [ov] (getMethod ov "__init__" pl)
      callWith pos f first (backTo pos (starEach (e :: es) X.env)) (backToKw pos (keywordEach [] X.env))) := by rfl)
    (he : starEach (e :: es) X.env = (false, eval e X.env) :: starEach es X.env := by rfl) (hpl : (backTo pos (starEach es X.env)).any (·.1) = false := by rfl) :
    PE X (.Call (.Attribute (.Name x p1) "__init__" p2) (e :: es) [] pos) (tVeI X.K ta) := by
  refine ⟨fun pins s σ H Q I h => ?_⟩
  refine PySem.W.methodCall_KW (ld_glob I hg T.g ?_ hdb) hc
  refine PySem.W.method_cls I.kIn T.rd.ga (PySem.W.cls_value I.kIn T.rd.rd T.at_ rfl ?_)
  show wpAny _ _ (callWith pos (Value.builtin "ValueError.__init__") [] (backTo pos (starEach (e :: es) X.env)) []) _ _ _
  refine PyProof.Rows.callWith_method1 (thn (ha.run pos pins _ σ H _ (I.tok _) h) fun us s1 ⟨vs, H1, I1, r1, a, C, ws, ev, hl, T, ea, q⟩ => ?_) he hpl
  subst ev
  cases r1 with
  | @cons _ u0 _ ur ra rw' =>
    obtain rfl : u0 = Value.ref a := ra
    have hlen : ur.length ≤ sizeLine := by
      rw [← Paired.length rw', sizeLine_eq]
      omega
    exact oinit_ok T I1 ea hlen fun s' J => ⟨.non, H1, J, rfl, q⟩
end
/-- an own error's promise: its own dict holds the field -/
def spInit (K : PySem.W.Frag) (C : Addr) (f : Str) : Sp := fun vs H Q _ => ∃ (a : Addr) (v : V), vs = [.ref a, v] ∧ ((∃ y : Str, v = .str y ∧ y.length ≤ 100) ∨ (∃ i : Int, v = .int i ∧ i.natAbs.log2 < 1000) ∨ v = .non) ∧ OexC K C ∧ PySem.W.findIn K (.ref C) f = some none ∧ H a = some (exo a C none) ∧
  ∀ dx, H dx = none → dx ≠ a → Q .non (upd (upd H dx (exd dx [(f, v)])) a (exo a C (some dx)))
end Mk

/-! ### MkEnum -/
set_option Elab.async false
set_option linter.all false
set_option maxRecDepth 100000
set_option maxHeartbeats 4000000
namespace PySem
open Sem (wp)
open AutoSeq1 (wpAny_loadPart')
theorem mk_meets_enumerate_newT (l : Addr) (items : Array Value) (n : Nat) (dct : Option Addr) (sl : Array (Option Value)) :
    Meets (Builtin.«enumerate.__new__» ⟨[.type "enumerate", .ref l], []⟩) (fun _ R s => s.heap.get? l = some { cls := .type "tuple", dict := dct, data := .seq items n, slots := sl } ∧
      R (.ok (.ret (.ref (s.heap.push { cls := .type "tuple_iterator", data := .fields #[.ref l, .int 0 0] }).objs.size)))
        { s with heap := (s.heap.push { cls := .type "tuple_iterator", data := .fields #[.ref l, .int 0 0] }).push { cls := .type "enumerate", data := .fields #[.none, .bool false, .ref s.heap.objs.size, rawInt 0, .none, .none] } }) :=
  .of_wp fun prog w A R s h => by
    obtain ⟨hp, g, d, tk, os⟩ := s; obtain ⟨hl, h⟩ := h
    have hsub := sub_enumerate
    have hL : Heap.IsTuple (Shared.heap ⟨hp, g, d, tk, os⟩) l items := ⟨_, hl, rfl, n, rfl⟩
    wp_walk using wpAny_loadPart' hl
    refine wpAny_stack_any fun st => wpAny_pure ?_
    split
    · rename_i c _ _ _ _ _
      cases (c == Value.type "enumerate")
      · wp_walk using wpAny_loadPart' hl, wpAny_pyIter_tuple hL
        exact ⟨_, rfl, h⟩
      · wp_walk using wpAny_loadPart' hl, wpAny_pyIter_tuple hL
        exact ⟨_, rfl, h⟩
    · wp_walk using wpAny_loadPart' hl, wpAny_pyIter_tuple hL
      exact ⟨_, rfl, h⟩
section
variable {prog : Program} {w : World} {A : Around} {E : Value → Shared → Prop} {s : Shared}
theorem mk_call_enumerate_tuple {l : Addr} {items : Array Value} {Q : Value → Shared → Prop} (hL : s.heap.IsTuple l items)
    (h : ∀ h', IsEnum h' (s.heap.objs.size + 1) s.heap.objs.size 0 .none → h'.IsTupleIter s.heap.objs.size l 0 → h'.objs.size = s.heap.objs.size + 2 →
      (∀ b o, s.heap.get? b = some o → h'.get? b = some o) → Q (.ref (s.heap.objs.size + 1)) { s with heap := h' }) :
    wpAny (model prog w) A (call (.type "enumerate") [.ref l]) Q E s := by
  obtain ⟨⟨c, dct, dt, sl⟩, hl, hc, n, hd⟩ := hL
  replace hc : c = .type "tuple" := hc
  replace hd : dt = .seq items n := hd
  subst hc hd
  refine callType_new F.called_enumerate (by decide) (F.typeCall_enumerate_1 _) (F.newCall_enumerate_1 _) (fun obj => F.args_object_init_2 obj _) F.entry_enumerate_new
    (mk_meets_enumerate_newT l items n dct sl) ⟨hl, ?_⟩
  have hz : (s.heap.push { cls := .type "tuple_iterator", data := .fields #[.ref l, .int 0 0] }).objs.size = s.heap.objs.size + 1 := Heap.size_push ..
  show _ ∧ _
  rw [hz]
  have he : IsEnum ((s.heap.push { cls := .type "tuple_iterator", data := .fields #[.ref l, .int 0 0] }).push
      { cls := .type "enumerate", data := .fields #[.none, .bool false, .ref s.heap.objs.size, rawInt 0, .none, .none] }) (s.heap.objs.size + 1) s.heap.objs.size 0 .none := by
    have := Heap.get?_push_size (s.heap.push { cls := .type "tuple_iterator", data := .fields #[.ref l, .int 0 0] })
      (o := { cls := .type "enumerate", data := .fields #[.none, .bool false, .ref s.heap.objs.size, rawInt 0, .none, .none] }) rfl
    rw [hz] at this; exact this
  refine ⟨⟨_, he, rfl⟩, h _ he ⟨_, Heap.get?_push_of_some _ (Heap.get?_push_size _ rfl), rfl, rfl⟩ (by rw [Heap.size_push, hz]) fun b o x => Heap.get?_push_of_some _ (Heap.get?_push_of_some _ x)⟩
end
end PySem
namespace Mk
open PySem PySem.Spec PyProof.Rows L2
/-- the tuple at a at each turn, each item in a new pair -/
def Itet (K : PySem.W.Frag) (a : Addr) : It :=
  ⟨fun i H => ∃ (xs : List V) (x : V), SqT K H a xs ∧ xs[i]? = some x, fun i H v H' => ∃ T x, v = .ref T ∧ H T = none ∧ H' = upd H T (.tup [.int (i : Nat), x]) ∧ ∀ xs, SqT K H a xs → xs[i]? = some x, fun i H => ∃ xs : List V, SqT K H a xs ∧ xs.length ≤ i⟩
theorem wpAny_pyNext_enum_endD' {prog : Program} {w : World} {A : Around} {E : Value → Shared → Prop} {s : Shared} {e it a : Addr} {i : Nat} {j : Int} {old : Value} {items : Array Value} {Q : Option Value → Shared → Prop} (he : IsEnum s.heap e it j old) (hit : s.heap.IsTupleIter it a i) (p : s.heap.IsTuple a items) (hh : A.handled = none) (hx : items[i]? = none)
    (hQ : ∀ h', Heap.ExtBut it s.heap h' → Q none { s with heap := h' }) : wpAny (model prog w) A (pyNext (.ref e)) Q E s := by
  have hT : s.TypeIs (.ref e) "enumerate" := ⟨_, he, rfl⟩
  unfold pyNext
  refine wpAny_bind (wpAny_attempt (wpAny_callSpecial?_slot (name := Str.ofString "__next__") hT F.slot_enumerate_next
    (wpAny_call_entry F.slot_enumerate_next hT F.entry_enumerate_next ?_ (F.args_enumerate_next_1 _))))
  show wpAny _ _ (field (.ref e) 2 >>= _) _ _ _
  refine wpAny_bind (wpAny_field he rfl (x := .ref it) rfl ?_)
  refine wpAny_bind (wpAny_nextOf_tuple_end hh hit p hx fun h' x he' hx' => ?_)
  obtain ⟨o, ho, hc⟩ := hx'
  refine wpAny_bind (wpAny_isInstance (T := "StopIteration") (b := true) ⟨o, ho, hc⟩ isSubtype_stop ?_)
  exact wpAny_pure (hQ _ he')
theorem turn_enumT {P : Program} {w : World} {K : PySem.W.Frag} {elts : List Expr} {kk : Nat} {tpos : Pos} (a e it : Addr) :
    Turn P w K (.Tuple elts kk tpos) (Itet K a) [e, it] e (fun i h => (∃ old, IsEnum h e it ((i : Nat) : Int) old) ∧ h.IsTupleIter it a i ∧ e ≠ it) where
  mem := by simp
  obj := fun i h st b hb => by
    obtain ⟨⟨old, he⟩, ⟨o, ho, hc, hd⟩, _⟩ := st
    have e' : b = e ∨ b = it := by simpa using hb
    rcases e' with z | z
    · rw [z]; exact ⟨_, he, fun v q => nomatch q⟩
    · rw [z]; exact ⟨o, ho, fun v q => by rw [hd] at q; cases q⟩
  keep := fun i h h' st k => let ⟨⟨old, he⟩, hi, hne⟩ := st; ⟨⟨old, k e (by simp) _ he⟩, hi.at fun o q => k it (by simp) o q, hne⟩
  item := by
    intro X hP hw hK hc i pins s σ H E I hf st hg
    subst hP hw hK
    obtain ⟨⟨old, he⟩, hit, hne⟩ := st
    obtain ⟨xs, x, hq, hx⟩ := hg
    obtain ⟨its, rv, p, hz⟩ := I.tuple hq
    obtain ⟨u, hu, ru⟩ := rv.get hx
    have p : s.heap.IsTuple a its.toArray := p
    have hel : e < s.heap.objs.size := Heap.lt_size he
    have hil : it < s.heap.objs.size := by obtain ⟨_, q, _⟩ := hit; exact Heap.lt_size q
    have hai : a ≠ it := fun z => by
      obtain ⟨o, ho, hoc, _⟩ := hit
      obtain ⟨o2, ho2, hoc2, _⟩ := p
      rw [z, ho] at ho2
      cases ho2
      rw [hoc] at hoc2
      exact absurd hoc2 (by decide)
    have hea : e ≠ a := fun z => by
      obtain ⟨o2, ho2, hoc2, _⟩ := p
      rw [← z, he] at ho2
      cases ho2
      exact absurd (show Value.type "enumerate" = Value.type "tuple" from hoc2) (by decide)
    have D := Draws.tuple (prog := X.prog) (w := X.w) (A := X.A.in1) (I.ok.hd hc) it a hai its.toArray
    have hlt : i < its.toArray.size := by
      have := (List.getElem?_eq_some_iff.mp hu).1
      simpa using this
    refine wpAny_pyNext_enum_itemD D he ⟨hit, p⟩ hlt hne (by simp [hne, hea]) fun y h' tk hy ho hst hT hsz hk => ?_
    obtain ⟨hit', hp'⟩ := hst
    have ey : y = u := by
      have hy' : its[i]? = some y := by simpa using hy
      rw [hu] at hy'
      exact (Option.some.inj hy').symm
    subst ey
    refine ⟨_, rfl, wpAny_letOwnedTupleGo_enum (s := { s with heap := h', toks := tk + 1 }) ho fun h'' he' sb => ?_⟩
    have hT2 : h''.get? s.heap.objs.size = some { cls := .type "tuple", data := .seq #[.int i tk, y] } := (sb.2 _ (Nat.ne_of_gt hel)).trans hT
    have new : ObjOk X.prog X.w (upd H s.heap.objs.size (.tup [.int (i : Nat), x])) h'' s.heap.objs.size (.tup [.int (i : Nat), x]) :=
      ⟨by show 2 ≤ sizeLine; decide, [.int i tk, y], .cons ⟨_, rfl⟩ (.cons ru .nil), ⟨_, hT2, rfl, _, rfl⟩⟩
    have I1 : Inv X pins σ (upd H s.heap.objs.size (.tup [.int (i : Nat), x])) { s with heap := h'', toks := tk + 1 } :=
      I.turnedNew (ch := [e, it]) (fun b ob hb q => (sb.2 b (fun z => hb (by simp [z]))).trans (hk b ob (fun z => hb (by simp [z])) (fun z => hb (by simp [z])) q)) hf (Nat.le_refl _) new
    refine ⟨.ref s.heap.objs.size, _, I1, rfl, ⟨_, x, rfl, I.hok.fresh (Nat.le_refl _), rfl, fun ys hy => by rw [I.tuple_inj hy hq]; exact hx⟩, ⟨⟨y, ?_⟩, hit'.at fun o q => (sb.2 it (Ne.symm hne)).trans q, hne⟩, fun b hb => ?_⟩
    · have e1 : ((i + 1 : Nat) : Int) = (i : Int) + 1 := by omega
      rw [e1]; exact he'
    · have hb' : b < s.heap.objs.size := by
        have e' : b = e ∨ b = it := by simpa using hb
        rcases e' with z | z
        · rw [z]; exact hel
        · rw [z]; exact hil
      rw [upd_ne (Nat.ne_of_lt hb')]
      exact (hf b hb).1
  done := by
    intro X hP hw hK hc i pins s σ H E I hf st hg
    subst hP hw hK
    obtain ⟨⟨old, he⟩, hit, hne⟩ := st
    obtain ⟨xs, hq, hx⟩ := hg
    obtain ⟨its, rv, p, hz⟩ := I.tuple hq
    have p : s.heap.IsTuple a its.toArray := p
    obtain ⟨f0, f1, f2, f3, f4, f5⟩ := hf it (by simp)
    have hl := rv.length
    have hai : a ≠ it := fun z => by
      obtain ⟨o, ho, hoc, _⟩ := hit
      obtain ⟨o2, ho2, hoc2, _⟩ := p
      rw [z, ho] at ho2
      cases ho2
      rw [hoc] at hoc2
      exact absurd hoc2 (by decide)
    refine wpAny_pyNext_enum_endD' he hit p (I.ok.hd hc) (by simp; omega) fun h' eb => ⟨rfl, I.turned (t' := s.toks) (fun b o hb q => eb b o hb q) f0 f1 f3 f4 f5⟩
  self := fun A i s Q E st h => let ⟨⟨_, he⟩, _⟩ := st; wpAny_pyIter_enum he h
def iEnumT (K : PySem.W.Frag) (ta : TA) : TI := fun σ H R => ta σ H fun vs H1 => ∃ a xs, vs = [.ref a] ∧ SqT K H1 a xs ∧ R (Itet K a) H1
theorem pi_enumT {X : Cx} {e : Expr} {ta : TA} {p pos tpos : Pos} {elts : List Expr} {kk : Nat} (hg : Gl X "enumerate") (hm : X.mg "enumerate" = none) (ha : PA X [e] ta) (hs : starEach [e] X.env = [(false, eval e X.env)] := by rfl) :
    PI X (.Tuple elts kk tpos) (.Call (.Name "enumerate" p) [e] [] pos) (iEnumT X.K ta) := by
  refine ⟨fun pins s σ H R I h => ?_⟩
  refine Call_ (ld_blt I hg hm boot_enumerate (PyProof.Rows.callWith_type1 (thn (ha.run pos pins s σ H _ I h) fun us s1 ⟨vs, H1, I1, r1, q1⟩ => ?_) hs rfl))
  obtain ⟨a, xs, ex, hq, q⟩ := q1
  subst ex
  cases r1 with
  | cons r rr =>
    cases rr
    cases r
    obtain ⟨its, rv, p', hz⟩ := I1.tuple hq
    refine mk_call_enumerate_tuple (show s1.heap.IsTuple a its.toArray from p') fun h' he hit hsz hk => wpAny_pyIter_enum he ?_
    have I2 : Inv X pins σ H1 { s1 with heap := h' } := I1.kept (t' := s1.toks) hk
    refine ⟨s1.heap.objs.size + 1, [s1.heap.objs.size + 1, s1.heap.objs.size], _, _, H1, rfl, I2, turn_enumT a (s1.heap.objs.size + 1) s1.heap.objs.size, ⟨⟨.none, he⟩, hit, Nat.succ_ne_self _⟩, fun b hb => ?_, q⟩
    have e' : b = s1.heap.objs.size + 1 ∨ b = s1.heap.objs.size := by simpa using hb
    have hle : s1.heap.objs.size ≤ b := by
      rcases e' with z | z
      · rw [z]; exact Nat.le_add_right _ _
      · rw [z]; exact Nat.le_refl _
    exact I1.fpOk hle (I1.hok.fresh hle)
end Mk

/-! ### MkRow -/
set_option Elab.async false
set_option linter.all false
set_option maxRecDepth 100000
set_option maxHeartbeats 4000000
namespace Mk
open PySem PySem.Spec PyProof.Rows L2
open GxR (TabG Tabbed)
/-! ### the errors -/
abbrev sInitQ : Stmt := inClass (top 2) 0
abbrev sInitR : Stmt := inClass (top 6) 0
/-- an own error class x with the field f -/
structure ErT (K : PySem.W.Frag) (mg : Str → Option Value) (x f : Str) (C fI : Addr) : Prop where
  oex : OexC K C
  iC : PySem.W.findIn K (.ref C) "__init__" = some (some (.ref fI))
  tI : PySem.W.typeIn K (.ref fI) = some (.type "function")
  g : mg x = some (.ref C)
  no : PySem.W.findIn K (.ref C) f = some none
section
variable {P : Program} {w : World} {K : PySem.W.Frag} {mg : Str → Option Value} {base : Heap} {Am : Hp → Prop} {G : List Addr}
theorem small_text {a y : Str} (ha : a.length ≤ 1000) (hy : y.length ≤ 2000) : (a ++ y).length ≤ sizeLine := by
  have e : (a ++ y).length = a.length + y.length := by
    show (a.cps ++ y.cps).size = _
    rw [Array.size_append]
    rfl
  rw [e, sizeLine_eq]
  omega
/-- the message's second part, whatever it tells -/
theorem rd_fmt {te : TE} {σ : L2.St} {H : Hp} {v : V} {acc : Str} {Q : Str → Hp → Prop} (he : ∀ Q : VK, Q v H → te σ H Q) (hv : (∃ y : Str, v = .str y ∧ y.length ≤ 100) ∨ (∃ i : Int, v = .int i ∧ i.natAbs.log2 < 1000) ∨ v = .non) (ha : acc.length ≤ 1000)
    (q : ∀ out, Q out H) : tFmtN te σ H (fun x H1 => ∃ y : Str, x = .str y ∧ (acc ++ y).length ≤ sizeLine ∧ tJs [] (acc ++ y) σ H1 Q) := by
  refine he _ ?_
  rcases hv with ⟨y, rfl, hy⟩ | ⟨i, rfl, hi⟩ | rfl
  · exact .inl ⟨y, rfl, by rw [sizeLine_eq]; omega, _, rfl, small_text ha (by omega), q _⟩
  · refine .inr (.inl ⟨i, rfl, by omega, _, rfl, small_text ha ?_, q _⟩)
    have := int_text_len_1921 (i := i) (by omega)
    exact Nat.le_trans this (by decide)
  · exact .inr (.inr ⟨rfl, _, rfl, small_text ha (by decide +kernel), q _⟩)
theorem scInitR : FnScope ["self", "place"] ["self", "place"] (defScope sInitR) := ⟨rfl, rfl, rfl, by decide +kernel, rfl, by decide +kernel, by decide +kernel⟩
theorem ok_initR {f C CM : Addr} {mc : Value} {fd : FuncData} (F : Fun K "__init__" "BadRow.__init__" sInitR f fd) (T : BaseT K mg "MarkError" CM mc) : FnOk P w K mg base CX0 2 f fd ["self", "place"] (spInit K C "place") := by
  refine F.ok scInitR (fun vs H Q E h => ?_) (fun cdv A outer s H vs Q E hr h => ?_)
  · obtain ⟨a, v, rfl, _⟩ := h
    rfl
  · obtain ⟨a, v, rfl, hv, oe, hno, he, q⟩ := h
    refine ⟨_, pss_cons (ps_expr (pe_meinit T (by rfl) (pa_cons (pv 0) (pa_cons (pe_joined (.cons pe_str (.cons (pe_fmtN (pv 1)) .nil))) pa_nil)))) (pss_one (ps_ost (pv 0) (pv 1))), ?_⟩
    refine c_seq (c_drop ⟨_, rfl, _, rfl, by rw [sizeLine_eq]; decide +kernel, rd_fmt (v_var rfl) hv (by decide +kernel) fun out => ⟨a, C, _, rfl, by show 1 ≤ 1000; decide, oe, he, ?_⟩⟩)
    exact ⟨_, rfl, _, rfl, a, C, rfl, oe, hno, .inl ⟨he, fun dx n ne => q dx n ne⟩⟩
theorem scInitQ : FnScope ["self", "part"] ["self", "part"] (defScope sInitQ) := ⟨rfl, rfl, rfl, by decide +kernel, rfl, by decide +kernel, by decide +kernel⟩
theorem ok_initQ {f C CM : Addr} {mc : Value} {fd : FuncData} (F : Fun K "__init__" "BadQuestion.__init__" sInitQ f fd) (T : BaseT K mg "MarkError" CM mc) : FnOk P w K mg base CX0 2 f fd ["self", "part"] (spInit K C "part") := by
  refine F.ok scInitQ (fun vs H Q E h => ?_) (fun cdv A outer s H vs Q E hr h => ?_)
  · obtain ⟨a, v, rfl, _⟩ := h
    rfl
  · obtain ⟨a, v, rfl, hv, oe, hno, he, q⟩ := h
    refine ⟨_, pss_cons (ps_expr (pe_meinit T (by rfl) (pa_cons (pv 0) (pa_cons (pe_joined (.cons pe_str (.cons (pe_fmtN (pv 1)) .nil))) pa_nil)))) (pss_one (ps_ost (pv 0) (pv 1))), ?_⟩
    refine c_seq (c_drop ⟨_, rfl, _, rfl, by rw [sizeLine_eq]; decide +kernel, rd_fmt (v_var rfl) hv (by decide +kernel) fun out => ⟨a, C, _, rfl, by show 1 ≤ 1000; decide, oe, he, ?_⟩⟩)
    exact ⟨_, rfl, _, rfl, a, C, rfl, oe, hno, .inl ⟨he, fun dx n ne => q dx n ne⟩⟩
/-- an error of the class at C leaves, its field f holding v -/
abbrev Er (Am : Hp → Prop) (H : Hp) (E : XK) (C : Addr) (f : Str) (v : V) : Prop := ∀ d H', ExtN H H' → Am H' → H' d = some (.xd [(f, v)]) → E (.ref C) (some d) H'
/-- making it -/
theorem rd_mk {C fI : Addr} {x f : Str} {ta : TA} {σ : L2.St} {H : Hp} {v : V} {E : XK} (A : AmOk Am G) (T : ErT K mg x f C fI) (ha : ∀ Q : List V → Hp → Prop, Q [v] H → ta σ H Q) (hA : Am H)
    (hv : (∃ y : Str, v = .str y ∧ y.length ≤ 100) ∨ (∃ i : Int, v = .int i ∧ i.natAbs.log2 < 1000) ∨ v = .non) (q : Er Am H E C f v) : tMkO C (spInit K C f) [] ta σ H E := by
  refine ha _ ⟨by show 1 ≤ 1000; decide, fun a na => ⟨a, v, rfl, hv, T.oex, T.no, upd_same, fun dx nd ne => ⟨rfl, dx, [(f, v)], upd_same, by rw [upd_ne ne, upd_same], by rw [upd_ne ne] at nd; exact nd, ?_⟩⟩⟩
  have hd : H dx = none := by rw [upd_ne ne] at nd; exact nd
  have st : ∀ b o, H b = some o → (upd (del (upd (upd (upd H a (exo a C none)) dx (exd dx [(f, v)])) a (exo a C (some dx))) a) dx (.xd [(f, v)])) b = some o := fun b o e => by
    have h1 : b ≠ a := ne_of_none e na
    have h2 : b ≠ dx := ne_of_none e hd
    rw [upd_ne h2, del_ne h1, upd_ne h1, upd_ne h2, upd_ne h1]
    exact e
  exact q dx _ (fun b o e _ => st b o e) (A.same hA fun b o e _ => st b o e) upd_same
end
end Mk

/-! ### MkChk -/
set_option Elab.async false
set_option linter.all false
set_option maxRecDepth 100000
set_option maxHeartbeats 4000000
namespace Mk
open PySem PySem.Spec PyProof.Rows L2
open GxR (TabG Tabbed)
/-- a def of the text under its name -/
structure Def (P : Program) (w : World) (K : PySem.W.Frag) (mg : Str → Option Value) (base : Heap) (CX : CXT) (k : Nat) (x : Str) (f : Addr) (fd : FuncData) (ps : List Str) (sp : Sp) : Prop where
  ok : FnOk P w K mg base CX k f fd ps sp
  kp : PySem.W.keepIn K (.ref f) = true
  b : Binds K fd ps []
  g : mg x = some (.ref f)
/-- an own error that can be raised: class C, its __init__ at fI -/
structure ErD (P : Program) (w : World) (K : PySem.W.Frag) (mg : Str → Option Value) (base : Heap) (x f : Str) (C fI : Addr) (fd : FuncData) (ps : List Str) : Prop where
  t : ErT K mg x f C fI
  ok : FnOk P w K mg base CX0 2 fI fd ps (spInit K C f)
  b : Binds K fd ps []
theorem Rt.ext {Am : Hp → Prop} {H H1 : Hp} {Q : VK} {v : V} (e : ExtN H H1) (r : Rt Am H Q v) : Rt Am H1 Q v := fun H' e' a => r H' (LamX.ExtN.trans e e') a
theorem Er.ext {Am : Hp → Prop} {H H1 : Hp} {E : XK} {C : Addr} {f : Str} {v : V} (e : ExtN H H1) (r : Er Am H E C f v) : Er Am H1 E C f v := fun d H' e' a x => r d H' (LamX.ExtN.trans e e') a x
def at_ (d : D) (i : Nat) : D := (items d).getD i .non
/-- what is wrong with a question -/
def ckQ (d : D) : Option Str :=
  if isTupOf d 2 2 = true then if areSt (at_ d 0) = true then if areNums (at_ d 1) ((items (at_ d 0)).length : Int) 1 = true then none else some "answers" else some "steps" else some "question"
theorem tup2 {d : D} (h : isTupOf d 2 2 = true) : ∃ a b, d = .tup [a, b] := by
  cases d with
  | tup l =>
    have z : (decide ((2 : Int) ≤ (l.length : Int)) && decide ((l.length : Int) ≤ 2)) = true := h
    simp only [Bool.and_eq_true, decide_eq_true_eq] at z
    match l, z with
    | [a, b], _ => exact ⟨a, b, rfl⟩
    | [], z => exact absurd z.1 (by decide)
    | [a], z =>
      have q := z.1
      simp only [List.length_cons, List.length_nil] at q
      omega
    | a :: b :: c :: r, z =>
      have q := z.2
      simp only [List.length_cons] at q
      omega
  | _ => cases h
theorem areSt_tup {d : D} (h : areSt d = true) : ∃ l, d = .tup l := by
  cases d with
  | tup l => exact ⟨l, rfl⟩
  | _ => cases h
section
variable {P : Program} {w : World} {K : PySem.W.Frag} {mg : Str → Option Value} {base : Heap} {Am : Hp → Prop} {G : List Addr}
def spCheckQ (K : PySem.W.Frag) (Am : Hp → Prop) (CQ : Addr) : Sp := fun vs H Q E => ∃ (d : D) (v : V), vs = [v] ∧ Im K H d v ∧ Am H ∧ (ckQ d = none → Rt Am H Q .non) ∧ ∀ p : Str, ckQ d = some p → Er Am H E CQ "part" (.str p)
theorem scCheckQ : FnScope ["value", "steps", "answers"] ["value"] (defScope sCheckQ) := ⟨rfl, rfl, rfl, by decide +kernel, rfl, by decide +kernel, by decide +kernel⟩
theorem ok_checkQ {f fT fS fN fI CQ T0 : Addr} {fd fdT fdS fdN fdI : FuncData} (A : AmOk Am G) (hT0 : T0 ∈ G) (F : Fun K "check_question" "check_question" sCheckQ f fd) (B : Glb mg)
    (GT : Def P w K mg base CX0 1 "is_tuple_of" fT fdT ["value", "least", "most"] (spIsTup K)) (GS : Def P w K mg base CX0 5 "are_steps" fS fdS ["value"] (spAreSteps K Am)) (GN : Def P w K mg base CX0 3 "are_numbers" fN fdN ["value", "many", "most"] (spAreNums K T0))
    (R : ErD P w K mg base "BadQuestion" "part" CQ fI fdI ["self", "part"]) :
    FnOk P w K mg base (L2.CX P w) 6 f fd ["value"] (spCheckQ K Am CQ) := by
  refine Fun.okXC F scCheckQ (fun vs H Q E h => ?_) (fun Ar outer s H vs Q E hr h => ?_)
  · obtain ⟨d, v, rfl, _⟩ := h
    rfl
  · obtain ⟨d, v, rfl, hd, hA, qn, qe⟩ := h
    refine ⟨_, pss_cons (ps_if (pt_not (pt_val (pe_call GT.ok (hr.mono (by decide)) (by rfl) GT.g GT.kp GT.b .nil pass0 (pa_cons (pv 0) (pa_cons pe_int (pa_cons pe_int pa_nil)))))) (pss_one (ps_raise rfl (takes_of rfl rfl rfl rfl) (pmk_oex R.t.oex R.t.iC R.t.tI R.ok (hr.mono (by decide)) R.b .nil pass0 (by rfl) R.t.g (pa_cons pe_str pa_nil)))) pss_nil)
      (pss_cons (ps_asg (pv 0) (pg_tup rfl (pgs_cons (pg_name (i := 1) scCheckQ.nd rfl (Or.inl rfl)) (pgs_cons (pg_name (i := 2) scCheckQ.nd rfl (Or.inl rfl)) pgs_nil))))
      (pss_cons (ps_if (pt_not (pt_val (pe_call GS.ok (hr.mono (by decide)) (by rfl) GS.g GS.kp GS.b .nil pass0 (pa_cons (pv 1) pa_nil)))) (pss_one (ps_raise rfl (takes_of rfl rfl rfl rfl) (pmk_oex R.t.oex R.t.iC R.t.tI R.ok (hr.mono (by decide)) R.b .nil pass0 (by rfl) R.t.g (pa_cons pe_str pa_nil)))) pss_nil)
      (pss_one (ps_if (pt_not (pt_val (pe_call GN.ok (hr.mono (by decide)) (by rfl) GN.g GN.kp GN.b .nil pass0 (pa_cons (pv 2) (pa_cons (pe_callB call_len_seq (by rfl) B.len boot_len (pa_cons (pv 1) pa_nil)) (pa_cons pe_int pa_nil)))))) (pss_one (ps_raise rfl (takes_of rfl rfl rfl rfl) (pmk_oex R.t.oex R.t.iC R.t.tI R.ok (hr.mono (by decide)) R.b .nil pass0 (by rfl) R.t.g (pa_cons pe_str pa_nil)))) pss_nil)))), ?_⟩
    refine c_seq (c_if (c_not (c_B (c_callv (va_cons (v_var rfl) (va_cons v_c (va_cons v_c va_nil))) ⟨d, v, 2, 2, rfl, hd, _, rfl, ?_⟩))))
    cases h1 : isTupOf d 2 2 with
    | false =>
      exact iteT (rd_mk A R.t (va_cons v_c va_nil) hA (.inl ⟨_, rfl, by decide +kernel⟩) (qe _ (by unfold ckQ; rw [h1]; rfl)))
    | true =>
      refine iteF (c_next ?_)
      obtain ⟨d1, d2, rfl⟩ := tup2 h1
      obtain ⟨a, xs, rfl, hx, hl⟩ := im_tup' hd
      obtain ⟨v1, w1, rfl, im1, hl2⟩ := (show ∃ v vs, xs = v :: vs ∧ Im K H d1 v ∧ ImL K H [d2] vs by unfold ImL at hl; exact hl)
      obtain ⟨v2, w2, rfl, im2, hl3⟩ := (show ∃ v vs, w1 = v :: vs ∧ Im K H d2 v ∧ ImL K H [] vs by unfold ImL at hl2; exact hl2)
      obtain rfl : w2 = [] := by unfold ImL at hl3; exact hl3
      refine c_seq (c_asg (c_var rfl ⟨a, [v1, v2], rfl, hx, rfl, v1, [v2], rfl, v2, [], rfl, rfl, ?_⟩))
      dsimp only
      refine c_seq (c_if (c_not (c_B (c_callv (va_cons (v_var rfl) va_nil) ⟨d1, v1, rfl, im1, hA, fun H1 e1 a1 => ⟨_, rfl, ?_⟩⟩))))
      cases h2 : areSt d1 with
      | false =>
        refine iteT (rd_mk A R.t (va_cons v_c va_nil) a1 (.inl ⟨_, rfl, by decide +kernel⟩) (Er.ext e1 (qe _ ?_)))
        unfold ckQ
        rw [h1]
        show (if areSt d1 = true then _ else _) = _
        rw [h2]
        rfl
      | true =>
        refine iteF (c_next ?_)
        obtain ⟨l, rfl⟩ := areSt_tup h2
        obtain ⟨b, ys, rfl, hy, hm⟩ := im_tup' im1
        dsimp only
        refine c_if (c_not (c_B (c_callv (va_cons (v_var rfl) (va_cons (v_len (v_var rfl) (.inr ((ExtN.ee e1).t _ _ hy))) (va_cons v_c va_nil))) ⟨d2, v2, _, 1, rfl, im2.mono (ExtN.ee e1), A.get hT0 a1, fun H2 t2 => ⟨_, rfl, ?_⟩⟩)))
        have e2 : ExtN H H2 := LamX.ExtN.trans e1 (Tabbed.ext (A.get hT0 a1) t2)
        have a2 : Am H2 := A.tab hT0 a1 t2
        have ck : ckQ (.tup [.tup l, d2]) = (if areNums d2 (l.length : Int) 1 = true then none else some ("answers" : Str) : Option Str) := by
          unfold ckQ
          rw [h1]
          show (if areSt (D.tup l) = true then _ else _) = _
          rw [h2]
          rfl
        rw [hm.length]
        cases h3 : areNums d2 (l.length : Int) 1 with
        | false =>
          refine iteT (rd_mk A R.t (va_cons v_c va_nil) a2 (.inl ⟨_, rfl, by decide +kernel⟩) (Er.ext e2 (qe _ ?_)))
          rw [ck, h3]
          rfl
        | true =>
          refine iteF (c_next (qn ?_ H2 e2 a2))
          rw [ck, h3]
          rfl
end
end Mk

/-! ### MkFor -/
set_option Elab.async false
set_option linter.all false
set_option maxRecDepth 100000
set_option maxHeartbeats 4000000
namespace Mk
open PySem PySem.Spec PyProof.Rows L2
section
variable {K : PySem.W.Frag} {D' : Ends} {σ : L2.St} {H : Hp} {g : TG} {tb : TS} {ta : TA} {tl : TE} {a : Addr} {xs : List V}
/-- for x in t, t a tuple -/
theorem c_forT (ha : ∀ Q : VK, Q (.ref a) H → tl σ H Q) (hx : SqT K H a xs) (Wv : Nat → L2.St → Hp → Prop) (h0 : Wv 0 σ H) (hl : ∀ i σ H, Wv i σ H → SqT K H a xs) (hd : ∀ σ H, Wv xs.length σ H → D'.nx σ H)
    (hs : ∀ i x σ H, xs[i]? = some x → Wv i σ H → g x σ H fun σ2 H2 => tb { D' with nx := Wv (i + 1), ct := Wv (i + 1), bk := D'.nx } σ2 H2) : tFor (iTup K tl) g tb D' σ H := by
  refine ha _ ⟨a, rfl, ⟨xs, hx⟩, fun i m σ H => m = xs.length - i ∧ i ≤ xs.length ∧ Wv i σ H, ⟨_, rfl, Nat.zero_le _, h0⟩, ?_⟩
  rintro i m σ H ⟨rfl, hi, p⟩
  by_cases hlt : i < xs.length
  · refine .inr ⟨⟨xs, xs[i], hl _ _ _ p, by simp [hlt]⟩, Wv (i + 1), fun σ' H' p' => ⟨xs.length - (i + 1), by omega, rfl, hlt, p'⟩, fun x H' y => ?_⟩
    obtain ⟨e, y⟩ := y
    subst e
    exact hs i x _ _ (y xs (hl _ _ _ p)) p
  · have e : i = xs.length := by omega
    subst e
    exact .inl ⟨⟨xs, hl _ _ _ p, Nat.le_refl _⟩, hd σ H p⟩
/-- for x in l, l a list -/
theorem c_forL (ha : ∀ Q : VK, Q (.ref a) H → tl σ H Q) (hx : SqL K H a xs) (Wv : Nat → L2.St → Hp → Prop) (h0 : Wv 0 σ H) (hl : ∀ i σ H, Wv i σ H → SqL K H a xs) (hd : ∀ σ H, Wv xs.length σ H → D'.nx σ H)
    (hs : ∀ i x σ H, xs[i]? = some x → Wv i σ H → g x σ H fun σ2 H2 => tb { D' with nx := Wv (i + 1), ct := Wv (i + 1), bk := D'.nx } σ2 H2) : tFor (iList K tl) g tb D' σ H := by
  refine ha _ ⟨a, rfl, ⟨xs, hx⟩, fun i m σ H => m = xs.length - i ∧ i ≤ xs.length ∧ Wv i σ H, ⟨_, rfl, Nat.zero_le _, h0⟩, ?_⟩
  rintro i m σ H ⟨rfl, hi, p⟩
  by_cases hlt : i < xs.length
  · refine .inr ⟨⟨xs, xs[i], hl _ _ _ p, by simp [hlt]⟩, Wv (i + 1), fun σ' H' p' => ⟨xs.length - (i + 1), by omega, rfl, hlt, p'⟩, fun x H' y => ?_⟩
    obtain ⟨e, y⟩ := y
    subst e
    exact hs i x _ _ (y xs (hl _ _ _ p)) p
  · have e : i = xs.length := by omega
    subst e
    exact .inl ⟨⟨xs, hl _ _ _ p, Nat.le_refl _⟩, hd σ H p⟩
/-- for i, x in enumerate(t), t a tuple -/
theorem c_forE (ha : ∀ Q : List V → Hp → Prop, Q [.ref a] H → ta σ H Q) (hx : SqT K H a xs) (Wv : Nat → L2.St → Hp → Prop) (h0 : Wv 0 σ H) (hl : ∀ i σ H, Wv i σ H → SqT K H a xs) (hd : ∀ σ H, Wv xs.length σ H → D'.nx σ H)
    (hs : ∀ i x σ H T, xs[i]? = some x → Wv i σ H → H T = none → g (.ref T) σ (upd H T (.tup [.int (i : Nat), x])) fun σ2 H2 => tb { D' with nx := Wv (i + 1), ct := Wv (i + 1), bk := D'.nx } σ2 H2) : tFor (iEnumT K ta) g tb D' σ H := by
  refine ha _ ⟨a, xs, rfl, hx, fun i m σ H => m = xs.length - i ∧ i ≤ xs.length ∧ Wv i σ H, ⟨_, rfl, Nat.zero_le _, h0⟩, ?_⟩
  rintro i m σ H ⟨rfl, hi, p⟩
  by_cases hlt : i < xs.length
  · refine .inr ⟨⟨xs, xs[i], hl _ _ _ p, by simp [hlt]⟩, Wv (i + 1), fun σ' H' p' => ⟨xs.length - (i + 1), by omega, rfl, hlt, p'⟩, fun v H' y => ?_⟩
    obtain ⟨T, x, rfl, n, rfl, y⟩ := y
    exact hs i x _ _ T (y xs (hl _ _ _ p)) p n
  · have e : i = xs.length := by omega
    subst e
    exact .inl ⟨⟨xs, hl _ _ _ p, Nat.le_refl _⟩, hd σ H p⟩
/-- for x in range(n) -/
theorem c_forR {n : Int} (ha : ∀ Q : List V → Hp → Prop, Q [.int n] H → ta σ H Q) (h1 : -(2 ^ 62) ≤ n) (h2 : n < 2 ^ 62) (Wv : Nat → L2.St → Hp → Prop) (h0 : Wv 0 σ H) (hd : ∀ σ H, Wv n.toNat σ H → D'.nx σ H)
    (hs : ∀ (i : Nat) σ H, i < n.toNat → Wv i σ H → g (.int (i : Int)) σ H fun σ2 H2 => tb { D' with nx := Wv (i + 1), ct := Wv (i + 1), bk := D'.nx } σ2 H2) : tFor (iRng1 ta) g tb D' σ H := by
  refine ha _ ⟨n, rfl, h1, h2, fun i m σ H => m = n.toNat - i ∧ i ≤ n.toNat ∧ Wv i σ H, ⟨_, rfl, Nat.zero_le _, h0⟩, ?_⟩
  rintro i m σ H ⟨rfl, hi, p⟩
  by_cases hlt : i < n.toNat
  · refine .inr ⟨hlt, Wv (i + 1), fun σ' H' p' => ⟨n.toNat - (i + 1), by omega, rfl, hlt, p'⟩, fun x H' y => ?_⟩
    obtain ⟨rfl, rfl⟩ := y
    have e : (0 : Int) + (i : Int) = (i : Int) := by omega
    rw [e]
    exact hs i _ _ hlt p
  · have e : i = n.toNat := by omega
    subst e
    exact .inl ⟨Nat.le_refl _, hd σ H p⟩
/-- what follows the arguments of range -/
def forQ (g : TG) (tb : TS) (D' : Ends) (σ : L2.St) : List V → Hp → Prop := fun vs H1 => ∃ j : Int, vs = [.int j] ∧ -(2 ^ 62) ≤ j ∧ j < 2 ^ 62 ∧ ∃ W : Nat → Nat → L2.St → Hp → Prop, (∃ m, W 0 m σ H1) ∧ ∀ i m σ H, W i m σ H →
  ((Itr 0 j.toNat).stop i H ∧ D'.nx σ H) ∨ ((Itr 0 j.toNat).go i H ∧ ∃ N : L2.St → Hp → Prop, (∀ σ' H', N σ' H' → ∃ m', m' < m ∧ W (i + 1) m' σ' H') ∧ ∀ x H', (Itr 0 j.toNat).yld i H x H' → g x σ H' fun σ2 H2 => tb { D' with nx := N, ct := N, bk := D'.nx } σ2 H2)
theorem c_forRH (h : ta σ H (forQ g tb D' σ)) : tFor (iRng1 ta) g tb D' σ H := h
theorem forQ_of {n : Int} (h1 : -(2 ^ 62) ≤ n) (h2 : n < 2 ^ 62) (Wv : Nat → L2.St → Hp → Prop) (h0 : Wv 0 σ H) (hd : ∀ σ H, Wv n.toNat σ H → D'.nx σ H)
    (hs : ∀ (i : Nat) σ H, i < n.toNat → Wv i σ H → g (.int (i : Int)) σ H fun σ2 H2 => tb { D' with nx := Wv (i + 1), ct := Wv (i + 1), bk := D'.nx } σ2 H2) : forQ g tb D' σ [.int n] H :=
  c_forR (ta := fun _ H Q => Q [.int n] H) (fun Q q => q) h1 h2 Wv h0 hd hs
end
end Mk

/-! ### MkCk2 -/
set_option Elab.async false
set_option linter.all false
set_option maxRecDepth 100000
set_option maxHeartbeats 4000000
namespace Mk
open PySem PySem.Spec PyProof.Rows L2
open GxR (TabG Tabbed)
/-! ### rows -/
def isClose : D → Bool | .int i => decide (i = -1) | _ => false
def badTag (names left : Int) (x : D) : Bool := !isNum x (-1) (names - 1) || (isClose x && decide (left = 0))
def stepTag (left : Int) (x : D) : Int := left + if isClose x = true then -1 else 1
/-- the place of the first wrong tag -/
def rowGo (names : Int) : List D → Int → Nat → Option Nat
  | [], _, _ => none
  | x :: xs, left, p => if badTag names left x = true then some p else rowGo names xs (stepTag left x) (p + 1)
/-- what is wrong with a row: none, None or a place -/
def ckRow (names : Int) (d : D) : Option (Option Nat) := if isTupOf d 0 2000 = true then (rowGo names (items d) 0 0).map some else some none
def plV : Option Nat → V | none => .non | some p => .int (p : Int)
abbrev sCheckRow : Stmt := top 29
abbrev sCheckDoc : Stmt := top 30
structure Cn2 (mg : Str → Option Value) : Prop where
  cl : ∃ t, mg "CLOSING" = some (.int (-1) t)
  mw : ∃ t, mg "MOST_WITHIN" = some (.int 40 t)
  mm : ∃ t, mg "MOST_MARKS" = some (.int 1000 t)
  en : mg "enumerate" = none
theorem imL_drop {K : PySem.W.Frag} {H : Hp} {l : List D} {xs : List V} (h : ImL K H l xs) {i : Nat} {x : V} (e : xs[i]? = some x) : ∃ d, l.drop i = d :: l.drop (i + 1) ∧ Im K H d x := by
  obtain ⟨d, hd, him⟩ := h.get e
  obtain ⟨hlt, hg⟩ := List.getElem?_eq_some_iff.mp hd
  exact ⟨d, by rw [List.drop_eq_getElem_cons hlt, hg], him⟩
theorem isNum_int {d : D} {lo hi : Int} (h : isNum d lo hi = true) : ∃ i, d = .int i ∧ lo ≤ i ∧ i ≤ hi := by
  cases d with
  | int i =>
    have z : (decide (lo ≤ i) && decide (i ≤ hi)) = true := h
    simp only [Bool.and_eq_true, decide_eq_true_eq] at z
    exact ⟨i, rfl, z.1, z.2⟩
  | _ => cases h
theorem rowGo_le (n : Int) : ∀ (l : List D) (k : Int) (p q : Nat), rowGo n l k p = some q → q < p + l.length
  | [], k, p, q, h => by cases h
  | x :: xs, k, p, q, h => by
    unfold rowGo at h
    split at h
    · cases h; simp only [List.length_cons]; omega
    · have := rowGo_le n xs _ (p + 1) q h
      simp only [List.length_cons]; omega
theorem dec_eq_int (i j : Int) : decide (V.int i = V.int j) = decide (i = j) := by
  by_cases h : i = j
  · rw [h]; simp
  · rw [decide_eq_false h]
    exact decide_eq_false fun z => h (by cases z; rfl)
theorem small_log {i : Nat} (h : i ≤ 2000) : (i : Int).natAbs.log2 < 1000 := by
  rw [Int.natAbs_natCast]
  by_cases z : i = 0
  · subst z; decide
  · exact Nat.lt_of_lt_of_le ((Nat.log2_lt z).mpr (Nat.lt_of_le_of_lt h (by decide : 2000 < 2 ^ 11))) (by decide)
theorem stepTag_close {left t : Int} (h : t = -1) : stepTag left (.int t) = left + -1 := by
  subst h; rfl
theorem stepTag_open {left t : Int} (h : ¬ t = -1) : stepTag left (.int t) = left + 1 := by
  have e : isClose (.int t) = false := decide_eq_false h
  unfold stepTag
  rw [e]
  rfl
section
variable {P : Program} {w : World} {K : PySem.W.Frag} {mg : Str → Option Value} {base : Heap} {Am : Hp → Prop} {G : List Addr}
def spCheckRow (K : PySem.W.Frag) (Am : Hp → Prop) (CR : Addr) : Sp := fun vs H Q E => ∃ (d : D) (v : V) (names : Int), vs = [.int names, v] ∧ Im K H d v ∧ Am H ∧ (ckRow names d = none → Rt Am H Q .non) ∧ ∀ p, ckRow names d = some p → Er Am H E CR "place" (plV p)
theorem scCheckRow : FnScope ["names", "value", "left", "place", "tag"] ["names", "value"] (defScope sCheckRow) := ⟨rfl, rfl, rfl, by decide +kernel, rfl, by decide +kernel, by decide +kernel⟩
theorem ok_checkRow {f fT fN fI CR : Addr} {fd fdT fdN fdI : FuncData} (A : AmOk Am G) (F : Fun K "check_row" "check_row" sCheckRow f fd) (B : Glb mg) (C : Cns mg) (C2 : Cn2 mg)
    (GT : Def P w K mg base CX0 1 "is_tuple_of" fT fdT ["value", "least", "most"] (spIsTup K)) (GN : Def P w K mg base CX0 1 "is_number" fN fdN ["value", "least", "most"] (spIsNum K))
    (R : ErD P w K mg base "BadRow" "place" CR fI fdI ["self", "place"]) :
    FnOk P w K mg base (L2.CX P w) 4 f fd ["names", "value"] (spCheckRow K Am CR) := by
  obtain ⟨t1, m1⟩ := C2.cl
  obtain ⟨t2, m2⟩ := C.ml
  refine Fun.okXC F scCheckRow (fun vs H Q E h => ?_) (fun Ar outer s H vs Q E hr h => ?_)
  · obtain ⟨d, v, names, rfl, _⟩ := h
    rfl
  · obtain ⟨d, v, names, rfl, hd, hA, qn, qe⟩ := h
    refine ⟨_, pss_cons (ps_if (pt_not (pt_val (pe_call GT.ok (hr.mono (by decide)) (by rfl) GT.g GT.kp GT.b .nil pass0 (pa_cons (pv 1) (pa_cons pe_int (pa_cons (pe_glob (v := .int 2000) (by rfl) m2 ⟨_, rfl⟩) pa_nil)))))) (pss_one (ps_raise rfl (takes_of rfl rfl rfl rfl) (pmk_oex R.t.oex R.t.iC R.t.tI R.ok (hr.mono (by decide)) R.b .nil pass0 (by rfl) R.t.g (pa_cons pe_non pa_nil)))) pss_nil)
      (pss_cons (ps_set (i := 2) scCheckRow.nd rfl (Or.inl rfl) pe_int)
      (pss_one (ps_for (passes_of rfl) rfl (pi_enumT (by rfl) C2.en (pa_cons (pv 1) pa_nil)) (pg_tup rfl (pgs_cons (pg_name (i := 3) scCheckRow.nd rfl (Or.inl rfl)) (pgs_cons (pg_name (i := 4) scCheckRow.nd rfl (Or.inl rfl)) pgs_nil)))
        (pss_cons (ps_if (PW.pt (pw_or (pt_not (pt_val (pe_call GN.ok (hr.mono (by decide)) (by rfl) GN.g GN.kp GN.b .nil pass0 (pa_cons (pv 4) (pa_cons (pe_glob (v := .int (-1)) (by rfl) m1 ⟨_, rfl⟩) (pa_cons (pe_op op_sub (pv 0) pe_int) pa_nil))))))
            (pw_or1 (PW.pt (pw_and (pt_cmpR op_eq (pv 4) (pe_glob (v := .int (-1)) (by rfl) m1 ⟨_, rfl⟩) (nomark _)) (pw_and1 (pt_cmpR op_eq (pv 2) pe_int (nomark _))))))))
          (pss_one (ps_raise rfl (takes_of rfl rfl rfl rfl) (pmk_oex R.t.oex R.t.iC R.t.tI R.ok (hr.mono (by decide)) R.b .nil pass0 (by rfl) R.t.g (pa_cons (pv 3) pa_nil)))) pss_nil)
        (pss_one (ps_aug (i := 2) scCheckRow.nd rfl (Or.inl rfl) (pe_ifExp (pt_cmpR op_eq (pv 4) (pe_glob (v := .int (-1)) (by rfl) m1 ⟨_, rfl⟩) (nomark _)) (pe_un un_neg pe_int) pe_int) ip_add)))))), ?_⟩
    refine c_seq (c_if (c_not (c_B (c_callv (va_cons (v_var rfl) (va_cons v_c (va_cons v_c va_nil))) ⟨d, v, 0, 2000, rfl, hd, _, rfl, ?_⟩))))
    cases h1 : isTupOf d 0 2000 with
    | false =>
      exact iteT (rd_mk A R.t (va_cons v_c va_nil) hA (.inr (.inr rfl)) (qe none (by unfold ckRow; rw [h1]; rfl)))
    | true =>
      refine iteF (c_next ?_)
      dsimp only
      cases d with
      | tup l =>
        have len : l.length ≤ 2000 := by
          have z : (decide ((0 : Int) ≤ (l.length : Int)) && decide ((l.length : Int) ≤ 2000)) = true := h1
          simp only [Bool.and_eq_true, decide_eq_true_eq] at z
          omega
        have ck : ckRow names (.tup l) = (rowGo names l 0 0).map some := by
          unfold ckRow
          rw [h1]
          rfl
        obtain ⟨a, xs, rfl, hx, hl⟩ := im_tup' hd
        refine c_seq (c_set (c_c ?_))
        dsimp only
        refine c_forE (va_cons (v_var rfl) va_nil) hx (fun i σ H' => ∃ (left : Int) (o3 o4 : Option V), σ = [some (.int names), some (.ref a), some (.int left), o3, o4] ∧ ExtN H H' ∧ Am H' ∧ rowGo names (l.drop i) left i = rowGo names l 0 0)
          ⟨0, _, _, rfl, LamX.ExtN.refl H, hA, rfl⟩ (fun i σ H' ⟨_, _, _, _, e, _⟩ => (ExtN.ee e).t _ _ hx) (fun σ H' ⟨left, o3, o4, _, e, hA', r⟩ => ?_) (fun i x σ H' T hi ⟨left, o3, o4, es, e, hA', r⟩ hT => ?_)
        · refine qn ?_ H' e hA'
          rw [hl.length, List.drop_length] at r
          rw [ck, ← r]
          rfl
        · subst es
          obtain ⟨dx, hdr, him⟩ := imL_drop hl hi
          have e1 : ExtN H (upd H' T (.tup [.int (i : Nat), x])) := LamX.ExtN.trans e (ExtN.new hT)
          have a1 : Am (upd H' T (.tup [.int (i : Nat), x])) := A.new hA' hT
          refine ⟨T, [.int (i : Nat), x], rfl, .inl (.inl upd_same), rfl, _, _, rfl, _, _, rfl, rfl, ?_⟩
          dsimp only
          rw [hdr] at r
          refine c_seq (c_if (c_or (c_not (c_B (c_callv (va_cons (v_var rfl) (va_cons v_c (va_cons (v_op0 (v_var rfl) v_c) va_nil))) ⟨dx, x, -1, _, rfl, him.mono (ExtN.ee e1), _, rfl, ?_⟩)))))
          cases h2 : isNum dx (-1) (names - 1) with
          | false =>
            have hb : badTag names left dx = true := by unfold badTag; rw [h2]; rfl
            have r2 : rowGo names l 0 0 = some i := by rw [← r]; unfold rowGo; rw [if_pos hb]
            refine iteT (iteT (rd_mk A R.t (va_cons (v_var rfl) va_nil) a1 (.inr (.inl ⟨_, rfl, ?_⟩)) (Er.ext e1 (qe (some i) (by rw [ck, r2]; rfl)))))
            exact small_log (by have := (List.getElem?_eq_some_iff.mp hi).1; rw [hl.length] at this; omega)
          | true =>
            refine iteF ?_
            obtain ⟨t, rfl, ht1, ht2⟩ := isNum_int h2
            obtain rfl := im_int' him
            have hb : badTag names left (.int t) = (decide (t = -1) && decide (left = 0)) := by unfold badTag; rw [h2]; rfl
            have hi2 : i ≤ 2000 := by have := (List.getElem?_eq_some_iff.mp hi).1; rw [hl.length] at this; omega
            have r2 : (if (decide (t = -1) && decide (left = 0)) = true then some i else rowGo names (l.drop (i + 1)) (stepTag left (.int t)) (i + 1)) = rowGo names l 0 0 := by
              rw [← hb]
              exact r
            refine c_and (c_Bv (v_eq (v_var rfl) v_c rfl) ?_)
            rw [dec_eq_int]
            by_cases ht : t = -1
            · rw [decide_eq_true ht]
              refine iteT (c_Bv (v_eq (v_var rfl) v_c rfl) ?_)
              rw [dec_eq_int]
              rw [decide_eq_true ht, Bool.true_and] at r2
              by_cases hz : left = 0
              · rw [decide_eq_true hz]
                rw [decide_eq_true hz, if_pos rfl] at r2
                exact iteT (rd_mk A R.t (va_cons (v_var rfl) va_nil) a1 (.inr (.inl ⟨_, rfl, small_log hi2⟩)) (Er.ext e1 (qe (some i) (by rw [ck, ← r2]; rfl))))
              · rw [decide_eq_false hz]
                rw [decide_eq_false hz, if_neg (by decide)] at r2
                refine iteF (c_next ?_)
                dsimp only
                refine c_aug rfl (c_ifE (c_Bv (v_eq (v_var rfl) v_c rfl) ?_))
                rw [dec_eq_int, decide_eq_true ht]
                refine iteT (c_v (v_un v_c) ⟨_, _, rfl, rfl, _, _, _, rfl, e1, a1, ?_⟩)
                rw [← r2, stepTag_close ht]
            · rw [decide_eq_false ht]
              rw [decide_eq_false ht, Bool.false_and, if_neg (by decide)] at r2
              refine iteF (iteF (c_next ?_))
              dsimp only
              refine c_aug rfl (c_ifE (c_Bv (v_eq (v_var rfl) v_c rfl) ?_))
              rw [dec_eq_int, decide_eq_false ht]
              refine iteF (c_c ⟨_, _, rfl, rfl, _, _, _, rfl, e1, a1, ?_⟩)
              rw [← r2, stepTag_open ht]
      | _ => cases h1
end
end Mk

/-! ### MkDoc -/
set_option Elab.async false
set_option linter.all false
set_option maxRecDepth 100000
set_option maxHeartbeats 4000000
namespace Mk
open PySem PySem.Spec PyProof.Rows L2
open GxR (TabG Tabbed)
/-! ### rows of ints -/
abbrev RD (is : List Int) : D := .tup (is.map .int)
theorem imL_ints {K : PySem.W.Frag} {H : Hp} : ∀ {is : List Int} {xs : List V}, ImL K H (is.map .int) xs → xs = is.map .int
  | [], xs, h => by unfold List.map ImL at h; exact h
  | i :: is, xs, h => by
    rw [List.map_cons] at h
    unfold ImL at h
    obtain ⟨v, vs, rfl, h2, h3⟩ := h
    rw [im_int' h2, imL_ints h3]
    rfl
theorem imL_ints_of {K : PySem.W.Frag} {H : Hp} : ∀ {is : List Int}, ImL K H (is.map .int) (is.map .int)
  | [] => imL_nil
  | i :: is => imL_cons im_int imL_ints_of
theorem im_rd {K : PySem.W.Frag} {H : Hp} {is : List Int} {v : V} (h : Im K H (RD is) v) : ∃ a, v = .ref a ∧ SqT K H a (is.map .int) := by
  obtain ⟨a, xs, rfl, hx, hl⟩ := im_tup' h
  rw [imL_ints hl] at hx
  exact ⟨a, rfl, hx⟩
theorem im_rd_of {K : PySem.W.Frag} {H : Hp} {is : List Int} {a : Addr} (h : SqT K H a (is.map .int)) : Im K H (RD is) (.ref a) := im_tup h imL_ints_of
/-- every tag is a name or closes an open mark -/
def RowOk (n : Int) : List Int → Nat → Prop
  | [], _ => True
  | t :: r, k => (t = -1 ∧ 0 < k ∧ RowOk n r (k - 1)) ∨ (0 ≤ t ∧ t ≤ n - 1 ∧ RowOk n r (k + 1))
theorem rowGo_ok {n : Int} : ∀ {l : List D} {k : Nat} {p : Nat}, rowGo n l (k : Int) p = none → ∃ is, l = is.map .int ∧ RowOk n is k
  | [], k, p, _ => ⟨[], rfl, True.intro⟩
  | x :: xs, k, p, h => by
    unfold rowGo at h
    by_cases hb : badTag n k x = true
    · rw [if_pos hb] at h; cases h
    · rw [if_neg hb] at h
      have hb' := Bool.eq_false_iff.mpr hb
      unfold badTag at hb'
      rw [Bool.or_eq_false_iff, Bool.not_eq_false'] at hb'
      obtain ⟨h1, h2⟩ := hb'
      obtain ⟨t, rfl, t1, t2⟩ := isNum_int h1
      by_cases ht : t = -1
      · have hk : k ≠ 0 := by
          intro z
          subst z; subst ht
          cases h2
        rw [stepTag_close ht] at h
        obtain ⟨is, rfl, ok⟩ := rowGo_ok (k := k - 1) (by rw [← h]; congr 1; omega)
        exact ⟨t :: is, rfl, .inl ⟨ht, by omega, ok⟩⟩
      · rw [stepTag_open ht] at h
        obtain ⟨is, rfl, ok⟩ := rowGo_ok (k := k + 1) (by rw [← h]; congr 1)
        exact ⟨t :: is, rfl, .inr ⟨by omega, t2, ok⟩⟩
theorem badTag_close {n : Int} {k : Nat} (hn : 0 ≤ n) (h : 0 < k) : badTag n k (.int (-1)) = false := by
  have h1 : isNum (.int (-1)) (-1) (n - 1) = true := by
    show (decide ((-1 : Int) ≤ -1) && decide ((-1 : Int) ≤ n - 1)) = true
    rw [decide_eq_true (by omega), decide_eq_true (by omega)]
    rfl
  have h2 : decide ((k : Int) = 0) = false := decide_eq_false (by omega)
  unfold badTag
  rw [h1, h2, Bool.and_false]
  rfl
theorem badTag_open {n t : Int} {k : Nat} (h0 : 0 ≤ t) (h1 : t ≤ n - 1) : badTag n k (.int t) = false := by
  have h1 : isNum (.int t) (-1) (n - 1) = true := by
    show (decide ((-1 : Int) ≤ t) && decide (t ≤ n - 1)) = true
    rw [decide_eq_true (by omega), decide_eq_true (by omega)]
    rfl
  have h2 : isClose (.int t) = false := decide_eq_false (by omega)
  unfold badTag
  rw [h1, h2, Bool.false_and]
  rfl
theorem rowGo_cons {n left : Int} {x : D} {xs : List D} {p : Nat} : rowGo n (x :: xs) left p = if badTag n left x = true then some p else rowGo n xs (stepTag left x) (p + 1) := rfl
/-- the row goes on behind good tags -/
theorem rowGo_app {n : Int} (hn : 0 ≤ n) : ∀ {is : List Int} {k p : Nat} (r : List D), RowOk n is k → rowGo n (is.map .int ++ r) k p = rowGo n r ((is.foldl (fun (j : Int) t => j + if t = -1 then -1 else 1) (k : Int))) (p + is.length)
  | [], k, p, r, _ => rfl
  | t :: is, k, p, r, h => by
    rcases h with ⟨rfl, hk, ok⟩ | ⟨h0, h1, ok⟩
    · have ih := rowGo_app hn (p := p + 1) r ok
      show rowGo n (.int (-1) :: (is.map .int ++ r)) k p = _
      rw [rowGo_cons, badTag_close hn hk, if_neg Bool.false_ne_true, stepTag_close rfl]
      have e : ((k - 1 : Nat) : Int) = (k : Int) + -1 := by omega
      rw [e] at ih
      rw [ih, List.foldl_cons, if_pos rfl, List.length_cons, show p + 1 + is.length = p + (is.length + 1) by omega]
    · have ih := rowGo_app hn (p := p + 1) r ok
      show rowGo n (.int t :: (is.map .int ++ r)) k p = _
      rw [rowGo_cons, badTag_open h0 h1, if_neg Bool.false_ne_true, stepTag_open (by omega)]
      have e : ((k + 1 : Nat) : Int) = (k : Int) + 1 := by omega
      rw [e] at ih
      rw [ih, List.foldl_cons, if_neg (by omega), List.length_cons, show p + 1 + is.length = p + (is.length + 1) by omega]
theorem ckRow_ok {n : Int} {d : D} (h : ckRow n d = none) : ∃ is, d = RD is ∧ RowOk n is 0 ∧ is.length ≤ 2000 := by
  unfold ckRow at h
  split at h
  · rename_i h1
    cases d with
    | tup l =>
      have h2 : rowGo n l ((0 : Nat) : Int) 0 = none := by
        cases e : rowGo n l 0 0 with
        | none => rfl
        | some p =>
          rw [show items (D.tup l) = l from rfl, e] at h
          cases h
      obtain ⟨is, rfl, ok⟩ := rowGo_ok h2
      have z : (decide ((0 : Int) ≤ ((is.map D.int).length : Int)) && decide (((is.map D.int).length : Int) ≤ 2000)) = true := h1
      simp only [Bool.and_eq_true, decide_eq_true_eq, List.length_map] at z
      exact ⟨is, rfl, ok, by omega⟩
    | _ => cases h1
  · cases h
theorem ckRow_good {n : Int} (hn : 0 ≤ n) {is : List Int} (ok : RowOk n is 0) (hl : is.length ≤ 2000) : ckRow n (RD is) = none := by
  have h1 : isTupOf (RD is) 0 2000 = true := by
    show (decide ((0 : Int) ≤ ((is.map D.int).length : Int)) && decide (((is.map D.int).length : Int) ≤ 2000)) = true
    rw [List.length_map, decide_eq_true (by omega), decide_eq_true (by omega)]
    rfl
  have h2 := rowGo_app hn (p := 0) [] ok
  rw [List.append_nil] at h2
  unfold ckRow
  rw [if_pos h1]
  show (rowGo n (is.map D.int) ((0 : Nat) : Int) 0).map some = none
  rw [h2]
  rfl
/-! ### check_document -/
def stepI (left t : Int) : Int := left + if t = -1 then -1 else 1
def docGo : List Int → Int → Nat → Option Nat
  | [], left, p => if left > 0 then some p else none
  | t :: r, left, p => if stepI left t > 40 then some p else docGo r (stepI left t) (p + 1)
section
variable {P : Program} {w : World} {K : PySem.W.Frag} {mg : Str → Option Value} {base : Heap} {Am : Hp → Prop} {G : List Addr}
def spCheckDoc (K : PySem.W.Frag) (Am : Hp → Prop) (CR : Addr) : Sp := fun vs H Q E => ∃ (is : List Int) (v : V), vs = [v] ∧ Im K H (RD is) v ∧ is.length ≤ 2000 ∧ Am H ∧ (docGo is 0 0 = none → Rt Am H Q .non) ∧ ∀ p : Nat, docGo is 0 0 = some p → Er Am H E CR "place" (.int (p : Int))
theorem scCheckDoc : FnScope ["row", "left", "place", "tag"] ["row"] (defScope sCheckDoc) := ⟨rfl, rfl, rfl, by decide +kernel, rfl, by decide +kernel, by decide +kernel⟩
theorem map_drop {is : List Int} {i : Nat} {x : V} (e : (is.map V.int)[i]? = some x) : ∃ t, x = .int t ∧ is.drop i = t :: is.drop (i + 1) := by
  rw [List.getElem?_map] at e
  cases h : is[i]? with
  | none => rw [h] at e; cases e
  | some t =>
    rw [h] at e
    obtain ⟨hlt, hg⟩ := List.getElem?_eq_some_iff.mp h
    exact ⟨t, by cases e; rfl, by rw [List.drop_eq_getElem_cons hlt, hg]⟩
/-- -1 if tag == CLOSING else 1 -/
theorem v_step {σ : L2.St} {H : Hp} {i : Nat} {t : Int} (e : σ[i]? = some (some (.int t))) : ∀ Q : VK, Q (.int (if t = -1 then -1 else 1)) H → tIf (tB (tOp rEq (tVar i) (tC (.int (-1))))) (tUn (rU fun i => .int (-i)) (tC (.int 1))) (tC (.int 1)) σ H Q := fun Q q => by
  refine c_ifE (c_Bv (v_eq (v_var e) v_c rfl) ?_)
  rw [dec_eq_int]
  by_cases ht : t = -1
  · rw [decide_eq_true ht]
    rw [if_pos ht] at q
    exact iteT (c_v (v_un v_c) q)
  · rw [decide_eq_false ht]
    rw [if_neg ht] at q
    exact iteF (c_c q)
theorem ok_checkDoc {f fI CR : Addr} {fd fdI : FuncData} (A : AmOk Am G) (F : Fun K "check_document" "check_document" sCheckDoc f fd) (B : Glb mg) (C2 : Cn2 mg) (R : ErD P w K mg base "BadRow" "place" CR fI fdI ["self", "place"]) :
    FnOk P w K mg base (L2.CX P w) 4 f fd ["row"] (spCheckDoc K Am CR) := by
  obtain ⟨t1, m1⟩ := C2.cl
  obtain ⟨t2, m2⟩ := C2.mw
  refine Fun.okXC F scCheckDoc (fun vs H Q E h => ?_) (fun Ar outer s H vs Q E hr h => ?_)
  · obtain ⟨is, v, rfl, _⟩ := h
    rfl
  · obtain ⟨is, v, rfl, hd, len, hA, qn, qe⟩ := h
    obtain ⟨a, rfl, hx⟩ := im_rd hd
    refine ⟨_, pss_cons (ps_set (i := 1) scCheckDoc.nd rfl (Or.inl rfl) pe_int)
      (pss_cons (ps_for (passes_of rfl) rfl (pi_enumT (by rfl) C2.en (pa_cons (pv 0) pa_nil)) (pg_tup rfl (pgs_cons (pg_name (i := 2) scCheckDoc.nd rfl (Or.inl rfl)) (pgs_cons (pg_name (i := 3) scCheckDoc.nd rfl (Or.inl rfl)) pgs_nil)))
        (pss_cons (ps_aug (i := 1) scCheckDoc.nd rfl (Or.inl rfl) (pe_ifExp (pt_cmpR op_eq (pv 3) (pe_glob (v := .int (-1)) (by rfl) m1 ⟨_, rfl⟩) (nomark _)) (pe_un un_neg pe_int) pe_int) ip_add)
        (pss_one (ps_if (pt_cmpR op_gt (pv 1) (pe_glob (v := .int 40) (by rfl) m2 ⟨_, rfl⟩) (nomark _))
          (pss_one (ps_raise rfl (takes_of rfl rfl rfl rfl) (pmk_oex R.t.oex R.t.iC R.t.tI R.ok (hr.mono (by decide)) R.b .nil pass0 (by rfl) R.t.g (pa_cons (pv 2) pa_nil)))) pss_nil))))
      (pss_one (ps_if (pt_cmpR op_gt (pv 1) pe_int (nomark _))
          (pss_one (ps_raise rfl (takes_of rfl rfl rfl rfl) (pmk_oex R.t.oex R.t.iC R.t.tI R.ok (hr.mono (by decide)) R.b .nil pass0 (by rfl) R.t.g (pa_cons (pe_callB call_len_seq (by rfl) B.len boot_len (pa_cons (pv 0) pa_nil)) pa_nil)))) pss_nil))), ?_⟩
    refine c_seq (c_set (c_c ?_))
    dsimp only
    refine c_seq (c_forE (va_cons (v_var rfl) va_nil) hx (fun i σ H' => ∃ (left : Int) (o3 o4 : Option V), σ = [some (.ref a), some (.int left), o3, o4] ∧ ExtN H H' ∧ Am H' ∧ docGo (is.drop i) left i = docGo is 0 0)
      ⟨0, _, _, rfl, LamX.ExtN.refl H, hA, rfl⟩ (fun i σ H' ⟨_, _, _, _, e, _⟩ => (ExtN.ee e).t _ _ hx) (fun σ H' ⟨left, o3, o4, es, e, hA', r⟩ => ?_) (fun i x σ H' T hi ⟨left, o3, o4, es, e, hA', r⟩ hT => ?_))
    · subst es
      dsimp only
      rw [List.length_map, List.drop_length] at r
      refine c_if (c_Bv (v_opb (v_var rfl) v_c) ?_)
      by_cases hz : left > 0
      · have r2 : docGo is 0 0 = some is.length := by rw [← r]; unfold docGo; rw [if_pos hz]
        rw [decide_eq_true hz]
        refine iteT (rd_mk A R.t (va_cons (v_len (v_var rfl) (.inr ((ExtN.ee e).t _ _ hx))) va_nil) hA' (.inr (.inl ⟨_, rfl, small_log (by rw [List.length_map]; exact len)⟩)) (Er.ext e ?_))
        have z := qe _ r2
        rw [List.length_map]
        exact z
      · have r2 : docGo is 0 0 = none := by rw [← r]; unfold docGo; rw [if_neg hz]
        rw [decide_eq_false hz]
        exact iteF (c_next (qn r2 H' e hA'))
    · subst es
      obtain ⟨t, rfl, hdr⟩ := map_drop hi
      have hi2 : i ≤ 2000 := by have := (List.getElem?_eq_some_iff.mp hi).1; rw [List.length_map] at this; omega
      have e1 : ExtN H (upd H' T (.tup [.int (i : Nat), .int t])) := LamX.ExtN.trans e (ExtN.new hT)
      have a1 : Am (upd H' T (.tup [.int (i : Nat), .int t])) := A.new hA' hT
      refine ⟨T, [.int (i : Nat), .int t], rfl, .inl (.inl upd_same), rfl, _, _, rfl, _, _, rfl, rfl, ?_⟩
      dsimp only
      rw [hdr] at r
      have r2 : (if stepI left t > 40 then some i else docGo (is.drop (i + 1)) (stepI left t) (i + 1)) = docGo is 0 0 := r
      refine c_seq (c_aug rfl (c_v (v_step rfl) ⟨_, _, rfl, rfl, ?_⟩))
      dsimp only
      refine c_if (c_Bv (v_opb (v_var rfl) v_c) ?_)
      by_cases hz : stepI left t > 40
      · rw [if_pos hz] at r2
        rw [show decide (40 < left + (if t = -1 then -1 else 1)) = true from decide_eq_true hz]
        exact iteT (rd_mk A R.t (va_cons (v_var rfl) va_nil) a1 (.inr (.inl ⟨_, rfl, small_log hi2⟩)) (Er.ext e1 (qe i r2.symm)))
      · rw [if_neg hz] at r2
        rw [show decide (40 < left + (if t = -1 then -1 else 1)) = false from decide_eq_false hz]
        exact iteF (c_next ⟨_, _, _, rfl, e1, a1, r2⟩)
end
end Mk

/-! ### MkOpen -/
set_option Elab.async false
set_option linter.all false
set_option maxRecDepth 100000
set_option maxHeartbeats 4000000
namespace Mk
open PySem PySem.Spec PyProof.Rows L2
open GxR (TabG Tabbed)
/-! ### list methods -/
section
variable {K : PySem.W.Frag} {σ : L2.St} {H : Hp} {Q : VK} {to ta : TE} {l : Addr} {xs : List V} {y : V}
theorem c_append (ho : ∀ Q : VK, Q (.ref l) H → to σ H Q) (h0 : H l = some (.lst xs)) (h : ta σ H fun y H2 => rAppend (.ref l) [y] H2 Q) : tBM K "list" rAppend to (tCons ta tNil) σ H Q :=
  ho _ ⟨.inl ⟨rfl, xs, SqL.of h0⟩, h⟩
theorem c_appendv (ho : ∀ Q : VK, Q (.ref l) H → to σ H Q) (h0 : H l = some (.lst xs)) (ha : ∀ Q : VK, Q y H → ta σ H Q) (hz : xs.length < sizeLine) (q : Q .non (upd H l (.lst (xs ++ [y])))) : tBM K "list" rAppend to (tCons ta tNil) σ H Q :=
  c_append ho h0 (ha _ ⟨l, xs, y, rfl, rfl, h0, hz, q⟩)
theorem c_pop (ho : ∀ Q : VK, Q (.ref l) H → to σ H Q) (h0 : H l = some (.lst xs)) (hy : xs[xs.length - 1]? = some y) (q : Q y (upd H l (.lst xs.dropLast))) : tBM0 K "list" rPop to σ H Q :=
  ho _ ⟨.inl ⟨rfl, xs, SqL.of h0⟩, l, xs, y, rfl, rfl, h0, hy, q⟩
/-- tuple(l) of a list -/
theorem c_tupL (ho : ∀ Q : VK, Q (.ref l) H → to σ H Q) (h0 : SqL K H l xs) (q : ∀ a, H a = none → Q (.ref a) (upd H a (.tup xs))) : tThen to (kTup K) σ H Q := ho _ (.inl ⟨l, xs, rfl, h0, q⟩)
theorem c_lst {t : TA} {xs : List V} (h : ∀ Q : List V → Hp → Prop, Q xs H → t σ H Q) (hz : xs.length ≤ sizeLine) (q : ∀ a, H a = none → Q (.ref a) (upd H a (.lst xs))) : tLst t σ H Q := h _ ⟨hz, q⟩
theorem c_tup {t : TA} {xs : List V} (h : ∀ Q : List V → Hp → Prop, Q xs H → t σ H Q) (hz : xs.length ≤ sizeLine) (q : ∀ a, H a = none → Q (.ref a) (upd H a (.tup xs))) : tTup t σ H Q := h _ ⟨hz, q⟩
end
theorem imL_tup1 {K : PySem.W.Frag} {H : Hp} {d : D} {l : List D} {xs : List V} (h : ImL K H (d :: l) xs) : ∃ v vs, xs = v :: vs ∧ Im K H d v ∧ ImL K H l vs := by unfold ImL at h; exact h
/-- names of a question -/
def namesD (d : D) : Nat := (items (at_ (at_ d 0) 0)).length
theorem ckQ_shape {d : D} (h : ckQ d = none) : ∃ l0 r e, d = .tup [.tup (.tup l0 :: r), e] ∧ areSt (.tup (.tup l0 :: r)) = true ∧ areNums e ((r.length + 1 : Nat) : Int) 1 = true := by
  unfold ckQ at h
  split at h
  · rename_i h1
    obtain ⟨d1, d2, rfl⟩ := tup2 h1
    split at h
    · rename_i h2
      have h2 : areSt d1 = true := h2
      obtain ⟨l, rfl⟩ := areSt_tup h2
      split at h
      · rename_i h3
        have h3 : areNums d2 (l.length : Int) 1 = true := h3
        have h2' := h2
        unfold areSt at h2'
        simp only [Bool.and_eq_true] at h2'
        obtain ⟨z1, z2, z3⟩ := h2'
        cases l with
        | nil => cases z1
        | cons d0 r =>
          cases d0 with
          | tup l0 => exact ⟨l0, r, d2, rfl, h2, h3⟩
          | _ => cases z2
      · cases h
    · cases h
  · cases h
abbrev sLeftOpen : Stmt := top 31
abbrev sDue : Stmt := top 32
/-- returns data -/
abbrev RtD (K : PySem.W.Frag) (Am : Hp → Prop) (H : Hp) (Q : VK) (d : D) : Prop := ∀ v H', ExtN H H' → Am H' → Im K H' d v → Q v H'
theorem RtD.ext {K : PySem.W.Frag} {Am : Hp → Prop} {H H1 : Hp} {Q : VK} {d : D} (e : ExtN H H1) (r : RtD K Am H Q d) : RtD K Am H1 Q d := fun v H' e' a i => r v H' (LamX.ExtN.trans e e') a i
/-- the marks that a row leaves open, above p -/
def pileGo : List Int → List Int → List Int
  | [], p => p
  | t :: r, p => pileGo r (if t = -1 then p.dropLast else p ++ [t])
theorem pileGo_cons {t : Int} {r p : List Int} : pileGo (t :: r) p = pileGo r (if t = -1 then p.dropLast else p ++ [t]) := rfl
section
variable {P : Program} {w : World} {K : PySem.W.Frag} {mg : Str → Option Value} {base : Heap} {Am : Hp → Prop} {G : List Addr}
def spNamesOf (K : PySem.W.Frag) : Sp := fun vs H Q _ => ∃ (d : D) (v : V), vs = [v] ∧ Im K H d v ∧ ckQ d = none ∧ Q (.int (namesD d : Int)) H
theorem scNamesOf : FnScope ["question"] ["question"] (defScope sNamesOf) := ⟨rfl, rfl, rfl, by decide +kernel, rfl, by decide +kernel, by decide +kernel⟩
theorem ok_namesOf {f : Addr} {fd : FuncData} (F : Fun K "names_of" "names_of" sNamesOf f fd) (B : Glb mg) : FnOk P w K mg base CX0 1 f fd ["question"] (spNamesOf K) := by
  refine F.ok scNamesOf (fun vs H Q E h => ?_) (fun cdv A outer s H vs Q E hr h => ?_)
  · obtain ⟨d, v, rfl, _⟩ := h
    rfl
  · obtain ⟨d, v, rfl, hd, ck, q⟩ := h
    refine ⟨_, pss_one (ps_ret (pe_callB call_len_seq (by rfl) B.len boot_len (pa_cons (pe_ix ix_tup (pe_ix ix_tup (pv 0) pe_int (fun _ _ => rfl)) pe_int (fun _ _ => rfl)) pa_nil))), ?_⟩
    obtain ⟨l0, r, e, rfl, _, _⟩ := ckQ_shape ck
    obtain ⟨a, xs, rfl, hx, hl⟩ := im_tup' hd
    obtain ⟨v1, ys, rfl, h1, _⟩ := imL_tup1 hl
    obtain ⟨b, zs, rfl, hz, hm⟩ := im_tup' h1
    obtain ⟨v2, ws, rfl, h2, _⟩ := imL_tup1 hm
    obtain ⟨c, us, rfl, hu, hk⟩ := im_tup' h2
    refine c_ret (c_v (v_len (v_ixT (v_ixT (v_var rfl) v_c hx (atI_nat (j := 0) rfl)) v_c hz (atI_nat (j := 0) rfl)) (.inr hu)) ?_)
    rw [hk.length]
    exact q
def spLeftOpen (K : PySem.W.Frag) (Am : Hp → Prop) (CQ CR : Addr) : Sp := fun vs H Q E => ∃ (dq dr : D) (q r : V), vs = [q, r] ∧ Im K H dq q ∧ Im K H dr r ∧ Am H ∧ (∀ p, ckQ dq = some p → Er Am H E CQ "part" (.str p)) ∧
  (ckQ dq = none → (∀ p, ckRow (namesD dq) dr = some p → Er Am H E CR "place" (plV p)) ∧ ∀ is, dr = RD is → RowOk (namesD dq) is 0 → is.length ≤ 2000 → RtD K Am H Q (RD (pileGo is [])))
theorem scLeftOpen : FnScope ["question", "row", "pile", "tag"] ["question", "row"] (defScope sLeftOpen) := ⟨rfl, rfl, rfl, by decide +kernel, rfl, by decide +kernel, by decide +kernel⟩
theorem pileGo_len {n : Int} : ∀ {is : List Int} {p : List Int}, RowOk n is p.length → (pileGo is p).length ≤ p.length + is.length
  | [], p, _ => Nat.le_refl _
  | t :: r, p, h => by
    unfold pileGo
    rcases h with ⟨rfl, h1, ok⟩ | ⟨h0, h1, ok⟩
    · rw [if_pos rfl]
      have := pileGo_len (is := r) (p := p.dropLast) (by rw [List.length_dropLast]; exact ok)
      rw [List.length_dropLast] at this
      simp only [List.length_cons]
      omega
    · rw [if_neg (by omega)]
      have := pileGo_len (is := r) (p := p ++ [t]) (by rw [List.length_append]; exact ok)
      simp only [List.length_cons, List.length_append, List.length_nil] at this ⊢
      omega
theorem last_map {p : List Int} (h : 0 < p.length) : ∃ y, (p.map V.int)[(p.map V.int).length - 1]? = some y := by
  refine ⟨.int (p[p.length - 1]'(by omega)), ?_⟩
  rw [List.length_map, List.getElem?_map, List.getElem?_eq_getElem (by omega)]
  rfl
theorem ok_leftOpen {f fQ fR fN CQ CR : Addr} {fd fdQ fdR fdN : FuncData} (A : AmOk Am G) (F : Fun K "left_open" "left_open" sLeftOpen f fd) (B : Glb mg) (C2 : Cn2 mg)
    (GQ : Def P w K mg base (L2.CX P w) 6 "check_question" fQ fdQ ["value"] (spCheckQ K Am CQ)) (GR : Def P w K mg base (L2.CX P w) 4 "check_row" fR fdR ["names", "value"] (spCheckRow K Am CR)) (GN : Def P w K mg base CX0 1 "names_of" fN fdN ["question"] (spNamesOf K)) :
    FnOk P w K mg base (L2.CX P w) 7 f fd ["question", "row"] (spLeftOpen K Am CQ CR) := by
  obtain ⟨t1, m1⟩ := C2.cl
  refine Fun.okXC F scLeftOpen (fun vs H Q E h => ?_) (fun Ar outer s H vs Q E hr h => ?_)
  · obtain ⟨dq, dr, q, r, rfl, _⟩ := h
    rfl
  · obtain ⟨dq, dr, vq, vr, rfl, hq, hd, hA, eq, qq⟩ := h
    refine ⟨_, pss_cons (ps_expr (pe_call GQ.ok (hr.mono (by decide)) (by rfl) GQ.g GQ.kp GQ.b .nil (passes_call (takes_of rfl rfl rfl rfl) fun _ _ _ _ h => h) (pa_cons (pv 0) pa_nil)))
      (pss_cons (ps_expr (pe_call GR.ok (hr.mono (by decide)) (by rfl) GR.g GR.kp GR.b .nil (passes_call (takes_of rfl rfl rfl rfl) fun _ _ _ _ h => h) (pa_cons (pe_call GN.ok (hr.mono (by decide)) (by rfl) GN.g GN.kp GN.b .nil pass0 (pa_cons (pv 0) pa_nil)) (pa_cons (pv 1) pa_nil))))
      (pss_cons (ps_set (i := 2) scLeftOpen.nd rfl (Or.inl rfl) (pe_lst pa_nil))
      (pss_cons (ps_for (passes_of rfl) rfl (pi_tup (pv 1)) (pg_name (i := 3) scLeftOpen.nd rfl (Or.inl rfl))
        (pss_one (ps_if (pt_cmpR op_eq (pv 3) (pe_glob (v := .int (-1)) (by rfl) m1 ⟨_, rfl⟩) (nomark _))
          (pss_one (ps_expr (pe_bm0 PySem.F.plainAttrs_list PySem.F.slot_list_pop PySem.F.type_list_pop mt_pop (pv 2))))
          (pss_one (ps_expr (pe_bm PySem.F.plainAttrs_list PySem.F.slot_list_append PySem.F.type_list_append mt_append (pv 2) (pa_cons (pv 3) pa_nil)))))))
      (pss_one (ps_ret (pe_tupleOf (by rfl) B.tuple (pv 2))))))), ?_⟩
    refine c_seq (c_drop (c_callv (va_cons (v_var rfl) va_nil) ⟨dq, vq, rfl, hq, hA, fun ck H1 e1 a1 => ?_, fun p hp => eq p hp⟩))
    obtain ⟨qe, qn⟩ := qq ck
    dsimp only
    refine c_seq (c_drop (c_callv (va_cons (fun Q q => c_callv (va_cons (v_var rfl) va_nil) ⟨dq, vq, rfl, hq.mono (ExtN.ee e1), ck, q⟩) (va_cons (v_var rfl) va_nil)) ⟨dr, vr, _, rfl, hd.mono (ExtN.ee e1), a1, fun cr H2 e2 a2 => ?_, fun p hp => Er.ext e1 (qe p hp)⟩))
    obtain ⟨is, rfl, ok, len⟩ := ckRow_ok cr
    have e2 : ExtN H H2 := LamX.ExtN.trans e1 e2
    obtain ⟨ar, rfl, hx⟩ := im_rd hd
    dsimp only
    refine c_seq (c_set (c_lst va_nil (Nat.zero_le _) fun l hl => ?_))
    dsimp only
    have hx2 : SqT K H2 ar (is.map .int) := (ExtN.ee e2).t _ _ hx
    have e3 : ExtN H2 (upd H2 l (.lst [])) := ExtN.new hl
    have rok := ok
    refine c_seq (c_forT (v_var rfl) ((ExtN.ee e3).t _ _ hx2) (fun i σ H' => ∃ (p : List Int) (o3 : Option V), σ = [some vq, some (.ref ar), some (.ref l), o3] ∧ ExtN H2 H' ∧ Am H' ∧ H' l = some (.lst (p.map .int)) ∧ p.length ≤ i ∧ RowOk (namesD dq) (is.drop i) p.length ∧ pileGo (is.drop i) p = pileGo is [])
      ⟨[], _, rfl, e3, A.new a2 hl, upd_same, Nat.le_refl _, ok, rfl⟩ (fun i σ H' ⟨_, _, _, e, _⟩ => (ExtN.ee e).t _ _ hx2) (fun σ H' ⟨p, o3, es, e, hA', hp, _, _, r⟩ => ?_) (fun i x σ H' hi ⟨p, o3, es, e, hA', hp, pl, ok, r⟩ => ?_))
    · subst es
      dsimp only
      rw [List.length_map, List.drop_length] at r
      refine c_ret (c_tupL (v_var rfl) (SqL.of hp) fun b hb => ?_)
      have r2 : p = pileGo is [] := r
      rw [r2]
      exact qn is rfl rok len _ _ (LamX.ExtN.trans e2 (LamX.ExtN.trans e (ExtN.new hb))) (A.new hA' hb) (im_rd_of (.inl (.inl upd_same)))
    · subst es
      obtain ⟨t, rfl, hdr⟩ := map_drop hi
      have hi2 : i ≤ 2000 := by have := (List.getElem?_eq_some_iff.mp hi).1; rw [List.length_map] at this; omega
      rw [hdr] at r ok
      dsimp only
      refine c_if (c_Bv (v_eq (v_var rfl) v_c rfl) ?_)
      rw [dec_eq_int]
      rcases ok with ⟨ht, hk, ok⟩ | ⟨h0, h1, ok⟩
      · rw [decide_eq_true ht]
        obtain ⟨y, hy⟩ := last_map hk
        refine iteT (c_drop (c_pop (v_var rfl) hp hy ⟨p.dropLast, _, rfl, ExtN.mut e hl, A.lst hA' hp, by rw [upd_same, List.map_dropLast], by rw [List.length_dropLast]; omega, by rw [List.length_dropLast]; exact ok, ?_⟩))
        rw [pileGo_cons, if_pos ht] at r
        exact r
      · have ht : ¬ t = -1 := by omega
        rw [decide_eq_false ht]
        refine iteF (c_drop (c_appendv (v_var rfl) hp (v_var rfl) (by rw [List.length_map, sizeLine_eq]; omega) ⟨p ++ [t], _, rfl, ExtN.mut e hl, A.lst hA' hp, by rw [upd_same, List.map_append]; rfl, by rw [List.length_append]; show p.length + 1 ≤ i + 1; omega, by rw [List.length_append]; exact ok, ?_⟩))
        rw [pileGo_cons, if_neg ht] at r
        exact r
end
end Mk

/-! ### MkDue -/
set_option Elab.async false
set_option linter.all false
set_option maxRecDepth 100000
set_option maxHeartbeats 4000000
namespace Mk
open PySem PySem.Spec PyProof.Rows L2
open GxR (TabG Tabbed)
/-! ### questions with types -/
abbrev QD (rows : List (List Int)) (ans : List Int) : D := .tup [.tup (rows.map RD), RD ans]
structure QOk (rows : List (List Int)) (ans : List Int) (n : Nat) : Prop where
  s1 : 1 ≤ rows.length
  s6 : rows.length ≤ 6
  n1 : 1 ≤ n
  n3 : n ≤ 3
  len : ∀ r ∈ rows, r.length = n
  rng : ∀ r ∈ rows, ∀ x ∈ r, 0 ≤ x ∧ x ≤ (rows.length : Int) - 1
  al : ans.length = rows.length
  ar : ∀ a ∈ ans, 0 ≤ a ∧ a ≤ 1
theorem all_nums : ∀ {l : List D} {most : Int}, (l.all fun x => isNum x 0 most) = true → ∃ is : List Int, l = is.map .int ∧ ∀ x ∈ is, 0 ≤ x ∧ x ≤ most
  | [], most, _ => ⟨[], rfl, fun x h => by cases h⟩
  | d :: l, most, h => by
    rw [List.all_cons, Bool.and_eq_true] at h
    obtain ⟨i, rfl, h1, h2⟩ := isNum_int h.1
    obtain ⟨is, rfl, hi⟩ := all_nums h.2
    exact ⟨i :: is, rfl, fun x hx => by
      rcases List.mem_cons.mp hx with rfl | hx
      · exact ⟨h1, h2⟩
      · exact hi x hx⟩
theorem areNums_ok {d : D} {many : Nat} {most : Int} (h : areNums d (many : Int) most = true) : ∃ is, d = RD is ∧ is.length = many ∧ ∀ x ∈ is, 0 ≤ x ∧ x ≤ most := by
  unfold areNums at h
  rw [Bool.and_eq_true] at h
  cases d with
  | tup l =>
    obtain ⟨is, rfl, hi⟩ := all_nums (show (l.all fun x => isNum x 0 most) = true from h.2)
    have z : (decide ((many : Int) ≤ ((is.map D.int).length : Int)) && decide (((is.map D.int).length : Int) ≤ many)) = true := h.1
    simp only [Bool.and_eq_true, decide_eq_true_eq, List.length_map] at z
    exact ⟨is, rfl, by omega, hi⟩
  | _ => cases h.1
theorem all_rows : ∀ {l : List D} {many : Nat} {most : Int}, (l.all fun x => areNums x (many : Int) most) = true → ∃ rows : List (List Int), l = rows.map RD ∧ (∀ r ∈ rows, r.length = many) ∧ ∀ r ∈ rows, ∀ x ∈ r, 0 ≤ x ∧ x ≤ most
  | [], _, _, _ => ⟨[], rfl, (fun r h => absurd h List.not_mem_nil), (fun r h => absurd h List.not_mem_nil)⟩
  | d :: l, many, most, h => by
    rw [List.all_cons, Bool.and_eq_true] at h
    obtain ⟨is, rfl, h1, h2⟩ := areNums_ok h.1
    obtain ⟨rows, rfl, h3, h4⟩ := all_rows h.2
    refine ⟨is :: rows, rfl, fun r hr => ?_, fun r hr => ?_⟩
    · rcases List.mem_cons.mp hr with rfl | hr
      · exact h1
      · exact h3 r hr
    · rcases List.mem_cons.mp hr with rfl | hr
      · exact h2
      · exact h4 r hr
theorem ckQ_typed {d : D} (h : ckQ d = none) : ∃ rows ans, d = QD rows ans ∧ QOk rows ans (namesD d) := by
  obtain ⟨l0, r, e, rfl, h1, h2⟩ := ckQ_shape h
  obtain ⟨ans, rfl, a1, a2⟩ := areNums_ok h2
  have h3 := h1
  unfold areSt at h3
  simp only [Bool.and_eq_true] at h3
  obtain ⟨z1, z2, z3⟩ := h3
  have z1 : (decide ((1 : Int) ≤ ((D.tup l0 :: r).length : Int)) && decide (((D.tup l0 :: r).length : Int) ≤ 6)) = true := z1
  have z2 : (decide ((1 : Int) ≤ (l0.length : Int)) && decide ((l0.length : Int) ≤ 3)) = true := z2
  have z3 : ((D.tup l0 :: r).all fun x => areNums x (l0.length : Int) (((D.tup l0 :: r).length : Int) - 1)) = true := z3
  simp only [Bool.and_eq_true, decide_eq_true_eq] at z1 z2
  obtain ⟨rows, er, g1, g2⟩ := all_rows z3
  have el : (D.tup l0 :: r).length = rows.length := by rw [er, List.length_map]
  refine ⟨rows, ans, by rw [er], ?_⟩
  have en : namesD (.tup [.tup (.tup l0 :: r), RD ans]) = l0.length := rfl
  rw [en]
  rw [el] at z1 g2
  refine ⟨by omega, by omega, by omega, by omega, g1, g2, ?_, a2⟩
  rw [a1, ← el]
  rfl
theorem isNum_of {x lo hi : Int} (h : lo ≤ x ∧ x ≤ hi) : isNum (.int x) lo hi = true := by
  show (decide (lo ≤ x) && decide (x ≤ hi)) = true
  rw [decide_eq_true h.1, decide_eq_true h.2]
  rfl
theorem isTupOf_of {l : List D} {lo hi : Int} (h : lo ≤ (l.length : Int) ∧ (l.length : Int) ≤ hi) : isTupOf (.tup l) lo hi = true := by
  show (decide (lo ≤ (l.length : Int)) && decide ((l.length : Int) ≤ hi)) = true
  rw [decide_eq_true h.1, decide_eq_true h.2]
  rfl
theorem areNums_of {is : List Int} {most : Int} (h : ∀ x ∈ is, 0 ≤ x ∧ x ≤ most) : areNums (RD is) (is.length : Int) most = true := by
  unfold areNums
  rw [isTupOf_of (by rw [List.length_map]; omega), Bool.true_and, List.all_eq_true]
  intro x hx
  obtain ⟨i, hi, rfl⟩ := List.mem_map.mp (show x ∈ is.map D.int from hx)
  exact isNum_of (h i hi)
theorem namesD_of {rows : List (List Int)} {ans : List Int} {n : Nat} (q : QOk rows ans n) : namesD (QD rows ans) = n := by
  cases rows with
  | nil => exact absurd q.s1 (by decide)
  | cons r rs =>
    show (r.map D.int).length = n
    rw [List.length_map]
    exact q.len r (List.mem_cons_self ..)
theorem ckQ_of {rows : List (List Int)} {ans : List Int} {n : Nat} (q : QOk rows ans n) : ckQ (QD rows ans) = none := by
  have e1 : areSt (.tup (rows.map RD)) = true := by
    unfold areSt
    rw [isTupOf_of (by rw [List.length_map]; have := q.s1; have := q.s6; omega), Bool.true_and]
    cases rows with
    | nil => exact absurd q.s1 (by decide)
    | cons r rs =>
      have eh : head0 (.tup ((r :: rs).map RD)) = RD r := rfl
      have hr := q.len r (List.mem_cons_self ..)
      have := q.n1
      have := q.n3
      rw [eh, isTupOf_of (by rw [List.length_map, hr]; omega), Bool.true_and, List.all_eq_true]
      intro x hx
      obtain ⟨i, hi, rfl⟩ := List.mem_map.mp (show x ∈ (r :: rs).map RD from hx)
      have el : ((items (RD r)).length : Int) = (i.length : Int) := by
        show ((r.map D.int).length : Int) = _
        rw [List.length_map, hr, q.len i hi]
      rw [el]
      refine areNums_of fun y hy => ?_
      show 0 ≤ y ∧ y ≤ ((((r :: rs).map RD).length : Nat) : Int) - 1
      rw [List.length_map]
      exact q.rng i hi y hy
  have e2 : areNums (RD ans) ((items (at_ (QD rows ans) 0)).length : Int) 1 = true := by
    have el : ((items (at_ (QD rows ans) 0)).length : Int) = (ans.length : Int) := by
      show (((rows.map RD).length : Nat) : Int) = _
      rw [List.length_map, q.al]
    rw [el]
    exact areNums_of q.ar
  unfold ckQ
  rw [if_pos (show isTupOf (QD rows ans) 2 2 = true by rfl), if_pos (show areSt (at_ (QD rows ans) 0) = true from e1)]
  exact if_pos e2
end Mk

/-! ### MkDue2 -/
set_option Elab.async false
set_option linter.all false
set_option maxRecDepth 100000
set_option maxHeartbeats 4000000
namespace Mk
open PySem PySem.Spec PyProof.Rows L2
open GxR (TabG Tabbed)
def nxtI (rows : List (List Int)) (s t : Int) : Int := (rows.getD s.toNat []).getD t.toNat 0
def lastI (p : List Int) : Int := p.getLastD 0
def dueGo (rows : List (List Int)) (ans : List Int) : List Int → List Int → List Int → List Int
  | [], _, due => due
  | t :: r, p, due => if t = -1 then dueGo rows ans r p.dropLast due else dueGo rows ans r (p ++ [nxtI rows (lastI p) t]) (due ++ [ans.getD (nxtI rows (lastI p) t).toNat 0])
theorem lastI_app (p : List Int) (s : Int) : lastI (p ++ [s]) = s := by
  unfold lastI
  rw [List.getLastD_eq_getLast?, List.getLast?_append]
  rfl
theorem app_last {p : List Int} (h : 0 < p.length) : ∃ q, p = q ++ [lastI p] := by
  have hn : p ≠ [] := fun z => by rw [z] at h; exact absurd h (by decide)
  refine ⟨p.dropLast, ?_⟩
  have e := List.dropLast_concat_getLast hn
  have e2 : lastI p = p.getLast hn := by
    unfold lastI
    rw [List.getLastD_eq_getLast?, List.getLast?_eq_some_getLast hn]
    rfl
  rw [e2, e]
theorem atI_lastI {p : List Int} (h : 0 < p.length) : atI (p.map V.int) (-1) = some (.int (lastI p)) := by
  obtain ⟨q, e⟩ := app_last h
  rw [e, lastI_app, List.map_append]
  exact atI_last _ _
/-- what a list of rows holds at i -/
theorem imL_row {K : PySem.W.Frag} {H : Hp} {rows : List (List Int)} {ws : List V} (h : ImL K H (rows.map RD) ws) {i : Nat} (hi : i < rows.length) : ∃ a, ws[i]? = some (.ref a) ∧ SqT K H a ((rows.getD i []).map .int) := by
  have e : (rows.map RD)[i]? = some (RD (rows.getD i [])) := by
    rw [List.getElem?_map, List.getElem?_eq_getElem hi, List.getD_eq_getElem?_getD, List.getElem?_eq_getElem hi]
    rfl
  obtain ⟨v, hv, him⟩ := h.get' e
  obtain ⟨a, rfl, hx⟩ := im_rd him
  exact ⟨a, hv, hx⟩
theorem atI_map {l : List Int} {i : Int} (h0 : 0 ≤ i) (h1 : i < l.length) : atI (l.map V.int) i = some (.int (l.getD i.toNat 0)) := by
  have e : i = ((i.toNat : Nat) : Int) := by omega
  have h2 : i.toNat < l.length := by omega
  rw [e]
  refine atI_nat ?_
  rw [List.getElem?_map, Int.toNat_natCast, List.getD_eq_getElem?_getD, List.getElem?_eq_getElem h2]
  rfl
theorem nxt_rng {rows : List (List Int)} {ans : List Int} {n : Nat} (q : QOk rows ans n) {s t : Int} (s0 : 0 ≤ s) (s1 : s < rows.length) (t0 : 0 ≤ t) (t1 : t < n) : 0 ≤ nxtI rows s t ∧ nxtI rows s t < rows.length := by
  have h2 : s.toNat < rows.length := by omega
  have e : rows.getD s.toNat [] = rows[s.toNat] := by rw [List.getD_eq_getElem?_getD, List.getElem?_eq_getElem h2]; rfl
  have hm : rows.getD s.toNat [] ∈ rows := by rw [e]; exact List.getElem_mem h2
  have hl := q.len _ hm
  have h3 : t.toNat < (rows.getD s.toNat []).length := by omega
  have e2 : nxtI rows s t = (rows.getD s.toNat [])[t.toNat] := by unfold nxtI; rw [List.getD_eq_getElem?_getD, List.getElem?_eq_getElem h3]; rfl
  have := q.rng _ hm (nxtI rows s t) (by rw [e2]; exact List.getElem_mem h3)
  omega
section
variable {P : Program} {w : World} {K : PySem.W.Frag} {mg : Str → Option Value} {base : Heap} {Am : Hp → Prop} {G : List Addr}
def spDue (K : PySem.W.Frag) (Am : Hp → Prop) (CQ CR : Addr) : Sp := fun vs H Q E => ∃ (dq dr : D) (q r : V), vs = [q, r] ∧ Im K H dq q ∧ Im K H dr r ∧ Am H ∧ (∀ p, ckQ dq = some p → Er Am H E CQ "part" (.str p)) ∧
  (ckQ dq = none → (∀ p, ckRow (namesD dq) dr = some p → Er Am H E CR "place" (plV p)) ∧ ∀ is rows ans, dr = RD is → RowOk (namesD dq) is 0 → is.length ≤ 2000 → dq = QD rows ans → RtD K Am H Q (RD (dueGo rows ans is [0] [])))
theorem scDue : FnScope ["question", "row", "steps", "answers", "pile", "due", "tag"] ["question", "row"] (defScope sDue) := ⟨rfl, rfl, rfl, by decide +kernel, rfl, by decide +kernel, by decide +kernel⟩
theorem ok_due {f fQ fR fN CQ CR : Addr} {fd fdQ fdR fdN : FuncData} (A : AmOk Am G) (F : Fun K "answers_due" "answers_due" sDue f fd) (B : Glb mg) (C2 : Cn2 mg)
    (GQ : Def P w K mg base (L2.CX P w) 6 "check_question" fQ fdQ ["value"] (spCheckQ K Am CQ)) (GR : Def P w K mg base (L2.CX P w) 4 "check_row" fR fdR ["names", "value"] (spCheckRow K Am CR)) (GN : Def P w K mg base CX0 1 "names_of" fN fdN ["question"] (spNamesOf K)) :
    FnOk P w K mg base (L2.CX P w) 7 f fd ["question", "row"] (spDue K Am CQ CR) := by
  obtain ⟨t1, m1⟩ := C2.cl
  refine Fun.okXC F scDue (fun vs H Q E h => ?_) (fun Ar outer s H vs Q E hr h => ?_)
  · obtain ⟨dq, dr, q, r, rfl, _⟩ := h
    rfl
  · obtain ⟨dq, dr, vq, vr, rfl, hq, hd, hA, eq, qq⟩ := h
    refine ⟨_, pss_cons (ps_expr (pe_call GQ.ok (hr.mono (by decide)) (by rfl) GQ.g GQ.kp GQ.b .nil (passes_call (takes_of rfl rfl rfl rfl) fun _ _ _ _ h => h) (pa_cons (pv 0) pa_nil)))
      (pss_cons (ps_expr (pe_call GR.ok (hr.mono (by decide)) (by rfl) GR.g GR.kp GR.b .nil (passes_call (takes_of rfl rfl rfl rfl) fun _ _ _ _ h => h) (pa_cons (pe_call GN.ok (hr.mono (by decide)) (by rfl) GN.g GN.kp GN.b .nil pass0 (pa_cons (pv 0) pa_nil)) (pa_cons (pv 1) pa_nil))))
      (pss_cons (ps_asg (pv 0) (pg_tup rfl (pgs_cons (pg_name (i := 2) scDue.nd rfl (Or.inl rfl)) (pgs_cons (pg_name (i := 3) scDue.nd rfl (Or.inl rfl)) pgs_nil))))
      (pss_cons (ps_set (i := 4) scDue.nd rfl (Or.inl rfl) (pe_lst (pa_cons pe_int pa_nil)))
      (pss_cons (ps_set (i := 5) scDue.nd rfl (Or.inl rfl) (pe_lst pa_nil))
      (pss_cons (ps_for (passes_of rfl) rfl (pi_tup (pv 1)) (pg_name (i := 6) scDue.nd rfl (Or.inl rfl))
        (pss_one (ps_if (pt_cmpR op_eq (pv 6) (pe_glob (v := .int (-1)) (by rfl) m1 ⟨_, rfl⟩) (nomark _))
          (pss_one (ps_expr (pe_bm0 PySem.F.plainAttrs_list PySem.F.slot_list_pop PySem.F.type_list_pop mt_pop (pv 4))))
          (pss_cons (ps_expr (pe_bm PySem.F.plainAttrs_list PySem.F.slot_list_append PySem.F.type_list_append mt_append (pv 4) (pa_cons (pe_ix ix_tup (pe_ix ix_tup (pv 2) (pe_ix ix_list (pv 4) (pe_un un_neg pe_int) (fun _ _ => rfl)) (fun _ _ => rfl)) (pv 6) (fun _ _ => rfl)) pa_nil)))
          (pss_one (ps_expr (pe_bm PySem.F.plainAttrs_list PySem.F.slot_list_append PySem.F.type_list_append mt_append (pv 5) (pa_cons (pe_ix ix_tup (pv 3) (pe_ix ix_list (pv 4) (pe_un un_neg pe_int) (fun _ _ => rfl)) (fun _ _ => rfl)) pa_nil))))))))
      (pss_one (ps_ret (pe_tupleOf (by rfl) B.tuple (pv 5))))))))), ?_⟩
    refine c_seq (c_drop (c_callv (va_cons (v_var rfl) va_nil) ⟨dq, vq, rfl, hq, hA, fun ck H1 e1 a1 => ?_, fun p hp => eq p hp⟩))
    obtain ⟨qe, qn⟩ := qq ck
    dsimp only
    refine c_seq (c_drop (c_callv (va_cons (fun Q q => c_callv (va_cons (v_var rfl) va_nil) ⟨dq, vq, rfl, hq.mono (ExtN.ee e1), ck, q⟩) (va_cons (v_var rfl) va_nil)) ⟨dr, vr, _, rfl, hd.mono (ExtN.ee e1), a1, fun cr H2 e2 a2 => ?_, fun p hp => Er.ext e1 (qe p hp)⟩))
    obtain ⟨is, rfl, ok, len⟩ := ckRow_ok cr
    obtain ⟨rows, ans, rfl, qok⟩ := ckQ_typed ck
    have e2 : ExtN H H2 := LamX.ExtN.trans e1 e2
    obtain ⟨ar, rfl, hx⟩ := im_rd hd
    obtain ⟨aq, xq, rfl, hxq, hlq⟩ := im_tup' (hq.mono (ExtN.ee e2))
    obtain ⟨vs, ys, rfl, ims, hl2⟩ := imL_tup1 hlq
    obtain ⟨va, zs, rfl, ima, hl3⟩ := imL_tup1 hl2
    obtain rfl : zs = [] := by unfold ImL at hl3; exact hl3
    obtain ⟨as, xs, rfl, hs, hls⟩ := im_tup' ims
    obtain ⟨aa, rfl, hxa⟩ := im_rd ima
    have hx2 : SqT K H2 ar (is.map .int) := (ExtN.ee e2).t _ _ hx
    dsimp only
    refine c_seq (c_asg (c_var rfl ⟨aq, [.ref as, .ref aa], rfl, hxq, rfl, _, _, rfl, _, _, rfl, rfl, ?_⟩))
    dsimp only
    refine c_seq (c_set (c_lst (va_cons v_c va_nil) (by show 1 ≤ sizeLine; rw [sizeLine_eq]; decide) fun l1 hl1 => ?_))
    dsimp only
    refine c_seq (c_set (c_lst va_nil (Nat.zero_le _) fun l2 hl2 => ?_))
    dsimp only
    have ne : l1 ≠ l2 := fun z => by rw [← z, upd_same] at hl2; cases hl2
    have hl2' : H2 l2 = none := by rw [upd_ne ne.symm] at hl2; exact hl2
    have e4 : ExtN H2 (upd (upd H2 l1 (.lst [.int 0])) l2 (.lst [])) := LamX.ExtN.trans (ExtN.new hl1) (ExtN.new hl2)
    have rok := ok
    refine c_seq (c_forT (v_var rfl) ((ExtN.ee e4).t _ _ hx2) (fun i σ H' => ∃ (p due : List Int) (o3 : Option V), σ = [some (.ref aq), some (.ref ar), some (.ref as), some (.ref aa), some (.ref l1), some (.ref l2), o3] ∧ ExtN H2 H' ∧ Am H' ∧ H' l1 = some (.lst (p.map .int)) ∧ H' l2 = some (.lst (due.map .int)) ∧
        p.length ≤ i + 1 ∧ due.length ≤ i ∧ 0 < p.length ∧ (∀ x ∈ p, 0 ≤ x ∧ x < rows.length) ∧ RowOk (namesD (QD rows ans)) (is.drop i) (p.length - 1) ∧ dueGo rows ans (is.drop i) p due = dueGo rows ans is [0] [])
      ⟨[0], [], _, rfl, e4, A.new (A.new a2 hl1) hl2, by rw [upd_ne ne, upd_same]; rfl, upd_same, Nat.le_refl _, Nat.le_refl _, by decide, fun x hx => ?_, ok, rfl⟩ (fun i σ H' ⟨_, _, _, _, e, _⟩ => (ExtN.ee e).t _ _ hx2) (fun σ H' ⟨p, due, o3, es, e, hA', hp, hdu, _, _, _, _, _, r⟩ => ?_) (fun i x σ H' hi ⟨p, due, o3, es, e, hA', hp, hdu, pl, dl, p0, pr, ok, r⟩ => ?_))
    · obtain rfl : x = 0 := by simpa using hx
      have := qok.s1
      omega
    · subst es
      dsimp only
      rw [List.length_map, List.drop_length] at r
      refine c_ret (c_tupL (v_var rfl) (SqL.of hdu) fun b hb => ?_)
      have r2 : due = dueGo rows ans is [0] [] := r
      rw [r2]
      exact qn is rows ans rfl rok len rfl _ _ (LamX.ExtN.trans e2 (LamX.ExtN.trans e (ExtN.new hb))) (A.new hA' hb) (im_rd_of (.inl (.inl upd_same)))
    · subst es
      obtain ⟨t, rfl, hdr⟩ := map_drop hi
      have hi2 : i ≤ 2000 := by have := (List.getElem?_eq_some_iff.mp hi).1; rw [List.length_map] at this; omega
      rw [hdr] at r ok
      dsimp only
      refine c_if (c_Bv (v_eq (v_var rfl) v_c rfl) ?_)
      rw [dec_eq_int]
      rcases ok with ⟨ht, hk, ok⟩ | ⟨h0, h1, ok⟩
      · rw [decide_eq_true ht]
        obtain ⟨y, hy⟩ := last_map p0
        refine iteT (c_drop (c_pop (v_var rfl) hp hy ⟨p.dropLast, due, _, rfl, ExtN.mut e hl1, A.lst hA' hp, by rw [upd_same, List.map_dropLast], by rw [upd_ne ne.symm]; exact hdu, by rw [List.length_dropLast]; omega, by omega, by rw [List.length_dropLast]; omega, fun x hx => pr x ((List.dropLast_sublist p).subset hx), by rw [List.length_dropLast]; exact ok, ?_⟩))
        have r2 : (if t = -1 then _ else _) = _ := r
        rw [if_pos ht] at r2
        exact r2
      · have ht : ¬ t = -1 := by omega
        rw [decide_eq_false ht]
        have r2 : (if t = -1 then _ else _) = _ := r
        rw [if_neg ht] at r2
        have lp : 0 ≤ lastI p ∧ lastI p < rows.length := by
          obtain ⟨q, e⟩ := app_last p0
          exact pr _ (by rw [e, lastI_app]; exact List.mem_append_right _ (List.mem_singleton.mpr rfl))
        have nm := namesD_of qok
        have t1 : t < (namesD (QD rows ans) : Int) := by omega
        have nr := nxt_rng qok lp.1 lp.2 h0 t1
        obtain ⟨b, hb, hbx⟩ := imL_row hls (i := (lastI p).toNat) (by omega)
        have hbx' := (ExtN.ee e).t _ _ hbx
        have rl : (rows.getD (lastI p).toNat []).length = namesD (QD rows ans) := qok.len _ (by rw [List.getD_eq_getElem?_getD, List.getElem?_eq_getElem (by omega)]; exact List.getElem_mem _)
        have al := qok.al
        have plz : (p.map V.int).length < sizeLine := by rw [List.length_map, sizeLine_eq]; omega
        have vlast : ∀ {σ : L2.St} {H : Hp} {p : List Int} {i : Nat}, 0 < p.length → H l1 = some (.lst (p.map .int)) → σ[i]? = some (some (.ref l1)) → ∀ Q : VK, Q (.int (lastI p)) H → tOp (rIxL K) (tVar i) (tUn (rU fun i => .int (-i)) (tC (.int 1))) σ H Q := fun h0 hh es => v_ixL (v_var es) (v_un (g := fun i => .int (-i)) (a := 1) v_c) (SqL.of hh) (atI_lastI h0)
        refine iteF (c_seq (c_drop (c_appendv (v_var rfl) hp (v_ixT (v_ixT (v_var rfl) (vlast p0 hp rfl) ((ExtN.ee e).t _ _ hs) (by rw [show lastI p = (((lastI p).toNat : Nat) : Int) by omega]; exact atI_nat hb)) (v_var rfl) hbx' (atI_map h0 (by omega))) plz ?_)))
        dsimp only
        have hp' : (upd H' l1 (.lst (p.map V.int ++ [.int (nxtI rows (lastI p) t)]))) l1 = some (.lst ((p ++ [nxtI rows (lastI p) t]).map .int)) := by rw [upd_same, List.map_append]; rfl
        have e5 : ExtN H2 (upd H' l1 (.lst (p.map V.int ++ [.int (nxtI rows (lastI p) t)]))) := ExtN.mut e hl1
        have hdu' : (upd H' l1 (.lst (p.map V.int ++ [.int (nxtI rows (lastI p) t)]))) l2 = some (.lst (due.map .int)) := by rw [upd_ne ne.symm]; exact hdu
        refine c_drop (c_appendv (v_var rfl) hdu' (v_ixT (v_var rfl) (vlast (p := p ++ [nxtI rows (lastI p) t]) (by rw [List.length_append]; exact Nat.succ_pos _) hp' rfl) ((ExtN.ee e5).t _ _ hxa) (by rw [lastI_app]; exact atI_map nr.1 (by omega))) (by rw [List.length_map, sizeLine_eq]; omega) ?_)
        refine ⟨p ++ [nxtI rows (lastI p) t], due ++ [ans.getD (nxtI rows (lastI p) t).toNat 0], _, rfl, ExtN.mut e5 hl2', A.lst (A.lst hA' hp) hdu', ?_, ?_, ?_, ?_, ?_, ?_, ?_, r2⟩
        · rw [upd_ne ne]; exact hp'
        · rw [upd_same, List.map_append]; rfl
        · rw [List.length_append]; show p.length + 1 ≤ _; omega
        · rw [List.length_append]; show due.length + 1 ≤ _; omega
        · rw [List.length_append]; exact Nat.succ_pos _
        · intro x hx
          rcases List.mem_append.mp hx with hx | hx
          · exact pr x hx
          · obtain rfl := List.mem_singleton.mp hx
            exact nr
        · rw [List.length_append]
          have e : p.length + [nxtI rows (lastI p) t].length - 1 = p.length - 1 + 1 := by
            show p.length + 1 - 1 = _
            omega
          rw [e]
          exact ok
end
end Mk

/-! ### MkFst -/
set_option Elab.async false
set_option linter.all false
set_option maxRecDepth 100000
set_option maxHeartbeats 4000000
namespace Mk
open PySem PySem.Spec PyProof.Rows L2
open GxR (TabG Tabbed)
abbrev sIsMark : Stmt := top 33
abbrev sIsForest : Stmt := top 34
abbrev sCheckForest : Stmt := top 35
/-! ### forests -/
def isMark (n : Int) (d : D) : Bool := isTupOf d 2 2 && isNum (at_ d 0) 0 (n - 1)
def wf (n : Int) : Nat → D → Bool
  | 0, d => isTupOf d 0 0
  | k + 1, d => isTup d && (items d).all fun m => isMark n m && wf n k (at_ m 1)
def cnt : Nat → D → Nat
  | 0, _ => 0
  | k + 1, d => (items d).length + ((items d).map fun m => cnt k (at_ m 1)).sum
def isFor (n : Int) (d : D) : Bool := wf n 40 d && decide (cnt 40 d ≤ 1000)
def allWf (n : Int) (ws : List (D × Nat)) : Bool := ws.all fun p => wf n p.2 p.1
def total (ws : List (D × Nat)) : Nat := (ws.map fun p => cnt p.2 p.1).sum
theorem total_app (a b : List (D × Nat)) : total (a ++ b) = total a + total b := by
  unfold total
  rw [List.map_append, List.sum_append]
theorem allWf_app (n : Int) (a b : List (D × Nat)) : allWf n (a ++ b) = (allWf n a && allWf n b) := by
  unfold allWf
  rw [List.all_append]
section
variable {P : Program} {w : World} {K : PySem.W.Frag} {mg : Str → Option Value} {base : Heap} {Am : Hp → Prop} {G : List Addr}
def spIsMark (K : PySem.W.Frag) : Sp := fun vs H Q _ => ∃ (d : D) (v : V) (n : Int), vs = [.int n, v] ∧ Im K H d v ∧ Q (.bl (isMark n d)) H
theorem scIsMark : FnScope ["names", "value"] ["names", "value"] (defScope sIsMark) := ⟨rfl, rfl, rfl, by decide +kernel, rfl, by decide +kernel, by decide +kernel⟩
theorem ok_isMark {f fT fN : Addr} {fd fdT fdN : FuncData} (F : Fun K "is_mark" "is_mark" sIsMark f fd)
    (GT : Def P w K mg base CX0 1 "is_tuple_of" fT fdT ["value", "least", "most"] (spIsTup K)) (GN : Def P w K mg base CX0 1 "is_number" fN fdN ["value", "least", "most"] (spIsNum K)) :
    FnOk P w K mg base CX0 2 f fd ["names", "value"] (spIsMark K) := by
  refine F.ok scIsMark (fun vs H Q E h => ?_) (fun cdv A outer s H vs Q E hr h => ?_)
  · obtain ⟨d, v, n, rfl, _⟩ := h
    rfl
  · obtain ⟨d, v, n, rfl, hd, q⟩ := h
    refine ⟨_, pss_one (ps_ret (pe_and (pe_call GT.ok (hr.mono (by decide)) (by rfl) GT.g GT.kp GT.b .nil pass0 (pa_cons (pv 1) (pa_cons pe_int (pa_cons pe_int pa_nil))))
      (pe_one (pe_call GN.ok (hr.mono (by decide)) (by rfl) GN.g GN.kp GN.b .nil pass0 (pa_cons (pe_ix ix_tup (pv 1) pe_int (fun _ _ => rfl)) (pa_cons pe_int (pa_cons (pe_op op_sub (pv 0) pe_int) pa_nil))))))), ?_⟩
    refine c_ret (c_andV (c_callv (va_cons (v_var rfl) (va_cons v_c (va_cons v_c va_nil))) ⟨d, v, 2, 2, rfl, hd, _, rfl, ?_⟩))
    cases h1 : isTupOf d 2 2 with
    | false =>
      have e : isMark n d = false := by unfold isMark; rw [h1]; rfl
      rw [e] at q
      exact iteF q
    | true =>
      obtain ⟨d1, d2, rfl⟩ := tup2 h1
      obtain ⟨a, xs, rfl, hx, hl⟩ := im_tup' hd
      obtain ⟨v1, ys, rfl, im1, _⟩ := imL_tup1 hl
      have e : isMark n (.tup [d1, d2]) = isNum d1 0 (n - 1) := by unfold isMark; rw [h1]; rfl
      rw [e] at q
      exact iteT (c_callv (va_cons (v_ixT (v_var rfl) v_c hx (atI_nat (j := 0) rfl)) (va_cons v_c (va_cons (v_op0 (v_var rfl) v_c) va_nil))) ⟨d1, v1, 0, _, rfl, im1, q⟩)
end
/-! ### the pile of forests that wait -/
/-- pairs of a forest and its levels, the forests as they stood in H -/
structure Wt (K : PySem.W.Frag) (H H' : Hp) (ws : List (D × Nat)) (xs : List V) : Prop where
  len : xs.length = ws.length
  get : ∀ (i : Nat) (d : D) (k : Nat), ws[i]? = some (d, k) → ∃ p v, xs[i]? = some (V.ref p) ∧ SqT K H' p [v, .int (k : Nat)] ∧ Im K H d v
theorem Wt.mono {K : PySem.W.Frag} {H H1 H2 : Hp} {ws : List (D × Nat)} {xs : List V} (h : Wt K H H1 ws xs) (e : TSt K H1 H2) : Wt K H H2 ws xs := ⟨h.len, fun i d k z => by
  obtain ⟨p, v, a, b, c⟩ := h.get i d k z
  exact ⟨p, v, a, e _ _ b, c⟩⟩
theorem Wt.app {K : PySem.W.Frag} {H H1 : Hp} {ws us : List (D × Nat)} {xs ys : List V} (h : Wt K H H1 ws xs) (g : Wt K H H1 us ys) : Wt K H H1 (ws ++ us) (xs ++ ys) := ⟨by rw [List.length_append, List.length_append, h.len, g.len], fun i d k z => by
  by_cases c : i < ws.length
  · rw [List.getElem?_append_left c] at z
    rw [List.getElem?_append_left (by rw [h.len]; exact c)]
    exact h.get i d k z
  · rw [List.getElem?_append_right (by omega)] at z
    rw [List.getElem?_append_right (by rw [h.len]; omega), h.len]
    exact g.get _ d k z⟩
theorem Wt.nil {K : PySem.W.Frag} {H H1 : Hp} : Wt K H H1 [] [] := ⟨rfl, fun i d k z => by cases z⟩
theorem Wt.one {K : PySem.W.Frag} {H H1 : Hp} {d : D} {k : Nat} {p : Addr} {v : V} (h : SqT K H1 p [v, .int (k : Nat)]) (g : Im K H d v) : Wt K H H1 [(d, k)] [.ref p] := ⟨rfl, fun i e j z => by
  match i, z with
  | 0, z => cases z; exact ⟨p, v, rfl, h, g⟩
  | i + 1, z => cases z⟩
theorem Wt.pop {K : PySem.W.Frag} {H H1 : Hp} {ws : List (D × Nat)} {d : D} {k : Nat} {xs : List V} (h : Wt K H H1 (ws ++ [(d, k)]) xs) : ∃ p v, xs[xs.length - 1]? = some (V.ref p) ∧ SqT K H1 p [v, .int (k : Nat)] ∧ Im K H d v ∧ Wt K H H1 ws xs.dropLast := by
  have hl := h.len
  rw [List.length_append] at hl
  have hl : xs.length = ws.length + 1 := hl
  obtain ⟨p, v, a, b, c⟩ := h.get ws.length d k (by rw [List.getElem?_append_right (Nat.le_refl _), Nat.sub_self]; rfl)
  refine ⟨p, v, by rw [hl]; exact a, b, c, by rw [List.length_dropLast, hl]; rfl, fun i e j z => ?_⟩
  have hi : i < ws.length := (List.getElem?_eq_some_iff.mp z).1
  obtain ⟨p, v, a, b, c⟩ := h.get i e j (by rw [List.getElem?_append_left hi]; exact z)
  exact ⟨p, v, by rw [List.getElem?_dropLast, if_pos (by omega)]; exact a, b, c⟩
/-- [.. for x in t], t a tuple -/
theorem c_lcT {K : PySem.W.Frag} {a : Addr} {xs : List V} {j : Nat} {tl te : TE} {σ : L2.St} {H : Hp} {vs : List Nat} {Q : VK} (ha : ∀ Q : VK, Q (.ref a) H → tl σ H Q) (hx : SqT K H a xs) (hjs : ∀ x, wipe ((wipe σ vs).set j (some x)) vs = wipe σ vs) (Pv : Addr → Nat → Hp → Prop)
    (h0 : ∀ D, H D = none → Pv D 0 (upd H D (.lst []))) (hl : ∀ D i H', H D = none → Pv D i H' → SqT K H' a xs)
    (hs : ∀ D i x H', H D = none → xs[i]? = some x → Pv D i H' → te ((wipe σ vs).set j (some x)) H' fun y H4 => ∃ acc, H4 D = some (.lst acc) ∧ acc.length < sizeLine ∧ Pv D (i + 1) (upd H4 D (.lst (acc ++ [y])))) (hd : ∀ D H', H D = none → Pv D xs.length H' → Q (.ref D) H') :
    tLc (iTup K tl) (gName j) tYes te vs σ H Q := ha _ ⟨a, rfl, ⟨xs, hx⟩, fun D hD => ⟨fun i m H' => m = xs.length - i ∧ i ≤ xs.length ∧ Pv D i H', ⟨_, rfl, Nat.zero_le _, h0 D hD⟩, by
  rintro i m H' ⟨rfl, hi, p⟩
  have q := hl D i H' hD p
  by_cases hlt : i < xs.length
  · refine .inr ⟨⟨xs, xs[i], q, by simp [hlt]⟩, Pv D (i + 1), fun H' p' => ⟨xs.length - (i + 1), by omega, rfl, hlt, p'⟩, fun x H2 y => ?_⟩
    obtain ⟨e, y⟩ := y
    subst e
    exact ⟨hjs x, iteT (B := Pv D (i + 1) H2) (hs D i x _ hD (y xs q) p)⟩
  · have e : i = xs.length := by omega
    subst e
    exact .inl ⟨⟨xs, q, Nat.le_refl _⟩, hd D _ hD p⟩⟩⟩
end Mk

/-! ### MkFst2 -/
set_option Elab.async false
set_option linter.all false
set_option maxRecDepth 100000
set_option maxHeartbeats 4000000
namespace Mk
open PySem PySem.Spec PyProof.Rows L2
open GxR (TabG Tabbed)
theorem isTup_of {d : D} {lo hi : Int} (h : isTupOf d lo hi = true) : ∃ l, d = .tup l ∧ lo ≤ (l.length : Int) ∧ (l.length : Int) ≤ hi := by
  cases d with
  | tup l =>
    have z : (decide (lo ≤ (l.length : Int)) && decide ((l.length : Int) ≤ hi)) = true := h
    simp only [Bool.and_eq_true, decide_eq_true_eq] at z
    exact ⟨l, rfl, z.1, z.2⟩
  | _ => cases h
/-- what follows from one forest taken off -/
theorem step_no1 {n : Int} {ws : List (D × Nat)} {f : D} {k room : Nat} (h : isTupOf f 0 (if (k : Int) > 0 then (room : Int) else 0) = false) : (allWf n (ws ++ [(f, k)]) && decide (total (ws ++ [(f, k)]) ≤ room)) = false := by
  rw [allWf_app, total_app]
  have e1 : allWf n [(f, k)] = wf n k f := by show (wf n k f && true) = _; rw [Bool.and_true]
  have e2 : total [(f, k)] = cnt k f := by show cnt k f + 0 = _; rfl
  rw [e1, e2]
  cases k with
  | zero =>
    rw [if_neg (by decide)] at h
    have : wf n 0 f = false := h
    rw [this, Bool.and_false, Bool.false_and]
  | succ k =>
    rw [if_pos (by omega)] at h
    cases f with
    | tup l =>
      have hl : room < l.length := by
        have z : (decide ((0 : Int) ≤ (l.length : Int)) && decide ((l.length : Int) ≤ room)) = false := h
        rw [decide_eq_true (by omega), Bool.true_and, decide_eq_false_iff_not] at z
        omega
      have : l.length ≤ cnt (k + 1) (.tup l) := Nat.le_add_right _ _
      rw [show decide (total ws + cnt (k + 1) (D.tup l) ≤ room) = false from decide_eq_false (by omega), Bool.and_false]
    | _ => show ((allWf n ws && false) && _) = false; rw [Bool.and_false, Bool.false_and]
theorem step_no2 {n : Int} {ws : List (D × Nat)} {l : List D} {k room : Nat} (h1 : isTupOf (.tup l) 0 (if (k : Int) > 0 then (room : Int) else 0) = true) (h : l.all (fun m => isMark n m) = false) : (allWf n (ws ++ [(.tup l, k)]) && decide (total (ws ++ [(.tup l, k)]) ≤ room)) = false := by
  rw [allWf_app]
  have e1 : allWf n [(.tup l, k)] = wf n k (.tup l) := by show (wf n k (.tup l) && true) = _; rw [Bool.and_true]
  rw [e1]
  cases k with
  | zero =>
    rw [if_neg (by decide)] at h1
    obtain ⟨l', e, _, h2⟩ := isTup_of h1
    cases e
    cases l with
    | nil => cases h
    | cons a b => simp only [List.length_cons] at h2; omega
  | succ k =>
    have : wf n (k + 1) (.tup l) = false := by
      show (true && l.all fun m => isMark n m && wf n k (at_ m 1)) = false
      rw [Bool.true_and, List.all_eq_false]
      rw [List.all_eq_false] at h
      obtain ⟨x, hx, hm⟩ := h
      refine ⟨x, hx, fun z => hm ?_⟩
      rw [Bool.and_eq_true] at z
      exact z.1
    rw [this, Bool.and_false, Bool.false_and]
theorem all_and {α : Type} {f g : α → Bool} : ∀ {l : List α}, l.all f = true → (l.all fun m => f m && g m) = l.all g
  | [], _ => rfl
  | a :: l, h => by
    rw [List.all_cons, Bool.and_eq_true] at h
    rw [List.all_cons, List.all_cons, h.1, Bool.true_and, all_and h.2]
theorem step_yes {n : Int} {ws : List (D × Nat)} {l : List D} {k room : Nat} (h1 : isTupOf (.tup l) 0 (if (k : Int) > 0 then (room : Int) else 0) = true) (h : l.all (fun m => isMark n m) = true) :
    l.length ≤ room ∧ (0 < l.length → 0 < k) ∧ (allWf n (ws ++ l.map fun m => (at_ m 1, k - 1)) && decide (total (ws ++ l.map fun m => (at_ m 1, k - 1)) ≤ room - l.length)) = (allWf n (ws ++ [(.tup l, k)]) && decide (total (ws ++ [(.tup l, k)]) ≤ room)) := by
  have e1 : allWf n [(.tup l, k)] = wf n k (.tup l) := by show (wf n k (.tup l) && true) = _; rw [Bool.and_true]
  have e2 : total [(.tup l, k)] = cnt k (.tup l) := rfl
  rw [allWf_app, total_app, allWf_app, total_app, e1, e2]
  cases k with
  | zero =>
    rw [if_neg (by decide)] at h1
    obtain ⟨l', e, _, h2⟩ := isTup_of h1
    cases e
    cases l with
    | nil => exact ⟨Nat.zero_le _, fun z => absurd z (by decide), rfl⟩
    | cons a b => simp only [List.length_cons] at h2; omega
  | succ k =>
    rw [if_pos (by omega)] at h1
    obtain ⟨l', e, _, h2⟩ := isTup_of h1
    cases e
    have e3 : wf n (k + 1) (.tup l) = allWf n (l.map fun m => (at_ m 1, k)) := by
      show (true && l.all fun m => isMark n m && wf n k (at_ m 1)) = _
      rw [Bool.true_and, all_and h]
      unfold allWf
      rw [List.all_map]
      rfl
    have e4 : cnt (k + 1) (.tup l) = l.length + total (l.map fun m => (at_ m 1, k)) := by
      unfold total
      rw [List.map_map]
      rfl
    refine ⟨by omega, fun _ => by omega, ?_⟩
    rw [e3, e4]
    show (_ && decide (total ws + total (l.map fun m => (at_ m 1, k)) ≤ room - l.length)) = _
    congr 1
    exact decide_eq_decide.mpr (by omega)
theorem sz {n : Nat} (h : n ≤ 100000) : n ≤ sizeLine := by rw [sizeLine_eq]; omega
theorem v_ifgt {σ : L2.St} {H : Hp} {i j : Nat} {k r : Int} (e : σ[i]? = some (some (.int k))) (g : σ[j]? = some (some (.int r))) : ∀ Q : VK, Q (.int (if k > 0 then r else 0)) H → tIf (tB (tOp (rI0 fun i j => .bl (decide (j < i))) (tVar i) (tC (.int 0)))) (tVar j) (tC (.int 0)) σ H Q := fun Q q => by
  refine c_ifE (c_Bv (v_opb (v_var e) v_c) ?_)
  by_cases h : k > 0
  · rw [if_pos h] at q
    rw [decide_eq_true h]
    exact iteT (c_var g q)
  · rw [if_neg h] at q
    rw [decide_eq_false h]
    exact iteF (c_c q)
section
variable {P : Program} {w : World} {K : PySem.W.Frag} {mg : Str → Option Value} {base : Heap} {Am : Hp → Prop} {G : List Addr}
def spIsForest (K : PySem.W.Frag) (Am : Hp → Prop) : Sp := fun vs H Q _ => ∃ (d : D) (v : V) (n : Int), vs = [.int n, v] ∧ Im K H d v ∧ Am H ∧ Rt Am H Q (.bl (isFor n d))
theorem scIsForest : FnScope ["names", "value", "waiting", "room", "forest", "levels", "mark"] ["names", "value"] (defScope sIsForest) := ⟨rfl, rfl, rfl, by decide +kernel, rfl, by decide +kernel, by decide +kernel⟩
theorem ok_isForest {f c T fT fM : Addr} {fd fdT fdM : FuncData} (A : AmOk Am G) (hT : T ∈ G) (F : Fun K "is_forest" "is_forest" sIsForest f fd) (B : Glb mg) (C2 : Cn2 mg) (O : Own mg base fd c T)
    (GT : Def P w K mg base CX0 1 "is_tuple_of" fT fdT ["value", "least", "most"] (spIsTup K)) (GM : Def P w K mg base CX0 2 "is_mark" fM fdM ["names", "value"] (spIsMark K)) :
    FnOk P w K mg base CX0 4 f fd ["names", "value"] (spIsForest K Am) := by
  obtain ⟨t1, m1⟩ := C2.mw
  obtain ⟨t2, m2⟩ := C2.mm
  refine Fun.okC F scIsForest (fun vs H Q E h => ?_) (fun Ar outer s H vs Q E hr h => ?_)
  · obtain ⟨d, v, n, rfl, _⟩ := h
    rfl
  · obtain ⟨d, v, n, rfl, hd, hA, q⟩ := h
    refine ⟨_, pss_cons (ps_set (i := 2) scIsForest.nd rfl (Or.inl rfl) (pe_lst (pa_cons (pe_tup (pa_cons (pv 1) (pa_cons (pe_glob (v := .int 40) (by rfl) m1 ⟨_, rfl⟩) pa_nil))) pa_nil)))
      (pss_cons (ps_set (i := 3) scIsForest.nd rfl (Or.inl rfl) (pe_glob (v := .int 1000) (by rfl) m2 ⟨_, rfl⟩))
      (pss_cons (ps_while PassesOwn.never (pt_cmpR op_gt (pe_callB call_len_seq (by rfl) B.len boot_len (pa_cons (pv 2) pa_nil)) pe_int (nomark _))
        (pss_cons (ps_asg (pe_bm0 PySem.F.plainAttrs_list PySem.F.slot_list_pop PySem.F.type_list_pop mt_pop (pv 2)) (pg_tup rfl (pgs_cons (pg_name (i := 4) scIsForest.nd rfl (Or.inl rfl)) (pgs_cons (pg_name (i := 5) scIsForest.nd rfl (Or.inr rfl)) pgs_nil))))
        (pss_cons (ps_if (pt_not (pt_val (pe_call GT.ok (hr.mono (by decide)) (by rfl) GT.g GT.kp GT.b .nil pass0 (pa_cons (pv 4) (pa_cons pe_int (pa_cons (pe_ifExp (pt_cmpR op_gt (pv 5) pe_int (nomark _)) (pv 3) pe_int) pa_nil)))))) (pss_one (ps_ret pe_bl)) pss_nil)
        (pss_cons (ps_aug (i := 3) scIsForest.nd rfl (Or.inl rfl) (pe_callB call_len_seq (by rfl) B.len boot_len (pa_cons (pv 4) pa_nil)) ip_sub)
        (pss_cons (ps_if (pt_not (pt_val (pe_all (own := [("mark", 6)]) (g := gName 6) hr (by rfl) B.all O.tb O.code (gOk_by (N := ["names", "value", "waiting", "room", "forest", "levels", "mark"]) (sc := defScope sIsForest) (by decide +kernel)) scIsForest.nd (pi_tup (pv 4)) (fun _ _ _ _ _ _ _ => pg_name (i := 6) scIsForest.nd rfl (Or.inl rfl))
            (fun _ _ _ _ _ _ _ => pe_call GM.ok (Room.gen hr) (by rfl) GM.g GM.kp GM.b .nil pass0 (pa_cons (pv 0) (pa_cons (pv 6) pa_nil)))))) (pss_one (ps_ret pe_bl)) pss_nil)
        (pss_one (ps_expr (pe_bm PySem.F.plainAttrs_list PySem.F.slot_list_extend PySem.F.type_list_extend mt_extend (pv 2) (pa_cons (pe_lc (own := [("mark", 6)]) rfl scIsForest.nd (pi_tup (pv 4)) (blkOk_by (N := ["names", "value", "waiting", "room", "forest", "levels", "mark"]) (sc := defScope sIsForest) (by decide +kernel)) (fun _ _ _ _ _ => pg_name (i := 6) scIsForest.nd rfl (Or.inl rfl)) (fun _ _ _ _ _ => pts_nil)
            (fun _ _ _ _ _ => pe_tup (pa_cons (pe_ix (r := rIxT K) ix_tup (pv 6) pe_int (fun _ _ => rfl)) (pa_cons (pe_op op_sub (pv 5) pe_int) pa_nil)))) pa_nil)))))))))
      (pss_one (ps_ret pe_bl)))), ?_⟩
    refine c_seq (c_set (c_cons (c_tup (va_cons (v_var rfl) (va_cons v_c va_nil)) (sz (by show 2 ≤ _; decide)) fun p hp => ⟨sz (by show 1 ≤ _; decide), fun l hl => ?_⟩)))
    dsimp only
    refine c_seq (c_set (c_c ?_))
    dsimp only
    have nlp : l ≠ p := fun z => by rw [z, upd_same] at hl; cases hl
    have hl0 : H l = none := by rw [upd_ne nlp] at hl; exact hl
    have e1 : ExtN H (upd (upd H p (.tup [v, .int 40])) l (.lst [.ref p])) := LamX.ExtN.trans (ExtN.new hp) (ExtN.new hl)
    refine c_seq ⟨fun m σ H' => ∃ (ws : List (D × Nat)) (room : Nat) (ri : Int) (xs : List V) (o4 o5 o6 : Option V), σ = [some (.int n), some v, some (.ref l), some (.int ri), o4, o5, o6] ∧ ri = (room : Int) ∧ m = ws.length + 2 * room ∧ ExtN H H' ∧ Am H' ∧ H' l = some (.lst xs) ∧ Wt K H H' ws xs ∧ ws.length + room ≤ 1001 ∧
        (allWf n ws && decide (total ws ≤ room)) = isFor n d, ⟨_, [(d, 40)], 1000, 1000, _, _, _, _, rfl, rfl, rfl, e1, A.new (A.new hA hp) hl, upd_same, Wt.one (.inl (.inl (by rw [upd_ne nlp.symm, upd_same]; rfl))) hd, by show 1 + 1000 ≤ 1001; decide, ?_⟩, ?_⟩
    · show ((wf n 40 d && true) && decide (cnt 40 d + 0 ≤ 1000)) = _
      rw [Bool.and_true]
      rfl
    · rintro m σ H' ⟨ws, room, ri, xs, o4, o5, o6, rfl, rfl, rfl, e, hA', hl', wt, bd, r⟩
      refine c_Bv (v_opb (v_len (v_var rfl) (.inl (SqL.of hl'))) v_c) ?_
      have wl := wt.len
      rcases List.eq_nil_or_concat ws with rfl | ⟨ws', ⟨f, k⟩, rfl⟩
      · have wl : xs.length = 0 := wl
        rw [decide_eq_false (by omega)]
        have r' : isFor n d = true := by rw [← r]; show (true && decide (0 ≤ room)) = true; rw [decide_eq_true (Nat.zero_le _)]; rfl
        rw [r'] at q
        refine iteF ?_
        dsimp only
        exact c_ret (c_c (q _ e hA'))
      · rw [List.concat_eq_append] at wt wl bd r ⊢
        rw [List.length_append] at wl bd
        have wl : xs.length = ws'.length + 1 := wl
        have bd : ws'.length + 1 + room ≤ 1001 := bd
        rw [decide_eq_true (by omega)]
        obtain ⟨pp, vf, hy, hpp, imf, wt'⟩ := wt.pop
        refine iteT ⟨_, fun σ' H' h => h, ?_⟩
        refine c_seq (c_asg (c_pop (v_var rfl) hl' hy ⟨pp, [vf, .int k], rfl, TSt.upd_lst hl' _ _ hpp, rfl, _, _, rfl, _, _, rfl, rfl, ?_⟩))
        dsimp only
        have ec : ExtN H (upd H' l (.lst xs.dropLast)) := ExtN.mut e hl0
        have ac : Am (upd H' l (.lst xs.dropLast)) := A.lst hA' hl'
        have lc : (upd H' l (.lst xs.dropLast)) l = some (.lst xs.dropLast) := upd_same
        have wtc : Wt K H (upd H' l (.lst xs.dropLast)) ws' xs.dropLast := wt'.mono (TSt.upd_lst hl')
        generalize (upd H' l (.lst xs.dropLast)) = Hc at ec ac lc wtc
        have imf' : Im K Hc f vf := imf.mono (ExtN.ee ec)
        refine c_seq (c_if (c_not (c_B (c_callv (va_cons (v_var rfl) (va_cons v_c (va_cons (v_ifgt rfl rfl) va_nil))) ⟨f, vf, 0, _, rfl, imf', _, rfl, ?_⟩))))
        cases h1 : isTupOf f 0 (if (k : Int) > 0 then (room : Int) else 0) with
        | false =>
          have z := step_no1 (n := n) (ws := ws') h1
          rw [z] at r
          rw [← r] at q
          exact iteT (c_ret (c_c (q _ ec ac)))
        | true =>
          obtain ⟨lf, rfl, _, _⟩ := isTup_of h1
          obtain ⟨af, xf, rfl, hxf, hlf⟩ := im_tup' imf
          have fl := hlf.length
          refine iteF (c_next ?_)
          dsimp only
          refine c_seq (c_aug rfl (c_v (v_len (v_var rfl) (.inr ((ExtN.ee ec).t _ _ hxf))) ⟨_, _, rfl, rfl, ?_⟩))
          dsimp only
          refine c_seq (c_if (c_not (c_B (c_allT (xs := xf) (v_var rfl) ((ExtN.ee ec).t _ _ hxf) (A.get hT ac) (fun x => rfl) (fun i H4 => Tabbed T Hc H4 ∧ (lf.take i).all (fun m => isMark n m) = true) (fun H2 t2 => ⟨t2, rfl⟩) (fun i H4 _ p => (ExtN.ee (LamX.ExtN.trans ec (Tabbed.ext (A.get hT ac) p.1))).t _ _ hxf) (fun i x H4 hi p => ?_) (fun H4 p => ?_)))))
          · obtain ⟨dx, hdx, him⟩ := hlf.get hi
            refine c_callv (va_cons (v_var rfl) (va_cons (v_var rfl) va_nil)) ⟨dx, x, n, rfl, him.mono (ExtN.ee (LamX.ExtN.trans ec (Tabbed.ext (A.get hT ac) p.1))), _, rfl, ?_⟩
            cases h2 : isMark n dx with
            | true => exact iteT ⟨p.1, by rw [all_take hdx, p.2, h2]; rfl⟩
            | false =>
              have z := step_no2 (n := n) (ws := ws') h1 (all_cut hdx h2)
              rw [z] at r
              rw [← r] at q
              exact iteF ⟨_, rfl, iteT (c_ret (c_c (q _ (LamX.ExtN.trans ec (Tabbed.ext (A.get hT ac) p.1)) (A.tab hT ac p.1))))⟩
          · have h3 : lf.all (fun m => isMark n m) = true := by
              have z := p.2
              rw [fl, List.take_length] at z
              exact z
            obtain ⟨s1, s2, s3⟩ := step_yes (n := n) (ws := ws') h1 h3
            have t5 := p.1
            have e5 : ExtN H H4 := LamX.ExtN.trans ec (Tabbed.ext (A.get hT ac) t5)
            have a5 : Am H4 := A.tab hT ac t5
            have l5 : H4 l = some (.lst xs.dropLast) := by
              obtain ⟨ps, hps, _⟩ := A.get hT ac
              rw [t5.2 l (ne_of lc hps (by intro z; cases z))]
              exact lc
            have wt5 : Wt K H H4 ws' xs.dropLast := wtc.mono (ExtN.ee (Tabbed.ext (A.get hT ac) t5)).t
            refine ⟨_, rfl, iteF (c_next ?_)⟩
            dsimp only
            refine c_drop ⟨_, rfl, .inl ⟨rfl, _, SqL.of l5⟩, ?_⟩
            refine c_lcT (xs := xf) (v_var rfl) ((ExtN.ee e5).t _ _ hxf) (fun x => rfl) (fun D i H6 => ExtN H4 H6 ∧ Am H6 ∧ H6 l = some (.lst xs.dropLast) ∧ ∃ acc, H6 D = some (.lst acc) ∧ acc.length = i ∧ Wt K H H6 ((lf.take i).map fun m => (at_ m 1, k - 1)) acc)
              (fun D hD => ⟨ExtN.new hD, A.new a5 hD, by rw [upd_ne (ne_of_none l5 hD)]; exact l5, [], upd_same, rfl, Wt.nil⟩) (fun D i H6 hD p => (ExtN.ee (LamX.ExtN.trans e5 p.1)).t _ _ hxf) (fun D i x H6 hD hi ⟨e6, a6, l6, acc, hacc, la, wa⟩ => ?_) (fun D H6 hD ⟨e6, a6, l6, acc, hacc, la, wa⟩ => ?_)
            · obtain ⟨dx, hdx, him⟩ := hlf.get hi
              have hm : isMark n dx = true := List.all_eq_true.mp h3 dx (List.mem_of_getElem? hdx)
              unfold isMark at hm
              rw [Bool.and_eq_true] at hm
              obtain ⟨d1, d2, rfl⟩ := tup2 hm.1
              obtain ⟨am, ym, rfl, hxm, hlm⟩ := im_tup' him
              obtain ⟨v1, ym, rfl, im1, hl2⟩ := imL_tup1 hlm
              obtain ⟨v2, ym, rfl, im2, hl3⟩ := imL_tup1 hl2
              have il : i < lf.length := (List.getElem?_eq_some_iff.mp hdx).1
              have k0 := s2 (by omega)
              refine c_tup (va_cons (v_ixT (v_var rfl) v_c ((ExtN.ee (LamX.ExtN.trans e5 e6)).t _ _ hxm) (atI_nat (j := 1) rfl)) (va_cons (v_op0 (v_var rfl) v_c) va_nil)) (sz (by show 2 ≤ _; decide)) fun pn hpn => ?_
              have hacc7 : (upd H6 pn (.tup [v2, .int ((k : Int) - 1)])) D = some (.lst acc) := by rw [upd_ne (ne_of_none hacc hpn)]; exact hacc
              refine ⟨acc, hacc7, by rw [la, sizeLine_eq]; omega, ExtN.mut (LamX.ExtN.trans e6 (ExtN.new hpn)) hD, A.lst (A.new a6 hpn) hacc7, ?_, acc ++ [.ref pn], upd_same, by rw [List.length_append, la]; rfl, ?_⟩
              · rw [upd_ne (ne_of_none l5 hD), upd_ne (ne_of_none l6 hpn)]
                exact l6
              · rw [List.take_add_one, hdx, List.map_append]
                refine ((wa.mono (TSt.upd_new hpn)).mono (TSt.upd_lst hacc7)).app (Wt.one (.inl (.inl ?_)) im2)
                rw [upd_ne (ne_of_none hacc hpn).symm, upd_same, show (k : Int) - 1 = ((k - 1 : Nat) : Int) by omega]
            · rw [fl, List.take_length] at wa
              rw [fl] at la
              have bd2 : xs.dropLast.length + acc.length ≤ sizeLine := by rw [List.length_dropLast, wl, la]; exact sz (by omega)
              refine ⟨l, D, xs.dropLast, acc, rfl, rfl, l6, hacc, bd2, _, ?_, ws' ++ lf.map fun m => (at_ m 1, k - 1), room - lf.length, _, xs.dropLast ++ acc, _, _, _, rfl, ?_, rfl, ExtN.mut (LamX.ExtN.trans e5 e6) hl0, A.lst a6 l6, upd_same, ((wt5.mono (ExtN.ee e6).t).app wa).mono (TSt.upd_lst l6), ?_, ?_⟩
              · rw [List.length_append, List.length_append, List.length_map]
                show _ < ws'.length + 1 + 2 * room
                omega
              · show (room : Int) - (xf.length : Int) = _
                rw [fl]
                omega
              · rw [List.length_append, List.length_map]
                omega
              · rw [s3]
                exact r
end
end Mk

/-! ### MkFo -/
set_option Elab.async false
set_option linter.all false
set_option maxRecDepth 100000
set_option maxHeartbeats 4000000
namespace Mk
open PySem PySem.Spec PyProof.Rows L2
open GxR (TabG Tabbed)
/-! ### typed forests -/
inductive Fo where | nil | cons (t : Int) (w r : Fo)
namespace Fo
def L : Fo → List D | .nil => [] | .cons t w r => .tup [.int t, .tup (L w)] :: L r
def d (f : Fo) : D := .tup f.L
def row : Fo → List Int | .nil => [] | .cons t w r => t :: (row w ++ -1 :: row r)
def depth : Fo → Nat | .nil => 0 | .cons _ w r => max (depth w + 1) (depth r)
def size : Fo → Nat | .nil => 0 | .cons _ w r => 1 + size w + size r
def len : Fo → Nat | .nil => 0 | .cons _ _ r => len r + 1
def snoc : Fo → Int → Fo → Fo | .nil, t, w => .cons t w .nil | .cons a b r, t, w => .cons a b (snoc r t w)
def names (n : Int) : Fo → Prop | .nil => True | .cons t w r => 0 ≤ t ∧ t ≤ n - 1 ∧ names n w ∧ names n r
theorem L_len : ∀ f : Fo, f.L.length = f.len
  | .nil => rfl
  | .cons _ _ r => by show r.L.length + 1 = r.len + 1; rw [L_len r]
theorem L_snoc : ∀ (f : Fo) (t : Int) (w : Fo), (f.snoc t w).L = f.L ++ [.tup [.int t, .tup w.L]]
  | .nil, t, w => rfl
  | .cons a b r, t, w => by show _ :: (r.snoc t w).L = _; rw [L_snoc r]; rfl
theorem row_snoc : ∀ (f : Fo) (t : Int) (w : Fo), (f.snoc t w).row = f.row ++ t :: (w.row ++ [-1])
  | .nil, t, w => rfl
  | .cons a b r, t, w => by
    show a :: (b.row ++ -1 :: (r.snoc t w).row) = a :: (b.row ++ -1 :: r.row) ++ _
    rw [row_snoc r]
    simp
theorem depth_snoc : ∀ (f : Fo) (t : Int) (w : Fo), (f.snoc t w).depth = max f.depth (w.depth + 1)
  | .nil, t, w => by show max (w.depth + 1) 0 = max 0 (w.depth + 1); omega
  | .cons a b r, t, w => by show max _ (r.snoc t w).depth = max (max _ _) _; rw [depth_snoc r]; omega
theorem size_snoc : ∀ (f : Fo) (t : Int) (w : Fo), (f.snoc t w).size = f.size + 1 + w.size
  | .nil, t, w => by show 1 + w.size + 0 = 0 + 1 + w.size; omega
  | .cons a b r, t, w => by show 1 + b.size + (r.snoc t w).size = 1 + b.size + r.size + 1 + w.size; rw [size_snoc r]; omega
theorem names_snoc {n : Int} : ∀ (f : Fo) (t : Int) (w : Fo), (f.snoc t w).names n ↔ f.names n ∧ 0 ≤ t ∧ t ≤ n - 1 ∧ w.names n
  | .nil, t, w => by show (_ ∧ _ ∧ _ ∧ True) ↔ (True ∧ _); simp
  | .cons a b r, t, w => by
    show (_ ∧ _ ∧ _ ∧ (r.snoc t w).names n) ↔ ((_ ∧ _ ∧ _ ∧ r.names n) ∧ _)
    rw [names_snoc r]
    constructor
    · rintro ⟨h1, h2, h3, h4, h5⟩; exact ⟨⟨h1, h2, h3, h4⟩, h5⟩
    · rintro ⟨⟨h1, h2, h3, h4⟩, h5⟩; exact ⟨h1, h2, h3, h4, h5⟩
theorem row_len : ∀ f : Fo, f.row.length = 2 * f.size
  | .nil => rfl
  | .cons t w r => by
    show (t :: (w.row ++ -1 :: r.row)).length = 2 * (1 + w.size + r.size)
    simp only [List.length_cons, List.length_append]
    rw [row_len w, row_len r]
    omega
/-- the marks behind i -/
def drop : Nat → Fo → Fo | 0, f => f | _ + 1, .nil => .nil | i + 1, .cons _ _ r => drop i r
theorem L_drop : ∀ (i : Nat) (f : Fo), (f.drop i).L = f.L.drop i
  | 0, f => rfl
  | i + 1, .nil => rfl
  | i + 1, .cons _ _ r => L_drop i r
theorem drop_at : ∀ {i : Nat} {f : Fo} {x : D}, f.L[i]? = some x → ∃ t w, x = .tup [.int t, .tup w.L] ∧ f.drop i = .cons t w (f.drop (i + 1))
  | 0, .nil, x, h => by cases h
  | 0, .cons t w r, x, h => by cases h; exact ⟨t, w, rfl, by cases r <;> rfl⟩
  | i + 1, .nil, x, h => by cases h
  | i + 1, .cons _ _ r, x, h => drop_at (i := i) (f := r) h
theorem drop_len : ∀ f : Fo, f.drop f.len = .nil
  | .nil => rfl
  | .cons _ _ r => drop_len r
theorem drop_depth : ∀ (i : Nat) (f : Fo), (f.drop i).depth ≤ f.depth
  | 0, f => Nat.le_refl _
  | i + 1, .nil => Nat.le_refl _
  | i + 1, .cons _ w r => Nat.le_trans (drop_depth i r) (Nat.le_max_right _ _)
theorem drop_names {n : Int} : ∀ (i : Nat) {f : Fo}, f.names n → (f.drop i).names n
  | 0, f, h => h
  | i + 1, .nil, h => h
  | i + 1, .cons _ w r, h => drop_names i h.2.2.2
theorem cnt_eq : ∀ (f : Fo) (k : Nat), f.depth ≤ k → cnt k f.d = f.size
  | .nil, k, _ => by cases k <;> rfl
  | .cons t w r, 0, h => by
    have : w.depth + 1 ≤ 0 := Nat.le_trans (Nat.le_max_left _ _) h
    omega
  | .cons t w r, k + 1, h => by
    have h1 : w.depth + 1 ≤ k + 1 := Nat.le_trans (Nat.le_max_left _ _) h
    have h2 : r.depth ≤ k + 1 := Nat.le_trans (Nat.le_max_right _ _) h
    have i1 : cnt k (.tup w.L) = w.size := cnt_eq w k (by omega)
    have i2 : r.L.length + (r.L.map fun m => cnt k (at_ m 1)).sum = r.size := cnt_eq r (k + 1) h2
    show (r.L.length + 1) + (cnt k (.tup w.L) + (r.L.map fun m => cnt k (at_ m 1)).sum) = 1 + w.size + r.size
    rw [i1]
    omega
theorem wf_eq {n : Int} : ∀ (f : Fo) (k : Nat), f.names n → wf n k f.d = decide (f.depth ≤ k)
  | .nil, 0, _ => rfl
  | .nil, k + 1, _ => by rw [show decide ((Fo.nil).depth ≤ k + 1) = true from decide_eq_true (Nat.zero_le _)]; rfl
  | .cons t w r, 0, _ => by
    rw [show decide ((Fo.cons t w r).depth ≤ 0) = false from decide_eq_false fun z => by have : w.depth + 1 ≤ 0 := Nat.le_trans (Nat.le_max_left _ _) z; omega]
    rfl
  | .cons t w r, k + 1, h => by
    obtain ⟨h1, h2, h3, h4⟩ := h
    have i1 : wf n k (.tup w.L) = decide (w.depth ≤ k) := wf_eq w k h3
    have i2 : (true && r.L.all fun m => isMark n m && wf n k (at_ m 1)) = decide (r.depth ≤ k + 1) := wf_eq r (k + 1) h4
    rw [Bool.true_and] at i2
    have e : isMark n (.tup [.int t, .tup w.L]) = true := by
      unfold isMark
      rw [show isTupOf (.tup [.int t, .tup w.L]) 2 2 = true by rfl, Bool.true_and]
      exact isNum_of ⟨h1, h2⟩
    show (true && ((isMark n (.tup [.int t, .tup w.L]) && wf n k (.tup w.L)) && r.L.all fun m => isMark n m && wf n k (at_ m 1))) = decide (max (w.depth + 1) r.depth ≤ k + 1)
    rw [e, i1, i2, Bool.true_and, Bool.true_and, Bool.eq_iff_iff]
    simp only [Bool.and_eq_true, decide_eq_true_eq]
    omega
theorem isFor_eq {n : Int} {f : Fo} (h : f.names n) (hs : f.size ≤ 1000) : isFor n f.d = decide (f.depth ≤ 40) := by
  unfold isFor
  rw [wf_eq f 40 h]
  by_cases c : f.depth ≤ 40
  · rw [cnt_eq f 40 c, decide_eq_true c, decide_eq_true hs]
    rfl
  · rw [decide_eq_false c]
    rfl
end Fo
end Mk

/-! ### MkTags -/
set_option Elab.async false
set_option linter.all false
set_option maxRecDepth 100000
set_option maxHeartbeats 4000000
namespace Mk
open PySem PySem.Spec PyProof.Rows L2
open GxR (TabG Tabbed)
abbrev sTagsOf : Stmt := top 36
abbrev sRowOf : Stmt := top 37
abbrev sForestOf : Stmt := top 38
abbrev sToldBelow : Stmt := top 39
abbrev sToldForest : Stmt := top 40
/-- an own error without data -/
structure ErN (K : PySem.W.Frag) (mg : Str → Option Value) (x : Str) (C : Addr) : Prop where
  ex : PySem.W.excIn K C [Value.type "ValueError", Value.type "Exception", Value.type "BaseException", Value.type "object"] "ValueError.__new__" = true
  kp : PySem.W.keepIn K (.ref C) = true
  g : mg x = some (.ref C)
  sub : PySem.W.subIn K (.ref C) (.type "BaseException") = some true
  ty : PySem.W.typeIn K (.ref C) = some (.type "type")
abbrev En (Am : Hp → Prop) (H : Hp) (E : XK) (C : Addr) : Prop := ∀ H', ExtN H H' → Am H' → E (.ref C) none H'
theorem En.ext {Am : Hp → Prop} {H H1 : Hp} {E : XK} {C : Addr} (e : ExtN H H1) (r : En Am H E C) : En Am H1 E C := fun H' e' a => r H' (LamX.ExtN.trans e e') a
theorem Fo.drop_size : ∀ (i : Nat) (f : Fo), (f.drop i).size ≤ f.size
  | 0, f => Nat.le_refl _
  | i + 1, .nil => Nat.le_refl _
  | i + 1, .cons _ w r => Nat.le_trans (drop_size i r) (Nat.le_add_left _ _)
section
variable {P : Program} {w : World} {K : PySem.W.Frag} {mg : Str → Option Value} {base : Heap} {Am : Hp → Prop} {G : List Addr}
def spCheckForest (K : PySem.W.Frag) (Am : Hp → Prop) (CF : Addr) : Sp := fun vs H Q E => ∃ (d : D) (v : V) (n : Int), vs = [.int n, v] ∧ Im K H d v ∧ Am H ∧ (isFor n d = true → Rt Am H Q .non) ∧ (isFor n d = false → En Am H E CF)
theorem scCheckForest : FnScope ["names", "value"] ["names", "value"] (defScope sCheckForest) := ⟨rfl, rfl, rfl, by decide +kernel, rfl, by decide +kernel, by decide +kernel⟩
theorem ok_checkForest {f fS CF : Addr} {fd fdS : FuncData} (F : Fun K "check_forest" "check_forest" sCheckForest f fd) (R : ErN K mg "BadForest" CF)
    (GS : Def P w K mg base CX0 4 "is_forest" fS fdS ["names", "value"] (spIsForest K Am)) : FnOk P w K mg base (L2.CX P w) 5 f fd ["names", "value"] (spCheckForest K Am CF) := by
  refine Fun.okXC F scCheckForest (fun vs H Q E h => ?_) (fun Ar outer s H vs Q E hr h => ?_)
  · obtain ⟨d, v, n, rfl, _⟩ := h
    rfl
  · obtain ⟨d, v, n, rfl, hd, hA, qt, qf⟩ := h
    refine ⟨_, pss_one (ps_if (pt_not (pt_val (pe_call GS.ok (hr.mono (by decide)) (by rfl) GS.g GS.kp GS.b .nil pass0 (pa_cons (pv 0) (pa_cons (pv 1) pa_nil))))) (pss_one (ps_raise rfl (takes_of rfl rfl rfl rfl) (pmk_own PySem.F.excBase_ValueError R.ex R.g R.kp (raises_own R.sub R.ty) (by rfl)))) pss_nil), ?_⟩
    refine c_if (c_not (c_B (c_callv (va_cons (v_var rfl) (va_cons (v_var rfl) va_nil)) ⟨d, v, n, rfl, hd, hA, fun H1 e1 a1 => ⟨_, rfl, ?_⟩⟩)))
    cases h1 : isFor n d with
    | false => exact iteT (qf h1 _ e1 a1)
    | true => exact iteF (c_next (qt h1 _ e1 a1))
def spTags (K : PySem.W.Frag) (Am : Hp → Prop) (m : Nat) : Sp := fun vs H Q _ => ∃ (fo : Fo) (v : V), vs = [v] ∧ Im K H fo.d v ∧ fo.depth < m ∧ fo.size ≤ 1000 ∧ Am H ∧ ∀ b H', ExtN H H' → Am H' → H' b = some (.lst (fo.row.map .int)) → Q (.ref b) H'
theorem scTagsOf : FnScope ["forest", "tags", "name", "within"] ["forest"] (defScope sTagsOf) := ⟨rfl, rfl, rfl, by decide +kernel, rfl, by decide +kernel, by decide +kernel⟩
theorem ok_tags {f : Addr} {fd : FuncData} (A : AmOk Am G) (F : Fun K "tags_of" "tags_of" sTagsOf f fd) (C2 : Cn2 mg) (b : Binds K fd ["forest"] []) (g : mg "tags_of" = some (.ref f)) : ∀ m, FnOk P w K mg base CX0 m f fd ["forest"] (spTags K Am m)
  | 0 => ⟨fun vs H Q E h => by obtain ⟨_, _, rfl, _⟩ := h; rfl, fun A outer s H args us vs Q E _ _ _ _ h => by obtain ⟨_, _, _, _, h, _⟩ := h; exact absurd h (Nat.not_lt_zero _)⟩
  | m + 1 => by
    have ih := ok_tags A F C2 b g m
    obtain ⟨t1, m1⟩ := C2.cl
    refine F.ok scTagsOf (fun vs H Q E h => ?_) (fun cdv Ar outer s H vs Q E hr h => ?_)
    · obtain ⟨_, _, rfl, _⟩ := h
      rfl
    · obtain ⟨fo, v, rfl, hd, dep, siz, hA, q⟩ := h
      refine ⟨_, pss_cons (ps_set (i := 1) scTagsOf.nd rfl (Or.inl rfl) (pe_lst pa_nil))
        (pss_cons (ps_for PassesOwn.never rfl (pi_tup (pv 0)) (pg_tup rfl (pgs_cons (pg_name (i := 2) scTagsOf.nd rfl (Or.inl rfl)) (pgs_cons (pg_name (i := 3) scTagsOf.nd rfl (Or.inl rfl)) pgs_nil)))
          (pss_cons (ps_expr (pe_bm PySem.F.plainAttrs_list PySem.F.slot_list_append PySem.F.type_list_append mt_append (pv 1) (pa_cons (pv 2) pa_nil)))
          (pss_cons (ps_expr (pe_bm PySem.F.plainAttrs_list PySem.F.slot_list_extend PySem.F.type_list_extend mt_extend (pv 1) (pa_cons (pe_call ih hr (by rfl) g F.kp b .nil pass0 (pa_cons (pv 3) pa_nil)) pa_nil)))
          (pss_one (ps_expr (pe_bm PySem.F.plainAttrs_list PySem.F.slot_list_append PySem.F.type_list_append mt_append (pv 1) (pa_cons (pe_glob (v := .int (-1)) (by rfl) m1 ⟨_, rfl⟩) pa_nil)))))))
        (pss_one (ps_ret (pv 1)))), ?_⟩
      obtain ⟨a, xs, rfl, hx, hl⟩ := im_tup' hd
      have xl : xs.length = fo.len := by rw [hl.length, Fo.L_len]
      refine c_seq (c_set (c_lst va_nil (Nat.zero_le _) fun l hl0 => ?_))
      dsimp only
      have rl := Fo.row_len fo
      refine c_seq (c_forT (v_var rfl) ((ExtN.ee (ExtN.new hl0)).t _ _ hx) (fun i σ H' => ∃ (acc : List Int) (o2 o3 : Option V), σ = [some (.ref a), some (.ref l), o2, o3] ∧ ExtN H H' ∧ Am H' ∧ H' l = some (.lst (acc.map .int)) ∧ acc ++ (fo.drop i).row = fo.row)
        ⟨[], _, _, rfl, ExtN.new hl0, A.new hA hl0, upd_same, rfl⟩ (fun i σ H' ⟨_, _, _, _, e, _⟩ => (ExtN.ee e).t _ _ hx) (fun σ H' ⟨acc, o2, o3, es, e, a', hl', r⟩ => ?_) (fun i x σ H' hi ⟨acc, o2, o3, es, e, a', hl', r⟩ => ?_))
      · subst es
        dsimp only
        rw [xl, Fo.drop_len, show (Fo.nil).row = [] from rfl, List.append_nil] at r
        refine c_ret (c_var rfl (q l H' e a' ?_))
        rw [hl', r]
      · subst es
        obtain ⟨dx, hdx, him⟩ := hl.get hi
        obtain ⟨t, wi, rfl, hdr⟩ := Fo.drop_at hdx
        obtain ⟨am, ym, rfl, hxm, hlm⟩ := im_tup' him
        obtain ⟨v1, ym, rfl, im1, hl2⟩ := imL_tup1 hlm
        obtain ⟨v2, ym, rfl, im2, hl3⟩ := imL_tup1 hl2
        obtain rfl : ym = [] := by unfold ImL at hl3; exact hl3
        obtain rfl := im_int' im1
        have d1 := Fo.drop_depth i fo
        have z1 := Fo.drop_size i fo
        rw [hdr] at r d1 z1
        have d2 : wi.depth + 1 ≤ fo.depth := Nat.le_trans (Nat.le_max_left _ _) d1
        have z2 : 1 + wi.size + (fo.drop (i + 1)).size ≤ fo.size := z1
        have r2 : acc ++ t :: (wi.row ++ -1 :: (fo.drop (i + 1)).row) = fo.row := r
        have al : acc.length + 2 * wi.size + 2 ≤ 2000 := by
          have := congrArg List.length r2
          simp only [List.length_append, List.length_cons, Fo.row_len] at this
          omega
        refine ⟨am, _, rfl, (ExtN.ee e).t _ _ hxm, rfl, _, _, rfl, _, _, rfl, rfl, ?_⟩
        dsimp only
        refine c_seq (c_drop (c_appendv (v_var rfl) hl' (v_var rfl) (by rw [List.length_map, sizeLine_eq]; omega) ?_))
        dsimp only
        have h1 : (upd H' l (.lst (acc.map V.int ++ [.int t]))) l = some (.lst ((acc ++ [t]).map .int)) := by rw [upd_same, List.map_append]; rfl
        have e1 : ExtN H (upd H' l (.lst (acc.map V.int ++ [.int t]))) := ExtN.mut e hl0
        have a1 : Am (upd H' l (.lst (acc.map V.int ++ [.int t]))) := A.lst a' hl'
        generalize (upd H' l (.lst (acc.map V.int ++ [.int t]))) = H1 at h1 e1 a1
        refine c_seq (c_drop ⟨_, rfl, .inl ⟨rfl, _, SqL.of h1⟩, ?_⟩)
        refine c_cons (c_callv (va_cons (v_var rfl) va_nil) ⟨wi, v2, rfl, im2.mono (ExtN.ee e1), by omega, by omega, a1, fun b H2 e2 a2 hb => ?_⟩)
        have h2 : H2 l = some (.lst ((acc ++ [t]).map .int)) := e2 _ _ h1 fun ps z => by cases z
        refine ⟨l, b, _, _, rfl, rfl, h2, hb, by rw [List.length_map, List.length_map, List.length_append, Fo.row_len]; exact sz (by show acc.length + 1 + _ ≤ _; omega), ?_⟩
        dsimp only
        have h3 : (upd H2 l (.lst ((acc ++ [t]).map V.int ++ wi.row.map .int))) l = some (.lst ((acc ++ t :: wi.row).map .int)) := by rw [upd_same]; simp
        have e3 : ExtN H (upd H2 l (.lst ((acc ++ [t]).map V.int ++ wi.row.map .int))) := ExtN.mut (LamX.ExtN.trans e1 e2) hl0
        have a3 : Am (upd H2 l (.lst ((acc ++ [t]).map V.int ++ wi.row.map .int))) := A.lst a2 h2
        generalize (upd H2 l (.lst ((acc ++ [t]).map V.int ++ wi.row.map .int))) = H3 at h3 e3 a3
        refine c_drop (c_appendv (v_var rfl) h3 v_c (by rw [List.length_map, List.length_append, List.length_cons, Fo.row_len, sizeLine_eq]; omega) ⟨acc ++ t :: (wi.row ++ [-1]), _, _, rfl, ExtN.mut e3 hl0, A.lst a3 h3, by rw [upd_same]; simp, ?_⟩)
        rw [← r2]
        simp
theorem scRowOf : FnScope ["forest"] ["forest"] (defScope sRowOf) := ⟨rfl, rfl, rfl, by decide +kernel, rfl, by decide +kernel, by decide +kernel⟩
def spRowOf (K : PySem.W.Frag) (Am : Hp → Prop) (CF : Addr) : Sp := fun vs H Q E => ∃ (d : D) (v : V), vs = [v] ∧ Im K H d v ∧ Am H ∧ ((isFor 3 d = false ∧ En Am H E CF) ∨ ∃ fo : Fo, d = fo.d ∧ isFor 3 d = true ∧ fo.depth ≤ 40 ∧ fo.size ≤ 1000 ∧ RtD K Am H Q (RD fo.row))
theorem ok_rowOf {f fC fT CF : Addr} {fd fdC fdT : FuncData} (A : AmOk Am G) (F : Fun K "row_of" "row_of" sRowOf f fd) (B : Glb mg) (C : Cns mg)
    (GC : Def P w K mg base (L2.CX P w) 5 "check_forest" fC fdC ["names", "value"] (spCheckForest K Am CF)) (GT : Def P w K mg base CX0 41 "tags_of" fT fdT ["forest"] (spTags K Am 41)) : FnOk P w K mg base (L2.CX P w) 42 f fd ["forest"] (spRowOf K Am CF) := by
  obtain ⟨t1, m1⟩ := C.mn
  refine Fun.okXC F scRowOf (fun vs H Q E h => ?_) (fun Ar outer s H vs Q E hr h => ?_)
  · obtain ⟨d, v, rfl, _⟩ := h
    rfl
  · obtain ⟨d, v, rfl, hd, hA, qq⟩ := h
    refine ⟨_, pss_cons (ps_expr (pe_call GC.ok (hr.mono (by decide)) (by rfl) GC.g GC.kp GC.b .nil (passes_call (takes_of rfl rfl rfl rfl) fun _ _ _ _ h => h) (pa_cons (pe_glob (v := .int 3) (by rfl) m1 ⟨_, rfl⟩) (pa_cons (pv 0) pa_nil))))
      (pss_one (ps_ret (pe_tupleOf (by rfl) B.tuple (pe_call GT.ok (hr.mono (by decide)) (by rfl) GT.g GT.kp GT.b .nil pass0 (pa_cons (pv 0) pa_nil))))), ?_⟩
    refine c_seq (c_drop (c_callv (va_cons v_c (va_cons (v_var rfl) va_nil)) ⟨d, v, 3, rfl, hd, hA, fun h1 H1 e1 a1 => ?_, fun h1 => ?_⟩))
    · rcases qq with ⟨h2, _⟩ | ⟨fo, rfl, _, d1, s1, q⟩
      · rw [h1] at h2; cases h2
      · dsimp only
        refine c_ret (c_callv (va_cons (v_var rfl) va_nil) ⟨fo, v, rfl, hd.mono (ExtN.ee e1), by omega, s1, a1, fun b H2 e2 a2 hb => ?_⟩)
        exact .inl ⟨b, _, rfl, SqL.of hb, fun c hc => q _ _ (LamX.ExtN.trans e1 (LamX.ExtN.trans e2 (ExtN.new hc))) (A.new a2 hc) (im_rd_of (.inl (.inl upd_same)))⟩
    · rcases qq with ⟨_, q⟩ | ⟨fo, _, h2, _⟩
      · exact q
      · rw [h1] at h2; cases h2
end
end Mk

/-! ### MkTold -/
set_option Elab.async false
set_option linter.all false
set_option maxRecDepth 100000
set_option maxHeartbeats 4000000
namespace Mk
open PySem PySem.Spec PyProof.Rows L2
open GxR (TabG Tabbed)
def toldL (rows : List (List Int)) (ans : List Int) : Int → Fo → List D
  | _, .nil => []
  | s, .cons t w r => .tup [.int t, .int (ans.getD (nxtI rows s t).toNat 0), .tup (toldL rows ans (nxtI rows s t) w)] :: toldL rows ans s r
theorem noL_told (rows : List (List Int)) (ans : List Int) : ∀ (s : Int) (f : Fo), NoLs (toldL rows ans s f)
  | _, .nil => True.intro
  | s, .cons t w r => ⟨⟨True.intro, True.intro, noL_told rows ans _ w, True.intro⟩, noL_told rows ans s r⟩
theorem noLs_append : ∀ {a b : List D}, NoLs a → NoLs b → NoLs (a ++ b)
  | [], b, _, h => h
  | x :: a, b, h, g => ⟨h.1, noLs_append h.2 g⟩
theorem told_len (rows : List (List Int)) (ans : List Int) : ∀ (s : Int) (f : Fo), (toldL rows ans s f).length = f.len
  | _, .nil => rfl
  | s, .cons t w r => by show (toldL rows ans s r).length + 1 = r.len + 1; rw [told_len rows ans s r]
theorem noLs_left : ∀ {a b : List D}, NoLs (a ++ b) → NoLs a
  | [], _, _ => True.intro
  | _ :: a, _, h => ⟨h.1, noLs_left h.2⟩
theorem Fo.len_size : ∀ f : Fo, f.len ≤ f.size
  | .nil => Nat.le_refl _
  | .cons _ w r => by show r.len + 1 ≤ 1 + w.size + r.size; have := len_size r; omega
section
variable {P : Program} {w : World} {K : PySem.W.Frag} {mg : Str → Option Value} {base : Heap} {Am : Hp → Prop} {G : List Addr}
def spTold (K : PySem.W.Frag) (Am : Hp → Prop) (m : Nat) : Sp := fun vs H Q _ => ∃ (rows : List (List Int)) (ans : List Int) (n : Nat) (s : Int) (fo : Fo) (vq v : V), vs = [vq, .int s, v] ∧ Im K H (QD rows ans) vq ∧ QOk rows ans n ∧ 0 ≤ s ∧ s < rows.length ∧ Im K H fo.d v ∧ fo.names n ∧ fo.depth < m ∧ fo.size ≤ 1000 ∧ Am H ∧ RtD K Am H Q (.tup (toldL rows ans s fo))
theorem scTold : FnScope ["question", "state", "forest", "steps", "answers", "told", "name", "within", "there"] ["question", "state", "forest"] (defScope sToldBelow) := ⟨rfl, rfl, rfl, by decide +kernel, rfl, by decide +kernel, by decide +kernel⟩
theorem ok_told {f : Addr} {fd : FuncData} (A : AmOk Am G) (F : Fun K "told_below" "told_below" sToldBelow f fd) (B : Glb mg) (b : Binds K fd ["question", "state", "forest"] []) (g : mg "told_below" = some (.ref f)) : ∀ m, FnOk P w K mg base CX0 m f fd ["question", "state", "forest"] (spTold K Am m)
  | 0 => ⟨fun vs H Q E h => by obtain ⟨_, _, _, _, _, _, _, rfl, _⟩ := h; rfl, fun A outer s H args us vs Q E _ _ _ _ h => by obtain ⟨_, _, _, _, _, _, _, _, _, _, _, _, _, _, h, _⟩ := h; exact absurd h (Nat.not_lt_zero _)⟩
  | m + 1 => by
    have ih := ok_told A F B b g m
    refine F.ok scTold (fun vs H Q E h => ?_) (fun cdv Ar outer s H vs Q E hr h => ?_)
    · obtain ⟨_, _, _, _, _, _, _, rfl, _⟩ := h
      rfl
    · obtain ⟨rows, ans, n, st, fo, vq, v, rfl, hq, qok, s0, s1, hd, fn, dep, siz, hA, q⟩ := h
      refine ⟨_, pss_cons (ps_asg (pv 0) (pg_tup rfl (pgs_cons (pg_name (i := 3) scTold.nd rfl (Or.inl rfl)) (pgs_cons (pg_name (i := 4) scTold.nd rfl (Or.inl rfl)) pgs_nil))))
        (pss_cons (ps_set (i := 5) scTold.nd rfl (Or.inl rfl) (pe_lst pa_nil))
        (pss_cons (ps_for PassesOwn.never rfl (pi_tup (pv 2)) (pg_tup rfl (pgs_cons (pg_name (i := 6) scTold.nd rfl (Or.inl rfl)) (pgs_cons (pg_name (i := 7) scTold.nd rfl (Or.inl rfl)) pgs_nil)))
          (pss_cons (ps_set (i := 8) scTold.nd rfl (Or.inl rfl) (pe_ix ix_tup (pe_ix ix_tup (pv 3) (pv 1) (fun _ _ => rfl)) (pv 6) (fun _ _ => rfl)))
          (pss_one (ps_expr (pe_bm PySem.F.plainAttrs_list PySem.F.slot_list_append PySem.F.type_list_append mt_append (pv 5) (pa_cons (pe_tup (pa_cons (pv 6) (pa_cons (pe_ix ix_tup (pv 4) (pv 8) (fun _ _ => rfl)) (pa_cons (pe_call ih hr (by rfl) g F.kp b .nil pass0 (pa_cons (pv 0) (pa_cons (pv 8) (pa_cons (pv 7) pa_nil)))) pa_nil)))) pa_nil))))))
        (pss_one (ps_ret (pe_tupleOf (by rfl) B.tuple (pv 5)))))), ?_⟩
      obtain ⟨aq, xq, rfl, hxq, hlq⟩ := im_tup' hq
      obtain ⟨vs, ys, rfl, ims, hl2⟩ := imL_tup1 hlq
      obtain ⟨va, zs, rfl, ima, hl3⟩ := imL_tup1 hl2
      obtain rfl : zs = [] := by unfold ImL at hl3; exact hl3
      obtain ⟨as, xs, rfl, hs, hls⟩ := im_tup' ims
      obtain ⟨aa, rfl, hxa⟩ := im_rd ima
      obtain ⟨a, xf, rfl, hx, hl⟩ := im_tup' hd
      have xl : xf.length = fo.len := by rw [hl.length, Fo.L_len]
      have ls := Fo.len_size fo
      refine c_seq (c_asg (c_var rfl ⟨aq, [.ref as, .ref aa], rfl, hxq, rfl, _, _, rfl, _, _, rfl, rfl, ?_⟩))
      dsimp only
      refine c_seq (c_set (c_lst va_nil (Nat.zero_le _) fun l hl0 => ?_))
      dsimp only
      refine c_seq (c_forT (v_var rfl) ((ExtN.ee (ExtN.new hl0)).t _ _ hx) (fun i σ H' => ∃ (acc : List D) (ac : List V) (o2 o3 o4 : Option V), σ = [some (.ref aq), some (.int st), some (.ref a), some (.ref as), some (.ref aa), some (.ref l), o2, o3, o4] ∧ ExtN H H' ∧ Am H' ∧ H' l = some (.lst ac) ∧ ImL K H' acc ac ∧ acc ++ toldL rows ans st (fo.drop i) = toldL rows ans st fo)
        ⟨[], [], _, _, _, rfl, ExtN.new hl0, A.new hA hl0, upd_same, imL_nil, rfl⟩ (fun i σ H' ⟨_, _, _, _, _, _, e, _⟩ => (ExtN.ee e).t _ _ hx) (fun σ H' ⟨acc, ac, o2, o3, o4, es, e, a', hl', im, r⟩ => ?_) (fun i x σ H' hi ⟨acc, ac, o2, o3, o4, es, e, a', hl', im, r⟩ => ?_))
      · subst es
        dsimp only
        rw [xl, Fo.drop_len, show toldL rows ans st Fo.nil = [] from rfl, List.append_nil] at r
        refine c_ret (c_tupL (v_var rfl) (SqL.of hl') fun c hc => q _ _ (LamX.ExtN.trans e (ExtN.new hc)) (A.new a' hc) (im_tup (.inl (.inl upd_same)) ?_))
        rw [← r]
        exact im.mono (ExtN.ee (ExtN.new hc))
      · subst es
        obtain ⟨dx, hdx, him⟩ := hl.get hi
        obtain ⟨t, wi, rfl, hdr⟩ := Fo.drop_at hdx
        obtain ⟨am, ym, rfl, hxm, hlm⟩ := im_tup' him
        obtain ⟨v1, ym, rfl, im1, hl2⟩ := imL_tup1 hlm
        obtain ⟨v2, ym, rfl, im2, hl3⟩ := imL_tup1 hl2
        obtain rfl : ym = [] := by unfold ImL at hl3; exact hl3
        obtain rfl := im_int' im1
        have d1 := Fo.drop_depth i fo
        have z1 := Fo.drop_size i fo
        have n1 := Fo.drop_names i fn
        have nl : NoLs (acc ++ toldL rows ans st (fo.drop i)) := by rw [r]; exact noL_told ..
        have al : acc.length < 2000 := by
          have := congrArg List.length r
          rw [List.length_append, told_len, told_len] at this
          omega
        rw [hdr] at r d1 z1 n1
        obtain ⟨t0, t1, nw, _⟩ := n1
        have d2 : wi.depth + 1 ≤ fo.depth := Nat.le_trans (Nat.le_max_left _ _) d1
        have z2 : 1 + wi.size + (fo.drop (i + 1)).size ≤ fo.size := z1
        have nr := nxt_rng qok s0 s1 t0 (show t < (n : Int) by omega)
        obtain ⟨br, hb, hbx⟩ := imL_row hls (i := st.toNat) (by omega)
        have rlen : (rows.getD st.toNat []).length = n := qok.len _ (by rw [List.getD_eq_getElem?_getD, List.getElem?_eq_getElem (by omega)]; exact List.getElem_mem _)
        have qal := qok.al
        refine ⟨am, _, rfl, (ExtN.ee e).t _ _ hxm, rfl, _, _, rfl, _, _, rfl, rfl, ?_⟩
        dsimp only
        refine c_seq (c_set (c_v (v_ixT (v_ixT (v_var rfl) (v_var rfl) ((ExtN.ee e).t _ _ hs) (by rw [show st = ((st.toNat : Nat) : Int) by omega]; exact atI_nat hb)) (v_var rfl) ((ExtN.ee e).t _ _ hbx) (atI_map t0 (by omega))) ?_))
        dsimp only
        refine c_drop (c_append (v_var rfl) hl' ?_)
        refine c_cons (c_var rfl (c_cons (c_v (v_ixT (v_var rfl) (v_var rfl) ((ExtN.ee e).t _ _ hxa) (atI_map (i := nxtI rows st t) nr.1 (by omega))) (c_cons (c_callv (va_cons (v_var rfl) (va_cons (v_var rfl) (va_cons (v_var rfl) va_nil))) ⟨rows, ans, n, nxtI rows st t, wi, _, v2, rfl, hq.mono (ExtN.ee e), qok, nr.1, nr.2, im2.mono (ExtN.ee e), nw, by omega, by omega, a', fun vr H2 e2 a2 imr => ?_⟩)))))
        have h2 : H2 l = some (.lst ac) := e2 _ _ hl' fun ps z => by cases z
        refine ⟨sz (by show 3 ≤ _; decide), fun p hp => ⟨l, ac, .ref p, rfl, rfl, by rw [upd_ne (ne_of_none h2 hp)]; exact h2, by rw [im.length, sizeLine_eq]; omega, ?_⟩⟩
        have h3 : (upd H2 p (.tup [.int t, .int (ans.getD (nxtI rows st t).toNat 0), vr])) l = some (.lst ac) := by rw [upd_ne (ne_of_none h2 hp)]; exact h2
        have ts : TSt K H2 (upd (upd H2 p (.tup [.int t, .int (ans.getD (nxtI rows st t).toNat 0), vr])) l (.lst (ac ++ [.ref p]))) := TSt.trans (TSt.upd_new hp) (TSt.upd_lst h3)
        refine ⟨acc ++ [.tup [.int t, .int (ans.getD (nxtI rows st t).toNat 0), .tup (toldL rows ans (nxtI rows st t) wi)]], ac ++ [.ref p], _, _, _, rfl, ExtN.mut (LamX.ExtN.trans e (LamX.ExtN.trans e2 (ExtN.new hp))) hl0, A.lst (A.new a2 hp) h3, upd_same, ?_, ?_⟩
        · refine (ImL.tt ts (noLs_left nl) (im.mono (ExtN.ee e2))).append (imL_cons (im_tup (xs := [.int t, .int (ans.getD (nxtI rows st t).toNat 0), vr]) (.inl (.inl ?_)) (imL_cons im_int (imL_cons im_int (imL_cons (Im.tt ts (noL_told rows ans _ wi : NoL (.tup (toldL rows ans (nxtI rows st t) wi))) imr) imL_nil)))) imL_nil)
          rw [upd_ne (ne_of_none h2 hp).symm, upd_same]
        · rw [← r, List.append_assoc]
          rfl
def spToldF (K : PySem.W.Frag) (Am : Hp → Prop) (CQ CF : Addr) : Sp := fun vs H Q E => ∃ (dq d : D) (vq v : V), vs = [vq, v] ∧ Im K H dq vq ∧ Im K H d v ∧ Am H ∧ (∀ p, ckQ dq = some p → Er Am H E CQ "part" (.str p)) ∧
  (ckQ dq = none → (isFor (namesD dq) d = false ∧ En Am H E CF) ∨ ∃ (fo : Fo) (rows : List (List Int)) (ans : List Int), d = fo.d ∧ dq = QD rows ans ∧ isFor (namesD dq) d = true ∧ fo.names (namesD dq) ∧ fo.depth ≤ 40 ∧ fo.size ≤ 1000 ∧ RtD K Am H Q (.tup (toldL rows ans 0 fo)))
theorem scToldF : FnScope ["question", "forest"] ["question", "forest"] (defScope sToldForest) := ⟨rfl, rfl, rfl, by decide +kernel, rfl, by decide +kernel, by decide +kernel⟩
theorem ok_toldF {f fQ fC fN fT CQ CF : Addr} {fd fdQ fdC fdN fdT : FuncData} (A : AmOk Am G) (F : Fun K "told_forest" "told_forest" sToldForest f fd)
    (GQ : Def P w K mg base (L2.CX P w) 6 "check_question" fQ fdQ ["value"] (spCheckQ K Am CQ)) (GC : Def P w K mg base (L2.CX P w) 5 "check_forest" fC fdC ["names", "value"] (spCheckForest K Am CF)) (GN : Def P w K mg base CX0 1 "names_of" fN fdN ["question"] (spNamesOf K))
    (GT : Def P w K mg base CX0 41 "told_below" fT fdT ["question", "state", "forest"] (spTold K Am 41)) : FnOk P w K mg base (L2.CX P w) 42 f fd ["question", "forest"] (spToldF K Am CQ CF) := by
  refine Fun.okXC F scToldF (fun vs H Q E h => ?_) (fun Ar outer s H vs Q E hr h => ?_)
  · obtain ⟨_, _, _, _, rfl, _⟩ := h
    rfl
  · obtain ⟨dq, d, vq, v, rfl, hq, hd, hA, eq, qq⟩ := h
    refine ⟨_, pss_cons (ps_expr (pe_call GQ.ok (hr.mono (by decide)) (by rfl) GQ.g GQ.kp GQ.b .nil (passes_call (takes_of rfl rfl rfl rfl) fun _ _ _ _ h => h) (pa_cons (pv 0) pa_nil)))
      (pss_cons (ps_expr (pe_call GC.ok (hr.mono (by decide)) (by rfl) GC.g GC.kp GC.b .nil (passes_call (takes_of rfl rfl rfl rfl) fun _ _ _ _ h => h) (pa_cons (pe_call GN.ok (hr.mono (by decide)) (by rfl) GN.g GN.kp GN.b .nil pass0 (pa_cons (pv 0) pa_nil)) (pa_cons (pv 1) pa_nil))))
      (pss_one (ps_ret (pe_call GT.ok (hr.mono (by decide)) (by rfl) GT.g GT.kp GT.b .nil pass0 (pa_cons (pv 0) (pa_cons pe_int (pa_cons (pv 1) pa_nil))))))), ?_⟩
    refine c_seq (c_drop (c_callv (va_cons (v_var rfl) va_nil) ⟨dq, vq, rfl, hq, hA, fun ck H1 e1 a1 => ?_, fun p hp => eq p hp⟩))
    dsimp only
    refine c_seq (c_drop (c_callv (va_cons (fun Q q => c_callv (va_cons (v_var rfl) va_nil) ⟨dq, vq, rfl, hq.mono (ExtN.ee e1), ck, q⟩) (va_cons (v_var rfl) va_nil)) ⟨d, v, _, rfl, hd.mono (ExtN.ee e1), a1, fun h1 H2 e2 a2 => ?_, fun h1 => ?_⟩))
    · rcases qq ck with ⟨h2, _⟩ | ⟨fo, rows, ans, rfl, rfl, _, fn, d1, s1, q⟩
      · rw [h1] at h2; cases h2
      · obtain ⟨rows', ans', e, qok⟩ := ckQ_typed ck
        have e0 := LamX.ExtN.trans e1 e2
        dsimp only
        have qok' : QOk rows ans (namesD (QD rows ans)) := by
          injection e with e
          injection e with e e2
          injection e with e
          injection e2 with e2
          injection e2 with e2
          have g1 : rows = rows' := by
            refine List.map_inj_right (f := RD) (fun a b h => ?_) |>.mp e
            injection h with h
            exact List.map_inj_right (f := D.int) (fun a b h => by injection h) |>.mp h
          have g2 : ans = ans' := List.map_inj_right (f := D.int) (fun a b h => by injection h) |>.mp e2
          rw [g1, g2] at fn ⊢
          rw [g1, g2] at qok
          exact qok
        have p0 := qok'.s1
        refine c_ret (c_callv (va_cons (v_var rfl) (va_cons v_c (va_cons (v_var rfl) va_nil))) ⟨rows, ans, _, 0, fo, vq, v, rfl, hq.mono (ExtN.ee e0), qok', Int.le_refl _, by omega, hd.mono (ExtN.ee e0), fn, by omega, s1, a2, RtD.ext e0 q⟩)
    · rcases qq ck with ⟨_, q⟩ | ⟨fo, _, _, _, _, h2, _⟩
      · exact En.ext e1 q
      · rw [h1] at h2; cases h2
end
end Mk

/-! ### MkFrs -/
set_option Elab.async false
set_option linter.all false
set_option maxRecDepth 100000
set_option maxHeartbeats 4000000
namespace Mk
open PySem PySem.Spec PyProof.Rows L2
open GxR (TabG Tabbed)
/-- at b stood nothing but, it may be, a table -/
def Fr (H : Hp) (b : Addr) : Prop := ∀ o, H b = some o → (∀ ps, o ≠ .tbl ps) → False
theorem Fr.of {H : Hp} {b : Addr} (h : H b = none) : Fr H b := fun o e _ => by rw [h] at e; cases e
theorem Fr.old {H H' : Hp} {b : Addr} (e : ExtN H H') (h : H' b = none) : Fr H b := fun o e1 n => by rw [e b o e1 n] at h; cases h
theorem ExtN.mutF {H H' : Hp} {p : Addr} {o : HO} (e : ExtN H H') (h : Fr H p) : ExtN H (upd H' p o) := fun a u ha n => by
  by_cases c : a = p
  · rw [c] at ha; exact (h u ha n).elim
  · rw [upd_ne c]; exact e a u ha n
theorem Fo.noL : ∀ f : Fo, NoLs f.L
  | .nil => True.intro
  | .cons t w r => ⟨⟨True.intro, noL w, True.intro⟩, noL r⟩
/-- lists of forests, each at its address -/
structure Stk (K : PySem.W.Frag) (H0 H : Hp) (fs : List Fo) (bs : List Addr) : Prop where
  len : bs.length = fs.length
  nd : bs.Nodup
  fr : ∀ b ∈ bs, Fr H0 b
  get : ∀ (i : Nat) (f : Fo) (b : Addr), fs[i]? = some f → bs[i]? = some b → ∃ xs, H b = some (.lst xs) ∧ ImL K H f.L xs
theorem Stk.here {K : PySem.W.Frag} {H0 H : Hp} {fs : List Fo} {bs : List Addr} (h : Stk K H0 H fs bs) {b : Addr} (hb : b ∈ bs) : ∃ xs, H b = some (.lst xs) := by
  obtain ⟨i, hi⟩ := List.getElem?_of_mem hb
  have hl : i < fs.length := by rw [← h.len]; exact (List.getElem?_eq_some_iff.mp hi).1
  obtain ⟨xs, e, _⟩ := h.get i fs[i] b (List.getElem?_eq_getElem hl) hi
  exact ⟨xs, e⟩
/-- the lists stay, and what is read -/
theorem Stk.keep {K : PySem.W.Frag} {H0 H H' : Hp} {fs : List Fo} {bs : List Addr} (h : Stk K H0 H fs bs) (k : ∀ b ∈ bs, H' b = H b) (t : TSt K H H') : Stk K H0 H' fs bs := ⟨h.len, h.nd, h.fr, fun i f b hf hb => by
  obtain ⟨xs, e, im⟩ := h.get i f b hf hb
  exact ⟨xs, by rw [k b (List.mem_of_getElem? hb)]; exact e, ImL.tt t (Fo.noL f) im⟩⟩
theorem Stk.new {K : PySem.W.Frag} {H0 H : Hp} {fs : List Fo} {bs : List Addr} (h : Stk K H0 H fs bs) {p : Addr} {o : HO} (n : H p = none) : Stk K H0 (upd H p o) fs bs := h.keep (fun b hb => by
  obtain ⟨xs, e⟩ := h.here hb
  exact upd_ne (ne_of_none e n)) (TSt.upd_new n)
theorem Stk.other {K : PySem.W.Frag} {H0 H : Hp} {fs : List Fo} {bs : List Addr} (h : Stk K H0 H fs bs) {p : Addr} {o : HO} {xs : List V} (e : H p = some (.lst xs)) (n : p ∉ bs) : Stk K H0 (upd H p o) fs bs := h.keep (fun b hb => upd_ne fun z => n (z ▸ hb)) (TSt.upd_lst e)
theorem Stk.push {K : PySem.W.Frag} {H0 H : Hp} {fs : List Fo} {bs : List Addr} (h : Stk K H0 H fs bs) {q : Addr} (e : ExtN H0 H) (n : H q = none) : Stk K H0 (upd H q (.lst [])) (fs ++ [.nil]) (bs ++ [q]) := by
  have h' := h.new (o := .lst []) n
  have nq : q ∉ bs := fun z => by obtain ⟨xs, e⟩ := h.here z; rw [n] at e; cases e
  refine ⟨by rw [List.length_append, List.length_append, h.len]; rfl, ?_, fun b hb => ?_, fun i f b hf hb => ?_⟩
  · rw [List.nodup_append]
    exact ⟨h.nd, by simp, fun a ha b hb => by rw [List.mem_singleton.mp hb]; exact fun z => nq (z ▸ ha)⟩
  · rcases List.mem_append.mp hb with hb | hb
    · exact h.fr b hb
    · rw [List.mem_singleton.mp hb]; exact Fr.old e n
  · by_cases c : i < fs.length
    · rw [List.getElem?_append_left c] at hf
      rw [List.getElem?_append_left (by rw [h.len]; exact c)] at hb
      exact h'.get i f b hf hb
    · rw [List.getElem?_append_right (by omega)] at hf
      rw [List.getElem?_append_right (by rw [h.len]; omega), h.len] at hb
      match hk : i - fs.length with
      | 0 =>
        rw [hk] at hf hb
        cases hf; cases hb
        exact ⟨[], upd_same, imL_nil⟩
      | k + 1 => rw [hk] at hf; cases hf
theorem Stk.top {K : PySem.W.Frag} {H0 H : Hp} {fs : List Fo} {f : Fo} {bs : List Addr} (h : Stk K H0 H (fs ++ [f]) bs) : ∃ cs b xs, bs = cs ++ [b] ∧ b ∉ cs ∧ Fr H0 b ∧ H b = some (.lst xs) ∧ ImL K H f.L xs ∧ Stk K H0 H fs cs := by
  have hl := h.len
  rw [List.length_append] at hl
  have hl : bs.length = fs.length + 1 := hl
  rcases List.eq_nil_or_concat bs with rfl | ⟨cs, b, rfl⟩
  · cases hl
  · rw [List.concat_eq_append] at h hl ⊢
    rw [List.length_append] at hl
    have hl : cs.length + 1 = fs.length + 1 := hl
    have hl : cs.length = fs.length := by omega
    obtain ⟨xs, e, im⟩ := h.get fs.length f b (by rw [List.getElem?_append_right (Nat.le_refl _), Nat.sub_self]; rfl) (by rw [List.getElem?_append_right (by omega), hl, Nat.sub_self]; rfl)
    have nd := h.nd
    rw [List.nodup_append] at nd
    refine ⟨cs, b, xs, rfl, fun z => nd.2.2 b z b (List.mem_singleton.mpr rfl) rfl, h.fr b (List.mem_append_right _ (List.mem_singleton.mpr rfl)), e, im, hl, nd.1, fun c hc => h.fr c (List.mem_append_left _ hc), fun i g c hf hb => ?_⟩
    exact h.get i g c (by rw [List.getElem?_append_left (List.getElem?_eq_some_iff.mp hf).1]; exact hf) (by rw [List.getElem?_append_left (List.getElem?_eq_some_iff.mp hb).1]; exact hb)
/-- one more mark in the topmost list -/
theorem Stk.put {K : PySem.W.Frag} {H0 H : Hp} {fs : List Fo} {g : Fo} {cs : List Addr} {b : Addr} {xs ys : List V} (h : Stk K H0 H fs cs) (nb : b ∉ cs) (fb : Fr H0 b) (e : H b = some (.lst xs)) (im : ImL K H g.L ys) : Stk K H0 (upd H b (.lst ys)) (fs ++ [g]) (cs ++ [b]) := by
  have h' := h.other (o := .lst ys) e nb
  refine ⟨by rw [List.length_append, List.length_append, h.len]; rfl, ?_, fun c hb => ?_, fun i f c hf hb => ?_⟩
  · rw [List.nodup_append]
    exact ⟨h.nd, by simp, fun a ha b hb => by rw [List.mem_singleton.mp hb]; exact fun z => nb (z ▸ ha)⟩
  · rcases List.mem_append.mp hb with hb | hb
    · exact h.fr c hb
    · rw [List.mem_singleton.mp hb]; exact fb
  · by_cases c : i < fs.length
    · rw [List.getElem?_append_left c] at hf
      rw [List.getElem?_append_left (by rw [h.len]; exact c)] at hb
      exact h'.get i f _ hf hb
    · rw [List.getElem?_append_right (by omega)] at hf
      rw [List.getElem?_append_right (by rw [h.len]; omega), h.len] at hb
      match hk : i - fs.length with
      | 0 =>
        rw [hk] at hf hb
        cases hf; cases hb
        exact ⟨ys, upd_same, ImL.tt (TSt.upd_lst e) (Fo.noL _) im⟩
      | k + 1 => rw [hk] at hf; cases hf
/-! ### the row that the stack stands for -/
def preR (below : List (Fo × Int)) (top : Fo) : List Int := (below.map fun p => p.1.row ++ [p.2]).flatten ++ top.row
theorem pre_push (below : List (Fo × Int)) (top : Fo) (t : Int) : preR (below ++ [(top, t)]) .nil = preR below top ++ [t] := by
  unfold preR
  rw [List.map_append, List.flatten_append]
  simp [show (Fo.nil).row = [] from rfl]
theorem pre_pop (below : List (Fo × Int)) (g f : Fo) (n : Int) : preR below (g.snoc n f) = preR (below ++ [(g, n)]) f ++ [-1] := by
  unfold preR
  rw [List.map_append, List.flatten_append, Fo.row_snoc]
  simp
end Mk

/-! ### MkFrs2 -/
set_option Elab.async false
set_option linter.all false
set_option maxRecDepth 100000
set_option maxHeartbeats 4000000
namespace Mk
open PySem PySem.Spec PyProof.Rows L2
open GxR (TabG Tabbed)
theorem Fo.len_snoc : ∀ (f : Fo) (t : Int) (w : Fo), (f.snoc t w).len = f.len + 1
  | .nil, t, w => rfl
  | .cons a b r, t, w => by show (r.snoc t w).len + 1 = r.len + 1 + 1; rw [len_snoc r]
theorem docGo_cons {t left : Int} {r : List Int} {p : Nat} : docGo (t :: r) left p = if stepI left t > 40 then some p else docGo r (stepI left t) (p + 1) := rfl
theorem take_snoc {is : List Int} {i : Nat} {t : Int} {r : List Int} (h : is.drop i = t :: r) : is.take (i + 1) = is.take i ++ [t] := by
  have e : is[i]? = some t := by
    have := congrArg (fun l => l[0]?) h
    simp only [List.getElem?_drop] at this
    simpa using this
  rw [List.take_add_one, e]
  rfl
theorem last_ref {cs : List Addr} {b : Addr} : ((cs ++ [b]).map V.ref)[((cs ++ [b]).map V.ref).length - 1]? = some (.ref b) := by
  rw [List.map_append, List.length_append, List.getElem?_append_right (by simp)]
  simp
theorem drop_ref {cs : List Addr} {b : Addr} : ((cs ++ [b]).map V.ref).dropLast = cs.map V.ref := by
  rw [List.map_append]
  exact List.dropLast_concat
theorem last_intV {cs : List Int} {b : Int} : ((cs ++ [b]).map V.int)[((cs ++ [b]).map V.int).length - 1]? = some (.int b) := by
  rw [List.map_append, List.length_append, List.getElem?_append_right (by simp)]
  simp
theorem drop_intV {cs : List Int} {b : Int} : ((cs ++ [b]).map V.int).dropLast = cs.map V.int := by
  rw [List.map_append]
  exact List.dropLast_concat
section
variable {P : Program} {w : World} {K : PySem.W.Frag} {mg : Str → Option Value} {base : Heap} {Am : Hp → Prop} {G : List Addr}
def spForestOf (K : PySem.W.Frag) (Am : Hp → Prop) (CR : Addr) : Sp := fun vs H Q E => ∃ (d : D) (v : V), vs = [v] ∧ Im K H d v ∧ Am H ∧ (∀ p, ckRow 3 d = some p → Er Am H E CR "place" (plV p)) ∧
  (ckRow 3 d = none → ∀ is, d = RD is → (∀ p : Nat, docGo is 0 0 = some p → Er Am H E CR "place" (.int (p : Int))) ∧ (docGo is 0 0 = none → ∀ fo : Fo, fo.row = is → fo.names 3 → RtD K Am H Q fo.d))
theorem scForestOf : FnScope ["row", "names", "forests", "tag", "within"] ["row"] (defScope sForestOf) := ⟨rfl, rfl, rfl, by decide +kernel, rfl, by decide +kernel, by decide +kernel⟩
theorem ok_forestOf {f fR fD CR : Addr} {fd fdR fdD : FuncData} (A : AmOk Am G) (F : Fun K "forest_of" "forest_of" sForestOf f fd) (B : Glb mg) (C : Cns mg) (C2 : Cn2 mg)
    (GR : Def P w K mg base (L2.CX P w) 4 "check_row" fR fdR ["names", "value"] (spCheckRow K Am CR)) (GD : Def P w K mg base (L2.CX P w) 4 "check_document" fD fdD ["row"] (spCheckDoc K Am CR)) :
    FnOk P w K mg base (L2.CX P w) 5 f fd ["row"] (spForestOf K Am CR) := by
  obtain ⟨t1, m1⟩ := C2.cl
  obtain ⟨t2, m2⟩ := C.mn
  refine Fun.okXC F scForestOf (fun vs H Q E h => ?_) (fun Ar outer s H vs Q E hr h => ?_)
  · obtain ⟨d, v, rfl, _⟩ := h
    rfl
  · obtain ⟨d, v, rfl, hd, hA, qe, qq⟩ := h
    refine ⟨_, pss_cons (ps_expr (pe_call GR.ok (hr.mono (by decide)) (by rfl) GR.g GR.kp GR.b .nil (passes_call (takes_of rfl rfl rfl rfl) fun _ _ _ _ h => h) (pa_cons (pe_glob (v := .int 3) (by rfl) m2 ⟨_, rfl⟩) (pa_cons (pv 0) pa_nil))))
      (pss_cons (ps_expr (pe_call GD.ok (hr.mono (by decide)) (by rfl) GD.g GD.kp GD.b .nil (passes_call (takes_of rfl rfl rfl rfl) fun _ _ _ _ h => h) (pa_cons (pv 0) pa_nil)))
      (pss_cons (ps_set (i := 1) scForestOf.nd rfl (Or.inl rfl) (pe_lst pa_nil))
      (pss_cons (ps_set (i := 2) scForestOf.nd rfl (Or.inl rfl) (pe_lst (pa_cons (pe_lst pa_nil) pa_nil)))
      (pss_cons (ps_for (passes_of rfl) rfl (pi_tup (pv 0)) (pg_name (i := 3) scForestOf.nd rfl (Or.inl rfl))
        (pss_one (ps_if (pt_cmpR op_eq (pv 3) (pe_glob (v := .int (-1)) (by rfl) m1 ⟨_, rfl⟩) (nomark _))
          (pss_cons (ps_set (i := 4) scForestOf.nd rfl (Or.inl rfl) (pe_tupleOf (by rfl) B.tuple (pe_bm0 PySem.F.plainAttrs_list PySem.F.slot_list_pop PySem.F.type_list_pop mt_pop (pv 2))))
          (pss_one (ps_expr (pe_bm PySem.F.plainAttrs_list PySem.F.slot_list_append PySem.F.type_list_append mt_append (pe_ix ix_list (pv 2) (pe_un un_neg pe_int) (fun _ _ => rfl)) (pa_cons (pe_tup (pa_cons (pe_bm0 PySem.F.plainAttrs_list PySem.F.slot_list_pop PySem.F.type_list_pop mt_pop (pv 1)) (pa_cons (pv 4) pa_nil))) pa_nil)))))
          (pss_cons (ps_expr (pe_bm PySem.F.plainAttrs_list PySem.F.slot_list_append PySem.F.type_list_append mt_append (pv 1) (pa_cons (pv 3) pa_nil)))
          (pss_one (ps_expr (pe_bm PySem.F.plainAttrs_list PySem.F.slot_list_append PySem.F.type_list_append mt_append (pv 2) (pa_cons (pe_lst pa_nil) pa_nil))))))))
      (pss_one (ps_ret (pe_tupleOf (by rfl) B.tuple (pe_ix ix_list (pv 2) pe_int (fun _ _ => rfl))))))))), ?_⟩
    refine c_seq (c_drop (c_callv (va_cons v_c (va_cons (v_var rfl) va_nil)) ⟨d, v, 3, rfl, hd, hA, fun cr H1 e1 a1 => ?_, fun p hp => qe p hp⟩))
    obtain ⟨is, rfl, ok, len⟩ := ckRow_ok cr
    obtain ⟨qd, qn⟩ := qq cr is rfl
    dsimp only
    refine c_seq (c_drop (c_callv (va_cons (v_var rfl) va_nil) ⟨is, v, rfl, hd.mono (ExtN.ee e1), len, a1, fun dg H2 e2 a2 => ?_, fun p hp => Er.ext e1 (qd p hp)⟩))
    have e2 : ExtN H H2 := LamX.ExtN.trans e1 e2
    obtain ⟨ar, rfl, hx⟩ := im_rd hd
    have hx2 : SqT K H2 ar (is.map .int) := (ExtN.ee e2).t _ _ hx
    dsimp only
    refine c_seq (c_set (c_lst va_nil (Nat.zero_le _) fun ln hn => ?_))
    dsimp only
    refine c_seq (c_set (c_cons (c_lst va_nil (Nat.zero_le _) fun b0 hb0 => ⟨sz (by show 1 ≤ _; decide), fun lf hf => ?_⟩)))
    dsimp only
    have n1 : ln ≠ b0 := fun z => by rw [← z, upd_same] at hb0; cases hb0
    have n2 : lf ≠ b0 := fun z => by rw [z, upd_same] at hf; cases hf
    have n3 : lf ≠ ln := fun z => by rw [z, upd_ne n1, upd_same] at hf; cases hf
    have hb00 : H2 b0 = none := by rw [upd_ne n1.symm] at hb0; exact hb0
    have hf0 : H2 lf = none := by rw [upd_ne n2, upd_ne n3] at hf; exact hf
    have e3 : ExtN H2 (upd (upd (upd H2 ln (.lst [])) b0 (.lst [])) lf (.lst [.ref b0])) := LamX.ExtN.trans (LamX.ExtN.trans (ExtN.new hn) (ExtN.new hb0)) (ExtN.new hf)
    refine c_seq (c_forT (v_var rfl) ((ExtN.ee e3).t _ _ hx2) (fun i σ H' => ∃ (below : List (Fo × Int)) (top : Fo) (bs : List Addr) (o3 o4 : Option V), σ = [some (.ref ar), some (.ref ln), some (.ref lf), o3, o4] ∧ ExtN H2 H' ∧ Am H' ∧ H' lf = some (.lst (bs.map .ref)) ∧ H' ln = some (.lst ((below.map (·.2)).map .int)) ∧ lf ∉ bs ∧ ln ∉ bs ∧ lf ≠ ln ∧
        Stk K H2 H' (below.map (·.1) ++ [top]) bs ∧ preR below top = is.take i ∧ RowOk 3 (is.drop i) below.length ∧ docGo (is.drop i) (below.length : Int) i = none ∧ (∀ p ∈ below, p.1.names 3 ∧ 0 ≤ p.2 ∧ p.2 ≤ 2 ∧ p.1.len ≤ i) ∧ top.names 3 ∧ top.len ≤ i ∧ below.length ≤ i)
      ⟨[], .nil, [b0], _, _, rfl, e3, A.new (A.new (A.new a2 hn) hb0) hf, upd_same, by rw [upd_ne n3.symm, upd_ne n1, upd_same]; rfl, by rw [List.mem_singleton]; exact n2, by rw [List.mem_singleton]; exact n1, n3,
        ⟨rfl, by simp, fun b hb => by rw [List.mem_singleton.mp hb]; exact Fr.of hb00, fun i f b hf hb => by
          match i, hf, hb with
          | 0, hf, hb => cases hf; cases hb; exact ⟨[], by rw [upd_ne n2.symm, upd_same], imL_nil⟩
          | i + 1, hf, hb => cases hf⟩, rfl, ok, dg, (fun p hp => absurd hp List.not_mem_nil), True.intro, Nat.le_refl _, Nat.le_refl _⟩
      (fun i σ H' ⟨_, _, _, _, _, _, e, _⟩ => (ExtN.ee e).t _ _ hx2) (fun σ H' ⟨below, top, bs, o3, o4, es, e, a', hlf, hln, mf, mn, lfn, st, pr, ok, dg2, nb, nt, lt, bl⟩ => ?_) (fun i x σ H' hi ⟨below, top, bs, o3, o4, es, e, a', hlf, hln, mf, mn, lfn, st, pr, ok, dg2, nb, nt, lt, bl⟩ => ?_))
    · subst es
      dsimp only
      rw [List.length_map, List.drop_length] at dg2
      rw [List.length_map, List.take_length] at pr
      have b0 : below = [] := by
        cases below with
        | nil => rfl
        | cons a b =>
          have : docGo [] ((a :: b).length : Int) is.length = some is.length := if_pos (by simp only [List.length_cons]; omega)
          rw [this] at dg2
          cases dg2
      subst b0
      obtain ⟨cs, b, xs, rfl, nb', fb, hb, im, st'⟩ := Stk.top (fs := []) st
      obtain rfl : cs = [] := List.eq_nil_of_length_eq_zero st'.len
      refine c_ret (v_ixL (v_var rfl) v_c (SqL.of hlf) (atI_nat (j := 0) rfl) _ (.inl ⟨b, xs, rfl, SqL.of hb, fun c hc => ?_⟩))
      refine qn dg top ?_ nt _ _ (LamX.ExtN.trans e2 (LamX.ExtN.trans e (ExtN.new hc))) (A.new a' hc) (im_tup (.inl (.inl upd_same)) (ImL.tt (TSt.upd_new hc) (Fo.noL _) im))
      exact pr
    · subst es
      obtain ⟨t, rfl, hdr⟩ := map_drop hi
      have hi2 : i < is.length := by have := (List.getElem?_eq_some_iff.mp hi).1; rw [List.length_map] at this; exact this
      rw [hdr] at ok dg2
      rw [docGo_cons] at dg2
      have dg3 : docGo (is.drop (i + 1)) (stepI below.length t) (i + 1) = none := by
        split at dg2
        · cases dg2
        · exact dg2
      dsimp only
      refine c_if (c_Bv (v_eq (v_var rfl) v_c rfl) ?_)
      rw [dec_eq_int]
      rcases ok with ⟨ht, hk, ok⟩ | ⟨h0, h1, ok⟩
      · rw [decide_eq_true ht]
        rcases List.eq_nil_or_concat below with rfl | ⟨bl', ⟨g, n⟩, rfl⟩
        · exact absurd hk (Nat.lt_irrefl _)
        · rw [List.concat_eq_append] at *
          rw [List.map_append] at st hln
          obtain ⟨cs, b, xs, rfl, nb1, fb, hb, imT, st1⟩ := Stk.top st
          obtain ⟨ds, c, ys, rfl, nb2, fc, hc, imG, st2⟩ := Stk.top (fs := bl'.map (·.1)) (f := g) st1
          obtain ⟨nG, n0, n1', lG⟩ := nb (g, n) (List.mem_append_right _ (List.mem_singleton.mpr rfl))
          have hln' : H' ln = some (.lst ((bl'.map (·.2) ++ [n]).map .int)) := hln
          have lfc : lf ≠ c := fun z => mf (by rw [z]; simp)
          have lfb : lf ≠ b := fun z => mf (by rw [z]; simp)
          have lnc : ln ≠ c := fun z => mn (by rw [z]; simp)
          have lnb : ln ≠ b := fun z => mn (by rw [z]; simp)
          have hla : (upd H' lf (.lst ((ds ++ [c]).map .ref))) lf = some (.lst ((ds ++ [c]).map .ref)) := upd_same
          have hca : (upd H' lf (.lst ((ds ++ [c]).map .ref))) c = some (.lst ys) := by rw [upd_ne lfc.symm]; exact hc
          have hna : (upd H' lf (.lst ((ds ++ [c]).map .ref))) ln = some (.lst ((bl'.map (·.2) ++ [n]).map .int)) := by rw [upd_ne lfn.symm]; exact hln'
          have sa : Stk K H2 (upd H' lf (.lst ((ds ++ [c]).map .ref))) (bl'.map (·.1)) ds := st2.other hlf (fun z => mf (by simp [z]))
          have ta : TSt K H' (upd H' lf (.lst ((ds ++ [c]).map .ref))) := TSt.upd_lst hlf
          have ea : ExtN H2 (upd H' lf (.lst ((ds ++ [c]).map .ref))) := ExtN.mutF e (Fr.of hf0)
          have aa : Am (upd H' lf (.lst ((ds ++ [c]).map .ref))) := A.lst a' hlf
          have hba : (upd H' lf (.lst ((ds ++ [c]).map .ref))) b = some (.lst xs) := by rw [upd_ne lfb.symm]; exact hb
          refine iteT (c_seq (c_set (c_pop (v_var rfl) hlf last_ref ?_)))
          rw [drop_ref]
          generalize (upd H' lf (.lst ((ds ++ [c]).map .ref))) = Ha at hla hca hna sa ta ea aa hba
          refine .inl ⟨b, xs, rfl, SqL.of hba, fun q hq => ?_⟩
          dsimp only
          have hlb : (upd Ha q (.tup xs)) lf = some (.lst ((ds ++ [c]).map .ref)) := by rw [upd_ne (ne_of_none hla hq)]; exact hla
          have hcb : (upd Ha q (.tup xs)) c = some (.lst ys) := by rw [upd_ne (ne_of_none hca hq)]; exact hca
          have hnb : (upd Ha q (.tup xs)) ln = some (.lst ((bl'.map (·.2) ++ [n]).map .int)) := by rw [upd_ne (ne_of_none hna hq)]; exact hna
          have hqb : SqT K (upd Ha q (.tup xs)) q xs := .inl (.inl upd_same)
          have sb := sa.new (o := .tup xs) hq
          have tb : TSt K H' (upd Ha q (.tup xs)) := TSt.trans ta (TSt.upd_new hq)
          have eb : ExtN H2 (upd Ha q (.tup xs)) := LamX.ExtN.trans ea (ExtN.new hq)
          have ab : Am (upd Ha q (.tup xs)) := A.new aa hq
          generalize (upd Ha q (.tup xs)) = Hb at hlb hcb hnb hqb sb tb eb ab
          have vl : ∀ {σ : L2.St}, σ[2]? = some (some (.ref lf)) → ∀ Q : VK, Q (.ref c) Hb → tOp (rIxL K) (tVar 2) (tUn (rU fun i => .int (-i)) (tC (.int 1))) σ Hb Q := fun hs => v_ixL (v_var hs) (v_un (g := fun i => .int (-i)) (a := 1) v_c) (SqL.of hlb) (by rw [List.map_append]; exact atI_last _ _)
          refine c_drop (c_append (vl rfl) hcb ?_)
          refine c_cons (c_pop (v_var rfl) hnb last_intV ?_)
          rw [drop_intV]
          have hlc : (upd Hb ln (.lst ((bl'.map (·.2)).map .int))) lf = some (.lst ((ds ++ [c]).map .ref)) := by rw [upd_ne lfn]; exact hlb
          have hcc : (upd Hb ln (.lst ((bl'.map (·.2)).map .int))) c = some (.lst ys) := by rw [upd_ne lnc.symm]; exact hcb
          have hnc : (upd Hb ln (.lst ((bl'.map (·.2)).map .int))) ln = some (.lst ((bl'.map (·.2)).map .int)) := upd_same
          have hqc : SqT K (upd Hb ln (.lst ((bl'.map (·.2)).map .int))) q xs := TSt.upd_lst hnb _ _ hqb
          have sc := sb.other (o := .lst ((bl'.map (·.2)).map .int)) hnb (fun z => mn (by simp [z]))
          have tc : TSt K H' (upd Hb ln (.lst ((bl'.map (·.2)).map .int))) := TSt.trans tb (TSt.upd_lst hnb)
          have ec : ExtN H2 (upd Hb ln (.lst ((bl'.map (·.2)).map .int))) := ExtN.mutF eb (Fr.of hn)
          have ac : Am (upd Hb ln (.lst ((bl'.map (·.2)).map .int))) := A.lst ab hnb
          generalize (upd Hb ln (.lst ((bl'.map (·.2)).map .int))) = Hc at hlc hcc hnc hqc sc tc ec ac
          refine c_cons (c_var rfl ⟨sz (by show 2 ≤ _; decide), fun p hp => ?_⟩)
          have hcd : (upd Hc p (.tup [.int n, .ref q])) c = some (.lst ys) := by rw [upd_ne (ne_of_none hcc hp)]; exact hcc
          have td : TSt K H' (upd Hc p (.tup [.int n, .ref q])) := TSt.trans tc (TSt.upd_new hp)
          have lG : g.len ≤ i := lG
          have yl : ys.length = g.len := by rw [imG.length, Fo.L_len]
          refine ⟨c, ys, .ref p, rfl, rfl, hcd, by rw [yl, sizeLine_eq]; omega, ?_⟩
          have imN : ImL K (upd Hc p (.tup [.int n, .ref q])) (g.snoc n top).L (ys ++ [.ref p]) := by
            rw [Fo.L_snoc]
            exact (ImL.tt td (Fo.noL _) imG).append (imL_cons (im_tup (.inl (.inl upd_same)) (imL_cons im_int (imL_cons (im_tup (TSt.upd_new hp _ _ hqc) (ImL.tt td (Fo.noL _) imT)) imL_nil))) imL_nil)
          have sI : stepI (bl' ++ [(g, n)]).length t = (bl'.length : Int) := by unfold stepI; rw [if_pos ht, List.length_append]; show ((bl'.length + 1 : Nat) : Int) + -1 = _; omega
          rw [sI] at dg3
          have okl : (bl' ++ [(g, n)]).length - 1 = bl'.length := by rw [List.length_append]; show bl'.length + 1 - 1 = _; omega
          rw [okl] at ok
          refine ⟨bl', g.snoc n top, ds ++ [c], _, _, rfl, ExtN.mutF (LamX.ExtN.trans ec (ExtN.new hp)) fc, A.lst (A.new ac hp) hcd, ?_, ?_, fun z => mf (by rw [List.mem_append]; exact .inl z), fun z => mn (by rw [List.mem_append]; exact .inl z), lfn, Stk.put (sc.new hp) nb2 fc hcd imN, ?_, ok, dg3, fun x hx => ?_, (Fo.names_snoc g n top).mpr ⟨nG, n0, by show n ≤ 3 - 1; omega, nt⟩, ?_, ?_⟩
          · rw [upd_ne lfc, upd_ne (ne_of_none hlc hp)]
            exact hlc
          · rw [upd_ne lnc, upd_ne (ne_of_none hnc hp)]
            exact hnc
          · rw [pre_pop, pr, take_snoc hdr, ht]
          · obtain ⟨p1, p2, p3, p4⟩ := nb x (List.mem_append_left _ hx)
            exact ⟨p1, p2, p3, by omega⟩
          · rw [Fo.len_snoc]
            have : g.len ≤ i := lG
            omega
          · have : (bl' ++ [(g, n)]).length ≤ i := bl
            rw [List.length_append] at this
            have : bl'.length + 1 ≤ i := this
            omega
      · have ht : ¬ t = -1 := by omega
        rw [decide_eq_false ht]
        have sI : stepI below.length t = ((below.length + 1 : Nat) : Int) := by unfold stepI; rw [if_neg ht]; omega
        rw [sI] at dg3
        refine iteF (c_seq (c_drop (c_appendv (v_var rfl) hln (v_var rfl) (by rw [List.length_map, List.length_map, sizeLine_eq]; omega) ?_)))
        dsimp only
        have h2 : ((below.map (·.2)).map V.int ++ [.int t]) = ((below ++ [(top, t)]).map (·.2)).map .int := by simp
        rw [h2]
        have hla : (upd H' ln (.lst (((below ++ [(top, t)]).map (·.2)).map .int))) lf = some (.lst (bs.map .ref)) := by rw [upd_ne lfn]; exact hlf
        have hna : (upd H' ln (.lst (((below ++ [(top, t)]).map (·.2)).map .int))) ln = some (.lst (((below ++ [(top, t)]).map (·.2)).map .int)) := upd_same
        have sa := st.other (o := .lst (((below ++ [(top, t)]).map (·.2)).map .int)) hln mn
        have ea : ExtN H2 (upd H' ln (.lst (((below ++ [(top, t)]).map (·.2)).map .int))) := ExtN.mutF e (Fr.of hn)
        have aa : Am (upd H' ln (.lst (((below ++ [(top, t)]).map (·.2)).map .int))) := A.lst a' hln
        generalize (upd H' ln (.lst (((below ++ [(top, t)]).map (·.2)).map .int))) = Ha at hla hna sa ea aa
        have bsl : bs.length = below.length + 1 := by rw [st.len, List.length_append, List.length_map]; rfl
        refine c_drop (c_append (v_var rfl) hla (c_lst va_nil (Nat.zero_le _) fun q hq => ?_))
        have hlb : (upd Ha q (.lst [])) lf = some (.lst (bs.map .ref)) := by rw [upd_ne (ne_of_none hla hq)]; exact hla
        have nq : q ∉ bs := fun z => by obtain ⟨xs, e⟩ := sa.here z; rw [hq] at e; cases e
        refine ⟨lf, _, .ref q, rfl, rfl, hlb, by rw [List.length_map, bsl, sizeLine_eq]; omega, ?_⟩
        have sb := sa.push ea hq
        have e2 : (below ++ [(top, t)]).map (·.1) = below.map (·.1) ++ [top] := by simp
        refine ⟨below ++ [(top, t)], .nil, bs ++ [q], _, _, rfl, ExtN.mutF (LamX.ExtN.trans ea (ExtN.new hq)) (Fr.of hf0), A.lst (A.new aa hq) hlb, by rw [upd_same, List.map_append]; rfl, ?_, ?_, ?_, lfn, ?_, ?_, ?_, ?_, fun x hx => ?_, True.intro, Nat.zero_le _, ?_⟩
        · rw [upd_ne lfn.symm, upd_ne (ne_of_none hna hq)]
          exact hna
        · rw [List.mem_append, List.mem_singleton]
          rintro (z | z)
          · exact mf z
          · exact ne_of_none hla hq z
        · rw [List.mem_append, List.mem_singleton]
          rintro (z | z)
          · exact mn z
          · exact ne_of_none hna hq z
        · rw [e2]
          exact sb.other hlb (by
            rw [List.mem_append, List.mem_singleton]
            rintro (z | z)
            · exact mf z
            · exact ne_of_none hla hq z)
        · rw [pre_push, pr, take_snoc hdr]
        · rw [List.length_append]
          exact ok
        · rw [List.length_append]
          exact dg3
        · rcases List.mem_append.mp hx with hx | hx
          · obtain ⟨p1, p2, p3, p4⟩ := nb x hx
            exact ⟨p1, p2, p3, by omega⟩
          · obtain rfl := List.mem_singleton.mp hx
            exact ⟨nt, h0, by omega, by show top.len ≤ i + 1; omega⟩
        · rw [List.length_append]
          show below.length + 1 ≤ i + 1
          omega
end
end Mk

/-! ### MkLaw1 -/
set_option Elab.async false
set_option linter.all false
set_option maxRecDepth 100000
set_option maxHeartbeats 4000000
namespace Mk
open PySem PySem.Spec PyProof.Rows L2
open GxR (TabG Tabbed)
abbrev sTaken : Stmt := top 42
abbrev sPick : Stmt := top 43
/-- all but tables and the list at r stays -/
def XR (r : Addr) (H H' : Hp) : Prop := ∀ b o, H b = some o → (∀ ps, o ≠ .tbl ps) → b ≠ r → H' b = some o
theorem XR.of {r : Addr} {H H' : Hp} (e : ExtN H H') : XR r H H' := fun b o h n _ => e b o h n
theorem XR.trans {r : Addr} {H H1 H2 : Hp} (a : XR r H H1) (b : XR r H1 H2) : XR r H H2 := fun c o h n z => b c o (a c o h n z) n z
theorem XR.refl {r : Addr} (H : Hp) : XR r H H := fun _ _ h _ _ => h
theorem XR.upd {r : Addr} {H : Hp} {o : HO} : XR r H (upd H r o) := fun b u h _ z => by rw [upd_ne z]; exact h
theorem XR.tst {r : Addr} {K : PySem.W.Frag} {H H' : Hp} {xs : List V} (e : XR r H H') (h : H r = some (.lst xs)) : TSt K H H' := fun a ys q => by
  rcases q with (q | ⟨ob, q⟩) | q
  · exact .inl (.inl (e _ _ q (fun ps z => by cases z) (ne_of q h (by intro z; cases z))))
  · exact .inl (.inr ⟨ob, e _ _ q (fun ps z => by cases z) (ne_of q h (by intro z; cases z))⟩)
  · exact .inr q
theorem XR.sql {r : Addr} {K : PySem.W.Frag} {H H' : Hp} {a : Addr} {xs : List V} (e : XR r H H') (n : a ≠ r) (q : SqL K H a xs) : SqL K H' a xs := by
  rcases q with (q | ⟨ob, q⟩) | q
  · exact .inl (.inl (e _ _ q (fun ps z => by cases z) n))
  · exact .inl (.inr ⟨ob, e _ _ q (fun ps z => by cases z) n⟩)
  · exact .inr q
/-- a list of ints beside the list at r -/
def SqA (K : PySem.W.Frag) (H : Hp) (r a : Addr) (xs : List V) : Prop :=
  (Rd H a (.lst xs) ∧ a ≠ r) ∨ ∃ (o : Obj) (its : Array Value) (n : Nat), K.lookup a = some o ∧ o.cls = .type "list" ∧ o.dict = none ∧ o.data = .seq its n ∧ its.size ≤ sizeLine ∧ Vals xs its.toList
theorem SqA.sql {K : PySem.W.Frag} {H : Hp} {r a : Addr} {xs : List V} (h : SqA K H r a xs) : SqL K H a xs := h.elim (fun h => .inl h.1) .inr
theorem SqA.xr {K : PySem.W.Frag} {H H' : Hp} {r a : Addr} {xs : List V} (e : XR r H H') (h : SqA K H r a xs) : SqA K H' r a xs := by
  rcases h with ⟨q | ⟨ob, q⟩, n⟩ | q
  · exact .inl ⟨.inl (e _ _ q (fun ps z => by cases z) n), n⟩
  · exact .inl ⟨.inr ⟨ob, e _ _ q (fun ps z => by cases z) n⟩, n⟩
  · exact .inr q
theorem SqA.of {K : PySem.W.Frag} {H : Hp} {r a : Addr} {xs : List V} (h : SqL K H a xs) (n : H r = none) : SqA K H r a xs := by
  rcases h with (q | ⟨ob, q⟩) | q
  · exact .inl ⟨.inl q, ne_of_none q n⟩
  · exact .inl ⟨.inr ⟨ob, q⟩, ne_of_none q n⟩
  · exact .inr q
/-- the law's own row of numbers -/
def RowAt (K : PySem.W.Frag) (H : Hp) (r a : Addr) : Prop := ∃ (ns : List Int) (i x y : Int), H r = some (.lst [.ref a, .int i, .int x, .int y]) ∧ SqA K H r a (ns.map .int) ∧ 0 ≤ i
theorem RowAt.ext {K : PySem.W.Frag} {H H' : Hp} {r a : Addr} (h : RowAt K H r a) (e : ExtN H H') : RowAt K H' r a := by
  obtain ⟨ns, i, x, y, h1, h2, h4⟩ := h
  exact ⟨ns, i, x, y, e _ _ h1 (fun ps z => by cases z), SqA.xr (XR.of e) h2, h4⟩
theorem RowAt.lst {K : PySem.W.Frag} {H : Hp} {r a : Addr} (h : RowAt K H r a) : ∃ xs, H r = some (.lst xs) := by
  obtain ⟨ns, i, x, y, h1, _⟩ := h
  exact ⟨_, h1⟩
theorem XR.mut {r : Addr} {H H' : Hp} {l : Addr} {o : HO} (x : XR r H H') (n : H l = none) : XR r H (L2.upd H' l o) := fun b u h t z => by
  show (L2.upd H' l o) b = _
  rw [upd_ne (ne_of_none h n)]
  exact x b u h t z
/-- an object that H0 does not know may change -/
theorem RowAt.mut {K : PySem.W.Frag} {H0 H : Hp} {r a l : Addr} {o : HO} (h0 : RowAt K H0 r a) (n : H0 l = none) (h : RowAt K H r a) : RowAt K (L2.upd H l o) r a := by
  obtain ⟨ns0, i0, x0, y0, z1, z2, _⟩ := h0
  obtain ⟨ns, i, x, y, h1, h2, h4⟩ := h
  have hr : (L2.upd H l o) r = some (.lst [.ref a, .int i, .int x, .int y]) := by rw [upd_ne (ne_of_none z1 n)]; exact h1
  have go : a ≠ l → RowAt K (L2.upd H l o) r a := fun na => by
    rcases h2 with ⟨q | ⟨ob, q⟩, nr⟩ | q
    · exact ⟨ns, i, x, y, hr, .inl ⟨.inl (by rw [upd_ne na]; exact q), nr⟩, h4⟩
    · exact ⟨ns, i, x, y, hr, .inl ⟨.inr ⟨ob, by rw [upd_ne na]; exact q⟩, nr⟩, h4⟩
    · exact ⟨ns, i, x, y, hr, .inr q, h4⟩
  rcases z2 with ⟨q | ⟨ob, q⟩, _⟩ | q
  · exact go (ne_of_none q n)
  · exact go (ne_of_none q n)
  · exact ⟨ns0, i, x, y, hr, .inr q, h4⟩
section
variable {P : Program} {w : World} {K : PySem.W.Frag} {mg : Str → Option Value} {base : Heap} {Am : Hp → Prop} {G : List Addr}
/-- an int out of [0, many) -/
def spTaken (K : PySem.W.Frag) (Am : Hp → Prop) : Sp := fun vs H Q _ => ∃ (r a : Addr) (many : Int), vs = [.ref r, .int many] ∧ RowAt K H r a ∧ 1 ≤ many ∧ many < 1073741824 ∧ Am H ∧ ∀ k H', 0 ≤ k → k < many → XR r H H' → RowAt K H' r a → Am H' → Q (.int k) H'
theorem scTaken : FnScope ["row", "many", "found", "cell"] ["row", "many"] (defScope sTaken) := ⟨rfl, rfl, rfl, by decide +kernel, rfl, by decide +kernel, by decide +kernel⟩
theorem v_mod {σ : L2.St} {H : Hp} {ta tb : TE} {a b : Int} (ha : ∀ Q : VK, Q (.int a) H → ta σ H Q) (hb : ∀ Q : VK, Q (.int b) H → tb σ H Q) (h : 0 < b) : ∀ Q : VK, Q (.int (a % b)) H → tOp (rI (fun _ j => 0 < j) fun i j => .int (i % j)) ta tb σ H Q := fun Q q => ha _ (hb _ ⟨a, b, rfl, rfl, h, q⟩)
theorem v_div {σ : L2.St} {H : Hp} {ta tb : TE} {a b : Int} (ha : ∀ Q : VK, Q (.int a) H → ta σ H Q) (hb : ∀ Q : VK, Q (.int b) H → tb σ H Q) (h : 0 < b) (h2 : b < 1073741824) : ∀ Q : VK, Q (.int (a / b)) H → tOp (rI CDiv fun i j => .int (i / j)) ta tb σ H Q := fun Q q => ha _ (hb _ ⟨a, b, rfl, rfl, ⟨h, h2⟩, q⟩)
theorem v_mul {σ : L2.St} {H : Hp} {ta tb : TE} {a b : Int} (ha : ∀ Q : VK, Q (.int a) H → ta σ H Q) (hb : ∀ Q : VK, Q (.int b) H → tb σ H Q) (h : CMul a b) : ∀ Q : VK, Q (.int (a * b)) H → tOp (rI CMul fun i j => .int (i * j)) ta tb σ H Q := fun Q q => ha _ (hb _ ⟨a, b, rfl, rfl, h, q⟩)
theorem v_add {σ : L2.St} {H : Hp} {ta tb : TE} {a b : Int} (ha : ∀ Q : VK, Q (.int a) H → ta σ H Q) (hb : ∀ Q : VK, Q (.int b) H → tb σ H Q) : ∀ Q : VK, Q (.int (a + b)) H → tOp (rI0 fun i j => .int (i + j)) ta tb σ H Q := v_op0 (g := fun i j => .int (i + j)) ha hb
theorem v_sub {σ : L2.St} {H : Hp} {ta tb : TE} {a b : Int} (ha : ∀ Q : VK, Q (.int a) H → ta σ H Q) (hb : ∀ Q : VK, Q (.int b) H → tb σ H Q) : ∀ Q : VK, Q (.int (a - b)) H → tOp (rI0 fun i j => .int (i - j)) ta tb σ H Q := v_op0 (g := fun i j => .int (i - j)) ha hb
abbrev rInt1 : List V → Hp → VK → Prop := fun xs H Q => (∃ i, xs = [.int i] ∧ Q (.int i) H) ∨ ∃ k, xs = [.bl k] ∧ Q (.int (if k then 1 else 0)) H
theorem v_int {σ : L2.St} {H : Hp} {ta : TE} {a : Int} (ha : ∀ Q : VK, Q (.int a) H → ta σ H Q) : ∀ Q : VK, Q (.int a) H → tCB rInt1 (tCons ta tNil) σ H Q := fun Q q => ha _ (.inl ⟨a, rfl, q⟩)
/-- xs[k] = v -/
theorem c_setL {to ti : TE} {σ : L2.St} {H : Hp} {v : V} {p : Addr} {xs : List V} {k : Int} {j : Nat} {Q : L2.St → Hp → Prop} (ho : ∀ Q : VK, Q (.ref p) H → to σ H Q) (hi : ∀ Q : VK, Q (.int k) H → ti σ H Q) (h : H p = some (.lst xs)) (hj : ixN xs.length k = some j) (q : Q σ (upd H p (.lst (xs.set j v)))) : gSub to ti rSetL v σ H Q :=
  ho _ (hi _ ⟨p, xs, k, j, rfl, rfl, h, hj, q⟩)
theorem ok_taken {f : Addr} {fd : FuncData} (A : AmOk Am G) (F : Fun K "_law_taken" "_law_taken" sTaken f fd) (B : Glb mg) : FnOk P w K mg base CX0 1 f fd ["row", "many"] (spTaken K Am) := by
  refine F.ok scTaken (fun vs H Q E h => ?_) (fun cdv Ar outer s H vs Q E hr h => ?_)
  · obtain ⟨_, _, _, rfl, _⟩ := h
    rfl
  · obtain ⟨r, a, many, rfl, ⟨ns, i, x, y, hr0, ha, i0⟩, m1, m2, hA, q⟩ := h
    refine ⟨_, pss_cons (ps_if (pt_cmpR op_gt (pe_ix ix_list (pv 0) pe_int (fun _ _ => rfl)) pe_int (nomark _))
        (pss_cons (ps_set (i := 2) scTaken.nd rfl (Or.inl rfl) (pe_op op_mod (pe_callTy call_int1 (by rfl) B.int boot_int' (pa_cons (pe_ix ix_list (pv 0) pe_int (fun _ _ => rfl)) pa_nil)) (pv 1)))
        (pss_cons (ps_asg (pe_op op_fdiv (pe_ix ix_list (pv 0) pe_int (fun _ _ => rfl)) (pv 1)) (pg_sub (pv 0) pe_int set_list))
        (pss_one (ps_ret (pv 2))))) pss_nil)
      (pss_cons (ps_asg (pe_op op_add (pe_ix ix_list (pv 0) pe_int (fun _ _ => rfl)) pe_int) (pg_sub (pv 0) pe_int set_list))
      (pss_cons (ps_if (pt_cmpR op_gt (pe_ix ix_list (pv 0) pe_int (fun _ _ => rfl)) (pe_callB call_len_seq (by rfl) B.len boot_len (pa_cons (pe_ix ix_list (pv 0) pe_int (fun _ _ => rfl)) pa_nil)) (nomark _))
        (pss_cons (ps_asg (pe_op op_mod (pe_callTy call_int1 (by rfl) B.int boot_int' (pa_cons (pe_op op_add (pe_op op_mul (pe_ix ix_list (pv 0) pe_int (fun _ _ => rfl)) pe_int) pe_int) pa_nil)) pe_int) (pg_sub (pv 0) pe_int set_list))
        (pss_one (ps_ret (pe_op op_mod (pe_callTy call_int1 (by rfl) B.int boot_int' (pa_cons (pe_op op_fdiv (pe_ix ix_list (pv 0) pe_int (fun _ _ => rfl)) pe_int) pa_nil)) (pv 1))))) pss_nil)
      (pss_cons (ps_set (i := 3) scTaken.nd rfl (Or.inl rfl) (pe_ix ix_list (pe_ix ix_list (pv 0) pe_int (fun _ _ => rfl)) (pe_op op_sub (pe_ix ix_list (pv 0) pe_int (fun _ _ => rfl)) pe_int) (fun _ _ => rfl)))
      (pss_cons (ps_asg (pe_op op_mod (pe_callTy call_int1 (by rfl) B.int boot_int' (pa_cons (pe_op op_add (pe_op op_add (pe_op op_mul (pe_ix ix_list (pv 0) pe_int (fun _ _ => rfl)) pe_int) (pv 3)) pe_int) pa_nil)) pe_int) (pg_sub (pv 0) pe_int set_list))
      (pss_cons (ps_if (pt_cmpR op_ge (pv 3) (pe_op op_pow pe_int pe_int) (nomark _))
        (pss_one (ps_asg (pe_op op_fdiv (pv 3) (pv 1)) (pg_sub (pv 0) pe_int set_list))) pss_nil)
      (pss_one (ps_ret (pe_op op_mod (pe_callTy call_int1 (by rfl) B.int boot_int' (pa_cons (pv 3) pa_nil)) (pv 1))))))))), ?_⟩
    have mp : 0 < many := by omega
    have md : ∀ z : Int, 0 ≤ z % many ∧ z % many < many := fun z => ⟨Int.emod_nonneg _ (by omega), Int.emod_lt_of_pos _ mp⟩
    have rx : ∀ {H' : Hp} {k : Int} {i x y v : V} {j : Nat}, H' r = some (.lst [.ref a, i, x, y]) → XR r H H' → Am H' → XR r H (upd H' r (.lst ([V.ref a, i, x, y].set j v))) ∧ Am (upd H' r (.lst ([V.ref a, i, x, y].set j v))) ∧ (upd H' r (.lst ([V.ref a, i, x, y].set j v))) r = some (.lst ([V.ref a, i, x, y].set j v)) := fun h1 h2 h3 => ⟨XR.trans h2 XR.upd, A.lst h3 h1, upd_same⟩
    refine c_seq (c_if (c_Bv (v_opb (v_ixL (v_var rfl) v_c (SqL.of hr0) rfl) v_c) ?_))
    by_cases y0 : 0 < y
    · rw [decide_eq_true y0]
      refine iteT (c_seq (c_set (c_v (v_mod (v_int (v_ixL (v_var rfl) v_c (SqL.of hr0) rfl)) (v_var rfl) mp) ?_)))
      dsimp only
      refine c_seq (c_asg (c_v (v_div (v_ixL (v_var rfl) v_c (SqL.of hr0) rfl) (v_var rfl) mp m2) (c_setL (v_var rfl) v_c hr0 (j := 3) rfl ?_)))
      dsimp only
      refine c_ret (c_var rfl (q _ _ (md y).1 (md y).2 XR.upd ⟨ns, i, x, y / many, upd_same, SqA.xr XR.upd ha, i0⟩ (A.lst hA hr0)))
    · rw [decide_eq_false y0]
      refine iteF (c_next ?_)
      dsimp only
      refine c_seq (c_asg (c_v (v_add (v_ixL (v_var rfl) v_c (SqL.of hr0) rfl) v_c) (c_setL (v_var rfl) v_c hr0 (j := 1) rfl ?_)))
      dsimp only
      have h1 : (upd H r (.lst ([V.ref a, .int i, .int x, .int y].set 1 (.int (i + 1))))) r = some (.lst [V.ref a, .int (i + 1), .int x, .int y]) := upd_same
      have x1 : XR r H (upd H r (.lst ([V.ref a, .int i, .int x, .int y].set 1 (.int (i + 1))))) := XR.upd
      have a1 : Am (upd H r (.lst ([V.ref a, .int i, .int x, .int y].set 1 (.int (i + 1))))) := A.lst hA hr0
      generalize (upd H r (.lst ([V.ref a, .int i, .int x, .int y].set 1 (.int (i + 1))))) = H1 at h1 x1 a1
      have s1 := SqA.xr x1 ha
      refine c_seq (c_if (c_Bv (v_opb (v_ixL (v_var rfl) v_c (SqL.of h1) rfl) (v_len (v_ixL (v_var rfl) v_c (SqL.of h1) rfl) (.inl s1.sql))) ?_))
      rw [List.length_map]
      by_cases il : (ns.length : Int) < i + 1
      · rw [decide_eq_true il]
        refine iteT (c_seq (c_asg (c_v (v_mod (v_int (v_add (v_mul (v_ixL (v_var rfl) v_c (SqL.of h1) rfl) v_c (.inr ⟨by decide, by decide⟩)) v_c)) v_c (by decide)) (c_setL (v_var rfl) v_c h1 (j := 2) rfl ?_))))
        dsimp only
        have h2 : (upd H1 r (.lst ([V.ref a, .int (i + 1), .int x, .int y].set 2 (.int ((x * 48271 + 11) % 2147483647))))) r = some (.lst [V.ref a, .int (i + 1), .int ((x * 48271 + 11) % 2147483647), .int y]) := upd_same
        refine c_ret (c_v (v_mod (v_int (v_div (v_ixL (v_var rfl) v_c (SqL.of h2) rfl) v_c (by decide) (by decide))) (v_var rfl) mp) (q _ _ (md _).1 (md _).2 (XR.trans x1 XR.upd) ⟨ns, i + 1, _, y, h2, SqA.xr XR.upd s1, by omega⟩ (A.lst a1 h1)))
      · rw [decide_eq_false il]
        refine iteF (c_next ?_)
        dsimp only
        have il2 : i.toNat < ns.length := by omega
        have hcell : atI (ns.map V.int) (i + 1 - 1) = some (.int (ns.getD i.toNat 0)) := by
          rw [show i + 1 - 1 = i by omega]
          exact atI_map i0 (by omega)
        generalize ns.getD i.toNat 0 = cell at hcell
        refine c_seq (c_set (c_v (v_ixL (v_ixL (v_var rfl) v_c (SqL.of h1) rfl) (v_sub (v_ixL (v_var rfl) v_c (SqL.of h1) rfl) v_c) s1.sql hcell) ?_))
        dsimp only
        refine c_seq (c_asg (c_v (v_mod (v_int (v_add (v_add (v_mul (v_ixL (v_var rfl) v_c (SqL.of h1) rfl) v_c (.inr ⟨by decide, by decide⟩)) (v_var rfl)) v_c)) v_c (by decide)) (c_setL (v_var rfl) v_c h1 (j := 2) rfl ?_)))
        dsimp only
        have h2 : (upd H1 r (.lst ([V.ref a, .int (i + 1), .int x, .int y].set 2 (.int ((x * 48271 + cell + 11) % 2147483647))))) r = some (.lst [V.ref a, .int (i + 1), .int ((x * 48271 + cell + 11) % 2147483647), .int y]) := upd_same
        have x2 : XR r H (upd H1 r (.lst ([V.ref a, .int (i + 1), .int x, .int y].set 2 (.int ((x * 48271 + cell + 11) % 2147483647))))) := XR.trans x1 XR.upd
        have a2 : Am (upd H1 r (.lst ([V.ref a, .int (i + 1), .int x, .int y].set 2 (.int ((x * 48271 + cell + 11) % 2147483647))))) := A.lst a1 h1
        generalize (upd H1 r (.lst ([V.ref a, .int (i + 1), .int x, .int y].set 2 (.int ((x * 48271 + cell + 11) % 2147483647))))) = H2 at h2 x2 a2
        have s2 := SqA.xr x2 ha
        refine c_seq (c_if (c_Bv (v_opb (v_var rfl) (fun Q q => v_c _ (v_c _ ⟨10, 18, rfl, rfl, ⟨by decide, by decide, by decide⟩, q⟩))) ?_))
        by_cases big : (10 : Int) ^ (18 : Int).toNat ≤ cell
        · rw [decide_eq_true big]
          refine iteT (c_asg (c_v (v_div (v_var rfl) (v_var rfl) mp m2) (c_setL (v_var rfl) v_c h2 (j := 3) rfl ?_)))
          dsimp only
          exact c_ret (c_v (v_mod (v_int (v_var rfl)) (v_var rfl) mp) (q _ _ (md _).1 (md _).2 (XR.trans x2 XR.upd) ⟨ns, i + 1, _, cell / many, upd_same, SqA.xr XR.upd s2, by omega⟩ (A.lst a2 h2)))
        · rw [decide_eq_false big]
          refine iteF (c_next ?_)
          dsimp only
          exact c_ret (c_v (v_mod (v_int (v_var rfl)) (v_var rfl) mp) (q _ _ (md _).1 (md _).2 x2 ⟨ns, i + 1, _, y, h2, s2, by omega⟩ a2))
end
end Mk

/-! ### MkAlike -/
set_option Elab.async false
set_option linter.all false
set_option maxRecDepth 100000
set_option maxHeartbeats 4000000
namespace Mk
open PySem PySem.Spec PyProof.Rows L2
open GxR (TabG Tabbed)
abbrev sAlike : Stmt := top 44
structure Glb2 (mg : Str → Option Value) : Prop where
  rng : mg "range" = none
  str : mg "str" = none
theorem boot_str' : bootBuiltins "str" = some (.type "str") := by decide +kernel
/-- xs[i] of a list or a tuple -/
def rIxS (K : PySem.W.Frag) : R2 := fun x y H Q => rIxL K x y H Q ∨ rIxT K x y H Q
theorem ix_seq {X : Cx} : IxR X (rIxS X.K) := fun value slice pins s σ H x y v u Q I rx ry h hs => h.elim (fun h => ix_list value slice pins s σ H x y v u Q I rx ry h hs) (fun h => ix_tup value slice pins s σ H x y v u Q I rx ry h hs)
theorem v_ixS {K : PySem.W.Frag} {ta tb : TE} {σ : L2.St} {H : Hp} {a : Addr} {xs : List V} {j : Int} {v : V} (ha : ∀ Q : VK, Q (.ref a) H → ta σ H Q) (hb : ∀ Q : VK, Q (.int j) H → tb σ H Q) (h : SqL K H a xs ∨ SqT K H a xs) (e : atI xs j = some v) : ∀ Q : VK, Q v H → tOp (rIxS K) ta tb σ H Q := fun Q q =>
  ha _ (hb _ (h.elim (fun h => .inl ⟨a, xs, j, v, rfl, rfl, h, e, q⟩) (fun h => .inr ⟨a, xs, j, v, rfl, rfl, h, e, q⟩)))
theorem kit_tl {K : PySem.W.Frag} (d : D) : PySem.W.kitAny K (.type (tyD d)) [.type "tuple", .type "list"] = some (isTup d || isLst d) := by
  refine kitAny_cons (kit_ty (kit_tuple d)) (fun h => ?_) (fun h => by rw [h]; rfl)
  rw [h]
  exact kitAny_cons (kit_ty (kit_list d)) (fun h => by rw [h]; rfl) (fun h => by rw [h]; rfl)
/-- isinstance(x, (tuple, list)) -/
theorem c_isTL {K : PySem.W.Frag} {σ : L2.St} {H : Hp} {i : Nat} {v : V} {d : D} {Q : VK} (e : σ[i]? = some (some v)) (hd : Im K H d v) (q : ∀ p, H p = none → Q (.bl (isTup d || isLst d)) (upd H p (.tup [.ty "tuple", .ty "list"]))) :
    tCB (rIsiT K) (tCons (tVar i) (tCons (tTup (tCons (tC (.ty "tuple")) (tCons (tC (.ty "list")) tNil))) tNil)) σ H Q :=
  ⟨v, e, ⟨sz (by show 2 ≤ _; decide), fun p hp => ⟨v, p, _, _, [.type "tuple", .type "list"], _, rfl, upd_same, .cons (.ty _) (.cons (.ty _) .nil), (hd.mono (ExtN.ee (ExtN.new hp))).ty, kit_tl d, q p hp⟩⟩⟩
theorem v_isInt {K : PySem.W.Frag} {σ : L2.St} {H : Hp} {i : Nat} {v : V} {d : D} (e : σ[i]? = some (some v)) (hd : Im K H d v) : ∀ Q : VK, Q (.bl (isInt d)) H → tCB (rIsi K) (tCons (tVar i) (tCons (tC (.ty "int")) tNil)) σ H Q := fun Q q => c_isInt e hd q
theorem v_isBool {K : PySem.W.Frag} {σ : L2.St} {H : Hp} {i : Nat} {v : V} {d : D} (e : σ[i]? = some (some v)) (hd : Im K H d v) : ∀ Q : VK, Q (.bl (isBool d)) H → tCB (rIsi K) (tCons (tVar i) (tCons (tC (.ty "bool")) tNil)) σ H Q := fun Q q => c_isBool e hd q
theorem v_isLst {K : PySem.W.Frag} {σ : L2.St} {H : Hp} {i : Nat} {v : V} {d : D} (e : σ[i]? = some (some v)) (hd : Im K H d v) : ∀ Q : VK, Q (.bl (isLst d)) H → tCB (rIsi K) (tCons (tVar i) (tCons (tC (.ty "list")) tNil)) σ H Q := fun Q q => c_isLst e hd q
theorem v_isStr {K : PySem.W.Frag} {σ : L2.St} {H : Hp} {i : Nat} {v : V} {d : D} (e : σ[i]? = some (some v)) (hd : Im K H d v) : ∀ Q : VK, Q (.bl (isStr d)) H → tCB (rIsi K) (tCons (tVar i) (tCons (tC (.ty "str")) tNil)) σ H Q := fun Q q => c_isStr e hd q
/-! data of numbers, lists and tuples, and its depth -/
mutual
def dp : D → Nat
  | .tup l => dpL l + 1
  | .lst l => dpL l + 1
  | _ => 0
def dpL : List D → Nat
  | [] => 0
  | d :: ds => max (dp d) (dpL ds)
end
mutual
def pln : D → Prop
  | .int _ => True
  | .tup l => l.length ≤ 10000 ∧ plnL l
  | .lst l => l.length ≤ 10000 ∧ plnL l
  | _ => False
def plnL : List D → Prop
  | [] => True
  | d :: ds => pln d ∧ plnL ds
end
theorem dpL_get : ∀ {l : List D} {i : Nat} {d : D}, l[i]? = some d → dp d ≤ dpL l
  | [], i, d, h => by cases h
  | a :: l, 0, d, h => by cases h; unfold dpL; exact Nat.le_max_left _ _
  | a :: l, i + 1, d, h => by unfold dpL; exact Nat.le_trans (dpL_get (i := i) h) (Nat.le_max_right _ _)
theorem plnL_get : ∀ {l : List D} {i : Nat} {d : D}, plnL l → l[i]? = some d → pln d
  | [], i, d, _, h => by cases h
  | a :: l, 0, d, p, h => by cases h; unfold plnL at p; exact p.1
  | a :: l, i + 1, d, p, h => by unfold plnL at p; exact plnL_get (i := i) p.2 h
/-- [.. for i in range(n) if ..] -/
theorem c_lcR {n : Int} {j : Nat} {ta : TA} {te : TE} {tt : TT} {σ : L2.St} {H : Hp} {vs : List Nat} {Q : VK} (ha : ∀ Q : List V → Hp → Prop, Q [.int n] H → ta σ H Q) (h1 : -(2 ^ 62) ≤ n) (h2 : n < 2 ^ 62) (hjs : ∀ x, wipe ((wipe σ vs).set j (some x)) vs = wipe σ vs) (Pv : Addr → Nat → Hp → Prop)
    (h0 : ∀ D, H D = none → Pv D 0 (upd H D (.lst [])))
    (hs : ∀ D (i : Nat) H', H D = none → i < n.toNat → Pv D i H' → tt ((wipe σ vs).set j (some (.int (i : Int)))) H' fun b H3 => if b = true then te ((wipe σ vs).set j (some (.int (i : Int)))) H3 fun y H4 => ∃ acc, H4 D = some (.lst acc) ∧ acc.length < sizeLine ∧ Pv D (i + 1) (upd H4 D (.lst (acc ++ [y]))) else Pv D (i + 1) H3) (hd : ∀ D H', H D = none → Pv D n.toNat H' → Q (.ref D) H') :
    tLc (iRng1 ta) (gName j) tt te vs σ H Q := ha _ ⟨n, rfl, h1, h2, fun D hD => ⟨fun i m H' => m = n.toNat - i ∧ i ≤ n.toNat ∧ Pv D i H', ⟨_, rfl, Nat.zero_le _, h0 D hD⟩, by
  rintro i m H' ⟨rfl, hi, p⟩
  by_cases hlt : i < n.toNat
  · refine .inr ⟨hlt, Pv D (i + 1), fun H' p' => ⟨n.toNat - (i + 1), by omega, rfl, hlt, p'⟩, fun x H2 y => ?_⟩
    obtain ⟨rfl, rfl⟩ := y
    have e : (0 : Int) + (i : Int) = (i : Int) := by omega
    rw [e]
    exact ⟨hjs _, hs D i _ hD hlt p⟩
  · have e : i = n.toNat := by omega
    subst e
    exact .inl ⟨Nat.le_refl _, hd D _ hD p⟩⟩⟩
section
variable {P : Program} {w : World} {K : PySem.W.Frag} {mg : Str → Option Value} {base : Heap} {Am : Hp → Prop} {G : List Addr}
def spAlike (K : PySem.W.Frag) (Am : Hp → Prop) (m : Nat) : Sp := fun vs H Q _ => ∃ (d : D) (f g : V), vs = [f, g] ∧ Im K H d f ∧ Im K H d g ∧ pln d ∧ dp d < m ∧ Am H ∧ Rt Am H Q (.bl true)
theorem scAlike : FnScope ["found", "due", "k"] ["found", "due"] (defScope sAlike) := ⟨rfl, rfl, rfl, by decide +kernel, rfl, by decide +kernel, by decide +kernel⟩
theorem ok_alike {f : Addr} {fd : FuncData} (A : AmOk Am G) (F : Fun K "_law_alike" "_law_alike" sAlike f fd) (B : Glb mg) (B2 : Glb2 mg) (b : Binds K fd ["found", "due"] []) (g : mg "_law_alike" = some (.ref f)) : ∀ m, FnOk P w K mg base CX0 m f fd ["found", "due"] (spAlike K Am m)
  | 0 => ⟨fun vs H Q E h => by obtain ⟨_, _, _, rfl, _⟩ := h; rfl, fun A outer s H args us vs Q E _ _ _ _ h => by obtain ⟨_, _, _, _, _, _, _, h, _⟩ := h; exact absurd h (Nat.not_lt_zero _)⟩
  | m + 1 => by
    have ih := ok_alike A F B B2 b g m
    refine F.ok scAlike (fun vs H Q E h => ?_) (fun cdv Ar outer s H vs Q E hr h => ?_)
    · obtain ⟨_, _, _, rfl, _⟩ := h
      rfl
    · obtain ⟨d, vf, vg, rfl, hf, hg, pl, dm, hA, q⟩ := h
      have tyv : ∀ {x : Str} {n : String}, True := fun {_ _} => True.intro
      refine ⟨_, pss_cons (ps_if (pt_val (pe_callB call_isiT (by rfl) B.isi boot_isi (pa_cons (pv 1) (pa_cons (pe_tup (pa_cons (pe_bltn (v := .ty "tuple") (by rfl) B.tuple boot_tuple' rfl) (pa_cons (pe_bltn (v := .ty "list") (by rfl) B.list boot_list' rfl) pa_nil))) pa_nil))))
          (pss_cons (ps_if (PW.pt (pw_or (pt_not (pt_val (pe_callB call_isiT (by rfl) B.isi boot_isi (pa_cons (pv 0) (pa_cons (pe_tup (pa_cons (pe_bltn (v := .ty "tuple") (by rfl) B.tuple boot_tuple' rfl) (pa_cons (pe_bltn (v := .ty "list") (by rfl) B.list boot_list' rfl) pa_nil))) pa_nil)))))
              (pw_or1 (pt_cmpR op_ne (pe_callB call_isi (by rfl) B.isi boot_isi (pa_cons (pv 0) (pa_cons (pe_bltn (v := .ty "list") (by rfl) B.list boot_list' rfl) pa_nil))) (pe_callB call_isi (by rfl) B.isi boot_isi (pa_cons (pv 1) (pa_cons (pe_bltn (v := .ty "list") (by rfl) B.list boot_list' rfl) pa_nil))) (nomark _))))) (pss_one (ps_ret pe_bl)) pss_nil)
          (pss_cons (ps_if (pt_cmpR op_ne (pe_callB call_len_seq (by rfl) B.len boot_len (pa_cons (pv 0) pa_nil)) (pe_callB call_len_seq (by rfl) B.len boot_len (pa_cons (pv 1) pa_nil)) (nomark _)) (pss_one (ps_ret pe_bl)) pss_nil)
          (pss_one (ps_ret (pe_cmpR (op_eqD (by have := hr.un; show Ar.units + 3 + 64 < cLine; have e : (Ar.deeper (envOfC "_law_alike" (defScope sAlike) s.heap.objs.size f cdv)).units = Ar.units + 3 := rfl; omega))
            (pe_lc (own := [("k", 2)]) rfl scAlike.nd (pi_range1 (by rfl) B2.rng (pa_cons (pe_callB call_len_seq (by rfl) B.len boot_len (pa_cons (pv 1) pa_nil)) pa_nil)) (blkOk_by (N := ["found", "due", "k"]) (sc := defScope sAlike) (by decide +kernel)) (fun _ _ _ _ _ => pg_name (i := 2) scAlike.nd rfl (Or.inl rfl))
              (fun _ _ _ _ _ => pts_one (pt_not (pt_val (pe_call ih hr (by rfl) g F.kp b .nil pass0 (pa_cons (pe_ix (r := rIxS K) ix_seq (pv 0) (pv 2) (fun _ _ => rfl)) (pa_cons (pe_ix (r := rIxS K) ix_seq (pv 1) (pv 2) (fun _ _ => rfl)) pa_nil)))))) (fun _ _ _ _ _ => pv 2)) (pe_lst pa_nil) (nomark _)))))) pss_nil)
        (pss_cons (ps_if (PW.pt (pw_or (pt_cmp (pc_isN (pv 1))) (pw_or1 (pt_val (pe_callB call_isi (by rfl) B.isi boot_isi (pa_cons (pv 1) (pa_cons (pe_bltn (v := .ty "str") (by rfl) B2.str boot_str' rfl) pa_nil)))))))
          (pss_one (ps_ret (pe_and (pe_cmpR op_eq (pv 0) (pv 1) (nomark _)) (pe_one (pe_cmpR op_eq (pe_callB call_isi (by rfl) B.isi boot_isi (pa_cons (pv 0) (pa_cons (pe_bltn (v := .ty "str") (by rfl) B2.str boot_str' rfl) pa_nil))) (pe_callB call_isi (by rfl) B.isi boot_isi (pa_cons (pv 1) (pa_cons (pe_bltn (v := .ty "str") (by rfl) B2.str boot_str' rfl) pa_nil))) (nomark _)))))) pss_nil)
        (pss_one (ps_ret (pe_and (pe_callB call_isi (by rfl) B.isi boot_isi (pa_cons (pv 0) (pa_cons (pe_bltn (v := .ty "int") (by rfl) B.int boot_int' rfl) pa_nil)))
          (pe_and (pe_cmpR op_eq (pe_callB call_isi (by rfl) B.isi boot_isi (pa_cons (pv 0) (pa_cons (pe_bltn (v := .ty "bool") (by rfl) B.bool boot_bool' rfl) pa_nil))) (pe_callB call_isi (by rfl) B.isi boot_isi (pa_cons (pv 1) (pa_cons (pe_bltn (v := .ty "bool") (by rfl) B.bool boot_bool' rfl) pa_nil))) (nomark _))
            (pe_one (pe_cmpR op_eq (pv 0) (pv 1) (nomark _)))))))), ?_⟩
      have cs : (∃ l : List D, (d = .tup l ∨ d = .lst l) ∧ l.length ≤ 10000 ∧ plnL l ∧ dpL l < m ∧ (∃ a xs, vf = .ref a ∧ (SqL K H a xs ∨ SqT K H a xs) ∧ ImL K H l xs) ∧ (∃ a xs, vg = .ref a ∧ (SqL K H a xs ∨ SqT K H a xs) ∧ ImL K H l xs)) ∨ ∃ i, d = .int i := by
        cases d with
        | tup l =>
          unfold pln at pl
          unfold dp at dm
          refine .inl ⟨l, .inl rfl, pl.1, pl.2, by omega, ?_, ?_⟩
          · obtain ⟨a, xs, rfl, hx, hl⟩ := im_tup' hf
            exact ⟨a, xs, rfl, .inr hx, hl⟩
          · obtain ⟨a, xs, rfl, hx, hl⟩ := im_tup' hg
            exact ⟨a, xs, rfl, .inr hx, hl⟩
        | lst l =>
          unfold pln at pl
          unfold dp at dm
          refine .inl ⟨l, .inr rfl, pl.1, pl.2, by omega, ?_, ?_⟩
          · obtain ⟨a, xs, rfl, hx, hl⟩ := (show ∃ a xs, vf = .ref a ∧ SqL K H a xs ∧ ImL K H l xs by unfold Im at hf; exact hf)
            exact ⟨a, xs, rfl, .inl hx, hl⟩
          · obtain ⟨a, xs, rfl, hx, hl⟩ := (show ∃ a xs, vg = .ref a ∧ SqL K H a xs ∧ ImL K H l xs by unfold Im at hg; exact hg)
            exact ⟨a, xs, rfl, .inl hx, hl⟩
        | int i => exact .inr ⟨i, rfl⟩
        | non => unfold pln at pl; exact pl.elim
        | bl _ => unfold pln at pl; exact pl.elim
        | str _ => unfold pln at pl; exact pl.elim
      rcases cs with ⟨l, hd, ll, pll, dl, ⟨a, xs, ea, ha, hxs⟩, ⟨c, ys, ec, hc, hys⟩⟩ | ⟨i, rfl⟩
      · subst ea ec
        have htl : (isTup d || isLst d) = true := by rcases hd with rfl | rfl <;> rfl
        refine c_seq (c_if (c_B (c_isTL rfl hg fun p hp => ⟨_, rfl, ?_⟩)))
        rw [htl]
        refine iteT (c_seq (c_if (c_or (c_not (c_B (c_isTL rfl (hf.mono (ExtN.ee (ExtN.new hp))) fun p2 hp2 => ⟨_, rfl, ?_⟩))))))
        rw [htl]
        have e2 : ExtN H (upd (upd H p (.tup [.ty "tuple", .ty "list"])) p2 (.tup [.ty "tuple", .ty "list"])) := LamX.ExtN.trans (ExtN.new hp) (ExtN.new hp2)
        have a2 : Am (upd (upd H p (.tup [.ty "tuple", .ty "list"])) p2 (.tup [.ty "tuple", .ty "list"])) := A.new (A.new hA hp) hp2
        generalize (upd (upd H p (.tup [.ty "tuple", .ty "list"])) p2 (.tup [.ty "tuple", .ty "list"])) = H2 at e2 a2
        have mo : ∀ {H3 : Hp} {a : Addr} {xs : List V}, ExtN H H3 → (SqL K H a xs ∨ SqT K H a xs) → (SqL K H3 a xs ∨ SqT K H3 a xs) := fun e h => h.elim (fun h => .inl ((ExtN.ee e).l _ _ h)) (fun h => .inr ((ExtN.ee e).t _ _ h))
        refine iteF (c_Bv (v_ne (v_isLst rfl (hf.mono (ExtN.ee e2))) (v_isLst rfl (hg.mono (ExtN.ee e2))) rfl) ?_)
        rw [decide_eq_true rfl]
        refine iteF (c_next ?_)
        dsimp only
        refine c_seq (c_if (c_Bv (v_ne (v_len (v_var rfl) (mo e2 ha)) (v_len (v_var rfl) (mo e2 hc)) rfl) ?_))
        rw [hxs.length, hys.length, decide_eq_true rfl]
        refine iteF (c_next ?_)
        dsimp only
        refine c_ret (c_op (c_lcR (va_cons (v_len (v_var rfl) (mo e2 hc)) va_nil) (by omega) (by rw [hys.length]; omega) (fun _ => rfl) (fun D i H' => ExtN H2 H' ∧ Am H' ∧ H' D = some (.lst []))
          (fun D hD => ⟨ExtN.new hD, A.new a2 hD, upd_same⟩) (fun D i H' hD hi ⟨e3, a3, hDl⟩ => ?_) (fun D H' hD ⟨e3, a3, hDl⟩ => ?_)))
        · rw [hys.length] at hi
          have il : i < l.length := by omega
          obtain ⟨x, hx, imx⟩ := hxs.get' (List.getElem?_eq_getElem il)
          obtain ⟨y, hy, imy⟩ := hys.get' (List.getElem?_eq_getElem il)
          have e4 := LamX.ExtN.trans e2 e3
          have dle := dpL_get (List.getElem?_eq_getElem il)
          refine c_not (c_B (c_callv (va_cons (v_ixS (v_var rfl) (v_var rfl) (mo e4 ha) (atI_nat hx)) (va_cons (v_ixS (v_var rfl) (v_var rfl) (mo e4 hc) (atI_nat hy)) va_nil)) ⟨_, x, y, rfl, imx.mono (ExtN.ee e4), imy.mono (ExtN.ee e4), plnL_get pll (List.getElem?_eq_getElem il), by omega, a3, fun H5 e5 a5 => ⟨_, rfl, ?_⟩⟩))
          exact iteF ⟨LamX.ExtN.trans e3 e5, a5, e5 _ _ hDl fun ps z => by cases z⟩
        · refine c_lst va_nil (Nat.zero_le _) fun p5 hp5 => ?_
          exact ⟨.list [], .list [], .lst (SqL.of (by rw [upd_ne (ne_of_none hDl hp5)]; exact hDl)) .nil, .lst (SqL.of upd_same) .nil, rfl, rfl, q _ (LamX.ExtN.trans (LamX.ExtN.trans e2 e3) (ExtN.new hp5)) (A.new a3 hp5)⟩
      · obtain rfl := im_int' hf
        obtain rfl := im_int' hg
        refine c_seq (c_if (c_B (c_isTL rfl hg fun p hp => ⟨_, rfl, iteF (c_next ?_)⟩)))
        dsimp only
        have e1 : ExtN H (upd H p (.tup [.ty "tuple", .ty "list"])) := ExtN.new hp
        have a1 : Am (upd H p (.tup [.ty "tuple", .ty "list"])) := A.new hA hp
        generalize (upd H p (.tup [.ty "tuple", .ty "list"])) = H1 at e1 a1
        have hi : Im K H1 (.int i) (.int i) := im_int
        refine c_seq (c_if (c_or (c_B (c_var rfl ⟨_, rfl, ?_⟩))))
        rw [show decide (V.int i = V.non) = false from decide_eq_false (by intro z; cases z)]
        refine iteF (c_Bv (v_isStr rfl hi) (iteF (c_next ?_)))
        dsimp only
        refine c_ret (c_andV (c_isInt rfl hi ⟨_, rfl, iteT (c_andV (v_eq (v_isBool rfl hi) (v_isBool rfl hi) rfl _ ⟨_, rfl, ?_⟩))⟩))
        rw [decide_eq_true rfl]
        refine iteT (v_eq (v_var rfl) (v_var rfl) rfl _ ?_)
        rw [decide_eq_true rfl]
        exact q _ e1 a1
end
end Mk

/-! ### MkLaw2 -/
set_option Elab.async false
set_option linter.all false
set_option maxRecDepth 100000
set_option maxHeartbeats 4000000
namespace Mk
open PySem PySem.Spec PyProof.Rows L2
open GxR (TabG Tabbed)
abbrev sLed : Stmt := top 46
abbrev sLAns : Stmt := top 47
abbrev sLTags : Stmt := top 48
abbrev sLPaths : Stmt := top 49
/-- the state that a way leads to -/
def ledI (rows : List (List Int)) (s : Int) (way : List Int) : Int := way.foldl (nxtI rows) s
theorem led_rng {rows : List (List Int)} {ans : List Int} {n : Nat} (q : QOk rows ans n) : ∀ {way : List Int} {s : Int}, 0 ≤ s → s < rows.length → (∀ t ∈ way, 0 ≤ t ∧ t < n) → 0 ≤ ledI rows s way ∧ ledI rows s way < rows.length
  | [], s, h0, h1, _ => ⟨h0, h1⟩
  | t :: w, s, h0, h1, h => by
    have z := nxt_rng q h0 h1 (h t (List.mem_cons_self ..)).1 (h t (List.mem_cons_self ..)).2
    exact led_rng q (way := w) z.1 z.2 fun x hx => h x (List.mem_cons_of_mem _ hx)
/-- a question as it stands: its parts -/
theorem im_qd {K : PySem.W.Frag} {H : Hp} {rows : List (List Int)} {ans : List Int} {v : V} (h : Im K H (QD rows ans) v) : ∃ aq as aa xs, v = .ref aq ∧ SqT K H aq [.ref as, .ref aa] ∧ SqT K H as xs ∧ ImL K H (rows.map RD) xs ∧ SqT K H aa (ans.map .int) := by
  obtain ⟨aq, xq, rfl, hxq, hlq⟩ := im_tup' h
  obtain ⟨vs, ys, rfl, ims, hl2⟩ := imL_tup1 hlq
  obtain ⟨va, zs, rfl, ima, hl3⟩ := imL_tup1 hl2
  obtain rfl : zs = [] := by unfold ImL at hl3; exact hl3
  obtain ⟨as, xs, rfl, hs, hls⟩ := im_tup' ims
  obtain ⟨aa, rfl, hxa⟩ := im_rd ima
  exact ⟨aq, as, aa, xs, rfl, hxq, hs, hls, hxa⟩
theorem getD_len {rows : List (List Int)} {ans : List Int} {n : Nat} (q : QOk rows ans n) {i : Nat} (h : i < rows.length) : (rows.getD i []).length = n := q.len _ (by rw [List.getD_eq_getElem?_getD, List.getElem?_eq_getElem h]; exact List.getElem_mem _)
section
variable {P : Program} {w : World} {K : PySem.W.Frag} {mg : Str → Option Value} {base : Heap} {Am : Hp → Prop} {G : List Addr}
def spLed (K : PySem.W.Frag) : Sp := fun vs H Q _ => ∃ (rows : List (List Int)) (ans : List Int) (n : Nat) (s : Int) (way : List Int) (vq vw : V), vs = [vq, .int s, vw] ∧ Im K H (QD rows ans) vq ∧ QOk rows ans n ∧ 0 ≤ s ∧ s < rows.length ∧ Im K H (RD way) vw ∧ (∀ t ∈ way, 0 ≤ t ∧ t < n) ∧ Q (.int (ledI rows s way)) H
theorem scLed : FnScope ["question", "state", "way", "name"] ["question", "state", "way"] (defScope sLed) := ⟨rfl, rfl, rfl, by decide +kernel, rfl, by decide +kernel, by decide +kernel⟩
theorem ok_led {f : Addr} {fd : FuncData} (F : Fun K "_law_led" "_law_led" sLed f fd) : FnOk P w K mg base CX0 1 f fd ["question", "state", "way"] (spLed K) := by
  refine F.ok scLed (fun vs H Q E h => ?_) (fun cdv Ar outer s H vs Q E hr h => ?_)
  · obtain ⟨_, _, _, _, _, _, _, rfl, _⟩ := h
    rfl
  · obtain ⟨rows, ans, n, st, way, vq, vw, rfl, hq, qok, s0, s1, hw, wr, q⟩ := h
    refine ⟨_, pss_cons (ps_for PassesOwn.never rfl (pi_tup (pv 2)) (pg_name (i := 3) scLed.nd rfl (Or.inl rfl))
        (pss_one (ps_set (i := 1) scLed.nd rfl (Or.inl rfl) (pe_ix ix_tup (pe_ix ix_tup (pe_ix ix_tup (pv 0) pe_int (fun _ _ => rfl)) (pv 1) (fun _ _ => rfl)) (pv 3) (fun _ _ => rfl)))))
      (pss_one (ps_ret (pv 1))), ?_⟩
    obtain ⟨aq, as, aa, xs, rfl, h1, h2, h3, h4⟩ := im_qd hq
    obtain ⟨aw, rfl, hx⟩ := im_rd hw
    refine c_seq (c_forT (v_var rfl) hx (fun i σ H' => ∃ (z : Int) (o : Option V), H' = H ∧ σ = [some (.ref aq), some (.int z), some (.ref aw), o] ∧ 0 ≤ z ∧ z < rows.length ∧ ledI rows z (way.drop i) = ledI rows st way)
      ⟨st, _, rfl, rfl, s0, s1, rfl⟩ (fun i σ H' ⟨_, _, e, _⟩ => by rw [e]; exact hx) (fun σ H' ⟨z, o, e, es, z0, z1, r⟩ => ?_) (fun i x σ H' hi ⟨z, o, e, es, z0, z1, r⟩ => ?_))
    · subst es e
      dsimp only
      rw [List.length_map, List.drop_length] at r
      have r : z = ledI rows st way := r
      rw [← r] at q
      exact c_ret (c_var rfl q)
    · subst es e
      obtain ⟨t, rfl, hdr⟩ := map_drop hi
      rw [hdr] at r
      have tr := wr t (by
        have : t ∈ way.drop i := by rw [hdr]; exact List.mem_cons_self ..
        exact List.mem_of_mem_drop this)
      obtain ⟨b, hb, hbx⟩ := imL_row h3 (i := z.toNat) (by omega)
      have gl := getD_len qok (i := z.toNat) (by omega)
      have nr := nxt_rng qok z0 z1 tr.1 tr.2
      exact c_set (c_v (v_ixT (v_ixT (v_ixT (v_var rfl) v_c h1 (atI_nat (j := 0) rfl)) (v_var rfl) h2 (by rw [show z = ((z.toNat : Nat) : Int) by omega]; exact atI_nat hb)) (v_var rfl) hbx (atI_map tr.1 (by omega))) ⟨nxtI rows z t, _, rfl, rfl, nr.1, nr.2, r⟩)
def spLAns (K : PySem.W.Frag) : Sp := fun vs H Q _ => ∃ (rows : List (List Int)) (ans : List Int) (n : Nat) (way : List Int) (vq vw : V), vs = [vq, vw] ∧ Im K H (QD rows ans) vq ∧ QOk rows ans n ∧ Im K H (RD way) vw ∧ (∀ t ∈ way, 0 ≤ t ∧ t < n) ∧ Q (.int (ans.getD (ledI rows 0 way).toNat 0)) H
theorem scLAns : FnScope ["question", "way"] ["question", "way"] (defScope sLAns) := ⟨rfl, rfl, rfl, by decide +kernel, rfl, by decide +kernel, by decide +kernel⟩
theorem ok_lans {f fL : Addr} {fd fdL : FuncData} (F : Fun K "_law_answer" "_law_answer" sLAns f fd) (GL : Def P w K mg base CX0 1 "_law_led" fL fdL ["question", "state", "way"] (spLed K)) : FnOk P w K mg base CX0 2 f fd ["question", "way"] (spLAns K) := by
  refine F.ok scLAns (fun vs H Q E h => ?_) (fun cdv Ar outer s H vs Q E hr h => ?_)
  · obtain ⟨_, _, _, _, _, _, rfl, _⟩ := h
    rfl
  · obtain ⟨rows, ans, n, way, vq, vw, rfl, hq, qok, hw, wr, q⟩ := h
    refine ⟨_, pss_one (ps_ret (pe_ix ix_tup (pe_ix ix_tup (pv 0) pe_int (fun _ _ => rfl)) (pe_call GL.ok (hr.mono (by decide)) (by rfl) GL.g GL.kp GL.b .nil pass0 (pa_cons (pv 0) (pa_cons pe_int (pa_cons (pv 1) pa_nil)))) (fun _ _ => rfl))), ?_⟩
    obtain ⟨aq, as, aa, xs, rfl, h1, h2, h3, h4⟩ := im_qd hq
    have p0 := qok.s1
    have al := qok.al
    have lr := led_rng qok (Int.le_refl 0) (by omega) wr
    exact c_ret (v_ixT (v_ixT (v_var rfl) v_c h1 (atI_nat (j := 1) rfl)) (fun Q q => c_callv (va_cons (v_var rfl) (va_cons v_c (va_cons (v_var rfl) va_nil))) ⟨rows, ans, n, 0, way, _, vw, rfl, hq, qok, Int.le_refl _, by omega, hw, wr, q⟩) h4 (atI_map lr.1 (by omega)) _ q)
/-! ### _law_pick -/
def spPick (K : PySem.W.Frag) (Am : Hp → Prop) : Sp := fun vs H Q _ => ∃ (r a l : Addr) (xs : List V), vs = [.ref r, .ref l] ∧ RowAt K H r a ∧ SqL K H l xs ∧ l ≠ r ∧ 1 ≤ xs.length ∧ xs.length < 1000 ∧ Am H ∧ ∀ (j : Nat) v H', xs[j]? = some v → XR r H H' → RowAt K H' r a → Am H' → Q v H'
theorem scPick : FnScope ["row", "things"] ["row", "things"] (defScope sPick) := ⟨rfl, rfl, rfl, by decide +kernel, rfl, by decide +kernel, by decide +kernel⟩
theorem ok_pick {f fT : Addr} {fd fdT : FuncData} (F : Fun K "_law_pick" "_law_pick" sPick f fd) (B : Glb mg) (GT : Def P w K mg base CX0 1 "_law_taken" fT fdT ["row", "many"] (spTaken K Am)) : FnOk P w K mg base CX0 2 f fd ["row", "things"] (spPick K Am) := by
  refine F.ok scPick (fun vs H Q E h => ?_) (fun cdv Ar outer s H vs Q E hr h => ?_)
  · obtain ⟨_, _, _, _, rfl, _⟩ := h
    rfl
  · obtain ⟨r, a, l, xs, rfl, ra, hl, nlr, l1, l2, hA, q⟩ := h
    refine ⟨_, pss_one (ps_ret (pe_ix ix_list (pv 1) (pe_call GT.ok (hr.mono (by decide)) (by rfl) GT.g GT.kp GT.b .nil pass0 (pa_cons (pv 0) (pa_cons (pe_callB call_len_seq (by rfl) B.len boot_len (pa_cons (pv 1) pa_nil)) pa_nil))) (fun _ _ => rfl))), ?_⟩
    refine c_ret (c_op (c_var rfl (c_callv (va_cons (v_var rfl) (va_cons (v_len (v_var rfl) (.inl hl)) va_nil)) ⟨r, a, _, rfl, ra, by omega, by omega, hA, fun k H' k0 k1 xr ra' a' => ?_⟩)))
    have hk : k.toNat < xs.length := by omega
    obtain ⟨v, hv⟩ : ∃ v, xs[k.toNat]? = some v := ⟨_, List.getElem?_eq_getElem hk⟩
    have ea : atI xs k = some v := by
      have z := atI_nat hv
      rw [Int.toNat_of_nonneg k0] at z
      exact z
    exact ⟨l, xs, k, v, rfl, rfl, XR.sql xr nlr hl, ea, q k.toNat _ H' hv xr ra' a'⟩
/-! ### _law_tags -/
def openN : List Int → Nat → Nat
  | [], k => k
  | t :: r, k => openN r (if t = -1 then k - 1 else k + 1)
theorem rowOk_snoc {n t : Int} : ∀ {is : List Int} {k : Nat}, RowOk n is k → ((t = -1 ∧ 0 < openN is k) ∨ (0 ≤ t ∧ t ≤ n - 1)) → RowOk n (is ++ [t]) k ∧ openN (is ++ [t]) k = if t = -1 then openN is k - 1 else openN is k + 1
  | [], k, _, h => ⟨h.elim (fun h => .inl ⟨h.1, h.2, True.intro⟩) (fun h => .inr ⟨h.1, h.2, True.intro⟩), rfl⟩
  | a :: is, k, ok, h => by
    rcases ok with ⟨rfl, hk, ok⟩ | ⟨h0, h1, ok⟩
    · obtain ⟨e1, e2⟩ := rowOk_snoc (is := is) ok h
      exact ⟨.inl ⟨rfl, hk, e1⟩, e2⟩
    · have na : ¬ a = -1 := by omega
      have e : openN (a :: is) k = openN is (k + 1) := by show openN is (if a = -1 then _ else _) = _; rw [if_neg na]
      have e' : openN (a :: is ++ [t]) k = openN (is ++ [t]) (k + 1) := by show openN (is ++ [t]) (if a = -1 then _ else _) = _; rw [if_neg na]
      rw [e] at h ⊢
      rw [e']
      obtain ⟨e1, e2⟩ := rowOk_snoc (is := is) ok h
      exact ⟨.inr ⟨h0, h1, e1⟩, e2⟩
def spLTags (K : PySem.W.Frag) (Am : Hp → Prop) : Sp := fun vs H Q _ => ∃ (r a : Addr) (n many : Int), vs = [.ref r, .int n, .int many] ∧ RowAt K H r a ∧ 1 ≤ n ∧ n ≤ 10 ∧ 0 ≤ many ∧ many ≤ 1000 ∧ Am H ∧ ∀ is v H', RowOk n is 0 → (is.length : Int) ≤ many → XR r H H' → RowAt K H' r a → Am H' → Im K H' (RD is) v → Q v H'
theorem scLTags : FnScope ["row", "names", "many", "found", "deep", "turn", "tag"] ["row", "names", "many"] (defScope sLTags) := ⟨rfl, rfl, rfl, by decide +kernel, rfl, by decide +kernel, by decide +kernel⟩
theorem v_step2 {σ : L2.St} {H : Hp} {i : Nat} {t : Int} (e : σ[i]? = some (some (.int t))) : ∀ Q : VK, Q (.int (if 0 ≤ t then 1 else -1)) H → tIf (tTest (tOp (rI0 fun i j => .bl (decide (j ≤ i))) (tVar i) (tC (.int 0)))) (tC (.int 1)) (tOp (rI0 fun i j => .int (i - j)) (tC (.int 0)) (tC (.int 1))) σ H Q := fun Q q => by
  refine c_ifE (c_testv (v_opb (v_var e) v_c) ?_)
  by_cases h : 0 ≤ t
  · rw [decide_eq_true h]
    rw [if_pos h] at q
    exact iteT (c_c q)
  · rw [decide_eq_false h]
    rw [if_neg h] at q
    exact iteF (v_sub v_c v_c _ q)
theorem ok_ltags {f fT : Addr} {fd fdT : FuncData} (A : AmOk Am G) (F : Fun K "_law_tags" "_law_tags" sLTags f fd) (B : Glb mg) (B2 : Glb2 mg) (GT : Def P w K mg base CX0 1 "_law_taken" fT fdT ["row", "many"] (spTaken K Am)) : FnOk P w K mg base CX0 2 f fd ["row", "names", "many"] (spLTags K Am) := by
  refine F.ok scLTags (fun vs H Q E h => ?_) (fun cdv Ar outer s H vs Q E hr h => ?_)
  · obtain ⟨_, _, _, _, rfl, _⟩ := h
    rfl
  · obtain ⟨r, a, n, many, rfl, ra, n1, n2, y1, y2, hA, q⟩ := h
    refine ⟨_, pss_cons (ps_par (by rfl) scLTags.nd (i := 3) (j := 4) rfl rfl (by decide) rfl rfl (pa_cons (pe_lst pa_nil) (pa_cons pe_int pa_nil)) (by rfl))
      (pss_cons (ps_for PassesOwn.never rfl (pi_range1 (by rfl) B2.rng (pa_cons (pe_call GT.ok (hr.mono (by decide)) (by rfl) GT.g GT.kp GT.b .nil pass0 (pa_cons (pv 0) (pa_cons (pe_op op_add (pv 2) pe_int) pa_nil))) pa_nil)) (pg_name (i := 5) scLTags.nd rfl (Or.inl rfl))
        (pss_cons (ps_set (i := 6) scLTags.nd rfl (Or.inl rfl) (pe_ifExp (pt_cmpR op_gt (pe_call GT.ok (hr.mono (by decide)) (by rfl) GT.g GT.kp GT.b .nil pass0 (pa_cons (pv 0) (pa_cons pe_int pa_nil))) pe_int (nomark _))
            (pe_op op_sub (pe_call GT.ok (hr.mono (by decide)) (by rfl) GT.g GT.kp GT.b .nil pass0 (pa_cons (pv 0) (pa_cons (pe_op op_add (pv 1) pe_int) pa_nil))) pe_int) (pe_op op_sub pe_int pe_int)))
        (pss_one (ps_if (PW.pt (pw_or (pt_cmpR op_ge (pv 6) pe_int (nomark _)) (pw_or1 (pt_cmpR op_gt (pv 4) pe_int (nomark _)))))
          (pss_cons (ps_expr (pe_bm PySem.F.plainAttrs_list PySem.F.slot_list_append PySem.F.type_list_append mt_append (pv 3) (pa_cons (pv 6) pa_nil)))
          (pss_one (ps_set (i := 4) scLTags.nd rfl (Or.inl rfl) (pe_op op_add (pv 4) (pe_ifExp (pt_cmpR op_ge (pv 6) pe_int (nomark _)) pe_int (pe_op op_sub pe_int pe_int)))))) pss_nil))))
      (pss_one (ps_ret (pe_tupleOf (by rfl) B.tuple (pv 3))))), ?_⟩
    refine c_seq (c_cons (c_lst va_nil (Nat.zero_le _) fun l hl => c_cons (c_c ⟨_, _, rfl, ?_⟩)))
    dsimp only
    have e0 : ExtN H (upd H l (.lst [])) := ExtN.new hl
    have hl1 : (upd H l (.lst [])) l = some (.lst (([] : List Int).map .int)) := upd_same
    have ra1 := ra.ext e0
    have a1 : Am (upd H l (.lst [])) := A.new hA hl
    have x1 : XR r H (upd H l (.lst [])) := XR.of e0
    obtain ⟨zs, hrz⟩ := ra.lst
    have nlr : l ≠ r := (ne_of_none hrz hl).symm
    generalize (upd H l (.lst [])) = H1 at hl1 ra1 a1 x1
    refine c_seq (c_forRH (c_cons (c_callv (va_cons (v_var rfl) (va_cons (v_add (v_var rfl) v_c) va_nil)) ⟨r, a, _, rfl, ra1, by omega, by omega, a1, fun k H2 k0 k1 x2 ra2 a2 => ?_⟩)))
    have keepL : ∀ {H3 H4 : Hp} {ys : List V}, H3 l = some (.lst ys) → XR r H3 H4 → H4 l = some (.lst ys) := fun h x => x _ _ h (fun ps z => by cases z) nlr
    refine forQ_of (by omega) (by omega) (fun i σ H' => ∃ (is : List Int) (o5 o6 : Option V), σ = [some (.ref r), some (.int n), some (.int many), some (.ref l), some (.int (openN is 0 : Nat)), o5, o6] ∧ XR r H H' ∧ RowAt K H' r a ∧ Am H' ∧ H' l = some (.lst (is.map .int)) ∧ RowOk n is 0 ∧ is.length ≤ i)
      ⟨[], _, _, rfl, XR.trans x1 x2, ra2, a2, keepL hl1 x2, True.intro, Nat.le_refl _⟩ (fun σ H' ⟨is, o5, o6, es, xr, ra', a', hl', ok, il⟩ => ?_) (fun i σ H' hi ⟨is, o5, o6, es, xr, ra', a', hl', ok, il⟩ => ?_)
    · subst es
      dsimp only
      refine c_ret (c_tupL (v_var rfl) (SqL.of hl') fun b hb => q is _ _ ok (by omega) (XR.trans xr (XR.of (ExtN.new hb))) (ra'.ext (ExtN.new hb)) (A.new a' hb) (im_rd_of (.inl (.inl upd_same))))
    · subst es
      dsimp only
      -- what follows once the tag is known
      have key : ∀ (t : Int) (H3 : Hp) (o5 : Option V), -1 ≤ t → t ≤ n - 1 → XR r H H3 → RowAt K H3 r a → Am H3 → H3 l = some (.lst (is.map .int)) → ∀ (D' : Ends), D'.nx = (fun σ H' => ∃ (is : List Int) (o5 o6 : Option V), σ = [some (.ref r), some (.int n), some (.int many), some (.ref l), some (.int (openN is 0 : Nat)), o5, o6] ∧ XR r H H' ∧ RowAt K H' r a ∧ Am H' ∧ H' l = some (.lst (is.map .int)) ∧ RowOk n is 0 ∧ is.length ≤ i + 1) →
          tIfS (tOr (tTest (tOp (rI0 fun i j => .bl (decide (j ≤ i))) (tVar 6) (tC (.int 0)))) (tTest (tOp (rI0 fun i j => .bl (decide (j < i))) (tVar 4) (tC (.int 0)))))
            (tSeq (tDrop (tBM K "list" rAppend (tVar 3) (tCons (tVar 6) tNil))) (tAsg (tOp (rI0 fun i j => .int (i + j)) (tVar 4) (tIf (tTest (tOp (rI0 fun i j => .bl (decide (j ≤ i))) (tVar 6) (tC (.int 0)))) (tC (.int 1)) (tOp (rI0 fun i j => .int (i - j)) (tC (.int 0)) (tC (.int 1))))) (gName 4))) tNext D' [some (.ref r), some (.int n), some (.int many), some (.ref l), some (.int (openN is 0 : Nat)), o5, some (.int t)] H3 := fun t H3 o5 t0 t1 x3 ra3 a3 hl3 D' hD => by
        have yes : ((t = -1 ∧ 0 < openN is 0) ∨ (0 ≤ t ∧ t ≤ n - 1)) → tSeq (tDrop (tBM K "list" rAppend (tVar 3) (tCons (tVar 6) tNil))) (tAsg (tOp (rI0 fun i j => .int (i + j)) (tVar 4) (tIf (tTest (tOp (rI0 fun i j => .bl (decide (j ≤ i))) (tVar 6) (tC (.int 0)))) (tC (.int 1)) (tOp (rI0 fun i j => .int (i - j)) (tC (.int 0)) (tC (.int 1))))) (gName 4)) D' [some (.ref r), some (.int n), some (.int many), some (.ref l), some (.int (openN is 0 : Nat)), o5, some (.int t)] H3 := fun hy => by
          obtain ⟨ok2, on2⟩ := rowOk_snoc ok hy
          refine c_seq (c_drop (c_appendv (v_var rfl) hl3 (v_var rfl) (by rw [List.length_map, sizeLine_eq]; omega) ?_))
          refine c_set (c_v (v_add (v_var rfl) (v_step2 rfl)) ?_)
          rw [hD]
          refine ⟨is ++ [t], o5, some (.int t), ?_, XR.mut x3 hl, RowAt.mut ra hl ra3, A.lst a3 hl3, by rw [upd_same, List.map_append]; rfl, ok2, by rw [List.length_append]; show is.length + 1 ≤ i + 1; omega⟩
          show [some (V.ref r), some (.int n), some (.int many), some (.ref l), some (.int ((openN is 0 : Nat) + (if 0 ≤ t then 1 else -1))), o5, some (.int t)] = _
          rw [on2]
          have e : ((openN is 0 : Nat) : Int) + (if 0 ≤ t then 1 else -1) = ((if t = -1 then openN is 0 - 1 else openN is 0 + 1 : Nat) : Int) := by
            rcases hy with ⟨rfl, h⟩ | ⟨h, _⟩
            · rw [if_neg (by decide), if_pos rfl]; omega
            · rw [if_pos h, if_neg (by omega)]; omega
          rw [e]
        refine c_if (c_or (c_testv (v_opb (v_var rfl) v_c) ?_))
        by_cases h0 : 0 ≤ t
        · rw [decide_eq_true h0]
          exact iteT (iteT (yes (.inr ⟨h0, t1⟩)))
        · rw [decide_eq_false h0]
          refine iteF (c_testv (v_opb (v_var rfl) v_c) ?_)
          by_cases hd : (0 : Int) < (openN is 0 : Nat)
          · rw [decide_eq_true hd]
            exact iteT (yes (.inl ⟨by omega, by omega⟩))
          · rw [decide_eq_false hd]
            refine iteF (c_next ?_)
            rw [hD]
            exact ⟨is, _, _, rfl, x3, ra3, a3, hl3, ok, by omega⟩
      refine c_seq (c_set (c_ifE (c_test (c_op (c_callv (va_cons (v_var rfl) (va_cons v_c va_nil)) ⟨r, a, 3, rfl, ra', by omega, by omega, a', fun k3 H3 k30 k31 x3 ra3 a3 => c_c ⟨k3, 0, rfl, rfl, _, rfl, ?_⟩⟩)))))
      by_cases hk : (0 : Int) < k3
      · rw [decide_eq_true hk]
        refine iteT (c_op (c_callv (va_cons (v_var rfl) (va_cons (v_add (v_var rfl) v_c) va_nil)) ⟨r, a, _, rfl, ra3, by omega, by omega, a3, fun k4 H4 k40 k41 x4 ra4 a4 => c_c ⟨k4, 1, rfl, rfl, ?_⟩⟩))
        exact key (k4 - 1) H4 _ (by omega) (by omega) (XR.trans xr (XR.trans x3 x4)) ra4 a4 (keepL hl' (XR.trans x3 x4)) _ rfl
      · rw [decide_eq_false hk]
        refine iteF (v_sub v_c v_c _ ?_)
        exact key (0 - 1) H3 _ (by omega) (by omega) (XR.trans xr x3) ra3 a3 (keepL hl' x3) _ rfl
end
end Mk

/-! ### MkLaw3 -/
set_option Elab.async false
set_option linter.all false
set_option maxRecDepth 100000
set_option maxHeartbeats 4000000
namespace Mk
open PySem PySem.Spec PyProof.Rows L2
open GxR (TabG Tabbed)
/-- the ways of the marks of a row, above l -/
def waysGo : List Int → List Int → List (List Int)
  | [], _ => []
  | t :: r, l => if t = -1 then waysGo r l.dropLast else (l ++ [t]) :: waysGo r (l ++ [t])
theorem waysGo_len : ∀ (is l : List Int), (waysGo is l).length ≤ is.length
  | [], _ => Nat.le_refl _
  | t :: r, l => by
    unfold waysGo
    split
    · have := waysGo_len r l.dropLast
      simp only [List.length_cons]; omega
    · have := waysGo_len r (l ++ [t])
      simp only [List.length_cons]; omega
theorem imL_rds {K : PySem.W.Frag} {H : Hp} {ws : List (List Int)} {xs : List V} (h : ImL K H (ws.map RD) xs) {w : List Int} {v : V} (g : Im K H (RD w) v) : ImL K H ((ws ++ [w]).map RD) (xs ++ [v]) := by
  rw [List.map_append]
  exact h.append (imL_cons g imL_nil)
section
variable {P : Program} {w : World} {K : PySem.W.Frag} {mg : Str → Option Value} {base : Heap} {Am : Hp → Prop} {G : List Addr}
/-- left + (tag,) -/
theorem c_catA {σ : L2.St} {H : Hp} {Q : VK} {i j : Nat} {l : List Int} {t : Int} {v : V} (A : AmOk Am G) (hA : Am H) (ev : σ[i]? = some (some v)) (et : σ[j]? = some (some (.int t))) (im : Im K H (RD l) v) (hl : l.length ≤ 5000) (h : ∀ v' H2, ExtN H H2 → Am H2 → Im K H2 (RD (l ++ [t])) v' → Q v' H2) :
    tOp (rCatA K) (tVar i) (tTup (tCons (tVar j) tNil)) σ H Q := by
  obtain ⟨a, rfl, hx⟩ := im_rd im
  refine c_op (c_var ev (c_tup (va_cons (v_var et) va_nil) (sz (by show 1 ≤ _; decide)) fun p hp => ?_))
  have e1 : ExtN H (upd H p (.tup [.int t])) := ExtN.new hp
  have hp1 : SqT K (upd H p (.tup [.int t])) p [.int t] := .inl (.inl upd_same)
  refine ⟨a, p, _, _, rfl, rfl, (ExtN.ee e1).t _ _ hx, hp1, by rw [List.length_map]; exact sz (by show l.length + 1 ≤ _; omega), fun z => ?_, fun _ z => (by cases z), fun _ _ p2 hp2 => ?_⟩
  · have z : l = [] := List.map_eq_nil_iff.mp z
    subst z
    exact h _ _ e1 (A.new hA hp) (im_rd_of hp1)
  · exact h _ _ (LamX.ExtN.trans e1 (ExtN.new hp2)) (A.new (A.new hA hp) hp2) (im_rd_of (.inl (.inl (by rw [upd_same, List.map_append]; rfl))))
/-- left[:-1] -/
theorem c_cutA {σ : L2.St} {H : Hp} {Q : VK} {i : Nat} {l : List Int} {v : V} (A : AmOk Am G) (hA : Am H) (ev : σ[i]? = some (some v)) (im : Im K H (RD l) v) (hl : 0 < l.length) (h : ∀ v' H2, ExtN H H2 → Am H2 → Im K H2 (RD l.dropLast) v' → Q v' H2) :
    tSl (rSlA K) (tVar i) tNoPart (tPart (tUn (rU fun i => .int (-i)) (tC (.int 1)))) σ H Q := by
  obtain ⟨a, rfl, hx⟩ := im_rd im
  have e : HT.sIx (l.map V.int).length (l.map V.int).length (some (-1)) = l.length - 1 := by
    have z : HT.sIx (l.map V.int).length (l.map V.int).length (some (-1)) = ((-1 : Int) + ((l.map V.int).length : Int)).toNat := by
      unfold HT.sIx
      exact if_pos (by decide)
    rw [z, List.length_map]
    omega
  refine c_var ev ⟨1, rfl, _, rfl, a, _, rfl, hx, fun z => ?_, fun _ p hp => ?_⟩
  · have z2 := z.2
    rw [show (-1 : Int) = -(1 : Int) from rfl] at e
    rw [e, List.length_map] at z2
    omega
  · refine h _ _ (ExtN.new hp) (A.new hA hp) (im_rd_of (.inl (.inl ?_)))
    rw [upd_same]
    unfold cutV
    rw [show (-(1 : Int)) = -1 from rfl, e]
    show some (HO.tup (List.take (l.length - 1 - 0) (List.drop 0 (l.map V.int)))) = _
    rw [List.drop_zero, List.dropLast_eq_take, List.map_take]
    rfl
def spLPaths (K : PySem.W.Frag) (Am : Hp → Prop) : Sp := fun vs H Q _ => ∃ (is : List Int) (n : Nat) (v : V), vs = [v] ∧ Im K H (RD is) v ∧ RowOk n is 0 ∧ is.length ≤ 2000 ∧ Am H ∧ RtD K Am H Q (.tup [.lst ((waysGo is []).map RD), RD (pileGo is [])])
theorem scLPaths : FnScope ["tags", "left", "found", "tag"] ["tags"] (defScope sLPaths) := ⟨rfl, rfl, rfl, by decide +kernel, rfl, by decide +kernel, by decide +kernel⟩
theorem ok_lpaths {f : Addr} {fd : FuncData} (A : AmOk Am G) (F : Fun K "_law_paths" "_law_paths" sLPaths f fd) : FnOk P w K mg base CX0 1 f fd ["tags"] (spLPaths K Am) := by
  refine F.ok scLPaths (fun vs H Q E h => ?_) (fun cdv Ar outer s H vs Q E hr h => ?_)
  · obtain ⟨_, _, _, rfl, _⟩ := h
    rfl
  · obtain ⟨is, n, v, rfl, hd, ok, len, hA, q⟩ := h
    refine ⟨_, pss_cons (ps_par (by rfl) scLPaths.nd (i := 1) (j := 2) rfl rfl (by decide) rfl rfl (pa_cons (pe_tup pa_nil) (pa_cons (pe_lst pa_nil) pa_nil)) (by rfl))
      (pss_cons (ps_for PassesOwn.never rfl (pi_tup (pv 0)) (pg_name (i := 3) scLPaths.nd rfl (Or.inl rfl))
        (pss_cons (ps_set (i := 1) scLPaths.nd rfl (Or.inl rfl) (pe_ifExp (pt_cmpR op_ge (pv 3) pe_int (nomark _)) (pe_op op_catA (pv 1) (pe_tup (pa_cons (pv 3) pa_nil))) (pe_slice sl_tupA (pv 1) po_none (po_some (pe_un un_neg pe_int)))))
        (pss_one (ps_set (i := 2) scLPaths.nd rfl (Or.inl rfl) (pe_op op_cat (pv 2) (pe_ifExp (pt_cmpR op_ge (pv 3) pe_int (nomark _)) (pe_lst (pa_cons (pv 1) pa_nil)) (pe_lst pa_nil)))))))
      (pss_one (ps_ret (pe_tup (pa_cons (pv 2) (pa_cons (pv 1) pa_nil)))))), ?_⟩
    obtain ⟨ar, rfl, hx⟩ := im_rd hd
    refine c_seq (c_cons (c_tup va_nil (Nat.zero_le _) fun p0 hp0 => c_cons (c_lst va_nil (Nat.zero_le _) fun l0 hl0 => ⟨_, _, rfl, ?_⟩)))
    dsimp only
    have e0 : ExtN H (upd (upd H p0 (.tup [])) l0 (.lst [])) := LamX.ExtN.trans (ExtN.new hp0) (ExtN.new hl0)
    refine c_seq (c_forT (v_var rfl) ((ExtN.ee e0).t _ _ hx) (fun i σ H' => ∃ (l : List Int) (ws : List (List Int)) (vl : V) (lf : Addr) (xs : List V) (o : Option V), σ = [some (.ref ar), some vl, some (.ref lf), o] ∧ ExtN H H' ∧ Am H' ∧ Im K H' (RD l) vl ∧ H' lf = some (.lst xs) ∧ ImL K H' (ws.map RD) xs ∧ RowOk n (is.drop i) l.length ∧ ws ++ waysGo (is.drop i) l = waysGo is [] ∧ pileGo (is.drop i) l = pileGo is [] ∧ l.length ≤ i ∧ ws.length ≤ i)
      ⟨[], [], _, l0, [], _, rfl, e0, A.new (A.new hA hp0) hl0, im_rd_of (.inl (.inl (by rw [upd_ne (ne_of_none upd_same hl0), upd_same]; rfl))), upd_same, imL_nil, ok, rfl, rfl, Nat.le_refl _, Nat.le_refl _⟩ (fun i σ H' ⟨_, _, _, _, _, _, _, e, _⟩ => (ExtN.ee e).t _ _ hx)
      (fun σ H' ⟨l, ws, vl, lf, xs, o, es, e, a', iml, hlf, imx, ok, r1, r2, b1, b2⟩ => ?_) (fun i x σ H' hi ⟨l, ws, vl, lf, xs, o, es, e, a', iml, hlf, imx, ok, r1, r2, b1, b2⟩ => ?_))
    · subst es
      dsimp only
      rw [List.length_map, List.drop_length] at r1 r2
      rw [show waysGo [] l = [] from rfl, List.append_nil] at r1
      have r2 : l = pileGo is [] := r2
      refine c_ret (c_tup (va_cons (v_var rfl) (va_cons (v_var rfl) va_nil)) (sz (by show 2 ≤ _; decide)) fun p hp => q _ _ (LamX.ExtN.trans e (ExtN.new hp)) (A.new a' hp) (im_tup (.inl (.inl upd_same)) ?_))
      have en := ExtN.ee (K := K) (ExtN.new (o := HO.tup [.ref lf, vl]) hp)
      rw [← r1, ← r2]
      refine imL_cons ?_ (imL_cons (iml.mono en) imL_nil)
      unfold Im
      exact ⟨lf, xs, rfl, en.l _ _ (SqL.of hlf), imx.mono en⟩
    · subst es
      obtain ⟨t, rfl, hdr⟩ := map_drop hi
      have hi2 : i < is.length := by have := (List.getElem?_eq_some_iff.mp hi).1; rw [List.length_map] at this; exact this
      rw [hdr] at ok r1 r2
      rw [pileGo_cons] at r2
      dsimp only
      refine c_seq (c_set (c_ifE (c_testv (v_opb (v_var rfl) v_c) ?_)))
      rcases ok with ⟨ht, hk, ok⟩ | ⟨h0, h1, ok⟩
      · rw [decide_eq_false (by omega)]
        rw [if_pos ht] at r2
        have r1 : ws ++ (if t = -1 then waysGo (is.drop (i + 1)) l.dropLast else _) = waysGo is [] := r1
        rw [if_pos ht] at r1
        refine iteF (c_cutA A a' rfl iml hk fun v2 H2 e2 a2 im2 => ?_)
        dsimp only
        have hlf2 : H2 lf = some (.lst xs) := e2 _ _ hlf fun ps z => by cases z
        refine c_set (c_op (c_var rfl (c_ifE (c_testv (v_opb (v_var rfl) v_c) ?_))))
        rw [decide_eq_false (by omega)]
        refine iteF (c_lst va_nil (Nat.zero_le _) fun b hb => ?_)
        have hlf3 : (upd H2 b (.lst [])) lf = some (.lst xs) := by rw [upd_ne (ne_of_none hlf2 hb)]; exact hlf2
        refine ⟨lf, b, xs, [], rfl, rfl, hlf3, upd_same, by rw [imx.length, List.length_map]; exact sz (by show ws.length + 0 ≤ _; omega), fun c hc => ?_⟩
        have e3 : ExtN H2 (upd (upd H2 b (.lst [])) c (.lst (xs ++ []))) := LamX.ExtN.trans (ExtN.new hb) (ExtN.new hc)
        refine ⟨l.dropLast, ws, v2, c, xs, _, rfl, LamX.ExtN.trans e (LamX.ExtN.trans e2 e3), A.new (A.new a2 hb) hc, im2.mono (ExtN.ee e3), by rw [upd_same, List.append_nil], imx.mono (ExtN.ee (LamX.ExtN.trans e2 e3)), by rw [List.length_dropLast]; exact ok, r1, r2, by rw [List.length_dropLast]; omega, by omega⟩
      · have ht : ¬ t = -1 := by omega
        rw [decide_eq_true h0]
        rw [if_neg ht] at r2
        have r1 : ws ++ (if t = -1 then _ else (l ++ [t]) :: waysGo (is.drop (i + 1)) (l ++ [t])) = waysGo is [] := r1
        rw [if_neg ht] at r1
        refine iteT (c_catA A a' rfl rfl iml (by omega) fun v2 H2 e2 a2 im2 => ?_)
        dsimp only
        have hlf2 : H2 lf = some (.lst xs) := e2 _ _ hlf fun ps z => by cases z
        refine c_set (c_op (c_var rfl (c_ifE (c_testv (v_opb (v_var rfl) v_c) ?_))))
        rw [decide_eq_true h0]
        refine iteT (c_lst (va_cons (v_var rfl) va_nil) (sz (by show 1 ≤ _; decide)) fun b hb => ?_)
        have hlf3 : (upd H2 b (.lst [v2])) lf = some (.lst xs) := by rw [upd_ne (ne_of_none hlf2 hb)]; exact hlf2
        refine ⟨lf, b, xs, [v2], rfl, rfl, hlf3, upd_same, by rw [imx.length, List.length_map]; exact sz (by show ws.length + 1 ≤ _; omega), fun c hc => ?_⟩
        have e3 : ExtN H2 (upd (upd H2 b (.lst [v2])) c (.lst (xs ++ [v2]))) := LamX.ExtN.trans (ExtN.new hb) (ExtN.new hc)
        refine ⟨l ++ [t], ws ++ [l ++ [t]], v2, c, xs ++ [v2], _, rfl, LamX.ExtN.trans e (LamX.ExtN.trans e2 e3), A.new (A.new a2 hb) hc, im2.mono (ExtN.ee e3), upd_same, imL_rds (imx.mono (ExtN.ee (LamX.ExtN.trans e2 e3))) (im2.mono (ExtN.ee e3)), by rw [List.length_append]; exact ok, by rw [List.append_assoc]; exact r1, r2, by rw [List.length_append]; show l.length + 1 ≤ _; omega, by rw [List.length_append]; show ws.length + 1 ≤ _; omega⟩
end
end Mk

/-! ### MkLaw4 -/
set_option Elab.async false
set_option linter.all false
set_option maxRecDepth 100000
set_option maxHeartbeats 4000000
namespace Mk
open PySem PySem.Spec PyProof.Rows L2
open GxR (TabG Tabbed)
abbrev sLForest : Stmt := top 51
abbrev sLTold : Stmt := top 52
def bal : List Int → Int
  | [] => 0
  | t :: r => (if 0 ≤ t then 1 else -1) + bal r
theorem bal_app : ∀ (a b : List Int), bal (a ++ b) = bal a + bal b
  | [], b => by show bal b = 0 + bal b; omega
  | t :: a, b => by show _ + bal (a ++ b) = (_ + bal a) + bal b; rw [bal_app a b]; omega
theorem bal_row {n : Int} : ∀ (f : Fo), f.names n → bal f.row = 0 ∧ ∀ p r, f.row = p ++ r → 0 ≤ bal p
  | .nil, _ => ⟨rfl, fun p r h => by
    obtain ⟨rfl, _⟩ := List.append_eq_nil_iff.mp (show ([] : List Int) = p ++ r from h).symm
    exact Int.le_refl 0⟩
  | .cons t w r, h => by
    obtain ⟨h0, h1, hw, hr⟩ := h
    obtain ⟨w0, wp⟩ := bal_row w hw
    obtain ⟨r0, rp⟩ := bal_row r hr
    have b1 : ∀ q, bal (t :: q) = 1 + bal q := fun q => by show (if 0 ≤ t then 1 else -1) + bal q = _; rw [if_pos h0]
    have b2 : ∀ q, bal (-1 :: q) = -1 + bal q := fun q => rfl
    refine ⟨?_, fun p q e => ?_⟩
    · show bal (t :: (w.row ++ -1 :: r.row)) = 0
      rw [b1, bal_app, b2, w0, r0]
      rfl
    · have e : t :: (w.row ++ -1 :: r.row) = p ++ q := e
      cases p with
      | nil => exact Int.le_refl 0
      | cons a p =>
        rw [List.cons_append] at e
        injection e with e1 e2
        subst e1
        rw [b1]
        rcases List.append_eq_append_iff.mp e2 with ⟨x, rfl, e3⟩ | ⟨x, e3, e4⟩
        · cases x with
          | nil => rw [bal_app, w0]; decide
          | cons y x =>
            rw [List.cons_append] at e3
            injection e3 with e3 e4
            subst e3
            rw [bal_app, b2, w0]
            have := rp x q e4
            omega
        · have := wp p x e3
          omega
theorem atI_mid {a : List Int} {t : Int} {b : List Int} : atI ((a ++ t :: b).map V.int) (a.length : Int) = some (.int t) := by
  refine atI_nat ?_
  rw [List.map_append, List.getElem?_append_right (by rw [List.length_map]; exact Nat.le_refl _), List.length_map, Nat.sub_self]
  rfl
theorem v_step2e {ta : TE} {σ : L2.St} {H : Hp} {t : Int} (ht : ∀ Q : VK, Q (.int t) H → ta σ H Q) : ∀ Q : VK, Q (.int (if 0 ≤ t then 1 else -1)) H → tIf (tTest (tOp (rI0 fun i j => .bl (decide (j ≤ i))) ta (tC (.int 0)))) (tC (.int 1)) (tOp (rI0 fun i j => .int (i - j)) (tC (.int 0)) (tC (.int 1))) σ H Q := fun Q q => by
  refine c_ifE (c_testv (v_opb ht v_c) ?_)
  by_cases h : 0 ≤ t
  · rw [decide_eq_true h]
    rw [if_pos h] at q
    exact iteT (c_c q)
  · rw [decide_eq_false h]
    rw [if_neg h] at q
    exact iteF (v_sub v_c v_c _ q)
theorem cut_mid {x y z : List Int} {lo hi : Int} (hlo : lo = (x.length : Nat)) (hhi : hi = ((x.length + y.length : Nat) : Int)) : cutV ((x ++ y ++ z).map V.int) (some lo) (some hi) = y.map .int := by
  subst hlo hhi
  unfold cutV
  rw [HT.sIx_nat, HT.sIx_nat]
  have e1 : min x.length ((x ++ y ++ z).map V.int).length = x.length := by simp only [List.length_map, List.length_append]; omega
  have e2 : min (x.length + y.length) ((x ++ y ++ z).map V.int).length = x.length + y.length := by simp only [List.length_map, List.length_append]; omega
  rw [e1, e2, show x.length + y.length - x.length = y.length by omega]
  simp
section
variable {P : Program} {w : World} {K : PySem.W.Frag} {mg : Str → Option Value} {base : Heap} {Am : Hp → Prop} {G : List Addr}
def spLForest (K : PySem.W.Frag) (Am : Hp → Prop) (m : Nat) : Sp := fun vs H Q _ => ∃ (fo : Fo) (n : Int) (v : V), vs = [v] ∧ Im K H (RD fo.row) v ∧ fo.names n ∧ fo.depth < m ∧ fo.size ≤ 1000 ∧ Am H ∧ RtD K Am H Q fo.d
theorem scLForest : FnScope ["tags", "found", "at", "deep", "end"] ["tags"] (defScope sLForest) := ⟨rfl, rfl, rfl, by decide +kernel, rfl, by decide +kernel, by decide +kernel⟩
theorem ok_lforest {f : Addr} {fd : FuncData} (A : AmOk Am G) (F : Fun K "_law_forest" "_law_forest" sLForest f fd) (B : Glb mg) (b : Binds K fd ["tags"] []) (g : mg "_law_forest" = some (.ref f)) : ∀ m, FnOk P w K mg base CX0 m f fd ["tags"] (spLForest K Am m)
  | 0 => ⟨fun vs H Q E h => by obtain ⟨_, _, _, rfl, _⟩ := h; rfl, fun A outer s H args us vs Q E _ _ _ _ h => by obtain ⟨_, _, _, _, _, _, h, _⟩ := h; exact absurd h (Nat.not_lt_zero _)⟩
  | m + 1 => by
    have ih := ok_lforest A F B b g m
    refine F.ok scLForest (fun vs H Q E h => ?_) (fun cdv Ar outer s H vs Q E hr h => ?_)
    · obtain ⟨_, _, _, rfl, _⟩ := h
      rfl
    · obtain ⟨fo, n, v, rfl, hd, fn, dep, siz, hA, q⟩ := h
      refine ⟨_, pss_cons (ps_par (by rfl) scLForest.nd (i := 1) (j := 2) rfl rfl (by decide) rfl rfl (pa_cons (pe_lst pa_nil) (pa_cons pe_int pa_nil)) (by rfl))
        (pss_cons (ps_while PassesOwn.never (pt_cmpR op_lt (pv 2) (pe_callB call_len_seq (by rfl) B.len boot_len (pa_cons (pv 0) pa_nil)) (nomark _))
          (pss_cons (ps_par (by rfl) scLForest.nd (i := 3) (j := 4) rfl rfl (by decide) rfl rfl (pa_cons pe_int (pa_cons (pe_op op_add (pv 2) pe_int) pa_nil)) (by rfl))
          (pss_cons (ps_while PassesOwn.never (pt_cmpR op_gt (pv 3) pe_int (nomark _))
            (pss_cons (ps_set (i := 3) scLForest.nd rfl (Or.inl rfl) (pe_op op_add (pv 3) (pe_ifExp (pt_cmpR op_ge (pe_ix ix_tup (pv 0) (pv 4) (fun _ _ => rfl)) pe_int (nomark _)) pe_int (pe_op op_sub pe_int pe_int))))
            (pss_one (ps_set (i := 4) scLForest.nd rfl (Or.inl rfl) (pe_op op_add (pv 4) pe_int)))))
          (pss_cons (ps_expr (pe_bm PySem.F.plainAttrs_list PySem.F.slot_list_append PySem.F.type_list_append mt_append (pv 1) (pa_cons (pe_tup (pa_cons (pe_ix ix_tup (pv 0) (pv 2) (fun _ _ => rfl)) (pa_cons (pe_call ih hr (by rfl) g F.kp b .nil pass0 (pa_cons (pe_slice sl_tupA (pv 0) (po_some (pe_op op_add (pv 2) pe_int)) (po_some (pe_op op_sub (pv 4) pe_int))) pa_nil)) pa_nil))) pa_nil)))
          (pss_one (ps_set (i := 2) scLForest.nd rfl (Or.inl rfl) (pv 4)))))))
        (pss_one (ps_ret (pe_tupleOf (by rfl) B.tuple (pv 1))))), ?_⟩
      obtain ⟨a, rfl, hx⟩ := im_rd hd
      have rlen := Fo.row_len fo
      refine c_seq (c_cons (c_lst va_nil (Nat.zero_le _) fun l hl0 => c_cons (c_c ⟨_, _, rfl, ?_⟩)))
      dsimp only
      refine c_seq ⟨fun m' σ H' => ∃ (re : Fo) (done : List Int) (acc : List D) (xs : List V) (o3 o4 : Option V), σ = [some (.ref a), some (.ref l), some (.int (done.length : Nat)), o3, o4] ∧ m' = re.row.length ∧ done ++ re.row = fo.row ∧ acc ++ re.L = fo.L ∧ re.depth ≤ fo.depth ∧ re.size ≤ fo.size ∧ re.names n ∧ H' l = some (.lst xs) ∧ ImL K H' acc xs ∧ ExtN H H' ∧ Am H',
        ⟨_, fo, [], [], [], _, _, rfl, rfl, rfl, rfl, Nat.le_refl _, Nat.le_refl _, fn, upd_same, imL_nil, ExtN.new hl0, A.new hA hl0⟩, ?_⟩
      rintro m' σ H' ⟨re, done, acc, xs, o3, o4, rfl, rfl, er, el, dr, szr, nr, hl', im, e, a'⟩
      refine c_testv (v_opb (v_var rfl) (v_len (v_var rfl) (.inr ((ExtN.ee e).t _ _ hx)))) ?_
      rw [List.length_map]
      cases re with
      | nil =>
        rw [show (Fo.nil).row = [] from rfl, List.append_nil] at er
        rw [show (Fo.nil).L = [] from rfl, List.append_nil] at el
        rw [decide_eq_false (by rw [er]; exact Int.lt_irrefl _)]
        refine iteF ?_
        dsimp only
        refine c_ret (c_tupL (v_var rfl) (SqL.of hl') fun c hc => q _ _ (LamX.ExtN.trans e (ExtN.new hc)) (A.new a' hc) (im_tup (.inl (.inl upd_same)) ?_))
        rw [← el]
        exact im.mono (ExtN.ee (ExtN.new hc))
      | cons t wi re =>
        have er : done ++ t :: (wi.row ++ -1 :: re.row) = fo.row := er
        have el : acc ++ .tup [.int t, .tup wi.L] :: re.L = fo.L := el
        obtain ⟨t0, t1, nw, nr⟩ := nr
        have d1 : wi.depth + 1 ≤ fo.depth := Nat.le_trans (Nat.le_max_left _ _) dr
        have d2 : re.depth ≤ fo.depth := Nat.le_trans (Nat.le_max_right _ _) dr
        have z1 : 1 + wi.size + re.size ≤ fo.size := szr
        obtain ⟨bw, bp⟩ := bal_row wi nw
        have fl : fo.row.length = done.length + 1 + wi.row.length + 1 + re.row.length := by rw [← er]; simp only [List.length_append, List.length_cons]; omega
        rw [decide_eq_true (by omega)]
        refine iteT ⟨_, fun σ' H' h => h, ?_⟩
        refine c_seq (c_cons (c_c (c_cons (v_add (v_var rfl) v_c _ ⟨_, _, rfl, ?_⟩))))
        dsimp only
        refine c_seq ⟨fun m2 σ2 H2 => ∃ (pre : List Int) (dd : Int), H2 = H' ∧ σ2 = [some (.ref a), some (.ref l), some (.int (done.length : Nat)), some (.int dd), some (.int ((done.length + 1 + pre.length : Nat) : Int))] ∧ m2 = wi.row.length + 1 - pre.length ∧ ((∃ rest, wi.row = pre ++ rest ∧ dd = 1 + bal pre) ∨ (pre = wi.row ++ [-1] ∧ dd = 0)),
          ⟨_, [], 1, rfl, by show [some (V.ref a), some (.ref l), some (.int (done.length : Nat)), some (.int 1), some (.int ((done.length : Int) + 1))] = _; rfl, rfl, .inl ⟨wi.row, rfl, rfl⟩⟩, ?_⟩
        rintro m2 σ2 H2 ⟨pre, dd, rfl, rfl, rfl, hc⟩
        refine c_testv (v_opb (v_var rfl) v_c) ?_
        rcases hc with ⟨rest, ew, rfl⟩ | ⟨rfl, rfl⟩
        · have b0 := bp pre rest ew
          have pl : pre.length ≤ wi.row.length := by rw [ew, List.length_append]; omega
          rw [decide_eq_true (by omega)]
          have hx2 := (ExtN.ee e).t _ _ hx
          -- the tag at end
          have hit : ∃ y, atI (fo.row.map V.int) ((done.length + 1 + pre.length : Nat) : Int) = some (.int y) ∧ ((∃ rest', rest = y :: rest') ∨ (rest = [] ∧ y = -1)) := by
            cases rest with
            | nil =>
              rw [List.append_nil] at ew
              refine ⟨-1, ?_, .inr ⟨rfl, rfl⟩⟩
              have z : fo.row = (done ++ t :: pre) ++ -1 :: re.row := by rw [← er, ew]; simp
              rw [z, show done.length + 1 + pre.length = (done ++ t :: pre).length by simp only [List.length_append, List.length_cons]; omega]
              exact atI_mid
            | cons y rest =>
              refine ⟨y, ?_, .inl ⟨rest, rfl⟩⟩
              have z : fo.row = (done ++ t :: pre) ++ y :: (rest ++ -1 :: re.row) := by rw [← er, ew]; simp
              rw [z, show done.length + 1 + pre.length = (done ++ t :: pre).length by simp only [List.length_append, List.length_cons]; omega]
              exact atI_mid
          obtain ⟨y, hy, hc2⟩ := hit
          refine iteT ⟨_, fun σ' H' h => h, c_seq (c_set (c_v (v_add (v_var rfl) (v_step2e (v_ixT (v_var rfl) (v_var rfl) hx2 hy))) ?_))⟩
          dsimp only
          refine c_set (c_v (v_add (v_var rfl) v_c) ⟨_, ?_, pre ++ [y], (1 + bal pre) + (if 0 ≤ y then 1 else -1), rfl, ?_, rfl, ?_⟩)
          · rw [List.length_append]
            show wi.row.length + 1 - (pre.length + 1) < _
            omega
          · show [some (V.ref a), some (.ref l), some (.int (done.length : Nat)), some (.int ((1 + bal pre) + (if 0 ≤ y then 1 else -1))), some (.int (((done.length + 1 + pre.length : Nat) : Int) + 1))] = _
            rw [List.length_append]
            rfl
          · rcases hc2 with ⟨rest', rfl⟩ | ⟨rfl, rfl⟩
            · refine .inl ⟨rest', by rw [ew]; simp, ?_⟩
              rw [bal_app]
              show _ = 1 + (bal pre + ((if 0 ≤ y then 1 else -1) + 0))
              omega
            · rw [List.append_nil] at ew
              refine .inr ⟨by rw [ew], ?_⟩
              rw [← ew, bw]
              rfl
        · rw [decide_eq_false (by decide)]
          refine iteF ?_
          dsimp only
          have hx2 := (ExtN.ee e).t _ _ hx
          have z : fo.row = done ++ t :: (wi.row ++ -1 :: re.row) := er.symm
          have h1 : atI (fo.row.map V.int) (done.length : Int) = some (.int t) := by rw [z]; exact atI_mid
          have aw : acc.length ≤ 1000 := by
            have z2 := congrArg List.length el
            rw [List.length_append, Fo.L_len] at z2
            have := Fo.len_size fo
            omega
          refine c_seq (c_drop (c_append (v_var rfl) hl' (c_cons (v_ixT (v_var rfl) (v_var rfl) hx2 h1 _ (c_cons (c_call (c_cons (c_var rfl (v_add (v_var rfl) v_c _ ⟨_, rfl, v_sub (v_var rfl) v_c _ ⟨_, rfl, a, _, rfl, hx2, fun zz => ?_, fun _ p hp => ?_⟩⟩)))))))))
          · have z1 := zz.1
            rw [show ((done.length : Nat) : Int) + 1 = ((done.length + 1 : Nat) : Int) from rfl, HT.sIx_nat, List.length_map] at z1
            omega
          · have ec : cutV (fo.row.map V.int) (some ((done.length : Int) + 1)) (some (((done.length + 1 + (wi.row ++ [-1]).length : Nat) : Int) - 1)) = wi.row.map .int := by
              have z3 : fo.row = (done ++ [t]) ++ wi.row ++ -1 :: re.row := by rw [z]; simp
              rw [z3]
              exact cut_mid (by rw [List.length_append]; rfl) (by rw [List.length_append, List.length_append]; show ((done.length + 1 + (wi.row.length + 1) : Nat) : Int) - 1 = ((done.length + 1 + wi.row.length : Nat) : Int); omega)
            have e3 : ExtN H2 (upd H2 p (.tup (wi.row.map .int))) := ExtN.new hp
            rw [ec]
            refine c_nil ⟨wi, n, .ref p, rfl, im_rd_of (.inl (.inl upd_same)), nw, by omega, by omega, A.new a' hp, fun vr H5 e5 a5 imr => ?_⟩
            have hl5 : H5 l = some (.lst xs) := (LamX.ExtN.trans e3 e5) _ _ hl' fun ps z => by cases z
            refine ⟨sz (by show 2 ≤ _; decide), fun p2 hp2 => ⟨l, xs, .ref p2, rfl, rfl, by rw [upd_ne (ne_of_none hl5 hp2)]; exact hl5, by rw [im.length, sizeLine_eq]; omega, ?_⟩⟩
            dsimp only
            have hl6 : (upd H5 p2 (.tup [.int t, vr])) l = some (.lst xs) := by rw [upd_ne (ne_of_none hl5 hp2)]; exact hl5
            have ts : TSt K H5 (upd (upd H5 p2 (.tup [.int t, vr])) l (.lst (xs ++ [.ref p2]))) := TSt.trans (TSt.upd_new hp2) (TSt.upd_lst hl6)
            have nl : NoLs acc := noLs_left (b := .tup [.int t, .tup wi.L] :: re.L) (by rw [el]; exact Fo.noL fo)
            refine c_set (c_var rfl ⟨_, ?_, re, done ++ t :: (wi.row ++ [-1]), acc ++ [.tup [.int t, .tup wi.L]], xs ++ [.ref p2], some (.int 0), some (.int ((done.length + 1 + (wi.row ++ [-1]).length : Nat) : Int)), ?_, rfl, by rw [z]; simp, by rw [← el]; simp, d2, by omega, nr, upd_same, ?_, ExtN.mut (LamX.ExtN.trans e (LamX.ExtN.trans (LamX.ExtN.trans e3 e5) (ExtN.new hp2))) hl0, A.lst (A.new a5 hp2) hl6⟩)
            · show re.row.length < (t :: (wi.row ++ -1 :: re.row)).length
              simp only [List.length_cons, List.length_append]
              omega
            · show [some (V.ref a), some (.ref l), some (.int ((done.length + 1 + (wi.row ++ [-1]).length : Nat) : Int)), some (.int 0), some (.int ((done.length + 1 + (wi.row ++ [-1]).length : Nat) : Int))] = _
              rw [show (done ++ t :: (wi.row ++ [-1])).length = done.length + 1 + (wi.row ++ [-1]).length by simp only [List.length_append, List.length_cons]; omega]
            · refine (ImL.tt ts nl (im.mono (ExtN.ee (LamX.ExtN.trans e3 e5)))).append (imL_cons (im_tup (xs := [.int t, vr]) (.inl (.inl ?_)) (imL_cons im_int (imL_cons (Im.tt ts (Fo.noL wi : NoL (.tup wi.L)) imr) imL_nil))) imL_nil)
              rw [upd_ne (ne_of_none hl5 hp2).symm, upd_same]
end
end Mk

/-! ### MkLaw5 -/
set_option Elab.async false
set_option linter.all false
set_option maxRecDepth 100000
set_option maxHeartbeats 4000000
namespace Mk
open PySem PySem.Spec PyProof.Rows L2
open GxR (TabG Tabbed)
theorem led_snoc (rows : List (List Int)) (s : Int) (w : List Int) (t : Int) : ledI rows s (w ++ [t]) = nxtI rows (ledI rows s w) t := by
  unfold ledI
  rw [List.foldl_append]
  rfl
section
variable {P : Program} {w : World} {K : PySem.W.Frag} {mg : Str → Option Value} {base : Heap} {Am : Hp → Prop} {G : List Addr}
def spLTold (K : PySem.W.Frag) (Am : Hp → Prop) (m : Nat) : Sp := fun vs H Q _ => ∃ (rows : List (List Int)) (ans : List Int) (n : Nat) (fo : Fo) (way : List Int) (vq v va : V), vs = [vq, v, va] ∧ Im K H (QD rows ans) vq ∧ QOk rows ans n ∧ Im K H fo.d v ∧ Im K H (RD way) va ∧ (∀ t ∈ way, 0 ≤ t ∧ t < n) ∧ way.length + m ≤ 2000 ∧ fo.names n ∧ fo.depth < m ∧ fo.size ≤ 1000 ∧ Am H ∧ RtD K Am H Q (.tup (toldL rows ans (ledI rows 0 way) fo))
theorem scLTold : FnScope ["question", "forest", "above", "found", "name", "inner", "here"] ["question", "forest", "above"] (defScope sLTold) := ⟨rfl, rfl, rfl, by decide +kernel, rfl, by decide +kernel, by decide +kernel⟩
theorem ok_ltold {f fL : Addr} {fd fdL : FuncData} (A : AmOk Am G) (F : Fun K "_law_told_forest" "_law_told_forest" sLTold f fd) (B : Glb mg) (GL : Def P w K mg base CX0 2 "_law_answer" fL fdL ["question", "way"] (spLAns K)) (b : Binds K fd ["question", "forest", "above"] []) (g : mg "_law_told_forest" = some (.ref f)) : ∀ m, FnOk P w K mg base CX0 (m + 2) f fd ["question", "forest", "above"] (spLTold K Am m)
  | 0 => ⟨fun vs H Q E h => by obtain ⟨_, _, _, _, _, _, _, _, rfl, _⟩ := h; rfl, fun A outer s H args us vs Q E _ _ _ _ h => by obtain ⟨_, _, _, _, _, _, _, _, _, _, _, _, _, _, _, _, h, _⟩ := h; exact absurd h (Nat.not_lt_zero _)⟩
  | m + 1 => by
    have ih := ok_ltold A F B GL b g m
    refine F.ok scLTold (fun vs H Q E h => ?_) (fun cdv Ar outer s H vs Q E hr h => ?_)
    · obtain ⟨_, _, _, _, _, _, _, _, rfl, _⟩ := h
      rfl
    · obtain ⟨rows, ans, n, fo, way, vq, v, va, rfl, hq, qok, hd, hw, wr, wl, fn, dep, siz, hA, q⟩ := h
      refine ⟨_, pss_cons (ps_set (i := 3) scLTold.nd rfl (Or.inl rfl) (pe_lst pa_nil))
        (pss_cons (ps_for PassesOwn.never rfl (pi_tup (pv 1)) (pg_tup rfl (pgs_cons (pg_name (i := 4) scLTold.nd rfl (Or.inl rfl)) (pgs_cons (pg_name (i := 5) scLTold.nd rfl (Or.inl rfl)) pgs_nil)))
          (pss_cons (ps_set (i := 6) scLTold.nd rfl (Or.inl rfl) (pe_op op_catA (pv 2) (pe_tup (pa_cons (pv 4) pa_nil))))
          (pss_one (ps_expr (pe_bm PySem.F.plainAttrs_list PySem.F.slot_list_append PySem.F.type_list_append mt_append (pv 3) (pa_cons (pe_tup (pa_cons (pv 4) (pa_cons (pe_call GL.ok (hr.mono (by omega)) (by rfl) GL.g GL.kp GL.b .nil pass0 (pa_cons (pv 0) (pa_cons (pv 6) pa_nil))) (pa_cons (pe_call ih hr (by rfl) g F.kp b .nil pass0 (pa_cons (pv 0) (pa_cons (pv 5) (pa_cons (pv 6) pa_nil)))) pa_nil)))) pa_nil))))))
        (pss_one (ps_ret (pe_tupleOf (by rfl) B.tuple (pv 3))))), ?_⟩
      obtain ⟨a, xf, rfl, hx, hl⟩ := im_tup' hd
      have xl : xf.length = fo.len := by rw [hl.length, Fo.L_len]
      have ls := Fo.len_size fo
      refine c_seq (c_set (c_lst va_nil (Nat.zero_le _) fun l hl0 => ?_))
      dsimp only
      refine c_seq (c_forT (v_var rfl) ((ExtN.ee (ExtN.new hl0)).t _ _ hx) (fun i σ H' => ∃ (acc : List D) (ac : List V) (o2 o3 o4 : Option V), σ = [some vq, some (.ref a), some va, some (.ref l), o2, o3, o4] ∧ ExtN H H' ∧ Am H' ∧ H' l = some (.lst ac) ∧ ImL K H' acc ac ∧ acc ++ toldL rows ans (ledI rows 0 way) (fo.drop i) = toldL rows ans (ledI rows 0 way) fo)
        ⟨[], [], _, _, _, rfl, ExtN.new hl0, A.new hA hl0, upd_same, imL_nil, rfl⟩ (fun i σ H' ⟨_, _, _, _, _, _, e, _⟩ => (ExtN.ee e).t _ _ hx) (fun σ H' ⟨acc, ac, o2, o3, o4, es, e, a', hl', im, r⟩ => ?_) (fun i x σ H' hi ⟨acc, ac, o2, o3, o4, es, e, a', hl', im, r⟩ => ?_))
      · subst es
        dsimp only
        rw [xl, Fo.drop_len, show toldL rows ans (ledI rows 0 way) Fo.nil = [] from rfl, List.append_nil] at r
        refine c_ret (c_tupL (v_var rfl) (SqL.of hl') fun c hc => q _ _ (LamX.ExtN.trans e (ExtN.new hc)) (A.new a' hc) (im_tup (.inl (.inl upd_same)) ?_))
        rw [← r]
        exact im.mono (ExtN.ee (ExtN.new hc))
      · subst es
        obtain ⟨dx, hdx, him⟩ := hl.get hi
        obtain ⟨t, wi, rfl, hdr⟩ := Fo.drop_at hdx
        obtain ⟨am, ym, rfl, hxm, hlm⟩ := im_tup' him
        obtain ⟨v1, ym, rfl, im1, hl2⟩ := imL_tup1 hlm
        obtain ⟨v2, ym, rfl, im2, hl3⟩ := imL_tup1 hl2
        obtain rfl : ym = [] := by unfold ImL at hl3; exact hl3
        obtain rfl := im_int' im1
        have d1 := Fo.drop_depth i fo
        have z1 := Fo.drop_size i fo
        have n1 := Fo.drop_names i fn
        have nl : NoLs (acc ++ toldL rows ans (ledI rows 0 way) (fo.drop i)) := by rw [r]; exact noL_told ..
        have al : acc.length < 2000 := by
          have := congrArg List.length r
          rw [List.length_append, told_len, told_len] at this
          omega
        rw [hdr] at r d1 z1 n1
        obtain ⟨t0, t1, nw, _⟩ := n1
        have d2 : wi.depth + 1 ≤ fo.depth := Nat.le_trans (Nat.le_max_left _ _) d1
        have z2 : 1 + wi.size + (fo.drop (i + 1)).size ≤ fo.size := z1
        refine ⟨am, _, rfl, (ExtN.ee e).t _ _ hxm, rfl, _, _, rfl, _, _, rfl, rfl, ?_⟩
        dsimp only
        refine c_seq (c_set (c_catA A a' rfl rfl (hw.mono (ExtN.ee e)) (by omega) fun vh H1 e1 a1 imh => ?_))
        dsimp only
        have hr2 : ∀ x ∈ way ++ [t], 0 ≤ x ∧ x < n := fun x hx => by
          rcases List.mem_append.mp hx with hx | hx
          · exact wr x hx
          · rw [List.mem_singleton.mp hx]; exact ⟨t0, by omega⟩
        have hl1 : H1 l = some (.lst ac) := e1 _ _ hl' fun ps z => by cases z
        have e01 := LamX.ExtN.trans e e1
        refine c_drop (c_append (v_var rfl) hl1 (c_cons (c_var rfl (c_cons (c_callv (va_cons (v_var rfl) (va_cons (v_var rfl) va_nil)) ⟨rows, ans, n, way ++ [t], vq, vh, rfl, hq.mono (ExtN.ee e01), qok, imh, hr2, c_cons (c_callv (va_cons (v_var rfl) (va_cons (v_var rfl) (va_cons (v_var rfl) va_nil))) ⟨rows, ans, n, wi, way ++ [t], vq, v2, vh, rfl, hq.mono (ExtN.ee e01), qok, im2.mono (ExtN.ee e01), imh, hr2, by rw [List.length_append]; show way.length + 1 + m ≤ 2000; omega, nw, by omega, by omega, a1, fun vr H2 e2 a2 imr => ?_⟩)⟩)))))
        have h2 : H2 l = some (.lst ac) := e2 _ _ hl1 fun ps z => by cases z
        refine ⟨sz (by show 3 ≤ _; decide), fun p hp => ⟨l, ac, .ref p, rfl, rfl, by rw [upd_ne (ne_of_none h2 hp)]; exact h2, by rw [im.length, sizeLine_eq]; omega, ?_⟩⟩
        rw [led_snoc] at imr ⊢
        have h3 : (upd H2 p (.tup [.int t, .int (ans.getD (nxtI rows (ledI rows 0 way) t).toNat 0), vr])) l = some (.lst ac) := by rw [upd_ne (ne_of_none h2 hp)]; exact h2
        have ts : TSt K H2 (upd (upd H2 p (.tup [.int t, .int (ans.getD (nxtI rows (ledI rows 0 way) t).toNat 0), vr])) l (.lst (ac ++ [.ref p]))) := TSt.trans (TSt.upd_new hp) (TSt.upd_lst h3)
        refine ⟨acc ++ [.tup [.int t, .int (ans.getD (nxtI rows (ledI rows 0 way) t).toNat 0), .tup (toldL rows ans (nxtI rows (ledI rows 0 way) t) wi)]], ac ++ [.ref p], _, _, _, rfl, ExtN.mut (LamX.ExtN.trans e01 (LamX.ExtN.trans e2 (ExtN.new hp))) hl0, A.lst (A.new a2 hp) h3, upd_same, ?_, ?_⟩
        · refine (ImL.tt ts (noLs_left nl) (im.mono (ExtN.ee (LamX.ExtN.trans e1 e2)))).append (imL_cons (im_tup (xs := [.int t, .int (ans.getD (nxtI rows (ledI rows 0 way) t).toNat 0), vr]) (.inl (.inl ?_)) (imL_cons im_int (imL_cons im_int (imL_cons (Im.tt ts (noL_told rows ans _ wi : NoL (.tup (toldL rows ans (nxtI rows (ledI rows 0 way) t) wi))) imr) imL_nil)))) imL_nil)
          rw [upd_ne (ne_of_none h2 hp).symm, upd_same]
        · rw [← r, List.append_assoc]
          rfl
end
end Mk

/-! ### MkLaw6 -/
set_option Elab.async false
set_option linter.all false
set_option maxRecDepth 100000
set_option maxHeartbeats 4000000
namespace Mk
open PySem PySem.Spec PyProof.Rows L2
open GxR (TabG Tabbed)
abbrev sLQ : Stmt := top 45
/-- a list of one's own beside the row -/
structure Mine (K : PySem.W.Frag) (r a : Addr) (H : Hp) (l : Addr) : Prop where
  nr : l ≠ r
  fr : Fr H l
  ra : ∀ H' o, RowAt K H' r a → RowAt K (upd H' l o) r a
/-- the row has moved on -/
structure Sr (K : PySem.W.Frag) (Am : Hp → Prop) (r a : Addr) (H H' : Hp) : Prop where
  x : XR r H H'
  ra : RowAt K H' r a
  am : Am H'
theorem RowAt.nr {K : PySem.W.Frag} {H : Hp} {r a l : Addr} (h : RowAt K H r a) (n : H l = none) : l ≠ r := by
  obtain ⟨xs, e⟩ := h.lst
  exact (ne_of_none e n).symm
section
variable {K : PySem.W.Frag} {Am : Hp → Prop} {G : List Addr} {r a : Addr} {H H1 H' : Hp} {l : Addr}
theorem Sr.mine (s : Sr K Am r a H H1) (n : H1 l = none) : Mine K r a H l := by
  refine ⟨s.ra.nr n, fun o e t => ?_, fun H' o h => RowAt.mut s.ra n h⟩
  have z := s.x l o e t (s.ra.nr n)
  rw [n] at z
  cases z
theorem Sr.new {o : HO} (A : AmOk Am G) (s : Sr K Am r a H H1) (n : H1 l = none) : Sr K Am r a H (upd H1 l o) := ⟨XR.trans s.x (XR.of (ExtN.new n)), s.ra.ext (ExtN.new n), A.new s.am n⟩
theorem Sr.mut {o : HO} {xs : List V} (A : AmOk Am G) (s : Sr K Am r a H H1) (m : Mine K r a H l) (e : H1 l = some (.lst xs)) : Sr K Am r a H (upd H1 l o) := by
  refine ⟨fun b u h t z => ?_, m.ra _ _ s.ra, A.lst s.am e⟩
  by_cases c : b = l
  · rw [c] at h
    exact (m.fr u h t).elim
  · rw [upd_ne c]
    exact s.x b u h t z
theorem Sr.step (s : Sr K Am r a H H1) (x : XR r H1 H') (ra : RowAt K H' r a) (am : Am H') : Sr K Am r a H H' := ⟨XR.trans s.x x, ra, am⟩
theorem Sr.ext (s : Sr K Am r a H H1) (x : ExtN H1 H') (am : Am H') : Sr K Am r a H H' := ⟨XR.trans s.x (XR.of x), s.ra.ext x, am⟩
theorem XR.keep {xs : List V} (x : XR r H1 H') (n : l ≠ r) (e : H1 l = some (.lst xs)) : H' l = some (.lst xs) := x _ _ e (fun ps z => by cases z) n
end
/-- [.. for x in l], l a list -/
theorem c_lcL {K : PySem.W.Frag} {a : Addr} {xs : List V} {j : Nat} {tl te : TE} {σ : L2.St} {H : Hp} {vs : List Nat} {Q : VK} (ha : ∀ Q : VK, Q (.ref a) H → tl σ H Q) (hx : SqL K H a xs) (hjs : ∀ x, wipe ((wipe σ vs).set j (some x)) vs = wipe σ vs) (Pv : Addr → Nat → Hp → Prop)
    (h0 : ∀ D, H D = none → Pv D 0 (upd H D (.lst []))) (hl : ∀ D i H', H D = none → Pv D i H' → SqL K H' a xs)
    (hs : ∀ D i x H', H D = none → xs[i]? = some x → Pv D i H' → te ((wipe σ vs).set j (some x)) H' fun y H4 => ∃ acc, H4 D = some (.lst acc) ∧ acc.length < sizeLine ∧ Pv D (i + 1) (upd H4 D (.lst (acc ++ [y])))) (hd : ∀ D H', H D = none → Pv D xs.length H' → Q (.ref D) H') :
    tLc (iList K tl) (gName j) tYes te vs σ H Q := ha _ ⟨a, rfl, ⟨xs, hx⟩, fun D hD => ⟨fun i m H' => m = xs.length - i ∧ i ≤ xs.length ∧ Pv D i H', ⟨_, rfl, Nat.zero_le _, h0 D hD⟩, by
  rintro i m H' ⟨rfl, hi, p⟩
  have q := hl D i H' hD p
  by_cases hlt : i < xs.length
  · refine .inr ⟨⟨xs, xs[i], q, by simp [hlt]⟩, Pv D (i + 1), fun H' p' => ⟨xs.length - (i + 1), by omega, rfl, hlt, p'⟩, fun x H2 y => ?_⟩
    obtain ⟨e, y⟩ := y
    subst e
    exact ⟨hjs x, iteT (B := Pv D (i + 1) H2) (hs D i x _ hD (y xs q) p)⟩
  · have e : i = xs.length := by omega
    subst e
    exact .inl ⟨⟨xs, q, Nat.le_refl _⟩, hd D _ hD p⟩⟩⟩
theorem c_lrg {σ : L2.St} {H : Hp} {Q : VK} {i : Nat} {n : Int} (e : σ[i]? = some (some (.int n))) (h : RgOk 0 n) (q : ∀ l, H l = none → Q (.ref l) (upd H l (.lst (rgV 0 n)))) : tLstRg (tRg1 (tVar i)) σ H Q := ⟨.int n, e, n, rfl, h, q⟩
def upN (M : Nat) : List Int := (List.range M).map fun i : Nat => (i : Int)
theorem upN_len (M : Nat) : (upN M).length = M := by unfold upN; rw [List.length_map, List.length_range]
theorem upN_rng {M : Nat} {x : Int} (h : x ∈ upN M) : 0 ≤ x ∧ x < (M : Int) := by
  obtain ⟨z, hz, rfl⟩ := List.mem_map.mp h
  have := List.mem_range.mp hz
  exact ⟨by omega, by omega⟩
theorem rgV_upN (M : Nat) : rgV 0 (M : Int) = (upN M).map .int := by
  unfold rgV upN
  rw [List.map_map, show ((M : Int) - 0).toNat = M by omega]
  refine List.map_congr_left fun i _ => ?_
  show V.int (0 + (i : Int)) = V.int (i : Int)
  rw [Int.zero_add]
theorem erase_int {l : List Int} : ∀ (i : Nat), (l.map V.int).eraseIdx i = (l.eraseIdx i).map V.int := by
  induction l with
  | nil => intro i; rfl
  | cons a l ih =>
    intro i
    cases i with
    | zero => rfl
    | succ i => exact congrArg _ (ih i)
def rowsOf (tos : List (List Int)) (i : Nat) : List (List Int) := (List.range i).map fun s => tos.map fun tl => tl.getD s 0
theorem rowsOf_succ (tos : List (List Int)) (i : Nat) : rowsOf tos (i + 1) = rowsOf tos i ++ [tos.map fun tl => tl.getD i 0] := by
  unfold rowsOf
  rw [List.range_succ, List.map_append]
  rfl
theorem noL_ints : ∀ is : List Int, NoLs (is.map D.int)
  | [] => True.intro
  | _ :: r => ⟨True.intro, noL_ints r⟩
theorem noL_rds : ∀ ws : List (List Int), NoLs (ws.map RD)
  | [] => True.intro
  | w :: r => ⟨noL_ints w, noL_rds r⟩
theorem c_yes {σ : L2.St} {H : Hp} {QB : Bool → Hp → Prop} (h : QB true H) : tYes σ H QB := h
/-- the lists of steps, each at its address -/
structure Tos (r ls : Addr) (many : Nat) (H : Hp) (bs : List Addr) (tos : List (List Int)) : Prop where
  len : bs.length = tos.length
  get : ∀ (i : Nat) (b : Addr) (tl : List Int), bs[i]? = some b → tos[i]? = some tl → H b = some (.lst (tl.map .int))
  ne : ∀ b ∈ bs, b ≠ r ∧ b ≠ ls
  ok : ∀ tl ∈ tos, tl.length = many ∧ ∀ x ∈ tl, 0 ≤ x ∧ x < (many : Int)
theorem Tos.here {r ls : Addr} {many : Nat} {H : Hp} {bs : List Addr} {tos : List (List Int)} (h : Tos r ls many H bs tos) {b : Addr} (hb : b ∈ bs) : ∃ xs, H b = some (.lst xs) := by
  obtain ⟨i, hi⟩ := List.getElem?_of_mem hb
  have hl : i < tos.length := by rw [← h.len]; exact (List.getElem?_eq_some_iff.mp hi).1
  exact ⟨_, h.get i b tos[i] hi (List.getElem?_eq_getElem hl)⟩
theorem Tos.keep {r ls : Addr} {many : Nat} {H H' : Hp} {bs : List Addr} {tos : List (List Int)} (h : Tos r ls many H bs tos) (k : ∀ b ∈ bs, H' b = H b) : Tos r ls many H' bs tos :=
  ⟨h.len, fun i b tl h1 h2 => by rw [k b (List.mem_of_getElem? h1)]; exact h.get i b tl h1 h2, h.ne, h.ok⟩
theorem Tos.xr {r ls : Addr} {many : Nat} {H H' : Hp} {bs : List Addr} {tos : List (List Int)} (h : Tos r ls many H bs tos) (x : XR r H H') : Tos r ls many H' bs tos :=
  h.keep fun b hb => by
    obtain ⟨xs, e⟩ := h.here hb
    rw [e]
    exact x.keep (h.ne b hb).1 e
theorem Tos.out {r ls : Addr} {many : Nat} {H : Hp} {bs : List Addr} {tos : List (List Int)} (h : Tos r ls many H bs tos) {l : Addr} (n : H l = none) : l ∉ bs := fun z => by
  obtain ⟨xs, e⟩ := h.here z
  rw [n] at e
  cases e
theorem Tos.upd {r ls : Addr} {many : Nat} {H : Hp} {bs : List Addr} {tos : List (List Int)} (h : Tos r ls many H bs tos) {l : Addr} {o : HO} (n : l ∉ bs) : Tos r ls many (L2.upd H l o) bs tos :=
  h.keep fun b hb => upd_ne fun z => n (z ▸ hb)
theorem Tos.snoc {r ls : Addr} {many : Nat} {H : Hp} {bs : List Addr} {tos : List (List Int)} (h : Tos r ls many H bs tos) {l : Addr} {tl : List Int} (e : H l = some (.lst (tl.map .int))) (n1 : l ≠ r) (n2 : l ≠ ls) (k : tl.length = many ∧ ∀ x ∈ tl, 0 ≤ x ∧ x < (many : Int)) : Tos r ls many H (bs ++ [l]) (tos ++ [tl]) := by
  refine ⟨by rw [List.length_append, List.length_append, h.len]; rfl, fun i b t h1 h2 => ?_, fun b hb => ?_, fun t ht => ?_⟩
  · by_cases c : i < bs.length
    · rw [List.getElem?_append_left c] at h1
      rw [List.getElem?_append_left (by rw [← h.len]; exact c)] at h2
      exact h.get i b t h1 h2
    · rw [List.getElem?_append_right (by omega)] at h1
      rw [List.getElem?_append_right (by rw [← h.len]; omega), ← h.len] at h2
      match hk : i - bs.length with
      | 0 =>
        rw [hk] at h1 h2
        cases h1; cases h2
        exact e
      | k + 1 => rw [hk] at h1; cases h1
  · rcases List.mem_append.mp hb with hb | hb
    · exact h.ne b hb
    · rw [List.mem_singleton.mp hb]; exact ⟨n1, n2⟩
  · rcases List.mem_append.mp ht with ht | ht
    · exact h.ok t ht
    · rw [List.mem_singleton.mp ht]; exact k
section
variable {P : Program} {w : World} {K : PySem.W.Frag} {mg : Str → Option Value} {base : Heap} {Am : Hp → Prop} {G : List Addr}
def spLQ (K : PySem.W.Frag) (Am : Hp → Prop) : Sp := fun vs H Q _ => ∃ (r a : Addr) (sm nm : Int), vs = [.ref r, .int sm, .int nm] ∧ RowAt K H r a ∧ 1 ≤ sm ∧ sm ≤ 6 ∧ 1 ≤ nm ∧ nm ≤ 3 ∧ Am H ∧ ∀ rows ans n v H', QOk rows ans n → (rows.length : Int) ≤ sm → (n : Int) ≤ nm → Sr K Am r a H H' → Im K H' (QD rows ans) v → Q v H'
theorem scLQ : FnScope ["row", "states", "names", "many", "some", "steps", "kind", "name", "left", "to", "state", "marks"] ["row", "states", "names"] (defScope sLQ) := ⟨rfl, rfl, rfl, by decide +kernel, rfl, by decide +kernel, by decide +kernel⟩
abbrev scoB : Scope := { kind := ScopeKind.function, names := [(Str.ofString ".0", NameKind.local), (Str.ofString "state", NameKind.cell), (Str.ofString "tuple", NameKind.globalImplicit), (Str.ofString "steps", NameKind.cell)], isGenerator := false, isCoroutine := false, more := [] }
theorem ok_lq {f fT : Addr} {fd fdT : FuncData} (A : AmOk Am G) (F : Fun K "_law_question" "_law_question" sLQ f fd) (B : Glb mg) (B2 : Glb2 mg) (GT : Def P w K mg base CX0 1 "_law_taken" fT fdT ["row", "many"] (spTaken K Am)) : FnOk P w K mg base CX0 2 f fd ["row", "states", "names"] (spLQ K Am) := by
  refine F.ok scLQ (fun vs H Q E h => ?_) (fun cdv Ar outer s H vs Q E hr h => ?_)
  · obtain ⟨_, _, _, _, rfl, _⟩ := h
    rfl
  · obtain ⟨r, a, sm, nm, rfl, ra, s1, s2, n1, n2, hA, q⟩ := h
    refine ⟨_, pss_cons (ps_asg (pe_tup (pa_cons (pe_op op_add pe_int (pe_call GT.ok (hr.mono (by decide)) (by rfl) GT.g GT.kp GT.b .nil pass0 (pa_cons (pv 0) (pa_cons (pv 1) pa_nil)))) (pa_cons (pe_op op_add pe_int (pe_call GT.ok (hr.mono (by decide)) (by rfl) GT.g GT.kp GT.b .nil pass0 (pa_cons (pv 0) (pa_cons (pv 2) pa_nil)))) (pa_cons (pe_lst pa_nil) pa_nil))))
        (pg_tup (by rfl) (pgs_cons (pg_name (i := 3) scLQ.nd rfl (Or.inl rfl)) (pgs_cons (pg_name (i := 4) scLQ.nd rfl (Or.inl rfl)) (pgs_cons (pg_name (i := 5) scLQ.nd rfl (Or.inr rfl)) pgs_nil)))))
      (pss_cons (ps_set (i := 6) scLQ.nd rfl (Or.inl rfl) (pe_call GT.ok (hr.mono (by decide)) (by rfl) GT.g GT.kp GT.b .nil pass0 (pa_cons (pv 0) (pa_cons pe_int pa_nil))))
      (pss_cons (ps_for PassesOwn.never rfl (pi_range1 (by rfl) B2.rng (pa_cons (pv 4) pa_nil)) (pg_name (i := 7) scLQ.nd rfl (Or.inl rfl))
        (pss_cons (ps_par (by rfl) scLQ.nd (i := 8) (j := 9) rfl rfl (by decide) rfl rfl (pa_cons (pe_listRg (by rfl) (by rfl) B.list (prg_1 (by rfl) B2.rng (pv 3))) (pa_cons (pe_lst pa_nil) pa_nil)) (by rfl))
        (pss_cons (ps_for PassesOwn.never rfl (pi_range1 (by rfl) B2.rng (pa_cons (pv 3) pa_nil)) (pg_name (i := 10) scLQ.nd rfl (Or.inl rfl))
          (pss_one (ps_expr (pe_bm PySem.F.plainAttrs_list PySem.F.slot_list_append PySem.F.type_list_append mt_append (pv 9) (pa_cons (pe_ifExp (pt_cmpR op_gt (pv 6) pe_int (nomark _))
            (pe_bm PySem.F.plainAttrs_list PySem.F.slot_list_pop PySem.F.type_list_pop mt_popAt (pv 8) (pa_cons (pe_call GT.ok (hr.mono (by decide)) (by rfl) GT.g GT.kp GT.b .nil pass0 (pa_cons (pv 0) (pa_cons (pe_callB call_len_seq (by rfl) B.len boot_len (pa_cons (pv 8) pa_nil)) pa_nil))) pa_nil))
            (pe_call GT.ok (hr.mono (by decide)) (by rfl) GT.g GT.kp GT.b .nil pass0 (pa_cons (pv 0) (pa_cons (pv 3) pa_nil)))) pa_nil)))))
        (pss_cons (ps_if (PW.pt (pw_and (pt_cmpR op_eq (pv 6) pe_int (nomark _)) (pw_and1 (pt_cmpR op_gt (pv 3) pe_int (nomark _)))))
          (pss_one (ps_asg (pe_call GT.ok (hr.mono (by decide)) (by rfl) GT.g GT.kp GT.b .nil pass0 (pa_cons (pv 0) (pa_cons (pv 3) pa_nil))) (pg_sub (pv 9) (pe_call GT.ok (hr.mono (by decide)) (by rfl) GT.g GT.kp GT.b .nil pass0 (pa_cons (pv 0) (pa_cons (pv 3) pa_nil))) set_list))) pss_nil)
        (pss_one (ps_expr (pe_bm PySem.F.plainAttrs_list PySem.F.slot_list_append PySem.F.type_list_append mt_append (pv 5) (pa_cons (pv 9) pa_nil))))))))
      (pss_cons (ps_set (i := 11) scLQ.nd rfl (Or.inl rfl) (pe_tupleOf (by rfl) B.tuple (pe_lc (own := [("state", 10)]) rfl scLQ.nd (pi_range1 (by rfl) B2.rng (pa_cons (pv 3) pa_nil)) (blkOk_by (N := ["row", "states", "names", "many", "some", "steps", "kind", "name", "left", "to", "state", "marks"]) (sc := defScope sLQ) (by decide +kernel)) (fun _ _ _ _ _ => pg_name (i := 10) scLQ.nd rfl (Or.inl rfl)) (fun _ _ _ _ _ => pts_nil)
          (fun _ _ _ _ _ => pe_call GT.ok (hr.mono (by decide)) (by rfl) GT.g GT.kp GT.b .nil pass0 (pa_cons (pv 0) (pa_cons pe_int pa_nil))))))
      (pss_one (ps_ret (pe_tup (pa_cons (pe_tupleOf (by rfl) B.tuple (pe_lc (own := [("state", 10)]) rfl scLQ.nd (pi_range1 (by rfl) B2.rng (pa_cons (pv 3) pa_nil)) (blkOk_by (N := ["row", "states", "names", "many", "some", "steps", "kind", "name", "left", "to", "state", "marks"]) (sc := defScope sLQ) (by decide +kernel)) (fun _ _ _ _ _ => pg_name (i := 10) scLQ.nd rfl (Or.inr rfl)) (fun _ _ _ _ _ => pts_nil)
          (te := tThen (tLc (iList K (tVar 5)) (gName 9) tYes (tOp (rIxL K) (tVar 9) (tVar 10)) [9]) (kTup K)) (fun _ _ _ _ _ => pe_tupleOf (by rfl) B.tuple (pe_lc (own := [("to", 9)]) rfl scLQ.nd (pi_list (pv 5)) (blkOk_by (N := ["row", "states", "names", "many", "some", "steps", "kind", "name", "left", "to", "state", "marks"]) (sc := scoB) (by decide +kernel)) (fun _ _ _ _ _ => pg_name (i := 9) scLQ.nd rfl (Or.inl rfl)) (fun _ _ _ _ _ => pts_nil)
            (fun _ _ _ _ _ => pe_ix ix_list (pv 9) (pv 10) (fun _ _ => rfl)))))) (pa_cons (pv 11) pa_nil)))))))), ?_⟩
    have sr0 : Sr K Am r a H H := ⟨XR.refl H, ra, hA⟩
    refine c_seq (c_asg (c_cons (c_op (c_c (c_callv (va_cons (v_var rfl) (va_cons (v_var rfl) va_nil)) ⟨r, a, sm, rfl, ra, s1, by omega, hA, fun k1 H1 k10 k11 x1 ra1 a1 => ⟨1, k1, rfl, rfl, c_cons (c_op (c_c (c_callv (va_cons (v_var rfl) (va_cons (v_var rfl) va_nil)) ⟨r, a, nm, rfl, ra1, n1, by omega, a1, fun k2 H2 k20 k21 x2 ra2 a2 => ⟨1, k2, rfl, rfl, c_cons (c_lst va_nil (Nat.zero_le _) fun ls hls => ⟨sz (by show 3 ≤ _; decide), fun p hp => ?_⟩)⟩⟩)))⟩⟩)))))
    have sr2 : Sr K Am r a H H2 := (sr0.step x1 ra1 a1).step x2 ra2 a2
    have mls := sr2.mine hls
    have sr3 := Sr.new (o := .lst []) A sr2 hls
    have sr4 := Sr.new (o := .tup [.int (1 + k1), .int (1 + k2), .ref ls]) A sr3 hp
    have hls4 : (upd (upd H2 ls (.lst [])) p (.tup [.int (1 + k1), .int (1 + k2), .ref ls])) ls = some (.lst (([] : List Addr).map .ref)) := by rw [upd_ne (ne_of_none upd_same hp), upd_same]; rfl
    refine ⟨p, _, rfl, .inl (.inl upd_same), rfl, _, _, rfl, _, _, rfl, _, _, rfl, rfl, ?_⟩
    dsimp only
    generalize (upd (upd H2 ls (.lst [])) p (.tup [.int (1 + k1), .int (1 + k2), .ref ls])) = H4 at sr4 hls4
    obtain ⟨M, hM⟩ : ∃ M : Nat, 1 + k1 = (M : Int) := ⟨(1 + k1).toNat, by omega⟩
    obtain ⟨S, hS⟩ : ∃ S : Nat, 1 + k2 = (S : Int) := ⟨(1 + k2).toNat, by omega⟩
    rw [hM, hS]
    have M1 : 1 ≤ M := by omega
    have M6 : M ≤ 6 := by omega
    have S1 : 1 ≤ S := by omega
    have S3 : S ≤ 3 := by omega
    refine c_seq (c_set (c_callv (va_cons (v_var rfl) (va_cons v_c va_nil)) ⟨r, a, 3, rfl, sr4.ra, by decide, by decide, sr4.am, fun k H5 k0 k3 x5 ra5 a5 => ?_⟩))
    dsimp only
    have sr5 := sr4.step x5 ra5 a5
    have hls5 := x5.keep mls.nr hls4
    have mls' := mls
    refine c_seq (c_forR (n := (S : Int)) (va_cons (v_var rfl) va_nil) (by omega) (by omega) (fun i σ H' => ∃ (bs : List Addr) (tos : List (List Int)) (o7 o8 o9 o10 : Option V), σ = [some (.ref r), some (.int sm), some (.int nm), some (.int (M : Nat)), some (.int (S : Nat)), some (.ref ls), some (.int k), o7, o8, o9, o10, none] ∧ Sr K Am r a H H' ∧ H' ls = some (.lst (bs.map .ref)) ∧ Tos r ls M H' bs tos ∧ tos.length = i)
      ⟨[], [], _, _, _, _, rfl, sr5, hls5, ⟨rfl, fun i b tl h => (by cases h), fun b h => absurd h List.not_mem_nil, fun b h => absurd h List.not_mem_nil⟩, rfl⟩ (fun σ H' ⟨bs, tos, o7, o8, o9, o10, es, sr, hl, ts, tlen⟩ => ?_) (fun i σ H' hi ⟨bs, tos, o7, o8, o9, o10, es, sr, hl, ts, tlen⟩ => ?_))
    · subst es
      dsimp only
      have tlen : tos.length = S := by rw [tlen]; rfl
      refine c_seq (c_set (c_lcR (n := (M : Int)) (va_cons (v_var rfl) va_nil) (by omega) (by omega) (fun _ => rfl) (fun D i H2 => Sr K Am r a H H2 ∧ H2 ls = some (.lst (bs.map .ref)) ∧ Tos r ls M H2 bs tos ∧ ∃ acc : List Int, H2 D = some (.lst (acc.map .int)) ∧ acc.length = i ∧ ∀ x ∈ acc, 0 ≤ x ∧ x ≤ 1)
        (fun D hD => ⟨Sr.new A sr hD, by rw [upd_ne (ne_of_none hl hD)]; exact hl, ts.upd (ts.out hD), [], upd_same, rfl, fun x hx => absurd hx List.not_mem_nil⟩) (fun D i H2 hD hi ⟨sr2, hl2, ts2, acc, hacc, al, ar⟩ => ?_) (fun D H2 hD ⟨sr2, hl2, ts2, acc, hacc, al, ar⟩ => ?_)))
      · have mD := sr.mine hD
        refine c_yes ?_
        refine iteT (c_callv (va_cons (v_var rfl) (va_cons v_c va_nil)) ⟨r, a, 2, rfl, sr2.ra, by decide, by decide, sr2.am, fun q1 H3 q10 q11 x3 ra3 a3 => ?_⟩)
        have hacc3 := x3.keep mD.nr hacc
        refine ⟨_, hacc3, by rw [List.length_map, sizeLine_eq]; omega, Sr.mut A (sr2.step x3 ra3 a3) mD hacc3, by rw [upd_ne (ne_of_none hl hD)]; exact x3.keep mls'.nr hl2, (ts2.xr x3).upd (ts.out hD), acc ++ [q1], by rw [upd_same, List.map_append]; rfl, by rw [List.length_append, al]; rfl, fun x hx => ?_⟩
        rcases List.mem_append.mp hx with hx | hx
        · exact ar x hx
        · rw [List.mem_singleton.mp hx]; exact ⟨q10, by omega⟩
      · refine .inl ⟨D, _, rfl, SqL.of hacc, fun mk hmk => ?_⟩
        have al : acc.length = M := by rw [al]; rfl
        have sr3 := Sr.new (o := .tup (acc.map .int)) A sr2 hmk
        have hl3 : (upd H2 mk (.tup (acc.map .int))) ls = some (.lst (bs.map .ref)) := by rw [upd_ne (ne_of_none hl2 hmk)]; exact hl2
        have ts3 := ts2.upd (o := .tup (acc.map .int)) (ts2.out hmk)
        have imA : Im K (upd H2 mk (.tup (acc.map .int))) (RD acc) (.ref mk) := im_rd_of (.inl (.inl upd_same))
        dsimp only
        generalize (upd H2 mk (.tup (acc.map .int))) = H3 at sr3 hl3 ts3 imA
        refine c_ret (c_cons (c_lcR (n := (M : Int)) (va_cons (v_var rfl) va_nil) (by omega) (by omega) (fun _ => rfl) (fun D i H5 => ExtN H3 H5 ∧ Am H5 ∧ ∃ xs, H5 D = some (.lst xs) ∧ ImL K H5 ((rowsOf tos i).map RD) xs)
          (fun D hD => ⟨ExtN.new hD, A.new sr3.am hD, [], upd_same, imL_nil⟩) (fun D i H5 hD hi ⟨e5, a5, xs, hxs, imx⟩ => ?_) (fun D H5 hD ⟨e5, a5, xs, hxs, imx⟩ => ?_)))
        · have hl5 : H5 ls = some (.lst (bs.map .ref)) := e5 _ _ hl3 fun ps z => by cases z
          have iM : i < M := by omega
          refine c_yes ?_
          refine iteT (c_lcL (v_var rfl) (SqL.of hl5) (fun _ => rfl) (fun D2 j H6 => ExtN H5 H6 ∧ Am H6 ∧ H6 D2 = some (.lst (((tos.take j).map fun tl => tl.getD i 0).map .int)))
            (fun D2 hD2 => ⟨ExtN.new hD2, A.new a5 hD2, upd_same⟩) (fun D2 j H6 hD2 p => SqL.of (p.1 _ _ hl5 fun ps z => by cases z)) (fun D2 j x H6 hD2 hx ⟨e6, a6, h6⟩ => ?_) (fun D2 H6 hD2 ⟨e6, a6, h6⟩ => ?_))
          · rw [List.getElem?_map] at hx
            cases hb : bs[j]? with
            | none => rw [hb] at hx; cases hx
            | some b =>
              rw [hb] at hx
              cases hx
              have jl : j < tos.length := by rw [← ts3.len]; exact (List.getElem?_eq_some_iff.mp hb).1
              obtain ⟨tl, htl⟩ : ∃ tl, tos[j]? = some tl := ⟨_, List.getElem?_eq_getElem jl⟩
              have hb3 := ts3.get j b tl hb htl
              have tk := ts3.ok tl (List.mem_of_getElem? htl)
              have hb6 : H6 b = some (.lst (tl.map .int)) := (LamX.ExtN.trans e5 e6) _ _ hb3 fun ps z => by cases z
              refine c_v (v_ixL (v_var rfl) (v_var rfl) (SqL.of hb6) (atI_map (i := (i : Int)) (by omega) (by rw [tk.1]; omega))) ⟨_, h6, ?_, ExtN.mut e6 hD2, A.lst a6 h6, ?_⟩
              · rw [List.length_map, List.length_map, List.length_take, sizeLine_eq]
                omega
              · rw [upd_same, List.take_add_one, htl, List.map_append, List.map_append]
                rfl
          · rw [List.length_map, ts3.len, List.take_length] at h6
            refine .inl ⟨D2, _, rfl, SqL.of h6, fun c hc => ?_⟩
            have hxs6 : H6 D = some (.lst xs) := e6 _ _ hxs fun ps z => by cases z
            have hxs7 : (upd H6 c (.tup ((tos.map fun tl => tl.getD i 0).map .int))) D = some (.lst xs) := by rw [upd_ne (ne_of_none hxs6 hc)]; exact hxs6
            have ts7 : TSt K H6 (upd (upd H6 c (.tup ((tos.map fun tl => tl.getD i 0).map .int))) D (.lst (xs ++ [.ref c]))) := TSt.trans (TSt.upd_new hc) (TSt.upd_lst hxs7)
            refine ⟨xs, hxs7, by rw [imx.length, List.length_map]; unfold rowsOf; rw [List.length_map, List.length_range, sizeLine_eq]; omega, ExtN.mut (LamX.ExtN.trans e5 (LamX.ExtN.trans e6 (ExtN.new hc))) hD, A.lst (A.new a6 hc) hxs7, xs ++ [.ref c], upd_same, ?_⟩
            rw [rowsOf_succ]
            refine imL_rds (ImL.tt ts7 (noL_rds _) (imx.mono (ExtN.ee e6))) (im_rd_of (.inl (.inl ?_)))
            rw [upd_ne (ne_of_none hxs6 hc).symm, upd_same]
        · refine .inl ⟨D, _, rfl, SqL.of hxs, fun st hst => c_cons (c_var rfl ⟨sz (by show 2 ≤ _; decide), fun p2 hp2 => ?_⟩)⟩
          have e8 : ExtN H3 (upd (upd H5 st (.tup xs)) p2 (.tup [.ref st, .ref mk])) := LamX.ExtN.trans e5 (LamX.ExtN.trans (ExtN.new hst) (ExtN.new hp2))
          have rM : (rowsOf tos M).length = M := by unfold rowsOf; rw [List.length_map, List.length_range]
          refine q (rowsOf tos M) acc S _ _ ⟨by rw [rM]; exact M1, by rw [rM]; exact M6, S1, S3, fun x hx => ?_, fun x hx y hy => ?_, by rw [rM]; exact al, ar⟩ (by rw [rM]; omega) (by omega) (sr3.ext e8 (A.new (A.new a5 hst) hp2)) (im_tup (.inl (.inl upd_same)) (imL_cons (im_tup (xs := xs) ?_ ?_) (imL_cons (imA.mono (ExtN.ee e8)) imL_nil)))
          · obtain ⟨s', _, rfl⟩ := List.mem_map.mp hx
            rw [List.length_map]
            exact tlen
          · obtain ⟨s', hs', rfl⟩ := List.mem_map.mp hx
            obtain ⟨tl, htl, rfl⟩ := List.mem_map.mp hy
            have sM := List.mem_range.mp hs'
            have tk := ts3.ok tl htl
            rw [rM]
            have hlt : s' < tl.length := by rw [tk.1]; exact sM
            have := tk.2 (tl.getD s' 0) (by rw [List.getD_eq_getElem?_getD, List.getElem?_eq_getElem hlt]; exact List.getElem_mem hlt)
            omega
          · exact TSt.upd_new hp2 _ _ (.inl (.inl upd_same))
          · exact imx.mono (ExtN.ee (LamX.ExtN.trans (ExtN.new hst) (ExtN.new hp2)))
    · subst es
      dsimp only
      refine c_seq (c_cons (c_lrg rfl (RgOk.of_le (by omega) (by omega) (by omega) (by omega)) fun ll hll => c_cons (c_lst va_nil (Nat.zero_le _) fun lt hlt => ⟨_, _, rfl, ?_⟩)))
      dsimp only
      have mll := sr.mine hll
      have srA := Sr.new (o := .lst (rgV 0 M)) A sr hll
      have oll := ts.out hll
      have tsA := ts.upd (o := .lst (rgV 0 M)) oll
      have hlA : (upd H' ll (.lst (rgV 0 M))) ls = some (.lst (bs.map .ref)) := by rw [upd_ne (ne_of_none hl hll)]; exact hl
      have hllA : (upd H' ll (.lst (rgV 0 M))) ll = some (.lst (rgV 0 M)) := upd_same
      have nll : ls ≠ ll := ne_of_none hl hll
      generalize (upd H' ll (.lst (rgV 0 M))) = HA at hlt srA tsA hlA hllA
      have mlt := srA.mine hlt
      have srB := Sr.new (o := .lst []) A srA hlt
      have olt := tsA.out hlt
      have tsB := tsA.upd (o := .lst []) olt
      have nlt : ls ≠ lt := ne_of_none hlA hlt
      have nllt : ll ≠ lt := ne_of_none hllA hlt
      have hlB : (upd HA lt (.lst [])) ls = some (.lst (bs.map .ref)) := by rw [upd_ne nlt]; exact hlA
      have hllB : (upd HA lt (.lst [])) ll = some (.lst ((upN M).map .int)) := by rw [upd_ne nllt, hllA, rgV_upN]
      have hltB : (upd HA lt (.lst [])) lt = some (.lst (([] : List Int).map .int)) := upd_same
      generalize (upd HA lt (.lst [])) = HB at srB tsB hlB hllB hltB
      refine c_seq (c_forR (n := (M : Int)) (va_cons (v_var rfl) va_nil) (by omega) (by omega) (fun j σ H2 => ∃ (tl lv : List Int) (o : Option V), σ = [some (.ref r), some (.int sm), some (.int nm), some (.int (M : Nat)), some (.int (S : Nat)), some (.ref ls), some (.int k), some (.int (i : Nat)), some (.ref ll), some (.ref lt), o, none] ∧ Sr K Am r a H H2 ∧ H2 ls = some (.lst (bs.map .ref)) ∧ Tos r ls M H2 bs tos ∧ H2 ll = some (.lst (lv.map .int)) ∧ H2 lt = some (.lst (tl.map .int)) ∧ tl.length = j ∧ (∀ x ∈ tl, 0 ≤ x ∧ x < (M : Int)) ∧ (0 < k → lv.length = M - j) ∧ (∀ x ∈ lv, 0 ≤ x ∧ x < (M : Int)))
        ⟨[], upN M, _, rfl, srB, hlB, tsB, hllB, hltB, rfl, (fun x hx => absurd hx List.not_mem_nil), (fun _ => upN_len M), fun x hx => upN_rng hx⟩ (fun σ H2 ⟨tl, lv, o, es, sr2, hl2, ts2, hll2, hlt2, tll, tr, _, _⟩ => ?_) (fun j σ H2 hj ⟨tl, lv, o, es, sr2, hl2, ts2, hll2, hlt2, tll, tr, lvl, lr⟩ => ?_))
      · subst es
        dsimp only
        have fin : ∀ (tl : List Int) (H3 : Hp), Sr K Am r a H H3 → H3 ls = some (.lst (bs.map .ref)) → Tos r ls M H3 bs tos → H3 lt = some (.lst (tl.map .int)) → tl.length = M → (∀ x ∈ tl, 0 ≤ x ∧ x < (M : Int)) → ∀ (o10 : Option V) (D' : Ends), D'.nx = (fun σ H' => ∃ (bs : List Addr) (tos : List (List Int)) (o7 o8 o9 o10 : Option V), σ = [some (.ref r), some (.int sm), some (.int nm), some (.int (M : Nat)), some (.int (S : Nat)), some (.ref ls), some (.int k), o7, o8, o9, o10, none] ∧ Sr K Am r a H H' ∧ H' ls = some (.lst (bs.map .ref)) ∧ Tos r ls M H' bs tos ∧ tos.length = i + 1) →
            tDrop (tBM K "list" rAppend (tVar 5) (tCons (tVar 9) tNil)) D' [some (.ref r), some (.int sm), some (.int nm), some (.int (M : Nat)), some (.int (S : Nat)), some (.ref ls), some (.int k), some (.int (i : Nat)), some (.ref ll), some (.ref lt), o10, none] H3 := fun tl H3 sr3 hl3 ts3 hlt3 tlen3 tr3 o10 D' hD => by
          refine c_drop (c_appendv (v_var rfl) hl3 (v_var rfl) (by rw [List.length_map, ts3.len, tlen, sizeLine_eq]; omega) ?_)
          rw [hD]
          have bsl : ls ∉ bs := fun z => (ts3.ne ls z).2 rfl
          exact ⟨bs ++ [lt], tos ++ [tl], _, _, _, _, rfl, Sr.mut A sr3 mls' hl3, by rw [upd_same, List.map_append]; rfl, (ts3.upd bsl).snoc (by rw [upd_ne nlt.symm]; exact hlt3) mlt.nr nlt.symm ⟨tlen3, tr3⟩, by rw [List.length_append, tlen]; rfl⟩
        have tll : tl.length = M := by rw [tll]; rfl
        refine c_seq (c_if (c_and (c_testv (v_eq (v_var rfl) v_c rfl) ?_)))
        rw [dec_eq_int]
        by_cases hk2 : k = 2
        · rw [decide_eq_true hk2]
          refine iteT (c_testv (v_opb (v_var rfl) v_c) ?_)
          by_cases hm1 : (1 : Int) < (M : Int)
          · rw [decide_eq_true hm1]
            refine iteT (c_asg (c_callv (va_cons (v_var rfl) (va_cons (v_var rfl) va_nil)) ⟨r, a, _, rfl, sr2.ra, by omega, by omega, sr2.am, fun q1 H3 q10 q11 x3 ra3 a3 => ?_⟩))
            refine c_var rfl (c_callv (va_cons (v_var rfl) (va_cons (v_var rfl) va_nil)) ⟨r, a, _, rfl, ra3, by omega, by omega, a3, fun q2 H5 q20 q21 x5 ra5 a5 => ?_⟩)
            have x6 := XR.trans x3 x5
            have hlt6 := x6.keep mlt.nr hlt2
            have hix : ixN (tl.map V.int).length q2 = some q2.toNat := by
              rw [List.length_map, tll]
              unfold ixN
              rw [if_pos q20, if_pos q21]
            refine ⟨lt, _, q2, q2.toNat, rfl, rfl, hlt6, hix, ?_⟩
            dsimp only
            have e6 : ((tl.map V.int).set q2.toNat (.int q1)) = (tl.set q2.toNat q1).map .int := by rw [List.map_set]
            rw [e6]
            refine fin (tl.set q2.toNat q1) _ (Sr.mut A (sr2.step x6 ra5 a5) mlt hlt6) (by rw [upd_ne nlt]; exact x6.keep mls'.nr hl2) ((ts2.xr x6).upd olt) upd_same (by rw [List.length_set]; exact tll) (fun x hx => ?_) _ _ rfl
            rcases List.mem_or_eq_of_mem_set hx with hx | rfl
            · exact tr x hx
            · exact ⟨q10, q11⟩
          · rw [decide_eq_false hm1]
            refine iteF (c_next ?_)
            exact fin tl _ sr2 hl2 ts2 hlt2 tll tr _ _ rfl
        · rw [decide_eq_false hk2]
          refine iteF (iteF (c_next ?_))
          exact fin tl _ sr2 hl2 ts2 hlt2 tll tr _ _ rfl
      · subst es
        dsimp only
        refine c_drop (c_append (v_var rfl) hlt2 (c_ifE (c_testv (v_opb (v_var rfl) v_c) ?_)))
        have tlz : (tl.map V.int).length < sizeLine := by rw [List.length_map, sizeLine_eq]; omega
        by_cases hk0 : (0 : Int) < k
        · rw [decide_eq_true hk0]
          have lvn := lvl hk0
          refine iteT (c_var rfl ⟨.inl ⟨rfl, _, SqL.of hll2⟩, c_cons (c_callv (va_cons (v_var rfl) (va_cons (v_len (v_var rfl) (.inl (SqL.of hll2))) va_nil)) ⟨r, a, _, rfl, sr2.ra, by rw [List.length_map]; omega, by rw [List.length_map]; omega, sr2.am, fun q1 H3 q10 q11 x3 ra3 a3 => ?_⟩)⟩)
          rw [List.length_map] at q11
          have hll3 := x3.keep mll.nr hll2
          have hlt3 := x3.keep mlt.nr hlt2
          have q1n : q1.toNat < lv.length := by omega
          obtain ⟨y, hy⟩ : ∃ y, lv[q1.toNat]? = some y := ⟨_, List.getElem?_eq_getElem q1n⟩
          have sr3 := sr2.step x3 ra3 a3
          refine ⟨ll, _, q1, q1.toNat, .int y, rfl, rfl, hll3, by omega, by omega, PySem.seqIndex_of q10 (by rw [List.length_map]; omega), by rw [List.getElem?_map, hy]; rfl, ?_⟩
          have e4 : (lv.map V.int).eraseIdx q1.toNat = (lv.eraseIdx q1.toNat).map .int := erase_int _
          rw [e4]
          have sr4' := Sr.mut (o := .lst ((lv.eraseIdx q1.toNat).map .int)) A sr3 mll hll3
          have hlt4 : (upd H3 ll (.lst ((lv.eraseIdx q1.toNat).map .int))) lt = some (.lst (tl.map .int)) := by rw [upd_ne nllt.symm]; exact hlt3
          refine ⟨lt, _, .int y, rfl, rfl, hlt4, tlz, tl ++ [y], lv.eraseIdx q1.toNat, _, rfl, Sr.mut A sr4' mlt hlt4, by rw [upd_ne nlt, upd_ne nll]; exact x3.keep mls'.nr hl2, ((ts2.xr x3).upd oll).upd olt, by rw [upd_ne nllt, upd_same], by rw [upd_same, List.map_append]; rfl, by rw [List.length_append, tll]; rfl, fun x hx => ?_, fun _ => by rw [List.length_eraseIdx, if_pos q1n]; omega, fun x hx => lr x (List.mem_of_mem_eraseIdx hx)⟩
          rcases List.mem_append.mp hx with hx | hx
          · exact tr x hx
          · rw [List.mem_singleton.mp hx]; exact lr y (List.mem_of_getElem? hy)
        · rw [decide_eq_false hk0]
          refine iteF (c_callv (va_cons (v_var rfl) (va_cons (v_var rfl) va_nil)) ⟨r, a, _, rfl, sr2.ra, by omega, by omega, sr2.am, fun q1 H3 q10 q11 x3 ra3 a3 => ?_⟩)
          have hlt3 := x3.keep mlt.nr hlt2
          refine ⟨lt, _, .int q1, rfl, rfl, hlt3, tlz, tl ++ [q1], lv, _, rfl, Sr.mut A (sr2.step x3 ra3 a3) mlt hlt3, by rw [upd_ne nlt]; exact x3.keep mls'.nr hl2, (ts2.xr x3).upd olt, by rw [upd_ne nllt]; exact x3.keep mll.nr hll2, by rw [upd_same, List.map_append]; rfl, by rw [List.length_append, tll]; rfl, fun x hx => ?_, fun h => absurd h hk0, lr⟩
          rcases List.mem_append.mp hx with hx | hx
          · exact tr x hx
          · rw [List.mem_singleton.mp hx]; exact ⟨q10, q11⟩
end
end Mk

/-! ### MkLam -/
set_option Elab.async false
set_option linter.all false
set_option maxRecDepth 100000
set_option maxHeartbeats 4000000
namespace Mk
open PySem PySem.Spec PyProof.Rows L2
open GxR (TabG Tabbed)
open LamX (CodeO TabS codeO_ne among_app inv_table TabB)
/-- the function object of a lambda, its defaults at dV -/
abbrev lamFn (qual : Str) (params : Arguments) (body : Expr) (scope : Scope) (cl : List (Str × Addr)) (pm cdv ct dV : Value) : FuncData :=
  { PySem.W.kla_fn "<lambda>" qual params body scope cl pm cdv ct with defaults := dV }
abbrev lamObj (qual : Str) (params : Arguments) (body : Expr) (scope : Scope) (cl : List (Str × Addr)) (pm : Value) (c' : Addr) (ct dV : Value) : Obj :=
  { cls := .type "function", data := .func (lamFn qual params body scope cl pm (.ref c') ct dV) }
/-- how the heap has grown once the code object at c' is at hand -/
def Got (P : Addr) (ps : Array Value) (pos : Pos) (qual : Str) (h h' : Heap) (c' : Addr) : Prop :=
  (codeAmong pos ps.toList = none ∧ Heap.ExtBut P h h' ∧ h.objs.size ≤ c' ∧ c' < h'.objs.size ∧ h'.CodeRec (.ref c') qual ∧ h'.get? P = some { cls := .none, data := .fields (ps ++ #[rawInt pos.line, rawInt pos.col, .ref c']) }) ∨
  (codeAmong pos ps.toList = some (.ref c') ∧ (∀ b o, h.get? b = some o → h'.get? b = some o) ∧ h.objs.size ≤ h'.objs.size)
section
variable {M : Model} {A : Around} {E : Value → Shared → Prop} {s : Shared} {qual : Str} {params : Arguments} {body : Expr} {scope : Scope} {env : Env} {c P : Addr} {ps : Array Value} {pos : Pos} {firstLine : Nat} {mg : Str → Option Value} {clos : List (Str × Addr)} {Q : Value → Shared → Prop}
theorem mk_tail {dV : Value} (hcl : closureFor scope env = pure clos) (hne : clos.isEmpty = false) (hge : env.globals = mainGlobals) (hg : s.heap.Ns mainGlobals mg) (hcode : env.code = .ref c) (C : PySem.W.CodeHd s.heap c P) (hP : s.heap.get? P = some { cls := .none, data := .fields ps })
    (ht : TriplesOk ps.toList) (hall : ∀ cv, codeAmong pos ps.toList = some cv → ∃ c', cv = .ref c') (hgP : mainGlobals ≠ P) (hb : s.heap.BuiltinsAt mg P)
    (h : ∀ (c' : Addr) (ct : Value) (h' : Heap) (tk : Tok), Got P ps pos qual s.heap h' c' → Q (.ref h'.objs.size) { s with heap := h'.push (lamObj qual params body scope clos ((mg "__name__").getD .none) c' ct dV), toks := tk }) :
    wpAny M A (makeTail "<lambda>" qual params (.expr body) scope env dV .none none pos firstLine) Q E s := by
  obtain ⟨bm, ob, b1, b2, _, b3, b4, b5, b6, b7⟩ := hb
  unfold makeTail
  rw [hcl, hge]
  refine wpAny_bind (wpAny_pure ?_)
  rw [hne]
  simp only [Bool.false_eq_true, if_false]
  refine wpAny_bind (wpAny_newTextTuple ?_)
  have kp : ∀ (oT : Obj) (b : Addr) (o : Obj), s.heap.get? b = some o → (s.heap.push oT).get? b = some o := fun _ _ _ e => Heap.get?_push_of_some _ e
  have sz1 : ∀ oT : Obj, s.heap.objs.size ≤ (s.heap.push oT).objs.size := fun oT => by rw [Heap.size_push]; exact Nat.le_succ _
  have C2 := fun oT => C.keeps (kp oT)
  cases hc : codeAmong pos ps.toList with
  | none =>
    refine wpAny_bind (wpAny_functionCodeX hcode ((C2 _).code (kp _ _ _ hP) ht) ((C2 _).tab (kp _ _ _ hP)) hc fun c' h' tk hx h1 h2 _ h3 h4 _ => ?_)
    refine wpAny_bind (wpAny_builtinsFor ((hg.push _).extBut hx hgP) b1 b2 (hx _ _ b3 (kp _ _ _ b4)) b5 b6 b7 (wpAny_bind (wpAny_nsGet ((hg.push _).extBut hx hgP) (wpAny_bind (wpAny_pure (wpAny_newObj_type (h c' _ h' tk (.inl ⟨hc, fun b o n e => hx b o n (kp _ _ _ e), Nat.le_trans (sz1 _) h1, h2, h3, h4.2⟩)) (by size_fits)))))))
  | some cv =>
    obtain ⟨c', rfl⟩ := hall cv hc
    refine wpAny_bind (wpAny_functionCode_hit hcode ((C2 _).code (kp _ _ _ hP) ht) hc ?_)
    exact wpAny_bind (wpAny_builtinsFor (hg.push _) b1 b2 (kp _ _ _ b4) b5 b6 b7 (wpAny_bind (wpAny_nsGet (hg.push _) (wpAny_bind (wpAny_pure (wpAny_newObj_type (h c' _ _ s.toks (.inr ⟨hc, kp _, sz1 _⟩)) (by size_fits)))))))
end
/-- the defaults of a lambda at dV -/
def Dfl (X : Cx) (dvs : List Value) (dV : Value) (s : Shared) (H : Hp) : Prop := (dvs = [] ∧ dV = .none) ∨ ∃ t, dV = .ref t ∧ s.heap.get? t = some { cls := .type "tuple", data := .seq dvs.toArray } ∧ H t = none ∧ t ∉ frs X.stack
/-- all but P stays -/
def GrowT (P : Addr) (H H1 : Hp) : Prop := ∀ b o, b ≠ P → H b = some o → H1 b = some o
section
variable {X : Cx} {pins : List (Addr × Obj)} {σ : L2.St} {H : Hp} {s : Shared}
theorem nofr_of (I : Inv X pins σ H s) {f : Addr} (hf : s.heap.objs.size ≤ f) : f ∉ frs X.stack := fun z => by
  rcases List.mem_cons.mp (I.stkSub _ z) with e | e
  · have h1 := I.lt
    rw [← e] at h1
    exact absurd hf (Nat.not_le.mpr h1)
  · exact I.nofs hf e
theorem mk_core {c P : Addr} {q : Str} {params : Arguments} {body : Expr} {scope : Scope} {pos : Pos} {E : Value → Shared → Prop} {Q : Value → Shared → Prop} {dV : Value} (I : Inv X pins σ H s) (TB : TabB X.base X.mg c P) (hcode : X.env.code = .ref c) (hT : TabS H P q)
    (hfree : ∀ y ∈ scope.names, y.2 = .free → ∃ c, X.env.cells.lookup y.1 = some c) (hne : (cloFrom X.env.cells scope.names []).isEmpty = false)
    (h : ∀ (f c' : Addr) (pm ct : Value) (H1 : Hp) (s' : Shared), Inv X pins σ H1 s' → GrowT P H H1 → TabS H1 P q → (∀ b o, b ≠ P → s.heap.get? b = some o → s'.heap.get? b = some o) → (∀ b, b < s.heap.objs.size → H b = none → H1 b = none) →
      s'.heap.get? f = some (lamObj q params body scope (cloFrom X.env.cells scope.names []) pm c' ct dV) → H1 f = none → f ∉ frs X.stack → H1 c' = some (CodeO c' q) → Q (.ref f) s') :
    wpAny (model X.prog X.w) X.A (makeTail "<lambda>" q params (.expr body) scope X.env dV .none none pos pos.line) Q E s := by
  obtain ⟨ps, hP, ht, ha⟩ := hT
  have hP' : s.heap.get? P = some { cls := .none, data := .fields ps } := I.hok P _ hP
  refine mk_tail (mg := X.mg) (c := c) (P := P) (ps := ps) (closure_ok hfree) hne I.ok.glob (I.mod.glob.keeps I.bk) hcode (TB.code.keeps I.bk) hP' ht (fun cv hc => let ⟨c', e, _⟩ := ha pos cv hc; ⟨c', e⟩) TB.gP (TB.bm.keeps I.bk) fun c' ct h' tk got => ?_
  rcases got with ⟨hc, hx, h1, h2, ⟨c2, oc, vs, t, e2, hoc, hd, hv⟩, htb⟩ | ⟨hc, hx, hsz⟩
  · cases e2
    have nC : H c' = none := I.hok.fresh h1
    have hsz : s.heap.objs.size ≤ h'.objs.size := Nat.le_trans h1 (Nat.le_of_lt h2)
    have hPl := Heap.lt_size hP'
    have I1 := inv_table (t' := tk) (more := #[rawInt pos.line, rawInt pos.col, .ref c']) (h' := h'.push (lamObj q params body scope (cloFrom X.env.cells scope.names []) ((X.mg "__name__").getD .none) c' ct dV)) I hP
      (fun b o hb e => Heap.get?_push_of_some _ (hx b o hb e)) (Heap.get?_push_of_some _ htb) h1 ⟨oc, vs, t, Heap.get?_push_of_some _ hoc, hd, hv⟩
    have gr : GrowT P H (upd (upd H P (.tbl (ps ++ #[rawInt pos.line, rawInt pos.col, .ref c']))) c' (CodeO c' q)) := fun b o n e => by
      rw [upd_ne (ne_of_none e nC), upd_ne n]
      exact e
    have eL : (ps ++ #[rawInt pos.line, rawInt pos.col, .ref c']).toList = ps.toList ++ [rawInt pos.line, rawInt pos.col, .ref c'] := by simp
    refine h h'.objs.size c' _ ct _ _ I1 gr ⟨_, by rw [upd_ne (ne_of_none hP nC), upd_same], by rw [eL]; exact PySem.TriplesOk_snoc _ _ _ _ ht, fun p' cv hcv => ?_⟩ (fun b o n e => Heap.get?_push_of_some _ (hx b o n e)) (fun b hb n => ?_) (Heap.get?_push_size _ rfl) ?_ (nofr_of I hsz) upd_same
    · rw [eL] at hcv
      rcases among_app _ ht hcv with z | z
      · obtain ⟨c0, e1, e2⟩ := ha p' cv z
        exact ⟨c0, e1, gr _ _ (fun w => codeO_ne ps (by rw [w, hP] at e2; exact (Option.some.inj e2).symm)) e2⟩
      · exact ⟨c', z, upd_same⟩
    · rw [upd_ne (Nat.ne_of_lt (Nat.lt_of_lt_of_le hb h1)), upd_ne (fun z => by rw [z, hP] at n; cases n)]
      exact n
    · rw [upd_ne (Nat.ne_of_gt h2), upd_ne (Nat.ne_of_gt (Nat.lt_of_lt_of_le hPl hsz))]
      exact I.hok.fresh hsz
  · obtain ⟨c0, e, hco⟩ := ha pos _ hc
    cases e
    have I1 : Inv X pins σ H { s with heap := h'.push (lamObj q params body scope (cloFrom X.env.cells scope.names []) ((X.mg "__name__").getD .none) c' ct dV), toks := tk } := I.kept fun b o e => Heap.get?_push_of_some _ (hx b o e)
    exact h h'.objs.size c' _ ct H _ I1 (fun b o _ e => e) ⟨ps, hP, ht, ha⟩ (fun b o _ e => Heap.get?_push_of_some _ (hx b o e)) (fun b _ n => n) (Heap.get?_push_size _ rfl) (I.hok.fresh hsz) (nofr_of I hsz) hco
theorem mk_fn {c P : Addr} {q : Str} {params : Arguments} {body : Expr} {scope : Scope} {pos : Pos} {E : Value → Shared → Prop} {Q : Value → Shared → Prop} {dvs : List Value} (I : Inv X pins σ H s) (TB : TabB X.base X.mg c P) (hcode : X.env.code = .ref c) (hT : TabS H P q)
    (hfree : ∀ y ∈ scope.names, y.2 = .free → ∃ c, X.env.cells.lookup y.1 = some c) (hne : (cloFrom X.env.cells scope.names []).isEmpty = false)
    (h : ∀ (f c' : Addr) (pm ct dV : Value) (H1 : Hp) (s' : Shared), Inv X pins σ H1 s' → GrowT P H H1 → TabS H1 P q → Dfl X dvs dV s' H1 →
      s'.heap.get? f = some (lamObj q params body scope (cloFrom X.env.cells scope.names []) pm c' ct dV) → H1 f = none → f ∉ frs X.stack → H1 c' = some (CodeO c' q) → Q (.ref f) s') :
    wpAny (model X.prog X.w) X.A (makeFunction "<lambda>" q params (.expr body) scope X.env dvs [] [] pos pos.line) Q E s := by
  rw [makeFunction_eq]
  simp only [List.zip_nil_right, List.filterMap_nil, List.isEmpty_nil, if_true, pure_bind]
  cases dvs with
  | nil =>
    simp only [List.isEmpty_nil, if_true, pure_bind]
    exact mk_core I TB hcode hT hfree hne fun f c' pm ct H1 s' J g t _ _ e1 e2 e3 e4 => h f c' pm ct .none H1 s' J g t (.inl ⟨rfl, rfl⟩) e1 e2 e3 e4
  | cons v r =>
    simp only [List.isEmpty_cons, Bool.false_eq_true, if_false]
    refine wpAny_bind (wpAny_newTextTuple ?_)
    have I1 : Inv X pins σ H { s with heap := s.heap.push { cls := .type "tuple", data := .seq (v :: r).toArray } } := I.kept (t' := s.toks) fun b o e => Heap.get?_push_of_some _ e
    have hP := hT
    obtain ⟨ps, hP, _, _⟩ := hP
    have hPl := Heap.lt_size (I.hok P _ hP : s.heap.get? P = some { cls := .none, data := .fields ps })
    refine mk_core I1 TB hcode hT hfree hne fun f c' pm ct H1 s' J g t kp kn e1 e2 e3 e4 => h f c' pm ct _ H1 s' J g t (.inr ⟨_, rfl, kp _ _ (Nat.ne_of_gt hPl) (Heap.get?_push_size _ rfl), ?_, nofr_of I (Nat.le_refl _)⟩) e1 e2 e3 e4
    exact kn _ (by rw [Heap.size_push]; exact Nat.lt_succ_self _) (I.hok.fresh (Nat.le_refl _))
end
end Mk

/-! ### MkLam2 -/
set_option Elab.async false
set_option linter.all false
set_option maxRecDepth 100000
set_option maxHeartbeats 4000000
namespace Mk
open PySem PySem.Spec PyProof.Rows L2
open GxR (TabG Tabbed)
open LamX (CodeO TabS codeO_ne TabB lamEnv lamCx)
abbrev pars0 : Arguments := { posonlyargs := [], args := [], vararg := none, kwonlyargs := [], kw_defaults := [], kwarg := none, defaults := [] }
abbrev pars1 (a : Str) (p : Pos) (d : Expr) : Arguments := { posonlyargs := [], args := [{ arg := a, annotation := none, pos := p }], vararg := none, kwonlyargs := [], kw_defaults := [], kwarg := none, defaults := [d] }
section
variable {M : Model} {A : Around} {E : Value → Shared → Prop} {s : Shared}
theorem bind_0 {q : Str} {body : Expr} {scope : Scope} {cl : List (Str × Addr)} {pm cdv ct dV : Value} {Q : List (Str × Value) → Shared → Prop} (hd : dV = .none) (h : Q [] s) : wpAny M A (bindArgs (lamFn q pars0 body scope cl pm cdv ct dV) ⟨[], []⟩) Q E s := by
  subst hd
  exact wpAny_pure h
theorem bind_1 {q a : Str} {p : Pos} {d body : Expr} {scope : Scope} {cl : List (Str × Addr)} {pm cdv ct dV v : Value} {t : Addr} {Q : List (Str × Value) → Shared → Prop} (hd : dV = .ref t) (ho : s.heap.get? t = some { cls := .type "tuple", data := .seq #[v] }) (h : Q [(a, v)] s) :
    wpAny M A (bindArgs (lamFn q (pars1 a p d) body scope cl pm cdv ct dV) ⟨[], []⟩) Q E s := by
  subst hd
  unfold bindArgs
  refine wpAny_bind (wpAny_pure ?_)
  refine wpAny_bind (wpAny_seqItems ho rfl ?_)
  have e : ((Array.toList (#[v] : Array Value)).drop ((Array.toList (#[v] : Array Value)).length - 1)) = [v] := rfl
  have ok : ∀ {l : List (Str × Value)}, l = [(a, v)] → Q l s := fun z => z ▸ h
  refine wpAny_pure (ok ?_)
  simp [List.lookup]
end
/-- a lambda's names: its parameters pn, which are no names of the maker, captured ones and globals -/
structure LamP (N pn : List Str) (sc scope : Scope) : Prop where
  kind : scope.kind = .function
  co : scope.isCoroutine = false
  gen : scope.isGenerator = false
  cell : ∀ y ∈ scope.names, y.2 ≠ .cell
  loc : ∀ y ∈ scope.names, y.2 = .local → y.1 ∉ N
  free : ∀ y ∈ scope.names, y.2 = .free → sc.names.lookup y.1 = some .cell ∨ sc.names.lookup y.1 = some .free
  par : ∀ a ∈ pn, scope.names.lookup a = some .local
def lamPB (N pn : List Str) (sc scope : Scope) : Bool :=
  decide (scope.kind = .function) && (!scope.isCoroutine && (!scope.isGenerator && ((scope.names.all fun y => !decide (y.2 = .cell) && ((!decide (y.2 = .local) || decide (y.1 ∉ N)) && (!decide (y.2 = .free) || (decide (sc.names.lookup y.1 = some .cell) || decide (sc.names.lookup y.1 = some .free))))) && pn.all fun a => decide (scope.names.lookup a = some .local))))
theorem lamP_by {N pn : List Str} {sc scope : Scope} (h : lamPB N pn sc scope = true) : LamP N pn sc scope := by
  unfold lamPB at h
  simp only [Bool.and_eq_true, Bool.or_eq_true, Bool.not_eq_true', decide_eq_true_eq, decide_eq_false_iff_not, List.all_eq_true] at h
  obtain ⟨h1, h2, h3, h4, h5⟩ := h
  exact ⟨h1, h2, h3, fun y hy => (h4 y hy).1, fun y hy e => ((h4 y hy).2.1).resolve_left fun z => z e, fun y hy e => ((h4 y hy).2.2).resolve_left fun z => z e, h5⟩
theorem LamP.has {X : Cx} {pn : List Str} {scope : Scope} (L : LamP X.N pn X.env.scope scope) (ok : X.Ok) : ∀ y ∈ scope.names, y.2 = .free → ∃ c, X.env.cells.lookup y.1 = some c := fun y hy e => (L.free y hy e).elim (fun k => ok.has _ (.inl k)) (fun k => ok.has _ (.inr k))
section
variable {X : Cx} {pins : List (Addr × Obj)} {σ : L2.St} {H HZ : Hp} {s s1 : Shared}
theorem mk_start {A : Around} {outer : List Env} {E : XK} {scope : Scope} {pn : List Str} {binds : List (Str × Value)} {f c' : Addr} {h₁ : Heap} {tk : Nat} (I : Inv X pins σ H s) (L : LamP X.N pn X.env.scope scope) (e0 : Env0 X.prog X.w X.K X.mg X.base A outer s1 HZ) (hd : A.handled = none)
    (un : Un (frs X.stack) [] H HZ s.heap s1.heap) (hns : h₁.Ns s1.heap.objs.size fun y => binds.reverse.lookup y) (kp : ∀ b o, s1.heap.get? b = some o → h₁.get? b = some o) :
    Inv (lamCx X A outer s1 HZ E scope f c') [] σ HZ { s1 with heap := h₁, toks := tk } := by
  have hfree := L.has I.ok
  -- a captured cell is the maker's own
  have cm : ∀ {y c}, (cloFrom X.env.cells scope.names []).lookup y = some c → X.env.cells.lookup y = some c := fun {y c} e => by
    rcases cloFrom_mem (PySem.mem_of_lookup e) with hm | ⟨h1, h2⟩
    · cases hm
    · obtain ⟨c1, hc⟩ := hfree _ h1 rfl
      have hc : X.env.cells.lookup y = some c1 := hc
      have e2 : c = c1 := by rw [h2, hc] <;> rfl
      rw [e2]; exact hc
  have look : ∀ {y}, scope.names.lookup y = some .free → ∃ c, (cloFrom X.env.cells scope.names []).lookup y = some c := fun {y} hl => mem_lookup (cloFrom_has (cells := X.env.cells) (acc := []) (PySem.mem_of_lookup hl : (y, NameKind.free) ∈ scope.names))
  have cellK : ∀ {c : Addr} {v : Option Value}, H c = none → s.heap.IsCell c v → h₁.IsCell c v := fun {c v} n ⟨o, ho, hd⟩ => by
    obtain ⟨sl, q⟩ := un.any ho n (by simp)
    exact ⟨_, kp _ _ q, hd⟩
  have noA : ∀ b : Addr, b ∉ (lamCx X A outer s1 HZ E scope f c').ex := fun b z => absurd (show b ∈ ([] : List Addr) from z) (by simp)
  refine ⟨⟨e0.mod, L.kind, rfl, rfl, Nat.le_refl _, fun y z c e1 e2 => I.ok.inj y z c (cm e1) (cm e2), fun y hy => ?_, fun y c z _ => Bool.noConfusion (show false = true from z), fun _ => hd, Around.frames_deeper e0.frames, .inr ⟨rfl, rfl⟩, fun b z => absurd z (noA b), e0.bs, e0.bsz, fun b _ _ => noA b,
      fun b z => absurd z (noA b), e0.funs, e0.frf⟩,
    rfl, e0.bare, Un.kept kp, ⟨_, hns, fun i y v e1 e2 e3 => ?_⟩, fun y c e => ?_, e0.hok.fresh (Nat.le_refl _), fun y c e => ?_, fun q hq => absurd (show q ∈ ([] : List (Addr × Obj)) ++ [] from hq) (by simp), e0.hok.kept kp, I.len⟩
  · rcases (show scope.names.lookup y = some .cell ∨ scope.names.lookup y = some .free from hy) with hy | hy
    · exact absurd rfl (L.cell _ (PySem.mem_of_lookup hy))
    · exact look hy
  · rcases (show Vis scope y from e3) with k | k | k
    · exact absurd (List.mem_of_getElem? e1) (L.loc _ (PySem.mem_of_lookup k) rfl)
    · exact absurd rfl (L.cell _ (PySem.mem_of_lookup k))
    · obtain ⟨m, hn, hl⟩ := I.loc
      have fr := L.free _ (PySem.mem_of_lookup k) rfl
      obtain ⟨w', r, q⟩ := hl i y v e1 e2 (fr.elim (fun k => .inr (.inl k)) (fun k => .inr (.inr k)))
      obtain ⟨c2, h2⟩ := look k
      refine ⟨w', r, .inr ⟨.inr k, c2, h2, ?_⟩⟩
      have c1 := cm h2
      rcases q with ⟨k', _⟩ | ⟨_, c3, e', z⟩
      · have k' : X.env.scope.names.lookup y = some .local := k'
        rcases fr with k2 | k2 <;> rw [show X.env.scope.names.lookup y = _ from k2] at k' <;> cases k'
      · rw [c1] at e'
        cases e'
        exact cellK (I.freeC y _ c1) z
  · obtain ⟨w', z⟩ := I.cell y c (cm e)
    exact ⟨w', cellK (I.freeC y c (cm e)) z⟩
  · obtain ⟨v, o, ho, hd⟩ := I.cell y c (cm e)
    exact un.free c o ho (I.freeC y c (cm e)) (by simp)
end
end Mk

/-! ### MkLam3 -/
set_option Elab.async false
set_option linter.all false
set_option maxRecDepth 100000
set_option maxHeartbeats 4000000
namespace Mk
open PySem PySem.Spec PyProof.Rows L2
open GxR (TabG Tabbed)
open LamX (CodeO TabS codeO_ne TabB lamEnv lamCx GivesTo run_ofS)
/-- the defaults as they stand now -/
def DflAt (dvs : List Value) (dV : Value) (s : Shared) : Prop := (dvs = [] ∧ dV = .none) ∨ ∃ t, dV = .ref t ∧ s.heap.get? t = some { cls := .type "tuple", data := .seq dvs.toArray }
/-- no arguments given: the parameters become binds -/
def BindL (params : Arguments) (dvs : List Value) (binds : List (Str × Value)) : Prop :=
  ∀ (M : Model) (A : Around) (E : Value → Shared → Prop) (s : Shared) (Q : List (Str × Value) → Shared → Prop) (q : Str) (body : Expr) (scope : Scope) (cl : List (Str × Addr)) (pm cv ct dV : Value), DflAt dvs dV s → Q binds s → wpAny M A (bindArgs (lamFn q params body scope cl pm cv ct dV) ⟨[], []⟩) Q E s
theorem bindL_0 : BindL pars0 [] [] := fun M A E s Q q body scope cl pm cv ct dV h hq => by
  rcases h with ⟨_, e⟩ | ⟨t, e, ho⟩
  · exact bind_0 e hq
  · subst e
    unfold bindArgs
    refine wpAny_bind (wpAny_pure ?_)
    exact wpAny_bind (wpAny_seqItems ho rfl (wpAny_pure hq))
theorem bindL_1 {a : Str} {p : Pos} {d : Expr} {v : Value} : BindL (pars1 a p d) [v] [(a, v)] := fun M A E s Q q body scope cl pm cv ct dV h hq => by
  rcases h with ⟨e, _⟩ | ⟨t, e, ho⟩
  · cases e
  · exact bind_1 e ho hq
section
variable {X : Cx} {pins : List (Addr × Obj)} {σ : L2.St} {H HZ : Hp} {s s1 : Shared}
theorem mk_act {CXg : CXT} {Eg : XK} {Ng : List Str} {qg : Str} {sg : Scope} {g f c' : Addr} {cdg pm ct dV : Value} {params : Arguments} {body : Expr} {scope : Scope} {k i : Nat} {a : Str} {pn : List (Addr × Obj)} {xe : Value → Shared → Prop} {W : WX} {tb : XK → TE} {p1 p2 : Pos} {ps : List Str} {dvs : List Value} {binds : List (Str × Value)}
    (I : Inv X pins σ H s) (L : LamP X.N ps X.env.scope scope) (hf : s.heap.get? f = some (lamObj (X.env.qual ++ "<lambda>") params body scope (cloFrom X.env.cells scope.names []) pm c' ct dV)) (hfn : H f = none) (hfr : f ∉ frs X.stack) (hdf : Dfl X dvs dV s H)
    (hb : BindL params dvs binds) (hbn : ∀ y ∈ binds, y.1 ∈ ps)
    (tk : Takes ((cxOf CXg X.prog X.w X.K X.mg X.base Ng qg sg g cdg X.A X.stack s H Eg).tr pn xe) W) (hr : Room (k + 1) (X.A.deeper (envOfC qg sg s.heap.objs.size g cdg)))
    (hbody : ∀ (A : Around) (outer : List Env) (s : Shared) (H : Hp) (E : XK), Room k (A.deeper (lamEnv X scope s.heap.objs.size f c')) → PE (lamCx X A outer s H E scope f c') body (tb E))
    (hN : Ng[i]? = some a) (hv : Vis sg a) (hd : (a == ("__debug__" : Str)) = false := by decide) (hcd : (a == ("__classdict__" : Str)) = false := by decide) :
    PE ((cxOf CXg X.prog X.w X.K X.mg X.base Ng qg sg g cdg X.A X.stack s H Eg).tr pn xe) (.Call (.Name a p1) [] [] p2)
      (fun σZ HZ Q => σZ[i]? = some (some (.ref f)) ∧ HZ c' = some (CodeO c' (X.env.qual ++ "<lambda>")) ∧ ∃ E : XK, (∀ cls d H', E cls d H' → W cls d σZ H') ∧ tb E σ HZ Q) := by
  refine ⟨fun pinsZ sZ σZ HZ Q IZ ⟨hs, hc, E, hW, ht⟩ => ?_⟩
  refine wpAny_Call_Name_kw (thn ((pe_var (pos := p1) (i := i) hN hv hd hcd).run pinsZ sZ σZ HZ (fun v H1 => v = .ref f ∧ H1 = HZ) IZ ⟨.ref f, hs, rfl, rfl⟩) fun u s1 ⟨v, H1, I1, r1, q1⟩ => ?_)
  obtain ⟨rfl, rfl⟩ := q1
  obtain rfl : u = Value.ref f := r1
  have no : ∀ b : Addr, b ∉ ([] : List Addr) := fun b z => nomatch z
  have of1 : s1.heap.get? f = some (lamObj (X.env.qual ++ "<lambda>") params body scope (cloFrom X.env.cells scope.names []) pm c' ct dV) := I1.base.keep f _ hf hfn hfr (no f)
  have df1 : DflAt dvs dV s1 := by
    rcases hdf with ⟨e1, e2⟩ | ⟨t, e1, e2, e3, e4⟩
    · exact .inl ⟨e1, e2⟩
    · exact .inr ⟨t, e1, I1.base.keep t _ e2 e3 e4 (no t)⟩
  refine PySem.W.callWith_F0 ⟨_, _, _, _, of1⟩ ?_
  have un : Un (frs X.stack) [] H H1 s.heap s1.heap := I1.base
  obtain ⟨⟨oc, vs, t, hoc, hdc, hvc⟩, _, _⟩ := I1.hok c' _ hc
  have rc : codeAny (model X.prog X.w) (X.A.deeper (envOfC qg sg s.heap.objs.size g cdg)) (.call (.ref f) ⟨[], []⟩) (CR (L2.CX X.prog X.w) (envOfC qg sg s.heap.objs.size g cdg :: X.stack) X.prog X.w H1 s1 Q E) s1 := by
    refine PySem.W.kla_callFunE hr.depth of1 rfl L.co L.gen rfl ⟨c', oc, vs, t, rfl, hoc, hdc, hvc⟩ ?_
    refine hb _ _ _ _ _ _ _ _ _ _ _ _ _ df1 ?_
    refine wpAny_newFunctionEnv L.cell (fun y hy => L.par _ (hbn y hy)) (fun h₁ hns hsb => ⟨I1.nolimit.fresh _ hsb, ?_⟩) L.kind
    show codeAny _ _ (.expr body (lamEnv X scope s1.heap.objs.size f c')) _ _
    have kp : ∀ b o, s1.heap.get? b = some o → h₁.get? b = some o := fun b o e => hsb.extBut b o (Nat.ne_of_lt (Heap.lt_size e)) (Heap.get?_push_of_some _ e)
    have J := mk_start (E := E) (f := f) (c' := c') (tk := s1.toks + binds.length) I L I1.env0 hr.hd un hns kp
    exact PySem.W.kla_codeExpr (wpAny_mono ((hbody _ _ s1 H1 _ (hr.deeper _)).run [] _ _ H1 Q J ht) (fun v s' ⟨w', H', J', rv, q⟩ => ⟨w', H', J'.os, J'.bare, J'.base, J'.hok, rv, q⟩) fun e s' hq => hq)
  refine wpAny_call (codeAny_mono rc fun r s' hq => ?_)
  cases r with
  | error e => exact tk e s' (XE.of_call I1 (W := W) hW hq)
  | ok fl =>
    cases fl with
    | ret u => exact I1.after hq
    | next => exact False.elim hq
    | brk => exact False.elim hq
    | cont => exact False.elim hq
/-- the def that calls what it got: a calls it; TT: what it makes of the lambda's reading -/
def GivesA (X : Cx) (Ng : List Str) (x : Str) (sg : Scope) (g : Addr) (cdg : Value) (bg : List Stmt) (a : Str) (q : Str) (TT : (XK → Hp → VK → Prop) → Hp → VK → Prop) : Prop :=
  ∀ (f c' : Addr) (s : Shared) (H : Hp) (Q : VK) (tl : XK → Hp → VK → Prop),
    (∀ (W : WX) (pn : List (Addr × Obj)) (xe : Value → Shared → Prop) (p1 p2 : Pos), Takes ((cxOf C8.CX0 X.prog X.w X.K X.mg X.base Ng x sg g cdg X.A X.stack s H C8.E0).tr pn xe) W →
      PE ((cxOf C8.CX0 X.prog X.w X.K X.mg X.base Ng x sg g cdg X.A X.stack s H C8.E0).tr pn xe) (.Call (.Name a p1) [] [] p2) (fun σZ HZ Q => σZ[0]? = some (some (.ref f)) ∧ HZ c' = some (CodeO c' q) ∧ ∃ E : XK, (∀ cls d H', E cls d H' → W cls d σZ H') ∧ tl E HZ Q)) →
    H c' = some (CodeO c' q) → TT tl H Q →
    ∃ t, PSs (cxOf C8.CX0 X.prog X.w X.K X.mg X.base Ng x sg g cdg X.A X.stack s H C8.E0).nox bg t ∧ t { nx := fun _ H' => Q .non H', rt := Q } (L2.start Ng [.ref f]) H
/-- what the maker of a lambda hands over -/
def tLamA (P : Addr) (q : Str) (TT : (XK → Hp → VK → Prop) → Hp → VK → Prop) (t : XK → TE) : TE := fun σ H Q => TabS H P q ∧ ∀ H1, GrowT P H H1 → TabS H1 P q → TT (fun E H' Q' => t E σ H' Q') H1 Q
end
section
variable {X : Cx}
/-- x(lambda ..: body) -/
theorem mk_lamcall {TT : (XK → Hp → VK → Prop) → Hp → VK → Prop} {x a : Str} {g c P : Addr} {k : Nat} {pg : Arguments} {bg : List Stmt} {sg : Scope} {dV kV doc pm cdv ct oc : Value} {an od : Option Addr} {osl : Array (Option Value)} {Ng : List Str}
    {params : Arguments} {body : Expr} {scope : Scope} {t : XK → TE} {p lpos pos : Pos} {ps : List Str} {ds : Nat → List Value} {bs : Nat → List (Str × Value)} (hg : Gl X x) (hm : X.mg x = some (.ref g)) (hk : PySem.W.keepIn X.K (.ref g) = true)
    (lk : X.K.lookup g = some ⟨oc, od, .func (PySem.W.fnOf x x pg bg sg dV kV doc pm an cdv ct), osl⟩) (hcg : PySem.W.codeIn X.K cdv x = true) (hb : L2.Binds X.K (PySem.W.fnOf x x pg bg sg dV kV doc pm an cdv ct) [a] []) (Sg : FnScope Ng [a] sg) (hNg : Ng[0]? = some a) (hva : Vis sg a)
    (hG : GivesA X Ng x sg g cdv bg a (X.env.qual ++ "<lambda>") TT)
    (TB : TabB X.base X.mg c P) (hcode : X.env.code = .ref c) (hr : Room (k + 2) X.A) (L : LamP X.N ps X.env.scope scope) (hne : (cloFrom X.env.cells scope.names []).isEmpty = false)
    (hev : ∀ (pins : List (Addr × Obj)) (s : Shared) (σ : L2.St) (H : Hp) (Q : Value → Shared → Prop), Inv X pins σ H s → (∀ (n : Nat) s', Inv X pins σ H s' → wpAny (model X.prog X.w) X.A (makeFunction "<lambda>" (X.env.qual ++ "<lambda>") params (.expr body) scope X.env (ds n) [] [] lpos lpos.line) Q X.xe s') → wpAny (model X.prog X.w) X.A (eval (.Lambda params body scope lpos) X.env) Q X.xe s)
    (hbl : ∀ n, BindL params (ds n) (bs n)) (hbn : ∀ n, ∀ y ∈ bs n, y.1 ∈ ps)
    (hbody : ∀ (A : Around) (outer : List Env) (s : Shared) (H : Hp) (E : XK) (f c' : Addr), Room k (A.deeper (lamEnv X scope s.heap.objs.size f c')) → PE (lamCx X A outer s H E scope f c') body (t E))
    (hdb : (x == ("__debug__" : Str)) = false := by decide) (hd : (a == ("__debug__" : Str)) = false := by decide) (hcd : (a == ("__classdict__" : Str)) = false := by decide) :
    PE X (.Call (.Name x p) [.Lambda params body scope lpos] [] pos) (tLamA P (X.env.qual ++ "<lambda>") TT t) := by
  refine ⟨fun pins s σ H Q I ⟨hT, h⟩ => ?_⟩
  refine wpAny_Call_Name_kw (ld_glob I hg hm ?_ hdb)
  refine PySem.W.callWith_K (h₀ := X.base) I.ok.mod.kin hk ?_ (by rfl) (by rfl)
  show wpAny _ _ (spliced ((false, eval (.Lambda params body scope lpos) X.env) :: backTo pos (starEach [] X.env))) _ _ s
  refine Calls.spliced_cons (hev pins s σ H _ I fun n s0 I0 => mk_fn I0 TB hcode hT (L.has I0.ok) hne fun f c' pm' ctv dV' H1 s' I1 gr T1 df hf hfn hfr hco => ?_)
  refine Calls.spliced_nil ⟨I1.kIn, ?_⟩
  have rc : codeAny (model X.prog X.w) X.A (.call (.ref g) ⟨[.ref f], []⟩) (CR C8.CX0 X.stack X.prog X.w H1 s' Q C8.E0) s' := by
    refine run_ofS (N := Ng) (ps := [a]) (us := [.ref f]) (vs := [.ref f]) lk hcg Sg hr I1.env0 (hb s' [.ref f] I1.kIn rfl) (.cons rfl .nil) rfl fun hr' => ?_
    obtain ⟨t', ht', hq'⟩ := hG f c' s' H1 Q (fun E H' Q' => t E σ H' Q') (fun W pn xe p1 p2 tk => mk_act (i := 0) (tb := t) I1 L hf hfn hfr df (hbl n) (hbn n) tk hr' (fun A outer s H E hr2 => hbody A outer s H E f c' hr2) hNg hva hd hcd) hco (h H1 gr T1)
    exact ⟨t', ht'.nox, hq'⟩
  refine wpAny_call (codeAny_mono rc fun r s2 hq => ?_)
  cases r with
  | error e => exact (show False from hq).elim
  | ok fl =>
    cases fl with
    | ret u => exact I1.after hq
    | next => exact False.elim hq
    | brk => exact False.elim hq
    | cont => exact False.elim hq
end
end Mk

/-! ### MkWord -/
set_option Elab.async false
set_option linter.all false
set_option maxRecDepth 100000
set_option maxHeartbeats 4000000
namespace Mk
open PySem PySem.Spec PyProof.Rows L2
open GxR (TabG Tabbed)
open LamX (CodeO GivesTo)
abbrev sWord : Stmt := top 50
/-! ### isinstance of the exception that a suite holds, an own dict or none -/
def rIsX (K : PySem.W.Frag) (cls : Value) (d : Option Addr) (a : Addr) : List V → Hp → VK → Prop := fun xs H Q => ∃ (D : Addr) (c : V) (cv : Value) (b : Bool), cls = .ref D ∧ ExcC K D ∧ (PySem.W.clsIn K D).isSome = true ∧ (d = none ∨ ∃ dd fs, d = some dd ∧ H dd = some (.xd fs)) ∧
  xs = [.ref a, c] ∧ (∀ u, RelV c u → u = cv) ∧ PySem.W.kitOne K (.ref D) cv = some b ∧ Q (.bl b) H
theorem call_isX {X : Cx} {a : Addr} {cls : Value} {d : Option Addr} {oe : Obj} {pn : List (Addr × Obj)} (hz : Zc cls d oe) (hf : ∃ vs, oe.data = .fields vs) : CallR (X.suite a ((a, oe) :: pn)) (.builtin "isinstance") (rIsX X.K cls d a) := by
  intro pins s σ H xs us Q I r h
  obtain ⟨D, c, cv, b, rfl, C, cl, hd, rfl, hcv, e, q⟩ := h
  cases r with
  | cons rx rr =>
    cases rr with
    | cons rt rr =>
      cases rr
      cases rx
      have ec := hcv _ rt
      subst ec
      obtain ⟨hget, _⟩ := I.pin (a, oe) (List.mem_append.mpr (.inl List.mem_cons_self))
      obtain ⟨vs, hv⟩ := hf
      have J : ∃ od, PySem.W.InstAt s.heap a oe D od := by
        rcases hd with rfl | ⟨dd, fs, rfl, hx⟩
        · exact ⟨none, hget, hz.1, by unfold PySem.W.notCls; rw [hv] <;> rfl, by rw [hz.2]; exact True.intro⟩
        · have hx : ObjOk X.prog X.w H s.heap dd (.xd fs) := I.hok dd _ hx
          obtain ⟨mA, hns, hr⟩ := hx
          obtain ⟨od, ho, hl⟩ := lookIn_ns hns
          exact ⟨some od, hget, hz.1, by unfold PySem.W.notCls; rw [hv] <;> rfl, by rw [hz.2]; exact ho⟩
      obtain ⟨od, J⟩ := J
      exact PySem.W.kia_one (PySem.W.kitx_exc cl C.hg C.hk C.hs C.ha C.hn C.ht C.hm) I.kIn J e (fun z => nomatch z) fun tk => ⟨.bl b, H, I.kept (t' := tk) fun _ _ z => z, rfl, q⟩
/-! ### l.count(b) of bools -/
def rCntB (K : PySem.W.Frag) : V → List V → Hp → VK → Prop := fun x xs H Q => ∃ (p : Addr) (bs : List Bool) (k : Bool), x = .ref p ∧ xs = [.bl k] ∧ SqL K H p (bs.map V.bl) ∧ Q (.int (countIn (.bool k) (bs.map PyData.bool))) H
theorem dp_bools {K : PySem.W.Frag} {H : Hp} : ∀ bs : List Bool, DpAll K H (bs.map V.bl) (bs.map PyData.bool)
  | [] => .nil
  | b :: r => .cons (.bl b) (dp_bools r)
theorem mt_bcount {X : Cx} : MtR X "list.count" (rCntB X.K) := by
  intro pins s σ H x xs v us Q I rx rxs h
  obtain ⟨p, bs, k, rfl, rfl, hs, q⟩ := h
  cases rx
  obtain ⟨u, rfl, ru⟩ := rxs.one
  cases ru
  obtain ⟨its, rv, ⟨o, n, ho, hc, hdn, hd⟩, hz⟩ := I.list hs
  obtain ⟨as, ra⟩ := Dp.readsAll I (bs.map PyData.bool) _ _ (dp_bools bs) rv
  refine count_list_bools ⟨o, ho, hc, n, hd⟩ ra ?_ ⟨.int _, H, I.tok _, ⟨_, rfl⟩, q⟩
  rw [List.all_map]
  exact List.all_eq_true.mpr fun b _ => rfl
end Mk

/-! ### MkWord2 -/
set_option Elab.async false
set_option linter.all false
set_option maxRecDepth 100000
set_option maxHeartbeats 4000000
namespace Mk
open PySem PySem.Spec PyProof.Rows L2
open GxR (TabG Tabbed)
open LamX (CodeO GivesTo)
/-- the error classes by place: MarkError, BadQuestion, BadReader, BadRow, BadText, TooMany, BadManner, BadPath, BadForest, BadNumber, BadWord, BadTrap, BadStep, BadLine -/
structure Errs (K : PySem.W.Frag) (mg : Str → Option Value) (C : Nat → Addr) : Prop where
  g0 : mg "MarkError" = some (.ref (C 0))
  g1 : mg "BadQuestion" = some (.ref (C 1))
  g2 : mg "BadReader" = some (.ref (C 2))
  g3 : mg "BadRow" = some (.ref (C 3))
  g4 : mg "BadText" = some (.ref (C 4))
  g5 : mg "TooMany" = some (.ref (C 5))
  g6 : mg "BadManner" = some (.ref (C 6))
  g7 : mg "BadPath" = some (.ref (C 7))
  g8 : mg "BadForest" = some (.ref (C 8))
  g9 : mg "BadNumber" = some (.ref (C 9))
  g10 : mg "BadWord" = some (.ref (C 10))
  g11 : mg "BadTrap" = some (.ref (C 11))
  g12 : mg "BadStep" = some (.ref (C 12))
  g13 : mg "BadLine" = some (.ref (C 13))
  ex : ∀ i, (i = 3 ∨ i = 8) → ExcC K (C i) ∧ (PySem.W.clsIn K (C i)).isSome = true ∧ PySem.W.exmOne K (.ref (C i)) (.ref (C 0)) = some true ∧ ∀ j, 1 ≤ j → j ≤ 13 → PySem.W.kitOne K (.ref (C i)) (.ref (C j)) = some (decide (i = j))
  x1 : XfC K (C 1) ∧ PySem.W.findIn K (.ref (C 1)) "part" = some none
  x3 : XfC K (C 3) ∧ PySem.W.findIn K (.ref (C 3)) "place" = some none
  x5 : XfC K (C 5) ∧ PySem.W.findIn K (.ref (C 5)) "most" = some none
/-- what _law_word makes of an error -/
def EchW (Am : Hp → Prop) (C : Nat → Addr) (Q : VK) : XK := fun cls d H' =>
  (cls = .ref (C 3) ∧ ∃ dd v, d = some dd ∧ H' dd = some (.xd [("place", v)]) ∧ Am H' ∧ ∀ p H2, ExtN H' H2 → Am H2 → H2 p = some (.tup [.str "row", v]) → Q (.ref p) H2) ∨
  (cls = .ref (C 8) ∧ d = none ∧ Am H' ∧ ∀ H2, ExtN H' H2 → Am H2 → Q (.str "forest") H2)
def TTw (Am : Hp → Prop) (C : Nat → Addr) : (XK → Hp → VK → Prop) → Hp → VK → Prop := fun tl H Q => tl (EchW Am C Q) H fun _ H' => Q (.str "") H'
theorem scWord : FnScope ["work", "e", "known", "words"] ["work"] (defScope sWord) := ⟨rfl, rfl, rfl, by decide +kernel, rfl, by decide +kernel, by decide +kernel⟩
/-- one isinstance -/
theorem v_isX {K : PySem.W.Frag} {C : Nat → Addr} {mg : Str → Option Value} {σ : L2.St} {H : Hp} {a : Addr} {d : Option Addr} {i j : Nat} (E : Errs K mg C) (hi : i = 3 ∨ i = 8) (h1 : 1 ≤ j) (h2 : j ≤ 13) (es : σ[1]? = some (some (.ref a))) (hd : d = none ∨ ∃ dd fs, d = some dd ∧ H dd = some (.xd fs)) :
    ∀ Q : VK, Q (.bl (decide (i = j))) H → tCB (rIsX K (.ref (C i)) d a) (tCons (tVar 1) (tCons (tC (.ref (C j))) tNil)) σ H Q := fun Q q => by
  obtain ⟨e1, e2, e3, e4⟩ := E.ex i hi
  exact ⟨.ref a, es, C i, .ref (C j), .ref (C j), _, rfl, e1, e2, hd, rfl, fun u r => r, e4 j h1 h2, q⟩
theorem word_end {K : PySem.W.Frag} {σ : L2.St} {H : Hp} {l3 l4 : Addr} {D' : Ends} (hk : H l3 = some (.lst ([false, false, true, false, false, false, false, false].map V.bl))) (hw : H l4 = some (.lst [.str "manner", .str "path", .str "forest", .str "number", .str "word", .str "trap", .str "step", .str "line"]))
    (e2 : σ[2]? = some (some (.ref l3))) (e3 : σ[3]? = some (some (.ref l4))) (q : D'.rt (.str "forest") H) :
    tRet (tIf (tTest (tOp rEq (tBM K "list" (rCntB K) (tVar 2) (tCons (tC (.bl true)) tNil)) (tC (.int 1)))) (tOp (rIxL K) (tVar 3) (tBM K "list" (rIndex K) (tVar 2) (tCons (tC (.bl true)) tNil))) (tC (.str "other"))) D' σ H := by
  have hc : countIn (.bool true) ([false, false, true, false, false, false, false, false].map PyData.bool) = 1 := by decide +kernel
  refine c_ret (c_ifE (c_test (c_op (c_var e2 ⟨.inl ⟨rfl, _, SqL.of hk⟩, c_cons (c_c ⟨l3, _, true, rfl, rfl, SqL.of hk, c_c ⟨rfl, _, rfl, ?_⟩⟩)⟩))))
  rw [hc, decide_eq_true rfl]
  refine iteT (c_op (c_var e3 (c_var e2 ⟨.inl ⟨rfl, _, SqL.of hk⟩, c_cons (c_c ⟨l3, _, .bl true, 2, .bl true, rfl, rfl, SqL.of hk, rfl, rfl, rfl, rfl, fun m z hm hz => ?_, ⟨l4, _, (2 : Nat), _, rfl, rfl, SqL.of hw, atI_nat (j := 2) rfl, q⟩⟩)⟩)))
  match m, hm with
  | 0, _ => cases hz; rfl
  | 1, _ => cases hz; rfl
section
variable {X : Cx} {Am : Hp → Prop} {G : List Addr} {C : Nat → Addr}
theorem word_gives {q : Str} {g : Addr} {cdg : Value} (A : AmOk Am G) (E : Errs X.K X.mg C) (B : Glb X.mg) : GivesA X ["work", "e", "known", "words"] "_law_word" (defScope sWord) g cdg (defBody sWord) "work" q (TTw Am C) := by
  intro f c' s H Q tl act hc h
  refine ⟨_, pss_cons (ps_try_as (X := (cxOf C8.CX0 X.prog X.w X.K X.mg X.base ["work", "e", "known", "words"] "_law_word" (defScope sWord) g cdg X.A X.stack s H C8.E0).nox) (i := 1) (c := .ref (C 0))
      (tb := fun W D σ H => σ[0]? = some (some (.ref f)) ∧ H c' = some (CodeO c' q) ∧ ∃ E : XK, (∀ cls d H', E cls d H' → W cls d σ H') ∧ tl E H fun _ H1 => D.nx σ H1)
      rfl rfl scWord.nd rfl rfl ⟨by rfl, by decide, .inl E.g0⟩ L2.takes0 (fun W pn xe tk _ => ?_)
      (fun a oe cls d pn hz hf =>
        pss_cons (ps_if (PW.pt (pw_or (pt_val (pe_callB (call_isX hz hf) (by rfl) B.isi boot_isi (pa_cons (pv 1) (pa_cons (pe_glob (v := .ref (C 1)) (by rfl) E.g1 rfl) pa_nil)))) (pw_or1 (pt_val (pe_callB (call_isX hz hf) (by rfl) B.isi boot_isi (pa_cons (pv 1) (pa_cons (pe_glob (v := .ref (C 2)) (by rfl) E.g2 rfl) pa_nil)))))))
          (pss_one (ps_ret (pe_op op_add_str (pe_ifExp (pt_val (pe_callB (call_isX hz hf) (by rfl) B.isi boot_isi (pa_cons (pv 1) (pa_cons (pe_glob (v := .ref (C 1)) (by rfl) E.g1 rfl) pa_nil)))) pe_str pe_str) (pe_xf E.x1.1 E.x1.2 hz hf (pv 1))))) pss_nil)
        (pss_cons (ps_if (PW.pt (pw_or (pt_val (pe_callB (call_isX hz hf) (by rfl) B.isi boot_isi (pa_cons (pv 1) (pa_cons (pe_glob (v := .ref (C 3)) (by rfl) E.g3 rfl) pa_nil)))) (pw_or1 (pt_val (pe_callB (call_isX hz hf) (by rfl) B.isi boot_isi (pa_cons (pv 1) (pa_cons (pe_glob (v := .ref (C 4)) (by rfl) E.g4 rfl) pa_nil)))))))
          (pss_one (ps_ret (pe_tup (pa_cons (pe_ifExp (pt_val (pe_callB (call_isX hz hf) (by rfl) B.isi boot_isi (pa_cons (pv 1) (pa_cons (pe_glob (v := .ref (C 3)) (by rfl) E.g3 rfl) pa_nil)))) pe_str pe_str) (pa_cons (pe_xf E.x3.1 E.x3.2 hz hf (pv 1)) pa_nil))))) pss_nil)
        (pss_cons (ps_if (pt_val (pe_callB (call_isX hz hf) (by rfl) B.isi boot_isi (pa_cons (pv 1) (pa_cons (pe_glob (v := .ref (C 5)) (by rfl) E.g5 rfl) pa_nil))))
          (pss_one (ps_ret (pe_tup (pa_cons pe_str (pa_cons (pe_xf E.x5.1 E.x5.2 hz hf (pv 1)) pa_nil))))) pss_nil)
        (pss_cons (ps_set (i := 2) scWord.nd rfl (Or.inl rfl) (pe_lst (pa_cons (pe_callB (call_isX hz hf) (by rfl) B.isi boot_isi (pa_cons (pv 1) (pa_cons (pe_glob (v := .ref (C 6)) (by rfl) E.g6 rfl) pa_nil))) (pa_cons (pe_callB (call_isX hz hf) (by rfl) B.isi boot_isi (pa_cons (pv 1) (pa_cons (pe_glob (v := .ref (C 7)) (by rfl) E.g7 rfl) pa_nil)))
            (pa_cons (pe_callB (call_isX hz hf) (by rfl) B.isi boot_isi (pa_cons (pv 1) (pa_cons (pe_glob (v := .ref (C 8)) (by rfl) E.g8 rfl) pa_nil))) (pa_cons (pe_callB (call_isX hz hf) (by rfl) B.isi boot_isi (pa_cons (pv 1) (pa_cons (pe_glob (v := .ref (C 9)) (by rfl) E.g9 rfl) pa_nil))) pa_nil))))))
        (pss_cons (ps_set (i := 2) scWord.nd rfl (Or.inl rfl) (pe_op op_cat (pv 2) (pe_lst (pa_cons (pe_callB (call_isX hz hf) (by rfl) B.isi boot_isi (pa_cons (pv 1) (pa_cons (pe_glob (v := .ref (C 10)) (by rfl) E.g10 rfl) pa_nil))) (pa_cons (pe_callB (call_isX hz hf) (by rfl) B.isi boot_isi (pa_cons (pv 1) (pa_cons (pe_glob (v := .ref (C 11)) (by rfl) E.g11 rfl) pa_nil)))
            (pa_cons (pe_callB (call_isX hz hf) (by rfl) B.isi boot_isi (pa_cons (pv 1) (pa_cons (pe_glob (v := .ref (C 12)) (by rfl) E.g12 rfl) pa_nil))) (pa_cons (pe_callB (call_isX hz hf) (by rfl) B.isi boot_isi (pa_cons (pv 1) (pa_cons (pe_glob (v := .ref (C 13)) (by rfl) E.g13 rfl) pa_nil))) pa_nil)))))))
        (pss_cons (ps_set (i := 3) scWord.nd rfl (Or.inl rfl) (pe_lst (pa_cons pe_str (pa_cons pe_str (pa_cons pe_str (pa_cons pe_str (pa_cons pe_str (pa_cons pe_str (pa_cons pe_str (pa_cons pe_str pa_nil)))))))))) 
        (pss_one (ps_ret (te := tIf (tTest (tOp rEq (tBM X.K "list" (rCntB X.K) (tVar 2) (tCons (tC (.bl true)) tNil)) (tC (.int 1)))) (tOp (rIxL X.K) (tVar 3) (tBM X.K "list" (rIndex X.K) (tVar 2) (tCons (tC (.bl true)) tNil))) (tC (.str "other"))) (by
          refine pe_ifExp (pt_cmpR op_eq (pe_bm PySem.F.plainAttrs_list PySem.F.slot_list_count PySem.F.type_list_count mt_bcount (pv 2) (pa_cons pe_bl pa_nil)) pe_int (nomark _)) ?_ pe_str
          exact pe_ix ix_list (pv 3) (pe_bm PySem.F.plainAttrs_list PySem.F.slot_list_index PySem.F.type_list_index mt_index (pv 2) (pa_cons pe_bl pa_nil)) (fun _ _ => rfl)))))))))))
    (pss_one (ps_ret pe_str)), ?_⟩
  · refine ⟨fun pins s' σ H' D I h' => ?_⟩
    obtain ⟨h1, h2, h3⟩ := h'
    exact (pss_one (ps_expr (act W pn xe _ _ tk))).run pins s' σ H' D I ⟨h1, h2, h3⟩
  · refine c_seq ⟨rfl, hc, EchW Am C Q, fun cls d H' he => ?_, h⟩
    have ba : ∀ {H' : Hp} {a : Addr} {dd : Addr} {fs : List (Str × V)} {o : HO}, H' dd = some (.xd fs) → H' a = none → upd H' a o dd = some (.xd fs) := fun e n => by rw [upd_ne (ne_of_none e n)]; exact e
    rcases he with ⟨rfl, dd, v, rfl, hx, a', hq⟩ | ⟨rfl, rfl, a', hq⟩
    · refine ⟨true, (E.ex 3 (.inl rfl)).2.2.1, fun _ a ha => ?_, fun z => Bool.noConfusion z⟩
      have hd : (some dd = none ∨ ∃ d2 fs, some dd = some d2 ∧ H' d2 = some (.xd fs)) := .inr ⟨dd, _, rfl, hx⟩
      refine c_seq (c_if (c_or (c_Bv (v_isX E (.inl rfl) (by decide) (by decide) rfl hd) (iteF (c_Bv (v_isX E (.inl rfl) (by decide) (by decide) rfl hd) (iteF (c_next ?_)))))))
      dsimp only
      refine c_seq (c_if (c_or (c_Bv (v_isX E (.inl rfl) (by decide) (by decide) rfl hd) (iteT (iteT ?_)))))
      refine c_ret (c_cons (c_ifE (c_Bv (v_isX E (.inl rfl) (by decide) (by decide) rfl hd) (iteT (c_c (c_cons (c_var rfl ⟨rfl, rfl, dd, _, v, rfl, hx, rfl, ?_⟩)))))))
      exact ⟨sz (by show 2 ≤ _; decide), fun p hp => hq p _ (ExtN.new hp) (A.new a' hp) upd_same⟩
    · refine ⟨true, (E.ex 8 (.inr rfl)).2.2.1, fun _ a ha => ?_, fun z => Bool.noConfusion z⟩
      have hd : ∀ {H2 : Hp}, ((none : Option Addr) = none ∨ ∃ d2 fs, (none : Option Addr) = some d2 ∧ H2 d2 = some (.xd fs)) := .inl rfl
      refine c_seq (c_if (c_or (c_Bv (v_isX E (.inr rfl) (by decide) (by decide) rfl hd) (iteF (c_Bv (v_isX E (.inr rfl) (by decide) (by decide) rfl hd) (iteF (c_next ?_)))))))
      dsimp only
      refine c_seq (c_if (c_or (c_Bv (v_isX E (.inr rfl) (by decide) (by decide) rfl hd) (iteF (c_Bv (v_isX E (.inr rfl) (by decide) (by decide) rfl hd) (iteF (c_next ?_)))))))
      dsimp only
      refine c_seq (c_if (c_Bv (v_isX E (.inr rfl) (by decide) (by decide) rfl hd) (iteF (c_next ?_))))
      dsimp only
      have vx : ∀ {σ : L2.St} {H2 : Hp} (j : Nat) (h1 : 1 ≤ j) (h2 : j ≤ 13), σ[1]? = some (some (.ref a)) → ∀ Q : VK, Q (.bl (decide (8 = j))) H2 → tCB (rIsX X.K (.ref (C 8)) none a) (tCons (tVar 1) (tCons (tC (.ref (C j))) tNil)) σ H2 Q := fun j h1 h2 es => v_isX E (.inr rfl) h1 h2 es hd
      refine c_seq (c_set (c_lst (va_cons (vx 6 (by decide) (by decide) rfl) (va_cons (vx 7 (by decide) (by decide) rfl) (va_cons (vx 8 (by decide) (by decide) rfl) (va_cons (vx 9 (by decide) (by decide) rfl) va_nil)))) (sz (by show 4 ≤ _; decide)) fun l1 h1 => ?_))
      dsimp only
      refine c_seq (c_set (c_op (c_var rfl (c_lst (va_cons (vx 10 (by decide) (by decide) rfl) (va_cons (vx 11 (by decide) (by decide) rfl) (va_cons (vx 12 (by decide) (by decide) rfl) (va_cons (vx 13 (by decide) (by decide) rfl) va_nil)))) (sz (by show 4 ≤ _; decide)) fun l2 h2 => ?_))))
      refine ⟨l1, l2, _, _, rfl, rfl, by rw [upd_ne (ne_of_none upd_same h2), upd_same], upd_same, sz (by show 8 ≤ _; decide), fun l3 h3 => ?_⟩
      dsimp only
      refine c_seq (c_set (c_lst (va_cons v_c (va_cons v_c (va_cons v_c (va_cons v_c (va_cons v_c (va_cons v_c (va_cons v_c (va_cons v_c va_nil)))))))) (sz (by show 8 ≤ _; decide)) fun l4 h4 => ?_))
      dsimp only
      have e4 := LamX.ExtN.trans (LamX.ExtN.trans (LamX.ExtN.trans (ExtN.new h1) (ExtN.new h2)) (ExtN.new h3)) (ExtN.new (o := HO.lst [.str "manner", .str "path", .str "forest", .str "number", .str "word", .str "trap", .str "step", .str "line"]) h4)
      have a4 := A.new (o := HO.lst [.str "manner", .str "path", .str "forest", .str "number", .str "word", .str "trap", .str "step", .str "line"]) (A.new (A.new (A.new a' h1) h2) h3) h4
      refine word_end ?_ upd_same rfl rfl (hq _ e4 a4)
      rw [upd_ne (ne_of_none upd_same h4), upd_same]
      rfl
end
end Mk

/-! ### MkTupMul -/
set_option Elab.async false
set_option linter.all false
set_option maxRecDepth 100000
set_option maxHeartbeats 4000000
namespace L2
open PySem PySem.Spec PyProof.Rows
theorem mk_tuple_mul0 (l : Addr) (items : Array Value) (n : Nat) (dd : Option Addr) (sl : Array (Option Value)) (u : Tok) (c1 : (items.isEmpty || (0 : Int) == 1) = false) :
    Meets (Builtin.«tuple.__mul__» ⟨[.ref l, .int 0 u], []⟩) (fun _ R s => s.heap.get? l = some { cls := .type "tuple", dict := dd, data := .seq items n, slots := sl } ∧
      R (.ok (.ret (Value.ref s.heap.objs.size))) { s with heap := s.heap.push { cls := Value.type "tuple", data := Data.seq #[] }, toks := s.toks }) :=
  .of_wp fun prog w A R s h => by
    obtain ⟨hp, g, d, tk, os⟩ := s
    obtain ⟨hl, h⟩ := h
    have f1 := AutoSeq1.idx_int
    wp_walk using wpAny_loadPart' hl
    repeat (first
      | (refine wpAny_ite_false (decide_eq_false (by rw [c1]; exact Bool.false_ne_true)) ?_; wp_walk using wpAny_loadPart' hl)
      | (refine wpAny_ite_false (decide_eq_false (by decide)) ?_; wp_walk using wpAny_loadPart' hl)
      | (refine wpAny_ite_true (decide_eq_true (by decide)) ?_; wp_walk using wpAny_loadPart' hl))
    all_goals exact ⟨_, rfl, h⟩
theorem mk_tuple_mul1 (l : Addr) (items : Array Value) (n : Nat) (sl : Array (Option Value)) (u : Tok) (dd : Option Addr) :
    Meets (Builtin.«tuple.__mul__» ⟨[.ref l, .int 1 u], []⟩) (fun _ R s => s.heap.get? l = some { cls := .type "tuple", dict := dd, data := .seq items n, slots := sl } ∧ R (.ok (.ret (Value.ref l))) s) :=
  .of_wp fun prog w A R s h => by
    obtain ⟨hp, g, d, tk, os⟩ := s
    obtain ⟨hl, h⟩ := h
    have f1 := AutoSeq1.idx_int
    have c1 : (items.isEmpty || (1 : Int) == 1) = true := by rw [show ((1 : Int) == 1) = true by decide, Bool.or_true]
    wp_walk using wpAny_loadPart' hl
    exact ⟨_, rfl, h⟩
/-- t * k, t not empty, any small k -/
def rRepA (K : PySem.W.Frag) : R2 := fun x y H Q => ∃ l k xs, x = .ref l ∧ y = .int k ∧ SqT K H l xs ∧ xs ≠ [] ∧ 0 ≤ k ∧ k ≤ 5000 ∧ xs.length ≤ 100 ∧ (k = 1 → Q (.ref l) H) ∧ (k ≠ 1 → ∀ p, H p = none → Q (.ref p) (upd H p (.tup (List.replicate k.toNat xs).flatten)))
theorem op_repA {X : Cx} : OpR X (binaryOp .Mult) (rRepA X.K) := by
  intro pins s σ H x y v u Q I rx ry h
  obtain ⟨l, k, xs, rfl, rfl, hT, hne, h1, h2, hz, q1, q⟩ := h
  cases rx
  obtain ⟨t, rfl⟩ := ry
  obtain ⟨its, r, ⟨⟨cls, dd, data, sl⟩, ho, hc, n, hd⟩, hs⟩ := I.tuple hT
  simp only at hc hd
  subst hc hd
  have hle : its.length = xs.length := r.length.symm
  have hi : its.toArray.isEmpty = false := by
    cases its with
    | nil => exact absurd (List.eq_nil_of_length_eq_zero hle.symm) hne
    | cons a b => rfl
  have go : ∀ {P : Result → Shared → Prop}, codeAny (model X.prog X.w) X.A (.call (.builtin "tuple.__mul__") ⟨[.ref l, .int k t], []⟩) P s → True := fun _ => True.intro
  by_cases k1 : k = 1
  · subst k1
    refine wpAny_binaryOp_repeat_ref (T := "tuple") (U := "int") (by decide) ⟨_, ho, rfl⟩ (fun s' => typeIs_int s' 1 t) noFill_tuple_mul F.fills_int_mul F.slot_int_rmul repeat_tuple F.slot_int_index.lookup
      (call_meets F.slot_int_rmul (typeIs_int s 1 t) F.entry_int_rmul (F.args_int_rmul_2 _ _) (int_rmul_tuple 1 t l its.toArray n dd sl)
        ⟨ho, rfl, ⟨_, ho, rfl⟩, call_meets F.slot_tuple_mul ⟨_, ho, rfl⟩ F.entry_tuple_mul (F.args_tuple_mul_2 _ _) (mk_tuple_mul1 l its.toArray n sl t dd) ⟨ho, ⟨.ref l, H, I, rfl, q1 rfl⟩⟩⟩)
  · have lay : EP X pins σ Q (.ref s.heap.objs.size) { s with heap := s.heap.push { cls := Value.type "tuple", data := Data.seq (List.replicate k.toNat its).flatten.toArray }, toks := s.toks } := by
      refine ⟨.ref s.heap.objs.size, _, I.laid (t' := s.toks) (o := .tup (List.replicate k.toNat xs).flatten) (fun b ob q => Heap.get?_push_of_some _ q) (Nat.le_refl _) ?_, rfl, q k1 _ (I.hok.fresh (Nat.le_refl _))⟩
      exact ⟨by rw [PyProof.Rows.lm_len_rep_flat, sizeLine_eq]; have a1 : k.toNat * xs.length ≤ 5000 * 100 := Nat.mul_le_mul (by omega) hz; omega, _, r.rep k.toNat, IsTup.new _ _⟩
    by_cases k0 : k = 0
    · subst k0
      refine wpAny_binaryOp_repeat_ref (T := "tuple") (U := "int") (by decide) ⟨_, ho, rfl⟩ (fun s' => typeIs_int s' 0 t) noFill_tuple_mul F.fills_int_mul F.slot_int_rmul repeat_tuple F.slot_int_index.lookup
        (call_meets F.slot_int_rmul (typeIs_int s 0 t) F.entry_int_rmul (F.args_int_rmul_2 _ _) (int_rmul_tuple 0 t l its.toArray n dd sl)
          ⟨ho, rfl, ⟨_, ho, rfl⟩, call_meets F.slot_tuple_mul ⟨_, ho, rfl⟩ F.entry_tuple_mul (F.args_tuple_mul_2 _ _) (mk_tuple_mul0 l its.toArray n dd sl t (by rw [hi]; rfl)) ⟨ho, lay⟩⟩)
    · have hsz0 : its.toArray.size = xs.length := by rw [List.size_toArray, hle]
      have hm : ((its.toArray.size : Nat) : Int) * k ≤ 1000000 := by
        rw [hsz0]
        have a1 : ((xs.length : Nat) : Int) * k ≤ 100 * k := Int.mul_le_mul_of_nonneg_right (by omega) (by omega)
        omega
      have flen : (List.replicate k.toNat its).flatten.length ≤ sizeLine := by
        rw [PyProof.Rows.lm_len_rep_flat, hle, sizeLine_eq]
        have a1 : k.toNat * xs.length ≤ 5000 * 100 := Nat.mul_le_mul (by omega) hz
        omega
      have c0 : (decide (k < -(2 ^ 63)) || decide (k ≥ 2 ^ 63)) = false := by rw [decide_eq_false (by omega), decide_eq_false (by omega)] <;> rfl
      have c1 : (its.toArray.isEmpty || k == 1) = false := by rw [hi, Bool.false_or]; exact beq_eq_false_iff_ne.mpr k1
      have c2 : (decide (k ≤ 0) || its.toArray.isEmpty) = false := by rw [hi, Bool.or_false]; exact decide_eq_false (by omega)
      have c4 : Builtin.Tuple.tupleTooMany (((its.toArray.size : Nat) : Int) * k) = false := by
        unfold Builtin.Tuple.tupleTooMany
        rw [sizeLine_eq]
        exact decide_eq_false (by omega)
      refine wpAny_binaryOp_repeat_ref (T := "tuple") (U := "int") (by decide) ⟨_, ho, rfl⟩ (fun s' => typeIs_int s' k t) noFill_tuple_mul F.fills_int_mul F.slot_int_rmul repeat_tuple F.slot_int_index.lookup
        (call_meets F.slot_int_rmul (typeIs_int s k t) F.entry_int_rmul (F.args_int_rmul_2 _ _) (int_rmul_tuple k t l its.toArray n dd sl)
          ⟨ho, rfl, ⟨_, ho, rfl⟩, call_meets F.slot_tuple_mul ⟨_, ho, rfl⟩ F.entry_tuple_mul (F.args_tuple_mul_2 _ _) (tuple_mulW l its.toArray n dd sl k t c0 c1 c2 (by omega) c4 (by rw [size_rep, List.size_toArray]; exact flen)) ⟨ho, ?_⟩⟩)
      rw [size_rep]
      exact lay
end L2

/-! ### MkThe -/
set_option Elab.async false
set_option linter.all false
set_option maxRecDepth 100000
set_option maxHeartbeats 4000000
namespace Mk
open PySem PySem.Spec PyProof.Rows L2
open GxR (TabG Tabbed)
open LamX (TabS)
abbrev sLaw : Stmt := top 53
abbrev NL : List Str := ["script", "row", "names", "ways", "left", "forest", "turn", "at", "bad", "deep", "many", "odd", "question", "tags", "whole", "way"]
theorem scLaw : FnScope NL ["script"] (defScope sLaw) := ⟨rfl, rfl, rfl, by decide +kernel, rfl, by decide +kernel, by decide +kernel⟩
theorem ev_lam0 {X : Cx} {body : Expr} {scope : Scope} {lpos : Pos} (pins : List (Addr × Obj)) (s : Shared) (σ : L2.St) (H : Hp) (Q : Value → Shared → Prop) (I : Inv X pins σ H s)
    (h : ∀ (n : Nat) s', Inv X pins σ H s' → wpAny (model X.prog X.w) X.A (makeFunction "<lambda>" (X.env.qual ++ "<lambda>") pars0 (.expr body) scope X.env ((fun _ => []) n) [] [] lpos lpos.line) Q X.xe s') : wpAny (model X.prog X.w) X.A (eval (.Lambda pars0 body scope lpos) X.env) Q X.xe s :=
  PySem.W.kla_eval rfl (h 0 s I)
theorem ev_lam1 {X : Cx} {body : Expr} {scope : Scope} {lpos p dp : Pos} {a : Str} {j : Nat} {i : Int} (pins : List (Addr × Obj)) (s : Shared) (σ : L2.St) (H : Hp) (Q : Value → Shared → Prop) (I : Inv X pins σ H s)
    (h : ∀ (n : Nat) s', Inv X pins σ H s' → wpAny (model X.prog X.w) X.A (makeFunction "<lambda>" (X.env.qual ++ "<lambda>") (pars1 a p (.Constant (.int i) j dp)) (.expr body) scope X.env ((fun n => [.int i n]) n) [] [] lpos lpos.line) Q X.xe s') : wpAny (model X.prog X.w) X.A (eval (.Lambda (pars1 a p (.Constant (.int i) j dp)) body scope lpos) X.env) Q X.xe s := by
  rw [arm_eval_Lambda]
  show wpAny _ _ (do let dv ← evalAll [eval (.Constant (.int i) j dp) X.env]; let kdv ← holding dv (evalAllOpt []); makeFunction "<lambda>" (X.env.qual ++ "<lambda>") (pars1 a p (.Constant (.int i) j dp)) (.expr body) scope X.env dv kdv [] lpos lpos.line) _ _ _
  refine wpAny_bind (wpAny_bind (thn ((pe_int (X := X) (i := i) (j := j) (pos := dp)).run pins s σ H (fun v H1 => v = .int i ∧ H1 = H) I ⟨rfl, rfl⟩) fun u s1 ⟨v, H1, I1, r1, q1⟩ => ?_))
  obtain ⟨rfl, rfl⟩ := q1
  obtain ⟨t, rfl⟩ := r1
  exact wpAny_bind (wpAny_holding (wpAny_pure (wpAny_pure (wpAny_bind (wpAny_holding (wpAny_pure (h t s1 I1)))))))
end Mk

/-! ### MkHelp -/
set_option Elab.async false
set_option linter.all false
set_option maxRecDepth 100000
set_option maxHeartbeats 4000000
namespace Mk
open PySem PySem.Spec PyProof.Rows L2
open GxR (TabG Tabbed)
open LamX (TabS)
/-! ### data compared -/
mutual
def pyD : D → PyData
  | .non => .none
  | .bl b => .bool b
  | .int i => .int i
  | .str s => .str s
  | .tup l => .tuple (pyDs l)
  | .lst l => .list (pyDs l)
def pyDs : List D → List PyData
  | [] => []
  | d :: ds => pyD d :: pyDs ds
end
mutual
theorem im_dp {K : PySem.W.Frag} {H : Hp} : ∀ {d : D} {v : V}, Im K H d v → Dp K H v (pyD d)
  | .non, v, h => by unfold Im at h; subst h; unfold pyD; exact .non
  | .bl b, v, h => by unfold Im at h; subst h; unfold pyD; exact .bl b
  | .int i, v, h => by unfold Im at h; subst h; unfold pyD; exact .int i
  | .str s, v, h => by unfold Im at h; subst h; unfold pyD; exact .str s
  | .tup l, v, h => by
    unfold Im at h
    obtain ⟨a, xs, rfl, h2, h3⟩ := h
    unfold pyD
    exact .tup h2 (imL_dp h3)
  | .lst l, v, h => by
    unfold Im at h
    obtain ⟨a, xs, rfl, h2, h3⟩ := h
    unfold pyD
    exact .lst h2 (imL_dp h3)
theorem imL_dp {K : PySem.W.Frag} {H : Hp} : ∀ {ds : List D} {vs : List V}, ImL K H ds vs → DpAll K H vs (pyDs ds)
  | [], vs, h => by unfold ImL at h; subst h; unfold pyDs; exact .nil
  | d :: ds, vs, h => by
    unfold ImL at h
    obtain ⟨v, vs, rfl, h2, h3⟩ := h
    unfold pyDs
    exact .cons (im_dp h2) (imL_dp h3)
end
/-- x != y of data -/
theorem c_neD {K : PySem.W.Frag} {H : Hp} {Q : VK} {d e : D} {x y : V} (hx : Im K H d x) (hy : Im K H e y) (s1 : SeqAt.shaped (pyD d) = true) (s2 : SeqAt.shaped (pyD e) = true) (q : Q (.bl (!PyData.eqv (pyD d) (pyD e))) H) : rNeD K x y H Q := ⟨_, _, im_dp hx, im_dp hy, s1, s2, q⟩
theorem c_eqD {K : PySem.W.Frag} {H : Hp} {Q : VK} {d e : D} {x y : V} (hx : Im K H d x) (hy : Im K H e y) (s1 : SeqAt.shaped (pyD d) = true) (s2 : SeqAt.shaped (pyD e) = true) (q : Q (.bl (PyData.eqv (pyD d) (pyD e))) H) : rEqD K x y H Q := ⟨_, _, im_dp hx, im_dp hy, s1, s2, q⟩
/-! ### words -/
def plD : Option Nat → D | none => .non | some p => .int (p : Int)
/-- ("row", place) -/
abbrev rowW (p : Option Nat) : D := .tup [.str "row", plD p]
theorem im_plD {K : PySem.W.Frag} {H : Hp} (p : Option Nat) : Im K H (plD p) (plV p) := by
  cases p with
  | none => exact im_non
  | some p => exact im_int
theorem im_rowW {K : PySem.W.Frag} {H : Hp} {a : Addr} {p : Option Nat} (h : H a = some (.tup [.str "row", plV p])) : Im K H (rowW p) (.ref a) := im_tup (.inl (.inl h)) (imL_cons (by unfold Im; rfl) (imL_cons (im_plD p) imL_nil))
section
variable {K : PySem.W.Frag} {Am : Hp → Prop} {G : List Addr} {C : Nat → Addr} {TP : Addr} {q : Str}
theorem er_w {H : Hp} {Q : VK} {p : Option Nat} (h : RtD K Am H Q (rowW p)) : Er Am H (EchW Am C Q) (C 3) "place" (plV p) := fun dd H' e a hx => .inl ⟨rfl, dd, _, rfl, hx, a, fun pp H2 e2 a2 hp => h _ _ (LamX.ExtN.trans e e2) a2 (im_rowW hp)⟩
theorem en_w {H : Hp} {Q : VK} (h : RtD K Am H Q (.str "forest")) : En Am H (EchW Am C Q) (C 8) := fun H' e a => .inr ⟨rfl, rfl, a, fun H2 e2 a2 => h _ _ (LamX.ExtN.trans e e2) a2 (by unfold Im; rfl)⟩
/-- _law_word(lambda ..) -/
theorem c_lam {t : XK → TE} {σ : L2.St} {H : Hp} {Q : VK} (hT : ∀ H, Am H → TabS H TP q) (hG : ∀ H H1, Am H → GrowT TP H H1 → TabS H1 TP q → Am H1) (hA : Am H) (h : ∀ H1, ExtN H H1 → Am H1 → t (EchW Am C Q) σ H1 fun _ H' => Q (.str "") H') : tLamA TP q (TTw Am C) t σ H Q := by
  refine ⟨hT H hA, fun H1 g t1 => h H1 (fun b o e n => ?_) (hG H H1 hA g t1)⟩
  refine g b o (fun z => ?_) e
  obtain ⟨ps, hP, _⟩ := hT H hA
  rw [z, hP] at e
  exact n ps (Option.some.inj e).symm
end
/-- data without lists stays when the row moves -/
theorem Im.xr {K : PySem.W.Frag} {H H' : Hp} {r a : Addr} {d : D} {v : V} (ra : RowAt K H r a) (e : XR r H H') (n : NoL d) (h : Im K H d v) : Im K H' d v := by
  obtain ⟨xs, hr⟩ := ra.lst
  exact Im.tt (e.tst hr) n h
theorem noL_rd (is : List Int) : NoL (RD is) := noL_ints is
theorem noL_qd (rows : List (List Int)) (ans : List Int) : NoL (QD rows ans) := ⟨noL_rds rows, noL_ints ans, True.intro⟩
theorem noL_fo (f : Fo) : NoL f.d := Fo.noL f
end Mk

/-! ### MkMath -/
set_option Elab.async false
set_option linter.all false
set_option maxRecDepth 100000
set_option maxHeartbeats 4000000
namespace Mk
open PySem PySem.Spec PyProof.Rows L2
theorem rd_inj {a b : List Int} (h : RD a = RD b) : a = b := by
  injection h with h
  exact List.map_inj_right (f := D.int) (fun a b h => by injection h) |>.mp h
theorem qd_inj {rows rows' : List (List Int)} {ans ans' : List Int} (h : QD rows ans = QD rows' ans') : rows = rows' ∧ ans = ans' := by
  injection h with h
  injection h with h1 h2
  injection h1 with h1
  injection h2 with h2
  exact ⟨List.map_inj_right (f := RD) (fun a b h => rd_inj h) |>.mp h1, rd_inj h2⟩
/-! ### the law's way of the answers due -/
/-- the states along a way -/
def pileOf (rows : List (List Int)) (l : List Int) : List Int := (List.range (l.length + 1)).map fun j => ledI rows 0 (l.take j)
theorem pileOf_snoc (rows : List (List Int)) (l : List Int) (t : Int) : pileOf rows (l ++ [t]) = pileOf rows l ++ [ledI rows 0 (l ++ [t])] := by
  unfold pileOf
  rw [List.length_append, show l.length + [t].length + 1 = (l.length + 1) + 1 from rfl, List.range_succ, List.map_append]
  congr 1
  · refine List.map_congr_left fun j hj => ?_
    have := List.mem_range.mp hj
    rw [List.take_append_of_le_length (by omega)]
  · show [ledI rows 0 ((l ++ [t]).take (l.length + 1))] = _
    rw [List.take_of_length_le (by rw [List.length_append]; exact Nat.le_refl _)]
theorem pileOf_nil (rows : List (List Int)) : pileOf rows [] = [0] := rfl
theorem last_pileOf (rows : List (List Int)) (l : List Int) : lastI (pileOf rows l) = ledI rows 0 l := by
  rcases List.eq_nil_or_concat l with rfl | ⟨l', t, rfl⟩
  · rfl
  · rw [List.concat_eq_append, pileOf_snoc, lastI_app]
theorem pileOf_drop (rows : List (List Int)) {l : List Int} (h : 0 < l.length) : pileOf rows l.dropLast = (pileOf rows l).dropLast := by
  rcases List.eq_nil_or_concat l with rfl | ⟨l', t, rfl⟩
  · cases h
  · rw [List.concat_eq_append, pileOf_snoc, List.dropLast_concat, List.dropLast_concat]
def ansW (rows : List (List Int)) (ans : List Int) (w : List Int) : Int := ans.getD (ledI rows 0 w).toNat 0
theorem due_ways {rows : List (List Int)} {ans : List Int} {n : Int} : ∀ {is l due : List Int}, RowOk n is l.length → dueGo rows ans is (pileOf rows l) due = due ++ (waysGo is l).map (ansW rows ans)
  | [], l, due, _ => by show due = due ++ []; rw [List.append_nil]
  | t :: r, l, due, h => by
    rcases h with ⟨rfl, h1, ok⟩ | ⟨h0, h1, ok⟩
    · have e1 : dueGo rows ans (-1 :: r) (pileOf rows l) due = dueGo rows ans r (pileOf rows l).dropLast due := rfl
      have e2 : waysGo (-1 :: r) l = waysGo r l.dropLast := rfl
      rw [e1, e2, ← pileOf_drop rows h1]
      exact due_ways (by rw [List.length_dropLast]; exact ok)
    · have ht : ¬ t = -1 := by omega
      have e1 : dueGo rows ans (t :: r) (pileOf rows l) due = dueGo rows ans r (pileOf rows l ++ [nxtI rows (lastI (pileOf rows l)) t]) (due ++ [ans.getD (nxtI rows (lastI (pileOf rows l)) t).toNat 0]) := by
        show (if t = -1 then _ else _) = _
        rw [if_neg ht]
      have e2 : waysGo (t :: r) l = (l ++ [t]) :: waysGo r (l ++ [t]) := by
        show (if t = -1 then _ else _) = _
        rw [if_neg ht]
      have e3 : nxtI rows (lastI (pileOf rows l)) t = ledI rows 0 (l ++ [t]) := by rw [last_pileOf, led_snoc]
      rw [e1, e2, e3, ← pileOf_snoc, due_ways (l := l ++ [t]) (by rw [List.length_append]; exact ok), List.map_cons, List.append_assoc]
      rfl
/-- every way keeps to the names -/
theorem ways_rng {n : Int} : ∀ {is l : List Int}, RowOk n is l.length → (∀ t ∈ l, 0 ≤ t ∧ t ≤ n - 1) → ∀ w ∈ waysGo is l, ∀ t ∈ w, 0 ≤ t ∧ t ≤ n - 1
  | [], l, _, _, w, hw => absurd hw List.not_mem_nil
  | t :: r, l, h, hl, w, hw => by
    rcases h with ⟨rfl, h1, ok⟩ | ⟨h0, h1, ok⟩
    · exact ways_rng (is := r) (l := l.dropLast) (by rw [List.length_dropLast]; exact ok) (fun x hx => hl x ((List.dropLast_sublist l).subset hx)) w hw
    · have e2 : waysGo (t :: r) l = (l ++ [t]) :: waysGo r (l ++ [t]) := by
        show (if t = -1 then _ else _) = _
        rw [if_neg (by omega)]
      rw [e2] at hw
      have hl2 : ∀ x ∈ l ++ [t], 0 ≤ x ∧ x ≤ n - 1 := fun x hx => by
        rcases List.mem_append.mp hx with hx | hx
        · exact hl x hx
        · rw [List.mem_singleton.mp hx]; exact ⟨h0, h1⟩
      rcases List.mem_cons.mp hw with rfl | hw
      · exact hl2
      · exact ways_rng (is := r) (l := l ++ [t]) (by rw [List.length_append]; exact ok) hl2 w hw
/-! ### rows closed -/
theorem rowOk_mono {n m : Int} (h : n ≤ m) : ∀ {is : List Int} {k : Nat}, RowOk n is k → RowOk m is k
  | [], _, _ => True.intro
  | t :: r, k, ok => by
    rcases ok with ⟨a, b, ok⟩ | ⟨a, b, ok⟩
    · exact .inl ⟨a, b, rowOk_mono h ok⟩
    · exact .inr ⟨a, by omega, rowOk_mono h ok⟩
theorem pile_open {n : Int} : ∀ {is p : List Int}, RowOk n is p.length → (pileGo is p).length = openN is p.length
  | [], p, _ => rfl
  | t :: r, p, h => by
    rw [pileGo_cons]
    rcases h with ⟨rfl, h1, ok⟩ | ⟨h0, h1, ok⟩
    · rw [if_pos rfl]
      have := pile_open (is := r) (p := p.dropLast) (by rw [List.length_dropLast]; exact ok)
      rw [this, List.length_dropLast]
      rfl
    · rw [if_neg (by omega)]
      have := pile_open (is := r) (p := p ++ [t]) (by rw [List.length_append]; exact ok)
      rw [this, List.length_append]
      show openN r (p.length + 1) = openN r (if t = -1 then _ else _)
      rw [if_neg (by omega)]
theorem openN_le : ∀ (is : List Int) (k : Nat), openN is k ≤ k + is.length
  | [], k => Nat.le_refl _
  | t :: r, k => by
    show openN r (if t = -1 then k - 1 else k + 1) ≤ k + (r.length + 1)
    split
    · have := openN_le r (k - 1); omega
    · have := openN_le r (k + 1); omega
theorem rowOk_closed {n : Int} : ∀ {is : List Int} {k : Nat} (m : Nat), RowOk n is k → m ≤ openN is k → RowOk n (is ++ List.replicate m (-1)) k
  | [], k, 0, _, _ => True.intro
  | [], k, m + 1, _, h => .inl ⟨rfl, by have : m + 1 ≤ k := h; omega, rowOk_closed (is := []) (k := k - 1) m True.intro (by have : m + 1 ≤ k := h; show m ≤ k - 1; omega)⟩
  | t :: r, k, m, ok, h => by
    rcases ok with ⟨rfl, b, ok⟩ | ⟨a, b, ok⟩
    · exact .inl ⟨rfl, b, rowOk_closed m ok h⟩
    · refine .inr ⟨a, b, rowOk_closed m ok ?_⟩
      have : m ≤ openN r (if t = -1 then k - 1 else k + 1) := h
      rw [if_neg (by omega)] at this
      exact this
theorem doc_ok {n : Int} : ∀ {is : List Int} {k : Nat} (p : Nat), RowOk n is k → openN is k = 0 → k + is.length ≤ 80 → (∀ i, i ≤ is.length → openN (is.take i) k ≤ 40) → docGo is (k : Int) p = none
  | [], k, p, _, h, _, _ => by
    have : k = 0 := h
    subst this
    rfl
  | t :: r, k, p, ok, h, hl, hd => by
    rw [docGo_cons]
    have h1 := hd 1 (by simp)
    rcases ok with ⟨rfl, b, ok⟩ | ⟨a, b, ok⟩
    · have e : stepI k (-1) = ((k - 1 : Nat) : Int) := by unfold stepI; rw [if_pos rfl]; omega
      have h1 : k - 1 ≤ 40 := h1
      rw [e, if_neg (by omega)]
      exact doc_ok (p + 1) ok h (by simp only [List.length_cons] at hl; omega) fun i hi => hd (i + 1) (by simp only [List.length_cons]; omega)
    · have na : ¬ t = -1 := by omega
      have e : stepI k t = ((k + 1 : Nat) : Int) := by unfold stepI; rw [if_neg na]; omega
      have h1 : openN [] (if t = -1 then k - 1 else k + 1) ≤ 40 := h1
      rw [if_neg na] at h1
      have h1 : k + 1 ≤ 40 := h1
      have h2 : openN r (if t = -1 then k - 1 else k + 1) = 0 := h
      rw [if_neg na] at h2
      rw [e, if_neg (by omega)]
      refine doc_ok (p + 1) ok h2 (by simp only [List.length_cons] at hl; omega) fun i hi => ?_
      have := hd (i + 1) (by simp only [List.length_cons]; omega)
      have : openN (r.take i) (if t = -1 then k - 1 else k + 1) ≤ 40 := this
      rw [if_neg na] at this
      exact this
end Mk

/-! ### MkMath2 -/
set_option Elab.async false
set_option linter.all false
set_option maxRecDepth 100000
set_option maxHeartbeats 4000000
namespace Mk
open PySem PySem.Spec PyProof.Rows L2
theorem openN_app : ∀ (a b : List Int) (k : Nat), openN (a ++ b) k = openN b (openN a k)
  | [], b, k => rfl
  | t :: a, b, k => openN_app a b _
theorem openN_rep : ∀ (m k : Nat), openN (List.replicate m (-1)) k = k - m
  | 0, k => rfl
  | m + 1, k => by
    show openN (List.replicate m (-1)) (if (-1 : Int) = -1 then k - 1 else k + 1) = _
    rw [if_pos rfl, openN_rep m]
    omega
theorem openN_take (is : List Int) (m i : Nat) : openN ((is ++ List.replicate m (-1)).take i) 0 ≤ is.length := by
  rw [List.take_append, openN_app]
  have h1 := openN_le (is.take i) 0
  rw [List.length_take] at h1
  rw [List.take_replicate, openN_rep]
  omega
theorem fold_open {n : Int} : ∀ {is : List Int} {k : Nat}, RowOk n is k → is.foldl (fun (j : Int) t => j + if t = -1 then -1 else 1) (k : Int) = (openN is k : Nat)
  | [], k, _ => rfl
  | t :: r, k, h => by
    rw [List.foldl_cons]
    rcases h with ⟨rfl, h1, ok⟩ | ⟨h0, h1, ok⟩
    · have e : (k : Int) + (if (-1 : Int) = -1 then -1 else 1) = ((k - 1 : Nat) : Int) := by rw [if_pos rfl]; omega
      rw [e, fold_open ok]
      rfl
    · have na : ¬ t = -1 := by omega
      have e : (k : Int) + (if t = -1 then -1 else 1) = ((k + 1 : Nat) : Int) := by rw [if_neg na]; omega
      rw [e, fold_open ok]
      show ((openN r (k + 1) : Nat) : Int) = ((openN r (if t = -1 then k - 1 else k + 1) : Nat) : Int)
      rw [if_neg na]
theorem names_row {n m : Int} : ∀ (f : Fo) {rest : List Int} {k : Nat}, f.names m → RowOk n (f.row ++ rest) k → f.names n ∧ RowOk n rest k
  | .nil, rest, k, _, h => ⟨True.intro, h⟩
  | .cons t w r, rest, k, hm, h => by
    obtain ⟨m0, m1, mw, mr⟩ := hm
    have h : RowOk n (t :: ((w.row ++ -1 :: r.row) ++ rest)) k := h
    rcases h with ⟨rfl, _, _⟩ | ⟨h0, h1, ok⟩
    · omega
    · have e : (w.row ++ -1 :: r.row) ++ rest = w.row ++ (-1 :: (r.row ++ rest)) := by simp
      rw [e] at ok
      obtain ⟨nw, ok⟩ := names_row w mw ok
      rcases ok with ⟨_, _, ok⟩ | ⟨h0, _, _⟩
      · obtain ⟨nr, ok⟩ := names_row r mr ok
        exact ⟨⟨h0, h1, nw, nr⟩, ok⟩
      · exact absurd h0 (by decide)
/-! ### marks in marks -/
def deepF : Nat → Fo | 0 => .nil | m + 1 => .cons 0 (deepF m) .nil
theorem deepF_depth : ∀ m, (deepF m).depth = m
  | 0 => rfl
  | m + 1 => by show max ((deepF m).depth + 1) 0 = m + 1; rw [deepF_depth m]; omega
theorem deepF_size : ∀ m, (deepF m).size = m
  | 0 => rfl
  | m + 1 => by show 1 + (deepF m).size + 0 = m + 1; rw [deepF_size m]; omega
theorem deepF_names : ∀ m, (deepF m).names 3
  | 0 => True.intro
  | m + 1 => ⟨by decide, by decide, deepF_names m, True.intro⟩
def deepR (m : Nat) : List Int := List.replicate m 0 ++ List.replicate m (-1)
theorem rowOk_zeros {n : Int} (hn : 1 ≤ n) : ∀ (m k : Nat), RowOk n (List.replicate m 0) k ∧ openN (List.replicate m 0) k = k + m
  | 0, k => ⟨True.intro, rfl⟩
  | m + 1, k => by
    obtain ⟨a, b⟩ := rowOk_zeros hn m (k + 1)
    refine ⟨.inr ⟨Int.le_refl _, by omega, a⟩, ?_⟩
    show openN (List.replicate m 0) (if (0 : Int) = -1 then k - 1 else k + 1) = _
    rw [if_neg (by decide), b]
    omega
theorem rowOk_deep (m : Nat) : RowOk 3 (deepR m) 0 := rowOk_closed m (rowOk_zeros (n := 3) (by decide) m 0).1 (by rw [(rowOk_zeros (n := 3) (by decide) m 0).2]; omega)
theorem doc_deep : ∀ m, 39 ≤ m → m ≤ 42 → docGo (deepR m) 0 0 = if m < 41 then none else some 40 := by
  intro m h1 h2
  have : m = 39 ∨ m = 40 ∨ m = 41 ∨ m = 42 := by omega
  rcases this with rfl | rfl | rfl | rfl <;> decide +kernel
/-! ### a wrong tag in a row -/
theorem row_odd {n : Int} (hn : 0 ≤ n) {whole : List Int} (ok : RowOk n whole 0) {at' : Nat} (ha : at' ≤ whole.length) (hl : whole.length ≤ 1000) {odd : D} (hb : badTag n ((openN (whole.take at') 0 : Nat) : Int) odd = true) :
    ckRow n (.tup ((whole.take at').map .int ++ odd :: (whole.drop at').map .int)) = some (some at') := by
  have okt : ∀ {l : List Int} {k : Nat} (i : Nat), RowOk n l k → RowOk n (l.take i) k := by
    intro l
    induction l with
    | nil => intro k i _; rw [List.take_nil]; exact True.intro
    | cons t r ih =>
      intro k i h
      cases i with
      | zero => exact True.intro
      | succ i =>
        rcases h with ⟨a, b, c⟩ | ⟨a, b, c⟩
        · exact .inl ⟨a, b, ih i c⟩
        · exact .inr ⟨a, b, ih i c⟩
  have h1 : isTupOf (.tup ((whole.take at').map D.int ++ odd :: (whole.drop at').map D.int)) 0 2000 = true := isTupOf_of (by
    simp only [List.length_append, List.length_cons, List.length_map, List.length_take, List.length_drop]
    omega)
  have h2 := rowGo_app hn (p := 0) (odd :: (whole.drop at').map D.int) (okt at' ok)
  rw [fold_open (okt at' ok), rowGo_cons, if_pos hb, List.length_take] at h2
  unfold ckRow
  rw [if_pos h1]
  show (rowGo n ((whole.take at').map D.int ++ odd :: (whole.drop at').map D.int) ((0 : Nat) : Int) 0).map some = _
  rw [h2]
  show some (some (0 + min at' whole.length)) = _
  rw [Nat.min_eq_left ha, Nat.zero_add]
theorem bad_odd {n left : Int} {d : D} (h : isNum d (-1) (n - 1) = false) : badTag n left d = true := by
  unfold badTag
  rw [h]
  rfl
theorem bad_close {n : Int} : badTag n 0 (.int (-1)) = true := by
  unfold badTag
  rw [show (isClose (.int (-1)) && decide ((0 : Int) = 0)) = true by rfl, Bool.or_true]
/-! ### odd forests -/
def oddF : List D := [.non, .lst [], .tup [.int 0], .tup [.tup [.int 0]], .tup [.tup [.int 3, .tup []]], .tup [.tup [.int 0, .lst []]], .tup [.tup [.bl true, .tup []]], .tup [.tup [.int 0, .tup [], .tup []]], .tup (List.replicate 1001 (.tup [.int 0, .tup []]))]
theorem cnt_1001 : cnt 40 (.tup (List.replicate 1001 (.tup [.int 0, .tup []]))) = 1001 := by decide +kernel
theorem oddF_no {n : Int} (h3 : n ≤ 3) {d : D} (h : d ∈ oddF) : isFor n d = false := by
  unfold isFor
  have e : ∀ {d : D}, wf n 40 d = false → (wf n 40 d && decide (cnt 40 d ≤ 1000)) = false := fun h => by rw [h]; rfl
  unfold oddF at h
  simp only [List.mem_cons, List.not_mem_nil, or_false] at h
  have is3 : isNum (.int 3) 0 (n - 1) = false := by
    show (decide ((0 : Int) ≤ 3) && decide ((3 : Int) ≤ n - 1)) = false
    rw [decide_eq_false (show ¬ (3 : Int) ≤ n - 1 by omega), Bool.and_false]
  rcases h with rfl | rfl | rfl | rfl | rfl | rfl | rfl | rfl | rfl
  · exact e rfl
  · exact e rfl
  · exact e rfl
  · exact e rfl
  · refine e ?_
    show (true && ((isTupOf (.tup [.int 3, .tup []]) 2 2 && isNum (.int 3) 0 (n - 1)) && _ && true)) = false
    rw [is3, Bool.and_false, Bool.false_and, Bool.false_and, Bool.and_false]
  · refine e ?_
    show (true && ((isMark n (.tup [.int 0, .lst []]) && false) && true)) = false
    rw [Bool.and_false, Bool.false_and, Bool.and_false]
  · refine e ?_
    show (true && ((isTupOf (.tup [.bl true, .tup []]) 2 2 && false) && _ && true)) = false
    rw [Bool.and_false, Bool.false_and, Bool.false_and, Bool.and_false]
  · exact e rfl
  · rw [cnt_1001, show decide (1001 ≤ 1000) = false by decide, Bool.and_false]
end Mk

/-! ### MkOdd -/
set_option Elab.async false
set_option linter.all false
set_option maxRecDepth 100000
set_option maxHeartbeats 4000000
namespace Mk
open PySem PySem.Spec PyProof.Rows L2
open LamX (TabS)
theorem doc_open {n : Int} : ∀ {is : List Int} {k : Nat} (p : Nat), RowOk n is k → 0 < openN is k → k + is.length ≤ 40 → docGo is (k : Int) p = some (p + is.length)
  | [], k, p, _, h, _ => by
    have h : 0 < k := h
    show (if (k : Int) > 0 then some p else none) = _
    rw [if_pos (by omega)]
    rfl
  | t :: r, k, p, ok, h, hl => by
    simp only [List.length_cons] at hl
    rw [docGo_cons]
    rcases ok with ⟨rfl, b, ok⟩ | ⟨a, b, ok⟩
    · have e : stepI k (-1) = ((k - 1 : Nat) : Int) := by unfold stepI; rw [if_pos rfl]; omega
      rw [e, if_neg (by omega), doc_open (p + 1) ok h (by omega), List.length_cons]
      congr 1
      omega
    · have na : ¬ t = -1 := by omega
      have e : stepI k t = ((k + 1 : Nat) : Int) := by unfold stepI; rw [if_neg na]; omega
      have h2 : 0 < openN r (if t = -1 then k - 1 else k + 1) := h
      rw [if_neg na] at h2
      rw [e, if_neg (by omega), doc_open (p + 1) ok h2 (by omega), List.length_cons]
      congr 1
      omega
theorem py_ints : ∀ is : List Int, pyDs (is.map D.int) = is.map PyData.int
  | [] => by unfold List.map pyDs; rfl
  | x :: r => by rw [List.map_cons]; unfold pyDs; rw [py_ints r]; unfold pyD; rfl
theorem lay_ints : ∀ is : List Int, PyData.canLayAll0 (is.map PyData.int) = true ∧ PyData.depthAll (is.map PyData.int) = 0
  | [] => ⟨rfl, rfl⟩
  | x :: r => by
    obtain ⟨a, b⟩ := lay_ints r
    refine ⟨?_, ?_⟩
    · show (true && PyData.canLayAll0 (r.map PyData.int)) = true
      rw [a]; rfl
    · show max 0 (PyData.depthAll (r.map PyData.int)) = 0
      rw [b]; rfl
theorem shaped_rd (is : List Int) : SeqAt.shaped (pyD (RD is)) = true := by
  unfold pyD
  rw [py_ints]
  obtain ⟨a, b⟩ := lay_ints is
  show (PyData.canLayAll0 (is.map PyData.int) && decide (PyData.depthAll (is.map PyData.int) + 1 ≤ 64)) = true
  rw [a, b]
  rfl
theorem pyD_tup (l : List D) : pyD (.tup l) = .tuple (pyDs l) := by conv => lhs; unfold pyD
theorem pyD_lst (l : List D) : pyD (.lst l) = .list (pyDs l) := by conv => lhs; unfold pyD
theorem pyD_str (x : Str) : pyD (.str x) = .str x := by conv => lhs; unfold pyD
theorem pyD_int (x : Int) : pyD (.int x) = .int x := by conv => lhs; unfold pyD
theorem pyD_non : pyD .non = .none := by conv => lhs; unfold pyD
theorem pyDs_nil : pyDs [] = [] := by conv => lhs; unfold pyDs
theorem pyDs_cons (d : D) (l : List D) : pyDs (d :: l) = pyD d :: pyDs l := by conv => lhs; unfold pyDs
theorem py_rowW (p : Option Nat) : pyD (rowW p) = .tuple [.str "row", pyD (plD p)] := by
  rw [pyD_tup, pyDs_cons, pyDs_cons, pyDs_nil, pyD_str]
theorem shaped_rowW (p : Option Nat) : SeqAt.shaped (pyD (rowW p)) = true := by
  rw [py_rowW]
  cases p with
  | none => rw [show plD none = D.non from rfl, pyD_non]; decide +kernel
  | some p =>
    rw [show plD (some p) = D.int p from rfl, pyD_int]
    show ((PyData.canLay0 (.str "row") && (true && true)) && decide (max 0 (max 0 0) + 1 ≤ 64)) = true
    rw [show PyData.canLay0 (.str "row") = true by decide +kernel]
    rfl
theorem eqv_rowW (p : Option Nat) : PyData.eqv (pyD (rowW p)) (pyD (rowW p)) = true := by
  rw [py_rowW]
  cases p with
  | none => rw [show plD none = D.non from rfl, pyD_non]; decide +kernel
  | some p =>
    rw [show plD (some p) = D.int p from rfl, pyD_int]
    show ((("row" : Str) == "row") && (((p : Int) == (p : Int)) && true)) = true
    rw [beq_self_eq_true, beq_self_eq_true]
    rfl
theorem eqv_nil (is : List Int) : PyData.eqv (pyD (RD is)) (pyD (.tup [])) = decide (is = []) := by
  cases is with
  | nil => decide +kernel
  | cons x r =>
    rw [decide_eq_false (by simp)]
    unfold pyD
    rw [py_ints]
    unfold pyDs
    rfl
theorem shaped_nil : SeqAt.shaped (pyD (.tup [])) = true := by decide +kernel
section
variable {K : PySem.W.Frag} {Am : Hp → Prop} {G : List Addr} {C : Nat → Addr} {TP : Addr} {q : Str} {σ : L2.St} {H : Hp} {QB : Bool → Hp → Prop} {Q : VK}
/-- _law_word(lambda: forest_of(x)), the row's fault at p -/
theorem w_forestOf {d : D} {v : V} {p : Nat} {tl : TA} (hA : Am H) (hv : ∀ Q : List V → Hp → Prop, Q [v] H → tl σ H Q) (im : Im K H d v) (hp : (∃ is, d = RD is ∧ ckRow 3 d = none ∧ docGo is 0 0 = some p)) (h : RtD K Am H Q (rowW (some p))) :
    tCall (spForestOf K Am (C 3)) [] (EchW Am C Q) tl σ H fun _ H' => Q (.str "") H' := by
  obtain ⟨is, rfl, c1, c2⟩ := hp
  refine c_callv hv ⟨RD is, v, rfl, im, hA, (fun p hp => by rw [c1] at hp; cases hp), fun _ is2 e2 => ⟨fun p2 hp2 => ?_, fun hn => ?_⟩⟩
  · rw [← rd_inj e2, c2] at hp2
    cases hp2
    exact er_w (p := some p) h
  · rw [← rd_inj e2, c2] at hn
    cases hn
/-- left != () and the word of the open row != .. -/
theorem c_openT {is : List Int} {vt vl : V} (A : AmOk Am G) (hAT : ∀ H, Am H → TabS H TP q) (hAG : ∀ H H1, Am H → GrowT TP H H1 → TabS H1 TP q → Am H1) (hA : Am H) (e4 : σ[4]? = some (some vl)) (e13 : σ[13]? = some (some vt)) (imt : Im K H (RD is) vt) (iml : Im K H (RD (pileGo is [])) vl) (ok : RowOk 3 is 0) (il : is.length ≤ 24)
    (h : ∀ H', ExtN H H' → Am H' → QB false H') :
    tAnd (tTest (tOp (rNeD K) (tVar 4) (tTup tNil))) (tTest (tOp (rNeD K) (tLamA TP q (TTw Am C) fun E => tCall (spForestOf K Am (C 3)) [] E (tCons (tVar 13) tNil)) (tTup (tCons (tC (.str "row")) (tCons (tCB (rLenQ K) (tCons (tVar 13) tNil)) tNil))))) σ H QB := by
  refine c_and (c_test (c_op (c_var e4 (c_tup va_nil (Nat.zero_le _) fun p hp => c_neD (iml.mono (ExtN.ee (ExtN.new hp))) (im_tup (.inl (.inl upd_same)) imL_nil) (shaped_rd _) shaped_nil ⟨_, rfl, ?_⟩))))
  rw [eqv_nil]
  have opn : (pileGo is []).length = openN is 0 := pile_open (p := []) ok
  have e1 : ExtN H (upd H p (.tup [])) := ExtN.new hp
  have a1 : Am (upd H p (.tup [])) := A.new hA hp
  generalize (upd H p (.tup [])) = H1 at e1 a1
  by_cases z : pileGo is [] = []
  · rw [decide_eq_true z]
    exact iteF (h _ e1 a1)
  · rw [decide_eq_false z]
    have o1 : 0 < openN is 0 := by rw [← opn]; exact List.length_pos_iff.mpr z
    have dg : docGo is 0 0 = some (0 + is.length) := doc_open (k := 0) 0 ok o1 (by omega)
    rw [Nat.zero_add] at dg
    obtain ⟨at', rfl, hx⟩ := im_rd imt
    refine iteT (c_test (c_op (c_lam hAT hAG a1 fun H2 e2 a2 => w_forestOf a2 (va_cons (v_var e13) va_nil) (imt.mono (ExtN.ee (LamX.ExtN.trans e1 e2))) ⟨is, rfl, ckRow_good (by decide) ok (by omega), dg⟩ fun vr H3 e3 a3 imr => ?_)))
    have e03 := LamX.ExtN.trans e1 (LamX.ExtN.trans e2 e3)
    refine c_tup (va_cons v_c (va_cons (v_len (v_var e13) (.inr ((ExtN.ee e03).t _ _ hx))) va_nil)) (sz (by show 2 ≤ _; decide)) fun p2 hp2 => ?_
    refine c_neD (imr.mono (ExtN.ee (ExtN.new hp2))) (e := rowW (some is.length)) (im_rowW ?_) (shaped_rowW _) (shaped_rowW _) ⟨_, rfl, ?_⟩
    · rw [upd_same, List.length_map]
      rfl
    · rw [eqv_rowW]
      exact h _ (LamX.ExtN.trans e03 (ExtN.new hp2)) (A.new a3 hp2)
end
end Mk

/-! ### MkCat -/
set_option Elab.async false
set_option linter.all false
set_option maxRecDepth 100000
set_option maxHeartbeats 4000000
namespace Mk
open PySem PySem.Spec PyProof.Rows L2
open LamX (TabS)
/-- t + u of rows -/
theorem c_catG {K : PySem.W.Frag} {Am : Hp → Prop} {G : List Addr} {H : Hp} {Q : VK} {a b : List D} {x y : V} (A : AmOk Am G) (hA : Am H) (hx : Im K H (.tup a) x) (hy : Im K H (.tup b) y) (hl : a.length + b.length ≤ 100000) (h : ∀ v H2, ExtN H H2 → Am H2 → Im K H2 (.tup (a ++ b)) v → Q v H2) : rCatA K x y H Q := by
  obtain ⟨p, xs, rfl, h1, h2⟩ := im_tup' hx
  obtain ⟨q, ys, rfl, h3, h4⟩ := im_tup' hy
  refine ⟨p, q, xs, ys, rfl, rfl, h1, h3, by rw [h2.length, h4.length]; exact sz hl, fun z => ?_, fun _ z => ?_, fun _ _ r hr => ?_⟩
  · subst z
    have : a = [] := List.eq_nil_of_length_eq_zero h2.length.symm
    subst this
    exact h _ _ (LamX.ExtN.refl H) hA hy
  · subst z
    have : b = [] := List.eq_nil_of_length_eq_zero h4.length.symm
    subst this
    rw [List.append_nil] at h
    exact h _ _ (LamX.ExtN.refl H) hA hx
  · exact h _ _ (ExtN.new hr) (A.new hA hr) (im_tup (.inl (.inl upd_same)) ((h2.mono (ExtN.ee (ExtN.new hr))).append (h4.mono (ExtN.ee (ExtN.new hr)))))
theorem plnL_ints : ∀ a : List Int, plnL (a.map D.int)
  | [] => by unfold List.map plnL; exact True.intro
  | x :: a => by rw [List.map_cons]; unfold plnL; exact ⟨by unfold pln; exact True.intro, plnL_ints a⟩
theorem pln_rd {a : List Int} (h : a.length ≤ 10000) : pln (RD a) := by
  unfold pln
  exact ⟨by rw [List.length_map]; exact h, plnL_ints a⟩
theorem dpL_ints : ∀ a : List Int, dpL (a.map D.int) = 0
  | [] => by unfold List.map dpL; rfl
  | x :: a => by rw [List.map_cons]; unfold dpL; rw [dpL_ints a]; unfold dp; rfl
theorem dp_rd (a : List Int) : dp (RD a) = 1 := by unfold dp; rw [dpL_ints]
theorem Fo.depth_size : ∀ f : Fo, f.depth ≤ f.size
  | .nil => Nat.le_refl _
  | .cons t w r => by show max (w.depth + 1) r.depth ≤ 1 + w.size + r.size; have := depth_size w; have := depth_size r; omega
theorem plnL_fo : ∀ f : Fo, f.size ≤ 1000 → plnL f.L
  | .nil, _ => by show plnL []; unfold plnL; exact True.intro
  | .cons t w r, h => by
    have h : 1 + w.size + r.size ≤ 1000 := h
    have lw := Fo.len_size w
    show plnL (.tup [.int t, .tup w.L] :: r.L)
    unfold plnL
    refine ⟨?_, plnL_fo r (by omega)⟩
    unfold pln
    refine ⟨by show 2 ≤ _; decide, ?_⟩
    unfold plnL
    refine ⟨by unfold pln; exact True.intro, ?_⟩
    unfold plnL
    refine ⟨?_, by unfold plnL; exact True.intro⟩
    unfold pln
    exact ⟨by rw [Fo.L_len]; omega, plnL_fo w (by omega)⟩
theorem pln_fo {f : Fo} (h : f.size ≤ 1000) : pln f.d := by
  show pln (.tup f.L)
  unfold pln
  exact ⟨by rw [Fo.L_len]; have := Fo.len_size f; omega, plnL_fo f h⟩
theorem dpL_fo : ∀ f : Fo, dpL f.L ≤ 2 * f.depth
  | .nil => by show dpL [] ≤ 0; unfold dpL; exact Nat.le_refl _
  | .cons t w r => by
    have i1 := dpL_fo w
    have i2 := dpL_fo r
    have e : dp (.tup [.int t, .tup w.L]) = dpL w.L + 2 := by
      have e1 : ∀ l, dp (.tup l) = dpL l + 1 := fun l => by conv => lhs; unfold dp
      have e2 : ∀ d l, dpL (d :: l) = max (dp d) (dpL l) := fun d l => by conv => lhs; unfold dpL
      have e3 : dp (.int t) = 0 := by unfold dp; rfl
      have e4 : dpL [] = 0 := by unfold dpL; rfl
      rw [e1, e2, e2, e1, e3, e4]
      omega
    show dpL (.tup [.int t, .tup w.L] :: r.L) ≤ 2 * max (w.depth + 1) r.depth
    unfold dpL
    rw [e]
    omega
theorem dp_fo (f : Fo) : dp f.d ≤ 2 * f.depth + 1 := by
  have := dpL_fo f
  show dp (.tup f.L) ≤ _
  unfold dp
  omega
theorem plnL_told (rows : List (List Int)) (ans : List Int) : ∀ (s : Int) (f : Fo), f.size ≤ 1000 → plnL (toldL rows ans s f)
  | _, .nil, _ => by show plnL []; unfold plnL; exact True.intro
  | s, .cons t w r, h => by
    have h : 1 + w.size + r.size ≤ 1000 := h
    have lw := Fo.len_size w
    show plnL (.tup [.int t, .int _, .tup (toldL rows ans (nxtI rows s t) w)] :: toldL rows ans s r)
    unfold plnL
    refine ⟨?_, plnL_told rows ans s r (by omega)⟩
    unfold pln
    refine ⟨by show 3 ≤ _; decide, ?_⟩
    unfold plnL
    refine ⟨by unfold pln; exact True.intro, ?_⟩
    unfold plnL
    refine ⟨by unfold pln; exact True.intro, ?_⟩
    unfold plnL
    refine ⟨?_, by unfold plnL; exact True.intro⟩
    unfold pln
    exact ⟨by rw [told_len]; omega, plnL_told rows ans _ w (by omega)⟩
theorem dpL_told (rows : List (List Int)) (ans : List Int) : ∀ (s : Int) (f : Fo), dpL (toldL rows ans s f) ≤ 2 * f.depth
  | _, .nil => by show dpL [] ≤ 0; unfold dpL; exact Nat.le_refl _
  | s, .cons t w r => by
    have i1 := dpL_told rows ans (nxtI rows s t) w
    have i2 := dpL_told rows ans s r
    have e : ∀ x : Int, dp (.tup [.int t, .int x, .tup (toldL rows ans (nxtI rows s t) w)]) = dpL (toldL rows ans (nxtI rows s t) w) + 2 := fun x => by
      have e1 : ∀ l, dp (.tup l) = dpL l + 1 := fun l => by conv => lhs; unfold dp
      have e2 : ∀ d l, dpL (d :: l) = max (dp d) (dpL l) := fun d l => by conv => lhs; unfold dpL
      have e3 : ∀ t, dp (.int t) = 0 := fun t => by unfold dp; rfl
      have e4 : dpL [] = 0 := by unfold dpL; rfl
      rw [e1, e2, e2, e2, e1, e3, e3, e4]
      omega
    show dpL (.tup [.int t, .int _, .tup (toldL rows ans (nxtI rows s t) w)] :: toldL rows ans s r) ≤ 2 * max (w.depth + 1) r.depth
    unfold dpL
    rw [e]
    omega
theorem imL_rep {K : PySem.W.Frag} {H : Hp} {d : D} {v : V} (h : Im K H d v) : ∀ m : Nat, ImL K H (List.replicate m d) (List.replicate m v)
  | 0 => imL_nil
  | m + 1 => imL_cons h (imL_rep h m)
theorem rep_one {α : Type} (v : α) : ∀ m : Nat, (List.replicate m [v]).flatten = List.replicate m v
  | 0 => rfl
  | m + 1 => by rw [List.replicate_succ, List.flatten_cons, rep_one v m, List.replicate_succ]; rfl
/-- (x,) * k -/
theorem c_repG {K : PySem.W.Frag} {Am : Hp → Prop} {G : List Addr} {H : Hp} {Q : VK} {d : D} {x : V} {k : Nat} (A : AmOk Am G) (hA : Am H) (hx : Im K H (.tup [d]) x) (hk : k ≤ 5000) (h : ∀ v H2, ExtN H H2 → Am H2 → Im K H2 (.tup (List.replicate k d)) v → Q v H2) : L2.rRepA K x (.int (k : Int)) H Q := by
  obtain ⟨p, xs, rfl, h1, h2⟩ := im_tup' hx
  obtain ⟨v, ws, rfl, h3, h4⟩ := imL_tup1 h2
  obtain rfl : ws = [] := by unfold ImL at h4; exact h4
  refine ⟨p, k, [v], rfl, rfl, h1, by simp, by omega, by omega, by show 1 ≤ 100; decide, fun z => ?_, fun _ r hr => ?_⟩
  · have : k = 1 := by omega
    subst this
    exact h _ _ (LamX.ExtN.refl H) hA hx
  · refine h _ _ (ExtN.new hr) (A.new hA hr) (im_tup (xs := List.replicate k v) (.inl (.inl ?_)) (imL_rep (h3.mono (ExtN.ee (ExtN.new hr))) k))
    rw [upd_same, Int.toNat_natCast, rep_one]
end Mk

/-! ### MkOdd2 -/
set_option Elab.async false
set_option linter.all false
set_option maxRecDepth 100000
set_option maxHeartbeats 4000000
namespace Mk
open PySem PySem.Spec PyProof.Rows L2
open LamX (TabS)
section
variable {K : PySem.W.Frag} {Am : Hp → Prop} {G : List Addr} {C : Nat → Addr} {TP : Addr} {q : Str} {σ : L2.St} {H : Hp} {QB : Bool → Hp → Prop} {Q : VK}
/-- w[:k] -/
theorem c_sliceTo {w : List Int} {v : V} {i j k : Nat} (A : AmOk Am G) (hA : Am H) (ev : σ[i]? = some (some v)) (ek : σ[j]? = some (some (.int (k : Int)))) (im : Im K H (RD w) v) (hk : k ≤ w.length) (h : ∀ v' H2, ExtN H H2 → Am H2 → Im K H2 (RD (w.take k)) v' → Q v' H2) :
    tSl (rSlA K) (tVar i) tNoPart (tPart (tVar j)) σ H Q := by
  obtain ⟨a, rfl, hx⟩ := im_rd im
  have e : HT.sIx (w.map V.int).length (w.map V.int).length (some (k : Int)) = k := by rw [HT.sIx_nat, List.length_map]; omega
  refine ⟨_, ev, _, ek, _, rfl, a, _, rfl, hx, fun z => ?_, fun _ p hp => ?_⟩
  · have z2 := z.2
    rw [e, List.length_map] at z2
    refine h _ _ (LamX.ExtN.refl H) hA ?_
    rw [z2, List.take_length]
    exact im
  · refine h _ _ (ExtN.new hp) (A.new hA hp) (im_rd_of (.inl (.inl ?_)))
    rw [upd_same]
    unfold cutV
    rw [e]
    show some (HO.tup (List.take (k - 0) (List.drop 0 (w.map V.int)))) = _
    rw [List.drop_zero, List.map_take]
    rfl
/-- w[k:] -/
theorem c_sliceFrom {w : List Int} {v : V} {i j k : Nat} (A : AmOk Am G) (hA : Am H) (ev : σ[i]? = some (some v)) (ek : σ[j]? = some (some (.int (k : Int)))) (im : Im K H (RD w) v) (hk : k ≤ w.length) (h : ∀ v' H2, ExtN H H2 → Am H2 → Im K H2 (RD (w.drop k)) v' → Q v' H2) :
    tSl (rSlA K) (tVar i) (tPart (tVar j)) tNoPart σ H Q := by
  obtain ⟨a, rfl, hx⟩ := im_rd im
  have e : HT.sIx (w.map V.int).length 0 (some (k : Int)) = k := by rw [HT.sIx_nat, List.length_map]; omega
  refine ⟨_, ev, _, ek, _, rfl, a, _, rfl, hx, fun z => ?_, fun _ p hp => ?_⟩
  · have z2 := z.1
    rw [e] at z2
    refine h _ _ (LamX.ExtN.refl H) hA ?_
    rw [z2, List.drop_zero]
    exact im
  · refine h _ _ (ExtN.new hp) (A.new hA hp) (im_rd_of (.inl (.inl ?_)))
    rw [upd_same]
    unfold cutV
    rw [e]
    show some (HO.tup (List.take ((w.map V.int).length - k) (List.drop k (w.map V.int)))) = _
    rw [List.take_of_length_le (by rw [List.length_drop]; exact Nat.le_refl _), List.map_drop]
/-- whole[:at] + (odd,) + whole[at:] -/
theorem c_spliced {w : List Int} {v vo : V} {d : D} {k : Nat} (A : AmOk Am G) (hA : Am H) (ev : σ[14]? = some (some v)) (ek : σ[7]? = some (some (.int (k : Int)))) (eo : σ[11]? = some (some vo)) (im : Im K H (RD w) v) (hk : k ≤ w.length) (hl : w.length ≤ 1000) (imo : ∀ H, Im K H d vo)
    (h : ∀ v' H2, ExtN H H2 → Am H2 → Im K H2 (.tup ((w.take k).map .int ++ d :: (w.drop k).map .int)) v' → Q v' H2) :
    tOp (rCatA K) (tOp (rCatA K) (tSl (rSlA K) (tVar 14) tNoPart (tPart (tVar 7))) (tTup (tCons (tVar 11) tNil))) (tSl (rSlA K) (tVar 14) (tPart (tVar 7)) tNoPart) σ H Q := by
  refine c_op (c_op (c_sliceTo A hA ev ek im hk fun v1 H1 e1 a1 im1 => c_tup (va_cons (v_var eo) va_nil) (sz (by show 1 ≤ _; decide)) fun p hp => ?_))
  have e2 : ExtN H1 (upd H1 p (.tup [vo])) := ExtN.new hp
  refine c_catG A (A.new a1 hp) (im1.mono (ExtN.ee e2)) (im_tup (.inl (.inl upd_same)) (imL_cons (imo _) imL_nil)) (by rw [List.length_map, List.length_take]; show _ + 1 ≤ _; omega) fun v3 H3 e3 a3 im3 => ?_
  have e03 := LamX.ExtN.trans e1 (LamX.ExtN.trans e2 e3)
  refine c_sliceFrom A a3 ev ek (im.mono (ExtN.ee e03)) hk fun v4 H4 e4 a4 im4 => ?_
  refine c_catG A a4 (im3.mono (ExtN.ee e4)) im4 (by simp only [List.length_append, List.length_map, List.length_take, List.length_drop, List.length_cons, List.length_nil]; omega) fun v5 H5 e5 a5 im5 => ?_
  refine h _ _ (LamX.ExtN.trans e03 (LamX.ExtN.trans e4 e5)) a5 ?_
  rw [List.append_assoc] at im5
  exact im5
/-- _law_word(lambda: answers_due(q, x)), the row's fault at p -/
theorem w_due {rows : List (List Int)} {ans : List Int} {n : Nat} {d : D} {vq v : V} {p : Option Nat} {H1 : Hp} (hA : Am H1) (qok : QOk rows ans n) (imq : Im K H1 (QD rows ans) vq) (im : Im K H1 d v) (hp : ckRow n d = some p) (h : RtD K Am H1 Q (rowW p)) :
    spDue K Am (C 1) (C 3) [vq, v] H1 (fun _ H' => Q (.str "") H') (EchW Am C Q) := by
  have ckq : ckQ (QD rows ans) = none := ckQ_of qok
  have nmq : namesD (QD rows ans) = n := namesD_of qok
  refine ⟨QD rows ans, d, vq, v, rfl, imq, im, hA, (fun p hp => by rw [ckq] at hp; cases hp), fun _ => ⟨fun p2 hp2 => ?_, fun is2 rows2 ans2 e2 ok2 l2 _ => ?_⟩⟩
  · rw [nmq, hp] at hp2
    cases hp2
    exact er_w h
  · subst e2
    rw [nmq] at ok2
    rw [ckRow_good (by omega) ok2 l2] at hp
    cases hp
end
end Mk

/-! ### MkOdd3 -/
set_option Elab.async false
set_option linter.all false
set_option maxRecDepth 100000
set_option maxHeartbeats 4000000
namespace Mk
open PySem PySem.Spec PyProof.Rows L2
open LamX (TabS)
section
variable {K : PySem.W.Frag} {Am : Hp → Prop} {G : List Addr} {C : Nat → Addr} {TP : Addr} {q : Str} {σ : L2.St} {H : Hp} {QB : Bool → Hp → Prop} {Q : VK}
/-- the word of answers_due upon the spliced row != ('row', at) -/
theorem c_oddT {rows : List (List Int)} {ans : List Int} {n : Nat} {w : List Int} {vq v vo : V} {d : D} {k : Nat} (A : AmOk Am G) (hAT : ∀ H, Am H → TabS H TP q) (hAG : ∀ H H1, Am H → GrowT TP H H1 → TabS H1 TP q → Am H1) (hA : Am H) (qok : QOk rows ans n) (e12 : σ[12]? = some (some vq)) (ev : σ[14]? = some (some v)) (ek : σ[7]? = some (some (.int (k : Int)))) (eo : σ[11]? = some (some vo))
    (imq : Im K H (QD rows ans) vq) (im : Im K H (RD w) v) (hk : k ≤ w.length) (hl : w.length ≤ 1000) (imo : ∀ H, Im K H d vo) (hp : ckRow n (.tup ((w.take k).map .int ++ d :: (w.drop k).map .int)) = some (some k)) (h : ∀ H', ExtN H H' → Am H' → QB false H') :
    tTest (tOp (rNeD K) (tLamA TP q (TTw Am C) fun E => tCall (spDue K Am (C 1) (C 3)) [] E (tCons (tVar 12) (tCons (tOp (rCatA K) (tOp (rCatA K) (tSl (rSlA K) (tVar 14) tNoPart (tPart (tVar 7))) (tTup (tCons (tVar 11) tNil))) (tSl (rSlA K) (tVar 14) (tPart (tVar 7)) tNoPart)) tNil))) (tTup (tCons (tC (.str "row")) (tCons (tVar 7) tNil)))) σ H QB := by
  refine c_test (c_op (c_lam hAT hAG hA fun H1 e1 a1 => c_call (c_cons (c_var e12 (c_cons (c_spliced A a1 ev ek eo (im.mono (ExtN.ee e1)) hk hl imo fun v2 H2 e2 a2 im2 => c_nil (w_due a2 qok (imq.mono (ExtN.ee (LamX.ExtN.trans e1 e2))) im2 hp fun vr H3 e3 a3 imr => ?_)))))))
  refine c_tup (va_cons v_c (va_cons (v_var ek) va_nil)) (sz (by show 2 ≤ _; decide)) fun p2 hp2 => ?_
  refine c_neD (imr.mono (ExtN.ee (ExtN.new hp2))) (e := rowW (some k)) (im_rowW upd_same) (shaped_rowW _) (shaped_rowW _) ⟨_, rfl, ?_⟩
  rw [eqv_rowW]
  exact h _ (LamX.ExtN.trans (LamX.ExtN.trans e1 (LamX.ExtN.trans e2 e3)) (ExtN.new hp2)) (A.new a3 hp2)
theorem w_lo {rows : List (List Int)} {ans : List Int} {n : Nat} {d : D} {vq v : V} {p : Option Nat} {H1 : Hp} (hA : Am H1) (qok : QOk rows ans n) (imq : Im K H1 (QD rows ans) vq) (im : Im K H1 d v) (hp : ckRow n d = some p) (h : RtD K Am H1 Q (rowW p)) :
    spLeftOpen K Am (C 1) (C 3) [vq, v] H1 (fun _ H' => Q (.str "") H') (EchW Am C Q) := by
  have ckq : ckQ (QD rows ans) = none := ckQ_of qok
  have nmq : namesD (QD rows ans) = n := namesD_of qok
  refine ⟨QD rows ans, d, vq, v, rfl, imq, im, hA, (fun p hp => by rw [ckq] at hp; cases hp), fun _ => ⟨fun p2 hp2 => ?_, fun is2 e2 ok2 l2 => ?_⟩⟩
  · rw [nmq, hp] at hp2
    cases hp2
    exact er_w h
  · subst e2
    rw [nmq] at ok2
    rw [ckRow_good (by omega) ok2 l2] at hp
    cases hp
/-- [x, y] against [d] * 2, both d -/
theorem c_two {ty : TE} {x y : V} {d : D} {H' : Hp} {lA : Addr} (A : AmOk Am G) (hA : Am H') (hl : H' lA = some (.lst [x, y])) (ix : Im K H' d x) (iy : Im K H' d y) (hn : NoL d) (s1 : SeqAt.shaped (pyD (.lst [d, d])) = true) (e1 : PyData.eqv (pyD (.lst [d, d])) (pyD (.lst [d, d])) = true)
    (hy : ∀ Q : VK, (∀ z H2, ExtN H' H2 → Am H2 → Im K H2 d z → Q z H2) → ty σ H' Q) (h : ∀ z H2, ExtN H' H2 → Am H2 → Im K H2 (.lst [d, d]) (.ref lA) → Im K H2 (.lst [d, d]) z → Q z H2) : tOp rRep (tLst (tCons ty tNil)) (tC (.int 2)) σ H' Q := by
  refine c_op (c_cons (hy _ fun z H2 e2 a2 iz => ⟨sz (by show 1 ≤ _; decide), fun l hl2 => c_c ⟨l, 2, [z], rfl, rfl, upd_same, by decide, by decide, sz (by show 1 * 2 ≤ _; decide), fun l3 hl3 => ?_⟩⟩))
  have e3 := LamX.ExtN.trans e2 (LamX.ExtN.trans (ExtN.new (o := .lst [z]) hl2) (ExtN.new (o := .lst (List.replicate (2 : Int).toNat [z]).flatten) hl3))
  have e4 := LamX.ExtN.trans (ExtN.new (o := .lst [z]) hl2) (ExtN.new (o := .lst (List.replicate (2 : Int).toNat [z]).flatten) hl3)
  refine h _ _ e3 (A.new (A.new a2 hl2) hl3) ?_ ?_
  · unfold Im
    exact ⟨lA, _, rfl, SqL.of (e3 _ _ hl fun ps z => by cases z), imL_cons (ix.mono (ExtN.ee e3)) (imL_cons (iy.mono (ExtN.ee e3)) imL_nil)⟩
  · unfold Im
    exact ⟨l3, [z, z], rfl, SqL.of upd_same, imL_cons (iz.mono (ExtN.ee e4)) (imL_cons (iz.mono (ExtN.ee e4)) imL_nil)⟩
end
end Mk

/-! ### MkOdd4 -/
set_option Elab.async false
set_option linter.all false
set_option maxRecDepth 100000
set_option maxHeartbeats 4000000
namespace Mk
open PySem PySem.Spec PyProof.Rows L2
open LamX (TabS)
theorem rowOk_take {n : Int} : ∀ {l : List Int} {k : Nat} (i : Nat), RowOk n l k → RowOk n (l.take i) k
  | [], k, i, _ => by rw [List.take_nil]; exact True.intro
  | t :: r, k, 0, _ => True.intro
  | t :: r, k, i + 1, h => by
    rcases h with ⟨a, b, c⟩ | ⟨a, b, c⟩
    · exact .inl ⟨a, b, rowOk_take i c⟩
    · exact .inr ⟨a, b, rowOk_take i c⟩
/-- every item is a wrong tag where left marks stand open -/
def OddOk (K : PySem.W.Frag) (n left : Int) (xs : List V) : Prop := ∀ (j : Nat) (v : V), xs[j]? = some v → ∃ d, NoL d ∧ (∀ H, Im K H d v) ∧ badTag n left d = true
theorem odd_list {K : PySem.W.Frag} {n : Int} (hn : 1 ≤ n) {left : Nat} {k : Bool} (hk : k = true → left = 0) : OddOk K n left ([.int n, .non, .bl true, .str "0", .int (0 - 2)] ++ (List.replicate ((if k = true then (1 : Int) else 0)).toNat [V.int (0 - 1)]).flatten) := by
  have b1 : isNum (.int n) (-1) (n - 1) = false := by
    show (decide ((-1 : Int) ≤ n) && decide (n ≤ n - 1)) = false
    rw [decide_eq_false (show ¬ n ≤ n - 1 by omega), Bool.and_false]
  intro j v h
  match j, h with
  | 0, h => cases h; exact ⟨.int n, True.intro, fun _ => im_int, bad_odd b1⟩
  | 1, h => cases h; exact ⟨.non, True.intro, fun _ => im_non, bad_odd rfl⟩
  | 2, h => cases h; exact ⟨.bl true, True.intro, fun _ => by unfold Im; rfl, bad_odd rfl⟩
  | 3, h => cases h; exact ⟨.str "0", True.intro, fun _ => by unfold Im; rfl, bad_odd rfl⟩
  | 4, h => cases h; exact ⟨.int (-2), True.intro, fun _ => im_int, bad_odd rfl⟩
  | j + 5, h =>
    cases k with
    | false => cases h
    | true =>
      have l0 := hk rfl
      subst l0
      match j, h with
      | 0, h => cases h; exact ⟨.int (-1), True.intro, fun _ => im_int, bad_close⟩
      | j + 1, h => cases h
section
variable {K : PySem.W.Frag} {Am : Hp → Prop} {G : List Addr} {σ : L2.St} {H : Hp} {Q : VK}
/-- [names, None, True, '0', 0 - 2] + [0 - 1] * int(_law_paths(whole[:at])[1] == ()) -/
theorem c_oddList {n k : Nat} {w : List Int} {v : V} (A : AmOk Am G) (hA : Am H) (e2 : σ[2]? = some (some (.int (n : Int)))) (ev : σ[14]? = some (some v)) (ek : σ[7]? = some (some (.int (k : Int)))) (im : Im K H (RD w) v) (hk : k ≤ w.length) (hn : 1 ≤ n) (ok : RowOk n w 0) (hl : w.length ≤ 1000)
    (h : ∀ l xs H', ExtN H H' → Am H' → H' l = some (.lst xs) → (∀ r ys, H r = some (.lst ys) → l ≠ r) → 1 ≤ xs.length → xs.length < 1000 → OddOk K n ((openN (w.take k) 0 : Nat) : Int) xs → Q (.ref l) H') :
    tOp rCat (tLst (tCons (tVar 2) (tCons (tC .non) (tCons (tC (.bl true)) (tCons (tC (.str "0")) (tCons (tOp (rI0 fun i j => .int (i - j)) (tC (.int 0)) (tC (.int 2))) tNil)))))) (tOp rRep (tLst (tCons (tOp (rI0 fun i j => .int (i - j)) (tC (.int 0)) (tC (.int 1))) tNil)) (tCB rInt1 (tCons (tOp (rEqD K) (tOp (rIxT K) (tCall (spLPaths K Am) [] E0 (tCons (tSl (rSlA K) (tVar 14) tNoPart (tPart (tVar 7))) tNil)) (tC (.int 1))) (tTup tNil)) tNil))) σ H Q := by
  refine c_op (c_lst (va_cons (v_var e2) (va_cons v_c (va_cons v_c (va_cons v_c (va_cons (v_sub v_c v_c) va_nil))))) (sz (by show 5 ≤ _; decide)) fun l1 h1 => c_op (c_lst (va_cons (v_sub v_c v_c) va_nil) (sz (by show 1 ≤ _; decide)) fun l2 h2 => ?_))
  have e01 := ExtN.new (o := .lst [.int (n : Int), .non, .bl true, .str "0", .int (0 - 2)]) h1
  have a01 := A.new (o := .lst [.int (n : Int), .non, .bl true, .str "0", .int (0 - 2)]) hA h1
  have e02 := LamX.ExtN.trans e01 (ExtN.new (o := .lst [.int (0 - 1)]) h2)
  have a02 := A.new (o := .lst [.int (0 - 1)]) a01 h2
  have g1 : (upd (upd H l1 (.lst [.int (n : Int), .non, .bl true, .str "0", .int (0 - 2)])) l2 (.lst [.int (0 - 1)])) l1 = some (.lst [.int (n : Int), .non, .bl true, .str "0", .int (0 - 2)]) := by rw [upd_ne (ne_of_none upd_same h2), upd_same]
  have g2 : (upd (upd H l1 (.lst [.int (n : Int), .non, .bl true, .str "0", .int (0 - 2)])) l2 (.lst [.int (0 - 1)])) l2 = some (.lst [.int (0 - 1)]) := upd_same
  generalize (upd (upd H l1 (.lst [.int (n : Int), .non, .bl true, .str "0", .int (0 - 2)])) l2 (.lst [.int (0 - 1)])) = H2 at e02 a02 g1 g2
  have okt := rowOk_take k ok
  have opn : (pileGo (w.take k) []).length = openN (w.take k) 0 := pile_open (p := []) okt
  refine c_cons (c_op (c_op (c_call (c_cons (c_sliceTo A a02 ev ek (im.mono (ExtN.ee e02)) hk fun v3 H3 e3 a3 im3 => c_nil ⟨w.take k, n, v3, rfl, im3, okt, by rw [List.length_take]; omega, a3, fun vp H4 e4 a4 imp => ?_⟩)))))
  obtain ⟨ap, xp, rfl, hxp, hlp⟩ := im_tup' imp
  obtain ⟨vw, xp, rfl, imw, hlp2⟩ := imL_tup1 hlp
  obtain ⟨vl, xp, rfl, iml, hlp3⟩ := imL_tup1 hlp2
  refine c_c ⟨ap, _, 1, vl, rfl, rfl, hxp, atI_nat (j := 1) rfl, c_tup va_nil (Nat.zero_le _) fun p5 h5 => ?_⟩
  have e5 : ExtN H4 (upd H4 p5 (.tup [])) := ExtN.new h5
  have a5 : Am (upd H4 p5 (.tup [])) := A.new a4 h5
  refine c_eqD (iml.mono (ExtN.ee e5)) (im_tup (.inl (.inl upd_same)) imL_nil) (shaped_rd _) shaped_nil ?_
  generalize (upd H4 p5 (.tup [])) = H5 at e5 a5
  have e25 := LamX.ExtN.trans e3 (LamX.ExtN.trans e4 e5)
  have g15 := e25 _ _ g1 fun ps z => by cases z
  have g25 := e25 _ _ g2 fun ps z => by cases z
  rw [eqv_nil]
  have bb : ∀ b : Bool, (if b = true then (1 : Int) else 0) = 1 ∨ (if b = true then (1 : Int) else 0) = 0 := fun b => by cases b <;> simp
  have b0 := bb (decide (pileGo (w.take k) [] = []))
  refine .inr ⟨_, rfl, l2, _, _, rfl, rfl, g25, by omega, by omega, sz (by show 1 * _ ≤ _; omega), fun l6 h6 => ?_⟩
  have e6 := ExtN.new (o := .lst (List.replicate (if (decide (pileGo (w.take k) [] = [])) = true then (1 : Int) else 0).toNat [V.int (0 - 1)]).flatten) h6
  have l16 := ne_of_none g15 h6
  have flen : (List.replicate (if (decide (pileGo (w.take k) [] = [])) = true then (1 : Int) else 0).toNat [V.int (0 - 1)]).flatten.length ≤ 1 := by rw [rep_one, List.length_replicate]; omega
  refine ⟨l1, l6, _, _, rfl, rfl, by rw [upd_ne l16]; exact g15, upd_same, ?_, fun l7 h7 => ?_⟩
  · exact sz (by show 5 + _ ≤ _; omega)
  · refine h l7 _ _ (LamX.ExtN.trans e02 (LamX.ExtN.trans e25 (LamX.ExtN.trans e6 (ExtN.new h7)))) (A.new (A.new a5 h6) h7) upd_same (fun r ys hr => ?_) ?_ ?_ (odd_list (by omega) fun hz => ?_)
    · exact (ne_of_none ((LamX.ExtN.trans e02 (LamX.ExtN.trans e25 e6)) _ _ hr fun ps z => by cases z) h7).symm
    · rw [List.length_append]; show 1 ≤ 5 + _; omega
    · rw [List.length_append]; show 5 + _ < 1000; omega
    · rw [← opn, of_decide_eq_true hz]; rfl
end
end Mk

/-! ### MkOdd5 -/
set_option Elab.async false
set_option linter.all false
set_option maxRecDepth 100000
set_option maxHeartbeats 4000000
namespace Mk
open PySem PySem.Spec PyProof.Rows L2
open LamX (TabS)
section
variable {K : PySem.W.Frag} {Am : Hp → Prop} {G : List Addr} {σ : L2.St} {H : Hp} {Q : VK}
/-- every item is no row at all, also once the list at r has moved -/
def BadOk (K : PySem.W.Frag) (n : Int) (H H' : Hp) (xs : List V) : Prop := ∀ (j : Nat) (v : V), xs[j]? = some v → ∃ d, ckRow n d = some none ∧ ∀ r ys, H r = some (.lst ys) → ∀ H'', XR r H' H'' → Im K H'' d v
/-- [None, list(whole), 'ab', 0, (0,) * 2001] -/
theorem c_badList {n : Int} {w : List Int} {v : V} (A : AmOk Am G) (hA : Am H) (ev : σ[14]? = some (some v)) (im : Im K H (RD w) v)
    (h : ∀ l xs H', ExtN H H' → Am H' → H' l = some (.lst xs) → (∀ r ys, H r = some (.lst ys) → l ≠ r) → xs.length = 5 → BadOk K n H H' xs → Q (.ref l) H') :
    tLst (tCons (tC .non) (tCons (tCB (fun xs H Q => ∃ p ys, xs = [.ref p] ∧ (SqL K H p ys ∨ SqT K H p ys) ∧ ∀ l, H l = none → Q (.ref l) (upd H l (.lst ys))) (tCons (tVar 14) tNil)) (tCons (tC (.str "ab")) (tCons (tC (.int 0)) (tCons (tOp (rRepA K) (tTup (tCons (tC (.int 0)) tNil)) (tC (.int 2001))) tNil))))) σ H Q := by
  obtain ⟨aw, rfl, hx⟩ := im_rd im
  refine c_cons (c_c (c_cons ⟨_, ev, aw, _, rfl, .inr hx, fun lb hb => c_cons (c_c (c_cons (c_c (c_cons (c_op (c_tup (va_cons v_c va_nil) (sz (by show 1 ≤ _; decide)) fun p hp => c_c ?_))))))⟩))
  have e1 := LamX.ExtN.trans (ExtN.new (o := .lst (w.map .int)) hb) (ExtN.new (o := .tup [.int 0]) hp)
  refine c_repG (k := 2001) (d := .int 0) A (A.new (A.new hA hb) hp) (im_tup (.inl (.inl upd_same)) (imL_cons im_int imL_nil)) (by decide) fun vt H2 e2 a2 imt => ⟨sz (by show 5 ≤ _; decide), fun l hl => ?_⟩
  have hlb : H2 lb = some (.lst (w.map .int)) := e2 _ _ (by rw [upd_ne (ne_of_none upd_same hp), upd_same]) fun ps z => by cases z
  have e02 := LamX.ExtN.trans e1 e2
  refine h l _ _ (LamX.ExtN.trans e02 (ExtN.new hl)) (A.new a2 hl) upd_same (fun r ys hr => (ne_of_none (e02 _ _ hr fun ps z => by cases z) hl).symm) rfl fun j v hj => ?_
  have hr2 : ∀ {r : Addr} {ys : List V}, H r = some (.lst ys) → (upd H2 l (.lst [.non, .ref lb, .str "ab", .int 0, vt])) r = some (.lst ys) := fun hr => by
    have z := e02 _ _ hr fun ps z => by cases z
    rw [upd_ne (ne_of_none z hl)]
    exact z
  match j, hj with
  | 0, hj => cases hj; exact ⟨.non, rfl, fun _ _ _ _ _ => im_non⟩
  | 1, hj =>
    cases hj
    refine ⟨.lst (w.map .int), rfl, fun r ys hr H'' x => ?_⟩
    unfold Im
    refine ⟨lb, _, rfl, SqL.of (x.keep (ne_of_none hr hb).symm ?_), imL_ints_of⟩
    rw [upd_ne (ne_of_none hlb hl)]
    exact hlb
  | 2, hj => cases hj; exact ⟨.str "ab", rfl, fun _ _ _ _ _ => by unfold Im; rfl⟩
  | 3, hj => cases hj; exact ⟨.int 0, rfl, fun _ _ _ _ _ => im_int⟩
  | 4, hj =>
    cases hj
    refine ⟨.tup (List.replicate 2001 (.int 0)), ?_, fun r ys hr H'' x => ?_⟩
    · have z : isTupOf (.tup (List.replicate 2001 (.int 0))) 0 2000 = false := by
        show (decide ((0 : Int) ≤ ((List.replicate 2001 (D.int 0)).length : Int)) && decide (((List.replicate 2001 (D.int 0)).length : Int) ≤ 2000)) = false
        rw [List.length_replicate]
        decide
      unfold ckRow
      rw [z]
      rfl
    · have nl : NoL (.tup (List.replicate 2001 (D.int 0))) := by
        have z := noL_ints (List.replicate 2001 0)
        rw [List.map_replicate] at z
        exact z
      exact Im.tt (x.tst (hr2 hr)) nl (imt.mono (ExtN.ee (ExtN.new hl)))
  | j + 5, hj => cases hj
end
end Mk

/-! ### MkOdd6 -/
set_option Elab.async false
set_option linter.all false
set_option maxRecDepth 100000
set_option maxHeartbeats 4000000
namespace Mk
open PySem PySem.Spec PyProof.Rows L2
open LamX (TabS)
section
variable {K : PySem.W.Frag} {Am : Hp → Prop} {G : List Addr} {C : Nat → Addr} {TP : Addr} {q : Str} {σ : L2.St} {H : Hp} {QB : Bool → Hp → Prop} {Q : VK}
theorem noL_rowW (p : Option Nat) : NoL (rowW p) := by
  cases p with
  | none => exact ⟨True.intro, True.intro, True.intro⟩
  | some p => exact ⟨True.intro, True.intro, True.intro⟩
/-- the words of answers_due and left_open upon no row at all != [('row', None)] * 2 -/
theorem c_badT {rows : List (List Int)} {ans : List Int} {n : Nat} {vq v : V} {d : D} (A : AmOk Am G) (hAT : ∀ H, Am H → TabS H TP q) (hAG : ∀ H H1, Am H → GrowT TP H H1 → TabS H1 TP q → Am H1) (hA : Am H) (qok : QOk rows ans n) (e12 : σ[12]? = some (some vq)) (e8 : σ[8]? = some (some v))
    (imq : Im K H (QD rows ans) vq) (im : Im K H d v) (hp : ckRow n d = some none) (h : ∀ H', ExtN H H' → Am H' → QB false H') :
    tTest (tOp (rNeD K) (tLst (tCons (tLamA TP q (TTw Am C) fun E => tCall (spDue K Am (C 1) (C 3)) [] E (tCons (tVar 12) (tCons (tVar 8) tNil))) (tCons (tLamA TP q (TTw Am C) fun E => tCall (spLeftOpen K Am (C 1) (C 3)) [] E (tCons (tVar 12) (tCons (tVar 8) tNil))) tNil)))
      (tOp rRep (tLst (tCons (tTup (tCons (tC (.str "row")) (tCons (tC .non) tNil))) tNil)) (tC (.int 2)))) σ H QB := by
  refine c_test (c_op (c_cons (c_lam hAT hAG hA fun H1 e1 a1 => c_callv (va_cons (v_var e12) (va_cons (v_var e8) va_nil)) (w_due a1 qok (imq.mono (ExtN.ee e1)) (im.mono (ExtN.ee e1)) hp fun v1 H2 e2 a2 i1 => c_cons (c_lam hAT hAG a2 fun H3 e3 a3 => ?_)))))
  have e03 := LamX.ExtN.trans e1 (LamX.ExtN.trans e2 e3)
  refine c_callv (va_cons (v_var e12) (va_cons (v_var e8) va_nil)) (w_lo a3 qok (imq.mono (ExtN.ee e03)) (im.mono (ExtN.ee e03)) hp fun v2 H4 e4 a4 i2 => ⟨sz (by show 2 ≤ _; decide), fun lA hlA => ?_⟩)
  have e5 : ExtN H4 (upd H4 lA (.lst [v1, v2])) := ExtN.new hlA
  refine c_two (d := rowW none) A (A.new a4 hlA) upd_same (i1.mono (ExtN.ee (LamX.ExtN.trans e3 (LamX.ExtN.trans e4 e5)))) (i2.mono (ExtN.ee e5)) (noL_rowW none) (by decide +kernel) (by decide +kernel)
    (fun Q hh => c_tup (va_cons v_c (va_cons v_c va_nil)) (sz (by show 2 ≤ _; decide)) fun p hp => hh _ _ (ExtN.new hp) (A.new (A.new a4 hlA) hp) (im_rowW (p := none) upd_same)) fun z H6 e6 a6 ilA iz => ?_
  refine c_neD ilA iz (by decide +kernel) (by decide +kernel) ⟨_, rfl, ?_⟩
  rw [show PyData.eqv (pyD (.lst [rowW none, rowW none])) (pyD (.lst [rowW none, rowW none])) = true by decide +kernel]
  exact h _ (LamX.ExtN.trans e03 (LamX.ExtN.trans e4 (LamX.ExtN.trans e5 e6))) a6
end
end Mk

/-! ### MkOdd7 -/
set_option Elab.async false
set_option linter.all false
set_option maxRecDepth 100000
set_option maxHeartbeats 4000000
namespace Mk
open PySem PySem.Spec PyProof.Rows L2
open LamX (TabS)
theorem im_str {K : PySem.W.Frag} {H : Hp} {x : Str} : Im K H (.str x) (.str x) := by unfold Im; rfl
section
variable {K : PySem.W.Frag} {Am : Hp → Prop} {G : List Addr} {C : Nat → Addr} {TP : Addr} {q : Str} {σ : L2.St} {H : Hp} {QB : Bool → Hp → Prop} {Q : VK}
/-- '' if many < 41 else y -/
theorem v_lt41 {m : Nat} {te : TE} {H : Hp} {Q : VK} (e10 : σ[10]? = some (some (.int (m : Int)))) (h1 : m < 41 → Q (.str "") H) (h2 : ¬ m < 41 → te σ H Q) : tIf (tTest (tOp (rI0 fun i j => .bl (decide (i < j))) (tVar 10) (tC (.int 41)))) (tC (.str "")) te σ H Q := by
  refine c_ifE (c_testv (v_opb (v_var e10) v_c) ?_)
  by_cases h : m < 41
  · rw [decide_eq_true (by omega)]
    exact iteT (c_c (h1 h))
  · rw [decide_eq_false (by omega)]
    exact iteF (h2 h)
/-- the word of row_of upon marks in marks -/
theorem c_deepT {m : Nat} {v : V} (A : AmOk Am G) (hAT : ∀ H, Am H → TabS H TP q) (hAG : ∀ H H1, Am H → GrowT TP H H1 → TabS H1 TP q → Am H1) (hA : Am H) (h39 : 39 ≤ m) (h42 : m ≤ 42) (e9 : σ[9]? = some (some v)) (e10 : σ[10]? = some (some (.int (m : Int)))) (im : Im K H (deepF m).d v) (h : ∀ H', ExtN H H' → Am H' → QB false H') :
    tTest (tOp (rNeD K) (tLamA TP q (TTw Am C) fun E => tCall (spRowOf K Am (C 8)) [] E (tCons (tVar 9) tNil)) (tIf (tTest (tOp (rI0 fun i j => .bl (decide (i < j))) (tVar 10) (tC (.int 41)))) (tC (.str "")) (tC (.str "forest")))) σ H QB := by
  have sz0 := deepF_size m
  have dp0 := deepF_depth m
  have isf : isFor 3 (deepF m).d = decide (m ≤ 40) := by rw [Fo.isFor_eq (deepF_names m) (by omega), dp0]
  refine c_test (c_op (c_lam hAT hAG hA fun H1 e1 a1 => c_callv (va_cons (v_var e9) va_nil) ⟨(deepF m).d, v, rfl, im.mono (ExtN.ee e1), a1, ?_⟩))
  by_cases hm : m ≤ 40
  · refine .inr ⟨deepF m, rfl, by rw [isf]; exact decide_eq_true hm, by omega, by omega, fun v2 H2 e2 a2 _ => ?_⟩
    refine v_lt41 e10 (fun _ => c_neD im_str im_str (by decide +kernel) (by decide +kernel) ⟨_, rfl, ?_⟩) fun z => absurd z (by omega)
    rw [show PyData.eqv (pyD (.str "")) (pyD (.str "")) = true by decide +kernel]
    exact h _ (LamX.ExtN.trans e1 e2) a2
  · refine .inl ⟨by rw [isf]; exact decide_eq_false hm, en_w (K := K) fun v2 H2 e2 a2 i2 => ?_⟩
    refine v_lt41 e10 (fun z => absurd z (by omega)) fun _ => c_c (c_neD i2 im_str (by decide +kernel) (by decide +kernel) ⟨_, rfl, ?_⟩)
    rw [show PyData.eqv (pyD (.str "forest")) (pyD (.str "forest")) = true by decide +kernel]
    exact h _ (LamX.ExtN.trans e1 e2) a2
/-- the word of forest_of upon its row -/
theorem c_deepR {m : Nat} (A : AmOk Am G) (hAT : ∀ H, Am H → TabS H TP q) (hAG : ∀ H H1, Am H → GrowT TP H H1 → TabS H1 TP q → Am H1) (hA : Am H) (h39 : 39 ≤ m) (h42 : m ≤ 42) (e10 : σ[10]? = some (some (.int (m : Int)))) (h : ∀ H', ExtN H H' → Am H' → QB false H') :
    tTest (tOp (rNeD K) (tLamA TP q (TTw Am C) fun E => tCall (spForestOf K Am (C 3)) [] E (tCons (tOp (rCatA K) (tOp (rRepA K) (tTup (tCons (tC (.int 0)) tNil)) (tVar 10)) (tOp (rRepA K) (tTup (tCons (tOp (rI0 fun i j => .int (i - j)) (tC (.int 0)) (tC (.int 1))) tNil)) (tVar 10))) tNil))
      (tIf (tTest (tOp (rI0 fun i j => .bl (decide (i < j))) (tVar 10) (tC (.int 41)))) (tC (.str "")) (tTup (tCons (tC (.str "row")) (tCons (tC (.int 40)) tNil))))) σ H QB := by
  refine c_test (c_op (c_lam hAT hAG hA fun H1 e1 a1 => c_call (c_cons (c_op (c_op (c_tup (va_cons v_c va_nil) (sz (by show 1 ≤ _; decide)) fun p hp => c_var e10 ?_))))))
  refine c_repG (d := .int 0) A (A.new a1 hp) (im_tup (.inl (.inl upd_same)) (imL_cons im_int imL_nil)) (by omega) fun v2 H2 e2 a2 im2 => ?_
  refine c_op (c_tup (va_cons (v_sub v_c v_c) va_nil) (sz (by show 1 ≤ _; decide)) fun p3 hp3 => c_var e10 ?_)
  refine c_repG (d := .int (-1)) A (A.new a2 hp3) (im_tup (.inl (.inl upd_same)) (imL_cons im_int imL_nil)) (by omega) fun v4 H4 e4 a4 im4 => ?_
  refine c_catG A a4 (im2.mono (ExtN.ee (LamX.ExtN.trans (ExtN.new hp3) e4))) im4 (by rw [List.length_replicate, List.length_replicate]; omega) fun v5 H5 e5 a5 im5 => ?_
  have e15 := LamX.ExtN.trans e1 (LamX.ExtN.trans (ExtN.new hp) (LamX.ExtN.trans e2 (LamX.ExtN.trans (ExtN.new hp3) (LamX.ExtN.trans e4 e5))))
  have eR : List.replicate m (D.int 0) ++ List.replicate m (D.int (-1)) = (deepR m).map D.int := by
    unfold deepR
    rw [List.map_append, List.map_replicate, List.map_replicate]
  rw [eR] at im5
  have dl : (deepR m).length ≤ 2000 := by unfold deepR; rw [List.length_append, List.length_replicate, List.length_replicate]; omega
  have dd := doc_deep m h39 h42
  refine c_nil ⟨RD (deepR m), v5, rfl, im5, a5, (fun p hp => by rw [ckRow_good (by decide) (rowOk_deep m) dl] at hp; cases hp), fun _ is2 ei2 => ⟨fun p2 hp2 => ?_, fun hn fo _ _ v6 H6 e6 a6 _ => ?_⟩⟩
  · rw [← rd_inj ei2, dd] at hp2
    have hm : ¬ m < 41 := fun z => by rw [if_pos z] at hp2; cases hp2
    rw [if_neg hm] at hp2
    cases hp2
    refine er_w (K := K) (p := some 40) fun v6 H6 e6 a6 i6 => ?_
    refine v_lt41 e10 (fun z => absurd z hm) fun _ => c_tup (va_cons v_c (va_cons v_c va_nil)) (sz (by show 2 ≤ _; decide)) fun p7 hp7 => ?_
    refine c_neD (i6.mono (ExtN.ee (ExtN.new hp7))) (e := rowW (some 40)) (im_rowW upd_same) (shaped_rowW _) (shaped_rowW _) ⟨_, rfl, ?_⟩
    rw [eqv_rowW]
    exact h _ (LamX.ExtN.trans e15 (LamX.ExtN.trans e6 (ExtN.new hp7))) (A.new a6 hp7)
  · rw [← rd_inj ei2, dd] at hn
    have hm : m < 41 := Decidable.byContradiction fun z => by rw [if_neg z] at hn; cases hn
    refine v_lt41 e10 (fun _ => c_neD im_str im_str (by decide +kernel) (by decide +kernel) ⟨_, rfl, ?_⟩) fun z => absurd hm z
    rw [show PyData.eqv (pyD (.str "")) (pyD (.str "")) = true by decide +kernel]
    exact h _ (LamX.ExtN.trans e15 e6) a6
end
end Mk

/-! ### MkOdd8 -/
set_option Elab.async false
set_option linter.all false
set_option maxRecDepth 100000
set_option maxHeartbeats 4000000
namespace Mk
open PySem PySem.Spec PyProof.Rows L2
open LamX (TabS)
/-! ### data made by displays: known also once a list that stood before has moved -/
structure Kp (K : PySem.W.Frag) (H H' : Hp) (d : D) (v : V) : Prop where
  im : Im K H' d v
  mv : ∀ r ys H'', H r = some (.lst ys) → XR r H' H'' → Im K H'' d v
structure KpL (K : PySem.W.Frag) (H H' : Hp) (ds : List D) (vs : List V) : Prop where
  im : ImL K H' ds vs
  mv : ∀ r ys H'', H r = some (.lst ys) → XR r H' H'' → ImL K H'' ds vs
section
variable {K : PySem.W.Frag} {Am : Hp → Prop} {G : List Addr} {H H1 H' H2 : Hp} {d : D} {v : V} {ds : List D} {vs : List V}
theorem Kp.ext (k : Kp K H H' d v) (e : ExtN H' H2) : Kp K H H2 d v := ⟨k.im.mono (ExtN.ee e), fun r ys H'' h x => k.mv r ys H'' h ((XR.of e).trans x)⟩
theorem Kp.from (k : Kp K H1 H' d v) (e : ExtN H H1) : Kp K H H' d v := ⟨k.im, fun r ys H'' h x => k.mv r ys H'' (e _ _ h fun ps z => by cases z) x⟩
theorem KpL.from (k : KpL K H1 H' ds vs) (e : ExtN H H1) : KpL K H H' ds vs := ⟨k.im, fun r ys H'' h x => k.mv r ys H'' (e _ _ h fun ps z => by cases z) x⟩
theorem KpL.nil : KpL K H H' [] [] := ⟨imL_nil, fun _ _ _ _ _ => imL_nil⟩
theorem KpL.cons (k : Kp K H H' d v) (l : KpL K H H' ds vs) : KpL K H H' (d :: ds) (v :: vs) := ⟨imL_cons k.im l.im, fun r ys H'' h x => imL_cons (k.mv r ys H'' h x) (l.mv r ys H'' h x)⟩
theorem Kp.noL (e : ExtN H H') (n : NoL d) (im : Im K H' d v) : Kp K H H' d v := ⟨im, fun r ys H'' h x => Im.tt (x.tst (e _ _ h fun ps z => by cases z)) n im⟩
/-- a display's item -/
abbrev Dis (K : PySem.W.Frag) (Am : Hp → Prop) (te : TE) (d : D) : Prop := ∀ (σ : L2.St) (H : Hp) (Q : VK), Am H → (∀ v H', ExtN H H' → Am H' → Kp K H H' d v → Q v H') → te σ H Q
abbrev DisL (K : PySem.W.Frag) (Am : Hp → Prop) (ta : TA) (ds : List D) : Prop := ∀ (σ : L2.St) (H : Hp) (Q : List V → Hp → Prop), Am H → (∀ vs H', ExtN H H' → Am H' → KpL K H H' ds vs → Q vs H') → ta σ H Q
theorem dis_c (h : ∀ H, Im K H d v) : Dis K Am (tC v) d := fun σ H Q a q => c_c (q v H (LamX.ExtN.refl H) a ⟨h H, fun _ _ H'' _ _ => h H''⟩)
theorem dis_nil : DisL K Am tNil [] := fun σ H Q a q => q [] H (LamX.ExtN.refl H) a KpL.nil
theorem dis_cons {te : TE} {ta : TA} (h1 : Dis K Am te d) (h2 : DisL K Am ta ds) : DisL K Am (tCons te ta) (d :: ds) := fun σ H Q a q =>
  c_cons (h1 σ H _ a fun v H1 e1 a1 k1 => h2 σ H1 _ a1 fun vs H2 e2 a2 k2 => q _ _ (LamX.ExtN.trans e1 e2) a2 (KpL.cons (k1.ext e2) (k2.from e1)))
theorem dis_tup (A : AmOk Am G) {ta : TA} (h : DisL K Am ta ds) (hl : ds.length ≤ 100) : Dis K Am (tTup ta) (.tup ds) := fun σ H Q a q =>
  h σ H _ a fun vs H1 e1 a1 k1 => ⟨sz (by have := k1.im.length; omega), fun p hp => by
    have e2 := ExtN.new (o := .tup vs) hp
    refine q _ _ (LamX.ExtN.trans e1 e2) (A.new a1 hp) ⟨im_tup (.inl (.inl upd_same)) (k1.im.mono (ExtN.ee e2)), fun r ys H'' hr x => ?_⟩
    have hr1 := e1 _ _ hr fun ps z => by cases z
    have x1 : XR r H1 H'' := (XR.of e2).trans x
    exact im_tup (.inl (.inl (x _ _ upd_same (fun ps z => by cases z) (ne_of_none hr1 hp).symm))) (k1.mv r ys H'' hr x1)⟩
theorem dis_lst (A : AmOk Am G) {ta : TA} (h : DisL K Am ta ds) (hl : ds.length ≤ 100) : Dis K Am (tLst ta) (.lst ds) := fun σ H Q a q =>
  h σ H _ a fun vs H1 e1 a1 k1 => ⟨sz (by have := k1.im.length; omega), fun p hp => by
    have e2 := ExtN.new (o := .lst vs) hp
    have im : ∀ {H3}, H3 p = some (.lst vs) → ImL K H3 ds vs → Im K H3 (.lst ds) (.ref p) := fun h1 h2 => by
      unfold Im
      exact ⟨p, _, rfl, SqL.of h1, h2⟩
    refine q _ _ (LamX.ExtN.trans e1 e2) (A.new a1 hp) ⟨im upd_same (k1.im.mono (ExtN.ee e2)), fun r ys H'' hr x => ?_⟩
    have hr1 := e1 _ _ hr fun ps z => by cases z
    have x1 : XR r H1 H'' := (XR.of e2).trans x
    exact im (x _ _ upd_same (fun ps z => by cases z) (ne_of_none hr1 hp).symm) (k1.mv r ys H'' hr x1)⟩
theorem dis_rep (A : AmOk Am G) {te : TE} {k : Nat} (h : Dis K Am te (.tup [d])) (n : NoL d) (nr : NoL (.tup (List.replicate k d))) (hk : k ≤ 5000) : Dis K Am (tOp (rRepA K) te (tC (.int (k : Int)))) (.tup (List.replicate k d)) := fun σ H Q a q =>
  c_op (h σ H _ a fun v H1 e1 a1 k1 => c_c (c_repG A a1 k1.im hk fun w H2 e2 a2 im2 => q _ _ (LamX.ExtN.trans e1 e2) a2 (Kp.noL (LamX.ExtN.trans e1 e2) nr im2)))
theorem noLs_rep {d : D} (n : NoL d) : ∀ k, NoLs (List.replicate k d)
  | 0 => True.intro
  | k + 1 => ⟨n, noLs_rep n k⟩
/-- the list of what is no forest -/
theorem c_oddF (A : AmOk Am G) {σ : L2.St} {Q : VK} (hA : Am H) (h : ∀ l xs H', ExtN H H' → Am H' → H' l = some (.lst xs) → (∀ r ys, H r = some (.lst ys) → l ≠ r) → xs.length = 9 → KpL K H H' oddF xs → Q (.ref l) H') :
    tLst (tCons (tC .non) (tCons (tLst tNil) (tCons (tTup (tCons (tC (.int 0)) tNil)) (tCons (tTup (tCons (tTup (tCons (tC (.int 0)) tNil)) tNil))
      (tCons (tTup (tCons (tTup (tCons (tC (.int 3)) (tCons (tTup tNil) tNil))) tNil)) (tCons (tTup (tCons (tTup (tCons (tC (.int 0)) (tCons (tLst tNil) tNil))) tNil))
      (tCons (tTup (tCons (tTup (tCons (tC (.bl true)) (tCons (tTup tNil) tNil))) tNil)) (tCons (tTup (tCons (tTup (tCons (tC (.int 0)) (tCons (tTup tNil) (tCons (tTup tNil) tNil)))) tNil))
      (tCons (tOp (rRepA K) (tTup (tCons (tTup (tCons (tC (.int 0)) (tCons (tTup tNil) tNil))) tNil)) (tC (.int 1001))) tNil))))))))) σ H Q := by
  have i0 : ∀ H, Im K H (.int 0) (.int 0) := fun _ => im_int
  have et : Dis K Am (tTup tNil) (.tup []) := dis_tup A dis_nil (by decide)
  have el : Dis K Am (tLst tNil) (.lst []) := dis_lst A dis_nil (by decide)
  have L : DisL K Am (tCons (tC .non) (tCons (tLst tNil) (tCons (tTup (tCons (tC (.int 0)) tNil)) (tCons (tTup (tCons (tTup (tCons (tC (.int 0)) tNil)) tNil))
      (tCons (tTup (tCons (tTup (tCons (tC (.int 3)) (tCons (tTup tNil) tNil))) tNil)) (tCons (tTup (tCons (tTup (tCons (tC (.int 0)) (tCons (tLst tNil) tNil))) tNil))
      (tCons (tTup (tCons (tTup (tCons (tC (.bl true)) (tCons (tTup tNil) tNil))) tNil)) (tCons (tTup (tCons (tTup (tCons (tC (.int 0)) (tCons (tTup tNil) (tCons (tTup tNil) tNil)))) tNil))
      (tCons (tOp (rRepA K) (tTup (tCons (tTup (tCons (tC (.int 0)) (tCons (tTup tNil) tNil))) tNil)) (tC (.int 1001))) tNil))))))))) oddF := by
    unfold oddF
    refine dis_cons (dis_c fun _ => im_non) (dis_cons el (dis_cons (dis_tup A (dis_cons (dis_c i0) dis_nil) (by decide)) (dis_cons (dis_tup A (dis_cons (dis_tup A (dis_cons (dis_c i0) dis_nil) (by decide)) dis_nil) (by decide)) ?_)))
    refine dis_cons (dis_tup A (dis_cons (dis_tup A (dis_cons (dis_c fun _ => im_int) (dis_cons et dis_nil)) (by decide)) dis_nil) (by decide)) ?_
    refine dis_cons (dis_tup A (dis_cons (dis_tup A (dis_cons (dis_c i0) (dis_cons el dis_nil)) (by decide)) dis_nil) (by decide)) ?_
    refine dis_cons (dis_tup A (dis_cons (dis_tup A (dis_cons (dis_c fun _ => by unfold Im; rfl) (dis_cons et dis_nil)) (by decide)) dis_nil) (by decide)) ?_
    refine dis_cons (dis_tup A (dis_cons (dis_tup A (dis_cons (dis_c i0) (dis_cons et (dis_cons et dis_nil))) (by decide)) dis_nil) (by decide)) ?_
    have nl : NoL (.tup [.int 0, .tup []]) := ⟨True.intro, True.intro, True.intro⟩
    exact dis_cons (dis_rep (k := 1001) A (dis_tup A (dis_cons (dis_tup A (dis_cons (dis_c i0) (dis_cons et dis_nil)) (by decide)) dis_nil) (by decide)) nl (noLs_rep nl 1001) (by decide)) dis_nil
  refine L σ H _ hA fun xs H1 e1 a1 k1 => ?_
  have len : xs.length = 9 := k1.im.length
  refine ⟨sz (by omega), fun l hl => ?_⟩
  have e2 := ExtN.new (o := .lst xs) hl
  refine h l xs _ (LamX.ExtN.trans e1 e2) (A.new a1 hl) upd_same (fun r ys hr => ?_) len ⟨k1.im.mono (ExtN.ee e2), fun r ys H'' hr x => k1.mv r ys H'' hr ((XR.of e2).trans x)⟩
  have hr1 := e1 _ _ hr fun ps z => by cases z
  exact (ne_of_none hr1 hl).symm
end
end Mk

/-! ### MkOdd9 -/
set_option Elab.async false
set_option linter.all false
set_option maxRecDepth 100000
set_option maxHeartbeats 4000000
namespace Mk
open PySem PySem.Spec PyProof.Rows L2
open LamX (TabS)
section
variable {K : PySem.W.Frag} {Am : Hp → Prop} {G : List Addr} {C : Nat → Addr} {TP : Addr} {q : Str} {σ : L2.St} {H : Hp} {QB : Bool → Hp → Prop} {Q : VK}
/-- the words of row_of and told_forest upon what is no forest == ['forest'] * 2 -/
theorem c_oddFT {rows : List (List Int)} {ans : List Int} {vq v : V} {d : D} (A : AmOk Am G) (hAT : ∀ H, Am H → TabS H TP q) (hAG : ∀ H H1, Am H → GrowT TP H H1 → TabS H1 TP q → Am H1) (hA : Am H) (ckq : ckQ (QD rows ans) = none) (n3 : namesD (QD rows ans) ≤ 3) (e12 : σ[12]? = some (some vq)) (e8 : σ[8]? = some (some v))
    (imq : Im K H (QD rows ans) vq) (im : Im K H d v) (hd : d ∈ oddF) (h : ∀ H', Q (.bl true) H') :
    tOp (rEqD K) (tLst (tCons (tLamA TP q (TTw Am C) fun E => tCall (spRowOf K Am (C 8)) [] E (tCons (tVar 8) tNil)) (tCons (tLamA TP q (TTw Am C) fun E => tCall (spToldF K Am (C 1) (C 8)) [] E (tCons (tVar 12) (tCons (tVar 8) tNil))) tNil)))
      (tOp rRep (tLst (tCons (tC (.str "forest")) tNil)) (tC (.int 2))) σ H Q := by
  refine c_op (c_cons (c_lam hAT hAG hA fun H1 e1 a1 => c_callv (va_cons (v_var e8) va_nil) ⟨d, v, rfl, im.mono (ExtN.ee e1), a1, .inl ⟨oddF_no (by decide) hd, en_w (K := K) fun v1 H2 e2 a2 i1 => c_cons (c_lam hAT hAG a2 fun H3 e3 a3 => ?_)⟩⟩))
  have e03 := LamX.ExtN.trans e1 (LamX.ExtN.trans e2 e3)
  refine c_callv (va_cons (v_var e12) (va_cons (v_var e8) va_nil)) ⟨QD rows ans, d, vq, v, rfl, imq.mono (ExtN.ee e03), im.mono (ExtN.ee e03), a3, (fun p hp => by rw [ckq] at hp; cases hp), fun _ => .inl ⟨oddF_no (by omega) hd, en_w (K := K) fun v2 H4 e4 a4 i2 => ⟨sz (by show 2 ≤ _; decide), fun lA hlA => ?_⟩⟩⟩
  have e5 : ExtN H4 (upd H4 lA (.lst [v1, v2])) := ExtN.new hlA
  refine c_two (d := .str "forest") A (A.new a4 hlA) upd_same (i1.mono (ExtN.ee (LamX.ExtN.trans e3 (LamX.ExtN.trans e4 e5)))) (i2.mono (ExtN.ee e5)) True.intro (by decide +kernel) (by decide +kernel)
    (fun Q hh => c_c (hh _ _ (LamX.ExtN.refl _) (A.new a4 hlA) im_str)) fun z H6 e6 a6 ilA iz => ?_
  refine c_eqD ilA iz (by decide +kernel) (by decide +kernel) ?_
  rw [show PyData.eqv (pyD (.lst [.str "forest", .str "forest"])) (pyD (.lst [.str "forest", .str "forest"])) = true by decide +kernel]
  exact h _
theorem law_tail {rows : List (List Int)} {ans : List Int} {r sa aq : Addr} (A : AmOk Am G) (hAT : ∀ H, Am H → TabS H TP q) (hAG : ∀ H H1, Am H → GrowT TP H H1 → TabS H1 TP q → Am H1) (hA : Am H) (ckq : ckQ (QD rows ans) = none) (n3 : namesD (QD rows ans) ≤ 3)
    (ra : RowAt K H r sa) (imq : Im K H (QD rows ans) (.ref aq)) (e1 : σ[1]? = some (some (.ref r))) (e12 : σ[12]? = some (some (.ref aq))) (l9 : 12 < σ.length) (h : ∀ H', Q (.bl true) H') :
    tSeq
    (tAsg
      (tTup
        (tCons (tTup tNil)
          (tCons
            (tOp (rI0 fun i j => V.int (i + j)) (tC (V.int 39))
              (tCall (spTaken K Am) [] E0 (tCons (tVar 1) (tCons (tC (V.int 4)) tNil))))
            tNil)))
      (gTup K 2 (gCons (gName 9) (gCons (gName 10) gNil))))
    (tSeq
      (tFor (iRng1 (tCons (tVar 10) tNil)) (gName 6)
        (tAsg (tTup (tCons (tTup (tCons (tC (V.int 0)) (tCons (tVar 9) tNil))) tNil)) (gName 9)))
      (tSeq
        (tIfS
          (tTest
            (tOp
              (rNeD K)
              (tLamA TP q (TTw Am C) fun x => tCall (spRowOf K Am (C 8)) [] x (tCons (tVar 9) tNil))
              (tIf (tTest (tOp (rI0 fun i j => V.bl (decide (i < j))) (tVar 10) (tC (V.int 41))))
                (tC (V.str "")) (tC (V.str "forest")))))
          (tRet (tC (V.bl false))) tNext)
        (tSeq
          (tIfS
            (tTest
              (tOp
                (rNeD K)
                (tLamA TP q
                  (TTw Am C) fun x =>
                  tCall (spForestOf K Am (C 3)) [] x
                    (tCons
                      (tOp (rCatA K) (tOp (rRepA K) (tTup (tCons (tC (V.int 0)) tNil)) (tVar 10))
                        (tOp (rRepA K)
                          (tTup (tCons (tOp (rI0 fun i j => V.int (i - j)) (tC (V.int 0)) (tC (V.int 1))) tNil))
                          (tVar 10)))
                      tNil))
                (tIf (tTest (tOp (rI0 fun i j => V.bl (decide (i < j))) (tVar 10) (tC (V.int 41))))
                  (tC (V.str ""))
                  (tTup (tCons (tC (V.str "row")) (tCons (tC (V.int 40)) tNil))))))
            (tRet (tC (V.bl false))) tNext)
          (tSeq
            (tAsg
              (tLst (tCons (tC .non) (tCons (tLst tNil) (tCons (tTup (tCons (tC (.int 0)) tNil)) (tCons (tTup (tCons (tTup (tCons (tC (.int 0)) tNil)) tNil))
      (tCons (tTup (tCons (tTup (tCons (tC (.int 3)) (tCons (tTup tNil) tNil))) tNil)) (tCons (tTup (tCons (tTup (tCons (tC (.int 0)) (tCons (tLst tNil) tNil))) tNil))
      (tCons (tTup (tCons (tTup (tCons (tC (.bl true)) (tCons (tTup tNil) tNil))) tNil)) (tCons (tTup (tCons (tTup (tCons (tC (.int 0)) (tCons (tTup tNil) (tCons (tTup tNil) tNil)))) tNil))
      (tCons (tOp (rRepA K) (tTup (tCons (tTup (tCons (tC (.int 0)) (tCons (tTup tNil) tNil))) tNil)) (tC (.int 1001))) tNil))))))))))
              (gName 11))
            (tSeq (tAsg (tCall (spPick K Am) [] E0 (tCons (tVar 1) (tCons (tVar 11) tNil))) (gName 8))
              (tRet
                (tOp
                  (rEqD K)
                  (tLst
                    (tCons
                      (tLamA TP q
                        (TTw Am C) fun x => tCall (spRowOf K Am (C 8)) [] x (tCons (tVar 8) tNil))
                      (tCons
                        (tLamA TP q
                          (TTw Am C) fun x =>
                          tCall (spToldF K Am (C 1) (C 8)) [] x (tCons (tVar 12) (tCons (tVar 8) tNil)))
                        tNil)))
                  (tOp rRep (tLst (tCons (tC (V.str "forest")) tNil)) (tC (V.int 2))))))))))
    { nx := fun x H' => Q V.non H', rt := Q } σ H := by
  refine c_seq (c_asg (c_cons (c_tup va_nil (Nat.zero_le _) fun p0 hp0 => c_cons (c_op (c_c (c_callv (va_cons (v_var e1) (va_cons v_c va_nil)) ⟨r, sa, 4, rfl, ra.ext (ExtN.new hp0), by decide, by decide, A.new hA hp0, fun k H1 k0 k4 x1 ra1 a1 => ⟨39, k, rfl, rfl, ⟨sz (by show 2 ≤ _; decide), fun p2 hp2 => ?_⟩⟩⟩))))))
  have e0 : ExtN H (upd H p0 (.tup [])) := ExtN.new hp0
  have im0 : Im K (upd H p0 (.tup [])) (.tup []) (.ref p0) := im_tup (.inl (.inl upd_same)) imL_nil
  have imq1 := (imq.mono (ExtN.ee e0)).xr (ra.ext e0) x1 (noL_qd _ _)
  have im01 := im0.xr (ra.ext e0) x1 (show NoL (.tup []) from True.intro)
  have e2 : ExtN H1 (upd H1 p2 (.tup [.ref p0, .int (39 + k)])) := ExtN.new hp2
  refine ⟨p2, _, rfl, .inl (.inl upd_same), rfl, _, _, rfl, _, _, rfl, rfl, ?_⟩
  obtain ⟨m, hm⟩ : ∃ m : Nat, 39 + k = (m : Int) := ⟨(39 + k).toNat, by omega⟩
  rw [hm] at e2
  dsimp only
  rw [hm]
  have a2 : Am (upd H1 p2 (.tup [.ref p0, .int (m : Int)])) := A.new a1 hp2
  have ra2 := ra1.ext e2
  have imq2 := imq1.mono (ExtN.ee e2)
  have im02 := im01.mono (ExtN.ee e2)
  generalize (upd H1 p2 (.tup [.ref p0, .int (m : Int)])) = H2 at e2 a2 ra2 imq2 im02
  have s1 : ((σ.set 9 (some (V.ref p0))).set 10 (some (V.int (m : Int))))[1]? = some (some (.ref r)) := by rw [List.getElem?_set_ne (by decide), List.getElem?_set_ne (by decide)]; exact e1
  have s12 : ((σ.set 9 (some (V.ref p0))).set 10 (some (V.int (m : Int))))[12]? = some (some (.ref aq)) := by rw [List.getElem?_set_ne (by decide), List.getElem?_set_ne (by decide)]; exact e12
  have s9 : ((σ.set 9 (some (V.ref p0))).set 10 (some (V.int (m : Int))))[9]? = some (some (.ref p0)) := by rw [List.getElem?_set_ne (by decide), List.getElem?_set_self (by omega)]
  have s10 : ((σ.set 9 (some (V.ref p0))).set 10 (some (V.int (m : Int))))[10]? = some (some (.int (m : Int))) := by rw [List.getElem?_set_self (by rw [List.length_set]; omega)]
  have sl : 12 < ((σ.set 9 (some (V.ref p0))).set 10 (some (V.int (m : Int)))).length := by rw [List.length_set, List.length_set]; omega
  generalize ((σ.set 9 (some (V.ref p0))).set 10 (some (V.int (m : Int)))) = σ2 at s1 s12 s9 s10 sl
  have mt : ((m : Int)).toNat = m := by omega
  refine c_seq (c_forR (n := (m : Int)) (va_cons (v_var s10) va_nil) (by omega) (by omega) (fun i σ H => ExtN H2 H ∧ Am H ∧ 12 < σ.length ∧ σ[1]? = some (some (.ref r)) ∧ σ[12]? = some (some (.ref aq)) ∧ σ[10]? = some (some (.int (m : Int))) ∧ ∃ v, σ[9]? = some (some v) ∧ Im K H (deepF i).d v)
    ⟨LamX.ExtN.refl _, a2, sl, s1, s12, s10, _, s9, im02⟩ (fun σ3 H3 ⟨e3, a3, l3, t1, t12, t10, v, t9, im3⟩ => ?_) fun i σ3 H3 hi ⟨e3, a3, l3, t1, t12, t10, v, t9, im3⟩ => ?_)
  · rw [mt] at im3
    dsimp only
    have ra3 := ra2.ext e3
    have imq3 := imq2.mono (ExtN.ee e3)
    refine c_seq (c_if (c_deepT A hAT hAG a3 (by omega) (by omega) t9 t10 im3 fun H4 e4 a4 => iteF (c_next ?_)))
    dsimp only
    refine c_seq (c_if (c_deepR A hAT hAG a4 (by omega) (by omega) t10 fun H5 e5 a5 => iteF (c_next ?_)))
    have e35 := LamX.ExtN.trans e4 e5
    have ra5 := ra3.ext e35
    have imq5 := imq3.mono (ExtN.ee e35)
    dsimp only
    obtain ⟨ys5, hr5⟩ := ra5.lst
    refine c_seq (c_set (c_oddF A a5 fun l xs H6 e6 a6 hl nl x9 kp => ?_))
    dsimp only
    have u1 : (σ3.set 11 (some (V.ref l)))[1]? = some (some (.ref r)) := by rw [List.getElem?_set_ne (by decide)]; exact t1
    have u11 : (σ3.set 11 (some (V.ref l)))[11]? = some (some (.ref l)) := List.getElem?_set_self (by omega)
    have u12 : (σ3.set 11 (some (V.ref l)))[12]? = some (some (.ref aq)) := by rw [List.getElem?_set_ne (by decide)]; exact t12
    have ul : 12 < (σ3.set 11 (some (V.ref l))).length := by rw [List.length_set]; exact l3
    refine c_seq (c_set (c_callv (va_cons (v_var u1) (va_cons (v_var u11) va_nil)) ⟨r, sa, l, xs, rfl, ra5.ext e6, SqL.of hl, nl r ys5 hr5, by omega, by omega, a6, fun j vb H7 hj x7 ra7 a7 => ?_⟩))
    dsimp only
    have kpm := kp.mv r ys5 H7 hr5 x7
    obtain ⟨d, hd, imd⟩ := kpm.get hj
    have imq7 := (imq5.mono (ExtN.ee e6)).xr (ra5.ext e6) x7 (noL_qd _ _)
    refine c_ret (c_oddFT (d := d) A hAT hAG a7 ckq n3 ?_ ?_ imq7 imd (List.mem_of_getElem? hd) h)
    · rw [List.getElem?_set_ne (by decide)]; exact u12
    · exact List.getElem?_set_self (by omega)
  · show tAsg _ (gName 9) _ (σ3.set 6 (some (V.int (i : Int)))) H3
    have w9 : (σ3.set 6 (some (V.int (i : Int))))[9]? = some (some v) := by rw [List.getElem?_set_ne (by decide)]; exact t9
    refine c_set (c_cons (c_tup (va_cons v_c (va_cons (v_var w9) va_nil)) (sz (by show 2 ≤ _; decide)) fun p5 hp5 => ⟨sz (by show 1 ≤ _; decide), fun p6 hp6 => ?_⟩))
    have e5 := LamX.ExtN.trans (ExtN.new (o := .tup [.int 0, v]) hp5) (ExtN.new (o := .tup [.ref p5]) hp6)
    dsimp only
    refine ⟨LamX.ExtN.trans e3 e5, A.new (A.new a3 hp5) hp6, by rw [List.length_set, List.length_set]; exact l3, ?_, ?_, ?_, _, List.getElem?_set_self (by rw [List.length_set]; omega), ?_⟩
    · rw [List.getElem?_set_ne (by decide), List.getElem?_set_ne (by decide)]; exact t1
    · rw [List.getElem?_set_ne (by decide), List.getElem?_set_ne (by decide)]; exact t12
    · rw [List.getElem?_set_ne (by decide), List.getElem?_set_ne (by decide)]; exact t10
    · have i5 : Im K (upd (upd H3 p5 (.tup [.int 0, v])) p6 (.tup [.ref p5])) (.tup [.int 0, (deepF i).d]) (.ref p5) := im_tup (.inl (.inl (by rw [upd_ne (ne_of_none upd_same hp6)]; exact upd_same))) (imL_cons im_int (imL_cons (im3.mono (ExtN.ee e5)) imL_nil))
      exact im_tup (.inl (.inl upd_same)) (imL_cons i5 imL_nil)
end
end Mk

/-! ### MkLaw7 -/
set_option Elab.async false
set_option linter.all false
set_option maxRecDepth 100000
set_option maxHeartbeats 8000000
namespace Mk
open PySem PySem.Spec PyProof.Rows L2
open GxR (TabG Tabbed)
open LamX (TabS)
theorem hu64 {k : Nat} {A : Around} (hr : Room k A) : A.units + 64 < cLine := by
  have := hr.un
  omega
theorem passL {X : Cx} : Passes (L2.CX X.prog X.w) X E0 := fun _ _ _ _ e s' _ h => by
  obtain ⟨_, _, _, _, _, _, _, _, _, _, _, _, z⟩ := h
  exact z.elim
/-- the defs of the text that the law calls -/
structure Txt (P : Program) (w : World) (K : PySem.W.Frag) (mg : Str → Option Value) (base : Heap) (Am : Hp → Prop) (C fa : Nat → Addr) (fd : Nat → FuncData) : Prop where
  lo : Def P w K mg base (L2.CX P w) 7 "left_open" (fa 31) (fd 31) ["question", "row"] (spLeftOpen K Am (C 1) (C 3))
  du : Def P w K mg base (L2.CX P w) 7 "answers_due" (fa 32) (fd 32) ["question", "row"] (spDue K Am (C 1) (C 3))
  ro : Def P w K mg base (L2.CX P w) 42 "row_of" (fa 37) (fd 37) ["forest"] (spRowOf K Am (C 8))
  fo : Def P w K mg base (L2.CX P w) 5 "forest_of" (fa 38) (fd 38) ["row"] (spForestOf K Am (C 3))
  to : Def P w K mg base (L2.CX P w) 42 "told_forest" (fa 40) (fd 40) ["question", "forest"] (spToldF K Am (C 1) (C 8))
  ta : Def P w K mg base CX0 1 "_law_taken" (fa 42) (fd 42) ["row", "many"] (spTaken K Am)
  pi : Def P w K mg base CX0 2 "_law_pick" (fa 43) (fd 43) ["row", "things"] (spPick K Am)
  al : Def P w K mg base CX0 60 "_law_alike" (fa 44) (fd 44) ["found", "due"] (spAlike K Am 60)
  lq : Def P w K mg base CX0 2 "_law_question" (fa 45) (fd 45) ["row", "states", "names"] (spLQ K Am)
  an : Def P w K mg base CX0 2 "_law_answer" (fa 47) (fd 47) ["question", "way"] (spLAns K)
  tg : Def P w K mg base CX0 2 "_law_tags" (fa 48) (fd 48) ["row", "names", "many"] (spLTags K Am)
  pa : Def P w K mg base CX0 1 "_law_paths" (fa 49) (fd 49) ["tags"] (spLPaths K Am)
  lf : Def P w K mg base CX0 41 "_law_forest" (fa 51) (fd 51) ["tags"] (spLForest K Am 41)
  lt : Def P w K mg base CX0 43 "_law_told_forest" (fa 52) (fd 52) ["question", "forest", "above"] (spLTold K Am 41)
  wd : Fun K "_law_word" "_law_word" sWord (fa 50) (fd 50)
  wb : Binds K (fd 50) ["work"] []
  wg : mg "_law_word" = some (.ref (fa 50))
  er : Errs K mg C
  gl : Glb mg
  g2 : Glb2 mg
section
variable {P : Program} {w : World} {K : PySem.W.Frag} {mg : Str → Option Value} {base : Heap} {Am : Hp → Prop} {G : List Addr} {C fa : Nat → Addr} {fd : Nat → FuncData}
def spLaw (K : PySem.W.Frag) (Am : Hp → Prop) : Sp := fun vs H Q _ => ∃ (a : Addr) (ns : List Int), vs = [.ref a] ∧ SqL K H a (ns.map .int) ∧ Am H ∧ ∀ H', Q (.bl true) H'
abbrev qL : Str := (("law" : Str) ++ ".<locals>.") ++ "<lambda>"
theorem ok_law {c TP : Addr} (A : AmOk Am G) (hAT : ∀ H, Am H → TabS H TP qL) (hAG : ∀ H H1, Am H → GrowT TP H H1 → TabS H1 TP qL → Am H1) (T : Txt P w K mg base Am C fa fd) (F : Fun K "law" "law" sLaw (fa 53) (fd 53)) (O : Own mg base (fd 53) c TP) (TB : LamX.TabB base mg c TP) : FnOk P w K mg base CX0 61 (fa 53) (fd 53) ["script"] (spLaw K Am) := by
  obtain ⟨ocW, odW, kVW, docW, pmW, anW, cdvW, ctW, oslW, efd, lkW, hcW⟩ := T.wd.ex
  have wb := T.wb
  rw [efd] at wb lkW
  refine Fun.okC F scLaw (fun vs H Q E h => ?_) (fun Ar outer s H vs Q E hr h => ?_)
  · obtain ⟨_, _, rfl, _⟩ := h
    rfl
  · obtain ⟨sa, ns, rfl, hs, hA, q⟩ := h
    refine ⟨_, (pss_cons (ps_set (i := 1) scLaw.nd rfl (Or.inl rfl) (pe_lst (pa_cons (pv 0) (pa_cons pe_int (pa_cons pe_int (pa_cons pe_int pa_nil))))))
      (pss_cons (ps_set (i := 12) scLaw.nd rfl (Or.inr rfl) (pe_call T.lq.ok (hr.mono (by decide)) (by rfl) T.lq.g T.lq.kp T.lq.b .nil pass0 (pa_cons (pv 1) (pa_cons pe_int (pa_cons pe_int pa_nil)))))
      (pss_cons (ps_set (i := 2) scLaw.nd rfl (Or.inl rfl) (pe_callB call_len_seq (by rfl) T.gl.len boot_len (pa_cons (pe_ix ix_tup (pe_ix ix_tup (pv 12) pe_int (fun _ _ => rfl)) pe_int (fun _ _ => rfl)) pa_nil)))
      (pss_cons (ps_set (i := 13) scLaw.nd rfl (Or.inr rfl) (pe_call T.tg.ok (hr.mono (by decide)) (by rfl) T.tg.g T.tg.kp T.tg.b .nil pass0 (pa_cons (pv 1) (pa_cons (pv 2) (pa_cons pe_int pa_nil)))))
      (pss_cons (ps_asg (pe_call T.pa.ok (hr.mono (by decide)) (by rfl) T.pa.g T.pa.kp T.pa.b .nil pass0 (pa_cons (pv 13) pa_nil)) (pg_tup (by rfl) (pgs_cons (pg_name (i := 3) scLaw.nd rfl (Or.inl rfl)) (pgs_cons (pg_name (i := 4) scLaw.nd rfl (Or.inl rfl)) pgs_nil))))
      (pss_cons (ps_if (pt_not (pt_val (pe_call T.al.ok (hr.mono (by decide)) (by rfl) T.al.g T.al.kp T.al.b .nil pass0 (pa_cons (pe_lst (pa_cons (pe_call T.lo.ok (hr.mono (by decide)) (by rfl) T.lo.g T.lo.kp T.lo.b .nil passL (pa_cons (pv 12) (pa_cons (pv 13) pa_nil))) (pa_cons (pe_call T.du.ok (hr.mono (by decide)) (by rfl) T.du.g T.du.kp T.du.b .nil passL (pa_cons (pv 12) (pa_cons (pv 13) pa_nil))) pa_nil))) (pa_cons (pe_lst (pa_cons (pv 4) (pa_cons (pe_tupleOf (by rfl) T.gl.tuple (pe_lc (own := [("way", 15)]) rfl scLaw.nd (pi_list (pv 3)) (blkOk_by (N := NL) (sc := defScope sLaw) (by decide +kernel)) (fun _ _ _ _ _ => pg_name (i := 15) scLaw.nd rfl (Or.inl rfl)) (fun _ _ _ _ _ => pts_nil) (fun _ _ _ _ _ => pe_call T.an.ok (hr.mono (by decide)) (by rfl) T.an.g T.an.kp T.an.b .nil pass0 (pa_cons (pv 12) (pa_cons (pv 15) pa_nil))))) pa_nil))) pa_nil))))) (pss_one (ps_ret pe_bl)) pss_nil)
      (pss_cons (ps_set (i := 14) scLaw.nd rfl (Or.inr rfl) (pe_op op_catA (pv 13) (pe_op op_repA (pe_tup (pa_cons (pe_op op_sub pe_int pe_int) pa_nil)) (pe_callB call_len_seq (by rfl) T.gl.len boot_len (pa_cons (pv 4) pa_nil)))))
      (pss_cons (ps_set (i := 5) scLaw.nd rfl (Or.inl rfl) (pe_call T.fo.ok (hr.mono (by decide)) (by rfl) T.fo.g T.fo.kp T.fo.b .nil passL (pa_cons (pv 14) pa_nil)))
      (pss_cons (ps_if (PW.pt (pw_or (pt_not (pt_val (pe_call T.al.ok (hr.mono (by decide)) (by rfl) T.al.g T.al.kp T.al.b .nil pass0 (pa_cons (pe_call T.ro.ok (hr.mono (by decide)) (by rfl) T.ro.g T.ro.kp T.ro.b .nil passL (pa_cons (pv 5) pa_nil)) (pa_cons (pv 14) pa_nil))))) (pw_or1 (pt_not (pt_val (pe_call T.al.ok (hr.mono (by decide)) (by rfl) T.al.g T.al.kp T.al.b .nil pass0 (pa_cons (pv 5) (pa_cons (pe_call T.lf.ok (hr.mono (by decide)) (by rfl) T.lf.g T.lf.kp T.lf.b .nil pass0 (pa_cons (pv 14) pa_nil)) pa_nil)))))))) (pss_one (ps_ret pe_bl)) pss_nil)
      (pss_cons (ps_if (pt_not (pt_val (pe_call T.al.ok (hr.mono (by decide)) (by rfl) T.al.g T.al.kp T.al.b .nil pass0 (pa_cons (pe_call T.to.ok (hr.mono (by decide)) (by rfl) T.to.g T.to.kp T.to.b .nil passL (pa_cons (pv 12) (pa_cons (pv 5) pa_nil))) (pa_cons (pe_call T.lt.ok (hr.mono (by decide)) (by rfl) T.lt.g T.lt.kp T.lt.b .nil pass0 (pa_cons (pv 12) (pa_cons (pv 5) (pa_cons (pe_tup pa_nil) pa_nil)))) pa_nil))))) (pss_one (ps_ret pe_bl)) pss_nil)
      (pss_cons (ps_if (PW.pt (pw_and (pt_cmpR (op_neD (hu64 hr)) (pv 4) (pe_tup pa_nil) (nomark _)) (pw_and1 (pt_cmpR (op_neD (hu64 hr)) (mk_lamcall (k := 42) (ps := []) (ds := fun _ => []) (bs := fun _ => []) (by rfl) T.wg T.wd.kp lkW hcW wb scWord rfl (.inl rfl) (word_gives (Am := Am) A T.er T.gl) TB O.code (hr.mono (by decide)) (lamP_by (N := NL) (sc := defScope sLaw) (by decide +kernel)) (by rfl) ev_lam0 (fun _ => bindL_0) (fun _ y hy => absurd hy List.not_mem_nil) (fun _ _ _ _ _ _ _ hq => pe_call T.fo.ok (hq.mono (by decide)) (by rfl) T.fo.g T.fo.kp T.fo.b .nil (passes_call (takes_of rfl rfl rfl rfl) fun _ _ _ _ h => h) (pa_cons (pv 13) pa_nil))) (pe_tup (pa_cons pe_str (pa_cons (pe_callB call_len_seq (by rfl) T.gl.len boot_len (pa_cons (pv 13) pa_nil)) pa_nil))) (nomark _))))) (pss_one (ps_ret pe_bl)) pss_nil)
      (pss_cons (ps_set (i := 7) scLaw.nd rfl (Or.inr rfl) (pe_call T.ta.ok (hr.mono (by decide)) (by rfl) T.ta.g T.ta.kp T.ta.b .nil pass0 (pa_cons (pv 1) (pa_cons (pe_op op_add (pe_callB call_len_seq (by rfl) T.gl.len boot_len (pa_cons (pv 14) pa_nil)) pe_int) pa_nil))))
      (pss_cons (ps_set (i := 11) scLaw.nd rfl (Or.inr rfl) (pe_call T.pi.ok (hr.mono (by decide)) (by rfl) T.pi.g T.pi.kp T.pi.b .nil pass0 (pa_cons (pv 1) (pa_cons (pe_op op_cat (pe_lst (pa_cons (pv 2) (pa_cons pe_non (pa_cons pe_bl (pa_cons pe_str (pa_cons (pe_op op_sub pe_int pe_int) pa_nil)))))) (pe_op op_rep (pe_lst (pa_cons (pe_op op_sub pe_int pe_int) pa_nil)) (pe_callTy call_int1 (by rfl) T.gl.int boot_int' (pa_cons (pe_cmpR (op_eqD (hu64 hr)) (pe_ix ix_tup (pe_call T.pa.ok (hr.mono (by decide)) (by rfl) T.pa.g T.pa.kp T.pa.b .nil pass0 (pa_cons (pe_slice sl_tupA (pv 14) po_none (po_some (pv 7))) pa_nil)) pe_int (fun _ _ => rfl)) (pe_tup pa_nil) (nomark _)) pa_nil)))) pa_nil))))
      (pss_cons (ps_if (pt_cmpR (op_neD (hu64 hr)) (mk_lamcall (k := 42) (ps := []) (ds := fun _ => []) (bs := fun _ => []) (by rfl) T.wg T.wd.kp lkW hcW wb scWord rfl (.inl rfl) (word_gives (Am := Am) A T.er T.gl) TB O.code (hr.mono (by decide)) (lamP_by (N := NL) (sc := defScope sLaw) (by decide +kernel)) (by rfl) ev_lam0 (fun _ => bindL_0) (fun _ y hy => absurd hy List.not_mem_nil) (fun _ _ _ _ _ _ _ hq => pe_call T.du.ok (hq.mono (by decide)) (by rfl) T.du.g T.du.kp T.du.b .nil (passes_call (takes_of rfl rfl rfl rfl) fun _ _ _ _ h => h) (pa_cons (pv 12) (pa_cons (pe_op (r := rCatA K) op_catA (pe_op (r := rCatA K) op_catA (pe_slice (r := rSlA K) sl_tupA (pv 14) po_none (po_some (pv 7))) (pe_tup (pa_cons (pv 11) pa_nil))) (pe_slice (r := rSlA K) sl_tupA (pv 14) (po_some (pv 7)) po_none)) pa_nil)))) (pe_tup (pa_cons pe_str (pa_cons (pv 7) pa_nil))) (nomark _)) (pss_one (ps_ret pe_bl)) pss_nil)
      (pss_cons (ps_set (i := 8) scLaw.nd rfl (Or.inr rfl) (pe_call T.pi.ok (hr.mono (by decide)) (by rfl) T.pi.g T.pi.kp T.pi.b .nil pass0 (pa_cons (pv 1) (pa_cons (pe_lst (pa_cons pe_non (pa_cons (pe_callTy call_list_of (by rfl) T.gl.list boot_list' (pa_cons (pv 14) pa_nil)) (pa_cons pe_str (pa_cons pe_int (pa_cons (pe_op op_repA (pe_tup (pa_cons pe_int pa_nil)) pe_int) pa_nil)))))) pa_nil))))
      (pss_cons (ps_if (pt_cmpR (op_neD (hu64 hr)) (pe_lst (pa_cons (mk_lamcall (k := 42) (ps := []) (ds := fun _ => []) (bs := fun _ => []) (by rfl) T.wg T.wd.kp lkW hcW wb scWord rfl (.inl rfl) (word_gives (Am := Am) A T.er T.gl) TB O.code (hr.mono (by decide)) (lamP_by (N := NL) (sc := defScope sLaw) (by decide +kernel)) (by rfl) ev_lam0 (fun _ => bindL_0) (fun _ y hy => absurd hy List.not_mem_nil) (fun _ _ _ _ _ _ _ hq => pe_call T.du.ok (hq.mono (by decide)) (by rfl) T.du.g T.du.kp T.du.b .nil (passes_call (takes_of rfl rfl rfl rfl) fun _ _ _ _ h => h) (pa_cons (pv 12) (pa_cons (pv 8) pa_nil)))) (pa_cons (mk_lamcall (k := 42) (ps := ["a"]) (ds := fun n => [.int 0 n]) (bs := fun n => [("a", .int 0 n)]) (by rfl) T.wg T.wd.kp lkW hcW wb scWord rfl (.inl rfl) (word_gives (Am := Am) A T.er T.gl) TB O.code (hr.mono (by decide)) (lamP_by (N := NL) (sc := defScope sLaw) (by decide +kernel)) (by rfl) ev_lam1 (fun _ => bindL_1) (fun _ y hy => by rw [List.mem_singleton.mp hy]; exact List.mem_singleton.mpr rfl) (fun _ _ _ _ _ _ _ hq => pe_call T.lo.ok (hq.mono (by decide)) (by rfl) T.lo.g T.lo.kp T.lo.b .nil (passes_call (takes_of rfl rfl rfl rfl) fun _ _ _ _ h => h) (pa_cons (pv 12) (pa_cons (pv 8) pa_nil)))) pa_nil))) (pe_op op_rep (pe_lst (pa_cons (pe_tup (pa_cons pe_str (pa_cons pe_non pa_nil))) pa_nil)) pe_int) (nomark _)) (pss_one (ps_ret pe_bl)) pss_nil)
      (pss_cons (ps_asg (pe_tup (pa_cons (pe_tup pa_nil) (pa_cons (pe_op op_add pe_int (pe_call T.ta.ok (hr.mono (by decide)) (by rfl) T.ta.g T.ta.kp T.ta.b .nil pass0 (pa_cons (pv 1) (pa_cons pe_int pa_nil)))) pa_nil))) (pg_tup (by rfl) (pgs_cons (pg_name (i := 9) scLaw.nd rfl (Or.inr rfl)) (pgs_cons (pg_name (i := 10) scLaw.nd rfl (Or.inr rfl)) pgs_nil))))
      (pss_cons (ps_for PassesOwn.never rfl (pi_range1 (by rfl) T.g2.rng (pa_cons (pv 10) pa_nil)) (pg_name (i := 6) scLaw.nd rfl (Or.inl rfl)) (pss_one (ps_set (i := 9) scLaw.nd rfl (Or.inr rfl) (pe_tup (pa_cons (pe_tup (pa_cons pe_int (pa_cons (pv 9) pa_nil))) pa_nil)))))
      (pss_cons (ps_if (pt_cmpR (op_neD (hu64 hr)) (mk_lamcall (k := 42) (ps := []) (ds := fun _ => []) (bs := fun _ => []) (by rfl) T.wg T.wd.kp lkW hcW wb scWord rfl (.inl rfl) (word_gives (Am := Am) A T.er T.gl) TB O.code (hr.mono (by decide)) (lamP_by (N := NL) (sc := defScope sLaw) (by decide +kernel)) (by rfl) ev_lam0 (fun _ => bindL_0) (fun _ y hy => absurd hy List.not_mem_nil) (fun _ _ _ _ _ _ _ hq => pe_call T.ro.ok (hq.mono (by decide)) (by rfl) T.ro.g T.ro.kp T.ro.b .nil (passes_call (takes_of rfl rfl rfl rfl) fun _ _ _ _ h => h) (pa_cons (pv 9) pa_nil))) (pe_ifExp (pt_cmpR op_lt (pv 10) pe_int (nomark _)) pe_str pe_str) (nomark _)) (pss_one (ps_ret pe_bl)) pss_nil)
      (pss_cons (ps_if (pt_cmpR (op_neD (hu64 hr)) (mk_lamcall (k := 42) (ps := []) (ds := fun _ => []) (bs := fun _ => []) (by rfl) T.wg T.wd.kp lkW hcW wb scWord rfl (.inl rfl) (word_gives (Am := Am) A T.er T.gl) TB O.code (hr.mono (by decide)) (lamP_by (N := NL) (sc := defScope sLaw) (by decide +kernel)) (by rfl) ev_lam0 (fun _ => bindL_0) (fun _ y hy => absurd hy List.not_mem_nil) (fun _ _ _ _ _ _ _ hq => pe_call T.fo.ok (hq.mono (by decide)) (by rfl) T.fo.g T.fo.kp T.fo.b .nil (passes_call (takes_of rfl rfl rfl rfl) fun _ _ _ _ h => h) (pa_cons (pe_op (r := rCatA K) op_catA (pe_op (r := rRepA K) op_repA (pe_tup (pa_cons pe_int pa_nil)) (pv 10)) (pe_op (r := rRepA K) op_repA (pe_tup (pa_cons (pe_op op_sub pe_int pe_int) pa_nil)) (pv 10))) pa_nil))) (pe_ifExp (pt_cmpR op_lt (pv 10) pe_int (nomark _)) pe_str (pe_tup (pa_cons pe_str (pa_cons pe_int pa_nil)))) (nomark _)) (pss_one (ps_ret pe_bl)) pss_nil)
      (pss_cons (ps_set (i := 11) scLaw.nd rfl (Or.inr rfl) (pe_lst (pa_cons pe_non (pa_cons (pe_lst pa_nil) (pa_cons (pe_tup (pa_cons pe_int pa_nil)) (pa_cons (pe_tup (pa_cons (pe_tup (pa_cons pe_int pa_nil)) pa_nil)) (pa_cons (pe_tup (pa_cons (pe_tup (pa_cons pe_int (pa_cons (pe_tup pa_nil) pa_nil))) pa_nil)) (pa_cons (pe_tup (pa_cons (pe_tup (pa_cons pe_int (pa_cons (pe_lst pa_nil) pa_nil))) pa_nil)) (pa_cons (pe_tup (pa_cons (pe_tup (pa_cons pe_bl (pa_cons (pe_tup pa_nil) pa_nil))) pa_nil)) (pa_cons (pe_tup (pa_cons (pe_tup (pa_cons pe_int (pa_cons (pe_tup pa_nil) (pa_cons (pe_tup pa_nil) pa_nil)))) pa_nil)) (pa_cons (pe_op op_repA (pe_tup (pa_cons (pe_tup (pa_cons pe_int (pa_cons (pe_tup pa_nil) pa_nil))) pa_nil)) pe_int) pa_nil)))))))))))
      (pss_cons (ps_set (i := 8) scLaw.nd rfl (Or.inr rfl) (pe_call T.pi.ok (hr.mono (by decide)) (by rfl) T.pi.g T.pi.kp T.pi.b .nil pass0 (pa_cons (pv 1) (pa_cons (pv 11) pa_nil))))
      (pss_one (ps_ret (pe_cmpR (op_eqD (hu64 hr)) (pe_lst (pa_cons (mk_lamcall (k := 42) (ps := []) (ds := fun _ => []) (bs := fun _ => []) (by rfl) T.wg T.wd.kp lkW hcW wb scWord rfl (.inl rfl) (word_gives (Am := Am) A T.er T.gl) TB O.code (hr.mono (by decide)) (lamP_by (N := NL) (sc := defScope sLaw) (by decide +kernel)) (by rfl) ev_lam0 (fun _ => bindL_0) (fun _ y hy => absurd hy List.not_mem_nil) (fun _ _ _ _ _ _ _ hq => pe_call T.ro.ok (hq.mono (by decide)) (by rfl) T.ro.g T.ro.kp T.ro.b .nil (passes_call (takes_of rfl rfl rfl rfl) fun _ _ _ _ h => h) (pa_cons (pv 8) pa_nil))) (pa_cons (mk_lamcall (k := 42) (ps := ["a"]) (ds := fun n => [.int 0 n]) (bs := fun n => [("a", .int 0 n)]) (by rfl) T.wg T.wd.kp lkW hcW wb scWord rfl (.inl rfl) (word_gives (Am := Am) A T.er T.gl) TB O.code (hr.mono (by decide)) (lamP_by (N := NL) (sc := defScope sLaw) (by decide +kernel)) (by rfl) ev_lam1 (fun _ => bindL_1) (fun _ y hy => by rw [List.mem_singleton.mp hy]; exact List.mem_singleton.mpr rfl) (fun _ _ _ _ _ _ _ hq => pe_call T.to.ok (hq.mono (by decide)) (by rfl) T.to.g T.to.kp T.to.b .nil (passes_call (takes_of rfl rfl rfl rfl) fun _ _ _ _ h => h) (pa_cons (pv 12) (pa_cons (pv 8) pa_nil)))) pa_nil))) (pe_op op_rep (pe_lst (pa_cons pe_str pa_nil)) pe_int) (nomark _)))))))))))))))))))))))))), ?_⟩
    refine c_seq (c_set (c_lst (va_cons (v_var rfl) (va_cons v_c (va_cons v_c (va_cons v_c va_nil)))) (sz (by show 4 ≤ _; decide)) fun r hr0 => ?_))
    have ra1 : RowAt K (upd H r (.lst [.ref sa, .int 0, .int 25582, .int 0])) r sa := ⟨ns, 0, 25582, 0, upd_same, SqA.xr (XR.of (ExtN.new hr0)) (SqA.of hs hr0), Int.le_refl _⟩
    have a1 : Am (upd H r (.lst [.ref sa, .int 0, .int 25582, .int 0])) := A.new hA hr0
    dsimp only
    generalize (upd H r (.lst [.ref sa, .int 0, .int 25582, .int 0])) = H1 at ra1 a1
    refine c_seq (c_set (c_callv (va_cons (v_var rfl) (va_cons v_c (va_cons v_c va_nil))) ⟨r, sa, 5, 3, rfl, ra1, by decide, by decide, by decide, by decide, a1, fun rows ans n vq H2 qok rl nl sr2 imq => ?_⟩))
    dsimp only
    have ra2 := sr2.ra
    have a2 := sr2.am
    have n1 := qok.n1
    have n3 := qok.n3
    have ckq : ckQ (QD rows ans) = none := ckQ_of qok
    have nmq : namesD (QD rows ans) = n := namesD_of qok
    obtain ⟨aq, as, aa, xs, rfl, q1, q2, q3, q4⟩ := im_qd imq
    obtain ⟨b0, hb0, hb0x⟩ := imL_row q3 (i := 0) qok.s1
    have hlen0 : ((rows.getD 0 []).map V.int).length = n := by rw [List.length_map]; exact getD_len qok qok.s1
    refine c_seq (c_set (c_v (v_len (v_ixT (v_ixT (v_var rfl) v_c q1 (atI_nat (j := 0) rfl)) v_c q2 (atI_nat (j := 0) hb0)) (.inr hb0x)) ?_))
    rw [hlen0]
    dsimp only
    refine c_seq (c_set (c_callv (va_cons (v_var rfl) (va_cons (v_var rfl) (va_cons v_c va_nil))) ⟨r, sa, n, 24, rfl, ra2, by omega, by omega, by decide, by decide, a2, fun is vt H3 ok il x3 ra3 a3 imt => ?_⟩))
    dsimp only
    have imq3 := imq.xr ra2 x3 (noL_qd _ _)
    refine c_seq (c_asg (c_callv (va_cons (v_var rfl) va_nil) ⟨is, n, vt, rfl, imt, ok, by omega, a3, fun vp H4 e4 a4 imp => ?_⟩))
    have ra4 := ra3.ext e4
    have imq4 := imq3.mono (ExtN.ee e4)
    have imt4 := imt.mono (ExtN.ee e4)
    obtain ⟨ap, xp, rfl, hxp, hlp⟩ := im_tup' imp
    obtain ⟨vw, xp, rfl, imw, hlp2⟩ := imL_tup1 hlp
    obtain ⟨vl, xp, rfl, iml, hlp3⟩ := imL_tup1 hlp2
    obtain rfl : xp = [] := by unfold ImL at hlp3; exact hlp3
    obtain ⟨lw, xw, rfl, hw1, hw2⟩ := (show ∃ a xs, vw = .ref a ∧ SqL K H4 a xs ∧ ImL K H4 ((waysGo is []).map RD) xs by unfold Im at imw; exact imw)
    refine ⟨ap, _, rfl, hxp, rfl, _, _, rfl, _, _, rfl, rfl, ?_⟩
    dsimp only
    have ckr : ckRow (namesD (QD rows ans) : Int) (RD is) = none := by rw [nmq]; exact ckRow_good (by omega) ok (by omega)
    have due : dueGo rows ans is [0] [] = (waysGo is []).map (ansW rows ans) := by
      have z := due_ways (rows := rows) (ans := ans) (is := is) (l := []) (due := []) ok
      rw [pileOf_nil] at z
      exact z
    have wl := waysGo_len is []
    have wrg := ways_rng (is := is) (l := []) ok (fun t h => absurd h List.not_mem_nil)
    refine c_seq (c_if (c_not (c_B (c_call (c_cons (c_cons (c_callv (va_cons (v_var rfl) (va_cons (v_var rfl) va_nil)) ⟨QD rows ans, RD is, _, vt, rfl, imq4, imt4, a4, (fun p hp => by rw [ckq] at hp; cases hp), fun _ => ⟨(fun p hp => by rw [ckr] at hp; cases hp), fun is1 ei _ _ v5 H5 e5 a5 im5 => ?_⟩⟩)))))))
    obtain rfl := rd_inj ei
    refine c_cons (c_callv (va_cons (v_var rfl) (va_cons (v_var rfl) va_nil)) ⟨QD rows ans, RD is, _, vt, rfl, imq4.mono (ExtN.ee e5), imt4.mono (ExtN.ee e5), a5, (fun p hp => by rw [ckq] at hp; cases hp), fun _ => ⟨(fun p hp => by rw [ckr] at hp; cases hp), fun is2 rows2 ans2 ei2 _ _ eq2 v6 H6 e6 a6 im6 => ?_⟩⟩)
    obtain rfl := rd_inj ei2
    obtain ⟨rfl, rfl⟩ := qd_inj eq2
    rw [due] at im6
    refine ⟨sz (by show 2 ≤ _; decide), fun lA hlA => ?_⟩
    have e7 : ExtN H4 (upd H6 lA (.lst [v5, v6])) := LamX.ExtN.trans e5 (LamX.ExtN.trans e6 (ExtN.new hlA))
    have a7 : Am (upd H6 lA (.lst [v5, v6])) := A.new a6 hlA
    have im5' : Im K (upd H6 lA (.lst [v5, v6])) (RD (pileGo is [])) v5 := im5.mono (ExtN.ee (LamX.ExtN.trans e6 (ExtN.new hlA)))
    have im6' : Im K (upd H6 lA (.lst [v5, v6])) (RD ((waysGo is []).map (ansW rows ans))) v6 := im6.mono (ExtN.ee (ExtN.new hlA))
    have hA7 : (upd H6 lA (.lst [v5, v6])) lA = some (.lst [v5, v6]) := upd_same
    generalize (upd H6 lA (.lst [v5, v6])) = H7 at e7 a7 im5' im6' hA7
    refine c_cons (c_cons (c_var rfl (c_cons ?_)))
    refine c_lcL (v_var rfl) ((ExtN.ee e7).l _ _ hw1) (fun _ => rfl) (fun D i H' => ExtN H7 H' ∧ Am H' ∧ H' D = some (.lst ((((waysGo is []).take i).map (ansW rows ans)).map .int)))
      (fun D hD => ⟨ExtN.new hD, A.new a7 hD, upd_same⟩) (fun D i H' hD p => (ExtN.ee (LamX.ExtN.trans e7 p.1)).l _ _ hw1) (fun D i x H' hD hx ⟨e8, a8, h8⟩ => ?_) (fun D H' hD ⟨e8, a8, h8⟩ => ?_)
    · obtain ⟨dx, hdx, imx⟩ := hw2.get hx
      rw [List.getElem?_map] at hdx
      cases hwi : (waysGo is [])[i]? with
      | none => rw [hwi] at hdx; cases hdx
      | some w1 =>
        rw [hwi] at hdx
        cases hdx
        have e78 := LamX.ExtN.trans e7 e8
        refine c_callv (va_cons (v_var rfl) (va_cons (v_var rfl) va_nil)) ⟨rows, ans, n, w1, _, x, rfl, imq4.mono (ExtN.ee e78), qok, imx.mono (ExtN.ee e78), fun t ht => ?_, _, h8, ?_, ExtN.mut e8 hD, A.lst a8 h8, ?_⟩
        · have := wrg w1 (List.mem_of_getElem? hwi) t ht
          omega
        · rw [List.length_map, List.length_map, List.length_take, sizeLine_eq]
          omega
        · rw [upd_same, List.take_add_one, hwi, List.map_append, List.map_append]
          rfl
    · rw [hw2.length, List.length_map, List.take_length] at h8
      refine .inl ⟨D, _, rfl, SqL.of h8, fun tp htp => ⟨sz (by show 2 ≤ _; decide), fun lB hlB => ?_⟩⟩
      have e9 : ExtN H7 (upd (upd H' tp (.tup (((waysGo is []).map (ansW rows ans)).map .int))) lB (.lst [vl, .ref tp])) := LamX.ExtN.trans e8 (LamX.ExtN.trans (ExtN.new htp) (ExtN.new hlB))
      have a9 : Am (upd (upd H' tp (.tup (((waysGo is []).map (ansW rows ans)).map .int))) lB (.lst [vl, .ref tp])) := A.new (A.new a8 htp) hlB
      have imtp : Im K (upd (upd H' tp (.tup (((waysGo is []).map (ansW rows ans)).map .int))) lB (.lst [vl, .ref tp])) (RD ((waysGo is []).map (ansW rows ans))) (.ref tp) := (im_rd_of (.inl (.inl upd_same)) : Im K (upd H' tp (.tup (((waysGo is []).map (ansW rows ans)).map .int))) _ _).mono (ExtN.ee (ExtN.new hlB))
      have hB9 : (upd (upd H' tp (.tup (((waysGo is []).map (ansW rows ans)).map .int))) lB (.lst [vl, .ref tp])) lB = some (.lst [vl, .ref tp]) := upd_same
      generalize (upd (upd H' tp (.tup (((waysGo is []).map (ansW rows ans)).map .int))) lB (.lst [vl, .ref tp])) = H9 at e9 a9 imtp hB9
      have pil : (pileGo is []).length ≤ 24 := by
        have := pileGo_len (p := []) ok
        simp only [List.length_nil] at this
        omega
      refine ⟨.lst [RD (pileGo is []), RD ((waysGo is []).map (ansW rows ans))], .ref lA, .ref lB, rfl, ?_, ?_, ?_, ?_, a9, fun HA eA aA => ⟨_, rfl, iteF (c_next ?_)⟩⟩
      · unfold Im
        exact ⟨lA, _, rfl, SqL.of (e9 _ _ hA7 fun ps z => by cases z), imL_cons (im5'.mono (ExtN.ee e9)) (imL_cons (im6'.mono (ExtN.ee e9)) imL_nil)⟩
      · unfold Im
        exact ⟨lB, _, rfl, SqL.of hB9, imL_cons (iml.mono (ExtN.ee (LamX.ExtN.trans e7 e9))) (imL_cons imtp imL_nil)⟩
      · unfold pln
        refine ⟨by show 2 ≤ _; decide, ?_⟩
        unfold plnL
        refine ⟨pln_rd (by omega), ?_⟩
        unfold plnL
        refine ⟨pln_rd (by rw [List.length_map]; omega), ?_⟩
        unfold plnL
        exact True.intro
      · unfold dp
        unfold dpL
        rw [dp_rd]
        unfold dpL
        rw [dp_rd]
        unfold dpL
        decide
      · dsimp only
        have e10 := LamX.ExtN.trans e7 (LamX.ExtN.trans e9 eA)
        have ra10 := ra4.ext e10
        have imq10 := imq4.mono (ExtN.ee e10)
        have imt10 := imt4.mono (ExtN.ee e10)
        have iml10 := iml.mono (ExtN.ee e10)
        obtain ⟨al, rfl, hxl⟩ := im_rd iml10
        have opn : (pileGo is []).length = openN is 0 := pile_open (p := []) ok
        refine c_seq (c_set (c_op (c_var rfl (c_op (c_tup (va_cons (v_sub v_c v_c) va_nil) (sz (by show 1 ≤ _; decide)) fun p hp => v_len (v_var rfl) (.inr ((ExtN.ee (ExtN.new hp)).t _ _ hxl)) _ ?_)))))
        rw [List.length_map, opn]
        refine c_repG A (A.new aA hp) (d := .int (-1)) (im_tup (.inl (.inl upd_same)) (imL_cons im_int imL_nil)) (by omega) fun v2 HB eB aB imB => ?_
        refine c_catG A aB (imt10.mono (ExtN.ee (LamX.ExtN.trans (ExtN.new hp) eB))) imB (by rw [List.length_map, List.length_replicate]; omega) fun vwh HC eC aC imwh => ?_
        have e13 := LamX.ExtN.trans e10 (LamX.ExtN.trans (ExtN.new hp) (LamX.ExtN.trans eB eC))
        have whE : is.map Mk.D.int ++ List.replicate (openN is 0) (Mk.D.int (-1)) = (is ++ List.replicate (openN is 0) (-1)).map Mk.D.int := by rw [List.map_append, List.map_replicate]
        rw [whE] at imwh
        have okn : RowOk n (is ++ List.replicate (openN is 0) (-1)) 0 := rowOk_closed _ ok (Nat.le_refl _)
        have okw : RowOk 3 (is ++ List.replicate (openN is 0) (-1)) 0 := rowOk_mono (by omega) okn
        have opl := openN_le is 0
        have opw : openN (is ++ List.replicate (openN is 0) (-1)) 0 = 0 := by rw [openN_app, openN_rep]; omega
        have whl : (is ++ List.replicate (openN is 0) (-1)).length ≤ 48 := by rw [List.length_append, List.length_replicate]; omega
        have docw : docGo (is ++ List.replicate (openN is 0) (-1)) ((0 : Nat) : Int) 0 = none := doc_ok 0 okw opw (by omega) fun i _ => by have := openN_take is (openN is 0) i; omega
        have otk := openN_take is (openN is 0)
        generalize hwh : is ++ List.replicate (openN is 0) (-1) = wh at imwh okn okw opw whl docw otk
        dsimp only
        refine c_seq (c_set (c_callv (va_cons (v_var rfl) va_nil) ⟨RD wh, vwh, rfl, imwh, aC, (fun p hp => by rw [ckRow_good (by decide) okw (by omega)] at hp; cases hp), fun _ is3 ei3 => ⟨(fun p hp => by rw [← rd_inj ei3] at hp; rw [show docGo wh 0 0 = none from docw] at hp; cases hp), fun _ fo hfo fn vf HD eD aD imf => ?_⟩⟩))
        have ei3 := rd_inj ei3
        subst ei3
        subst hfo
        have frl := Fo.row_len fo
        have fds := Fo.depth_size fo
        have fsz : fo.size ≤ 24 := by omega
        have fnn : fo.names n := (names_row fo (rest := []) fn (by rw [List.append_nil]; exact okn)).1
        have is3 : isFor 3 fo.d = true := by rw [Fo.isFor_eq fn (by omega)]; exact decide_eq_true (by omega)
        have isn : isFor n fo.d = true := by rw [Fo.isFor_eq fnn (by omega)]; exact decide_eq_true (by omega)
        have dfo := dp_fo fo
        have imwD := imwh.mono (ExtN.ee eD)
        dsimp only
        refine c_seq (c_if (c_or (c_not (c_B (c_call (c_cons (c_callv (va_cons (v_var rfl) va_nil) ⟨fo.d, vf, rfl, imf, aD, .inr ⟨fo, rfl, is3, by omega, by omega, fun v1 HE eE aE im1 => c_cons (c_var rfl ⟨RD fo.row, v1, vwh, rfl, im1, imwD.mono (ExtN.ee eE), pln_rd (by omega), by rw [dp_rd]; decide, aE, fun HF eF aF => ⟨_, rfl, iteF ?_⟩⟩)⟩⟩)))))))
        have eDF := LamX.ExtN.trans eE eF
        refine c_not (c_B (c_call (c_cons (c_var rfl (c_cons (c_callv (va_cons (v_var rfl) va_nil) ⟨fo, 3, vwh, rfl, imwD.mono (ExtN.ee eDF), fn, by omega, by omega, aF, fun v2 HG eG aG im2 => c_nil ⟨fo.d, vf, v2, rfl, imf.mono (ExtN.ee (LamX.ExtN.trans eDF eG)), im2, pln_fo (by omega), by omega, aG, fun HI eI aI => ⟨_, rfl, iteF (c_next ?_)⟩⟩⟩))))))
        dsimp only
        have eT : ExtN H4 HI := LamX.ExtN.trans e13 (LamX.ExtN.trans eD (LamX.ExtN.trans eDF (LamX.ExtN.trans eG eI)))
        have raI := ra4.ext eT
        have imqI := imq4.mono (ExtN.ee eT)
        have imtI := imt4.mono (ExtN.ee eT)
        have imlI := iml.mono (ExtN.ee eT)
        have imwI := imwD.mono (ExtN.ee (LamX.ExtN.trans eDF (LamX.ExtN.trans eG eI)))
        have imfI := imf.mono (ExtN.ee (LamX.ExtN.trans eDF (LamX.ExtN.trans eG eI)))
        have dtl := dpL_told rows ans 0 fo
        have ptl : pln (.tup (toldL rows ans 0 fo)) := by
          unfold pln
          exact ⟨by rw [told_len]; have := Fo.len_size fo; omega, plnL_told rows ans 0 fo (by omega)⟩
        have dtt : dp (.tup (toldL rows ans 0 fo)) < 60 := by
          unfold dp
          omega
        refine c_seq (c_if (c_not (c_B (c_call (c_cons (c_callv (va_cons (v_var rfl) (va_cons (v_var rfl) va_nil)) ⟨QD rows ans, fo.d, _, vf, rfl, imqI, imfI, aI, (fun p hp => by rw [ckq] at hp; cases hp), fun _ => .inr ⟨fo, rows, ans, rfl, rfl, by rw [nmq]; exact isn, by rw [nmq]; exact fnn, by omega, by omega, fun v3 HJ eJ aJ im3 => ?_⟩⟩))))))
        refine c_cons (c_call (c_cons (c_var rfl (c_cons (c_var rfl (c_cons (c_tup va_nil (Nat.zero_le _) fun pe hpe => c_nil ⟨rows, ans, n, fo, [], _, vf, .ref pe, rfl, imqI.mono (ExtN.ee (LamX.ExtN.trans eJ (ExtN.new hpe))), qok, imfI.mono (ExtN.ee (LamX.ExtN.trans eJ (ExtN.new hpe))), im_rd_of (.inl (.inl upd_same)), (fun t ht => absurd ht List.not_mem_nil), by decide, fnn, by omega, by omega, A.new aJ hpe, fun v4 HK eK aK im4 => c_nil ⟨.tup (toldL rows ans 0 fo), v3, v4, rfl, im3.mono (ExtN.ee (LamX.ExtN.trans (ExtN.new hpe) eK)), im4, ptl, dtt, aK, fun HL eL aL => ⟨_, rfl, iteF (c_next ?_)⟩⟩⟩)))))))
        dsimp only
        have eL2 : ExtN HI HL := LamX.ExtN.trans eJ (LamX.ExtN.trans (LamX.ExtN.trans (ExtN.new hpe) eK) eL)
        refine c_seq (c_if (c_openT A hAT hAG aL rfl rfl (imtI.mono (ExtN.ee eL2)) (imlI.mono (ExtN.ee eL2)) (rowOk_mono (by omega) ok) (by omega) fun HM eM aM => ?_))
        refine iteF (c_next ?_)
        dsimp only
        have eM2 := LamX.ExtN.trans eL2 eM
        have raM := raI.ext eM2
        have imqM := imqI.mono (ExtN.ee eM2)
        have imwM := imwI.mono (ExtN.ee eM2)
        obtain ⟨awh, rfl, hxw⟩ := im_rd imwM
        refine c_seq (c_set (c_callv (va_cons (v_var rfl) (va_cons (v_add (v_len (v_var rfl) (.inr hxw)) v_c) va_nil)) ⟨r, sa, _, rfl, raM, by omega, by rw [List.length_map]; omega, aM, fun att HN at0 at1 xN raN aN => ?_⟩))
        rw [List.length_map] at at1
        have imqN := imqM.xr raM xN (noL_qd _ _)
        have imwN := imwM.xr raM xN (noL_rd _)
        obtain ⟨at', rfl⟩ : ∃ m : Nat, att = (m : Int) := ⟨att.toNat, by omega⟩
        have atl : at' ≤ fo.row.length := by omega
        dsimp only
        obtain ⟨ysr, hrN⟩ := raN.lst
        refine c_seq (c_set (c_call (c_cons (c_var rfl (c_cons (c_oddList (n := n) (k := at') A aN rfl rfl rfl imwN atl n1 okn (by omega) fun lo xo HO eO aO hlo nlo x1 x2 oo => c_nil ⟨r, sa, lo, xo, rfl, raN.ext eO, SqL.of hlo, nlo r ysr hrN, x1, x2, aO, fun j vo HP hj xP raP aP => ?_⟩))))))
        obtain ⟨dO, nO, imO, bO⟩ := oo j vo hj
        have raO := raN.ext eO
        have imqP := (imqN.mono (ExtN.ee eO)).xr raO xP (noL_qd _ _)
        have imwP := (imwN.mono (ExtN.ee eO)).xr raO xP (noL_rd _)
        dsimp only
        refine c_seq (c_if (c_oddT (n := n) (k := at') A hAT hAG aP qok rfl rfl rfl rfl imqP imwP atl (by omega) imO (row_odd (by omega) okn atl (by omega) bO) fun HR eR aR => iteF (c_next ?_)))
        have raR := raP.ext eR
        have imqR := imqP.mono (ExtN.ee eR)
        have imwR := imwP.mono (ExtN.ee eR)
        dsimp only
        obtain ⟨ysR, hrR⟩ := raR.lst
        refine c_seq (c_set (c_call (c_cons (c_var rfl (c_cons (c_badList (n := (n : Int)) A aR rfl imwR fun lb xb HS eS aS hlb nlb xl5 bo => c_nil ⟨r, sa, lb, xb, rfl, raR.ext eS, SqL.of hlb, nlb r ysR hrR, by omega, by omega, aS, fun jb vb HT hjb xT raT aT => ?_⟩))))))
        obtain ⟨dB, cB, imB⟩ := bo jb vb hjb
        have imBT := imB r ysR hrR HT xT
        have raS := raR.ext eS
        have imqT := (imqR.mono (ExtN.ee eS)).xr raS xT (noL_qd _ _)
        dsimp only
        refine c_seq (c_if (c_badT (n := n) A hAT hAG aT qok rfl rfl imqT imBT cB fun HU eU aU => iteF (c_next ?_)))
        have raU := raT.ext eU
        have imqU := imqT.mono (ExtN.ee eU)
        dsimp only
        exact law_tail A hAT hAG aU ckq (by rw [nmq]; exact n3) raU imqU rfl rfl (by show 12 < NL.length; decide) q
end
end Mk

/-! ### MkFin -/
set_option Elab.async false
set_option linter.all false
set_option maxRecDepth 100000
set_option maxHeartbeats 8000000
namespace Mk
open PySem PySem.Spec PyProof.Rows L2
open GxR (TabG Tabbed)
open LamX (TabS)
/-! ### what is asked of the heap behind the top -/
def errN : List Str := ["MarkError", "BadQuestion", "BadReader", "BadRow", "BadText", "TooMany", "BadManner", "BadPath", "BadForest", "BadNumber", "BadWord", "BadTrap", "BadStep", "BadLine"]
def defN : List (Nat × Str) := [(19, "is_number"), (20, "is_tuple_of"), (21, "are_numbers"), (22, "are_steps"), (23, "check_question"), (24, "names_of"), (29, "check_row"), (30, "check_document"), (31, "left_open"), (32, "answers_due"), (33, "is_mark"), (34, "is_forest"), (35, "check_forest"), (36, "tags_of"),
  (37, "row_of"), (38, "forest_of"), (39, "told_below"), (40, "told_forest"), (42, "_law_taken"), (43, "_law_pick"), (44, "_law_alike"), (45, "_law_question"), (46, "_law_led"), (47, "_law_answer"), (48, "_law_tags"), (49, "_law_paths"), (50, "_law_word"), (51, "_law_forest"), (52, "_law_told_forest"), (53, "law")]
def freeN : List Str := ["isinstance", "int", "bool", "tuple", "list", "len", "all", "enumerate", "range", "str"]
def intN : List (Str × Int) := [("MOST_STATES", 6), ("MOST_NAMES", 3), ("MOST_LENGTH", 2000), ("CLOSING", -1), ("MOST_WITHIN", 40), ("MOST_MARKS", 1000)]
def fas : List He.Fa := errN.map .glo ++ (defN.map (fun p => .glo p.2) ++ (freeN.map .free ++ (intN.map (fun p => .int p.1 p.2) ++ [.meth "BadQuestion" "__init__", .meth "BadRow" "__init__", .exc "BadForest"])))
def mkD (p : Nat × Str) : He.DefD := ⟨(p.2, none), p.2, p.2, defArgs (top p.1), defBody (top p.1), defScope (top p.1), [], []⟩
def dQ : He.DefD := ⟨("BadQuestion", some "__init__"), "__init__", "BadQuestion.__init__", defArgs sInitQ, defBody sInitQ, defScope sInitQ, [], []⟩
def dR : He.DefD := ⟨("BadRow", some "__init__"), "__init__", "BadRow.__init__", defArgs sInitR, defBody sInitR, defScope sInitR, [], []⟩
def fns : List He.DefD := defN.map mkD ++ [dQ, dR]
def tfs : List He.Defn := [("law", none), ("are_numbers", none), ("are_steps", none), ("is_forest", none)]
/-! the classes of errors -/
def oexB (K : PySem.W.Frag) (C : Addr) : Bool := (match K.lookup C with
  | some ⟨.type t, _, .cls cd, sl⟩ => (match cd.mro, sl.toList with
    | .ref C' :: bm, [_, _, _, _, some (.builtin n), _] => decide (t = "type") && (C' == C && (decide (n = "ValueError.__new__") && (!cd.hasDel && (cd.hasDict && PySem.HandSPX.refsVE bm))))
    | _, _ => false)
  | _ => false) && (He.eqO (PySem.W.findIn K (.ref C) "__setattr__") (some (some (.builtin "object.__setattr__"))) && (decide (PySem.W.subIn K (.ref C) (.type "BaseException") = some true) && (decide (PySem.W.typeIn K (.ref C) = some (.type "type")) && PySem.W.keepIn K (.ref C))))
theorem oexB_ok {K : PySem.W.Frag} {C : Addr} (h : oexB K C = true) : OexC K C := by
  obtain ⟨h1, h⟩ := He.ba h
  obtain ⟨h2, h⟩ := He.ba h
  obtain ⟨h3, h⟩ := He.ba h
  obtain ⟨h4, h5⟩ := He.ba h
  refine ⟨?_, He.eqO_ok h2, of_decide_eq_true h3, of_decide_eq_true h4, h5⟩
  split at h1
  · rename_i t dd cd sl hk
    split at h1
    · rename_i C' bm k0 k1 k2 k3 n k5 hm hs
      obtain ⟨a0, h1⟩ := He.ba h1
      obtain ⟨a1, h1⟩ := He.ba h1
      obtain ⟨a2, h1⟩ := He.ba h1
      obtain ⟨a3, h1⟩ := He.ba h1
      obtain ⟨a4, a5⟩ := He.ba h1
      have e0 := of_decide_eq_true a0
      have e1 : C' = C := eq_of_beq a1
      have e2 := of_decide_eq_true a2
      subst e0 e1 e2
      obtain ⟨nm, bs, mro, ns, qn, hd, sn, sub, ab, col, del⟩ := cd
      dsimp only at hm a3 a4
      subst hm a4
      have e3 : del = false := by cases del <;> simp_all
      subst e3
      have hsl : sl = #[k0, k1, k2, k3, some (.builtin "ValueError.__new__"), k5] := by
        obtain ⟨l⟩ := sl
        simp only at hs
        rw [hs]
      subst hsl
      exact ⟨nm, qn, ns, bs, bm, sn, sub, ab, col, dd, k0, k1, k2, k3, k5, hk, a5⟩
    · cases h1
  · cases h1
def excB (K : PySem.W.Frag) (D : Addr) : Bool := He.eqO (PySem.W.findIn K (.ref D) "__getattribute__") (some (some (.builtin "BaseException.__getattribute__"))) && (He.eqO (PySem.W.findIn K (.ref D) "__getattr__") (some none) && (decide (PySem.W.subIn K (.ref D) (.type "BaseException") = some true) && (PySem.W.hasDictIn K D &&
  (He.eqO (PySem.W.findIn K (.ref D) "__class__") (some (some (.builtin "object.__class__"))) && (He.eqO (PySem.W.specialIn K (.builtin "object.__class__") "__get__") (some (some (.builtin "getset_descriptor.__get__"))) && (decide (PySem.W.takesIn K (.builtin "object.__class__") = some true) && decide (PySem.W.mroIn K D (.type "object") = some true)))))))
theorem excB_ok {K : PySem.W.Frag} {C : Addr} (h : excB K C = true) : ExcC K C := by
  obtain ⟨h1, h⟩ := He.ba h
  obtain ⟨h2, h⟩ := He.ba h
  obtain ⟨h3, h⟩ := He.ba h
  obtain ⟨h4, h⟩ := He.ba h
  obtain ⟨h5, h⟩ := He.ba h
  obtain ⟨h6, h⟩ := He.ba h
  obtain ⟨h7, h8⟩ := He.ba h
  exact ⟨He.eqO_ok h1, He.eqO_ok h2, of_decide_eq_true h3, h4, He.eqO_ok h5, He.eqO_ok h6, of_decide_eq_true h7, of_decide_eq_true h8⟩
/-- the class that the i-th error's name stands for -/
def cE (K : PySem.W.Frag) (i : Nat) : Addr := He.ga K (errN.getD i "")
/-- isinstance's table for the class i -/
def isB (K : PySem.W.Frag) (i : Nat) : Bool := excB K (cE K i) && ((PySem.W.clsIn K (cE K i)).isSome && (decide (PySem.W.exmOne K (.ref (cE K i)) (.ref (cE K 0)) = some true) && ((List.range 14).all fun j => decide (j = 0) || decide (PySem.W.kitOne K (.ref (cE K i)) (.ref (cE K j)) = some (decide (i = j))))))
def xfF (K : PySem.W.Frag) (i : Nat) (f : Str) : Bool := xfB K (cE K i) && He.eqO (PySem.W.findIn K (.ref (cE K i)) f) (some none)
def baseB (K : PySem.W.Frag) : Bool := PySem.W.readsIn K (cE K 0) (.type "type") && (He.eqO (PySem.W.specialIn K (.ref (cE K 0)) "__getattribute__") (some (some (.builtin "type.__getattribute__"))) && (match PySem.W.findCls K (.ref (cE K 0)) (.type "type") "__init__" with
  | some (.val (.builtin n)) => decide (n = "ValueError.__init__")
  | _ => false))
def exB (K : PySem.W.Frag) : Bool := oexB K (cE K 1) && (oexB K (cE K 3) && (isB K 3 && (isB K 8 && (xfF K 1 "part" && (xfF K 3 "place" && (xfF K 5 "most" && (baseB K && (decide ((He.cT K ("law", none)).2 ≠ (He.cT K ("are_numbers", none)).2) && (decide ((He.cT K ("law", none)).2 ≠ (He.cT K ("are_steps", none)).2) && decide ((He.cT K ("law", none)).2 ≠ (He.cT K ("is_forest", none)).2))))))))))
/-! ### what the law's tables keep -/
def AmL (G : List Addr) (TP : Addr) : Hp → Prop := fun H => (∀ T ∈ G, TabG H T) ∧ TabS H TP qL
theorem amL_ok {G : List Addr} {TP : Addr} (h : TP ∉ G) : AmOk (AmL G TP) G := by
  have ts : ∀ {H H' : Hp} {T : Addr}, TabG H T → T ≠ TP → Tabbed T H H' → TabS H TP qL → TabS H' TP qL := fun {H H' T} hT n t ⟨ps, e, tr, c⟩ => by
    refine ⟨ps, by rw [t.2 _ (Ne.symm n)]; exact e, tr, fun pos cv q => ?_⟩
    obtain ⟨c', rfl, hc⟩ := c pos cv q
    refine ⟨c', rfl, ?_⟩
    rw [t.2 c' fun z => ?_]
    · exact hc
    · obtain ⟨ps2, e2, _⟩ := hT
      rw [z, e2] at hc
      cases hc
  refine ⟨fun hT a => a.1 _ hT, fun {T H H'} hT a t => ⟨fun U hU => ?_, ts (a.1 _ hT) (fun z => h (z ▸ hT)) t a.2⟩, fun {H H'} a k => ⟨fun U hU => ?_, ?_⟩⟩
  · by_cases e : U = T
    · subst e
      exact t.1
    · obtain ⟨ps, e2, tr⟩ := a.1 _ hU
      exact ⟨ps, by rw [t.2 _ e]; exact e2, tr⟩
  · obtain ⟨ps, e2, tr⟩ := a.1 _ hU
    exact ⟨ps, k _ _ e2 (fun xs z => by cases z), tr⟩
  · obtain ⟨ps, e, tr, c⟩ := a.2
    refine ⟨ps, k _ _ e (fun xs z => by cases z), tr, fun pos cv q => ?_⟩
    obtain ⟨c', rfl, hc⟩ := c pos cv q
    exact ⟨c', rfl, k _ _ hc (fun xs z => by cases z)⟩
theorem amL_grow {G : List Addr} {TP : Addr} (h : TP ∉ G) (H H1 : Hp) (a : AmL G TP H) (g : GrowT TP H H1) (t : TabS H1 TP qL) : AmL G TP H1 := ⟨fun U hU => by
  obtain ⟨ps, e2, tr⟩ := a.1 _ hU
  exact ⟨ps, g _ _ (fun z => h (z ▸ hU)) e2, tr⟩, t⟩
theorem amL_start {G : List Addr} {TP : Addr} {H : Hp} (h : ∀ T ∈ TP :: G, H T = some (.tbl #[])) : AmL G TP H := by
  refine ⟨fun T hT => ⟨#[], h T (List.mem_cons_of_mem _ hT), ?_⟩, #[], h TP List.mem_cons_self, ?_, fun pos cv q => ?_⟩
  · first | exact True.intro | (unfold TriplesOk; simp) | exact .nil
  · first | exact True.intro | (unfold TriplesOk; simp) | exact .nil
  · cases q
end Mk

/-! ### MkRun -/
set_option Elab.async false
set_option linter.all false
set_option maxRecDepth 100000
set_option maxHeartbeats 0
namespace Mk
open PySem PySem.Spec PyProof.Rows L2
abbrev RR : PySem.W.OpenRow := PySem.W.OpenLaw.row PySem.Challenge.rw_markspass_k02_whole_rows
/-! the Hook: as the library's, the cells of the statics looked at as well -/
def reach (g : Addr → Option Obj) : List Addr := PySem.cStatics :: He.asD g 5
def obY (g : Addr → Option Obj) : He.AlX :=
  let F := He.frT g (reach g)
  ((He.obsD fas fns F, []), exB F && He.tabsB g tfs F)
theorem obY_says {w : World} {h : Heap} (e : obY h.get? = He.valX fns [] w) : He.SaysX fas fns [] tfs exB w h (He.frT h.get? (reach h.get?)) := by
  have q : (exB (He.frT h.get? (reach h.get?)) && He.tabsB h.get? tfs (He.frT h.get? (reach h.get?))) = true := congrArg Prod.snd e
  have q1 := (He.ba q).1
  have q2 := fun p hp => He.ba (List.all_eq_true.mp (He.ba q).2 p hp)
  have q3 : ∀ p ∈ tfs, ∃ o, h.get? (He.cT (He.frT h.get? (reach h.get?)) p).2 = some o ∧ He.emptyTab o = true := fun p hp => by
    have z := (q2 p hp).2
    cases hg : h.get? (He.cT (He.frT h.get? (reach h.get?)) p).2 with
    | some o =>
      rw [hg] at z
      exact ⟨o, rfl, z⟩
    | none =>
      rw [hg] at z
      cases z
  constructor
  · exact congrArg Prod.fst e
  · exact q1
  · exact fun p hp => (q2 p hp).1
  · intro p hp
    obtain ⟨o, ho, hz⟩ := q3 p hp
    exact He.frT_none ho hz
  · intro p hp
    obtain ⟨o, ho, hz⟩ := q3 p hp
    rw [ho, He.emptyTab_eq hz]
def hkX : PySem.W.Hook where
  α := He.AlX
  obs := fun s => obY s.heap.get?
  val := fun w => He.valX fns [] w
  says := fun w h => ∃ K : PySem.W.Frag, K.In h ∧ He.SaysX fas fns [] tfs exB w h K
  of := fun _ _ e => ⟨_, He.frT_in, obY_says e⟩
  keeps := fun _ h h' ⟨K, i, c⟩ k => ⟨K, i.keeps k, c.t, c.more, c.hd, c.out, fun p hp => k _ _ (c.empty p hp)⟩
def obX (s : PySem.W.SharedT) : He.AlX := obY (HandSHeadRun.getT s)
theorem obX_eq (s : PySem.W.SharedT) : obX s = hkX.obs s.abs := by
  show obY (HandSHeadRun.getT s) = obY s.abs.heap.get?
  rw [show HandSHeadRun.getT s = s.abs.heap.get? from funext fun a => HandSHeadRun.getT_eq s a]
def looseN : List Str := (["MarkError", "BadQuestion", "BadReader", "BadManner", "BadPath", "BadRow", "BadForest", "BadNumber", "BadWord", "BadTrap", "BadText", "BadLine", "BadStep", "TooMany", "MOST_STATES", "MOST_NAMES", "MOST_LENGTH", "is_number", "is_tuple_of", "are_numbers"] : List Str) ++ ((["are_steps", "check_question", "names_of", "CLOSING", "MOST_WITHIN", "MOST_MARKS", "check_row", "check_document", "left_open", "answers_due", "is_mark", "is_forest", "check_forest", "tags_of", "row_of", "forest_of", "told_below", "told_forest"] : List Str) ++
  (["_law_taken", "_law_pick", "_law_alike", "_law_question", "_law_led", "_law_answer", "_law_tags", "_law_paths", "_law_word", "_law_forest", "_law_told_forest"] : List Str))
theorem run (w : World) : HandSHeadRun.RunEq RR (PySem.W.view RR.prog [53]) hkX obX 20000 looseN w := by
  intro os
  kernel_rfl
end Mk

/-! ### MkTxt -/
set_option Elab.async false
set_option linter.all false
set_option maxRecDepth 100000
set_option maxHeartbeats 8000000
namespace Mk
open PySem PySem.Spec PyProof.Rows L2
open GxR (TabG Tabbed)
open LamX (TabS)
def fdOf (K : PySem.W.Frag) (p : Str × Option Str) : FuncData := match K.lookup (He.fAd K p) with
  | some ⟨_, _, .func fd, _⟩ => fd
  | _ => ⟨"", "", ⟨[], [], none, [], [], none, []⟩, .stmts [], ⟨.function, [], false, false, []⟩, 0, [], .none, .none, .none, .none, none, .none, .none, 0⟩
theorem funD_fun {K : PySem.W.Frag} {x qual : Str} {st : Stmt} {p : Str × Option Str} (h : ∃ fd, FunD K x qual (defArgs st) (defBody st) (defScope st) [] [] (He.fAd K p) fd) : Fun K x qual st (He.fAd K p) (fdOf K p) := by
  obtain ⟨fd, F⟩ := h
  obtain ⟨oc, od, dV, kV, doc, pm, an, cdv, ct, osl, e, lk, hcd, hD, hK⟩ := F.ex
  have e1 : fdOf K p = fd := by unfold fdOf; rw [lk]
  rw [e1]
  have e2 : dV = .none := by
    rcases hD with ⟨_, h⟩ | ⟨h, _⟩
    · exact h
    · exact absurd rfl h
  subst e2
  exact ⟨⟨oc, od, kV, doc, pm, an, cdv, ct, osl, e, lk, hcd⟩, F.kp⟩
section
variable {w : World} {h : Heap} {K : PySem.W.Frag} {mg : Str → Option Value} {base : Heap}
theorem def_fun (c : He.SaysX fas fns [] tfs exB w h K) (j : Nat) {i : Nat} {n : Str} (hj : defN[j]? = some (i, n) := by rfl) : Fun K n n (top i) (He.fAd K (n, none)) (fdOf K (n, none)) := by
  have m : mkD (i, n) ∈ fns := List.mem_append_left _ (List.mem_map.mpr ⟨(i, n), List.mem_of_getElem? hj, rfl⟩)
  obtain ⟨fd, F⟩ := c.t.d.defs m
  exact funD_fun ⟨fd, F⟩
theorem def_glo (X : K.In h) (G : h.Ns mainGlobals mg) (c : He.SaysX fas fns [] tfs exB w h K) (j : Nat) {i : Nat} {n : Str} (hj : defN[j]? = some (i, n) := by rfl) : mg n = some (.ref (He.fAd K (n, none))) := by
  have m : (He.Fa.glo n) ∈ fas := List.mem_append_right _ (List.mem_append_left _ (List.mem_map.mpr ⟨(i, n), List.mem_of_getElem? hj, rfl⟩))
  exact He.glo_ok X G (c.t.d.facts m)
theorem err_glo (X : K.In h) (G : h.Ns mainGlobals mg) (c : He.SaysX fas fns [] tfs exB w h K) (j : Nat) {n : Str} (hj : errN[j]? = some n := by rfl) : mg n = some (.ref (cE K j)) := by
  have m : (He.Fa.glo n) ∈ fas := List.mem_append_left _ (List.mem_map.mpr ⟨n, List.mem_of_getElem? hj, rfl⟩)
  have e : cE K j = He.ga K n := by unfold cE; rw [List.getD_eq_getElem?_getD, hj]; rfl
  rw [e]
  exact He.glo_ok X G (c.t.d.facts m)
theorem fre_glo (X : K.In h) (G : h.Ns mainGlobals mg) (c : He.SaysX fas fns [] tfs exB w h K) (j : Nat) {n : Str} (hj : freeN[j]? = some n := by rfl) : mg n = none := by
  have m : (He.Fa.free n) ∈ fas := List.mem_append_right _ (List.mem_append_right _ (List.mem_append_left _ (List.mem_map.mpr ⟨n, List.mem_of_getElem? hj, rfl⟩)))
  exact He.free_ok X G (c.t.d.facts m)
theorem int_glo (X : K.In h) (G : h.Ns mainGlobals mg) (c : He.SaysX fas fns [] tfs exB w h K) (j : Nat) {n : Str} {i : Int} (hj : intN[j]? = some (n, i) := by rfl) : ∃ t, mg n = some (.int i t) := by
  have m : (He.Fa.int n i) ∈ fas := List.mem_append_right _ (List.mem_append_right _ (List.mem_append_right _ (List.mem_append_left _ (List.mem_map.mpr ⟨(n, i), List.mem_of_getElem? hj, rfl⟩))))
  exact He.int_ok X G (c.t.d.facts m)
theorem isB_ok {i : Nat} (h : isB K i = true) : ExcC K (cE K i) ∧ (PySem.W.clsIn K (cE K i)).isSome = true ∧ PySem.W.exmOne K (.ref (cE K i)) (.ref (cE K 0)) = some true ∧ ∀ j, 1 ≤ j → j ≤ 13 → PySem.W.kitOne K (.ref (cE K i)) (.ref (cE K j)) = some (decide (i = j)) := by
  obtain ⟨h1, h⟩ := He.ba h
  obtain ⟨h2, h⟩ := He.ba h
  obtain ⟨h3, h4⟩ := He.ba h
  refine ⟨excB_ok h1, h2, of_decide_eq_true h3, fun j a b => ?_⟩
  have z := List.all_eq_true.mp h4 j (List.mem_range.mpr (by omega))
  rcases Bool.or_eq_true_iff.mp z with z | z
  · have := of_decide_eq_true z
    omega
  · exact of_decide_eq_true z
theorem xfF_ok {i : Nat} {f : Str} (h : xfF K i f = true) : XfC K (cE K i) ∧ PySem.W.findIn K (.ref (cE K i)) f = some none := ⟨xfB_ok (He.ba h).1, He.eqO_ok (He.ba h).2⟩
theorem baseB_ok (h : baseB K = true) (g : mg "MarkError" = some (.ref (cE K 0))) : BaseT K mg "MarkError" (cE K 0) (.type "type") := by
  obtain ⟨h1, h⟩ := He.ba h
  obtain ⟨h2, h3⟩ := He.ba h
  refine ⟨g, ⟨h1, He.eqO_ok h2⟩, ?_⟩
  split at h3
  · rename_i n e
    rw [e, of_decide_eq_true h3]
  · cases h3
/-- a def's own code object and table -/
theorem own_of {x q : Str} {st : Stmt} {p : Str × Option Str} (F : Fun K x q st (He.fAd K p) (fdOf K p)) (T : LamX.TabB base mg (He.cT K p).1 (He.cT K p).2) : Own mg base (fdOf K p) (He.cT K p).1 (He.cT K p).2 := by
  obtain ⟨oc, od, kV, doc, pm, an, cdv, ct, osl, e, lk, hcd⟩ := F.ex
  obtain ⟨c, rfl⟩ := He.codeIn_ref hcd
  have e1 : (fdOf K p).code = .ref c := by rw [e]
  exact ⟨by rw [e1]; exact congrArg Value.ref (He.codeOf_eq lk e1).symm, ⟨T.code, T.bm, T.gP⟩⟩
end
end Mk

/-! ### MkAll -/
set_option Elab.async false
set_option linter.all false
set_option maxRecDepth 100000
set_option maxHeartbeats 8000000
namespace Mk
open PySem PySem.Spec PyProof.Rows L2
open GxR (TabG Tabbed)
open LamX (TabS)
def tabD (K : PySem.W.Frag) (n : Str) : Addr := (He.cT K (n, none)).2
def gs (K : PySem.W.Frag) : List Addr := [tabD K "are_numbers", tabD K "are_steps", tabD K "is_forest"]
def fdi (K : PySem.W.Frag) (i : Nat) : FuncData := fdOf K (((defN.lookup i).getD ""), none)
def fai (K : PySem.W.Frag) (i : Nat) : Addr := He.fAd K (((defN.lookup i).getD ""), none)
section
variable {P : Program} {w w2 : World} {h : Heap} {K : PySem.W.Frag} {mg : Str → Option Value} {base : Heap}
theorem all_law (X : K.In h) (G : h.Ns mainGlobals mg) (c : He.SaysX fas fns [] tfs exB w h K) (TB : ∀ p ∈ tfs, LamX.TabB base mg (He.cT K p).1 (He.cT K p).2) :
    FnOk P w2 K mg base CX0 61 (He.fAd K ("law", none)) (fdOf K ("law", none)) ["script"] (spLaw K (AmL (gs K) (tabD K "law"))) := by
  obtain ⟨x1, m⟩ := He.ba c.more
  obtain ⟨x3, m⟩ := He.ba m
  obtain ⟨i3, m⟩ := He.ba m
  obtain ⟨i8, m⟩ := He.ba m
  obtain ⟨f1, m⟩ := He.ba m
  obtain ⟨f3, m⟩ := He.ba m
  obtain ⟨f5, m⟩ := He.ba m
  obtain ⟨bb, m⟩ := He.ba m
  obtain ⟨n1, m⟩ := He.ba m
  obtain ⟨n2, n3⟩ := He.ba m
  have nT : tabD K "law" ∉ gs K := by
    intro z
    rcases List.mem_cons.mp z with z | z
    · exact of_decide_eq_true n1 z
    rcases List.mem_cons.mp z with z | z
    · exact of_decide_eq_true n2 z
    rcases List.mem_cons.mp z with z | z
    · exact of_decide_eq_true n3 z
    · cases z
  have A := amL_ok nT
  have hg1 : tabD K "are_numbers" ∈ gs K := List.mem_cons_self
  have hg2 : tabD K "are_steps" ∈ gs K := List.mem_cons_of_mem _ List.mem_cons_self
  have hg3 : tabD K "is_forest" ∈ gs K := List.mem_cons_of_mem _ (List.mem_cons_of_mem _ List.mem_cons_self)
  have B : Glb mg := ⟨fre_glo X G c 0, fre_glo X G c 1, fre_glo X G c 2, fre_glo X G c 3, fre_glo X G c 4, fre_glo X G c 5, fre_glo X G c 6⟩
  have B2 : Glb2 mg := ⟨fre_glo X G c 8, fre_glo X G c 9⟩
  have C : Cns mg := ⟨int_glo X G c 0, int_glo X G c 1, int_glo X G c 2⟩
  have C2 : Cn2 mg := ⟨int_glo X G c 3, int_glo X G c 4, int_glo X G c 5, fre_glo X G c 7⟩
  have E : Errs K mg (cE K) := ⟨err_glo X G c 0, err_glo X G c 1, err_glo X G c 2, err_glo X G c 3, err_glo X G c 4, err_glo X G c 5, err_glo X G c 6, err_glo X G c 7, err_glo X G c 8, err_glo X G c 9, err_glo X G c 10, err_glo X G c 11, err_glo X G c 12, err_glo X G c 13,
    fun i hi => hi.elim (fun e => e ▸ isB_ok i3) (fun e => e ▸ isB_ok i8), xfF_ok f1, xfF_ok f3, xfF_ok f5⟩
  have bt := baseB_ok bb E.g0
  -- the errors that are raised
  have mem : ∀ {f : He.Fa}, f ∈ [He.Fa.meth "BadQuestion" "__init__", .meth "BadRow" "__init__", .exc "BadForest"] → f ∈ fas := fun h => List.mem_append_right _ (List.mem_append_right _ (List.mem_append_right _ (List.mem_append_right _ h)))
  have FQ : Fun K "__init__" "BadQuestion.__init__" sInitQ (He.fAd K ("BadQuestion", some "__init__")) (fdOf K ("BadQuestion", some "__init__")) := funD_fun (c.t.d.defs (d := dQ) (List.mem_append_right _ List.mem_cons_self))
  have FR : Fun K "__init__" "BadRow.__init__" sInitR (He.fAd K ("BadRow", some "__init__")) (fdOf K ("BadRow", some "__init__")) := funD_fun (c.t.d.defs (d := dR) (List.mem_append_right _ (List.mem_cons_of_mem _ List.mem_cons_self)))
  have MQ := He.meth_ok (c.t.d.facts (mem List.mem_cons_self))
  have MR := He.meth_ok (c.t.d.facts (mem (List.mem_cons_of_mem _ List.mem_cons_self)))
  have RQ : ErD P w2 K mg base "BadQuestion" "part" (cE K 1) (He.fAd K ("BadQuestion", some "__init__")) (fdOf K ("BadQuestion", some "__init__")) ["self", "part"] :=
    ⟨⟨oexB_ok x1, MQ.1, eq_of_beq MQ.2, E.g1, (xfF_ok f1).2⟩, ok_initQ FQ bt, FQ.binds fun _ _ _ _ _ _ us hl => match us, hl with | [_, _], _ => rfl⟩
  have RR : ErD P w2 K mg base "BadRow" "place" (cE K 3) (He.fAd K ("BadRow", some "__init__")) (fdOf K ("BadRow", some "__init__")) ["self", "place"] :=
    ⟨⟨oexB_ok x3, MR.1, eq_of_beq MR.2, E.g3, (xfF_ok f3).2⟩, ok_initR FR bt, FR.binds fun _ _ _ _ _ _ us hl => match us, hl with | [_, _], _ => rfl⟩
  have EF := He.exc_ok (c.t.d.facts (mem (List.mem_cons_of_mem _ (List.mem_cons_of_mem _ List.mem_cons_self))))
  have RF : ErN K mg "BadForest" (cE K 8) := ⟨EF.1, EF.2.1, E.g8, EF.2.2.1, EF.2.2.2⟩
  -- the defs
  have F0 := def_fun c 0
  have g0 := def_glo X G c 0
  have F1 := def_fun c 1
  have g1 := def_glo X G c 1
  have F2 := def_fun c 2
  have F3 := def_fun c 3
  have F4 := def_fun c 4
  have F5 := def_fun c 5
  have F6 := def_fun c 6
  have F7 := def_fun c 7
  have F8 := def_fun c 8
  have F9 := def_fun c 9
  have F10 := def_fun c 10
  have F11 := def_fun c 11
  have F12 := def_fun c 12
  have F13 := def_fun c 13
  have F14 := def_fun c 14
  have F15 := def_fun c 15
  have F16 := def_fun c 16
  have F17 := def_fun c 17
  have F18 := def_fun c 18
  have F19 := def_fun c 19
  have F20 := def_fun c 20
  have F21 := def_fun c 21
  have F22 := def_fun c 22
  have F23 := def_fun c 23
  have F24 := def_fun c 24
  have F25 := def_fun c 25
  have F26 := def_fun c 26
  have F27 := def_fun c 27
  have F28 := def_fun c 28
  have F29 := def_fun c 29
  have O29 := own_of F29 (TB ("law", none) List.mem_cons_self)
  have O2 := own_of F2 (TB ("are_numbers", none) (List.mem_cons_of_mem _ List.mem_cons_self))
  have O3 := own_of F3 (TB ("are_steps", none) (List.mem_cons_of_mem _ (List.mem_cons_of_mem _ List.mem_cons_self)))
  have O11 := own_of F11 (TB ("is_forest", none) (List.mem_cons_of_mem _ (List.mem_cons_of_mem _ (List.mem_cons_of_mem _ List.mem_cons_self))))
  have D0 : Def P w2 K mg base CX0 1 "is_number" _ _ ["value", "least", "most"] (spIsNum K) := ⟨ok_isNum F0 B, F0.kp, F0.binds fun _ _ _ _ _ _ us hl => match us, hl with | [_, _, _], _ => rfl, g0⟩
  have D1 : Def P w2 K mg base CX0 1 "is_tuple_of" _ _ ["value", "least", "most"] (spIsTup K) := ⟨ok_isTup F1 B, F1.kp, F1.binds fun _ _ _ _ _ _ us hl => match us, hl with | [_, _, _], _ => rfl, g1⟩
  have D2 : Def P w2 K mg base CX0 3 "are_numbers" _ _ ["value", "many", "most"] (spAreNums K (tabD K "are_numbers")) := ⟨ok_areNums F2 B O2 F0 D0.b g0 F1 D1.b g1, F2.kp, F2.binds fun _ _ _ _ _ _ us hl => match us, hl with | [_, _, _], _ => rfl, def_glo X G c 2⟩
  have D3 : Def P w2 K mg base CX0 5 "are_steps" _ _ ["value"] (spAreSteps K (AmL (gs K) (tabD K "law"))) := ⟨ok_areSteps A hg2 hg1 F3 B C O3 D2.ok D2.kp D2.b D2.g D1.ok D1.kp D1.b D1.g, F3.kp, F3.binds fun _ _ _ _ _ _ us hl => match us, hl with | [_], _ => rfl, def_glo X G c 3⟩
  have D4 : Def P w2 K mg base (L2.CX P w2) 6 "check_question" _ _ ["value"] (spCheckQ K (AmL (gs K) (tabD K "law")) (cE K 1)) := ⟨ok_checkQ A hg1 F4 B D1 D3 D2 RQ, F4.kp, F4.binds fun _ _ _ _ _ _ us hl => match us, hl with | [_], _ => rfl, def_glo X G c 4⟩
  have D5 : Def P w2 K mg base CX0 1 "names_of" _ _ ["question"] (spNamesOf K) := ⟨ok_namesOf F5 B, F5.kp, F5.binds fun _ _ _ _ _ _ us hl => match us, hl with | [_], _ => rfl, def_glo X G c 5⟩
  have D6 : Def P w2 K mg base (L2.CX P w2) 4 "check_row" _ _ ["names", "value"] (spCheckRow K (AmL (gs K) (tabD K "law")) (cE K 3)) := ⟨ok_checkRow A F6 B C C2 D1 D0 RR, F6.kp, F6.binds fun _ _ _ _ _ _ us hl => match us, hl with | [_, _], _ => rfl, def_glo X G c 6⟩
  have D7 : Def P w2 K mg base (L2.CX P w2) 4 "check_document" _ _ ["row"] (spCheckDoc K (AmL (gs K) (tabD K "law")) (cE K 3)) := ⟨ok_checkDoc A F7 B C2 RR, F7.kp, F7.binds fun _ _ _ _ _ _ us hl => match us, hl with | [_], _ => rfl, def_glo X G c 7⟩
  have D8 : Def P w2 K mg base (L2.CX P w2) 7 "left_open" _ _ ["question", "row"] (spLeftOpen K (AmL (gs K) (tabD K "law")) (cE K 1) (cE K 3)) := ⟨ok_leftOpen A F8 B C2 D4 D6 D5, F8.kp, F8.binds fun _ _ _ _ _ _ us hl => match us, hl with | [_, _], _ => rfl, def_glo X G c 8⟩
  have D9 : Def P w2 K mg base (L2.CX P w2) 7 "answers_due" _ _ ["question", "row"] (spDue K (AmL (gs K) (tabD K "law")) (cE K 1) (cE K 3)) := ⟨ok_due A F9 B C2 D4 D6 D5, F9.kp, F9.binds fun _ _ _ _ _ _ us hl => match us, hl with | [_, _], _ => rfl, def_glo X G c 9⟩
  have D10 : Def P w2 K mg base CX0 2 "is_mark" _ _ ["names", "value"] (spIsMark K) := ⟨ok_isMark F10 D1 D0, F10.kp, F10.binds fun _ _ _ _ _ _ us hl => match us, hl with | [_, _], _ => rfl, def_glo X G c 10⟩
  have D11 : Def P w2 K mg base CX0 4 "is_forest" _ _ ["names", "value"] (spIsForest K (AmL (gs K) (tabD K "law"))) := ⟨ok_isForest A hg3 F11 B C2 O11 D1 D10, F11.kp, F11.binds fun _ _ _ _ _ _ us hl => match us, hl with | [_, _], _ => rfl, def_glo X G c 11⟩
  have D12 : Def P w2 K mg base (L2.CX P w2) 5 "check_forest" _ _ ["names", "value"] (spCheckForest K (AmL (gs K) (tabD K "law")) (cE K 8)) := ⟨ok_checkForest F12 RF D11, F12.kp, F12.binds fun _ _ _ _ _ _ us hl => match us, hl with | [_, _], _ => rfl, def_glo X G c 12⟩
  have b13 : Binds K _ ["forest"] [] := F13.binds fun _ _ _ _ _ _ us hl => match us, hl with | [_], _ => rfl
  have D13 : Def P w2 K mg base CX0 41 "tags_of" _ _ ["forest"] (spTags K (AmL (gs K) (tabD K "law")) 41) := ⟨ok_tags A F13 C2 b13 (def_glo X G c 13) 41, F13.kp, b13, def_glo X G c 13⟩
  have D14 : Def P w2 K mg base (L2.CX P w2) 42 "row_of" _ _ ["forest"] (spRowOf K (AmL (gs K) (tabD K "law")) (cE K 8)) := ⟨ok_rowOf A F14 B C D12 D13, F14.kp, F14.binds fun _ _ _ _ _ _ us hl => match us, hl with | [_], _ => rfl, def_glo X G c 14⟩
  have D15 : Def P w2 K mg base (L2.CX P w2) 5 "forest_of" _ _ ["row"] (spForestOf K (AmL (gs K) (tabD K "law")) (cE K 3)) := ⟨ok_forestOf A F15 B C C2 D6 D7, F15.kp, F15.binds fun _ _ _ _ _ _ us hl => match us, hl with | [_], _ => rfl, def_glo X G c 15⟩
  have b16 : Binds K _ ["question", "state", "forest"] [] := F16.binds fun _ _ _ _ _ _ us hl => match us, hl with | [_, _, _], _ => rfl
  have D16 : Def P w2 K mg base CX0 41 "told_below" _ _ ["question", "state", "forest"] (spTold K (AmL (gs K) (tabD K "law")) 41) := ⟨ok_told A F16 B b16 (def_glo X G c 16) 41, F16.kp, b16, def_glo X G c 16⟩
  have D17 : Def P w2 K mg base (L2.CX P w2) 42 "told_forest" _ _ ["question", "forest"] (spToldF K (AmL (gs K) (tabD K "law")) (cE K 1) (cE K 8)) := ⟨ok_toldF A F17 D4 D12 D5 D16, F17.kp, F17.binds fun _ _ _ _ _ _ us hl => match us, hl with | [_, _], _ => rfl, def_glo X G c 17⟩
  have D18 : Def P w2 K mg base CX0 1 "_law_taken" _ _ ["row", "many"] (spTaken K (AmL (gs K) (tabD K "law"))) := ⟨ok_taken A F18 B, F18.kp, F18.binds fun _ _ _ _ _ _ us hl => match us, hl with | [_, _], _ => rfl, def_glo X G c 18⟩
  have D19 : Def P w2 K mg base CX0 2 "_law_pick" _ _ ["row", "things"] (spPick K (AmL (gs K) (tabD K "law"))) := ⟨ok_pick F19 B D18, F19.kp, F19.binds fun _ _ _ _ _ _ us hl => match us, hl with | [_, _], _ => rfl, def_glo X G c 19⟩
  have b20 : Binds K _ ["found", "due"] [] := F20.binds fun _ _ _ _ _ _ us hl => match us, hl with | [_, _], _ => rfl
  have D20 : Def P w2 K mg base CX0 60 "_law_alike" _ _ ["found", "due"] (spAlike K (AmL (gs K) (tabD K "law")) 60) := ⟨ok_alike A F20 B B2 b20 (def_glo X G c 20) 60, F20.kp, b20, def_glo X G c 20⟩
  have D21 : Def P w2 K mg base CX0 2 "_law_question" _ _ ["row", "states", "names"] (spLQ K (AmL (gs K) (tabD K "law"))) := ⟨ok_lq A F21 B B2 D18, F21.kp, F21.binds fun _ _ _ _ _ _ us hl => match us, hl with | [_, _, _], _ => rfl, def_glo X G c 21⟩
  have D22 : Def P w2 K mg base CX0 1 "_law_led" _ _ ["question", "state", "way"] (spLed K) := ⟨ok_led F22, F22.kp, F22.binds fun _ _ _ _ _ _ us hl => match us, hl with | [_, _, _], _ => rfl, def_glo X G c 22⟩
  have D23 : Def P w2 K mg base CX0 2 "_law_answer" _ _ ["question", "way"] (spLAns K) := ⟨ok_lans F23 D22, F23.kp, F23.binds fun _ _ _ _ _ _ us hl => match us, hl with | [_, _], _ => rfl, def_glo X G c 23⟩
  have D24 : Def P w2 K mg base CX0 2 "_law_tags" _ _ ["row", "names", "many"] (spLTags K (AmL (gs K) (tabD K "law"))) := ⟨ok_ltags A F24 B B2 D18, F24.kp, F24.binds fun _ _ _ _ _ _ us hl => match us, hl with | [_, _, _], _ => rfl, def_glo X G c 24⟩
  have D25 : Def P w2 K mg base CX0 1 "_law_paths" _ _ ["tags"] (spLPaths K (AmL (gs K) (tabD K "law"))) := ⟨ok_lpaths A F25, F25.kp, F25.binds fun _ _ _ _ _ _ us hl => match us, hl with | [_], _ => rfl, def_glo X G c 25⟩
  have b27 : Binds K _ ["tags"] [] := F27.binds fun _ _ _ _ _ _ us hl => match us, hl with | [_], _ => rfl
  have D27 : Def P w2 K mg base CX0 41 "_law_forest" _ _ ["tags"] (spLForest K (AmL (gs K) (tabD K "law")) 41) := ⟨ok_lforest A F27 B b27 (def_glo X G c 27) 41, F27.kp, b27, def_glo X G c 27⟩
  have b28 : Binds K _ ["question", "forest", "above"] [] := F28.binds fun _ _ _ _ _ _ us hl => match us, hl with | [_, _, _], _ => rfl
  have D28 : Def P w2 K mg base CX0 43 "_law_told_forest" _ _ ["question", "forest", "above"] (spLTold K (AmL (gs K) (tabD K "law")) 41) := ⟨ok_ltold A F28 B D23 b28 (def_glo X G c 28) 41, F28.kp, b28, def_glo X G c 28⟩
  have T : Txt P w2 K mg base (AmL (gs K) (tabD K "law")) (cE K) (fai K) (fdi K) :=
    { lo := D8, du := D9, ro := D14, fo := D15, to := D17, ta := D18, pi := D19, al := D20, lq := D21, an := D23, tg := D24, pa := D25, lf := D27, lt := D28, wd := F26, wb := F26.binds fun _ _ _ _ _ _ us hl => match us, hl with | [_], _ => rfl, wg := def_glo X G c 26, er := E, gl := B, g2 := B2 }
  exact ok_law A (fun _ a => a.2) (amL_grow nT) T F29 O29 (TB ("law", none) List.mem_cons_self)
end
end Mk

/-! ### MkEnd -/
set_option Elab.async false
set_option linter.all false
set_option maxRecDepth 100000
set_option maxHeartbeats 8000000
namespace Mk
open PySem PySem.Spec PyProof.Rows L2
open LamX (TabS)
theorem room61 : Room 61 callerA := ⟨rfl, by decide, by decide⟩
theorem at_law (w : World) (mg : Str → Option Value) (fa : Addr) (h : Heap) (Y : hkX.says w h) (G : h.Ns mainGlobals mg) (hmg : mg "law" = some (.ref fa)) :
    ∃ K : PySem.W.Frag, K.In h ∧ LamX.LawAtS PySem.Challenge.rw_markspass_k02_whole_rows w K CX0 61 63 "script" mg fa h := by
  obtain ⟨K, X, c⟩ := Y
  have F29 := def_fun c 29
  have e := hmg.symm.trans (def_glo X G c 29)
  cases e
  have b : Binds K (fdOf K ("law", none)) ["script"] [] := F29.binds fun _ _ _ _ _ _ us hl => match us, hl with | [_], _ => rfl
  refine ⟨K, X, fdOf K ("law", none), tfs.map fun p => He.cT K p, spLaw K (AmL (gs K) (tabD K "law")), fun p hp => ?_, fun p hp => ?_, fun p hp => ?_, fun s u => ?_, fun H a ns hl _ hT hS => ⟨a, ns, rfl, hS, amL_start fun T hT2 => ?_, fun _ => rfl⟩, fun base _ _ TB => ?_⟩
  · obtain ⟨q, hq, rfl⟩ := List.mem_map.mp hp
    exact c.empty q hq
  · obtain ⟨q, hq, rfl⟩ := List.mem_map.mp hp
    exact c.out q hq
  · obtain ⟨q, hq, rfl⟩ := List.mem_map.mp hp
    exact PySem.W.codeHd_of_K X (c.hd q hq)
  · obtain ⟨oc, od, kV, doc, pm, an, cdv, ct, osl, e, lk, hcd⟩ := F29.ex
    rw [e]
    exact .of_eq rfl
  · have hm : ∃ q ∈ tfs, T = (He.cT K q).2 := by
      rcases List.mem_cons.mp hT2 with z | z
      · exact ⟨("law", none), List.mem_cons_self, z⟩
      rcases List.mem_cons.mp z with z | z
      · exact ⟨("are_numbers", none), List.mem_cons_of_mem _ List.mem_cons_self, z⟩
      rcases List.mem_cons.mp z with z | z
      · exact ⟨("are_steps", none), List.mem_cons_of_mem _ (List.mem_cons_of_mem _ List.mem_cons_self), z⟩
      rcases List.mem_cons.mp z with z | z
      · exact ⟨("is_forest", none), List.mem_cons_of_mem _ (List.mem_cons_of_mem _ (List.mem_cons_of_mem _ List.mem_cons_self)), z⟩
      · cases z
    obtain ⟨q, hq, rfl⟩ := hm
    exact hT _ (List.mem_map.mpr ⟨q, hq, rfl⟩)
  · exact all_law X G c fun p hp => TB _ (List.mem_map.mpr ⟨p, hp, rfl⟩)
end Mk
open PySem PySem.W PySem.Calls PyProof.Rows
set_option maxRecDepth 100000 in
set_option maxHeartbeats 8000000 in
theorem PySem.Challenge.cw_markspass_k02_whole_rows_holds : PySem.Challenge.rw_markspass_k02_whole_rows.Holds := by
  w_on; o_law
  refine HandSHeadRun.head_any (r := Mk.RR) (q := view Mk.RR.prog [53]) (H := Mk.hkX) (ob := Mk.obX) (M := 20000) (loose := Mk.looseN) (d := HandSHeadRun.topDef Mk.RR.prog 53) (kwd := []) Mk.obX_eq
    (by kernel_rfl) (fun s => by kernel_rfl) Mk.run (by kernel_rfl) (by kernel_rfl) (by kernel_rfl) (by rfl) (by first | assumption | decide +kernel) (by decide +kernel) ⟨rfl, rfl, rfl, rfl, rfl, by decide +kernel⟩ ?hw ?hc
  case hw => w_witness2
  case hc =>
    refine LamX.walk_ofTsE (l := PySem.Challenge.rw_markspass_k02_whole_rows) (n := 63) (k := 61) (x := "script") (CX := fun _ => L2.CX0) rfl (by decide) (by kernel_rfl) Mk.room61 ?F (fun _ _ _ _ _ z => z)
    intro w mg fa h Y G hmg0
    have hmg : mg ("law" : PySem.Str) = some (.ref fa) := by
      have e : (HandSHeadRun.topDef Mk.RR.prog 53).name = ("law" : PySem.Str) := by kernel_rfl
      rw [← e]
      exact hmg0
    exact Mk.at_law w mg fa h Y G hmg

