import PyProof.Rows.All
import Wide.All
import OpenK.AllK
import Wide.FinOn
import HandS.AnyAll
import HandS.GenCall
import HandS.Lambda
import HandS.ForMost
import HandS.ForExc
import HandS.IsInst
import HandS.Evl
import HandS.TupAny
import HandS.TupLe
import HandS.Property
import HandS.Deep
import HandS.TupMul
import KE.GoesEnum
import KE.GoesMore
import HandS.ExcInit
import HandS.ExcField
import HandS.ExcIs
import HandS.ClsMeth
import HandS.FStr
import PyProof.FString2
import HandS.Style
import HandS.Defaults
import HandS.Conv
import KE.KLam
import KE.KExcIs
import PyProof.Rows.CountFlat
import HandS.Wide
import HandS.Head2
import HandS.HeadHook4
import HandS.HeadWalk
import PySem.Challenge.RW_markspass_k09_whole_desks
/-! ### MkGen -/
set_option Elab.async false
set_option linter.all false
set_option maxRecDepth 100000
set_option maxHeartbeats 4000000
namespace Mk
open PySem PySem.Spec PyProof.Rows L2

theorem over_gen {A : Around} {elt target iter : Expr} {ifs : List Expr} {scope : Scope} {pos : Pos} {it acc : Value} {env : Env} :
    A.over (.compLoop (.GeneratorExp elt [⟨target, iter, ifs, 0⟩] scope pos) 0 it acc env) [] = A.deeper env := by
  first
  | rfl
  | (obtain ⟨hd, d, fr, gs, u⟩ := A; simp [Around.over, Around.deeper, marksOver, frameCount, unitsOf, envsOf, guardsOf, pushEnvs, pushGuards, Code.envs, Code.env?, Code.isFrame, Code.guards, Code.isGuard, Code.weight, Code.frames, Code.isCreation, Code.isCaller, Code.cUnits])
theorem over_genS {A : Around} {elt target iter : Expr} {ifs : List Expr} {scope : Scope} {pos : Pos} {it acc : Value} {env : Env} :
    A.over (.compStart (.GeneratorExp elt [⟨target, iter, ifs, 0⟩] scope pos) 0 it acc env) [] = A.deeper env := by
  first
  | rfl
  | (obtain ⟨hd, d, fr, gs, u⟩ := A; simp [Around.over, Around.deeper, marksOver, frameCount, unitsOf, envsOf, guardsOf, pushEnvs, pushGuards, Code.envs, Code.env?, Code.isFrame, Code.guards, Code.isGuard, Code.weight, Code.frames, Code.isCreation, Code.isCaller, Code.cUnits])

theorem wipe_get_out {σ : L2.St} {i : Nat} : ∀ {vs : List Nat}, i ∉ vs → (wipe σ vs)[i]? = σ[i]?
  | [], _ => rfl
  | v :: vs, h => by
    unfold wipe
    have h1 : v ≠ i := fun e => h (by rw [e]; exact List.mem_cons_self)
    rw [List.getElem?_set_ne h1]
    exact wipe_get_out fun z => h (List.mem_cons_of_mem _ z)
theorem wipe_get_in {σ : L2.St} {i : Nat} : ∀ {vs : List Nat}, i ∈ vs → i < σ.length → (wipe σ vs)[i]? = some none
  | [], h, _ => by cases h
  | v :: vs, h, hl => by
    unfold wipe
    by_cases e : v = i
    · subst e
      rw [List.getElem?_set_self (by rw [wipe_length]; exact hl)]
    · rw [List.getElem?_set_ne e]
      rcases List.mem_cons.mp h with z | z
      · exact absurd z.symm e
      · exact wipe_get_in z hl
theorem wipe_wipe (σ : L2.St) (vs : List Nat) : wipe (wipe σ vs) vs = wipe σ vs := by
  apply List.ext_getElem?
  intro i
  by_cases hi : i ∈ vs
  · by_cases hl : i < σ.length
    · rw [wipe_get_in hi (by rw [wipe_length]; exact hl), wipe_get_in hi hl]
    · rw [List.getElem?_eq_none (by rw [wipe_length, wipe_length]; omega), List.getElem?_eq_none (by rw [wipe_length]; omega)]
  · rw [wipe_get_out hi]

/-- the context of a generator expression's frame: entered at s -/
abbrev gblk (X : Cx) (s : Shared) (H : Hp) (cenv : Env) (fp : List Addr) (pn : List (Addr × Obj)) : Cx :=
  { X with A := X.A.in1.in1.deeper cenv, s_0 := s, H_0 := H, env := cenv, outer := X.stack, stack := cenv :: X.stack, ex := fp, fn := fun _ => false, calm := true, pn := pn, xe := fun _ _ => False }

/-- what the generator's own scope must be -/
structure GOk (N : List Str) (sc scope : Scope) (own : List (Str × Nat)) : Prop where
  blk : BlkOk N sc scope own
  co : scope.isCoroutine = false
  cell : ∀ y ∈ scope.names, y.2 ≠ .cell
  dot : scope.names.lookup (".0" : Str) = some NameKind.local

section
variable {X : Cx} {pins : List (Addr × Obj)} {σ : L2.St} {H : Hp} {s : Shared}

theorem gen_start {scope : Scope} {own : List (Str × Nat)} {fp : List Addr} {a : Addr} {o : Obj} {code : Value} {it : Value} {h' : Heap} {g' : Array GenState} {t' : Nat}
    (I : Inv X pins σ H s) (ok : GOk X.N X.env.scope scope own) (hN : X.N.Nodup) (hd : X.A.handled = none) (hfp : ∀ b ∈ fp, FpOk X pins H b ∧ b < s.heap.objs.size)
    (hn : h'.Ns s.heap.objs.size (fun y => if y = ".0" then some it else none)) (kp : ∀ b u, s.heap.get? b = some u → h'.get? b = some u) (ha : h'.get? a = some o) (hsa : s.heap.objs.size < a) (hoc : ∀ v, o.data ≠ .cell v) (hg : AllBare g') :
    Inv (gblk X s H (genEnv scope (cloFrom X.env.cells scope.names []) s.heap.objs.size code builtinsNs X.env) fp [(a, o)]) [] (wipe σ (own.map (·.2))) H { s with heap := h', gens := g', toks := t' } := by
  have hfree : ∀ y ∈ scope.names, y.2 = .free → ∃ c, X.env.cells.lookup y.1 = some c := fun y hy e => by
    rcases ok.blk.free y hy e with k | k
    · exact I.ok.has _ (.inl k)
    · exact I.ok.has _ (.inr k)
  have cm : ∀ {y c}, (cloFrom X.env.cells scope.names []).lookup y = some c → X.env.cells.lookup y = some c := fun {y c} e => by
    rcases cloFrom_mem (PySem.mem_of_lookup e) with hm | ⟨h1, h2⟩
    · cases hm
    · obtain ⟨c1, hc⟩ := hfree _ h1 rfl
      have hc : X.env.cells.lookup y = some c1 := hc
      have e2 : c = c1 := by
        rw [h2, hc] <;> rfl
      rw [e2]
      exact hc
  have look : ∀ {y}, scope.names.lookup y = some .free → ∃ c, (cloFrom X.env.cells scope.names []).lookup y = some c := fun {y} hl => by
    have hy : (y, NameKind.free) ∈ scope.names := PySem.mem_of_lookup hl
    exact mem_lookup (cloFrom_has (cells := X.env.cells) (acc := []) hy)
  have clt : ∀ {y c}, X.env.cells.lookup y = some c → c < s.heap.objs.size := fun {y c} e => by
    obtain ⟨v, z⟩ := I.cell y c e
    exact z.lt
  generalize hce : genEnv scope (cloFrom X.env.cells scope.names []) s.heap.objs.size code builtinsNs X.env = ce
  have cL : ce.locals = s.heap.objs.size := by rw [← hce]; rfl
  have cC : ce.cells = cloFrom X.env.cells scope.names [] := by rw [← hce]; rfl
  have cS : ce.scope = scope := by rw [← hce]; rfl
  have cF : ce.frame = some ce.locals := by rw [← hce]; rfl
  have okB : (gblk X s H ce fp [(a, o)]).Ok := by
    refine ⟨I.ok.mod, by show ce.scope.kind = _; rw [cS]; exact ok.blk.kind, by show ce.globals = _; rw [← hce]; exact I.ok.glob, by show ce.builtins = _; rw [← hce]; rfl, by show s.heap.objs.size ≤ ce.locals; rw [cL]; exact Nat.le_refl _,
      fun y z c e1 e2 => ?_, fun y hy => ?_, fun y c z e => ?_, fun _ => hd, Around.frames_deeper (show X.A.in1.in1.frames = some X.stack from I.ok.frames), .inr ⟨rfl, cF⟩, fun b hb => ⟨?_, fun y c e z => ?_⟩, I.bs, Nat.le_trans I.ok.bsz I.sz, fun b ob e hb => ?_, fun b hb z => ?_, I.stack, I.stkFree⟩
    · have e1 : ce.cells.lookup y = some c := e1
      have e2 : ce.cells.lookup z = some c := e2
      rw [cC] at e1 e2
      exact I.ok.inj y z c (cm e1) (cm e2)
    · have hy : ce.scope.names.lookup y = some .cell ∨ ce.scope.names.lookup y = some .free := hy
      show ∃ c, ce.cells.lookup y = some c
      rw [cS] at hy
      rw [cC]
      rcases hy with hy | hy
      · exact absurd rfl (ok.cell _ (PySem.mem_of_lookup hy))
      · exact look hy
    · cases (show false = true from z)
    · show b ≠ ce.locals
      rw [cL]; exact Nat.ne_of_lt (hfp b hb).2
    · have e : ce.cells.lookup y = some c := e
      rw [cC] at e
      exact (hfp b hb).1.2.2.2.2.1 y c (cm e) z
    · rcases (hfp b hb).1.2.2.2.1 with z | z
      · exact I.ok.noex b ob e z
      · exact absurd (Nat.lt_of_lt_of_le (Heap.lt_size e) (Nat.le_trans I.ok.bsz z)) (Nat.lt_irrefl _)
    · rcases List.mem_cons.mp (I.stkSub b z) with z | z
      · exact (hfp b hb).1.2.1 z
      · exact (hfp b hb).1.2.2.1 z
  refine ⟨okB, rfl, hg, Un.kept kp, ⟨(fun y : Str => if y = ".0" then some it else none), ?_, fun i y v e1 e2 e3 => ?_⟩, fun y c e => ?_, ?_, fun y c e => ?_, fun p hp => ?_, I.hok.kept kp, by rw [wipe_length]; exact I.len⟩
  · show Heap.Ns _ ce.locals _
    rw [cL]
    exact hn
  · obtain ⟨e2, hne⟩ := wipe_some e2
    have e3 : Vis ce.scope y := e3
    rw [cS] at e3
    have nown : ¬ (scope.names.lookup y = some .local ∨ scope.names.lookup y = some .cell) := fun hh => by
      have hm : ∃ k, (y, k) ∈ scope.names ∧ (k = .local ∨ k = .cell) := by
        rcases hh with hh | hh
        · exact ⟨_, PySem.mem_of_lookup hh, .inl rfl⟩
        · exact ⟨_, PySem.mem_of_lookup hh, .inr rfl⟩
      obtain ⟨k, hm, hk⟩ := hm
      rcases ok.blk.own _ hm hk with e' | e'
      · obtain ⟨p, hp, hpy⟩ := List.mem_map.mp e'
        have e3 := ok.blk.ix p hp
        have : p.1 = y := hpy
        rw [this] at e3
        exact hne (List.mem_map.mpr ⟨p, hp, nodup_ix hN e3 e1⟩)
      · exact e' (List.mem_of_getElem? e1)
    have hfr : scope.names.lookup y = some .free := by
      rcases e3 with k | k | k
      · exact absurd (.inl k) nown
      · exact absurd (.inr k) nown
      · exact k
    obtain ⟨m, hn', hl⟩ := I.loc
    have hvis : Vis X.env.scope y := (ok.blk.free _ (PySem.mem_of_lookup hfr) rfl).elim (fun k => .inr (.inl k)) (fun k => .inr (.inr k))
    obtain ⟨u, r, q⟩ := hl i y v e1 e2 hvis
    obtain ⟨c2, h2⟩ := look hfr
    refine ⟨u, r, .inr ⟨.inr (show ce.scope.names.lookup y = some .free by rw [cS]; exact hfr), c2, by show ce.cells.lookup y = some c2; rw [cC]; exact h2, ?_⟩⟩
    have c1 := cm h2
    rcases q with ⟨k', _⟩ | ⟨_, c3, e', z⟩
    · have k' : X.env.scope.names.lookup y = some .local := k'
      rcases ok.blk.free _ (PySem.mem_of_lookup hfr) rfl with k2 | k2 <;> rw [show X.env.scope.names.lookup y = _ from k2] at k' <;> cases k'
    · rw [c1] at e'
      cases e'
      exact z.keeps kp
  · have e : ce.cells.lookup y = some c := e
    rw [cC] at e
    obtain ⟨v, z⟩ := I.cell y c (cm e)
    exact ⟨v, z.keeps kp⟩
  · show H ce.locals = none
    rw [cL]; exact I.hok.fresh (Nat.le_refl _)
  · have e : ce.cells.lookup y = some c := e
    rw [cC] at e
    exact I.freeC y c (cm e)
  · have hp' : p = (a, o) := by simpa using hp
    subst hp'
    refine ⟨ha, I.hok.fresh (Nat.le_of_lt hsa), ?_, fun z => ?_, hoc⟩
    · show a ≠ ce.locals
      rw [cL]; exact Nat.ne_of_gt hsa
    · have z : a ∈ frs X.stack := z
      rcases List.mem_cons.mp (I.stkSub a z) with z | z
      · have h1 := I.lt
        rw [← z] at h1
        exact Nat.lt_irrefl _ (Nat.lt_trans hsa h1)
      · exact I.nofs (Nat.le_of_lt hsa) z
end

theorem Inv_gens {X : Cx} {pins : List (Addr × Obj)} {σ : L2.St} {H : Hp} {s : Shared} {g' : Array GenState} (I : Inv X pins σ H s) (hb : AllBare g') : Inv X pins σ H { s with gens := g' } :=
  ⟨I.ok, I.os, hb, I.base, I.loc, I.cell, I.free, I.freeC, I.pin, I.hok, I.len⟩
theorem bare_set {s : Shared} {g : Nat} {x : GenState} (hb : AllBare s.gens) (hx : x.bare = true) : AllBare (s.setGen g x).gens := by
  intro y hy
  have hy : y ∈ s.gens.setIfInBounds g x := hy
  obtain ⟨i, hi, e⟩ := Array.mem_iff_getElem.mp hy
  rw [Array.size_setIfInBounds] at hi
  rw [Array.getElem_setIfInBounds (by simpa using hi)] at e
  split at e
  · rw [← e]; exact hx
  · rw [← e]; exact hb _ (Array.getElem_mem hi)
/-- resumed: only the generators' states have moved -/
structure Rs (s s' : Shared) : Prop where
  heap : s'.heap = s.heap
  os : s'.os = s.os
  bare : AllBare s'.gens
theorem Rs.inv {X : Cx} {pins : List (Addr × Obj)} {σ : L2.St} {H : Hp} {s s' : Shared} (r : Rs s s') (I : Inv X pins σ H s) : Inv X pins σ H s' := by
  obtain ⟨h, g, d, t, o⟩ := s'
  obtain ⟨r1, r2, r3⟩ := r
  have r1 : h = s.heap := r1
  have r2 : o = s.os := r2
  subst r1
  subst r2
  exact ⟨I.ok, I.os, r3, I.base, I.loc, I.cell, I.free, I.freeC, I.pin, I.hok, I.len⟩
/-- what a turn hands out: False, and all is done; or True -/
def AProto (Y : Cx) (FF : Shared → Prop) : Protocol := fun _ _ v s kap =>
  (v = .bool false ∧ FF s) ∨ (v = .bool true ∧ (∃ σ H, Inv Y [] σ H s) ∧ ∀ s'', Rs s s'' → kap (.send .none) s'')
abbrev AEnd (FT : Shared → Prop) : GenEnd := fun n s₀ r s₁ => r = .ok .next ∧ (fun (_ : Nat) (_ s₁ : Shared) => FT s₁) n s₀ s₁

section
variable {X : Cx}
theorem gseg_loop {s4 : Shared} {H2 : Hp} {ce : Env} {fp : List Addr} {pn : List (Addr × Obj)} {σw : L2.St} {vs : List Nat} {tg elt iter : Expr} {scope : Scope} {pos : Pos} {J : It} {it : Addr} {tn : Nat → Heap → Prop} {g : TG} {te : TE} {Q : VK} {W : Nat → Nat → Hp → Prop}
    (T : Turn X.prog X.w X.K tg J fp it tn) (hco : ce.scope.isCoroutine = false) (hw : wipe σw vs = σw)
    (pg : PG (gblk X s4 H2 ce fp pn) tg g) (pe : PE (gblk X s4 H2 ce fp pn) elt te) (hpn : ∀ p ∈ pn, p.1 ∉ fp)
    (turn : ∀ i m H, W i m H → (J.stop i H ∧ Q (.bl true) H) ∨ (J.go i H ∧ ∃ Nx : Hp → Prop, (∀ H', Nx H' → ∃ m', m' < m ∧ W (i + 1) m' H') ∧ ∀ x H', J.yld i H x H' → g x σw H' fun σ2 H3 => wipe σ2 vs = σw ∧ te σ2 H3 fun y H4 => ∃ b, y = .bl b ∧ if b = true then Nx H4 else Q (.bl false) H4)) :
    ∀ (N i m : Nat) (H' : Hp) (s₀ s : Shared), m < N → Inv (gblk X s4 H2 ce fp pn) [] σw H' s → tn i s.heap → (∀ b ∈ fp, H' b = none) → W i m H' →
      Seg (model X.prog X.w) X.A.in1.in1 (AEnd fun s₁ => ∃ σ' H', Inv (gblk X s4 H2 ce fp pn) [] σ' H' s₁ ∧ Q (.bl true) H') (AProto (gblk X s4 H2 ce fp pn) fun s₁ => ∃ σ' H', Inv (gblk X s4 H2 ce fp pn) [] σ' H' s₁ ∧ Q (.bl false) H') N s₀
        (.compLoop (.GeneratorExp elt [⟨tg, iter, [], 0⟩] scope pos) 0 (.ref it) .none ce)
        ((model X.prog X.w).den (.compLoop (.GeneratorExp elt [⟨tg, iter, [], 0⟩] scope pos) 0 (.ref it) .none ce)) [] s := by
  have stat : ∀ {σ' : L2.St} {H' : Hp} {s' : Shared}, Inv (gblk X s4 H2 ce fp pn) [] σ' H' s' → (∀ b ∈ fp, H' b = none) → ∀ b ∈ fp, FpOk (gblk X s4 H2 ce fp pn) [] H' b := fun {σ' H' s'} I' hn b hb =>
    ⟨hn b hb, (I'.ok.exf b hb).1, I'.ok.exfs b hb, .inl hb, fun x c e => (I'.ok.exf b hb).2 x c e, fun p hp z => by
      have hp' : p ∈ pn := by simpa using hp
      exact hpn p hp' (by rw [z]; exact hb)⟩
  intro N
  induction N with
  | zero => intro i m H' s₀ s hm; exact absurd hm (Nat.not_lt_zero _)
  | succ N ih =>
    intro i m H' s₀ s hm I st nf w
    show Seg _ _ _ _ _ s₀ _ ((compTurn (.GeneratorExp elt [⟨tg, iter, [], 0⟩] scope pos) 0 (.ref it) .none ce).onRaise (leaving ce)) [] s
    rw [compTurn_gen, Sem.onRaise_eq_wrap]
    refine seg_bind_wrap (wpAny_standAt ?_)
    rcases turn i m H' w with ⟨stop, qq⟩ | ⟨go, Nx, hNx, step⟩
    · have td := T.done (gblk X s4 H2 ce fp pn) rfl rfl rfl rfl i [] s _ H' (fun _ _ => False) I (stat I nf) st stop
      refine seg_bind_wrap ?_
      rw [over_gen]
      refine thnF td fun r s6 ⟨hr, I6⟩ => ?_
      subst hr
      exact seg_end (.ok .next) ⟨rfl, _, _, I6, qq⟩
    · have ti := T.item (gblk X s4 H2 ce fp pn) rfl rfl rfl rfl i [] s _ H' (fun _ _ => False) I (stat I nf) st go
      refine seg_bind_wrap ?_
      rw [over_gen]
      refine thnF ti fun r s6 ⟨u, hr, h6⟩ => ?_
      subst hr
      refine seg_bind_wrap ?_
      rw [over_gen]
      refine thnF h6 fun _ s7 ⟨x, H7, I7, r7, y7, st7, n7⟩ => ?_
      have I7' := I7.pinned (stat I7 n7) (T.obj _ _ st7)
      refine seg_bind_wrap ?_
      rw [over_gen]
      refine thnF (pg.run _ s7 _ H7 x u _ I7' r7 (step x H7 y7)) fun _ s8 ⟨σ8, H8, I8, hw8, q8⟩ => ?_
      refine seg_bind_wrap (m := forIn ([] : List Expr) true _) ?_
      simp only [List.forIn_nil]
      refine wpAny_pure ?_
      simp only [if_true]
      have hy : ∀ v, yieldOut ce v = yieldValue v := fun v => by simp only [yieldOut, hco, Bool.false_eq_true, if_false]
      simp only [hy]
      rw [Sem.bind_eq_wrap', Sem.bind_eq_wrap', Sem.wrap_wrap, Sem.wrap_wrap]
      refine seg_wrap ?_
      rw [over_gen]
      refine thnF (pe.run _ s8 σ8 H8 _ I8 q8) fun z s10 ⟨yv, H10, I10, r10, b, eb, nx⟩ => ?_
      subst eb
      have r10 : z = .bool b := r10
      subst r10
      have I11 : Inv (gblk X s4 H2 ce fp pn) [] σw H10 s10 := (I10.unpinned (pins := [])).weak (by rw [← hw8, wipe_length]) (fun j v e => by
        rw [← hw8] at e
        exact (wipe_some e).1)
      cases b with
      | false =>
        refine seg_at (seg_yield rfl rfl rfl (.inl ⟨rfl, _, _, I11, ?_⟩))
        simpa using nx
      | true =>
        simp only [if_true] at nx
        obtain ⟨m', hm', w'⟩ := hNx _ nx
        have pin' : ∀ b ∈ fp, ∀ o, s7.heap.get? b = some o → s10.heap.get? b = some o ∧ H10 b = none := fun b hb o e =>
          let z := I10.pin (b, o) (List.mem_append_right _ (List.mem_append_right _ (mem_pinsAt hb e)))
          ⟨z.1, z.2.1⟩
        refine seg_at (seg_yield rfl rfl rfl (.inr ⟨rfl, ⟨_, _, I11⟩, fun s'' rs => ?_⟩))
        refine seg_again rfl (ih (i + 1) m' H10 s'' s'' (by omega) (rs.inv I11) ?_ (fun b hb => ?_) w')
        · rw [rs.heap]
          exact T.keep _ _ _ st7 fun b hb o e => (pin' b hb o e).1
        · obtain ⟨o, e, _⟩ := T.obj _ _ st7 b hb
          exact (pin' b hb o e).2
end

section
variable {X : Cx} {a : Addr} {g : Nat} {gob : Obj}
/-- asleep, with at most N more turns -/
def Sus (X Y : Cx) (a : Addr) (g : Nat) (FT FF : Shared → Prop) (N : Nat) (s : Shared) : Prop :=
  (∃ σ H, Inv Y [] σ H s) ∧ ∃ gs, s.gens[g]? = some gs ∧ ∀ s'', Rs s s'' → gs.Goes (model X.prog X.w) X.A.in1.in1 (AEnd FT) (AProto Y FF) N (.send .none) s''
theorem all_loop {Y : Cx} {FT FF : Shared → Prop} {R : Result → Shared → Prop} (hh : X.A.handled = none) (hroom : X.A.depth < recursionLimit) (hgen : ∀ {σ H s}, Inv Y [] σ H s → s.heap.IsGen a g)
    (hT : ∀ s1 h' gs', FT s1 → (∀ b o, s1.heap.get? b = some o → h'.get? b = some o) → gs'.bare = true → R (.ok (.ret (.bool true))) { s1.setGen g gs' with heap := h' })
    (hF : ∀ s1 gs', FF s1 → gs'.bare = true → R (.ok (.ret (.bool false))) (s1.setGen g gs')) :
    ∀ (N : Nat) (s : Shared), Sus X Y a g FT FF N s → codeAny (model X.prog X.w) X.A (.builtin "all.loop" ⟨[.ref a], []⟩) R s := by
  intro N
  induction N with
  | zero =>
    intro s hs
    obtain ⟨⟨σ, H, I⟩, gs, hgs, hgo⟩ := hs
    have hlt : g < s.gens.size := by
      rcases Nat.lt_or_ge g s.gens.size with h | h
      · exact h
      · rw [Array.getElem?_eq_none h] at hgs; cases hgs
    refine codeAny_builtin F.entry_all_loop ?_
    rw [Around.under_plainId F.plain_all_loop _]
    show wpAny _ X.A.in1 (pyNext (.ref a) >>= _) _ _ s
    refine wpAny_bind (wpAny_pyNext_genexpQ (A := X.A.in1) (P := fun _ _ s₁ => FT s₁) (Y := AProto Y FF) hh I.nolimit hroom (hgen I) hgs (hgo _ ⟨rfl, rfl, bare_set I.bare rfl⟩) (fun v s₁ gs' hb hv => ?_) (fun s₁ hp h' hk => ?_))
    · rcases hv with ⟨rfl, hv⟩ | ⟨rfl, ⟨σ1, H1, I1⟩, hv⟩
      · refine wpAny_bind (wpAny_holding (wpAny_truthy_bool ?_))
        refine wpAny_bind (wpAny_letGo ?_)
        simp only [Bool.false_eq_true, if_false]
        exact wpAny_bind (wpAny_rule (wpAny_pure (hF _ _ hv hb)))
      · exact (hv s₁ ⟨rfl, rfl, I1.bare⟩).elim
    · exact wpAny_bind (wpAny_rule (wpAny_pure (hT s₁ h' .finished hp hk rfl)))
  | succ N ih =>
    intro s hs
    obtain ⟨⟨σ, H, I⟩, gs, hgs, hgo⟩ := hs
    have hlt : g < s.gens.size := by
      rcases Nat.lt_or_ge g s.gens.size with h | h
      · exact h
      · rw [Array.getElem?_eq_none h] at hgs; cases hgs
    refine codeAny_builtin F.entry_all_loop ?_
    rw [Around.under_plainId F.plain_all_loop _]
    show wpAny _ X.A.in1 (pyNext (.ref a) >>= _) _ _ s
    refine wpAny_bind (GenW.wpAny_gsz (n := g + 1) hlt (wpAny_pyNext_genexpQ (A := X.A.in1) (P := fun _ _ s₁ => FT s₁) (Y := AProto Y FF) hh I.nolimit hroom (hgen I) hgs (hgo _ ⟨rfl, rfl, bare_set I.bare rfl⟩) (fun v s₁ gs' hb hv => ?_) (fun s₁ hp h' hk => ?_)))
    · intro hsz
      rcases hv with ⟨rfl, hv⟩ | ⟨rfl, ⟨σ1, H1, I1⟩, hv⟩
      · refine wpAny_bind (wpAny_holding (wpAny_truthy_bool ?_))
        refine wpAny_bind (wpAny_letGo ?_)
        simp only [Bool.false_eq_true, if_false]
        exact wpAny_bind (wpAny_rule (wpAny_pure (hF _ _ hv hb)))
      · refine wpAny_bind (wpAny_holding (wpAny_truthy_bool ?_))
        refine wpAny_bind (wpAny_letGo ?_)
        simp only [if_true]
        refine wpAny_pure ⟨plainId_quiet F.plain_all_loop _, ih _ ⟨⟨σ1, H1, Inv_gens I1 (bare_set I1.bare hb)⟩, gs', ?_, fun s'' rs => hv s'' ⟨rs.heap, rs.os, rs.bare⟩⟩⟩
        have hsz' : g < s₁.gens.size := by
          have e : (s₁.setGen g gs').gens.size = s₁.gens.size := by simp [Shared.setGen]
          rw [e] at hsz
          exact hsz
        simp [Shared.setGen, hsz']
    · intro _
      exact wpAny_bind (wpAny_rule (wpAny_pure (hT s₁ h' .finished hp hk rfl)))
end

theorem gseg_start {X : Cx} {ce : Env} {fp : List Addr} {tg elt iter : Expr} {scope : Scope} {pos : Pos} {J : It} {it : Addr} {tn : Nat → Heap → Prop} {R : GenEnd} {Yp : Protocol} {N : Nat} {s₀ s : Shared}
    (T : Turn X.prog X.w X.K tg J fp it tn) (st : tn 0 s.heap)
    (loop : Seg (model X.prog X.w) X.A.in1.in1 R Yp N s₀ (.compLoop (.GeneratorExp elt [⟨tg, iter, [], 0⟩] scope pos) 0 (.ref it) .none ce) ((model X.prog X.w).den (.compLoop (.GeneratorExp elt [⟨tg, iter, [], 0⟩] scope pos) 0 (.ref it) .none ce)) [] s) :
    Seg (model X.prog X.w) X.A.in1.in1 R Yp N s₀ (.compStart (.GeneratorExp elt [⟨tg, iter, [], 0⟩] scope pos) 0 (.ref it) .none ce) ((model X.prog X.w).den (.compStart (.GeneratorExp elt [⟨tg, iter, [], 0⟩] scope pos) 0 (.ref it) .none ce)) [] s := by
  show Seg _ _ _ _ _ s₀ _ ((compStart (.GeneratorExp elt [⟨tg, iter, [], 0⟩] scope pos) 0 (.ref it) .none ce).onRaise (leaving ce)) [] s
  unfold compStart
  rw [Sem.onRaise_eq_wrap]
  show Seg _ _ _ _ _ s₀ _ ((ask >>= _).wrap _ _ _ _) [] s
  refine seg_bind_wrap (wpAny_askSetting ?_)
  split
  · exact seg_again rfl loop
  · first
      | exact seg_bind_wrap (wpAny_rule (seg_bind_wrap (wpAny_standAt (seg_bind_wrap (T.self _ 0 s _ _ st (seg_again rfl loop))))))
      | (refine seg_bind_wrap (wpAny_rule ?_); show Seg _ _ _ _ _ s₀ _ ((standAt iter.pos >>= _).wrap _ _ _ _) [] s; exact seg_bind_wrap (wpAny_standAt (seg_bind_wrap (T.self _ 0 s _ _ st (seg_again rfl loop)))))

theorem boot_all : bootBuiltins "all" = some (.builtin "all") := by decide +kernel

/-- all(elt for target in iter): W by the turn and a measure -/
def tAllG (P : Addr) (wi : TI) (g : TG) (te : TE) (vs : List Nat) : TE := fun σ H Q => wi σ H fun J H1 => GxR.TabG H1 P ∧ ∀ H2, GxR.Tabbed P H1 H2 → ∃ W : Nat → Nat → Hp → Prop, (∃ m, W 0 m H2) ∧ ∀ i m H, W i m H →
  (J.stop i H ∧ Q (.bl true) H) ∨ (J.go i H ∧ ∃ Nx : Hp → Prop, (∀ H', Nx H' → ∃ m', m' < m ∧ W (i + 1) m' H') ∧ ∀ x H', J.yld i H x H' → g x (wipe σ vs) H' fun σ2 H3 => wipe σ2 vs = wipe σ vs ∧ te σ2 H3 fun y H4 => ∃ b, y = .bl b ∧ if b = true then Nx H4 else Q (.bl false) H4)
theorem pe_all {X : Cx} {k : Nat} {c P : Addr} {elt tg iter : Expr} {scope : Scope} {own : List (Str × Nat)} {p pos gpos : Pos} {wi : TI} {g : TG} {te : TE}
    (hr : Room k X.A) (hg : Gl X "all") (hm : X.mg "all" = none) (TB : GxR.TabB X.base X.mg c P) (hcode : X.env.code = .ref c) (ok : GOk X.N X.env.scope scope own) (hN : X.N.Nodup) (hi : PI X tg iter wi)
    (hpg : ∀ (s : Shared) (H : Hp) (C : Addr) (cl : List (Str × Addr)) (code : Value) (fp : List Addr) (pn : List (Addr × Obj)), PG (gblk X s H (genEnv scope cl C code builtinsNs X.env) fp pn) tg g)
    (hpe : ∀ (s : Shared) (H : Hp) (C : Addr) (cl : List (Str × Addr)) (code : Value) (fp : List Addr) (pn : List (Addr × Obj)), PE (gblk X s H (genEnv scope cl C code builtinsNs X.env) fp pn) elt te)
    (hs : ∀ v, genFold iter X.env v = pure v := by intro _; rfl)
    (he : starEach [.GeneratorExp elt [⟨tg, iter, [], 0⟩] scope gpos] X.env = (false, eval (.GeneratorExp elt [⟨tg, iter, [], 0⟩] scope gpos) X.env) :: starEach [] X.env := by rfl) :
    PE X (.Call (.Name "all" p) [.GeneratorExp elt [⟨tg, iter, [], 0⟩] scope gpos] [] pos) (tAllG P wi g te (own.map (·.2))) := by
  refine ⟨fun pins s σ H Q I h => ?_⟩
  have hfree : ∀ y ∈ scope.names, y.2 = .free → ∃ c, X.env.cells.lookup y.1 = some c := fun y hy e => by
    rcases ok.blk.free y hy e with k | k
    · exact I.ok.has _ (.inl k)
    · exact I.ok.has _ (.inr k)
  have hdp : X.A.depth < recursionLimit := by have := hr.dp; omega
  refine wpAny_Call_Name_kw (ld_blt I hg hm boot_all ?_)
  refine PyProof.Rows.callWith_builtin1 ?_ he (by rfl)
  rw [he]
  show wpAny _ _ (spliced ((false, eval (.GeneratorExp elt [⟨tg, iter, [], 0⟩] scope gpos) X.env) :: backTo pos (starEach [] X.env))) _ _ s
  refine Calls.spliced_cons (wpAny_GeneratorExp_make ok.co (closure_ok hfree) ok.cell ok.dot ok.blk.kind hdp ?_ hs)
  refine thn (hi.run pins s σ H _ I h) fun xv s1 hx => thn hx fun itv s2 h2 => ?_
  obtain ⟨it, fp, tn, J, H1, e, I2, T, st2, f2, ⟨ps, hP, ht⟩, q⟩ := h2
  subst e
  refine ⟨I2.nolimit, ?_⟩
  have hPs : s2.heap.get? P = some { cls := .none, data := .fields ps } := I2.hok P _ hP
  have cd : PySem.W.CodeHd s2.heap c P := TB.code.keeps fun b u e => I2.bk b u e
  have sz : ∀ b ∈ fp, b < s2.heap.objs.size := fun b hb => by
    obtain ⟨o, e, _⟩ := T.obj _ _ st2 b hb
    exact Heap.lt_size e
  have nfP : ∀ b ∈ fp, b ≠ P := fun b hb z => by
    have n := (f2 b hb).1
    rw [z, hP] at n
    cases n
  refine wpAny_mono (Q := fun code s3 => ∃ h3 tk ps', s3 = { s2 with heap := h3, toks := tk } ∧ Heap.ExtBut P s2.heap h3 ∧ s2.heap.objs.size ≤ h3.objs.size ∧ h3.get? P = some { cls := .none, data := .fields ps' } ∧ (∃ more, ps' = ps ++ more) ∧ TriplesOk ps'.toList) (E := X.xe) ?_ (fun code s3 h3 => ?_) fun _ _ z => z
  · cases hf : codeAmong gpos ps.toList with
    | none =>
      refine wpAny_genexprCodeX hcode (cd.code hPs ht) (cd.tab hPs) hf fun c' h' tk hx hge hlt hco' _ htab' _ => ?_
      obtain ⟨o1, vs, f1, tf, fl, tg, inF, tx, tt, op, _, _, _, _, _, _, _, _, _, htr, _⟩ := hco'
      exact ⟨h', tk, _, rfl, hx, Nat.le_trans hge (Nat.le_of_lt hlt), htab'.2, ⟨_, rfl⟩, htr⟩
    | some cv =>
      refine wpAny_genexprCode_hit hcode (cd.code hPs ht) hf ?_
      exact ⟨s2.heap, s2.toks, ps, rfl, Heap.ExtBut.refl _ _, Nat.le_refl _, hPs, ⟨#[], by simp⟩, ht⟩
  obtain ⟨h3, tk, ps', rfl, hx3, hsz3, hP3, ⟨more, em⟩, ht3⟩ := h3
  have J0 : Inv X pins σ (upd H1 P (.tbl (ps ++ more))) { s2 with heap := h3, toks := tk } :=
    GxR.inv_tab (more := more) (h' := h3) (g' := s2.gens) (d' := s2.drawn) (t' := tk) I2 hP (fun b u hb e => hx3 b u hb e) (by rw [← em]; exact hP3) I2.bare
  have tabd : GxR.Tabbed P H1 (upd H1 P (.tbl (ps ++ more))) := ⟨⟨ps ++ more, upd_same, by rw [← em]; exact ht3⟩, fun b hb => upd_ne hb⟩
  obtain ⟨W, ⟨m0, w0⟩, turn⟩ := q _ tabd
  generalize hH2 : upd H1 P (.tbl (ps ++ more)) = H2 at J0 tabd w0
  have f4 : ∀ b ∈ fp, FpOk X pins H2 b ∧ b < h3.objs.size := fun b hb => by
    refine ⟨⟨?_, (f2 b hb).2⟩, Nat.lt_of_lt_of_le (sz b hb) hsz3⟩
    rw [← hH2, upd_ne (nfP b hb)]
    exact (f2 b hb).1
  have st3 : tn 0 h3 := T.keep _ _ _ st2 fun b hb o e => hx3 b o (nfP b hb) e
  obtain ⟨bm, ob, e1, e2, e3, e4, e5, e6, e7, e8⟩ := TB.bm
  refine wpAny_builtinsFor (m := X.mg) (by rw [I2.ok.glob]; exact (I2.mod.glob.keeps I2.bk).extBut hx3 TB.gP) e1 e2 (hx3 _ _ e4 (I2.bk _ _ e5)) e6 e7 e8 ?_
  intro h' hn hs'
  have hsz : h'.objs.size = h3.objs.size + 1 := by rw [hs'.1, Heap.size_push]
  have keep' : ∀ b o, h3.get? b = some o → h'.get? b = some o := fun b o e => hs'.extBut b o (Nat.ne_of_lt (Heap.lt_size e)) (Heap.get?_push_of_some _ e)
  refine Calls.spliced_nil ?_
  generalize hgo : ({ cls := .type "generator", data := .fields #[.int s2.gens.size 0, .str "<genexpr>" (tk + 1), .str (X.env.qual ++ "<genexpr>") (tk + 1 + 1)] } : Obj) = gob
  have hgd : ∀ v, gob.data ≠ .cell v := fun v z => by rw [← hgo] at z; cases z
  have hfr : gob.isFreed = false := by rw [← hgo]; rfl
  have k5 : ∀ b o, h3.get? b = some o → (h'.push gob).get? b = some o := fun b o e => Heap.get?_push_of_some _ (keep' b o e)
  have ha5 : (h'.push gob).get? h'.objs.size = some gob := Heap.get?_push_size _ hfr
  have hgb : ∀ cc, AllBare (s2.gens.push (.fresh cc)) := fun cc y hy => by
    rcases Array.mem_push.mp hy with z | z
    · exact I2.bare y z
    · rw [z]; rfl
  have I5 := fun cc => gen_start (code := code) (it := .ref it) (g' := s2.gens.push (.fresh cc)) (t' := tk + 1 + 1 + 1) J0 ok hN hr.hd f4 (hn.push gob) k5 ha5 (by show h3.objs.size < h'.objs.size; omega) hgd (hgb cc)
  generalize hce : genEnv scope (cloFrom X.env.cells scope.names []) h3.objs.size code builtinsNs X.env = ce
  have hce' : genEnv scope (cloFrom X.env.cells scope.names []) ({ s2 with heap := h3, toks := tk } : Shared).heap.objs.size code builtinsNs X.env = ce := hce
  rw [hce'] at I5
  have I5' := I5 (.compStart (.GeneratorExp elt [⟨tg, iter, [], 0⟩] scope gpos) 0 (.ref it) .none ce)
  have pg := hpg { s2 with heap := h3, toks := tk } H2 h3.objs.size (cloFrom X.env.cells scope.names []) code fp [(h'.objs.size, gob)]
  have pe := hpe { s2 with heap := h3, toks := tk } H2 h3.objs.size (cloFrom X.env.cells scope.names []) code fp [(h'.objs.size, gob)]
  rw [hce] at pg pe
  have st5 : tn 0 (h'.push gob) := T.keep _ _ _ st3 fun b _ o e => k5 b o e
  have hco : ce.scope.isCoroutine = false := by rw [← hce]; exact ok.co
  have hpn : ∀ p ∈ [(h'.objs.size, gob)], p.1 ∉ fp := fun p hp hb => by
    have hp' : p = (h'.objs.size, gob) := by simpa using hp
    rw [hp'] at hb
    have h9 : (h'.objs.size : Nat) < h3.objs.size := (f4 _ hb).2
    omega
  have back : ∀ {σ' : L2.St} {H' : Hp} {s' : Shared}, Inv (gblk X { s2 with heap := h3, toks := tk } H2 ce fp [(h'.objs.size, gob)]) [] σ' H' s' → Inv X pins σ H' s' := fun {σ' H' s'} I6 =>
    J0.call' (ch := fp) I6.os I6.base I6.hok I6.bare fun b hb => ⟨(f4 b hb).1.2.2.2.1, (f4 b hb).1.2.1, (f4 b hb).1.2.2.2.2.1, (f4 b hb).1.2.2.2.2.2⟩
  have isg : ∀ {σ' : L2.St} {H' : Hp} {s' : Shared}, Inv (gblk X { s2 with heap := h3, toks := tk } H2 ce fp [(h'.objs.size, gob)]) [] σ' H' s' → s'.heap.IsGen h'.objs.size s2.gens.size := fun {σ' H' s'} I6 => by
    have z := (I6.pin (h'.objs.size, gob) (List.mem_append_left _ List.mem_cons_self)).1
    exact ⟨gob, _, _, z, by rw [← hgo], by rw [← hgo], by rw [← hgo]⟩
  have hww : wipe (wipe σ (own.map (·.2))) (own.map (·.2)) = wipe σ (own.map (·.2)) := wipe_wipe σ _
  refine call_function_tree F.kind_all F.plain_all F.entry_all (F.args_all1 _) ?_
  unfold Builtin.«all»
  refine wpAny_bind (m := oneArg "all" _) (wpAny_pure ?_)
  refine wpAny_bind (wpAny_pyIter_gen (isg I5') ?_)
  refine wpAny_pure ⟨plainId_quiet F.plain_all_loop _, all_loop (Y := gblk X { s2 with heap := h3, toks := tk } H2 ce fp [(h'.objs.size, gob)]) (g := s2.gens.size)
    (FT := fun s₁ => ∃ σ' H', Inv (gblk X { s2 with heap := h3, toks := tk } H2 ce fp [(h'.objs.size, gob)]) [] σ' H' s₁ ∧ Q (.bl true) H') (FF := fun s₁ => ∃ σ' H', Inv (gblk X { s2 with heap := h3, toks := tk } H2 ce fp [(h'.objs.size, gob)]) [] σ' H' s₁ ∧ Q (.bl false) H')
    hr.hd hdp isg (fun s1 h9 gs' ⟨σ', H', I6, q6⟩ hk hb => ?_) (fun s1 gs' ⟨σ', H', I6, q6⟩ hb => ?_) (m0 + 1) _ ⟨⟨_, _, I5'⟩, .fresh (.compStart (.GeneratorExp elt [⟨tg, iter, [], 0⟩] scope gpos) 0 (.ref it) .none ce), by simp, fun s'' rs => ⟨rfl, ?_⟩⟩⟩
  · refine gseg_start T (by rw [rs.heap]; exact st5) ?_
    refine gseg_loop (σw := wipe σ (own.map (·.2))) (vs := own.map (·.2)) (W := W) T hco hww pg pe hpn turn (m0 + 1) 0 m0 H2 s'' s'' (Nat.lt_succ_self _) (rs.inv I5') (by rw [rs.heap]; exact st5) (fun b hb => (f4 b hb).1.1) w0
  · have I7 := (Inv_gens I6 (bare_set (g := s2.gens.size) (x := gs') I6.bare hb)).kept (t' := s1.toks) (h' := h9) hk
    exact ⟨.bl true, H', back I7, rfl, q6⟩
  · exact ⟨.bl false, H', back (Inv_gens I6 (bare_set (g := s2.gens.size) (x := gs') I6.bare hb)), rfl, q6⟩
end Mk

/-! ### MkData -/
set_option Elab.async false
set_option linter.all false
set_option maxRecDepth 100000
set_option maxHeartbeats 4000000
namespace Mk
open PySem PySem.Spec PyProof.Rows L2

/-- data -/
inductive D where
  | non | bl (b : Bool) | int (i : Int) | str (s : Str) | tup (l : List D) | lst (l : List D)

mutual
def Im (K : PySem.W.Frag) (H : Hp) : D → V → Prop
  | .non, v => v = .non
  | .bl b, v => v = .bl b
  | .int i, v => v = .int i
  | .str s, v => v = .str s
  | .tup ds, v => ∃ a xs, v = .ref a ∧ SqT K H a xs ∧ ImL K H ds xs
  | .lst ds, v => ∃ a xs, v = .ref a ∧ SqL K H a xs ∧ ImL K H ds xs
def ImL (K : PySem.W.Frag) (H : Hp) : List D → List V → Prop
  | [], xs => xs = []
  | d :: ds, xs => ∃ v vs, xs = v :: vs ∧ Im K H d v ∧ ImL K H ds vs
end
/-- all but tables stays -/
abbrev ExtN := LamX.ExtN
/-- what is read stays so -/
structure EE (K : PySem.W.Frag) (H H' : Hp) : Prop where
  t : ∀ a xs, SqT K H a xs → SqT K H' a xs
  l : ∀ a xs, SqL K H a xs → SqL K H' a xs
theorem ExtN.ee {K : PySem.W.Frag} {H H' : Hp} (e : ExtN H H') : EE K H H' := by
  refine ⟨fun a xs h => ?_, fun a xs h => ?_⟩
  · rcases h with (h | ⟨o, h⟩) | h
    · exact .inl (.inl (e _ _ h fun ps z => by cases z))
    · exact .inl (.inr ⟨o, e _ _ h fun ps z => by cases z⟩)
    · exact .inr h
  · rcases h with (h | ⟨o, h⟩) | h
    · exact .inl (.inl (e _ _ h fun ps z => by cases z))
    · exact .inl (.inr ⟨o, e _ _ h fun ps z => by cases z⟩)
    · exact .inr h
mutual
theorem Im.mono {K : PySem.W.Frag} {H H' : Hp} (e : EE K H H') : ∀ {d : D} {v : V}, Im K H d v → Im K H' d v
  | .non, _, h => h
  | .bl _, _, h => h
  | .int _, _, h => h
  | .str _, _, h => h
  | .tup ds, _, h => by
    unfold Im at h ⊢
    obtain ⟨a, xs, h1, h2, h3⟩ := h
    exact ⟨a, xs, h1, e.t _ _ h2, ImL.mono e h3⟩
  | .lst ds, _, h => by
    unfold Im at h ⊢
    obtain ⟨a, xs, h1, h2, h3⟩ := h
    exact ⟨a, xs, h1, e.l _ _ h2, ImL.mono e h3⟩
theorem ImL.mono {K : PySem.W.Frag} {H H' : Hp} (e : EE K H H') : ∀ {ds : List D} {vs : List V}, ImL K H ds vs → ImL K H' ds vs
  | [], _, h => h
  | d :: ds, _, h => by
    unfold ImL at h ⊢
    obtain ⟨v, vs, h1, h2, h3⟩ := h
    exact ⟨v, vs, h1, Im.mono e h2, ImL.mono e h3⟩
end
/-! no list within -/
mutual
def NoL : D → Prop
  | .tup ds => NoLs ds
  | .lst _ => False
  | _ => True
def NoLs : List D → Prop
  | [] => True
  | d :: ds => NoL d ∧ NoLs ds
end
abbrev TSt (K : PySem.W.Frag) (H H' : Hp) : Prop := ∀ a xs, SqT K H a xs → SqT K H' a xs
mutual
theorem Im.tt {K : PySem.W.Frag} {H H' : Hp} (e : TSt K H H') : ∀ {d : D} {v : V}, NoL d → Im K H d v → Im K H' d v
  | .non, _, _, h => h
  | .bl _, _, _, h => h
  | .int _, _, _, h => h
  | .str _, _, _, h => h
  | .tup ds, _, n, h => by
    unfold Im at h ⊢
    unfold NoL at n
    obtain ⟨a, xs, h1, h2, h3⟩ := h
    exact ⟨a, xs, h1, e _ _ h2, ImL.tt e n h3⟩
  | .lst ds, _, n, h => by unfold NoL at n; exact n.elim
theorem ImL.tt {K : PySem.W.Frag} {H H' : Hp} (e : TSt K H H') : ∀ {ds : List D} {vs : List V}, NoLs ds → ImL K H ds vs → ImL K H' ds vs
  | [], _, _, h => h
  | d :: ds, _, n, h => by
    unfold ImL at h ⊢
    unfold NoLs at n
    obtain ⟨v, vs, h1, h2, h3⟩ := h
    exact ⟨v, vs, h1, Im.tt e n.1 h2, ImL.tt e n.2 h3⟩
end
theorem TSt.upd_new {K : PySem.W.Frag} {H : Hp} {p : Addr} {o : HO} (h : H p = none) : TSt K H (upd H p o) := fun a xs q => by
  rcases q with (q | ⟨ob, q⟩) | q
  · exact .inl (.inl (by rw [upd_ne (ne_of_none q h)]; exact q))
  · exact .inl (.inr ⟨ob, by rw [upd_ne (ne_of_none q h)]; exact q⟩)
  · exact .inr q
theorem TSt.upd_lst {K : PySem.W.Frag} {H : Hp} {p : Addr} {xs : List V} {o : HO} (h : H p = some (.lst xs)) : TSt K H (upd H p o) := fun a ys q => by
  rcases q with (q | ⟨ob, q⟩) | q
  · exact .inl (.inl (by rw [upd_ne (ne_of q h (by intro z; cases z))]; exact q))
  · exact .inl (.inr ⟨ob, by rw [upd_ne (ne_of q h (by intro z; cases z))]; exact q⟩)
  · exact .inr q
theorem TSt.refl {K : PySem.W.Frag} (H : Hp) : TSt K H H := fun _ _ h => h
theorem TSt.trans {K : PySem.W.Frag} {H H1 H2 : Hp} (a : TSt K H H1) (b : TSt K H1 H2) : TSt K H H2 := fun x y h => b x y (a x y h)
theorem ExtN.new {H : Hp} {p : Addr} {o : HO} (h : H p = none) : ExtN H (upd H p o) := fun a u e _ => by
  rw [upd_ne (ne_of_none e h)]; exact e
/-- an object that H does not know may change -/
theorem ExtN.mut {H H' : Hp} {p : Addr} {o : HO} (e : ExtN H H') (h : H p = none) : ExtN H (upd H' p o) := fun a u ha n => by
  rw [upd_ne (ne_of_none ha h)]; exact e a u ha n
theorem ImL.length {K : PySem.W.Frag} {H : Hp} : ∀ {ds : List D} {vs : List V}, ImL K H ds vs → vs.length = ds.length
  | [], _, h => by unfold ImL at h; rw [h]; rfl
  | d :: ds, _, h => by
    unfold ImL at h
    obtain ⟨v, vs, rfl, _, h3⟩ := h
    rw [List.length_cons, List.length_cons, ImL.length h3]
theorem ImL.get {K : PySem.W.Frag} {H : Hp} : ∀ {ds : List D} {vs : List V} {i : Nat} {v : V}, ImL K H ds vs → vs[i]? = some v → ∃ d, ds[i]? = some d ∧ Im K H d v
  | [], _, i, v, h, e => by unfold ImL at h; rw [h] at e; cases e
  | d :: ds, _, 0, v, h, e => by
    unfold ImL at h
    obtain ⟨w, vs, rfl, h2, _⟩ := h
    cases e
    exact ⟨d, rfl, h2⟩
  | d :: ds, _, i + 1, v, h, e => by
    unfold ImL at h
    obtain ⟨w, vs, rfl, _, h3⟩ := h
    exact ImL.get (i := i) h3 e
theorem ImL.get' {K : PySem.W.Frag} {H : Hp} : ∀ {ds : List D} {vs : List V} {i : Nat} {d : D}, ImL K H ds vs → ds[i]? = some d → ∃ v, vs[i]? = some v ∧ Im K H d v
  | [], _, i, d, h, e => by cases e
  | d :: ds, _, 0, v, h, e => by
    unfold ImL at h
    obtain ⟨w, vs, rfl, h2, _⟩ := h
    cases e
    exact ⟨w, rfl, h2⟩
  | d :: ds, _, i + 1, v, h, e => by
    unfold ImL at h
    obtain ⟨w, vs, rfl, _, h3⟩ := h
    exact ImL.get' (i := i) h3 e
theorem ImL.append {K : PySem.W.Frag} {H : Hp} : ∀ {ds es : List D} {vs ws : List V}, ImL K H ds vs → ImL K H es ws → ImL K H (ds ++ es) (vs ++ ws)
  | [], _, _, _, h, k => by unfold ImL at h; rw [h]; exact k
  | d :: ds, _, _, _, h, k => by
    unfold ImL at h
    obtain ⟨v, vs, rfl, h2, h3⟩ := h
    show ImL K H (d :: (ds ++ _)) (v :: (vs ++ _))
    unfold ImL
    exact ⟨v, _, rfl, h2, ImL.append h3 k⟩
theorem imL_nil {K : PySem.W.Frag} {H : Hp} : ImL K H [] [] := by unfold ImL; rfl
theorem imL_cons {K : PySem.W.Frag} {H : Hp} {d : D} {v : V} {ds : List D} {vs : List V} (h : Im K H d v) (k : ImL K H ds vs) : ImL K H (d :: ds) (v :: vs) := by unfold ImL; exact ⟨v, vs, rfl, h, k⟩
theorem im_tup {K : PySem.W.Frag} {H : Hp} {a : Addr} {ds : List D} {xs : List V} (h : SqT K H a xs) (k : ImL K H ds xs) : Im K H (.tup ds) (.ref a) := by unfold Im; exact ⟨a, xs, rfl, h, k⟩
theorem im_tup' {K : PySem.W.Frag} {H : Hp} {v : V} {ds : List D} (h : Im K H (.tup ds) v) : ∃ a xs, v = .ref a ∧ SqT K H a xs ∧ ImL K H ds xs := by unfold Im at h; exact h
theorem im_int {K : PySem.W.Frag} {H : Hp} {i : Int} : Im K H (.int i) (.int i) := by unfold Im; rfl
theorem im_int' {K : PySem.W.Frag} {H : Hp} {i : Int} {v : V} (h : Im K H (.int i) v) : v = .int i := by unfold Im at h; exact h
theorem im_non {K : PySem.W.Frag} {H : Hp} : Im K H .non .non := by unfold Im; rfl

/-! ### isinstance -/
def tyD : D → String
  | .non => "NoneType" | .bl _ => "bool" | .int _ => "int" | .str _ => "str" | .tup _ => "tuple" | .lst _ => "list"
theorem Im.ty {K : PySem.W.Frag} {H : Hp} : ∀ {d : D} {v : V}, Im K H d v → TyX K H v (.type (tyD d))
  | .non, v, h => by unfold Im at h; subst h; exact .base .non
  | .bl b, v, h => by unfold Im at h; subst h; exact .base (.bl b)
  | .int i, v, h => by unfold Im at h; subst h; exact .base (.int i)
  | .str s, v, h => by unfold Im at h; subst h; exact .base (.str s)
  | .tup ds, v, h => by
    unfold Im at h
    obtain ⟨a, xs, rfl, h2, _⟩ := h
    rcases h2 with (h | ⟨o, h⟩) | ⟨o, its, n, h, c, _⟩
    · exact .base (.tup h)
    · exact .fTuple h
    · exact .kTuple h c
  | .lst ds, v, h => by
    unfold Im at h
    obtain ⟨a, xs, rfl, h2, _⟩ := h
    rcases h2 with (h | ⟨o, h⟩) | ⟨o, its, n, h, c, _⟩
    · exact .base (.lst h)
    · exact .base (.frz h)
    · exact .kList h c
def isInt : D → Bool | .int _ => true | .bl _ => true | _ => false
def isBool : D → Bool | .bl _ => true | _ => false
def isTup : D → Bool | .tup _ => true | _ => false
def isLst : D → Bool | .lst _ => true | _ => false
def isStr : D → Bool | .str _ => true | _ => false
theorem kit_int : ∀ d : D, kitB (tyD d) "int" = some (isInt d)
  | .non => (by decide +kernel : kitB "NoneType" "int" = some false)
  | .bl _ => (by decide +kernel : kitB "bool" "int" = some true)
  | .int _ => (by decide +kernel : kitB "int" "int" = some true)
  | .str _ => (by decide +kernel : kitB "str" "int" = some false)
  | .tup _ => (by decide +kernel : kitB "tuple" "int" = some false)
  | .lst _ => (by decide +kernel : kitB "list" "int" = some false)
theorem kit_bool : ∀ d : D, kitB (tyD d) "bool" = some (isBool d)
  | .non => (by decide +kernel : kitB "NoneType" "bool" = some false)
  | .bl _ => (by decide +kernel : kitB "bool" "bool" = some true)
  | .int _ => (by decide +kernel : kitB "int" "bool" = some false)
  | .str _ => (by decide +kernel : kitB "str" "bool" = some false)
  | .tup _ => (by decide +kernel : kitB "tuple" "bool" = some false)
  | .lst _ => (by decide +kernel : kitB "list" "bool" = some false)
theorem kit_tuple : ∀ d : D, kitB (tyD d) "tuple" = some (isTup d)
  | .non => (by decide +kernel : kitB "NoneType" "tuple" = some false)
  | .bl _ => (by decide +kernel : kitB "bool" "tuple" = some false)
  | .int _ => (by decide +kernel : kitB "int" "tuple" = some false)
  | .str _ => (by decide +kernel : kitB "str" "tuple" = some false)
  | .tup _ => (by decide +kernel : kitB "tuple" "tuple" = some true)
  | .lst _ => (by decide +kernel : kitB "list" "tuple" = some false)
theorem kit_list : ∀ d : D, kitB (tyD d) "list" = some (isLst d)
  | .non => (by decide +kernel : kitB "NoneType" "list" = some false)
  | .bl _ => (by decide +kernel : kitB "bool" "list" = some false)
  | .int _ => (by decide +kernel : kitB "int" "list" = some false)
  | .str _ => (by decide +kernel : kitB "str" "list" = some false)
  | .tup _ => (by decide +kernel : kitB "tuple" "list" = some false)
  | .lst _ => (by decide +kernel : kitB "list" "list" = some true)
theorem kit_str : ∀ d : D, kitB (tyD d) "str" = some (isStr d)
  | .non => (by decide +kernel : kitB "NoneType" "str" = some false)
  | .bl _ => (by decide +kernel : kitB "bool" "str" = some false)
  | .int _ => (by decide +kernel : kitB "int" "str" = some false)
  | .str _ => (by decide +kernel : kitB "str" "str" = some true)
  | .tup _ => (by decide +kernel : kitB "tuple" "str" = some false)
  | .lst _ => (by decide +kernel : kitB "list" "str" = some false)
theorem rd_int {K : PySem.W.Frag} {H : Hp} {d : D} {v : V} {Q : VK} (h : Im K H d v) (q : Q (.bl (isInt d)) H) : rIsi K [v, .ty "int"] H Q :=
  ⟨v, .ty "int", _, _, _, rfl, .ty _, h.ty, kit_ty (kit_int d), q⟩
theorem rd_bool {K : PySem.W.Frag} {H : Hp} {d : D} {v : V} {Q : VK} (h : Im K H d v) (q : Q (.bl (isBool d)) H) : rIsi K [v, .ty "bool"] H Q :=
  ⟨v, .ty "bool", _, _, _, rfl, .ty _, h.ty, kit_ty (kit_bool d), q⟩
theorem rd_tuple {K : PySem.W.Frag} {H : Hp} {d : D} {v : V} {Q : VK} (h : Im K H d v) (q : Q (.bl (isTup d)) H) : rIsi K [v, .ty "tuple"] H Q :=
  ⟨v, .ty "tuple", _, _, _, rfl, .ty _, h.ty, kit_ty (kit_tuple d), q⟩
theorem rd_list {K : PySem.W.Frag} {H : Hp} {d : D} {v : V} {Q : VK} (h : Im K H d v) (q : Q (.bl (isLst d)) H) : rIsi K [v, .ty "list"] H Q :=
  ⟨v, .ty "list", _, _, _, rfl, .ty _, h.ty, kit_ty (kit_list d), q⟩
theorem rd_str {K : PySem.W.Frag} {H : Hp} {d : D} {v : V} {Q : VK} (h : Im K H d v) (q : Q (.bl (isStr d)) H) : rIsi K [v, .ty "str"] H Q :=
  ⟨v, .ty "str", _, _, _, rfl, .ty _, h.ty, kit_ty (kit_str d), q⟩
end Mk

/-! ### MkC -/
set_option Elab.async false
set_option linter.all false
set_option maxRecDepth 100000
set_option maxHeartbeats 4000000
namespace Mk
open PySem PySem.Spec PyProof.Rows L2
section
variable {K : PySem.W.Frag} {D' : Ends} {σ : L2.St} {H : Hp} {Q : VK} {QB : Bool → Hp → Prop} {te ta tb tc : TE} {t u : TT} {ts tz : TS} {i : Nat} {v : V}
theorem c_ret (h : te σ H D'.rt) : tRet te D' σ H := h
theorem c_retN (h : D'.rt .non H) : tRetN D' σ H := h
theorem c_seq (h : ts { D' with nx := tz D' } σ H) : tSeq ts tz D' σ H := h
theorem c_set (h : te σ H fun x H1 => D'.nx (σ.set i (some x)) H1) : tAsg te (gName i) D' σ H := h
theorem c_asg {g : TG} (h : te σ H fun x H1 => g x σ H1 D'.nx) : tAsg te g D' σ H := h
theorem c_aug {ti : TIp} {x : V} (e : σ[i]? = some (some x)) (h : te σ H fun y H1 => ti x y H1 fun z H2 => D'.nx (σ.set i (some z)) H2) : tAug i te ti D' σ H := ⟨x, e, h⟩
theorem v_un {g : Int → V} {a : Int} (ha : ∀ Q : VK, Q (.int a) H → ta σ H Q) : ∀ Q : VK, Q (g a) H → tUn (rU g) ta σ H Q := fun Q q => ha _ ⟨a, rfl, q⟩
theorem c_drop (h : te σ H fun _ H1 => D'.nx σ H1) : tDrop te D' σ H := h
theorem c_if (h : t σ H fun b H1 => if b = true then ts D' σ H1 else tz D' σ H1) : tIfS t ts tz D' σ H := h
theorem c_next (h : D'.nx σ H) : tNext D' σ H := h
theorem c_var (h : σ[i]? = some (some v)) (q : Q v H) : tVar i σ H Q := ⟨v, h, q⟩
theorem c_c (q : Q v H) : tC v σ H Q := q
theorem c_not (h : t σ H fun c H1 => QB (!c) H1) : tNot t σ H QB := h
theorem c_or (h : t σ H fun c H1 => if c = true then QB true H1 else u σ H1 QB) : tOr t u σ H QB := h
theorem c_and (h : t σ H fun c H1 => if c = true then u σ H1 QB else QB false H1) : tAnd t u σ H QB := h
theorem c_B (h : te σ H fun x H1 => ∃ c, x = .bl c ∧ QB c H1) : tB te σ H QB := h
theorem c_test (h : te σ H fun x H1 => ∃ c, x = .bl c ∧ QB c H1) : tTest te σ H QB := h
theorem c_op {r : R2} (h : ta σ H fun x H1 => tb σ H1 fun y H2 => r x y H2 Q) : tOp r ta tb σ H Q := h
theorem c_call {sp : Sp} {dvs : List V} {E : XK} {tl : TA} (h : tl σ H fun vs H1 => sp (vs ++ dvs) H1 Q E) : tCall sp dvs E tl σ H Q := h
theorem c_cons {tr : TA} {QL : List V → Hp → Prop} (h : ta σ H fun x H1 => tr σ H1 fun xs H2 => QL (x :: xs) H2) : tCons ta tr σ H QL := h
theorem c_nil {QL : List V → Hp → Prop} (h : QL [] H) : tNil σ H QL := h
theorem c_andV (h : ta σ H fun x H1 => ∃ c, x = .bl c ∧ if c = true then tb σ H1 Q else Q (.bl false) H1) : tAndV ta tb σ H Q := h
theorem c_orV (h : ta σ H fun x H1 => ∃ c, x = .bl c ∧ if c = true then Q (.bl true) H1 else tb σ H1 Q) : tOrV ta tb σ H Q := h
theorem c_notV (h : ta σ H fun x H1 => ∃ c, x = .bl c ∧ Q (.bl (!c)) H1) : tNotV ta σ H Q := h
theorem c_ifE (h : t σ H fun c H1 => if c = true then ta σ H1 Q else tb σ H1 Q) : tIf t ta tb σ H Q := h
/-! ### whole forms -/
theorem c_isInt {d : D} (e : σ[i]? = some (some v)) (hd : Im K H d v) (q : Q (.bl (isInt d)) H) : tCB (rIsi K) (tCons (tVar i) (tCons (tC (.ty "int")) tNil)) σ H Q := ⟨v, e, (rd_int hd q : rIsi K [v, .ty "int"] H Q)⟩
theorem c_isBool {d : D} (e : σ[i]? = some (some v)) (hd : Im K H d v) (q : Q (.bl (isBool d)) H) : tCB (rIsi K) (tCons (tVar i) (tCons (tC (.ty "bool")) tNil)) σ H Q := ⟨v, e, (rd_bool hd q : rIsi K [v, .ty "bool"] H Q)⟩
theorem c_isTup {d : D} (e : σ[i]? = some (some v)) (hd : Im K H d v) (q : Q (.bl (isTup d)) H) : tCB (rIsi K) (tCons (tVar i) (tCons (tC (.ty "tuple")) tNil)) σ H Q := ⟨v, e, (rd_tuple hd q : rIsi K [v, .ty "tuple"] H Q)⟩
theorem c_isLst {d : D} (e : σ[i]? = some (some v)) (hd : Im K H d v) (q : Q (.bl (isLst d)) H) : tCB (rIsi K) (tCons (tVar i) (tCons (tC (.ty "list")) tNil)) σ H Q := ⟨v, e, (rd_list hd q : rIsi K [v, .ty "list"] H Q)⟩
theorem c_isStr {d : D} (e : σ[i]? = some (some v)) (hd : Im K H d v) (q : Q (.bl (isStr d)) H) : tCB (rIsi K) (tCons (tVar i) (tCons (tC (.ty "str")) tNil)) σ H Q := ⟨v, e, (rd_str hd q : rIsi K [v, .ty "str"] H Q)⟩
/-- a <= b <= c, of ints that are known -/
theorem c_chain {a b c : Int} (ha : ∀ Q : VK, Q (.int a) H → ta σ H Q) (hb : ∀ Q : VK, Q (.int b) H → tb σ H Q) (hc : ∀ Q : VK, Q (.int c) H → tc σ H Q) (q : Q (.bl (decide (a ≤ b) && decide (b ≤ c))) H) :
    tChain (rI0 fun i j => .bl (decide (i ≤ j))) (rI0 fun i j => .bl (decide (i ≤ j))) ta tb tc σ H Q := by
  refine ha _ (hb _ ⟨a, b, rfl, rfl, _, rfl, ?_⟩)
  cases h1 : decide (a ≤ b) with
  | true =>
    refine iteT (hc _ ⟨b, c, rfl, rfl, ?_⟩)
    rw [h1] at q
    exact q
  | false =>
    refine iteF ?_
    rw [h1] at q
    exact q
theorem v_var {v : V} (e : σ[i]? = some (some v)) : ∀ Q : VK, Q v H → tVar i σ H Q := fun _ q => ⟨v, e, q⟩
theorem v_c {v : V} : ∀ Q : VK, Q v H → tC v σ H Q := fun _ q => q
/-- len of a list or a tuple -/
abbrev rLenQ (K : PySem.W.Frag) : List V → Hp → VK → Prop := fun xs H Q => ∃ p ys, xs = [.ref p] ∧ (SqL K H p ys ∨ SqT K H p ys) ∧ Q (.int ys.length) H
theorem v_len {a : Addr} {xs : List V} (ha : ∀ Q : VK, Q (.ref a) H → ta σ H Q) (h : SqL K H a xs ∨ SqT K H a xs) : ∀ Q : VK, Q (.int xs.length) H → tCB (rLenQ K) (tCons ta tNil) σ H Q := fun Q q => ha _ (show rLenQ K [.ref a] H Q from ⟨a, xs, rfl, h, q⟩)
/-- e[i] -/
theorem v_ixT {a : Addr} {xs : List V} {j : Int} {v : V} (ha : ∀ Q : VK, Q (.ref a) H → ta σ H Q) (hb : ∀ Q : VK, Q (.int j) H → tb σ H Q) (h : SqT K H a xs) (e : atI xs j = some v) : ∀ Q : VK, Q v H → tOp (rIxT K) ta tb σ H Q := fun Q q =>
  ha _ (hb _ ⟨a, xs, j, v, rfl, rfl, h, e, q⟩)
theorem v_ixL {a : Addr} {xs : List V} {j : Int} {v : V} (ha : ∀ Q : VK, Q (.ref a) H → ta σ H Q) (hb : ∀ Q : VK, Q (.int j) H → tb σ H Q) (h : SqL K H a xs) (e : atI xs j = some v) : ∀ Q : VK, Q v H → tOp (rIxL K) ta tb σ H Q := fun Q q =>
  ha _ (hb _ ⟨a, xs, j, v, rfl, rfl, h, e, q⟩)
theorem v_op0 {g : Int → Int → V} {a b : Int} (ha : ∀ Q : VK, Q (.int a) H → ta σ H Q) (hb : ∀ Q : VK, Q (.int b) H → tb σ H Q) : ∀ Q : VK, Q (g a b) H → tOp (rI0 g) ta tb σ H Q := fun Q q =>
  ha _ (hb _ ⟨a, b, rfl, rfl, q⟩)
theorem v_opb {g : Int → Int → Bool} {a b : Int} (ha : ∀ Q : VK, Q (.int a) H → ta σ H Q) (hb : ∀ Q : VK, Q (.int b) H → tb σ H Q) : ∀ Q : VK, Q (.bl (g a b)) H → tOp (rI0 fun i j => .bl (g i j)) ta tb σ H Q := fun Q q =>
  ha _ (hb _ ⟨a, b, rfl, rfl, q⟩)
theorem v_eq {x y : V} (ha : ∀ Q : VK, Q x H → ta σ H Q) (hb : ∀ Q : VK, Q y H → tb σ H Q) (hs : scal x y = true) : ∀ Q : VK, Q (.bl (decide (x = y))) H → tOp rEq ta tb σ H Q := fun Q q =>
  ha _ (hb _ ⟨hs, q⟩)
theorem v_ne {x y : V} (ha : ∀ Q : VK, Q x H → ta σ H Q) (hb : ∀ Q : VK, Q y H → tb σ H Q) (hs : scal x y = true) : ∀ Q : VK, Q (.bl (!decide (x = y))) H → tOp rNe ta tb σ H Q := fun Q q =>
  ha _ (hb _ ⟨hs, q⟩)
/-- the argument list -/
theorem va_cons {tr : TA} {x : V} {xs : List V} (ha : ∀ Q : VK, Q x H → ta σ H Q) (hr : ∀ Q : List V → Hp → Prop, Q xs H → tr σ H Q) : ∀ Q : List V → Hp → Prop, Q (x :: xs) H → tCons ta tr σ H Q := fun Q q => ha _ (hr _ q)
theorem va_nil : ∀ Q : List V → Hp → Prop, Q [] H → tNil σ H Q := fun Q q => q
theorem c_callv {sp : Sp} {dvs : List V} {E : XK} {tl : TA} {xs : List V} (h : ∀ Q : List V → Hp → Prop, Q xs H → tl σ H Q) (q : sp (xs ++ dvs) H Q E) : tCall sp dvs E tl σ H Q := h _ q
theorem c_v {x : V} (h : ∀ Q : VK, Q x H → te σ H Q) (q : Q x H) : te σ H Q := h Q q
/-- a test of a known bool -/
theorem c_testv {b : Bool} (h : ∀ Q : VK, Q (.bl b) H → te σ H Q) (q : QB b H) : tTest te σ H QB := h _ ⟨b, rfl, q⟩
theorem c_Bv {b : Bool} (h : ∀ Q : VK, Q (.bl b) H → te σ H Q) (q : QB b H) : tB te σ H QB := h _ ⟨b, rfl, q⟩
end
end Mk

/-! ### MkX1 -/
set_option Elab.async false
set_option linter.all false
set_option maxRecDepth 100000
set_option maxHeartbeats 4000000
namespace Mx
open PySem PySem.Spec PyProof.Rows L2
open GxR (TabG Tabbed)
/-! ### values, objects, outcomes -/
/-- a value: plain, a tuple, or the n-th object -/
inductive A where
  | non | bl (b : Bool) | int (i : Int) | str (s : Str) | ty (n : String) | tup (l : List A) | ref (n : Nat)
/-- an object that may change; dr: the row of the draws -/
inductive Ob where
  | lst (l : List A) | ins (c : Nat) (fs : List (Str × A)) | dr
abbrev Sto := List Ob
abbrev Ev := List (Option A)
/-- an error: its class's number, its field -/
abbrev Xc := Nat × Option (Str × A)
inductive R (α : Type) where
  | ok (a : α) | exc (x : Xc) (s : Sto) | fail | draw (n : Nat) (k : Nat → R α)
variable {α β : Type}
def R.bind : R α → (α → R β) → R β
  | .ok a, f => f a
  | .exc x s, _ => .exc x s
  | .fail, _ => .fail
  | .draw n k, f => .draw n fun i => (k i).bind f
def R.holds : R α → (α → Prop) → (Xc → Sto → Prop) → Prop
  | .ok a, Q, _ => Q a
  | .exc x s, _, E => E x s
  | .fail, _, _ => False
  | .draw n k, Q, E => ∀ i, i < n → (k i).holds Q E
theorem holds_bind {f : α → R β} {Q : β → Prop} {E : Xc → Sto → Prop} : ∀ {r : R α}, (r.bind f).holds Q E → r.holds (fun a => (f a).holds Q E) E
  | .ok a, h => h
  | .exc x s, h => h
  | .fail, h => h
  | .draw n k, h => fun i hi => holds_bind (h i hi)
theorem holds_mono {Q Q' : α → Prop} {E E' : Xc → Sto → Prop} (q : ∀ a, Q a → Q' a) (e : ∀ x s, E x s → E' x s) : ∀ {r : R α}, r.holds Q E → r.holds Q' E'
  | .ok a, h => q a h
  | .exc x s, h => e x s h
  | .fail, h => h
  | .draw n k, h => fun i hi => holds_mono q e (h i hi)

/-! ### the context -/
structure Gx where
  K : PySem.W.Frag
  Am : Hp → Prop
  /-- the classes: of errors, of objects -/
  xc : Nat → Addr
  cl : Nat → Addr

mutual
def Im (K : PySem.W.Frag) (H : Hp) (ι : List Addr) : A → V → Prop
  | .non, v => v = .non
  | .bl b, v => v = .bl b
  | .int i, v => v = .int i
  | .str s, v => v = .str s
  | .ty n, v => v = .ty n
  | .ref n, v => ∃ a, ι[n]? = some a ∧ v = .ref a
  | .tup ds, v => ∃ a xs, v = .ref a ∧ SqT K H a xs ∧ ImL K H ι ds xs
def ImL (K : PySem.W.Frag) (H : Hp) (ι : List Addr) : List A → List V → Prop
  | [], xs => xs = []
  | d :: ds, xs => ∃ v vs, xs = v :: vs ∧ Im K H ι d v ∧ ImL K H ι ds vs
end
def ImF (K : PySem.W.Frag) (H : Hp) (ι : List Addr) : List (Str × A) → List (Str × V) → Prop
  | [], xs => xs = []
  | (f, d) :: ds, xs => ∃ v vs, xs = (f, v) :: vs ∧ Im K H ι d v ∧ ImF K H ι ds vs
/-- the script: never written -/
def ScrAt (K : PySem.W.Frag) (H : Hp) (ι : List Addr) (a : Addr) (xs : List V) : Prop :=
  (Rd H a (.lst xs) ∧ a ∉ ι) ∨ ∃ (o : Obj) (its : Array Value) (n : Nat), K.lookup a = some o ∧ o.cls = .type "list" ∧ o.dict = none ∧ o.data = .seq its n ∧ its.size ≤ sizeLine ∧ Vals xs its.toList
/-- the row of the draws at r -/
def RowX (K : PySem.W.Frag) (H : Hp) (ι : List Addr) (r : Addr) : Prop := ∃ (sa : Addr) (ns : List Int) (i x y : Int), H r = some (.lst [.ref sa, .int i, .int x, .int y]) ∧ ScrAt K H ι sa (ns.map .int) ∧ 0 ≤ i
def ImO (G : Gx) (H : Hp) (ι : List Addr) : Ob → Addr → Prop
  | .lst l, a => ∃ xs, H a = some (.lst xs) ∧ ImL G.K H ι l xs
  | .ins c fs, a => ∃ dx vs, H a = some (.ins (G.cl c) dx vs) ∧ ImF G.K H ι fs vs
  | .dr, a => RowX G.K H ι a
/-- how the objects lie -/
structure Rl (G : Gx) (ι : List Addr) (H : Hp) (st : Sto) : Prop where
  am : G.Am H
  len : ι.length = st.length
  nd : ι.Nodup
  ob : ∀ (n : Nat) (o : Ob) (a : Addr), st[n]? = some o → ι[n]? = some a → ImO G H ι o a
/-- the slots -/
structure EnvR (G : Gx) (ι : List Addr) (H : Hp) (env : Ev) (σ : L2.St) : Prop where
  len : σ.length = env.length
  at_ : ∀ (i : Nat) (a : A), env[i]? = some (some a) → ∃ v, σ[i]? = some (some v) ∧ Im G.K H ι a v
/-- what stays -/
structure Fr (ι : List Addr) (H : Hp) (ι' : List Addr) (H' : Hp) : Prop where
  pre : ι <+: ι'
  fresh : ∀ b ∈ ι', b ∈ ι ∨ H b = none
  keep : ∀ a o, H a = some o → a ∉ ι → (∀ ps, o ≠ .tbl ps) → H' a = some o
  some : ∀ a, H a ≠ none → H' a ≠ none
theorem Fr.refl (ι : List Addr) (H : Hp) : Fr ι H ι H := ⟨List.prefix_refl _, fun _ h => .inl h, fun _ _ h _ _ => h, fun _ h => h⟩
theorem Fr.trans {ι ι1 ι2 : List Addr} {H H1 H2 : Hp} (a : Fr ι H ι1 H1) (b : Fr ι1 H1 ι2 H2) : Fr ι H ι2 H2 := by
  have fr : ∀ x ∈ ι1, x ∈ ι ∨ H x = none := a.fresh
  refine ⟨a.pre.trans b.pre, fun x h => ?_, fun x o h n t => ?_, fun x h => b.some x (a.some x h)⟩
  · rcases b.fresh x h with q | q
    · exact fr x q
    · cases e : H x with
      | none => exact .inr rfl
      | some o => exact absurd q (a.some x (by rw [e]; simp))
  · refine b.keep x o (a.keep x o h n t) (fun q => ?_) t
    rcases fr x q with z | z
    · exact n z
    · rw [h] at z; cases z
/-- the kinds of objects -/
theorem Rl.kind {G : Gx} {ι : List Addr} {H : Hp} {st : Sto} (R : Rl G ι H st) {a : Addr} (h : a ∈ ι) : (∃ xs, H a = some (.lst xs)) ∨ ∃ C dx fs, H a = some (.ins C dx fs) := by
  obtain ⟨n, hn⟩ := List.getElem?_of_mem h
  have hl : n < ι.length := (List.getElem?_eq_some_iff.mp hn).1
  have q := R.ob n (st[n]'(by rw [← R.len]; exact hl)) a (List.getElem?_eq_getElem _) hn
  revert q
  generalize st[n]'(by rw [← R.len]; exact hl) = o
  intro q
  cases o with
  | lst l => obtain ⟨xs, e, _⟩ := q; exact .inl ⟨_, e⟩
  | ins c fs => obtain ⟨dx, vs, e, _⟩ := q; exact .inr ⟨_, _, _, e⟩
  | dr => obtain ⟨sa, ns, i, x, y, e, _⟩ := q; exact .inl ⟨_, e⟩
theorem Rl.seq {G : Gx} {ι ι' : List Addr} {H H' : Hp} {st : Sto} (R : Rl G ι H st) (f : Fr ι H ι' H') {a : Addr} {xs : List V} (h : SqT G.K H a xs) : SqT G.K H' a xs := by
  have nk : ∀ o, H a = some o → (∀ xs, o ≠ .lst xs) → (∀ C dx fs, o ≠ .ins C dx fs) → a ∉ ι := fun o e n1 n2 z => by
    rcases R.kind z with ⟨xs, q⟩ | ⟨C, dx, fs, q⟩
    · rw [e] at q; exact n1 _ (Option.some.inj q)
    · rw [e] at q; exact n2 _ _ _ (Option.some.inj q)
  rcases h with (h | ⟨o, h⟩) | h
  · exact .inl (.inl (f.keep _ _ h (nk _ h (fun _ z => by cases z) fun _ _ _ z => by cases z) fun ps z => by cases z))
  · exact .inl (.inr ⟨o, f.keep _ _ h (nk _ h (fun _ z => by cases z) fun _ _ _ z => by cases z) fun ps z => by cases z⟩)
  · exact .inr h
mutual
theorem Im.mono {K : PySem.W.Frag} {H H' : Hp} {ι ι' : List Addr} (p : ι <+: ι') (t : ∀ a xs, SqT K H a xs → SqT K H' a xs) : ∀ {d : A} {v : V}, Im K H ι d v → Im K H' ι' d v
  | .non, _, h => h
  | .bl _, _, h => h
  | .int _, _, h => h
  | .str _, _, h => h
  | .ty _, _, h => h
  | .ref n, _, h => by
    unfold Im at h ⊢
    obtain ⟨a, e, h⟩ := h
    obtain ⟨r, rfl⟩ := p
    exact ⟨a, by rw [List.getElem?_append_left (List.getElem?_eq_some_iff.mp e).1]; exact e, h⟩
  | .tup ds, _, h => by
    unfold Im at h ⊢
    obtain ⟨a, xs, h1, h2, h3⟩ := h
    exact ⟨a, xs, h1, t _ _ h2, ImL.mono p t h3⟩
theorem ImL.mono {K : PySem.W.Frag} {H H' : Hp} {ι ι' : List Addr} (p : ι <+: ι') (t : ∀ a xs, SqT K H a xs → SqT K H' a xs) : ∀ {ds : List A} {vs : List V}, ImL K H ι ds vs → ImL K H' ι' ds vs
  | [], _, h => h
  | d :: ds, _, h => by
    unfold ImL at h ⊢
    obtain ⟨v, vs, h1, h2, h3⟩ := h
    exact ⟨v, vs, h1, Im.mono p t h2, ImL.mono p t h3⟩
end
theorem ImF.mono {K : PySem.W.Frag} {H H' : Hp} {ι ι' : List Addr} (p : ι <+: ι') (t : ∀ a xs, SqT K H a xs → SqT K H' a xs) : ∀ {ds : List (Str × A)} {vs : List (Str × V)}, ImF K H ι ds vs → ImF K H' ι' ds vs
  | [], _, h => h
  | (f, d) :: ds, _, h => by
    unfold ImF at h ⊢
    obtain ⟨v, vs, h1, h2, h3⟩ := h
    exact ⟨v, vs, h1, Im.mono p t h2, ImF.mono p t h3⟩
section
variable {G : Gx} {ι ι' : List Addr} {H H' : Hp} {st : Sto}
theorem Rl.im (R : Rl G ι H st) (f : Fr ι H ι' H') {d : A} {v : V} (h : Im G.K H ι d v) : Im G.K H' ι' d v := Im.mono f.pre (fun _ _ => R.seq f) h
theorem Rl.imL (R : Rl G ι H st) (f : Fr ι H ι' H') {d : List A} {v : List V} (h : ImL G.K H ι d v) : ImL G.K H' ι' d v := ImL.mono f.pre (fun _ _ => R.seq f) h
theorem Rl.imF (R : Rl G ι H st) (f : Fr ι H ι' H') {d : List (Str × A)} {v : List (Str × V)} (h : ImF G.K H ι d v) : ImF G.K H' ι' d v := ImF.mono f.pre (fun _ _ => R.seq f) h
theorem Rl.env (R : Rl G ι H st) (f : Fr ι H ι' H') {env : Ev} {σ : L2.St} (h : EnvR G ι H env σ) : EnvR G ι' H' env σ := ⟨h.len, fun i a e => by
  obtain ⟨v, h1, h2⟩ := h.at_ i a e
  exact ⟨v, h1, R.im f h2⟩⟩
theorem RowX.mono (R : Rl G ι H st) (f : Fr ι H ι' H') {r : Addr} (e : H' r = H r) (h : RowX G.K H ι r) : RowX G.K H' ι' r := by
  obtain ⟨sa, ns, i, x, y, h1, h2, h3⟩ := h
  refine ⟨sa, ns, i, x, y, e.trans h1, ?_, h3⟩
  rcases h2 with ⟨h, n⟩ | h
  · have h5 : sa ∉ ι' := fun z => by
      rcases f.fresh _ z with z | z
      · exact n z
      · rcases h with h | ⟨o, h⟩ <;> (rw [h] at z; cases z)
    rcases h with h | ⟨o, h⟩
    · exact .inl ⟨.inl (f.keep _ _ h n fun ps z => by cases z), h5⟩
    · exact .inl ⟨.inr ⟨o, f.keep _ _ h n fun ps z => by cases z⟩, h5⟩
  · exact .inr h
/-- an object of the store, seen later, itself unchanged -/
theorem ImO.mono (R : Rl G ι H st) (f : Fr ι H ι' H') {o : Ob} {a : Addr} (e : H' a = H a) (h : ImO G H ι o a) : ImO G H' ι' o a := by
  cases o with
  | lst l =>
    obtain ⟨xs, h1, h2⟩ := h
    exact ⟨xs, e.trans h1, R.imL f h2⟩
  | ins c fs =>
    obtain ⟨dx, vs, h1, h2⟩ := h
    exact ⟨dx, vs, e.trans h1, R.imF f h2⟩
  | dr => exact RowX.mono R f e h
end
end Mx

/-! ### MkX2 -/
set_option Elab.async false
set_option linter.all false
set_option maxRecDepth 100000
set_option maxHeartbeats 4000000
namespace Mx
open PySem PySem.Spec PyProof.Rows L2
open GxR (TabG Tabbed)
/-! ### what is promised -/
def XOk (G : Gx) (E : XK) (x : Xc) (ι : List Addr) (H : Hp) : Prop := match x.2 with
  | none => E (.ref (G.xc x.1)) none H
  | some p => ∀ d v, H d = some (.xd [(p.1, v)]) → Im G.K H ι p.2 v → E (.ref (G.xc x.1)) (some d) H
def PE1 (G : Gx) (ι : List Addr) (H : Hp) (Q : VK) (r : A × Sto) : Prop := ∀ ι' H' v, Fr ι H ι' H' → Rl G ι' H' r.2 → Im G.K H' ι' r.1 v → Q v H'
def PXx (G : Gx) (ι : List Addr) (H : Hp) (E : XK) (x : Xc) (s : Sto) : Prop := ∀ ι' H', Fr ι H ι' H' → Rl G ι' H' s → XOk G E x ι' H'
def PB1 (G : Gx) (ι : List Addr) (H : Hp) (Q : Bool → Hp → Prop) (r : Bool × Sto) : Prop := ∀ ι' H', Fr ι H ι' H' → Rl G ι' H' r.2 → Q r.1 H'
def PL1 (G : Gx) (ι : List Addr) (H : Hp) (Q : List V → Hp → Prop) (r : List A × Sto) : Prop := ∀ ι' H' v, Fr ι H ι' H' → Rl G ι' H' r.2 → ImL G.K H' ι' r.1 v → Q v H'
inductive Fl where
  | nx (e : Ev) | rt (a : A) | bk (e : Ev) | ct (e : Ev)
def PS1 (G : Gx) (ι : List Addr) (H : Hp) (D : Ends) (r : Fl × Sto) : Prop := ∀ ι' H', Fr ι H ι' H' → Rl G ι' H' r.2 → match r.1 with
  | .nx e => ∀ σ, EnvR G ι' H' e σ → D.nx σ H'
  | .rt a => ∀ v, Im G.K H' ι' a v → D.rt v H'
  | .bk e => ∀ σ, EnvR G ι' H' e σ → D.bk σ H'
  | .ct e => ∀ σ, EnvR G ι' H' e σ → D.ct σ H'
abbrev EM := Ev → Sto → R (A × Sto)
abbrev BM := Ev → Sto → R (Bool × Sto)
abbrev LM := Ev → Sto → R (List A × Sto)
abbrev SM := Ev → Sto → R (Fl × Sto)
def Ex (G : Gx) (E : XK) (t : TE) (m : EM) : Prop := ∀ (ι : List Addr) (env : Ev) (st : Sto) (σ : L2.St) (H : Hp) (Q : VK), Rl G ι H st → EnvR G ι H env σ → (m env st).holds (PE1 G ι H Q) (PXx G ι H E) → t σ H Q
def ExB (G : Gx) (E : XK) (t : TT) (m : BM) : Prop := ∀ (ι : List Addr) (env : Ev) (st : Sto) (σ : L2.St) (H : Hp) (Q : Bool → Hp → Prop), Rl G ι H st → EnvR G ι H env σ → (m env st).holds (PB1 G ι H Q) (PXx G ι H E) → t σ H Q
def ExL (G : Gx) (E : XK) (t : TA) (m : LM) : Prop := ∀ (ι : List Addr) (env : Ev) (st : Sto) (σ : L2.St) (H : Hp) (Q : List V → Hp → Prop), Rl G ι H st → EnvR G ι H env σ → (m env st).holds (PL1 G ι H Q) (PXx G ι H E) → t σ H Q
def ExS (G : Gx) (E : XK) (t : TS) (m : SM) : Prop := ∀ (ι : List Addr) (env : Ev) (st : Sto) (σ : L2.St) (H : Hp) (D : Ends), Rl G ι H st → EnvR G ι H env σ → (m env st).holds (PS1 G ι H D) (PXx G ι H E) → t D σ H
section
variable {G : Gx} {E : XK} {ι ι1 : List Addr} {H H1 : Hp}
theorem PE1.sh {Q : VK} {r : A × Sto} (f : Fr ι H ι1 H1) (h : PE1 G ι H Q r) : PE1 G ι1 H1 Q r := fun ι' H' v f' => h ι' H' v (f.trans f')
theorem PXx.sh {x : Xc} {s : Sto} (f : Fr ι H ι1 H1) (h : PXx G ι H E x s) : PXx G ι1 H1 E x s := fun ι' H' f' => h ι' H' (f.trans f')
theorem PB1.sh {Q : Bool → Hp → Prop} {r : Bool × Sto} (f : Fr ι H ι1 H1) (h : PB1 G ι H Q r) : PB1 G ι1 H1 Q r := fun ι' H' f' => h ι' H' (f.trans f')
theorem PL1.sh {Q : List V → Hp → Prop} {r : List A × Sto} (f : Fr ι H ι1 H1) (h : PL1 G ι H Q r) : PL1 G ι1 H1 Q r := fun ι' H' v f' => h ι' H' v (f.trans f')
theorem PS1.sh {D : Ends} {r : Fl × Sto} (f : Fr ι H ι1 H1) (h : PS1 G ι H D r) : PS1 G ι1 H1 D r := fun ι' H' f' => h ι' H' (f.trans f')
theorem PE1.at {Q : VK} {a : A} {st : Sto} {v : V} (h : PE1 G ι H Q (a, st)) (R : Rl G ι H st) (im : Im G.K H ι a v) : Q v H := h ι H v (Fr.refl ι H) R im
theorem PB1.at {Q : Bool → Hp → Prop} {b : Bool} {st : Sto} (h : PB1 G ι H Q (b, st)) (R : Rl G ι H st) : Q b H := h ι H (Fr.refl ι H) R
theorem PL1.at {Q : List V → Hp → Prop} {a : List A} {st : Sto} {v : List V} (h : PL1 G ι H Q (a, st)) (R : Rl G ι H st) (im : ImL G.K H ι a v) : Q v H := h ι H v (Fr.refl ι H) R im
/-- the next step -/
theorem go {α β : Type} {r : R α} {f : α → R β} {Q : β → Prop} {X : Xc → Sto → Prop} {Q' : α → Prop} (h : (r.bind f).holds Q X) (q : ∀ a, (f a).holds Q X → Q' a) : r.holds Q' X := holds_mono q (fun _ _ x => x) (holds_bind h)
theorem sh {α : Type} {r : R α} {Q Q' : α → Prop} (f : Fr ι H ι1 H1) (h : r.holds Q (PXx G ι H E)) (q : ∀ a, Q a → Q' a) : r.holds Q' (PXx G ι1 H1 E) := holds_mono q (fun _ _ x => PXx.sh f x) h
variable {env : Ev} {st : Sto} {σ : L2.St}
theorem Ex.run {Q : VK} {ta : TE} {ma : EM} {β : Type} {f : A × Sto → R β} {Qb : β → Prop} (ha : Ex G E ta ma) (R : Rl G ι H st) (Ev : EnvR G ι H env σ) (h : ((ma env st).bind f).holds Qb (PXx G ι H E))
    (q : ∀ ι1 H1 a s1 v, Fr ι H ι1 H1 → Rl G ι1 H1 s1 → EnvR G ι1 H1 env σ → Im G.K H1 ι1 a v → (f (a, s1)).holds Qb (PXx G ι1 H1 E) → Q v H1) : ta σ H Q :=
  ha ι env st σ H Q R Ev (go h fun r h1 ι1 H1 v f1 R1 im1 => q ι1 H1 r.1 r.2 v f1 R1 (R.env f1 Ev) im1 (sh f1 h1 fun _ q => q))
theorem ExB.run {Q : Bool → Hp → Prop} {ta : TT} {ma : BM} {β : Type} {f : Bool × Sto → R β} {Qb : β → Prop} (ha : ExB G E ta ma) (R : Rl G ι H st) (Ev : EnvR G ι H env σ) (h : ((ma env st).bind f).holds Qb (PXx G ι H E))
    (q : ∀ ι1 H1 b s1, Fr ι H ι1 H1 → Rl G ι1 H1 s1 → EnvR G ι1 H1 env σ → (f (b, s1)).holds Qb (PXx G ι1 H1 E) → Q b H1) : ta σ H Q :=
  ha ι env st σ H Q R Ev (go h fun r h1 ι1 H1 f1 R1 => q ι1 H1 r.1 r.2 f1 R1 (R.env f1 Ev) (sh f1 h1 fun _ q => q))
theorem ExL.run {Q : List V → Hp → Prop} {ta : TA} {ma : LM} {β : Type} {f : List A × Sto → R β} {Qb : β → Prop} (ha : ExL G E ta ma) (R : Rl G ι H st) (Ev : EnvR G ι H env σ) (h : ((ma env st).bind f).holds Qb (PXx G ι H E))
    (q : ∀ ι1 H1 a s1 v, Fr ι H ι1 H1 → Rl G ι1 H1 s1 → EnvR G ι1 H1 env σ → ImL G.K H1 ι1 a v → (f (a, s1)).holds Qb (PXx G ι1 H1 E) → Q v H1) : ta σ H Q :=
  ha ι env st σ H Q R Ev (go h fun r h1 ι1 H1 v f1 R1 im1 => q ι1 H1 r.1 r.2 v f1 R1 (R.env f1 Ev) im1 (sh f1 h1 fun _ q => q))
end
/-! ### steps that can't raise -/
def ofO {α : Type} : Option α → R α
  | some a => .ok a
  | none => .fail
theorem ofO_holds {α : Type} {o : Option α} {Q : α → Prop} {X : Xc → Sto → Prop} (h : (ofO o).holds Q X) : ∃ a, o = some a ∧ Q a := by
  cases o with
  | some a => exact ⟨a, rfl, h⟩
  | none => exact h.elim
abbrev F1 := A → Sto → Option (A × Sto)
abbrev F2 := A → A → Sto → Option (A × Sto)
abbrev FL := List A → Sto → Option (A × Sto)
def Ok1 (G : Gx) (r : V → Hp → VK → Prop) (f : F1) : Prop := ∀ ι st H a x b Q, Rl G ι H st → Im G.K H ι a x → f a st = some b → PE1 G ι H Q b → r x H Q
def Ok2 (G : Gx) (r : R2) (f : F2) : Prop := ∀ ι st H a b x y c Q, Rl G ι H st → Im G.K H ι a x → Im G.K H ι b y → f a b st = some c → PE1 G ι H Q c → r x y H Q
def OkL (G : Gx) (r : List V → Hp → VK → Prop) (f : FL) : Prop := ∀ ι st H as xs c Q, Rl G ι H st → ImL G.K H ι as xs → f as st = some c → PE1 G ι H Q c → r xs H Q
def asB : A × Sto → R (Bool × Sto)
  | (.bl b, st) => .ok (b, st)
  | _ => .fail
section
variable {G : Gx} {E : XK} {ta tb tc : TE} {ma mb mc : EM} {t u : TT} {mt mu : BM} {tl tr : TA} {ml mr : LM}
theorem asB_run {r : A × Sto} {v : V} {ι : List Addr} {H : Hp} {Q : Bool × Sto → Prop} {X : Xc → Sto → Prop} (h : (asB r).holds Q X) (im : Im G.K H ι r.1 v) : ∃ b, r.1 = .bl b ∧ v = .bl b ∧ Q (b, r.2) := by
  obtain ⟨a, st⟩ := r
  cases a with
  | bl b => exact ⟨b, rfl, by unfold Im at im; exact im, h⟩
  | _ => exact h.elim
/-! ### expressions -/
def mVar (i : Nat) : EM := fun env st => match env[i]? with
  | some (some a) => .ok (a, st)
  | _ => .fail
theorem ex_var {i : Nat} : Ex G E (tVar i) (mVar i) := fun ι env st σ H Q R Ev h => by
  unfold mVar at h
  split at h
  · rename_i a e
    obtain ⟨v, e2, im⟩ := Ev.at_ i a e
    exact ⟨v, e2, PE1.at h R im⟩
  · exact h.elim
def mC (a : A) : EM := fun _ st => .ok (a, st)
theorem ex_c {a : A} {v : V} (im : ∀ H ι, Im G.K H ι a v) : Ex G E (tC v) (mC a) := fun ι env st σ H Q R Ev h => PE1.at h R (im H ι)
theorem ex_int {i : Int} : Ex G E (tC (.int i)) (mC (.int i)) := ex_c fun _ _ => by unfold Im; rfl
theorem ex_str {i : Str} : Ex G E (tC (.str i)) (mC (.str i)) := ex_c fun _ _ => by unfold Im; rfl
theorem ex_bl {i : Bool} : Ex G E (tC (.bl i)) (mC (.bl i)) := ex_c fun _ _ => by unfold Im; rfl
theorem ex_non : Ex G E (tC .non) (mC .non) := ex_c fun _ _ => by unfold Im; rfl
def m1 (f : F1) (ma : EM) : EM := fun env st => (ma env st).bind fun a => ofO (f a.1 a.2)
theorem ex_1 {r : V → Hp → VK → Prop} {f : F1} (hf : Ok1 G r f) (ha : Ex G E ta ma) : Ex G E (tUn r ta) (m1 f ma) := fun ι env st σ H Q R Ev h => by
  refine ha.run R Ev (sh (Fr.refl ι H) h fun _ q => q) fun ι1 H1 a s1 v f1 R1 _ im h1 => ?_
  obtain ⟨c, e, q⟩ := ofO_holds h1
  exact hf _ _ _ _ _ _ _ R1 im e (PE1.sh f1 q)
def m2 (f : F2) (ma mb : EM) : EM := fun env st => (ma env st).bind fun a => (mb env a.2).bind fun b => ofO (f a.1 b.1 b.2)
theorem ex_2 {r : R2} {f : F2} (hf : Ok2 G r f) (ha : Ex G E ta ma) (hb : Ex G E tb mb) : Ex G E (tOp r ta tb) (m2 f ma mb) := fun ι env st σ H Q R Ev h => by
  refine ha.run R Ev h fun ι1 H1 a s1 v f1 R1 Ev1 im h1 => ?_
  refine hb.run R1 Ev1 h1 fun ι2 H2 b s2 w f2 R2 Ev2 im2 h2 => ?_
  obtain ⟨c, e, q⟩ := ofO_holds h2
  exact hf _ _ _ _ _ _ _ _ _ R2 (R1.im f2 im) im2 e (PE1.sh (f1.trans f2) q)
def mAndV (ma mb : EM) : EM := fun env st => (ma env st).bind fun a => (asB a).bind fun b => if b.1 = true then mb env b.2 else .ok (.bl false, b.2)
def mOrV (ma mb : EM) : EM := fun env st => (ma env st).bind fun a => (asB a).bind fun b => if b.1 = true then .ok (.bl true, b.2) else mb env b.2
theorem im_bl {H : Hp} {ι : List Addr} {b : Bool} : Im G.K H ι (.bl b) (.bl b) := by unfold Im; rfl
theorem ex_andV (ha : Ex G E ta ma) (hb : Ex G E tb mb) : Ex G E (tAndV ta tb) (mAndV ma mb) := fun ι env st σ H Q R Ev h => by
  refine ha.run R Ev h fun ι1 H1 a s1 v f1 R1 Ev1 im h1 => ?_
  obtain ⟨b, e1, e2, q⟩ := asB_run (holds_bind h1) im
  refine ⟨b, e2, ?_⟩
  cases b with
  | true => exact iteT (hb _ _ _ _ _ _ R1 Ev1 (sh (Fr.refl _ _) q fun _ q => PE1.sh f1 q))
  | false => exact iteF ((show PE1 G ι H Q (.bl false, s1) from q) _ _ _ f1 R1 im_bl)
theorem ex_orV (ha : Ex G E ta ma) (hb : Ex G E tb mb) : Ex G E (tOrV ta tb) (mOrV ma mb) := fun ι env st σ H Q R Ev h => by
  refine ha.run R Ev h fun ι1 H1 a s1 v f1 R1 Ev1 im h1 => ?_
  obtain ⟨b, e1, e2, q⟩ := asB_run (holds_bind h1) im
  refine ⟨b, e2, ?_⟩
  cases b with
  | false => exact iteF (hb _ _ _ _ _ _ R1 Ev1 (sh (Fr.refl _ _) q fun _ q => PE1.sh f1 q))
  | true => exact iteT ((show PE1 G ι H Q (.bl true, s1) from q) _ _ _ f1 R1 im_bl)
def mNotV (ma : EM) : EM := fun env st => (ma env st).bind fun a => (asB a).bind fun b => .ok (.bl (!b.1), b.2)
theorem ex_notV (ha : Ex G E ta ma) : Ex G E (tNotV ta) (mNotV ma) := fun ι env st σ H Q R Ev h => by
  refine ha.run R Ev h fun ι1 H1 a s1 v f1 R1 Ev1 im h1 => ?_
  obtain ⟨b, e1, e2, q⟩ := asB_run (holds_bind h1) im
  exact ⟨b, e2, (show PE1 G ι H Q (.bl (!b), s1) from q) _ _ _ f1 R1 im_bl⟩
def mIf (mt : BM) (ma mb : EM) : EM := fun env st => (mt env st).bind fun b => if b.1 = true then ma env b.2 else mb env b.2
theorem ex_if (ht : ExB G E t mt) (ha : Ex G E ta ma) (hb : Ex G E tb mb) : Ex G E (tIf t ta tb) (mIf mt ma mb) := fun ι env st σ H Q R Ev h => by
  refine ht.run R Ev h fun ι1 H1 b s1 f1 R1 Ev1 h1 => ?_
  cases b with
  | true => exact iteT (ha _ _ _ _ _ _ R1 Ev1 (sh (Fr.refl _ _) h1 fun _ q => PE1.sh f1 q))
  | false => exact iteF (hb _ _ _ _ _ _ R1 Ev1 (sh (Fr.refl _ _) h1 fun _ q => PE1.sh f1 q))
/-! ### tests -/
def mB (ma : EM) : BM := fun env st => (ma env st).bind asB
theorem ext_B (ha : Ex G E ta ma) : ExB G E (tB ta) (mB ma) := fun ι env st σ H Q R Ev h => by
  refine ha.run R Ev h fun ι1 H1 a s1 v f1 R1 Ev1 im h1 => ?_
  obtain ⟨b, e1, e2, q⟩ := asB_run h1 im
  exact ⟨b, e2, q _ _ f1 R1⟩
theorem ext_test (ha : Ex G E ta ma) : ExB G E (tTest ta) (mB ma) := ext_B ha
def mAnd (mt mu : BM) : BM := fun env st => (mt env st).bind fun b => if b.1 = true then mu env b.2 else .ok (false, b.2)
def mOr (mt mu : BM) : BM := fun env st => (mt env st).bind fun b => if b.1 = true then .ok (true, b.2) else mu env b.2
def mNot (mt : BM) : BM := fun env st => (mt env st).bind fun b => .ok (!b.1, b.2)
theorem ext_and (ht : ExB G E t mt) (hu : ExB G E u mu) : ExB G E (tAnd t u) (mAnd mt mu) := fun ι env st σ H Q R Ev h => by
  refine ht.run R Ev h fun ι1 H1 b s1 f1 R1 Ev1 h1 => ?_
  cases b with
  | true => exact iteT (hu _ _ _ _ _ _ R1 Ev1 (sh (Fr.refl _ _) h1 fun _ q => PB1.sh f1 q))
  | false => exact iteF ((show PB1 G ι H Q (false, s1) from h1) _ _ f1 R1)
theorem ext_or (ht : ExB G E t mt) (hu : ExB G E u mu) : ExB G E (tOr t u) (mOr mt mu) := fun ι env st σ H Q R Ev h => by
  refine ht.run R Ev h fun ι1 H1 b s1 f1 R1 Ev1 h1 => ?_
  cases b with
  | false => exact iteF (hu _ _ _ _ _ _ R1 Ev1 (sh (Fr.refl _ _) h1 fun _ q => PB1.sh f1 q))
  | true => exact iteT ((show PB1 G ι H Q (true, s1) from h1) _ _ f1 R1)
theorem ext_not (ht : ExB G E t mt) : ExB G E (tNot t) (mNot mt) := fun ι env st σ H Q R Ev h => by
  refine ht.run R Ev h fun ι1 H1 b s1 f1 R1 Ev1 h1 => ?_
  exact (show PB1 G ι H Q (!b, s1) from h1) _ _ f1 R1
theorem ext_yes : ExB G E tYes (fun _ st => .ok (true, st)) := fun ι env st σ H Q R Ev h => PB1.at h R
/-! ### arguments -/
def mNil : LM := fun _ st => .ok ([], st)
def mCons (ma : EM) (ml : LM) : LM := fun env st => (ma env st).bind fun a => (ml env a.2).bind fun l => .ok (a.1 :: l.1, l.2)
theorem exa_nil : ExL G E tNil mNil := fun ι env st σ H Q R Ev h => PL1.at h R (by unfold ImL; rfl)
theorem exa_cons (ha : Ex G E ta ma) (hl : ExL G E tl ml) : ExL G E (tCons ta tl) (mCons ma ml) := fun ι env st σ H Q R Ev h => by
  refine ha.run R Ev h fun ι1 H1 a s1 v f1 R1 Ev1 im h1 => ?_
  refine hl.run R1 Ev1 h1 fun ι2 H2 b s2 w f2 R2 Ev2 im2 h2 => ?_
  exact (show PL1 G ι H Q (a :: b, s2) from h2) _ _ _ (f1.trans f2) R2 (by unfold ImL; exact ⟨v, w, rfl, R1.im f2 im, im2⟩)
/-- a builtin's call -/
def mCB (f : FL) (ml : LM) : EM := fun env st => (ml env st).bind fun l => ofO (f l.1 l.2)
theorem ex_cb {r : List V → Hp → VK → Prop} {f : FL} (hf : OkL G r f) (hl : ExL G E tl ml) : Ex G E (tCB r tl) (mCB f ml) := fun ι env st σ H Q R Ev h => by
  refine hl.run R Ev h fun ι1 H1 a s1 v f1 R1 Ev1 im h1 => ?_
  obtain ⟨c, e, q⟩ := ofO_holds h1
  exact hf _ _ _ _ _ _ _ R1 im e (PE1.sh f1 q)
/-! ### calls -/
abbrev FM := List A → Sto → R (A × Sto)
def spX (G : Gx) (n : Nat) (f : FM) : Sp := fun vs H Q E => vs.length = n ∧ ∃ ι st as, Rl G ι H st ∧ ImL G.K H ι as vs ∧ (f as st).holds (PE1 G ι H Q) (PXx G ι H E)
def mCall (f : FM) (n : Nat) (ds : List A) (ml : LM) : EM := fun env st => (ml env st).bind fun l => if (l.1 ++ ds).length = n then f (l.1 ++ ds) l.2 else .fail
theorem ImL.length {K : PySem.W.Frag} {H : Hp} {ι : List Addr} : ∀ {ds : List A} {vs : List V}, ImL K H ι ds vs → vs.length = ds.length
  | [], _, h => by unfold ImL at h; rw [h]; rfl
  | d :: ds, _, h => by
    unfold ImL at h
    obtain ⟨v, vs, rfl, _, h3⟩ := h
    rw [List.length_cons, List.length_cons, ImL.length h3]
theorem ImL.append {K : PySem.W.Frag} {H : Hp} {ι : List Addr} : ∀ {ds es : List A} {vs ws : List V}, ImL K H ι ds vs → ImL K H ι es ws → ImL K H ι (ds ++ es) (vs ++ ws)
  | [], _, _, _, h, k => by unfold ImL at h; rw [h]; exact k
  | d :: ds, _, _, _, h, k => by
    unfold ImL at h
    obtain ⟨v, vs, rfl, h2, h3⟩ := h
    show ImL K H ι (d :: (ds ++ _)) (v :: (vs ++ _))
    unfold ImL
    exact ⟨v, _, rfl, h2, ImL.append h3 k⟩
theorem ex_call {f : FM} {n : Nat} {ds : List A} {dvs : List V} (hd : ∀ H ι, ImL G.K H ι ds dvs) (hl : ExL G E tl ml) : Ex G E (tCall (spX G n f) dvs E tl) (mCall f n ds ml) := fun ι env st σ H Q R Ev h => by
  refine hl.run R Ev h fun ι1 H1 a s1 v f1 R1 Ev1 im h1 => ?_
  have im2 := ImL.append im (hd H1 ι1)
  dsimp only at h1
  split at h1
  · rename_i e
    exact ⟨by rw [im2.length]; exact e, ι1, s1, _, R1, im2, sh (Fr.refl _ _) h1 fun _ q => PE1.sh f1 q⟩
  · exact h1.elim
/-! ### statements -/
def mNx : SM := fun env st => .ok (.nx env, st)
theorem exs_next : ExS G E tNext mNx := fun ι env st σ H D R Ev h => (show PS1 G ι H D (.nx env, st) from h) ι H (Fr.refl _ _) R σ Ev
theorem exs_break : ExS G E tBreak (fun env st => .ok (.bk env, st)) := fun ι env st σ H D R Ev h => (show PS1 G ι H D (.bk env, st) from h) ι H (Fr.refl _ _) R σ Ev
theorem exs_cont : ExS G E tCont (fun env st => .ok (.ct env, st)) := fun ι env st σ H D R Ev h => (show PS1 G ι H D (.ct env, st) from h) ι H (Fr.refl _ _) R σ Ev
def thenS (r : Fl × Sto) (m : SM) : R (Fl × Sto) := match r.1 with
  | .nx env => m env r.2
  | f => .ok (f, r.2)
def mSeq (ms mz : SM) : SM := fun env st => (ms env st).bind fun r => thenS r mz
theorem exs_seq {ts tz : TS} {ms mz : SM} (hs : ExS G E ts ms) (hz : ExS G E tz mz) : ExS G E (tSeq ts tz) (mSeq ms mz) := fun ι env st σ H D R Ev h => by
  refine hs ι env st σ H _ R Ev (go h fun r h1 ι1 H1 f1 R1 => ?_)
  obtain ⟨f, s1⟩ := r
  cases f with
  | nx e => exact fun σ1 Ev1 => hz _ _ _ _ _ _ R1 Ev1 (sh f1 h1 fun _ q => PS1.sh f1 q)
  | rt a => exact fun v im => (show PS1 G ι H D (.rt a, s1) from h1) _ _ f1 R1 v im
  | bk e => exact fun σ1 Ev1 => (show PS1 G ι H D (.bk e, s1) from h1) _ _ f1 R1 σ1 Ev1
  | ct e => exact fun σ1 Ev1 => (show PS1 G ι H D (.ct e, s1) from h1) _ _ f1 R1 σ1 Ev1
def mRet (ma : EM) : SM := fun env st => (ma env st).bind fun a => .ok (.rt a.1, a.2)
theorem exs_ret (ha : Ex G E ta ma) : ExS G E (tRet ta) (mRet ma) := fun ι env st σ H D R Ev h => by
  refine ha.run R Ev h fun ι1 H1 a s1 v f1 R1 Ev1 im h1 => ?_
  exact (show PS1 G ι H D (.rt a, s1) from h1) _ _ f1 R1 v im
theorem exs_retN : ExS G E tRetN (fun _ st => .ok (.rt .non, st)) := fun ι env st σ H D R Ev h => (show PS1 G ι H D (.rt .non, st) from h) ι H (Fr.refl _ _) R .non (by unfold Im; rfl)
def mDrop (ma : EM) : SM := fun env st => (ma env st).bind fun a => .ok (.nx env, a.2)
theorem exs_drop (ha : Ex G E ta ma) : ExS G E (tDrop ta) (mDrop ma) := fun ι env st σ H D R Ev h => by
  refine ha.run R Ev h fun ι1 H1 a s1 v f1 R1 Ev1 im h1 => ?_
  exact (show PS1 G ι H D (.nx env, s1) from h1) _ _ f1 R1 σ Ev1
def mIfS (mt : BM) (ms mz : SM) : SM := fun env st => (mt env st).bind fun b => if b.1 = true then ms env b.2 else mz env b.2
theorem exs_if {ts tz : TS} {ms mz : SM} (ht : ExB G E t mt) (hs : ExS G E ts ms) (hz : ExS G E tz mz) : ExS G E (tIfS t ts tz) (mIfS mt ms mz) := fun ι env st σ H D R Ev h => by
  refine ht.run R Ev h fun ι1 H1 b s1 f1 R1 Ev1 h1 => ?_
  cases b with
  | true => exact iteT (hs _ _ _ _ _ _ R1 Ev1 (sh (Fr.refl _ _) h1 fun _ q => PS1.sh f1 q))
  | false => exact iteF (hz _ _ _ _ _ _ R1 Ev1 (sh (Fr.refl _ _) h1 fun _ q => PS1.sh f1 q))
/-! targets -/
abbrev GM := A → Ev → Sto → R (Ev × Sto)
abbrev GsM := List A → Ev → Sto → R (Ev × Sto)
def PG1 (G : Gx) (ι : List Addr) (H : Hp) (Q : L2.St → Hp → Prop) (r : Ev × Sto) : Prop := ∀ ι' H', Fr ι H ι' H' → Rl G ι' H' r.2 → ∀ σ, EnvR G ι' H' r.1 σ → Q σ H'
theorem PG1.sh {ι ι1 : List Addr} {H H1 : Hp} {Q : L2.St → Hp → Prop} {r : Ev × Sto} (f : Fr ι H ι1 H1) (h : PG1 G ι H Q r) : PG1 G ι1 H1 Q r := fun ι' H' f' => h ι' H' (f.trans f')
def ExG (G : Gx) (E : XK) (g : TG) (m : GM) : Prop := ∀ ι env st σ H a v Q, Rl G ι H st → EnvR G ι H env σ → Im G.K H ι a v → (m a env st).holds (PG1 G ι H Q) (PXx G ι H E) → g v σ H Q
def ExGs (G : Gx) (E : XK) (g : TGs) (m : GsM) : Prop := ∀ ι env st σ H a v Q, Rl G ι H st → EnvR G ι H env σ → ImL G.K H ι a v → (m a env st).holds (PG1 G ι H Q) (PXx G ι H E) → g v σ H Q
theorem EnvR.set {ι : List Addr} {H : Hp} {env : Ev} {σ : L2.St} {a : A} {v : V} (h : EnvR G ι H env σ) (i : Nat) (im : Im G.K H ι a v) : EnvR G ι H (env.set i (some a)) (σ.set i (some v)) := by
  refine ⟨by simp [h.len], fun j b e => ?_⟩
  by_cases z : i = j
  · subst z
    by_cases hl : i < env.length
    · rw [List.getElem?_set_self hl] at e
      cases e
      exact ⟨v, List.getElem?_set_self (by rw [h.len]; exact hl), im⟩
    · rw [List.getElem?_eq_none (by simp; omega)] at e
      cases e
  · rw [List.getElem?_set_ne z] at e ⊢
    exact h.at_ j b e
def gmName (i : Nat) : GM := fun a env st => .ok (env.set i (some a), st)
theorem exg_name {i : Nat} : ExG G E (gName i) (gmName i) := fun ι env st σ H a v Q R Ev im h => (show PG1 G ι H Q (env.set i (some a), st) from h) ι H (Fr.refl _ _) R _ (Ev.set i im)
def gmNil : GsM := fun l env st => match l with
  | [] => .ok (env, st)
  | _ => .fail
def gmCons (m : GM) (ms : GsM) : GsM := fun l env st => match l with
  | a :: r => (m a env st).bind fun e => ms r e.1 e.2
  | _ => .fail
theorem exgs_nil : ExGs G E gNil gmNil := fun ι env st σ H a v Q R Ev im h => by
  cases a with
  | nil => unfold ImL at im; exact ⟨im, (show PG1 G ι H Q (env, st) from h) ι H (Fr.refl _ _) R _ Ev⟩
  | cons => exact h.elim
theorem exgs_cons {g : TG} {m : GM} {gs : TGs} {ms : GsM} (hg : ExG G E g m) (hs : ExGs G E gs ms) : ExGs G E (gCons g gs) (gmCons m ms) := fun ι env st σ H a v Q R Ev im h => by
  cases a with
  | nil => exact h.elim
  | cons b bs =>
    unfold ImL at im
    obtain ⟨w, ws, rfl, i1, i2⟩ := im
    refine ⟨w, ws, rfl, hg _ _ _ _ _ _ _ _ R Ev i1 (go h fun r h1 ι1 H1 f1 R1 σ1 Ev1 => ?_)⟩
    exact hs _ _ _ _ _ _ _ _ R1 Ev1 (R.imL f1 i2) (sh f1 h1 fun _ q => PG1.sh f1 q)
def mAsg (ma : EM) (mg : GM) : SM := fun env st => (ma env st).bind fun a => (mg a.1 env a.2).bind fun r => .ok (.nx r.1, r.2)
theorem exs_asg {g : TG} {mg : GM} (ha : Ex G E ta ma) (hg : ExG G E g mg) : ExS G E (tAsg ta g) (mAsg ma mg) := fun ι env st σ H D R Ev h => by
  refine ha.run R Ev h fun ι1 H1 a s1 v f1 R1 Ev1 im h1 => ?_
  refine hg _ _ _ _ _ _ _ _ R1 Ev1 im (go h1 fun r h2 ι2 H2 f2 R2 σ2 Ev2 => ?_)
  exact (show PS1 G ι H D (.nx r.1, r.2) from h2) _ _ (f1.trans f2) R2 σ2 Ev2
end
end Mx

/-! ### MkX3 -/
set_option Elab.async false
set_option linter.all false
set_option maxRecDepth 100000
set_option maxHeartbeats 4000000
namespace Mx
open PySem PySem.Spec PyProof.Rows L2
open GxR (TabG Tabbed)
/-- what the context's tables and classes stand -/
structure AmX (G : Gx) (T : List Addr) : Prop where
  tab : ∀ {t H}, t ∈ T → G.Am H → TabG H t
  tabbed : ∀ {t H H'}, t ∈ T → G.Am H → Tabbed t H H' → G.Am H'
  same : ∀ {H H'}, G.Am H → (∀ b o, H b = some o → (∀ xs, o ≠ .lst xs) → (∀ C dx fs, o ≠ .ins C dx fs) → H' b = some o) → G.Am H'
section
variable {G : Gx} {T : List Addr} {ι : List Addr} {H : Hp} {st : Sto}
/-- a new thing that is no object of the store -/
theorem Fr.new {o : HO} {p : Addr} (hp : H p = none) : Fr ι H ι (upd H p o) := ⟨List.prefix_refl _, fun _ h => .inl h, fun a u h _ _ => by rw [upd_ne (ne_of_none h hp)]; exact h, fun a h z => h (by
  by_cases e : a = p
  · rw [e]; exact hp
  · rw [upd_ne e] at z; exact z)⟩
theorem Rl.new (M : AmX G T) (R : Rl G ι H st) {o : HO} {p : Addr} (hp : H p = none) : Rl G ι (upd H p o) st := by
  refine ⟨M.same R.am fun b u h _ _ => by rw [upd_ne (ne_of_none h hp)]; exact h, R.len, R.nd, fun n ob a h1 h2 => ?_⟩
  refine ImO.mono R (Fr.new hp) ?_ (R.ob n ob a h1 h2)
  refine upd_ne fun e => ?_
  subst e
  rcases R.kind (List.mem_of_getElem? h2) with ⟨xs, q⟩ | ⟨C, dx, fs, q⟩ <;> (rw [hp] at q; cases q)
theorem im_tup {p : Addr} {as : List A} {xs : List V} (im : ImL G.K H ι as xs) (e : H p = some (.tup xs)) : Im G.K H ι (.tup as) (.ref p) := by
  unfold Im
  exact ⟨p, xs, rfl, .inl (.inl e), im⟩
/-- a new tuple -/
theorem PE1.tup (M : AmX G T) {Q : VK} {as : List A} {xs : List V} (R : Rl G ι H st) (im : ImL G.K H ι as xs) (h : PE1 G ι H Q (.tup as, st)) {p : Addr} (hp : H p = none) : Q (.ref p) (upd H p (.tup xs)) :=
  h ι _ _ (Fr.new hp) (R.new M hp) (im_tup (R.imL (Fr.new hp) im) upd_same)
/-- a new object of the store -/
theorem Fr.obj {o : HO} {p : Addr} (hp : H p = none) : Fr ι H (ι ++ [p]) (upd H p o) := ⟨List.prefix_append _ _, fun b h => by
  rcases List.mem_append.mp h with h | h
  · exact .inl h
  · rw [List.mem_singleton.mp h]; exact .inr hp, fun a u h _ _ => by rw [upd_ne (ne_of_none h hp)]; exact h, fun a h z => h (by
  by_cases e : a = p
  · rw [e]; exact hp
  · rw [upd_ne e] at z; exact z)⟩
theorem Rl.fresh (R : Rl G ι H st) {p : Addr} (hp : H p = none) : p ∉ ι := fun h => by
  rcases R.kind h with ⟨xs, q⟩ | ⟨C, dx, fs, q⟩ <;> (rw [hp] at q; cases q)
theorem Rl.obj (M : AmX G T) (R : Rl G ι H st) {o : HO} {p : Addr} {ob : Ob} (hp : H p = none) (io : ImO G (upd H p o) (ι ++ [p]) ob p) : Rl G (ι ++ [p]) (upd H p o) (st ++ [ob]) := by
  refine ⟨M.same R.am fun b u h _ _ => by rw [upd_ne (ne_of_none h hp)]; exact h, by simp [R.len], ?_, fun n o2 a h1 h2 => ?_⟩
  · refine List.nodup_append.mpr ⟨R.nd, by simp, fun a ha b hb e => ?_⟩
    rw [List.mem_singleton.mp hb] at e
    exact R.fresh hp (e ▸ ha)
  · by_cases hl : n < st.length
    · rw [List.getElem?_append_left hl] at h1
      rw [List.getElem?_append_left (by rw [R.len]; exact hl)] at h2
      refine ImO.mono R (Fr.obj hp) ?_ (R.ob n o2 a h1 h2)
      exact upd_ne fun e => R.fresh hp (e ▸ List.mem_of_getElem? h2)
    · have hn : n = st.length := by
        have := (List.getElem?_eq_some_iff.mp h1).1
        simp only [List.length_append, List.length_singleton] at this
        omega
      subst hn
      rw [List.getElem?_append_right (Nat.le_refl _), Nat.sub_self] at h1
      rw [← R.len, List.getElem?_append_right (Nat.le_refl _), Nat.sub_self] at h2
      cases h1
      cases h2
      exact io
/-- a new list -/
theorem PE1.lst (M : AmX G T) {Q : VK} {as : List A} {xs : List V} (R : Rl G ι H st) (im : ImL G.K H ι as xs) (h : PE1 G ι H Q (.ref st.length, st ++ [.lst as])) {p : Addr} (hp : H p = none) : Q (.ref p) (upd H p (.lst xs)) :=
  h _ _ _ (Fr.obj hp) (R.obj M hp ⟨xs, upd_same, R.imL (Fr.obj hp) im⟩) (by unfold Im; exact ⟨p, by rw [← R.len, List.getElem?_append_right (Nat.le_refl _), Nat.sub_self]; rfl, rfl⟩)
/-- an object of the store is written -/
theorem Fr.set {o : HO} {a : Addr} (ha : a ∈ ι) : Fr ι H ι (upd H a o) := ⟨List.prefix_refl _, fun _ h => .inl h, fun b u h n _ => by rw [upd_ne (fun e => n (by rw [e]; exact ha))]; exact h, fun b h z => by
  by_cases e : b = a
  · rw [e, upd_same] at z; cases z
  · rw [upd_ne e] at z; exact h z⟩
theorem Rl.set (M : AmX G T) (R : Rl G ι H st) {o : HO} {a : Addr} {n : Nat} {ob : Ob} (hn : ι[n]? = some a) (io : ImO G (upd H a o) ι ob a) : Rl G ι (upd H a o) (st.set n ob) := by
  have ha := List.mem_of_getElem? hn
  refine ⟨M.same R.am fun b u h n1 n2 => ?_, by simp [R.len], R.nd, fun m o2 b h1 h2 => ?_⟩
  · rw [upd_ne fun e => ?_]
    · exact h
    · subst e
      rcases R.kind ha with ⟨xs, q⟩ | ⟨C, dx, fs, q⟩
      · rw [h] at q; exact n1 _ (Option.some.inj q)
      · rw [h] at q; exact n2 _ _ _ (Option.some.inj q)
  · by_cases e : n = m
    · subst e
      have hl : n < st.length := by have := (List.getElem?_eq_some_iff.mp hn).1; rw [R.len] at this; exact this
      rw [List.getElem?_set_self hl] at h1
      cases h1
      rw [hn] at h2
      cases h2
      exact io
    · rw [List.getElem?_set_ne e] at h1
      refine ImO.mono R (Fr.set ha) ?_ (R.ob m o2 b h1 h2)
      refine upd_ne fun z => e ?_
      subst z
      exact (List.getElem?_inj (List.getElem?_eq_some_iff.mp hn).1 R.nd).mp (hn.trans h2.symm)
theorem Rl.lst (R : Rl G ι H st) {n : Nat} {l : List A} {v : V} (h : st[n]? = some (.lst l)) (im : Im G.K H ι (.ref n) v) : ∃ a xs, v = .ref a ∧ ι[n]? = some a ∧ H a = some (.lst xs) ∧ ImL G.K H ι l xs := by
  unfold Im at im
  obtain ⟨a, e, rfl⟩ := im
  obtain ⟨xs, h1, h2⟩ := R.ob n _ a h e
  exact ⟨a, xs, rfl, e, h1, h2⟩
/-- a list of the store is written -/
theorem Rl.setL (M : AmX G T) (R : Rl G ι H st) {n : Nat} {a : Addr} {l : List A} {xs : List V} (hn : ι[n]? = some a) (im : ImL G.K H ι l xs) : Fr ι H ι (upd H a (.lst xs)) ∧ Rl G ι (upd H a (.lst xs)) (st.set n (.lst l)) := by
  have f : Fr ι H ι (upd H a (.lst xs)) := Fr.set (List.mem_of_getElem? hn)
  exact ⟨f, R.set M hn ⟨xs, upd_same, R.imL f im⟩⟩
theorem PE1.mut (M : AmX G T) {Q : VK} (R : Rl G ι H st) {n : Nat} {a : Addr} {l : List A} {xs : List V} {r : A} {v : V} (hn : ι[n]? = some a) (im : ImL G.K H ι l xs) (ir : Im G.K H ι r v) (h : PE1 G ι H Q (r, st.set n (.lst l))) : Q v (upd H a (.lst xs)) := by
  obtain ⟨f, R2⟩ := R.setL M hn im
  exact h _ _ _ f R2 (R.im f ir)
theorem imL_nil : ImL G.K H ι [] [] := by unfold ImL; rfl
theorem imL_cons {d : A} {v : V} {ds : List A} {vs : List V} (h : Im G.K H ι d v) (k : ImL G.K H ι ds vs) : ImL G.K H ι (d :: ds) (v :: vs) := by unfold ImL; exact ⟨v, vs, rfl, h, k⟩
theorem imL_nil' {xs : List V} (h : ImL G.K H ι [] xs) : xs = [] := by unfold ImL at h; exact h
theorem imL_cons' {d : A} {ds : List A} {xs : List V} (h : ImL G.K H ι (d :: ds) xs) : ∃ v vs, xs = v :: vs ∧ Im G.K H ι d v ∧ ImL G.K H ι ds vs := by unfold ImL at h; exact h
theorem imL_1 {d : A} {xs : List V} (h : ImL G.K H ι [d] xs) : ∃ v, xs = [v] ∧ Im G.K H ι d v := by
  obtain ⟨v, vs, rfl, h1, h2⟩ := imL_cons' h
  rw [imL_nil' h2]
  exact ⟨v, rfl, h1⟩
theorem imL_2 {d e : A} {xs : List V} (h : ImL G.K H ι [d, e] xs) : ∃ v w, xs = [v, w] ∧ Im G.K H ι d v ∧ Im G.K H ι e w := by
  obtain ⟨v, vs, rfl, h1, h2⟩ := imL_cons' h
  obtain ⟨w, rfl, h3⟩ := imL_1 h2
  exact ⟨v, w, rfl, h1, h3⟩
theorem im_int {i : Int} : Im G.K H ι (.int i) (.int i) := by unfold Im; rfl
theorem im_int' {i : Int} {v : V} (h : Im G.K H ι (.int i) v) : v = .int i := by unfold Im at h; exact h
theorem im_str {i : Str} : Im G.K H ι (.str i) (.str i) := by unfold Im; rfl
theorem im_str' {i : Str} {v : V} (h : Im G.K H ι (.str i) v) : v = .str i := by unfold Im at h; exact h
theorem im_non : Im G.K H ι .non .non := by unfold Im; rfl
theorem im_non' {v : V} (h : Im G.K H ι .non v) : v = .non := by unfold Im at h; exact h
theorem im_bl' {b : Bool} {v : V} (h : Im G.K H ι (.bl b) v) : v = .bl b := by unfold Im at h; exact h
theorem im_ty' {b : String} {v : V} (h : Im G.K H ι (.ty b) v) : v = .ty b := by unfold Im at h; exact h
theorem im_ref {n : Nat} {a : Addr} (h : ι[n]? = some a) : Im G.K H ι (.ref n) (.ref a) := by unfold Im; exact ⟨a, h, rfl⟩
theorem im_ref' {n : Nat} {v : V} (h : Im G.K H ι (.ref n) v) : ∃ a, ι[n]? = some a ∧ v = .ref a := by unfold Im at h; exact h
theorem im_tup' {l : List A} {v : V} (h : Im G.K H ι (.tup l) v) : ∃ a xs, v = .ref a ∧ SqT G.K H a xs ∧ ImL G.K H ι l xs := by unfold Im at h; exact h
theorem imL_get {ds : List A} {vs : List V} : ∀ {i : Nat} {d : A}, ImL G.K H ι ds vs → ds[i]? = some d → ∃ v, vs[i]? = some v ∧ Im G.K H ι d v := by
  induction ds generalizing vs with
  | nil => intro i d _ e; cases e
  | cons a ds ih =>
    intro i d h e
    obtain ⟨w, ws, rfl, h2, h3⟩ := imL_cons' h
    cases i with
    | zero => cases e; exact ⟨w, rfl, h2⟩
    | succ i => exact ih (i := i) h3 e
theorem imL_dropLast {ds : List A} {vs : List V} (h : ImL G.K H ι ds vs) : ImL G.K H ι ds.dropLast vs.dropLast := by
  induction ds generalizing vs with
  | nil => rw [imL_nil' h]; exact imL_nil
  | cons a ds ih =>
    obtain ⟨w, ws, rfl, h2, h3⟩ := imL_cons' h
    cases ds with
    | nil => rw [imL_nil' h3]; exact imL_nil
    | cons b ds =>
      obtain ⟨u, us, rfl, _, _⟩ := imL_cons' h3
      exact imL_cons h2 (ih h3)
theorem imL_drop {ds : List A} {vs : List V} (h : ImL G.K H ι ds vs) : ∀ n, ImL G.K H ι (ds.drop n) (vs.drop n) := by
  induction ds generalizing vs with
  | nil => intro n; rw [imL_nil' h]; simp only [List.drop_nil]; exact imL_nil
  | cons a ds ih =>
    intro n
    obtain ⟨w, ws, rfl, h2, h3⟩ := imL_cons' h
    cases n with
    | zero => exact imL_cons h2 h3
    | succ n => exact ih h3 n
theorem imL_take {ds : List A} {vs : List V} (h : ImL G.K H ι ds vs) : ∀ n, ImL G.K H ι (ds.take n) (vs.take n) := by
  induction ds generalizing vs with
  | nil => intro n; rw [imL_nil' h]; simp only [List.take_nil]; exact imL_nil
  | cons a ds ih =>
    intro n
    obtain ⟨w, ws, rfl, h2, h3⟩ := imL_cons' h
    cases n with
    | zero => exact imL_nil
    | succ n => exact imL_cons h2 (ih h3 n)
theorem imL_set {ds : List A} {vs : List V} {d : A} {v : V} (h : ImL G.K H ι ds vs) (hd : Im G.K H ι d v) : ∀ n, ImL G.K H ι (ds.set n d) (vs.set n v) := by
  induction ds generalizing vs with
  | nil => intro n; rw [imL_nil' h]; exact imL_nil
  | cons a ds ih =>
    intro n
    obtain ⟨w, ws, rfl, h2, h3⟩ := imL_cons' h
    cases n with
    | zero => exact imL_cons hd h3
    | succ n => exact imL_cons h2 (ih h3 n)
end
end Mx

/-! ### MkTupMul -/
set_option Elab.async false
set_option linter.all false
set_option maxRecDepth 100000
set_option maxHeartbeats 4000000
namespace L2
open PySem PySem.Spec PyProof.Rows
theorem mk_tuple_mul0 (l : Addr) (items : Array Value) (n : Nat) (dd : Option Addr) (sl : Array (Option Value)) (u : Tok) (c1 : (items.isEmpty || (0 : Int) == 1) = false) :
    Meets (Builtin.«tuple.__mul__» ⟨[.ref l, .int 0 u], []⟩) (fun _ R s => s.heap.get? l = some { cls := .type "tuple", dict := dd, data := .seq items n, slots := sl } ∧
      R (.ok (.ret (Value.ref s.heap.objs.size))) { s with heap := s.heap.push { cls := Value.type "tuple", data := Data.seq #[] }, toks := s.toks }) :=
  .of_wp fun prog w A R s h => by
    obtain ⟨hp, g, d, tk, os⟩ := s
    obtain ⟨hl, h⟩ := h
    have f1 := AutoSeq1.idx_int
    wp_walk using wpAny_loadPart' hl
    repeat (first
      | (refine wpAny_ite_false (decide_eq_false (by rw [c1]; exact Bool.false_ne_true)) ?_; wp_walk using wpAny_loadPart' hl)
      | (refine wpAny_ite_false (decide_eq_false (by decide)) ?_; wp_walk using wpAny_loadPart' hl)
      | (refine wpAny_ite_true (decide_eq_true (by decide)) ?_; wp_walk using wpAny_loadPart' hl))
    all_goals exact ⟨_, rfl, h⟩
theorem mk_tuple_mul1 (l : Addr) (items : Array Value) (n : Nat) (sl : Array (Option Value)) (u : Tok) (dd : Option Addr) :
    Meets (Builtin.«tuple.__mul__» ⟨[.ref l, .int 1 u], []⟩) (fun _ R s => s.heap.get? l = some { cls := .type "tuple", dict := dd, data := .seq items n, slots := sl } ∧ R (.ok (.ret (Value.ref l))) s) :=
  .of_wp fun prog w A R s h => by
    obtain ⟨hp, g, d, tk, os⟩ := s
    obtain ⟨hl, h⟩ := h
    have f1 := AutoSeq1.idx_int
    have c1 : (items.isEmpty || (1 : Int) == 1) = true := by rw [show ((1 : Int) == 1) = true by decide, Bool.or_true]
    wp_walk using wpAny_loadPart' hl
    exact ⟨_, rfl, h⟩
/-- t * k, t not empty, any small k -/
def rRepA (K : PySem.W.Frag) : R2 := fun x y H Q => ∃ l k xs, x = .ref l ∧ y = .int k ∧ SqT K H l xs ∧ xs ≠ [] ∧ 0 ≤ k ∧ k ≤ 5000 ∧ xs.length ≤ 100 ∧ (k = 1 → Q (.ref l) H) ∧ (k ≠ 1 → ∀ p, H p = none → Q (.ref p) (upd H p (.tup (List.replicate k.toNat xs).flatten)))
theorem op_repA {X : Cx} : OpR X (binaryOp .Mult) (rRepA X.K) := by
  intro pins s σ H x y v u Q I rx ry h
  obtain ⟨l, k, xs, rfl, rfl, hT, hne, h1, h2, hz, q1, q⟩ := h
  cases rx
  obtain ⟨t, rfl⟩ := ry
  obtain ⟨its, r, ⟨⟨cls, dd, data, sl⟩, ho, hc, n, hd⟩, hs⟩ := I.tuple hT
  simp only at hc hd
  subst hc hd
  have hle : its.length = xs.length := r.length.symm
  have hi : its.toArray.isEmpty = false := by
    cases its with
    | nil => exact absurd (List.eq_nil_of_length_eq_zero hle.symm) hne
    | cons a b => rfl
  have go : ∀ {P : Result → Shared → Prop}, codeAny (model X.prog X.w) X.A (.call (.builtin "tuple.__mul__") ⟨[.ref l, .int k t], []⟩) P s → True := fun _ => True.intro
  by_cases k1 : k = 1
  · subst k1
    refine wpAny_binaryOp_repeat_ref (T := "tuple") (U := "int") (by decide) ⟨_, ho, rfl⟩ (fun s' => typeIs_int s' 1 t) noFill_tuple_mul F.fills_int_mul F.slot_int_rmul repeat_tuple F.slot_int_index.lookup
      (call_meets F.slot_int_rmul (typeIs_int s 1 t) F.entry_int_rmul (F.args_int_rmul_2 _ _) (int_rmul_tuple 1 t l its.toArray n dd sl)
        ⟨ho, rfl, ⟨_, ho, rfl⟩, call_meets F.slot_tuple_mul ⟨_, ho, rfl⟩ F.entry_tuple_mul (F.args_tuple_mul_2 _ _) (mk_tuple_mul1 l its.toArray n sl t dd) ⟨ho, ⟨.ref l, H, I, rfl, q1 rfl⟩⟩⟩)
  · have lay : EP X pins σ Q (.ref s.heap.objs.size) { s with heap := s.heap.push { cls := Value.type "tuple", data := Data.seq (List.replicate k.toNat its).flatten.toArray }, toks := s.toks } := by
      refine ⟨.ref s.heap.objs.size, _, I.laid (t' := s.toks) (o := .tup (List.replicate k.toNat xs).flatten) (fun b ob q => Heap.get?_push_of_some _ q) (Nat.le_refl _) ?_, rfl, q k1 _ (I.hok.fresh (Nat.le_refl _))⟩
      exact ⟨by rw [PyProof.Rows.lm_len_rep_flat, sizeLine_eq]; have a1 : k.toNat * xs.length ≤ 5000 * 100 := Nat.mul_le_mul (by omega) hz; omega, _, r.rep k.toNat, IsTup.new _ _⟩
    by_cases k0 : k = 0
    · subst k0
      refine wpAny_binaryOp_repeat_ref (T := "tuple") (U := "int") (by decide) ⟨_, ho, rfl⟩ (fun s' => typeIs_int s' 0 t) noFill_tuple_mul F.fills_int_mul F.slot_int_rmul repeat_tuple F.slot_int_index.lookup
        (call_meets F.slot_int_rmul (typeIs_int s 0 t) F.entry_int_rmul (F.args_int_rmul_2 _ _) (int_rmul_tuple 0 t l its.toArray n dd sl)
          ⟨ho, rfl, ⟨_, ho, rfl⟩, call_meets F.slot_tuple_mul ⟨_, ho, rfl⟩ F.entry_tuple_mul (F.args_tuple_mul_2 _ _) (mk_tuple_mul0 l its.toArray n dd sl t (by rw [hi]; rfl)) ⟨ho, lay⟩⟩)
    · have hsz0 : its.toArray.size = xs.length := by rw [List.size_toArray, hle]
      have hm : ((its.toArray.size : Nat) : Int) * k ≤ 1000000 := by
        rw [hsz0]
        have a1 : ((xs.length : Nat) : Int) * k ≤ 100 * k := Int.mul_le_mul_of_nonneg_right (by omega) (by omega)
        omega
      have flen : (List.replicate k.toNat its).flatten.length ≤ sizeLine := by
        rw [PyProof.Rows.lm_len_rep_flat, hle, sizeLine_eq]
        have a1 : k.toNat * xs.length ≤ 5000 * 100 := Nat.mul_le_mul (by omega) hz
        omega
      have c0 : (decide (k < -(2 ^ 63)) || decide (k ≥ 2 ^ 63)) = false := by rw [decide_eq_false (by omega), decide_eq_false (by omega)] <;> rfl
      have c1 : (its.toArray.isEmpty || k == 1) = false := by rw [hi, Bool.false_or]; exact beq_eq_false_iff_ne.mpr k1
      have c2 : (decide (k ≤ 0) || its.toArray.isEmpty) = false := by rw [hi, Bool.or_false]; exact decide_eq_false (by omega)
      have c4 : Builtin.Tuple.tupleTooMany (((its.toArray.size : Nat) : Int) * k) = false := by
        unfold Builtin.Tuple.tupleTooMany
        rw [sizeLine_eq]
        exact decide_eq_false (by omega)
      refine wpAny_binaryOp_repeat_ref (T := "tuple") (U := "int") (by decide) ⟨_, ho, rfl⟩ (fun s' => typeIs_int s' k t) noFill_tuple_mul F.fills_int_mul F.slot_int_rmul repeat_tuple F.slot_int_index.lookup
        (call_meets F.slot_int_rmul (typeIs_int s k t) F.entry_int_rmul (F.args_int_rmul_2 _ _) (int_rmul_tuple k t l its.toArray n dd sl)
          ⟨ho, rfl, ⟨_, ho, rfl⟩, call_meets F.slot_tuple_mul ⟨_, ho, rfl⟩ F.entry_tuple_mul (F.args_tuple_mul_2 _ _) (tuple_mulW l its.toArray n dd sl k t c0 c1 c2 (by omega) c4 (by rw [size_rep, List.size_toArray]; exact flen)) ⟨ho, ?_⟩⟩)
      rw [size_rep]
      exact lay
end L2

/-! ### MkX4 -/
set_option Elab.async false
set_option linter.all false
set_option maxRecDepth 100000
set_option maxHeartbeats 4000000
namespace Mx
open PySem PySem.Spec PyProof.Rows L2
open GxR (TabG Tabbed)
theorem opR_or {X : Cx} {f : Value → Value → Sem Value} {r r' : R2} (h : OpR X f r) (h' : OpR X f r') : OpR X f (fun x y H Q => r x y H Q ∨ r' x y H Q) := by
  intro pins s σ H x y v u Q I rx ry q
  rcases q with q | q
  · exact h pins s σ H x y v u Q I rx ry q
  · exact h' pins s σ H x y v u Q I rx ry q
theorem callR_or {X : Cx} {f : Value} {r r' : List V → Hp → VK → Prop} (h : CallR X f r) (h' : CallR X f r') : CallR X f (fun xs H Q => r xs H Q ∨ r' xs H Q) := by
  intro pins s σ H xs us Q I rx q
  rcases q with q | q
  · exact h pins s σ H xs us Q I rx q
  · exact h' pins s σ H xs us Q I rx q
section
variable {G : Gx} {T : List Addr} {E : XK}
/-! ### ints -/
def fI2 (g : Int → Int → A) : F2 := fun a b st => match a, b with
  | .int i, .int j => some (g i j, st)
  | _, _ => none
theorem ok_I0 {g : Int → Int → V} {gA : Int → Int → A} (hg : ∀ i j H ι, Im G.K H ι (gA i j) (g i j)) : Ok2 G (rI0 g) (fI2 gA) := fun ι st H a b x y c Q R ia ib e q => by
  unfold fI2 at e
  split at e
  · cases e
    rw [im_int' ia, im_int' ib]
    exact ⟨_, _, rfl, rfl, PE1.at q R (hg _ _ _ _)⟩
  · cases e
theorem ok_lt : Ok2 G (rI0 fun i j => .bl (decide (i < j))) (fI2 fun i j => .bl (decide (i < j))) := ok_I0 fun _ _ _ _ => im_bl
theorem ok_le : Ok2 G (rI0 fun i j => .bl (decide (i ≤ j))) (fI2 fun i j => .bl (decide (i ≤ j))) := ok_I0 fun _ _ _ _ => im_bl
theorem ok_gt : Ok2 G (rI0 fun i j => .bl (decide (j < i))) (fI2 fun i j => .bl (decide (j < i))) := ok_I0 fun _ _ _ _ => im_bl
theorem ok_ge : Ok2 G (rI0 fun i j => .bl (decide (j ≤ i))) (fI2 fun i j => .bl (decide (j ≤ i))) := ok_I0 fun _ _ _ _ => im_bl
theorem ok_add : Ok2 G (rI0 fun i j => .int (i + j)) (fI2 fun i j => .int (i + j)) := ok_I0 fun _ _ _ _ => im_int
theorem ok_sub : Ok2 G (rI0 fun i j => .int (i - j)) (fI2 fun i j => .int (i - j)) := ok_I0 fun _ _ _ _ => im_int
def fMul : F2 := fun a b st => match a, b with
  | .int i, .int j => if -(2 ^ 64) < i ∧ i < 2 ^ 64 then some (.int (i * j), st) else none
  | _, _ => none
def fU (g : Int → A) : F1 := fun a st => match a with
  | .int i => some (g i, st)
  | _ => none
theorem ok_neg : Ok1 G (rU fun i => .int (-i)) (fU fun i => .int (-i)) := fun ι st H a x c Q R ia e q => by
  unfold fU at e
  split at e
  · cases e
    rw [im_int' ia]
    exact ⟨_, rfl, PE1.at q R im_int⟩
  · cases e
/-- a op b op c -/
def mChain (f f' : F2) (ma mb mc : EM) : EM := fun env st => (ma env st).bind fun a => (mb env a.2).bind fun b => (ofO (f a.1 b.1 b.2)).bind fun z => (asB z).bind fun k => if k.1 = true then (mc env k.2).bind fun c => ofO (f' b.1 c.1 c.2) else .ok (.bl false, k.2)
theorem ex_chain {r r' : R2} {f f' : F2} {ta tb tc : TE} {ma mb mc : EM} (hf : Ok2 G r f) (hf' : Ok2 G r' f') (ha : Ex G E ta ma) (hb : Ex G E tb mb) (hc : Ex G E tc mc) : Ex G E (tChain r r' ta tb tc) (mChain f f' ma mb mc) := fun ι env st σ H Q R Ev h => by
  refine ha.run R Ev h fun ι1 H1 a s1 v f1 R1 Ev1 im h1 => ?_
  refine hb.run R1 Ev1 h1 fun ι2 H2 b s2 w f2 R2 Ev2 im2 h2 => ?_
  obtain ⟨z, e, q⟩ := ofO_holds (holds_bind h2)
  refine hf _ _ _ _ _ _ _ _ _ R2 (R1.im f2 im) im2 e (fun ι3 H3 x f3 R3 im3 => ?_)
  obtain ⟨k, e1, e2, q⟩ := asB_run (holds_bind q) im3
  refine ⟨k, e2, ?_⟩
  cases k with
  | true =>
    refine iteT (hc.run R3 (R2.env f3 Ev2) (sh f3 (show Mx.R.holds _ _ _ from q) fun _ q => q) fun ι4 H4 c s4 u f4 R4 Ev4 im4 h4 => ?_)
    obtain ⟨z2, e3, q3⟩ := ofO_holds h4
    exact hf' _ _ _ _ _ _ _ _ _ R4 (R3.im f4 (R2.im f3 im2)) im4 e3 (PE1.sh (((f1.trans f2).trans f3).trans f4) q3)
  | false => exact iteF ((show PE1 G ι H Q (.bl false, z.2) from q) _ _ _ ((f1.trans f2).trans f3) R3 im_bl)
/-! ### isinstance -/
def toD : A → Mk.D
  | .non => .non | .bl b => .bl b | .int i => .int i | .str s => .str s | .tup _ => .tup [] | .ref _ => .lst [] | .ty _ => .non
def okIs (a : A) (st : Sto) : Bool := match a with
  | .ty _ => false
  | .ref k => match st[k]? with
    | some (.lst _) => true
    | _ => false
  | _ => true
def isiA (a : A) (st : Sto) (n : String) : Option Bool := if okIs a st = true then (match n with
  | "int" => some (Mk.isInt (toD a))
  | "bool" => some (Mk.isBool (toD a))
  | "str" => some (Mk.isStr (toD a))
  | "tuple" => some (Mk.isTup (toD a))
  | "list" => some (Mk.isLst (toD a))
  | _ => none) else none
theorem ty_of {ι : List Addr} {H : Hp} {st : Sto} (R : Rl G ι H st) {a : A} {v : V} (im : Im G.K H ι a v) (h1 : ∀ n, a ≠ .ty n) (h2 : ∀ k, a = .ref k → ∃ l, st[k]? = some (.lst l)) : TyX G.K H v (.type (Mk.tyD (toD a))) := by
  cases a with
  | non => rw [im_non' im]; exact .base .non
  | bl b => rw [im_bl' im]; exact .base (.bl b)
  | int i => rw [im_int' im]; exact .base (.int i)
  | str s => rw [im_str' im]; exact .base (.str s)
  | ty n => exact absurd rfl (h1 n)
  | tup l =>
    obtain ⟨a, xs, rfl, h2, _⟩ := im_tup' im
    rcases h2 with (h | ⟨o, h⟩) | ⟨o, its, n, h, c, _⟩
    · exact .base (.tup h)
    · exact .fTuple h
    · exact .kTuple h c
  | ref k =>
    obtain ⟨l, e⟩ := h2 k rfl
    obtain ⟨a, xs, rfl, _, h, _⟩ := R.lst e im
    exact .base (.lst h)
def fIsi : FL := fun l st => match l with
  | [a, .ty n] => (isiA a st n).map fun b => (.bl b, st)
  | _ => none
theorem ok_isi : OkL G (rIsi G.K) fIsi := fun ι st H as xs c Q R im e q => by
  unfold fIsi at e
  split at e
  · rename_i a n
    obtain ⟨v, w, rfl, i1, i2⟩ := imL_2 im
    rw [im_ty' i2]
    cases hb : isiA a st n with
    | none => rw [hb] at e; cases e
    | some b =>
      rw [hb] at e
      cases e
      have key : (∀ n, a ≠ .ty n) ∧ (∀ k, a = .ref k → ∃ l, st[k]? = some (.lst l)) ∧ kitB (Mk.tyD (toD a)) n = some b := by
        unfold isiA at hb
        split at hb
        · rename_i ho
          refine ⟨fun m z => (by subst z; cases ho), fun k z => ?_, ?_⟩
          · subst z
            unfold okIs at ho
            dsimp only at ho
            split at ho
            · rename_i l hl; exact ⟨l, hl⟩
            · cases ho
          · split at hb
            · cases hb; exact Mk.kit_int _
            · cases hb; exact Mk.kit_bool _
            · cases hb; exact Mk.kit_str _
            · cases hb; exact Mk.kit_tuple _
            · cases hb; exact Mk.kit_list _
            · cases hb
        · cases hb
      exact ⟨v, .ty n, _, _, _, rfl, .ty _, ty_of R i1 key.1 key.2.1, kit_ty key.2.2, PE1.at q R im_bl⟩
  · cases e
/-! ### equal -/
mutual
def toP (st : Sto) : Nat → A → Option PyData
  | _, .non => some .none
  | _, .bl b => some (.bool b)
  | _, .int i => some (.int i)
  | _, .str s => some (.str s)
  | _, .ty _ => none
  | 0, .ref _ => none
  | k + 1, .ref n => match st[n]? with
    | some (.lst l) => (toPs st k l).map .list
    | _ => none
  | 0, .tup _ => none
  | k + 1, .tup l => (toPs st k l).map .tuple
def toPs (st : Sto) : Nat → List A → Option (List PyData)
  | _, [] => some []
  | k, a :: l => match toP st k a, toPs st k l with
    | some d, some ds => some (d :: ds)
    | _, _ => none
end
mutual
theorem dp_of {ι : List Addr} {H : Hp} {st : Sto} (R : Rl G ι H st) : ∀ {k : Nat} {a : A} {v : V} {d : PyData}, Im G.K H ι a v → toP st k a = some d → Dp G.K H v d
  | k, .non, v, d, im, e => by unfold toP at e; cases e; rw [im_non' im]; exact .non
  | k, .bl b, v, d, im, e => by unfold toP at e; cases e; rw [im_bl' im]; exact .bl b
  | k, .int i, v, d, im, e => by unfold toP at e; cases e; rw [im_int' im]; exact .int i
  | k, .str s, v, d, im, e => by unfold toP at e; cases e; rw [im_str' im]; exact .str s
  | k, .ty n, v, d, im, e => by unfold toP at e; cases e
  | 0, .ref n, v, d, im, e => by unfold toP at e; cases e
  | k + 1, .ref n, v, d, im, e => by
    unfold toP at e
    split at e
    · rename_i l hl
      cases hd : toPs st k l with
      | none => rw [hd] at e; cases e
      | some ds =>
        rw [hd] at e
        cases e
        obtain ⟨a, xs, rfl, _, h, il⟩ := R.lst hl im
        exact .lst (.inl (.inl h)) (dps_of R il hd)
    · cases e
  | 0, .tup l, v, d, im, e => by unfold toP at e; cases e
  | k + 1, .tup l, v, d, im, e => by
    unfold toP at e
    cases hd : toPs st k l with
    | none => rw [hd] at e; cases e
    | some ds =>
      rw [hd] at e
      cases e
      obtain ⟨a, xs, rfl, h, il⟩ := im_tup' im
      exact .tup h (dps_of R il hd)
theorem dps_of {ι : List Addr} {H : Hp} {st : Sto} (R : Rl G ι H st) : ∀ {k : Nat} {l : List A} {vs : List V} {ds : List PyData}, ImL G.K H ι l vs → toPs st k l = some ds → DpAll G.K H vs ds
  | k, [], vs, ds, im, e => by unfold toPs at e; cases e; rw [imL_nil' im]; exact .nil
  | k, a :: l, vs, ds, im, e => by
    unfold toPs at e
    split at e
    · rename_i d ds' h1 h2
      cases e
      obtain ⟨v, vs, rfl, i1, i2⟩ := imL_cons' im
      exact .cons (dp_of R i1 h1) (dps_of R i2 h2)
    · cases e
end
def eqDeep (a b : A) (st : Sto) : Option Bool := match toP st 40 a, toP st 40 b with
  | some d, some e => if (SeqAt.shaped d && SeqAt.shaped e) = true then some (PyData.eqv d e) else none
  | _, _ => none
def eqA (a b : A) (st : Sto) : Option Bool := match a, b with
  | .int i, .int j => some (decide (i = j))
  | .str s, .str t => some (decide (s = t))
  | .non, .non => some true
  | .non, .int _ => some false
  | .int _, .non => some false
  | .non, .str _ => some false
  | .str _, .non => some false
  | .bl b, .bl c => some (decide (b = c))
  | .int _, .str _ => some false
  | .str _, .int _ => some false
  | a, b => eqDeep a b st
def rEqA (K : PySem.W.Frag) : R2 := fun x y H Q => rEq x y H Q ∨ rEqD K x y H Q
def rNeA (K : PySem.W.Frag) : R2 := fun x y H Q => rNe x y H Q ∨ rNeD K x y H Q
theorem op_eqA {X : Cx} (hu : X.A.units + 64 < cLine) : OpR X (compareOp .Eq) (rEqA X.K) := opR_or op_eq (op_eqD hu)
theorem op_neA {X : Cx} (hu : X.A.units + 64 < cLine) : OpR X (compareOp .NotEq) (rNeA X.K) := opR_or op_ne (op_neD hu)
theorem eqA_ok {ι : List Addr} {H : Hp} {st : Sto} (R : Rl G ι H st) {a b : A} {x y : V} {c : Bool} (ia : Im G.K H ι a x) (ib : Im G.K H ι b y) (e : eqA a b st = some c) :
    (scal x y = true ∧ decide (x = y) = c) ∨ ∃ d e', Dp G.K H x d ∧ Dp G.K H y e' ∧ SeqAt.shaped d = true ∧ SeqAt.shaped e' = true ∧ PyData.eqv d e' = c := by
  unfold eqA at e
  split at e
  · cases e; rw [im_int' ia, im_int' ib]; exact .inl ⟨rfl, by simp⟩
  · cases e; rw [im_str' ia, im_str' ib]; exact .inl ⟨rfl, by simp⟩
  · cases e; rw [im_non' ia, im_non' ib]; exact .inl ⟨rfl, by simp⟩
  · cases e; rw [im_non' ia, im_int' ib]; exact .inl ⟨rfl, by simp⟩
  · cases e; rw [im_int' ia, im_non' ib]; exact .inl ⟨rfl, by simp⟩
  · cases e; rw [im_non' ia, im_str' ib]; exact .inl ⟨rfl, by simp⟩
  · cases e; rw [im_str' ia, im_non' ib]; exact .inl ⟨rfl, by simp⟩
  · cases e; rw [im_bl' ia, im_bl' ib]; exact .inl ⟨rfl, by simp⟩
  · cases e; rw [im_int' ia, im_str' ib]; exact .inl ⟨rfl, by simp⟩
  · cases e; rw [im_str' ia, im_int' ib]; exact .inl ⟨rfl, by simp⟩
  · unfold eqDeep at e
    split at e
    · rename_i d e' h1 h2
      split at e
      · rename_i hs
        cases e
        rw [Bool.and_eq_true] at hs
        exact .inr ⟨d, e', dp_of R ia h1, dp_of R ib h2, hs.1, hs.2, rfl⟩
      · cases e
    · cases e
def fEq : F2 := fun a b st => (eqA a b st).map fun c => (.bl c, st)
def fNe : F2 := fun a b st => (eqA a b st).map fun c => (.bl (!c), st)
theorem ok_eq : Ok2 G (rEqA G.K) fEq := fun ι st H a b x y c Q R ia ib e q => by
  unfold fEq at e
  cases h : eqA a b st with
  | none => rw [h] at e; cases e
  | some c' =>
    rw [h] at e
    cases e
    rcases eqA_ok R ia ib h with ⟨s, z⟩ | ⟨d, e', h1, h2, h3, h4, z⟩
    · exact .inl ⟨s, by rw [z]; exact PE1.at q R im_bl⟩
    · exact .inr ⟨d, e', h1, h2, h3, h4, by rw [z]; exact PE1.at q R im_bl⟩
theorem ok_ne : Ok2 G (rNeA G.K) fNe := fun ι st H a b x y c Q R ia ib e q => by
  unfold fNe at e
  cases h : eqA a b st with
  | none => rw [h] at e; cases e
  | some c' =>
    rw [h] at e
    cases e
    rcases eqA_ok R ia ib h with ⟨s, z⟩ | ⟨d, e', h1, h2, h3, h4, z⟩
    · exact .inl ⟨s, by rw [z]; exact PE1.at q R im_bl⟩
    · exact .inr ⟨d, e', h1, h2, h3, h4, by rw [z]; exact PE1.at q R im_bl⟩
/-! ### is None, is True -/
def isNon : A → Bool
  | .non => true
  | _ => false
theorem isNon_ok {ι : List Addr} {H : Hp} {a : A} {x : V} (im : Im G.K H ι a x) : decide (x = .non) = isNon a := by
  cases a with
  | non => rw [im_non' im]; rfl
  | bl b => rw [im_bl' im]; rfl
  | int i => rw [im_int' im]; rfl
  | str s => rw [im_str' im]; rfl
  | ty n => rw [im_ty' im]; rfl
  | tup l => obtain ⟨a, xs, rfl, _⟩ := im_tup' im; rfl
  | ref k => obtain ⟨a, _, rfl⟩ := im_ref' im; rfl
def fIsN : F2 := fun a b st => match b with
  | .non => some (.bl (isNon a), st)
  | _ => none
def fNotN : F2 := fun a b st => match b with
  | .non => some (.bl (!isNon a), st)
  | _ => none
theorem ok_isN : Ok2 G (fun x y H Q => y = .non ∧ Q (.bl (decide (x = .non))) H) fIsN := fun ι st H a b x y c Q R ia ib e q => by
  unfold fIsN at e
  split at e
  · cases e
    exact ⟨im_non' ib, by rw [isNon_ok ia]; exact PE1.at q R im_bl⟩
  · cases e
theorem ok_notN : Ok2 G (fun x y H Q => y = .non ∧ Q (.bl (!decide (x = .non))) H) fNotN := fun ι st H a b x y c Q R ia ib e q => by
  unfold fNotN at e
  split at e
  · cases e
    exact ⟨im_non' ib, by rw [isNon_ok ia]; exact PE1.at q R im_bl⟩
  · cases e
/-! ### x[i] -/
def ixA (a b : A) (st : Sto) : Option A := match a, b with
  | .tup l, .int i => atI l i
  | .ref n, .int i => match st[n]? with
    | some (.lst l) => atI l i
    | _ => none
  | .str z, .int i => if z.length ≤ sizeLine then (atI z.cps.toList i).map fun c => .str ⟨#[c]⟩ else none
  | _, _ => none
def fIx : F2 := fun a b st => (ixA a b st).map fun c => (c, st)
theorem atI_im {ι : List Addr} {H : Hp} {l : List A} {xs : List V} {i : Int} {c : A} (il : ImL G.K H ι l xs) (e : atI l i = some c) : ∃ v, atI xs i = some v ∧ Im G.K H ι c v := by
  unfold atI at e ⊢
  rw [il.length]
  cases h : ixN l.length i with
  | none => rw [h] at e; cases e
  | some j =>
    rw [h] at e
    exact imL_get il e
theorem ok_ix : Ok2 G (rIx G.K) fIx := fun ι st H a b x y c Q R ia ib e q => by
  unfold fIx at e
  cases h : ixA a b st with
  | none => rw [h] at e; cases e
  | some c' =>
    rw [h] at e
    cases e
    unfold ixA at h
    split at h
    · obtain ⟨p, xs, rfl, hx, il⟩ := im_tup' ia
      obtain ⟨v, e2, iv⟩ := atI_im il h
      exact .inr (.inl ⟨p, xs, _, v, rfl, im_int' ib, hx, e2, PE1.at q R iv⟩)
    · split at h
      · rename_i l hl
        obtain ⟨p, xs, rfl, _, hx, il⟩ := R.lst hl ia
        obtain ⟨v, e2, iv⟩ := atI_im il h
        exact .inl ⟨p, xs, _, v, rfl, im_int' ib, .inl (.inl hx), e2, PE1.at q R iv⟩
      · cases h
    · split at h
      · rename_i hz
        rename_i z i
        cases hc : atI z.cps.toList i with
        | none => rw [hc] at h; cases h
        | some ch =>
          rw [hc] at h
          cases h
          exact .inr (.inr ⟨z, i, ch, im_str' ia, im_int' ib, hz, hc, PE1.at q R im_str⟩)
      · cases h
    · cases h
/-! ### len, tuple, list, str -/
def fLen : FL := fun l st => match l with
  | [.tup l] => some (.int l.length, st)
  | [.ref n] => match st[n]? with
    | some (.lst l) => some (.int l.length, st)
    | _ => none
  | [.str z] => if z.length ≤ sizeLine then some (.int z.length, st) else none
  | _ => none
def rLenA (K : PySem.W.Frag) : List V → Hp → VK → Prop := fun xs H Q => (∃ p ys, xs = [.ref p] ∧ (SqL K H p ys ∨ SqT K H p ys) ∧ Q (.int ys.length) H) ∨ (∃ z : Str, xs = [.str z] ∧ z.length ≤ sizeLine ∧ Q (.int z.length) H)
theorem call_lenA {X : Cx} : CallR X (.builtin "len") (rLenA X.K) := callR_or call_len_seq call_len_str
theorem ok_len : OkL G (rLenA G.K) fLen := fun ι st H as xs c Q R im e q => by
  unfold fLen at e
  split at e
  · cases e
    obtain ⟨v, rfl, i1⟩ := imL_1 im
    obtain ⟨p, ys, rfl, hx, il⟩ := im_tup' i1
    exact .inl ⟨p, ys, rfl, .inr hx, by rw [il.length]; exact PE1.at q R im_int⟩
  · split at e
    · rename_i l hl
      cases e
      obtain ⟨v, rfl, i1⟩ := imL_1 im
      obtain ⟨p, ys, rfl, _, hx, il⟩ := R.lst hl i1
      exact .inl ⟨p, ys, rfl, .inl (.inl (.inl hx)), by rw [il.length]; exact PE1.at q R im_int⟩
    · cases e
  · split at e
    · rename_i hz
      cases e
      obtain ⟨v, rfl, i1⟩ := imL_1 im
      rw [im_str' i1]
      exact .inr ⟨_, rfl, hz, PE1.at q R im_int⟩
    · cases e
  · cases e
def fTuple : FL := fun l st => match l with
  | [.tup l] => some (.tup l, st)
  | [.ref n] => match st[n]? with
    | some (.lst l) => some (.tup l, st)
    | _ => none
  | _ => none
theorem ok_tuple (M : AmX G T) : OkL G (fun xs H Q => ∃ p ys, xs = [.ref p] ∧ ((SqL G.K H p ys ∧ ∀ l, H l = none → Q (.ref l) (upd H l (.tup ys))) ∨ (SqT G.K H p ys ∧ Q (.ref p) H))) fTuple := fun ι st H as xs c Q R im e q => by
  unfold fTuple at e
  split at e
  · cases e
    obtain ⟨v, rfl, i1⟩ := imL_1 im
    obtain ⟨p, ys, rfl, hx, il⟩ := im_tup' i1
    exact ⟨p, ys, rfl, .inr ⟨hx, PE1.at q R i1⟩⟩
  · split at e
    · rename_i l hl
      cases e
      obtain ⟨v, rfl, i1⟩ := imL_1 im
      obtain ⟨p, ys, rfl, _, hx, il⟩ := R.lst hl i1
      exact ⟨p, ys, rfl, .inl ⟨.inl (.inl hx), fun l hl => PE1.tup M R il q hl⟩⟩
    · cases e
  · cases e
def fList : FL := fun l st => match l with
  | [.tup l] => some (.ref st.length, st ++ [.lst l])
  | [.ref n] => match st[n]? with
    | some (.lst l) => some (.ref st.length, st ++ [.lst l])
    | _ => none
  | _ => none
theorem ok_list (M : AmX G T) : OkL G (fun xs H Q => ∃ p ys, xs = [.ref p] ∧ (SqL G.K H p ys ∨ SqT G.K H p ys) ∧ ∀ l, H l = none → Q (.ref l) (upd H l (.lst ys))) fList := fun ι st H as xs c Q R im e q => by
  unfold fList at e
  split at e
  · cases e
    obtain ⟨v, rfl, i1⟩ := imL_1 im
    obtain ⟨p, ys, rfl, hx, il⟩ := im_tup' i1
    exact ⟨p, ys, rfl, .inr hx, fun l hl => PE1.lst M R il q hl⟩
  · split at e
    · rename_i l hl
      cases e
      obtain ⟨v, rfl, i1⟩ := imL_1 im
      obtain ⟨p, ys, rfl, _, hx, il⟩ := R.lst hl i1
      exact ⟨p, ys, rfl, .inl (.inl (.inl hx)), fun l hl => PE1.lst M R il q hl⟩
    · cases e
  · cases e
def fStrI : FL := fun l st => match l with
  | [.int i] => if i.natAbs.log2 < 1920 then some (.str (toString i), st) else none
  | _ => none
theorem ok_strI : OkL G (fun xs H Q => ∃ i : Int, xs = [.int i] ∧ i.natAbs.log2 < 1920 ∧ Q (.str (toString i)) H) fStrI := fun ι st H as xs c Q R im e q => by
  unfold fStrI at e
  split at e
  · split at e
    · rename_i hi
      cases e
      obtain ⟨v, rfl, i1⟩ := imL_1 im
      exact ⟨_, by rw [im_int' i1], hi, PE1.at q R im_str⟩
    · cases e
  · cases e
/-! ### displays -/
theorem pe1_len {n : Nat} : True := trivial
def mTup (ml : LM) : EM := fun env st => (ml env st).bind fun l => if l.1.length ≤ sizeLine then .ok (.tup l.1, l.2) else .fail
def mLst (ml : LM) : EM := fun env st => (ml env st).bind fun l => if l.1.length ≤ sizeLine then .ok (.ref l.2.length, l.2 ++ [.lst l.1]) else .fail
theorem ex_tup (M : AmX G T) {tl : TA} {ml : LM} (hl : ExL G E tl ml) : Ex G E (tTup tl) (mTup ml) := fun ι env st σ H Q R Ev h => by
  refine hl.run R Ev h fun ι1 H1 a s1 v f1 R1 Ev1 im h1 => ?_
  dsimp only at h1
  split at h1
  · rename_i e
    exact ⟨by rw [im.length]; exact e, fun p hp => PE1.tup M R1 im (PE1.sh f1 h1) hp⟩
  · exact h1.elim
theorem ex_lst (M : AmX G T) {tl : TA} {ml : LM} (hl : ExL G E tl ml) : Ex G E (tLst tl) (mLst ml) := fun ι env st σ H Q R Ev h => by
  refine hl.run R Ev h fun ι1 H1 a s1 v f1 R1 Ev1 im h1 => ?_
  dsimp only at h1
  split at h1
  · rename_i e
    exact ⟨by rw [im.length]; exact e, fun p hp => PE1.lst M R1 im (PE1.sh f1 h1) hp⟩
  · exact h1.elim
end
end Mx

/-! ### MkEnum -/
set_option Elab.async false
set_option linter.all false
set_option maxRecDepth 100000
set_option maxHeartbeats 4000000
namespace PySem
open Sem (wp)
open AutoSeq1 (wpAny_loadPart')
theorem mk_meets_enumerate_newT (l : Addr) (items : Array Value) (n : Nat) (dct : Option Addr) (sl : Array (Option Value)) :
    Meets (Builtin.«enumerate.__new__» ⟨[.type "enumerate", .ref l], []⟩) (fun _ R s => s.heap.get? l = some { cls := .type "tuple", dict := dct, data := .seq items n, slots := sl } ∧
      R (.ok (.ret (.ref (s.heap.push { cls := .type "tuple_iterator", data := .fields #[.ref l, .int 0 0] }).objs.size)))
        { s with heap := (s.heap.push { cls := .type "tuple_iterator", data := .fields #[.ref l, .int 0 0] }).push { cls := .type "enumerate", data := .fields #[.none, .bool false, .ref s.heap.objs.size, rawInt 0, .none, .none] } }) :=
  .of_wp fun prog w A R s h => by
    obtain ⟨hp, g, d, tk, os⟩ := s; obtain ⟨hl, h⟩ := h
    have hsub := sub_enumerate
    have hL : Heap.IsTuple (Shared.heap ⟨hp, g, d, tk, os⟩) l items := ⟨_, hl, rfl, n, rfl⟩
    wp_walk using wpAny_loadPart' hl
    refine wpAny_stack_any fun st => wpAny_pure ?_
    split
    · rename_i c _ _ _ _ _
      cases (c == Value.type "enumerate")
      · wp_walk using wpAny_loadPart' hl, wpAny_pyIter_tuple hL
        exact ⟨_, rfl, h⟩
      · wp_walk using wpAny_loadPart' hl, wpAny_pyIter_tuple hL
        exact ⟨_, rfl, h⟩
    · wp_walk using wpAny_loadPart' hl, wpAny_pyIter_tuple hL
      exact ⟨_, rfl, h⟩
section
variable {prog : Program} {w : World} {A : Around} {E : Value → Shared → Prop} {s : Shared}
theorem mk_call_enumerate_tuple {l : Addr} {items : Array Value} {Q : Value → Shared → Prop} (hL : s.heap.IsTuple l items)
    (h : ∀ h', IsEnum h' (s.heap.objs.size + 1) s.heap.objs.size 0 .none → h'.IsTupleIter s.heap.objs.size l 0 → h'.objs.size = s.heap.objs.size + 2 →
      (∀ b o, s.heap.get? b = some o → h'.get? b = some o) → Q (.ref (s.heap.objs.size + 1)) { s with heap := h' }) :
    wpAny (model prog w) A (call (.type "enumerate") [.ref l]) Q E s := by
  obtain ⟨⟨c, dct, dt, sl⟩, hl, hc, n, hd⟩ := hL
  replace hc : c = .type "tuple" := hc
  replace hd : dt = .seq items n := hd
  subst hc hd
  refine callType_new F.called_enumerate (by decide) (F.typeCall_enumerate_1 _) (F.newCall_enumerate_1 _) (fun obj => F.args_object_init_2 obj _) F.entry_enumerate_new
    (mk_meets_enumerate_newT l items n dct sl) ⟨hl, ?_⟩
  have hz : (s.heap.push { cls := .type "tuple_iterator", data := .fields #[.ref l, .int 0 0] }).objs.size = s.heap.objs.size + 1 := Heap.size_push ..
  show _ ∧ _
  rw [hz]
  have he : IsEnum ((s.heap.push { cls := .type "tuple_iterator", data := .fields #[.ref l, .int 0 0] }).push
      { cls := .type "enumerate", data := .fields #[.none, .bool false, .ref s.heap.objs.size, rawInt 0, .none, .none] }) (s.heap.objs.size + 1) s.heap.objs.size 0 .none := by
    have := Heap.get?_push_size (s.heap.push { cls := .type "tuple_iterator", data := .fields #[.ref l, .int 0 0] })
      (o := { cls := .type "enumerate", data := .fields #[.none, .bool false, .ref s.heap.objs.size, rawInt 0, .none, .none] }) rfl
    rw [hz] at this; exact this
  refine ⟨⟨_, he, rfl⟩, h _ he ⟨_, Heap.get?_push_of_some _ (Heap.get?_push_size _ rfl), rfl, rfl⟩ (by rw [Heap.size_push, hz]) fun b o x => Heap.get?_push_of_some _ (Heap.get?_push_of_some _ x)⟩
end
end PySem
namespace Mk
open PySem PySem.Spec PyProof.Rows L2
/-- the tuple at a at each turn, each item in a new pair -/
def Itet (K : PySem.W.Frag) (a : Addr) : It :=
  ⟨fun i H => ∃ (xs : List V) (x : V), SqT K H a xs ∧ xs[i]? = some x, fun i H v H' => ∃ T x, v = .ref T ∧ H T = none ∧ H' = upd H T (.tup [.int (i : Nat), x]) ∧ ∀ xs, SqT K H a xs → xs[i]? = some x, fun i H => ∃ xs : List V, SqT K H a xs ∧ xs.length ≤ i⟩
theorem wpAny_pyNext_enum_endD' {prog : Program} {w : World} {A : Around} {E : Value → Shared → Prop} {s : Shared} {e it a : Addr} {i : Nat} {j : Int} {old : Value} {items : Array Value} {Q : Option Value → Shared → Prop} (he : IsEnum s.heap e it j old) (hit : s.heap.IsTupleIter it a i) (p : s.heap.IsTuple a items) (hh : A.handled = none) (hx : items[i]? = none)
    (hQ : ∀ h', Heap.ExtBut it s.heap h' → Q none { s with heap := h' }) : wpAny (model prog w) A (pyNext (.ref e)) Q E s := by
  have hT : s.TypeIs (.ref e) "enumerate" := ⟨_, he, rfl⟩
  unfold pyNext
  refine wpAny_bind (wpAny_attempt (wpAny_callSpecial?_slot (name := Str.ofString "__next__") hT F.slot_enumerate_next
    (wpAny_call_entry F.slot_enumerate_next hT F.entry_enumerate_next ?_ (F.args_enumerate_next_1 _))))
  show wpAny _ _ (field (.ref e) 2 >>= _) _ _ _
  refine wpAny_bind (wpAny_field he rfl (x := .ref it) rfl ?_)
  refine wpAny_bind (wpAny_nextOf_tuple_end hh hit p hx fun h' x he' hx' => ?_)
  obtain ⟨o, ho, hc⟩ := hx'
  refine wpAny_bind (wpAny_isInstance (T := "StopIteration") (b := true) ⟨o, ho, hc⟩ isSubtype_stop ?_)
  exact wpAny_pure (hQ _ he')
theorem turn_enumT {P : Program} {w : World} {K : PySem.W.Frag} {elts : List Expr} {kk : Nat} {tpos : Pos} (a e it : Addr) :
    Turn P w K (.Tuple elts kk tpos) (Itet K a) [e, it] e (fun i h => (∃ old, IsEnum h e it ((i : Nat) : Int) old) ∧ h.IsTupleIter it a i ∧ e ≠ it) where
  mem := by simp
  obj := fun i h st b hb => by
    obtain ⟨⟨old, he⟩, ⟨o, ho, hc, hd⟩, _⟩ := st
    have e' : b = e ∨ b = it := by simpa using hb
    rcases e' with z | z
    · rw [z]; exact ⟨_, he, fun v q => nomatch q⟩
    · rw [z]; exact ⟨o, ho, fun v q => by rw [hd] at q; cases q⟩
  keep := fun i h h' st k => let ⟨⟨old, he⟩, hi, hne⟩ := st; ⟨⟨old, k e (by simp) _ he⟩, hi.at fun o q => k it (by simp) o q, hne⟩
  item := by
    intro X hP hw hK hc i pins s σ H E I hf st hg
    subst hP hw hK
    obtain ⟨⟨old, he⟩, hit, hne⟩ := st
    obtain ⟨xs, x, hq, hx⟩ := hg
    obtain ⟨its, rv, p, hz⟩ := I.tuple hq
    obtain ⟨u, hu, ru⟩ := rv.get hx
    have p : s.heap.IsTuple a its.toArray := p
    have hel : e < s.heap.objs.size := Heap.lt_size he
    have hil : it < s.heap.objs.size := by obtain ⟨_, q, _⟩ := hit; exact Heap.lt_size q
    have hai : a ≠ it := fun z => by
      obtain ⟨o, ho, hoc, _⟩ := hit
      obtain ⟨o2, ho2, hoc2, _⟩ := p
      rw [z, ho] at ho2
      cases ho2
      rw [hoc] at hoc2
      exact absurd hoc2 (by decide)
    have hea : e ≠ a := fun z => by
      obtain ⟨o2, ho2, hoc2, _⟩ := p
      rw [← z, he] at ho2
      cases ho2
      exact absurd (show Value.type "enumerate" = Value.type "tuple" from hoc2) (by decide)
    have D := Draws.tuple (prog := X.prog) (w := X.w) (A := X.A.in1) (I.ok.hd hc) it a hai its.toArray
    have hlt : i < its.toArray.size := by
      have := (List.getElem?_eq_some_iff.mp hu).1
      simpa using this
    refine wpAny_pyNext_enum_itemD D he ⟨hit, p⟩ hlt hne (by simp [hne, hea]) fun y h' tk hy ho hst hT hsz hk => ?_
    obtain ⟨hit', hp'⟩ := hst
    have ey : y = u := by
      have hy' : its[i]? = some y := by simpa using hy
      rw [hu] at hy'
      exact (Option.some.inj hy').symm
    subst ey
    refine ⟨_, rfl, wpAny_letOwnedTupleGo_enum (s := { s with heap := h', toks := tk + 1 }) ho fun h'' he' sb => ?_⟩
    have hT2 : h''.get? s.heap.objs.size = some { cls := .type "tuple", data := .seq #[.int i tk, y] } := (sb.2 _ (Nat.ne_of_gt hel)).trans hT
    have new : ObjOk X.prog X.w (upd H s.heap.objs.size (.tup [.int (i : Nat), x])) h'' s.heap.objs.size (.tup [.int (i : Nat), x]) :=
      ⟨by show 2 ≤ sizeLine; decide, [.int i tk, y], .cons ⟨_, rfl⟩ (.cons ru .nil), ⟨_, hT2, rfl, _, rfl⟩⟩
    have I1 : Inv X pins σ (upd H s.heap.objs.size (.tup [.int (i : Nat), x])) { s with heap := h'', toks := tk + 1 } :=
      I.turnedNew (ch := [e, it]) (fun b ob hb q => (sb.2 b (fun z => hb (by simp [z]))).trans (hk b ob (fun z => hb (by simp [z])) (fun z => hb (by simp [z])) q)) hf (Nat.le_refl _) new
    refine ⟨.ref s.heap.objs.size, _, I1, rfl, ⟨_, x, rfl, I.hok.fresh (Nat.le_refl _), rfl, fun ys hy => by rw [I.tuple_inj hy hq]; exact hx⟩, ⟨⟨y, ?_⟩, hit'.at fun o q => (sb.2 it (Ne.symm hne)).trans q, hne⟩, fun b hb => ?_⟩
    · have e1 : ((i + 1 : Nat) : Int) = (i : Int) + 1 := by omega
      rw [e1]; exact he'
    · have hb' : b < s.heap.objs.size := by
        have e' : b = e ∨ b = it := by simpa using hb
        rcases e' with z | z
        · rw [z]; exact hel
        · rw [z]; exact hil
      rw [upd_ne (Nat.ne_of_lt hb')]
      exact (hf b hb).1
  done := by
    intro X hP hw hK hc i pins s σ H E I hf st hg
    subst hP hw hK
    obtain ⟨⟨old, he⟩, hit, hne⟩ := st
    obtain ⟨xs, hq, hx⟩ := hg
    obtain ⟨its, rv, p, hz⟩ := I.tuple hq
    have p : s.heap.IsTuple a its.toArray := p
    obtain ⟨f0, f1, f2, f3, f4, f5⟩ := hf it (by simp)
    have hl := rv.length
    have hai : a ≠ it := fun z => by
      obtain ⟨o, ho, hoc, _⟩ := hit
      obtain ⟨o2, ho2, hoc2, _⟩ := p
      rw [z, ho] at ho2
      cases ho2
      rw [hoc] at hoc2
      exact absurd hoc2 (by decide)
    refine wpAny_pyNext_enum_endD' he hit p (I.ok.hd hc) (by simp; omega) fun h' eb => ⟨rfl, I.turned (t' := s.toks) (fun b o hb q => eb b o hb q) f0 f1 f3 f4 f5⟩
  self := fun A i s Q E st h => let ⟨⟨_, he⟩, _⟩ := st; wpAny_pyIter_enum he h
def iEnumT (K : PySem.W.Frag) (ta : TA) : TI := fun σ H R => ta σ H fun vs H1 => ∃ a xs, vs = [.ref a] ∧ SqT K H1 a xs ∧ R (Itet K a) H1
theorem pi_enumT {X : Cx} {e : Expr} {ta : TA} {p pos tpos : Pos} {elts : List Expr} {kk : Nat} (hg : Gl X "enumerate") (hm : X.mg "enumerate" = none) (ha : PA X [e] ta) (hs : starEach [e] X.env = [(false, eval e X.env)] := by rfl) :
    PI X (.Tuple elts kk tpos) (.Call (.Name "enumerate" p) [e] [] pos) (iEnumT X.K ta) := by
  refine ⟨fun pins s σ H R I h => ?_⟩
  refine Call_ (ld_blt I hg hm boot_enumerate (PyProof.Rows.callWith_type1 (thn (ha.run pos pins s σ H _ I h) fun us s1 ⟨vs, H1, I1, r1, q1⟩ => ?_) hs rfl))
  obtain ⟨a, xs, ex, hq, q⟩ := q1
  subst ex
  cases r1 with
  | cons r rr =>
    cases rr
    cases r
    obtain ⟨its, rv, p', hz⟩ := I1.tuple hq
    refine mk_call_enumerate_tuple (show s1.heap.IsTuple a its.toArray from p') fun h' he hit hsz hk => wpAny_pyIter_enum he ?_
    have I2 : Inv X pins σ H1 { s1 with heap := h' } := I1.kept (t' := s1.toks) hk
    refine ⟨s1.heap.objs.size + 1, [s1.heap.objs.size + 1, s1.heap.objs.size], _, _, H1, rfl, I2, turn_enumT a (s1.heap.objs.size + 1) s1.heap.objs.size, ⟨⟨.none, he⟩, hit, Nat.succ_ne_self _⟩, fun b hb => ?_, q⟩
    have e' : b = s1.heap.objs.size + 1 ∨ b = s1.heap.objs.size := by simpa using hb
    have hle : s1.heap.objs.size ≤ b := by
      rcases e' with z | z
      · rw [z]; exact Nat.le_add_right _ _
      · rw [z]; exact Nat.le_refl _
    exact I1.fpOk hle (I1.hok.fresh hle)
end Mk

/-! ### MkX5 -/
set_option Elab.async false
set_option linter.all false
set_option maxRecDepth 100000
set_option maxHeartbeats 4000000
namespace Mx
open PySem PySem.Spec PyProof.Rows L2
open GxR (TabG Tabbed)
/-! ### walks -/
/-- the i-th thing: fail; no more; the thing -/
inductive Nx where
  | no | stop | item (a : A) (s : Sto)
abbrev Itm := Nat → Sto → Nx
def ItOk (G : Gx) (J : It) (ι0 : List Addr) (H0 : Hp) (f : Itm) : Prop := ∀ ι H st, Fr ι0 H0 ι H → Rl G ι H st → ∀ i, match f i st with
  | .no => True
  | .stop => J.stop i H
  | .item a s => J.go i H ∧ ∀ x H', J.yld i H x H' → ∃ ι', Fr ι H ι' H' ∧ Rl G ι' H' s ∧ Im G.K H' ι' a x
abbrev IM := Ev → Sto → R (Itm × Sto)
def ExI (G : Gx) (E : XK) (wi : TI) (m : IM) : Prop := ∀ (ι : List Addr) (env : Ev) (st : Sto) (σ : L2.St) (H : Hp) (R0 : It → Hp → Prop), Rl G ι H st → EnvR G ι H env σ →
  (m env st).holds (fun r => ∀ ι' H' J, Fr ι H ι' H' → Rl G ι' H' r.2 → ItOk G J ι' H' r.1 → R0 J H') (PXx G ι H E) → wi σ H R0
def ofL (l : List A) (i : Nat) (s : Sto) : Nx := match l[i]? with
  | some a => .item a s
  | none => .stop
def itTup (l : List A) : Itm := fun i s => ofL l i s
def itLst (n : Nat) : Itm := fun i s => match s[n]? with
  | some (.lst l) => ofL l i s
  | _ => .no
def itRng (lo : Int) (n : Nat) : Itm := fun i s => if i < n then .item (.int (lo + i)) s else .stop
def ofE (l : List A) (i : Nat) (s : Sto) : Nx := match l[i]? with
  | some a => .item (.tup [.int i, a]) s
  | none => .stop
def itEnT (l : List A) : Itm := fun i s => ofE l i s
def itEnL (n : Nat) : Itm := fun i s => match s[n]? with
  | some (.lst l) => ofE l i s
  | _ => .no
def miTup (ma : EM) : IM := fun env st => (ma env st).bind fun a => match a.1 with
  | .tup l => .ok (itTup l, a.2)
  | _ => .fail
def miLst (ma : EM) : IM := fun env st => (ma env st).bind fun a => match a.1 with
  | .ref n => match a.2[n]? with
    | some (.lst _) => .ok (itLst n, a.2)
    | _ => .fail
  | _ => .fail
def miRng1 (ml : LM) : IM := fun env st => (ml env st).bind fun l => match l.1 with
  | [.int j] => if -(2 ^ 62) ≤ j ∧ j < 2 ^ 62 then .ok (itRng 0 j.toNat, l.2) else .fail
  | _ => .fail
def miRng2 (ml : LM) : IM := fun env st => (ml env st).bind fun l => match l.1 with
  | [.int i, .int j] => if (-(2 ^ 62) ≤ i ∧ i < 2 ^ 62) ∧ -(2 ^ 62) ≤ j ∧ j < 2 ^ 62 then .ok (itRng i (j - i).toNat, l.2) else .fail
  | _ => .fail
def miEnT (ml : LM) : IM := fun env st => (ml env st).bind fun l => match l.1 with
  | [.tup k] => .ok (itEnT k, l.2)
  | _ => .fail
def miEnL (ml : LM) : IM := fun env st => (ml env st).bind fun l => match l.1 with
  | [.ref n] => match l.2[n]? with
    | some (.lst _) => .ok (itEnL n, l.2)
    | _ => .fail
  | _ => .fail
section
variable {G : Gx} {T : List Addr} {E : XK} {ta : TE} {ma : EM} {tl : TA} {ml : LM}
theorem im_at {ι : List Addr} {H : Hp} {l : List A} {xs : List V} {i : Nat} (il : ImL G.K H ι l xs) : (l[i]? = none → xs[i]? = none) ∧ ∀ a, l[i]? = some a → ∃ v, xs[i]? = some v ∧ Im G.K H ι a v :=
  ⟨fun h => List.getElem?_eq_none (by rw [il.length]; exact List.getElem?_eq_none_iff.mp h), fun a h => imL_get il h⟩
theorem exi_tup (ha : Ex G E ta ma) : ExI G E (iTup G.K ta) (miTup ma) := fun ι env st σ H R0 R Ev h => by
  refine ha.run R Ev h fun ι1 H1 a s1 v f1 R1 Ev1 im h1 => ?_
  cases a with
  | tup l =>
    obtain ⟨p, xs, rfl, hx, il⟩ := im_tup' im
    refine ⟨p, rfl, ⟨xs, hx⟩, h1 _ _ _ f1 R1 fun ι2 H2 st2 f2 R2 i => ?_⟩
    have il2 := R1.imL f2 il
    have hx2 := R1.seq f2 hx
    show match ofL l i st2 with | .no => True | .stop => _ | .item a s => _
    unfold ofL
    cases e : l[i]? with
    | none => exact ⟨xs, hx2, List.getElem?_eq_none_iff.mp ((im_at il2).1 e)⟩
    | some b =>
      obtain ⟨w, hw, iw⟩ := (im_at il2).2 b e
      refine ⟨⟨xs, w, hx2, hw⟩, fun x H' y => ?_⟩
      obtain ⟨rfl, y⟩ := y
      have := y xs hx2
      rw [hw] at this
      cases this
      exact ⟨ι2, Fr.refl _ _, R2, iw⟩
  | _ => exact h1.elim
theorem exi_lst (ha : Ex G E ta ma) : ExI G E (iList G.K ta) (miLst ma) := fun ι env st σ H R0 R Ev h => by
  refine ha.run R Ev h fun ι1 H1 a s1 v f1 R1 Ev1 im h1 => ?_
  cases a with
  | ref n =>
    dsimp only at h1
    split at h1
    · rename_i l0 hl0
      obtain ⟨p, xs, rfl, hp, hx, il⟩ := R1.lst hl0 im
      refine ⟨p, rfl, ⟨xs, .inl (.inl hx)⟩, h1 _ _ _ f1 R1 fun ι2 H2 st2 f2 R2 i => ?_⟩
      show match (match st2[n]? with | some (.lst l) => ofL l i st2 | _ => Nx.no) with | .no => True | .stop => _ | .item a s => _
      cases hl : st2[n]? with
      | none => exact True.intro
      | some o =>
        cases o with
        | lst l =>
          obtain ⟨p2, ys, e2, hp2, hy, jl⟩ := R2.lst hl (R1.im f2 im)
          cases e2
          show match ofL l i st2 with | .no => True | .stop => _ | .item a s => _
          unfold ofL
          cases e : l[i]? with
          | none => exact ⟨ys, .inl (.inl hy), List.getElem?_eq_none_iff.mp ((im_at jl).1 e)⟩
          | some b =>
            obtain ⟨w, hw, iw⟩ := (im_at jl).2 b e
            refine ⟨⟨ys, w, .inl (.inl hy), hw⟩, fun x H' y => ?_⟩
            obtain ⟨rfl, y⟩ := y
            have := y ys (.inl (.inl hy))
            rw [hw] at this
            cases this
            exact ⟨ι2, Fr.refl _ _, R2, iw⟩
        | _ => exact True.intro
    · exact h1.elim
  | _ => exact h1.elim
theorem it_rng {lo : Int} {n : Nat} {ι1 : List Addr} {H1 : Hp} : ItOk G (Itr lo n) ι1 H1 (itRng lo n) := fun ι2 H2 st2 f2 R2 i => by
  unfold itRng
  by_cases hi : i < n
  · rw [if_pos hi]
    refine ⟨hi, fun x H' y => ?_⟩
    obtain ⟨rfl, rfl⟩ := y
    exact ⟨ι2, Fr.refl _ _, R2, im_int⟩
  · rw [if_neg hi]
    exact Nat.le_of_not_lt hi
theorem exi_rng1 (hl : ExL G E tl ml) : ExI G E (iRng1 tl) (miRng1 ml) := fun ι env st σ H R0 R Ev h => by
  refine hl.run R Ev h fun ι1 H1 a s1 v f1 R1 Ev1 im h1 => ?_
  dsimp only at h1
  split at h1
  · split at h1
    · rename_i j hj
      obtain ⟨w, rfl, iw⟩ := imL_1 im
      exact ⟨_, by rw [im_int' iw], hj.1, hj.2, h1 _ _ _ f1 R1 it_rng⟩
    · exact h1.elim
  · exact h1.elim
theorem exi_rng2 (hl : ExL G E tl ml) : ExI G E (iRng2 tl) (miRng2 ml) := fun ι env st σ H R0 R Ev h => by
  refine hl.run R Ev h fun ι1 H1 a s1 v f1 R1 Ev1 im h1 => ?_
  dsimp only at h1
  split at h1
  · split at h1
    · rename_i j hj
      obtain ⟨w, u, rfl, iw, iu⟩ := imL_2 im
      exact ⟨_, _, by rw [im_int' iw, im_int' iu], ⟨hj.1.1, hj.1.2, hj.2.1, hj.2.2⟩, h1 _ _ _ f1 R1 it_rng⟩
    · exact h1.elim
  · exact h1.elim
theorem exi_enT (M : AmX G T) (hl : ExL G E tl ml) : ExI G E (Mk.iEnumT G.K tl) (miEnT ml) := fun ι env st σ H R0 R Ev h => by
  refine hl.run R Ev h fun ι1 H1 a s1 v f1 R1 Ev1 im h1 => ?_
  dsimp only at h1
  split at h1
  · rename_i k
    obtain ⟨w, rfl, iw⟩ := imL_1 im
    obtain ⟨p, xs, rfl, hx, il⟩ := im_tup' iw
    refine ⟨p, xs, rfl, hx, h1 _ _ _ f1 R1 fun ι2 H2 st2 f2 R2 i => ?_⟩
    have il2 := R1.imL f2 il
    have hx2 := R1.seq f2 hx
    show match ofE k i st2 with | .no => True | .stop => _ | .item a s => _
    unfold ofE
    cases e : k[i]? with
    | none => exact ⟨xs, hx2, List.getElem?_eq_none_iff.mp ((im_at il2).1 e)⟩
    | some b =>
      obtain ⟨w, hw, iw⟩ := (im_at il2).2 b e
      refine ⟨⟨xs, w, hx2, hw⟩, fun x H' y => ?_⟩
      obtain ⟨T, z, rfl, hT, rfl, y⟩ := y
      have := y xs hx2
      rw [hw] at this
      cases this
      exact ⟨ι2, Fr.new hT, R2.new M hT, im_tup (R2.imL (Fr.new hT) (imL_cons im_int (imL_cons iw imL_nil))) upd_same⟩
  · exact h1.elim
theorem exi_enL (M : AmX G T) (hl : ExL G E tl ml) : ExI G E (iEnum G.K tl) (miEnL ml) := fun ι env st σ H R0 R Ev h => by
  refine hl.run R Ev h fun ι1 H1 a s1 v f1 R1 Ev1 im h1 => ?_
  dsimp only at h1
  split at h1
  · split at h1
    · rename_i n _ l0 hl0
      obtain ⟨w, rfl, iw⟩ := imL_1 im
      obtain ⟨p, xs, rfl, hp, hx, il⟩ := R1.lst hl0 iw
      refine ⟨p, xs, rfl, .inl (.inl hx), h1 _ _ _ f1 R1 fun ι2 H2 st2 f2 R2 i => ?_⟩
      show match (match st2[n]? with | some (Ob.lst l) => ofE l i st2 | _ => Nx.no) with | .no => True | .stop => _ | .item a s => _
      cases hl : st2[n]? with
      | none => exact True.intro
      | some o =>
        cases o with
        | lst l =>
          obtain ⟨p2, ys, e2, hp2, hy, jl⟩ := R2.lst hl (R1.im f2 iw)
          cases e2
          show match ofE l i st2 with | .no => True | .stop => _ | .item a s => _
          unfold ofE
          cases e : l[i]? with
          | none => exact ⟨ys, .inl (.inl hy), List.getElem?_eq_none_iff.mp ((im_at jl).1 e)⟩
          | some b =>
            obtain ⟨w, hw, iw⟩ := (im_at jl).2 b e
            refine ⟨⟨ys, w, .inl (.inl hy), hw⟩, fun x H' y => ?_⟩
            obtain ⟨T, z, rfl, hT, rfl, y⟩ := y
            have := y ys (.inl (.inl hy))
            rw [hw] at this
            cases this
            exact ⟨ι2, Fr.new hT, R2.new M hT, im_tup (R2.imL (Fr.new hT) (imL_cons im_int (imL_cons iw imL_nil))) upd_same⟩
        | _ => exact True.intro
    · exact h1.elim
  · exact h1.elim
/-! ### for -/
def fuel : Nat := 1000000
def flow (r : Fl × Sto) (k : Ev → Sto → R (Fl × Sto)) : R (Fl × Sto) := match r.1 with
  | .nx e => k e r.2
  | .ct e => k e r.2
  | .bk e => .ok (.nx e, r.2)
  | .rt a => .ok (.rt a, r.2)
def forG (f : Itm) (mg : GM) (mb : SM) : Nat → Nat → Ev → Sto → R (Fl × Sto)
  | 0, _, _, _ => .fail
  | k + 1, i, env, st => match f i st with
    | .no => .fail
    | .stop => .ok (.nx env, st)
    | .item a s => (mg a env s).bind fun e => (mb e.1 e.2).bind fun r => flow r (forG f mg mb k (i + 1))
def mFor (mi : IM) (mg : GM) (mb : SM) : SM := fun env st => (mi env st).bind fun r => forG r.1 mg mb fuel 0 env r.2
theorem exs_for {wi : TI} {mi : IM} {g : TG} {mg : GM} {tb : TS} {mb : SM} (hi : ExI G E wi mi) (hg : ExG G E g mg) (hb : ExS G E tb mb) : ExS G E (tFor wi g tb) (mFor mi mg mb) := fun ι env st σ H D R Ev h => by
  refine hi ι env st σ H _ R Ev (go h fun r h1 ι1 H1 J f1 R1 IO => ?_)
  generalize fuel = fu at h1
  refine ⟨fun i m σ2 H2 => ∃ ι2 env2 st2, Fr ι1 H1 ι2 H2 ∧ Rl G ι2 H2 st2 ∧ EnvR G ι2 H2 env2 σ2 ∧ (forG r.1 mg mb m i env2 st2).holds (PS1 G ι H D) (PXx G ι H E), ⟨fu, ι1, env, r.2, Fr.refl _ _, R1, R.env f1 Ev, h1⟩, ?_⟩
  rintro i m σ2 H2 ⟨ι2, env2, st2, f2, R2, Ev2, h2⟩
  cases m with
  | zero => exact h2.elim
  | succ k =>
    have io := IO ι2 H2 st2 f2 R2 i
    unfold forG at h2
    cases e : r.1 i st2 with
    | no => rw [e] at h2; exact h2.elim
    | stop =>
      rw [e] at h2 io
      exact .inl ⟨io, (show PS1 G ι H D (.nx env2, st2) from h2) _ _ (f1.trans f2) R2 _ Ev2⟩
    | item a s =>
      rw [e] at h2 io
      dsimp only at h2 io
      refine .inr ⟨io.1, fun σ3 H3 => ∃ ι3 env3 st3, Fr ι1 H1 ι3 H3 ∧ Rl G ι3 H3 st3 ∧ EnvR G ι3 H3 env3 σ3 ∧ (forG r.1 mg mb k (i + 1) env3 st3).holds (PS1 G ι H D) (PXx G ι H E), fun σ3 H3 w => ⟨k, Nat.lt_succ_self k, w⟩, fun x H3 y => ?_⟩
      obtain ⟨ι3, f3, R3, ix⟩ := io.2 x H3 y
      have g3 : Fr ι H ι3 H3 := (f1.trans f2).trans f3
      refine hg ι3 env2 s σ2 H3 a x _ R3 (R2.env f3 Ev2) ix (holds_mono (fun e' h4 => ?_) (fun _ _ q => PXx.sh g3 q) (holds_bind h2))
      intro ι4 H4 f4 R4 σ4 Ev4
      refine hb ι4 e'.1 e'.2 σ4 H4 _ R4 Ev4 (holds_mono (fun r' h5 => ?_) (fun _ _ q => PXx.sh (g3.trans f4) q) (holds_bind h4))
      intro ι5 H5 f5 R5
      have g5 : Fr ι1 H1 ι5 H5 := ((f2.trans f3).trans f4).trans f5
      obtain ⟨fl, s5⟩ := r'
      cases fl with
      | nx e6 => exact fun σ5 Ev5 => ⟨ι5, e6, s5, g5, R5, Ev5, h5⟩
      | ct e6 => exact fun σ5 Ev5 => ⟨ι5, e6, s5, g5, R5, Ev5, h5⟩
      | bk e6 => exact fun σ5 Ev5 => (show PS1 G ι H D (.nx e6, s5) from h5) _ _ (f1.trans g5) R5 σ5 Ev5
      | rt a6 => exact fun v iv => (show PS1 G ι H D (.rt a6, s5) from h5) _ _ (f1.trans g5) R5 v iv
/-! ### while -/
def whlG (mt : BM) (mb : SM) : Nat → Ev → Sto → R (Fl × Sto)
  | 0, _, _ => .fail
  | k + 1, env, st => (mt env st).bind fun b => if b.1 = true then (mb env b.2).bind fun r => flow r (whlG mt mb k) else .ok (.nx env, b.2)
def mWhl (mt : BM) (mb : SM) : SM := fun env st => whlG mt mb fuel env st
theorem exs_while {t : TT} {mt : BM} {tb : TS} {mb : SM} (ht : ExB G E t mt) (hb : ExS G E tb mb) : ExS G E (tWhile t tb) (mWhl mt mb) := fun ι env st σ H D R Ev h => by
  have h1 : (whlG mt mb fuel env st).holds (PS1 G ι H D) (PXx G ι H E) := h
  generalize fuel = fu at h1
  refine ⟨fun m σ2 H2 => ∃ ι2 env2 st2, Fr ι H ι2 H2 ∧ Rl G ι2 H2 st2 ∧ EnvR G ι2 H2 env2 σ2 ∧ (whlG mt mb m env2 st2).holds (PS1 G ι H D) (PXx G ι H E), ⟨fu, ι, env, st, Fr.refl _ _, R, Ev, h1⟩, ?_⟩
  rintro m σ2 H2 ⟨ι2, env2, st2, f2, R2, Ev2, h2⟩
  cases m with
  | zero => exact h2.elim
  | succ k =>
    unfold whlG at h2
    refine ht ι2 env2 st2 σ2 H2 _ R2 Ev2 (holds_mono (fun b h3 => ?_) (fun _ _ q => PXx.sh f2 q) (holds_bind h2))
    intro ι3 H3 f3 R3
    obtain ⟨b, s3⟩ := b
    cases b with
    | false => exact iteF ((show PS1 G ι H D (.nx env2, s3) from h3) _ _ (f2.trans f3) R3 σ2 (R2.env f3 Ev2))
    | true =>
      refine iteT ⟨fun σ3 H3 => ∃ ι3 env3 st3, Fr ι H ι3 H3 ∧ Rl G ι3 H3 st3 ∧ EnvR G ι3 H3 env3 σ3 ∧ (whlG mt mb k env3 st3).holds (PS1 G ι H D) (PXx G ι H E), fun σ3 H3 w => ⟨k, Nat.lt_succ_self k, w⟩, ?_⟩
      refine hb ι3 env2 s3 σ2 H3 _ R3 (R2.env f3 Ev2) (holds_mono (fun r' h5 => ?_) (fun _ _ q => PXx.sh (f2.trans f3) q) (holds_bind (show (Mx.R.bind _ _).holds _ _ from h3)))
      intro ι5 H5 f5 R5
      have g5 : Fr ι H ι5 H5 := (f2.trans f3).trans f5
      obtain ⟨fl, s5⟩ := r'
      cases fl with
      | nx e6 => exact fun σ5 Ev5 => ⟨ι5, e6, s5, g5, R5, Ev5, h5⟩
      | ct e6 => exact fun σ5 Ev5 => ⟨ι5, e6, s5, g5, R5, Ev5, h5⟩
      | bk e6 => exact fun σ5 Ev5 => (show PS1 G ι H D (.nx e6, s5) from h5) _ _ g5 R5 σ5 Ev5
      | rt a6 => exact fun v iv => (show PS1 G ι H D (.rt a6, s5) from h5) _ _ g5 R5 v iv
/-! ### comprehensions -/
def EF : XK := fun _ _ _ => False
def noX {α : Type} : R α → R α
  | .ok a => .ok a
  | .exc _ _ => .fail
  | .fail => .fail
  | .draw n k => .draw n fun i => noX (k i)
theorem noX_holds {α : Type} {Q : α → Prop} {X X' : Xc → Sto → Prop} : ∀ {r : R α}, (noX r).holds Q X → r.holds Q X'
  | .ok a, h => h
  | .exc _ _, h => False.elim h
  | .fail, h => h
  | .draw n k, h => fun i hi => noX_holds (h i hi)
theorem noX_bind {α β : Type} {r : R α} {f : α → R β} {Q : β → Prop} {X X' : Xc → Sto → Prop} (h : ((noX r).bind f).holds Q X) : r.holds (fun a => (f a).holds Q X) X' := noX_holds (holds_bind h)
/-- a target that stores to the slots vs alone -/
def SmO (vs : List Nat) (σ σ' : L2.St) : Prop := σ'.length = σ.length ∧ ∀ i, i ∉ vs → σ'[i]? = σ[i]?
def ExW (G : Gx) (vs : List Nat) (g : TG) (m : GM) : Prop := ∀ ι env st σ H a v Q X, Rl G ι H st → EnvR G ι H env σ → Im G.K H ι a v → (m a env st).holds (fun r => ∀ ι' H', Fr ι H ι' H' → Rl G ι' H' r.2 → ∀ σ', EnvR G ι' H' r.1 σ' → SmO vs σ σ' → Q σ' H') X → g v σ H Q
def ExWs (G : Gx) (vs : List Nat) (g : TGs) (m : GsM) : Prop := ∀ ι env st σ H a v Q X, Rl G ι H st → EnvR G ι H env σ → ImL G.K H ι a v → (m a env st).holds (fun r => ∀ ι' H', Fr ι H ι' H' → Rl G ι' H' r.2 → ∀ σ', EnvR G ι' H' r.1 σ' → SmO vs σ σ' → Q σ' H') X → g v σ H Q
theorem exw_name {vs : List Nat} {i : Nat} (hi : i ∈ vs) : ExW G vs (gName i) (gmName i) := fun ι env st σ H a v Q X R Ev im h => by
  have h' : ∀ ι' H', Fr ι H ι' H' → Rl G ι' H' st → ∀ σ', EnvR G ι' H' (env.set i (some a)) σ' → SmO vs σ σ' → Q σ' H' := h
  exact h' ι H (Fr.refl _ _) R _ (Ev.set i im) ⟨List.length_set, fun j hj => List.getElem?_set_ne fun e => hj (by rw [← e]; exact hi)⟩
theorem exws_nil {vs : List Nat} : ExWs G vs gNil gmNil := fun ι env st σ H a v Q X R Ev im h => by
  cases a with
  | nil =>
    have h' : ∀ ι' H', Fr ι H ι' H' → Rl G ι' H' st → ∀ σ', EnvR G ι' H' env σ' → SmO vs σ σ' → Q σ' H' := h
    exact ⟨imL_nil' im, h' ι H (Fr.refl _ _) R _ Ev ⟨rfl, fun _ _ => rfl⟩⟩
  | cons => exact h.elim
theorem exws_cons {vs : List Nat} {g : TG} {m : GM} {gs : TGs} {ms : GsM} (hg : ExW G vs g m) (hs : ExWs G vs gs ms) : ExWs G vs (gCons g gs) (gmCons m ms) := fun ι env st σ H a v Q X R Ev im h => by
  cases a with
  | nil => exact h.elim
  | cons b bs =>
    obtain ⟨w, ws, rfl, i1, i2⟩ := imL_cons' im
    refine ⟨w, ws, rfl, hg _ _ _ _ _ _ _ _ X R Ev i1 (holds_mono (fun r h1 => ?_) (fun _ _ x => x) (holds_bind h))⟩
    intro ι1 H1 f1 R1 σ1 Ev1 o1
    refine hs _ _ _ _ _ _ _ _ X R1 Ev1 (R.imL f1 i2) (holds_mono (fun r2 h2 => ?_) (fun _ _ x => x) h1)
    exact fun ι2 H2 f2 R2 σ2 Ev2 o2 => h2 ι2 H2 (f1.trans f2) R2 σ2 Ev2 ⟨o2.1.trans o1.1, fun i hi => (o2.2 i hi).trans (o1.2 i hi)⟩
def gmTup (n : Nat) (ms : GsM) : GM := fun a env st => match a with
  | .tup l => if l.length = n then ms l env st else .fail
  | _ => .fail
theorem exg_tup {n : Nat} {gs : TGs} {ms : GsM} (hs : ExGs G E gs ms) : ExG G E (gTup G.K n gs) (gmTup n ms) := fun ι env st σ H a v Q R Ev im h => by
  cases a with
  | tup l =>
    obtain ⟨p, xs, rfl, hx, il⟩ := im_tup' im
    dsimp only [gmTup] at h
    split at h
    · rename_i e
      exact ⟨p, xs, rfl, hx, by rw [il.length]; exact e, hs _ _ _ _ _ _ _ _ R Ev il h⟩
    · exact h.elim
  | _ => exact h.elim
theorem exw_tup {vs : List Nat} {n : Nat} {gs : TGs} {ms : GsM} (hs : ExWs G vs gs ms) : ExW G vs (gTup G.K n gs) (gmTup n ms) := fun ι env st σ H a v Q X R Ev im h => by
  cases a with
  | tup l =>
    obtain ⟨p, xs, rfl, hx, il⟩ := im_tup' im
    dsimp only [gmTup] at h
    split at h
    · rename_i e
      exact ⟨p, xs, rfl, hx, by rw [il.length]; exact e, hs _ _ _ _ _ _ _ _ X R Ev il h⟩
    · exact h.elim
  | _ => exact h.elim
theorem wipe_out {vs : List Nat} {σ σ' : L2.St} (h : SmO vs σ σ') : wipe σ' vs = wipe σ vs := by
  apply List.ext_getElem?
  intro i
  by_cases hi : i ∈ vs
  · by_cases hl : i < σ.length
    · rw [Mk.wipe_get_in hi (by rw [h.1]; exact hl), Mk.wipe_get_in hi hl]
    · rw [List.getElem?_eq_none (by rw [wipe_length, h.1]; omega), List.getElem?_eq_none (by rw [wipe_length]; omega)]
  · rw [Mk.wipe_get_out hi, Mk.wipe_get_out hi, h.2 i hi]
def wipeE (env : Ev) : List Nat → Ev
  | [] => env
  | v :: vs => (wipeE env vs).set v none
theorem EnvR.unset {ι : List Addr} {H : Hp} {env : Ev} {σ : L2.St} (h : EnvR G ι H env σ) (i : Nat) : EnvR G ι H (env.set i none) (σ.set i none) := by
  refine ⟨by simp [h.len], fun j b e => ?_⟩
  by_cases z : i = j
  · subst z
    by_cases hl : i < env.length
    · rw [List.getElem?_set_self hl] at e
      cases e
    · rw [List.getElem?_eq_none (by simp; omega)] at e
      cases e
  · rw [List.getElem?_set_ne z] at e ⊢
    exact h.at_ j b e
theorem EnvR.wipe {ι : List Addr} {H : Hp} {env : Ev} {σ : L2.St} (h : EnvR G ι H env σ) : ∀ vs, EnvR G ι H (wipeE env vs) (wipe σ vs)
  | [] => h
  | v :: vs => EnvR.unset (EnvR.wipe h vs) v
theorem wipe_wipe' {vs : List Nat} {σ σ' : L2.St} (h : SmO vs (wipe σ vs) σ') : wipe σ' vs = wipe σ vs := (wipe_out h).trans (Mk.wipe_wipe σ vs)
def lcG (f : Itm) (mg : GM) (mt : BM) (me : EM) (wenv : Ev) (n : Nat) : Nat → Nat → Sto → R (A × Sto)
  | 0, _, _ => .fail
  | k + 1, i, st => match f i st with
    | .no => .fail
    | .stop => .ok (.ref n, st)
    | .item a s => (noX (mg a wenv s)).bind fun e => (noX (mt e.1 e.2)).bind fun b => if b.1 = true then
        (noX (me e.1 b.2)).bind fun y => match y.2[n]? with
          | some (.lst acc) => if acc.length < sizeLine then lcG f mg mt me wenv n k (i + 1) (y.2.set n (.lst (acc ++ [y.1]))) else .fail
          | _ => .fail
      else lcG f mg mt me wenv n k (i + 1) b.2
def mLc (mi : IM) (mg : GM) (mt : BM) (me : EM) (vs : List Nat) : EM := fun env st => (mi env st).bind fun r => lcG r.1 mg mt me (wipeE env vs) r.2.length fuel 0 (r.2 ++ [.lst []])
theorem ex_lc (M : AmX G T) {wi : TI} {mi : IM} {g : TG} {mg : GM} {tt : TT} {mt : BM} {te : TE} {me : EM} {vs : List Nat} (hi : ExI G E wi mi) (hg : ExW G vs g mg) (ht : ExB G EF tt mt) (he : Ex G EF te me) : Ex G E (tLc wi g tt te vs) (mLc mi mg mt me vs) := fun ι env st σ H Q R Ev h => by
  refine hi ι env st σ H _ R Ev (go h fun r h1 ι1 H1 J f1 R1 IO => ?_)
  generalize fuel = fu at h1
  intro Dd hD
  have f1' : Fr ι1 H1 (ι1 ++ [Dd]) (upd H1 Dd (.lst [])) := Fr.obj hD
  have R1' : Rl G (ι1 ++ [Dd]) (upd H1 Dd (.lst [])) (r.2 ++ [.lst []]) := R1.obj M hD ⟨[], upd_same, imL_nil⟩
  have hn : (ι1 ++ [Dd])[r.2.length]? = some Dd := by rw [← R1.len, List.getElem?_append_right (Nat.le_refl _), Nat.sub_self]; rfl
  refine ⟨fun i m H2 => ∃ ι2 st2, Fr (ι1 ++ [Dd]) (upd H1 Dd (.lst [])) ι2 H2 ∧ Rl G ι2 H2 st2 ∧ (lcG r.1 mg mt me (wipeE env vs) r.2.length m i st2).holds (PE1 G ι H Q) (PXx G ι H E), ⟨fu, ι1 ++ [Dd], r.2 ++ [.lst []], Fr.refl _ _, R1', h1⟩, ?_⟩
  rintro i m H2 ⟨ι2, st2, f2, R2, h2⟩
  have hn2 : ι2[r.2.length]? = some Dd := by
    obtain ⟨z, rfl⟩ := f2.pre
    rw [List.getElem?_append_left (List.getElem?_eq_some_iff.mp hn).1]
    exact hn
  cases m with
  | zero => exact h2.elim
  | succ k =>
    have io := IO ι2 H2 st2 (f1'.trans f2) R2 i
    unfold lcG at h2
    cases e : r.1 i st2 with
    | no => rw [e] at h2; exact h2.elim
    | stop =>
      rw [e] at h2 io
      exact .inl ⟨io, (show PE1 G ι H Q (.ref r.2.length, st2) from h2) _ _ _ ((f1.trans f1').trans f2) R2 (im_ref hn2)⟩
    | item a s =>
      rw [e] at h2 io
      dsimp only at h2 io
      refine .inr ⟨io.1, fun H3 => ∃ ι3 st3, Fr (ι1 ++ [Dd]) (upd H1 Dd (.lst [])) ι3 H3 ∧ Rl G ι3 H3 st3 ∧ (lcG r.1 mg mt me (wipeE env vs) r.2.length k (i + 1) st3).holds (PE1 G ι H Q) (PXx G ι H E), fun H3 w => ⟨k, Nat.lt_succ_self k, w⟩, fun x H3 y => ?_⟩
      obtain ⟨ι3, f3, R3, ix⟩ := io.2 x H3 y
      have g3 : Fr ι H ι3 H3 := ((f1.trans f1').trans f2).trans f3
      refine hg ι3 (wipeE env vs) s (wipe σ vs) H3 a x _ (fun _ _ => False) R3 (EnvR.wipe (R.env g3 Ev) vs) ix (holds_mono (fun e' h4 => ?_) (fun _ _ q => q) (noX_bind h2))
      intro ι4 H4 f4 R4 σ4 Ev4 o4
      refine ⟨wipe_wipe' o4, ht ι4 e'.1 e'.2 σ4 H4 _ R4 Ev4 (holds_mono (fun b h5 => ?_) (fun _ _ q => q) (noX_bind h4))⟩
      intro ι5 H5 f5 R5
      obtain ⟨b, s5⟩ := b
      have p5 : Fr (ι1 ++ [Dd]) (upd H1 Dd (.lst [])) ι5 H5 := ((f2.trans f3).trans f4).trans f5
      cases b with
      | false => exact iteF ⟨ι5, s5, p5, R5, h5⟩
      | true =>
        refine iteT (he ι5 e'.1 s5 σ4 H5 _ R5 (R4.env f5 Ev4) (holds_mono (fun yy h6 => ?_) (fun _ _ q => q) (noX_bind (show (Mx.R.bind _ _).holds _ _ from h5))))
        intro ι6 H6 w f6 R6 iw
        obtain ⟨ya, s6⟩ := yy
        dsimp only at h6 R6 iw
        have p6 : Fr (ι1 ++ [Dd]) (upd H1 Dd (.lst [])) ι6 H6 := p5.trans f6
        have hn6 : ι6[r.2.length]? = some Dd := by
          obtain ⟨z, rfl⟩ := p6.pre
          rw [List.getElem?_append_left (List.getElem?_eq_some_iff.mp hn).1]
          exact hn
        split at h6
        · rename_i acc hacc
          split at h6
          · rename_i hz
            obtain ⟨p, xs, e7, hp, hx, il⟩ := R6.lst hacc (im_ref hn6)
            cases e7
            refine ⟨xs, hx, by rw [il.length]; exact hz, ?_⟩
            obtain ⟨f7, R7⟩ := R6.setL M hn6 (l := acc ++ [ya]) (xs := xs ++ [w]) (ImL.append il (imL_cons iw imL_nil))
            exact ⟨ι6, _, p6.trans f7, R7, h6⟩
          · exact h6.elim
        · exact h6.elim
end
end Mx

/-! ### MkExc -/
set_option Elab.async false
set_option linter.all false
set_option maxRecDepth 100000
set_option maxHeartbeats 4000000
namespace Mk
open PySem PySem.Spec PyProof.Rows L2
section
variable {X : Cx}
/-- {x}: a text, an int or None, as a text -/
def tFmtN (te : TE) : TE := fun σ H Q => te σ H fun x H1 => (∃ y : Str, x = .str y ∧ y.length ≤ sizeLine ∧ Q (.str y) H1) ∨ (∃ i : Int, x = .int i ∧ i.natAbs.log2 < 1920 ∧ Q (.str (toString i)) H1) ∨ (x = .non ∧ Q (.str "None") H1)
theorem pe_fmtN {e : Expr} {te : TE} {pos : Pos} (he : PE X e te) : PE X (.FormattedValue e (-1) none pos) (tFmtN te) := by
  refine ⟨fun pins s σ H Q I h => ?_⟩
  refine wpAny_FormattedValue_plain (thn (he.run pins s σ H _ I h) fun v s1 hv => ?_)
  obtain ⟨x, H1, I1, r1, q⟩ := hv
  rcases q with ⟨y, rfl, hz, q⟩ | ⟨i, rfl, hz, q⟩ | ⟨rfl, q⟩
  · obtain ⟨t, rfl⟩ := r1
    exact wpAny_formatField_str ⟨.str y, H1, I1, ⟨t, rfl⟩, q⟩ ⟨.str y, H1, I1.tok _, ⟨_, rfl⟩, q⟩ hz
  · obtain ⟨t, rfl⟩ := r1
    exact wpAny_formatField_int hz ⟨.str (toString i), H1, I1.tok _, ⟨_, rfl⟩, q⟩
  · obtain rfl : v = Value.none := r1
    exact wpAny_formatField_none ⟨.str "None", H1, I1.tok _, ⟨_, rfl⟩, q⟩
/-- the base class B (at CB), whose __init__ is ValueError's -/
structure BaseT (K : PySem.W.Frag) (mg : Str → Option Value) (x : Str) (CB : Addr) (mc : Value) : Prop where
  g : mg x = some (.ref CB)
  rd : ClX.CRead K CB mc
  at_ : PySem.W.findCls K (.ref CB) mc "__init__" = some (.val (.builtin "ValueError.__init__"))
theorem pe_meinit {x : Str} {CB : Addr} {mc : Value} {e : Expr} {es : List Expr} {ta : TA} {p1 p2 pos : Pos} {pl : Sem Bool} (T : BaseT X.K X.mg x CB mc) (hg : Gl X x) (ha : PA X (e :: es) ta) (hdb : (x == ("__debug__" : Str)) = false := by decide)
    (hc : eval (.Call (.Attribute (.Name x p1) "__init__" p2) (e :: es) [] pos) X.env = (do
      let ov ← eval (.Name x p1) X.env
      standAt p2.atName
      let (f, first) ← holding [ov] (getMethod ov "__init__" pl)
      callWith pos f first (backTo pos (starEach (e :: es) X.env)) (backToKw pos (keywordEach [] X.env))) := by rfl)
    (he : starEach (e :: es) X.env = (false, eval e X.env) :: starEach es X.env := by rfl) (hpl : (backTo pos (starEach es X.env)).any (·.1) = false := by rfl) :
    PE X (.Call (.Attribute (.Name x p1) "__init__" p2) (e :: es) [] pos) (tVeI X.K ta) := by
  refine ⟨fun pins s σ H Q I h => ?_⟩
  refine PySem.W.methodCall_KW (ld_glob I hg T.g ?_ hdb) hc
  refine PySem.W.method_cls I.kIn T.rd.ga (PySem.W.cls_value I.kIn T.rd.rd T.at_ rfl ?_)
  show wpAny _ _ (callWith pos (Value.builtin "ValueError.__init__") [] (backTo pos (starEach (e :: es) X.env)) []) _ _ _
  refine PyProof.Rows.callWith_method1 (thn (ha.run pos pins _ σ H _ (I.tok _) h) fun us s1 ⟨vs, H1, I1, r1, a, C, ws, ev, hl, T, ea, q⟩ => ?_) he hpl
  subst ev
  cases r1 with
  | @cons _ u0 _ ur ra rw' =>
    obtain rfl : u0 = Value.ref a := ra
    have hlen : ur.length ≤ sizeLine := by
      rw [← Paired.length rw', sizeLine_eq]
      omega
    exact oinit_ok T I1 ea hlen fun s' J => ⟨.non, H1, J, rfl, q⟩
end
/-- an own error's promise: its own dict holds the field -/
def spInit (K : PySem.W.Frag) (C : Addr) (f : Str) : Sp := fun vs H Q _ => ∃ (a : Addr) (v : V), vs = [.ref a, v] ∧ ((∃ y : Str, v = .str y ∧ y.length ≤ 100) ∨ (∃ i : Int, v = .int i ∧ i.natAbs.log2 < 1000) ∨ v = .non) ∧ OexC K C ∧ PySem.W.findIn K (.ref C) f = some none ∧ H a = some (exo a C none) ∧
  ∀ dx, H dx = none → dx ≠ a → Q .non (upd (upd H dx (exd dx [(f, v)])) a (exo a C (some dx)))
end Mk

/-! ### MkX6 -/
set_option Elab.async false
set_option linter.all false
set_option maxRecDepth 100000
set_option maxHeartbeats 4000000
namespace Mx
open PySem PySem.Spec PyProof.Rows L2
open GxR (TabG Tabbed)
theorem passF {X : Cx} {P : Program} {w : World} : Passes (L2.CX P w) X EF := fun _ _ _ _ _ _ _ ⟨_, _, _, _, _, _, _, _, _, _, _, _, h⟩ => h.elim
section
variable {G : Gx} {T : List Addr} {E : XK} {ta tb : TE} {ma mb : EM} {tl : TA} {ml : LM}
/-! ### all(..) -/
def allG (f : Itm) (mg : GM) (me : EM) (wenv : Ev) : Nat → Nat → Sto → R (A × Sto)
  | 0, _, _ => .fail
  | k + 1, i, st => match f i st with
    | .no => .fail
    | .stop => .ok (.bl true, st)
    | .item a s => (noX (mg a wenv s)).bind fun e => (noX (me e.1 e.2)).bind fun y => (asB y).bind fun b => if b.1 = true then allG f mg me wenv k (i + 1) b.2 else .ok (.bl false, b.2)
def mAll (mi : IM) (mg : GM) (me : EM) (vs : List Nat) : EM := fun env st => (mi env st).bind fun r => allG r.1 mg me (wipeE env vs) fuel 0 r.2
theorem Fr.tab {P : Addr} {ι : List Addr} {H H2 : Hp} (h : TabG H P) (t : Tabbed P H H2) : Fr ι H ι H2 := by
  obtain ⟨ps, hp, _⟩ := h
  obtain ⟨⟨ps2, hp2, _⟩, o⟩ := t
  refine ⟨List.prefix_refl _, fun _ h => .inl h, fun a u e _ n => ?_, fun a e => ?_⟩
  · rw [o a fun z => ?_]
    · exact e
    · rw [z, hp] at e; exact n _ (Option.some.inj e).symm
  · by_cases z : a = P
    · rw [z, hp2]; simp
    · rw [o a z]; exact e
theorem Rl.tab (M : AmX G T) {P : Addr} {ι : List Addr} {H H2 : Hp} {st : Sto} (R : Rl G ι H st) (hP : P ∈ T) (t : Tabbed P H H2) : Rl G ι H2 st := by
  have hT := M.tab hP R.am
  refine ⟨M.tabbed hP R.am t, R.len, R.nd, fun n o a h1 h2 => ImO.mono R (Fr.tab hT t) (t.2 a fun e => ?_) (R.ob n o a h1 h2)⟩
  obtain ⟨ps, hp, _⟩ := hT
  rw [← e] at hp
  rcases R.kind (List.mem_of_getElem? h2) with ⟨xs, q⟩ | ⟨C, dx, fs, q⟩ <;> (rw [hp] at q; cases q)
theorem ex_all (M : AmX G T) {P : Addr} (hP : P ∈ T) {wi : TI} {mi : IM} {g : TG} {mg : GM} {te : TE} {me : EM} {vs : List Nat} (hi : ExI G E wi mi) (hg : ExW G vs g mg) (he : Ex G EF te me) : Ex G E (Mk.tAllG P wi g te vs) (mAll mi mg me vs) := fun ι env st σ H Q R Ev h => by
  refine hi ι env st σ H _ R Ev (go h fun r h1 ι1 H1 J f1 R1 IO => ?_)
  generalize fuel = fu at h1
  refine ⟨M.tab hP R1.am, fun H2 t2 => ?_⟩
  have f2 : Fr ι1 H1 ι1 H2 := Fr.tab (M.tab hP R1.am) t2
  have R2 := R1.tab M hP t2
  refine ⟨fun i m H3 => ∃ ι3 st3, Fr ι1 H1 ι3 H3 ∧ Rl G ι3 H3 st3 ∧ (allG r.1 mg me (wipeE env vs) m i st3).holds (PE1 G ι H Q) (PXx G ι H E), ⟨fu, ι1, r.2, f2, R2, h1⟩, ?_⟩
  rintro i m H3 ⟨ι3, st3, f3, R3, h3⟩
  cases m with
  | zero => exact h3.elim
  | succ k =>
    have io := IO ι3 H3 st3 f3 R3 i
    unfold allG at h3
    cases e : r.1 i st3 with
    | no => rw [e] at h3; exact h3.elim
    | stop =>
      rw [e] at h3 io
      exact .inl ⟨io, (show PE1 G ι H Q (.bl true, st3) from h3) _ _ _ (f1.trans f3) R3 im_bl⟩
    | item a s =>
      rw [e] at h3 io
      dsimp only at h3 io
      refine .inr ⟨io.1, fun H4 => ∃ ι4 st4, Fr ι1 H1 ι4 H4 ∧ Rl G ι4 H4 st4 ∧ (allG r.1 mg me (wipeE env vs) k (i + 1) st4).holds (PE1 G ι H Q) (PXx G ι H E), fun H4 w => ⟨k, Nat.lt_succ_self k, w⟩, fun x H4 y => ?_⟩
      obtain ⟨ι4, f4, R4, ix⟩ := io.2 x H4 y
      have g4 : Fr ι H ι4 H4 := (f1.trans f3).trans f4
      refine hg ι4 (wipeE env vs) s (wipe σ vs) H4 a x _ (fun _ _ => False) R4 (EnvR.wipe (R.env g4 Ev) vs) ix (holds_mono (fun e' h5 => ?_) (fun _ _ q => q) (noX_bind h3))
      intro ι5 H5 f5 R5 σ5 Ev5 o5
      refine ⟨wipe_wipe' o5, he ι5 e'.1 e'.2 σ5 H5 _ R5 Ev5 (holds_mono (fun yy h6 => ?_) (fun _ _ q => q) (noX_bind h5))⟩
      intro ι6 H6 w f6 R6 iw
      obtain ⟨b, e1, e2, q⟩ := asB_run (holds_bind h6) iw
      refine ⟨b, e2, ?_⟩
      have p6 : Fr ι1 H1 ι6 H6 := ((f3.trans f4).trans f5).trans f6
      cases b with
      | true => exact iteT ⟨ι6, _, p6, R6, q⟩
      | false => exact iteF ((show PE1 G ι H Q (.bl false, yy.2) from q) _ _ _ (f1.trans p6) R6 im_bl)
/-! ### x += e -/
def mAug (i : Nat) (ma : EM) (g : Int → Int → Int) : SM := fun env st => match env[i]? with
  | some (some (.int x)) => (ma env st).bind fun a => match a.1 with
    | .int y => .ok (.nx (env.set i (some (.int (g x y)))), a.2)
    | _ => .fail
  | _ => .fail
theorem exs_aug {i : Nat} {g : Int → Int → Int} (ha : Ex G E ta ma) : ExS G E (tAug i ta (ipI g)) (mAug i ma g) := fun ι env st σ H D R Ev h => by
  unfold mAug at h
  split at h
  · rename_i x hx
    obtain ⟨v, hv, iv⟩ := Ev.at_ i _ hx
    rw [im_int' iv] at hv
    refine ⟨_, hv, ha.run R Ev h fun ι1 H1 a s1 w f1 R1 Ev1 im h1 => ?_⟩
    cases a with
    | int y => exact ⟨x, y, rfl, im_int' im, (show PS1 G ι H D (.nx (env.set i (some (.int (g x y)))), s1) from h1) _ _ f1 R1 _ (Ev1.set i im_int)⟩
    | _ => exact h1.elim
  · exact h.elim
/-! ### slices -/
abbrev OM := Ev → Sto → R (Option Int × Sto)
def ExO (G : Gx) (E : XK) (t : TO) (m : OM) : Prop := ∀ (ι : List Addr) (env : Ev) (st : Sto) (σ : L2.St) (H : Hp) (Q : Option Int → Hp → Prop), Rl G ι H st → EnvR G ι H env σ → (m env st).holds (fun r => ∀ ι' H', Fr ι H ι' H' → Rl G ι' H' r.2 → Q r.1 H') (PXx G ι H E) → t σ H Q
def moNone : OM := fun _ st => .ok (none, st)
def moSome (ma : EM) : OM := fun env st => (ma env st).bind fun a => match a.1 with
  | .int i => .ok (some i, a.2)
  | _ => .fail
theorem exo_none : ExO G E tNoPart moNone := fun ι env st σ H Q R Ev h => (show ∀ ι' H', Fr ι H ι' H' → Rl G ι' H' st → Q none H' from h) ι H (Fr.refl _ _) R
theorem exo_some (ha : Ex G E ta ma) : ExO G E (tPart ta) (moSome ma) := fun ι env st σ H Q R Ev h => by
  refine ha.run R Ev h fun ι1 H1 a s1 w f1 R1 Ev1 im h1 => ?_
  cases a with
  | int y => exact ⟨y, im_int' im, (show ∀ ι' H', Fr ι H ι' H' → Rl G ι' H' s1 → Q (some y) H' from h1) _ _ f1 R1⟩
  | _ => exact h1.elim
def cutA (xs : List A) (lo hi : Option Int) : List A := (xs.drop (HT.sIx xs.length 0 lo)).take (HT.sIx xs.length xs.length hi - HT.sIx xs.length 0 lo)
abbrev FS := A → Option Int → Option Int → Sto → Option (A × Sto)
def OkS (G : Gx) (r : V → Option Int → Option Int → Hp → VK → Prop) (f : FS) : Prop := ∀ ι st H a x lo hi c Q, Rl G ι H st → Im G.K H ι a x → f a lo hi st = some c → PE1 G ι H Q c → r x lo hi H Q
def mSl (f : FS) (ma : EM) (ml mh : OM) : EM := fun env st => (ma env st).bind fun a => (ml env a.2).bind fun l => (mh env l.2).bind fun h => ofO (f a.1 l.1 h.1 h.2)
theorem ex_sl {r : V → Option Int → Option Int → Hp → VK → Prop} {f : FS} {t1 t2 : TO} {m1 m2 : OM} (hf : OkS G r f) (ha : Ex G E ta ma) (h1 : ExO G E t1 m1) (h2 : ExO G E t2 m2) : Ex G E (tSl r ta t1 t2) (mSl f ma m1 m2) := fun ι env st σ H Q R Ev h => by
  refine ha.run R Ev h fun ι1 H1 a s1 v f1 R1 Ev1 im q1 => ?_
  refine h1 ι1 env s1 σ H1 _ R1 Ev1 (go q1 fun l q2 ι2 H2 f2 R2 => ?_)
  refine h2 ι2 env l.2 σ H2 _ R2 (R1.env f2 Ev1) (go (sh f2 q2 fun _ q => q) fun u q3 ι3 H3 f3 R3 => ?_)
  obtain ⟨c, e, q⟩ := ofO_holds q3
  exact hf _ _ _ _ _ _ _ _ _ R3 (R2.im f3 (R1.im f2 im)) e (PE1.sh ((f1.trans f2).trans f3) q)
def fSlT : FS := fun a lo hi st => match a with
  | .tup l => some (.tup (cutA l lo hi), st)
  | _ => none
theorem cutA_im {ι : List Addr} {H : Hp} {l : List A} {xs : List V} {lo hi : Option Int} (il : ImL G.K H ι l xs) : ImL G.K H ι (cutA l lo hi) (cutV xs lo hi) := by
  unfold cutA cutV
  rw [il.length]
  exact imL_take (imL_drop il _) _
theorem ok_slT (M : AmX G T) : OkS G (rSlA G.K) fSlT := fun ι st H a x lo hi c Q R ia e q => by
  unfold fSlT at e
  split at e
  · cases e
    rename_i l
    obtain ⟨p, xs, rfl, hx, il⟩ := im_tup' ia
    refine ⟨p, xs, rfl, hx, fun z => ?_, fun _ p hp => PE1.tup M R (cutA_im il) q hp⟩
    have e2 : cutA l lo hi = l := by
      unfold cutA
      rw [← il.length, z.1, z.2, Nat.sub_zero, il.length, List.drop_zero, List.take_length]
    rw [e2] at q
    exact PE1.at q R ia
  · cases e
def fSlL : FS := fun a lo hi st => match a with
  | .ref n => match st[n]? with
    | some (.lst l) => some (.ref st.length, st ++ [.lst (cutA l lo hi)])
    | _ => none
  | _ => none
theorem ok_slL (M : AmX G T) : OkS G (rSlL G.K) fSlL := fun ι st H a x lo hi c Q R ia e q => by
  unfold fSlL at e
  split at e
  · split at e
    · rename_i l hl
      cases e
      obtain ⟨p, xs, rfl, _, hx, il⟩ := R.lst hl ia
      exact ⟨p, xs, rfl, .inl (.inl hx), fun p hp => PE1.lst M R (cutA_im il) q hp⟩
    · cases e
  · cases e
def fSlS : FS := fun a lo hi st => match a with
  | .str z => if z.length ≤ sizeLine then some (.str (cutS z lo hi), st) else none
  | _ => none
theorem ok_slS : OkS G rSlS fSlS := fun ι st H a x lo hi c Q R ia e q => by
  unfold fSlS at e
  split at e
  · split at e
    · rename_i hz
      cases e
      exact ⟨_, im_str' ia, hz, PE1.at q R im_str⟩
    · cases e
  · cases e
/-! ### a + b, a * n of tuples, lists, texts -/
def fCatT : F2 := fun a b st => match a, b with
  | .tup l, .tup k => if l.length + k.length ≤ sizeLine then some (.tup (l ++ k), st) else none
  | _, _ => none
theorem ok_catT (M : AmX G T) : Ok2 G (rCatA G.K) fCatT := fun ι st H a b x y c Q R ia ib e q => by
  unfold fCatT at e
  split at e
  · split at e
    · rename_i l k hz
      cases e
      obtain ⟨p, xs, rfl, hx, il⟩ := im_tup' ia
      obtain ⟨p2, ys, rfl, hy, jl⟩ := im_tup' ib
      refine ⟨p, p2, xs, ys, rfl, rfl, hx, hy, by rw [il.length, jl.length]; exact hz, fun z => ?_, fun _ z => ?_, fun _ _ r hr => PE1.tup M R (ImL.append il jl) q hr⟩
      · subst z
        have : l = [] := by
          have := il.length
          cases l with
          | nil => rfl
          | cons _ _ => simp at this
        subst this
        exact PE1.at q R ib
      · subst z
        have : k = [] := by
          have := jl.length
          cases k with
          | nil => rfl
          | cons _ _ => simp at this
        subst this
        rw [List.append_nil] at q
        exact PE1.at q R ia
    · cases e
  · cases e
def fCatL : F2 := fun a b st => match a, b with
  | .ref n, .ref m => match st[n]?, st[m]? with
    | some (.lst l), some (.lst k) => if l.length + k.length ≤ sizeLine then some (.ref st.length, st ++ [.lst (l ++ k)]) else none
    | _, _ => none
  | _, _ => none
theorem ok_catL (M : AmX G T) : Ok2 G rCat fCatL := fun ι st H a b x y c Q R ia ib e q => by
  unfold fCatL at e
  split at e
  · split at e
    · rename_i l k hl hk
      split at e
      · rename_i hz
        cases e
        obtain ⟨p, xs, rfl, _, hx, il⟩ := R.lst hl ia
        obtain ⟨p2, ys, rfl, _, hy, jl⟩ := R.lst hk ib
        exact ⟨p, p2, xs, ys, rfl, rfl, hx, hy, by rw [il.length, jl.length]; exact hz, fun r hr => PE1.lst M R (ImL.append il jl) q hr⟩
      · cases e
    · cases e
  · cases e
def fCatS : F2 := fun a b st => match a, b with
  | .str l, .str k => if l.length + k.length ≤ sizeLine then some (.str (l ++ k), st) else none
  | _, _ => none
theorem ok_catS : Ok2 G (fun x y H Q => ∃ i j : Str, x = .str i ∧ y = .str j ∧ i.length + j.length ≤ sizeLine ∧ Q (.str (i ++ j)) H) fCatS := fun ι st H a b x y c Q R ia ib e q => by
  unfold fCatS at e
  split at e
  · split at e
    · rename_i hz
      cases e
      exact ⟨_, _, im_str' ia, im_str' ib, hz, PE1.at q R im_str⟩
    · cases e
  · cases e
theorem imL_rep {ι : List Addr} {H : Hp} {l : List A} {xs : List V} (il : ImL G.K H ι l xs) : ∀ k, ImL G.K H ι (List.replicate k l).flatten (List.replicate k xs).flatten
  | 0 => imL_nil
  | k + 1 => by
    rw [List.replicate_succ, List.replicate_succ, List.flatten_cons, List.flatten_cons]
    exact ImL.append il (imL_rep il k)
def fRepT : F2 := fun a b st => match a, b with
  | .tup l, .int k => if (l ≠ [] ∧ l.length ≤ 100) ∧ 0 ≤ k ∧ k ≤ 5000 then some (.tup (List.replicate k.toNat l).flatten, st) else none
  | _, _ => none
theorem ok_repT (M : AmX G T) : Ok2 G (rRepA G.K) fRepT := fun ι st H a b x y c Q R ia ib e q => by
  unfold fRepT at e
  split at e
  · split at e
    · rename_i l k hz
      cases e
      obtain ⟨p, xs, rfl, hx, il⟩ := im_tup' ia
      refine ⟨p, k, xs, rfl, im_int' ib, hx, fun z => ?_, hz.2.1, hz.2.2, by rw [il.length]; exact hz.1.2, fun z => ?_, fun _ r hr => PE1.tup M R (imL_rep il _) q hr⟩
      · have := il.length
        rw [z] at this
        exact hz.1.1 (List.eq_nil_of_length_eq_zero this.symm)
      · subst z
        have e2 : (List.replicate (1 : Int).toNat l).flatten = l := by
          show (List.replicate 1 l).flatten = l
          simp
        rw [e2] at q
        exact PE1.at q R ia
    · cases e
  · cases e
/-! ### methods of lists and texts -/
abbrev FB := A → List A → Sto → Option (A × Sto)
def OkM (G : Gx) (r : V → List V → Hp → VK → Prop) (f : FB) : Prop := ∀ ι st H a x as xs c Q, Rl G ι H st → Im G.K H ι a x → ImL G.K H ι as xs → f a as st = some c → PE1 G ι H Q c → r x xs H Q
/-- the receiver's type -/
def isTyA (Tn : String) (a : A) (st : Sto) : Bool := match a with
  | .str _ => decide (Tn = "str")
  | .ref n => match st[n]? with
    | some (.lst _) => decide (Tn = "list")
    | _ => false
  | _ => false
theorem tyV_of {ι : List Addr} {H : Hp} {st : Sto} {a : A} {x : V} {Tn : String} (R : Rl G ι H st) (im : Im G.K H ι a x) (h : isTyA Tn a st = true) : tyV G.K Tn x H := by
  unfold isTyA at h
  split at h
  · rw [im_str' im]; show Tn = "str"; exact of_decide_eq_true h
  · split at h
    · rename_i l hl
      obtain ⟨p, xs, rfl, _, hx, il⟩ := R.lst hl im
      exact .inl ⟨of_decide_eq_true h, xs, .inl (.inl hx)⟩
    · cases h
  · cases h
def mBM (Tn : String) (f : FB) (ma : EM) (ml : LM) : EM := fun env st => (ma env st).bind fun a => if isTyA Tn a.1 a.2 = true then (ml env a.2).bind fun l => ofO (f a.1 l.1 l.2) else .fail
theorem ex_bm {Tn : String} {r : V → List V → Hp → VK → Prop} {f : FB} (hf : OkM G r f) (ha : Ex G E ta ma) (hl : ExL G E tl ml) : Ex G E (tBM G.K Tn r ta tl) (mBM Tn f ma ml) := fun ι env st σ H Q R Ev h => by
  refine ha.run R Ev h fun ι1 H1 a s1 v f1 R1 Ev1 im q1 => ?_
  dsimp only at q1
  split at q1
  · rename_i ht
    refine ⟨tyV_of R1 im ht, hl.run R1 Ev1 q1 fun ι2 H2 as s2 w f2 R2 Ev2 im2 q2 => ?_⟩
    obtain ⟨c, e, q⟩ := ofO_holds q2
    exact hf _ _ _ _ _ _ _ _ _ R2 (R1.im f2 im) im2 e (PE1.sh (f1.trans f2) q)
  · exact q1.elim
def mBM0 (Tn : String) (f : FB) (ma : EM) : EM := fun env st => (ma env st).bind fun a => if isTyA Tn a.1 a.2 = true then ofO (f a.1 [] a.2) else .fail
theorem ex_bm0 {Tn : String} {r : V → List V → Hp → VK → Prop} {f : FB} (hf : OkM G r f) (ha : Ex G E ta ma) : Ex G E (tBM0 G.K Tn r ta) (mBM0 Tn f ma) := fun ι env st σ H Q R Ev h => by
  refine ha.run R Ev h fun ι1 H1 a s1 v f1 R1 Ev1 im q1 => ?_
  dsimp only at q1
  split at q1
  · rename_i ht
    refine ⟨tyV_of R1 im ht, ?_⟩
    obtain ⟨c, e, q⟩ := ofO_holds q1
    exact hf _ _ _ _ _ _ _ _ _ R1 im imL_nil e (PE1.sh f1 q)
  · exact q1.elim
def mM1 (f : FB) (ma mb : EM) : EM := fun env st => (ma env st).bind fun a => match a.1 with
  | .str z => (mb env a.2).bind fun b => ofO (f (.str z) [b.1] b.2)
  | _ => .fail
theorem ex_m1 {r : V → List V → Hp → VK → Prop} {f : FB} (hf : OkM G r f) (ha : Ex G E ta ma) (hb : Ex G E tb mb) : Ex G E (tM1 r ta tb) (mM1 f ma mb) := fun ι env st σ H Q R Ev h => by
  refine ha.run R Ev h fun ι1 H1 a s1 v f1 R1 Ev1 im q1 => ?_
  cases a with
  | str z =>
    refine ⟨⟨z, im_str' im⟩, hb.run R1 Ev1 q1 fun ι2 H2 as s2 w f2 R2 Ev2 im2 q2 => ?_⟩
    obtain ⟨c, e, q⟩ := ofO_holds q2
    exact hf _ _ _ _ _ _ _ _ _ R2 (R1.im f2 im) (imL_cons im2 imL_nil) e (PE1.sh (f1.trans f2) q)
  | _ => exact q1.elim
def fAppend : FB := fun a as st => match a, as with
  | .ref n, [y] => match st[n]? with
    | some (.lst l) => if l.length < sizeLine then some (.non, st.set n (.lst (l ++ [y]))) else none
    | _ => none
  | _, _ => none
theorem ok_append (M : AmX G T) : OkM G rAppend fAppend := fun ι st H a x as xs c Q R ia il e q => by
  unfold fAppend at e
  split at e
  · split at e
    · rename_i l hl
      split at e
      · rename_i hz
        cases e
        obtain ⟨y, rfl, iy⟩ := imL_1 il
        obtain ⟨p, xs, rfl, hp, hx, jl⟩ := R.lst hl ia
        exact ⟨p, xs, y, rfl, rfl, hx, by rw [jl.length]; exact hz, PE1.mut M R hp (ImL.append jl (imL_cons iy imL_nil)) im_non q⟩
      · cases e
    · cases e
  · cases e
def fPop : FB := fun a as st => match a, as with
  | .ref n, [] => match st[n]? with
    | some (.lst l) => (l[l.length - 1]?).map fun y => (y, st.set n (.lst l.dropLast))
    | _ => none
  | _, _ => none
theorem ok_pop (M : AmX G T) : OkM G rPop fPop := fun ι st H a x as xs c Q R ia il e q => by
  unfold fPop at e
  split at e
  · split at e
    · rename_i l hl
      cases hy : l[l.length - 1]? with
      | none => rw [hy] at e; cases e
      | some y =>
        rw [hy] at e
        cases e
        obtain ⟨p, xs, rfl, hp, hx, jl⟩ := R.lst hl ia
        obtain ⟨v, hv, iv⟩ := imL_get jl hy
        exact ⟨p, xs, v, rfl, imL_nil' il, hx, by rw [jl.length]; exact hv, PE1.mut M R hp (imL_dropLast jl) iv q⟩
    · cases e
  · cases e
def fExtend : FB := fun a as st => match a, as with
  | .ref n, [.ref m] => match st[n]?, st[m]? with
    | some (.lst l), some (.lst k) => if l.length + k.length ≤ sizeLine then some (.non, st.set n (.lst (l ++ k))) else none
    | _, _ => none
  | _, _ => none
theorem ok_extend (M : AmX G T) : OkM G rExtend fExtend := fun ι st H a x as xs c Q R ia il e q => by
  unfold fExtend at e
  split at e
  · split at e
    · rename_i l k hl hk
      split at e
      · rename_i hz
        cases e
        obtain ⟨y, rfl, iy⟩ := imL_1 il
        obtain ⟨p, xs, rfl, hp, hx, jl⟩ := R.lst hl ia
        obtain ⟨p2, ys, rfl, _, hy, kl⟩ := R.lst hk iy
        exact ⟨p, p2, xs, ys, rfl, rfl, hx, hy, by rw [jl.length, kl.length]; exact hz, PE1.mut M R hp (ImL.append jl kl) im_non q⟩
      · cases e
    · cases e
  · cases e
def strsOf : List A → Option (List Str)
  | [] => some []
  | .str s :: l => (strsOf l).map fun r => s :: r
  | _ => none
theorem strsOf_im {ι : List Addr} {H : Hp} : ∀ {l : List A} {xs : List V} {ys : List Str}, ImL G.K H ι l xs → strsOf l = some ys → xs = ys.map V.str
  | [], xs, ys, il, e => by cases e; rw [imL_nil' il]; rfl
  | .str s :: l, xs, ys, il, e => by
    obtain ⟨v, vs, rfl, i1, i2⟩ := imL_cons' il
    unfold strsOf at e
    cases hr : strsOf l with
    | none => rw [hr] at e; cases e
    | some r =>
      rw [hr] at e
      cases e
      rw [im_str' i1, strsOf_im i2 hr]
      rfl
  | .non :: l, xs, ys, il, e => by cases e
  | .bl _ :: l, xs, ys, il, e => by cases e
  | .int _ :: l, xs, ys, il, e => by cases e
  | .ty _ :: l, xs, ys, il, e => by cases e
  | .tup _ :: l, xs, ys, il, e => by cases e
  | .ref _ :: l, xs, ys, il, e => by cases e
def fJoin : FB := fun a as st => match a, as with
  | .str s, [.ref n] => match st[n]? with
    | some (.lst l) => match strsOf l with
      | some ys => if (ys.map (·.length)).sum + ys.length * s.length ≤ 16777216 then some (.str (Txt.join s ys), st) else none
      | none => none
    | _ => none
  | _, _ => none
theorem ok_join : OkM G (fun x xs H Q => ∃ a p, ∃ ys : List Str, x = .str a ∧ xs = [.ref p] ∧ (SqL G.K H p (ys.map V.str) ∨ SqT G.K H p (ys.map V.str)) ∧
    (ys.map (·.length)).sum + ys.length * a.length ≤ 16777216 ∧ Q (.str (Txt.join a ys)) H) fJoin := fun ι st H a x as xs c Q R ia il e q => by
  unfold fJoin at e
  split at e
  · split at e
    · rename_i l hl
      split at e
      · rename_i ys hys
        split at e
        · rename_i hz
          cases e
          obtain ⟨y, rfl, iy⟩ := imL_1 il
          obtain ⟨p, xs, rfl, hp, hx, jl⟩ := R.lst hl iy
          rw [strsOf_im jl hys] at hx
          exact ⟨_, p, ys, im_str' ia, rfl, .inl (.inl (.inl hx)), hz, PE1.at q R im_str⟩
        · cases e
      · cases e
    · cases e
  · cases e
def fFind : FB := fun a as st => match a, as with
  | .str s, [.str t] => some (.int (Txt.find s t), st)
  | _, _ => none
theorem ok_find : OkM G (fun x xs H Q => ∃ a b : Str, x = .str a ∧ xs = [.str b] ∧ Q (.int (Txt.find a b)) H) fFind := fun ι st H a x as xs c Q R ia il e q => by
  unfold fFind at e
  split at e
  · cases e
    obtain ⟨y, rfl, iy⟩ := imL_1 il
    exact ⟨_, _, im_str' ia, by rw [im_str' iy], PE1.at q R im_int⟩
  · cases e
/-! ### raise -/
def fldOk : A → Bool
  | .str y => decide (y.length ≤ 100)
  | .int i => decide (i.natAbs.log2 < 1000)
  | .non => true
  | _ => false
def mRz0 (c : Nat) : SM := fun _ st => .exc (c, none) st
def mRz1 (c : Nat) (f : Str) (ml : LM) : SM := fun env st => (ml env st).bind fun l => match l.1 with
  | [a] => if fldOk a = true then .exc (c, some (f, a)) l.2 else .fail
  | _ => .fail
theorem exs_rz0 {c : Nat} : ExS G E (fun _ _ H => E (.ref (G.xc c)) none H) (mRz0 c) := fun ι env st σ H D R Ev h => (show PXx G ι H E (c, none) st from h) ι H (Fr.refl _ _) R
theorem fr_raise {ι : List Addr} {H : Hp} {a dx : Addr} {u v o o' : HO} (R : (∀ b ∈ ι, H b ≠ none)) (na : H a = none) (nd : H dx = none) : Fr ι H ι (upd (del (upd (upd (upd H a u) dx v) a o) a) dx o') := by
  have st : ∀ b w, H b = some w → (upd (del (upd (upd (upd H a u) dx v) a o) a) dx o') b = some w := fun b w e => by
    have h1 : b ≠ a := ne_of_none e na
    have h2 : b ≠ dx := ne_of_none e nd
    rw [upd_ne h2, del_ne h1, upd_ne h1, upd_ne h2, upd_ne h1]
    exact e
  refine ⟨List.prefix_refl _, fun _ h => .inl h, fun b w e _ _ => st b w e, fun b e => ?_⟩
  cases hb : H b with
  | none => exact absurd hb e
  | some w => rw [st b w hb]; simp
theorem exs_rz1 (M : AmX G T) {c : Nat} {f : Str} (ho : OexC G.K (G.xc c)) (hno : PySem.W.findIn G.K (.ref (G.xc c)) f = some none) (hl : ExL G E tl ml) : ExS G E (fun _ σ H => tMkO (G.xc c) (Mk.spInit G.K (G.xc c) f) [] tl σ H fun cls d H' => E cls d H') (mRz1 c f ml) := fun ι env st σ H D R Ev h => by
  refine hl.run R Ev h fun ι1 H1 as s1 vs f1 R1 Ev1 im q1 => ?_
  dsimp only at q1
  split at q1
  · split at q1
    · rename_i y hk
      obtain ⟨v, rfl, iv⟩ := imL_1 im
      have hv : (∃ y : Str, v = .str y ∧ y.length ≤ 100) ∨ (∃ i : Int, v = .int i ∧ i.natAbs.log2 < 1000) ∨ v = .non := by
        unfold fldOk at hk
        split at hk
        · exact .inl ⟨_, im_str' iv, of_decide_eq_true hk⟩
        · exact .inr (.inl ⟨_, im_int' iv, of_decide_eq_true hk⟩)
        · exact .inr (.inr (im_non' iv))
        · cases hk
      refine ⟨by show 1 ≤ 1000; decide, fun a na => ⟨a, v, rfl, hv, ho, hno, upd_same, fun dx nd ne => ⟨rfl, dx, [(f, v)], upd_same, by rw [upd_ne ne, upd_same], by rw [upd_ne ne] at nd; exact nd, ?_⟩⟩⟩
      have hd : H1 dx = none := by rw [upd_ne ne] at nd; exact nd
      have fr := fr_raise (ι := ι1) (u := exo a (G.xc c) none) (v := exd dx [(f, v)]) (o := exo a (G.xc c) (some dx)) (o' := .xd [(f, v)]) (fun b hb => by rcases R1.kind hb with ⟨_, q⟩ | ⟨_, _, _, q⟩ <;> (rw [q]; simp)) na hd
      have same : ∀ b o, H1 b = some o → (upd (del (upd (upd (upd H1 a (exo a (G.xc c) none)) dx (exd dx [(f, v)])) a (exo a (G.xc c) (some dx))) a) dx (.xd [(f, v)])) b = some o := fun b o e => by
        have h1 : b ≠ a := ne_of_none e na
        have h2 : b ≠ dx := ne_of_none e hd
        rw [upd_ne h2, del_ne h1, upd_ne h1, upd_ne h2, upd_ne h1]
        exact e
      have R2 : Rl G ι1 (upd (del (upd (upd (upd H1 a (exo a (G.xc c) none)) dx (exd dx [(f, v)])) a (exo a (G.xc c) (some dx))) a) dx (.xd [(f, v)])) s1 :=
        ⟨M.same R1.am fun b o e _ _ => same b o e, R1.len, R1.nd, fun n o b h1 h2 => ImO.mono R1 fr (by
          rcases R1.kind (List.mem_of_getElem? h2) with ⟨_, q⟩ | ⟨_, _, _, q⟩ <;> (rw [q]; exact same _ _ q)) (R1.ob n o b h1 h2)⟩
      exact (show PXx G ι1 H1 E (c, some (f, y)) s1 from q1) _ _ fr R2 dx v upd_same (R1.im fr iv)
    · exact q1.elim
  · exact q1.elim
end
end Mx

/-! ### MkX7 -/
set_option Elab.async false
set_option linter.all false
set_option maxRecDepth 100000
set_option maxHeartbeats 4000000
namespace Mx
open PySem PySem.Spec PyProof.Rows L2
open GxR (TabG Tabbed)
/-! ### in -/
def rInB (K : PySem.W.Frag) : R2 := fun x y H Q => ∃ d ds, Dp K H x d ∧ (Dp K H y (.list ds) ∨ Dp K H y (.tuple ds)) ∧ SeqAt.shaped d = true ∧ SeqAt.shaped (.list ds) = true ∧ Q (.bl (ds.any fun z => PyData.eqv z d)) H
def rNotInB (K : PySem.W.Frag) : R2 := fun x y H Q => ∃ d ds, Dp K H x d ∧ (Dp K H y (.list ds) ∨ Dp K H y (.tuple ds)) ∧ SeqAt.shaped d = true ∧ SeqAt.shaped (.list ds) = true ∧ Q (.bl (!ds.any fun z => PyData.eqv z d)) H
theorem op_inB {X : Cx} (hu : X.A.units + 65 < cLine) : OpR X (compareOp .In) (rInB X.K) := by
  intro pins s σ H x y v u Q I rx ry h
  obtain ⟨d, ds, hd, he, sd, se, q⟩ := h
  obtain ⟨as, r1⟩ := Dp.reads I d x v hd rx
  rcases he with he | he
  · obtain ⟨bs, r2⟩ := Dp.reads I (.list ds) y u he ry
    exact SeqAt.in_list_reads r2 r1 (SeqAt.canLay_of_shaped se) (SeqAt.canLay_of_shaped sd) (room_in_shaped sd hu) ⟨.bl _, H, I, rfl, q⟩
  · obtain ⟨bs, r2⟩ := Dp.reads I (.tuple ds) y u he ry
    exact SeqAt.in_tuple_reads r2 r1 (SeqAt.canLay_of_shaped se) (SeqAt.canLay_of_shaped sd) (room_in_shaped sd hu) ⟨.bl _, H, I, rfl, q⟩
theorem op_notInB {X : Cx} (hu : X.A.units + 65 < cLine) : OpR X (compareOp .NotIn) (rNotInB X.K) := by
  intro pins s σ H x y v u Q I rx ry h
  obtain ⟨d, ds, hd, he, sd, se, q⟩ := h
  obtain ⟨as, r1⟩ := Dp.reads I d x v hd rx
  rcases he with he | he
  · obtain ⟨bs, r2⟩ := Dp.reads I (.list ds) y u he ry
    exact SeqAt.notIn_list_reads r2 r1 (SeqAt.canLay_of_shaped se) (SeqAt.canLay_of_shaped sd) (room_in_shaped sd hu) ⟨.bl _, H, I, rfl, q⟩
  · obtain ⟨bs, r2⟩ := Dp.reads I (.tuple ds) y u he ry
    exact SeqAt.notIn_tuple_reads r2 r1 (SeqAt.canLay_of_shaped se) (SeqAt.canLay_of_shaped sd) (room_in_shaped sd hu) ⟨.bl _, H, I, rfl, q⟩
section
variable {G : Gx} {T : List Addr} {E : XK} {ta tb : TE} {ma mb : EM} {tl : TA} {ml : LM}
/-- x in the items, by values: quick where all are plain -/
def inPlain (a : A) : List A → Option Bool
  | [] => some false
  | b :: l => match b, a with
    | .str s, .str t => if s = t then some true else inPlain a l
    | .int i, .int j => if i = j then some true else inPlain a l
    | _, _ => none
def inDeep (a : A) (l : List A) (st : Sto) : Option Bool := match toP st 40 a, toPs st 40 l with
  | some d, some ds => if (SeqAt.shaped d && SeqAt.shaped (.list ds)) = true then some (ds.any fun z => PyData.eqv z d) else none
  | _, _ => none
def seqOf (b : A) (st : Sto) : Option (List A) := match b with
  | .tup l => some l
  | .ref n => match st[n]? with
    | some (.lst l) => some l
    | _ => none
  | _ => none
def inA (a b : A) (st : Sto) : Option Bool := (seqOf b st).bind fun l => inDeep a l st
def fIn : F2 := fun a b st => (inA a b st).map fun c => (.bl c, st)
def fNotIn : F2 := fun a b st => (inA a b st).map fun c => (.bl (!c), st)
theorem inA_ok {ι : List Addr} {H : Hp} {st : Sto} (R : Rl G ι H st) {a b : A} {x y : V} {c : Bool} (ia : Im G.K H ι a x) (ib : Im G.K H ι b y) (e : inA a b st = some c) :
    ∃ d ds, Dp G.K H x d ∧ (Dp G.K H y (.list ds) ∨ Dp G.K H y (.tuple ds)) ∧ SeqAt.shaped d = true ∧ SeqAt.shaped (.list ds) = true ∧ (ds.any fun z => PyData.eqv z d) = c := by
  unfold inA at e
  cases hl : seqOf b st with
  | none => rw [hl] at e; cases e
  | some l =>
    rw [hl] at e
    replace e : inDeep a l st = some c := e
    unfold inDeep at e
    split at e
    · rename_i d ds h1 h2
      split at e
      · rename_i hs
        cases e
        rw [Bool.and_eq_true] at hs
        refine ⟨d, ds, dp_of R ia h1, ?_, hs.1, hs.2, rfl⟩
        unfold seqOf at hl
        split at hl
        · cases hl
          obtain ⟨p, xs, rfl, hx, il⟩ := im_tup' ib
          exact .inr (.tup hx (dps_of R il h2))
        · split at hl
          · rename_i l2 hl2
            cases hl
            obtain ⟨p, xs, rfl, _, hx, il⟩ := R.lst hl2 ib
            exact .inl (.lst (.inl (.inl hx)) (dps_of R il h2))
          · cases hl
        · cases hl
      · cases e
    · cases e
theorem ok_in : Ok2 G (rInB G.K) fIn := fun ι st H a b x y c Q R ia ib e q => by
  unfold fIn at e
  cases h : inA a b st with
  | none => rw [h] at e; cases e
  | some c' =>
    rw [h] at e
    cases e
    obtain ⟨d, ds, h1, h2, h3, h4, z⟩ := inA_ok R ia ib h
    exact ⟨d, ds, h1, h2, h3, h4, by rw [z]; exact PE1.at q R im_bl⟩
theorem ok_notIn : Ok2 G (rNotInB G.K) fNotIn := fun ι st H a b x y c Q R ia ib e q => by
  unfold fNotIn at e
  cases h : inA a b st with
  | none => rw [h] at e; cases e
  | some c' =>
    rw [h] at e
    cases e
    obtain ⟨d, ds, h1, h2, h3, h4, z⟩ := inA_ok R ia ib h
    exact ⟨d, ds, h1, h2, h3, h4, by rw [z]; exact PE1.at q R im_bl⟩
/-! ### f-strings -/
def mFmt (ma : EM) : EM := fun env st => (ma env st).bind fun a => match a.1 with
  | .str y => if y.length ≤ sizeLine then .ok (.str y, a.2) else .fail
  | .int i => if i.natAbs.log2 < 1920 then .ok (.str (toString i), a.2) else .fail
  | _ => .fail
theorem ex_fmt (ha : Ex G E ta ma) : Ex G E (tFmt ta) (mFmt ma) := fun ι env st σ H Q R Ev h => by
  refine ha.run R Ev h fun ι1 H1 a s1 v f1 R1 Ev1 im q1 => ?_
  dsimp only at q1
  split at q1
  · split at q1
    · rename_i hz
      exact .inl ⟨_, im_str' im, hz, (show PE1 G ι H Q (.str _, s1) from q1) _ _ _ f1 R1 im_str⟩
    · exact q1.elim
  · split at q1
    · rename_i hz
      exact .inr ⟨_, im_int' im, hz, (show PE1 G ι H Q (.str _, s1) from q1) _ _ _ f1 R1 im_str⟩
    · exact q1.elim
  · exact q1.elim
inductive ExJ (G : Gx) (E : XK) : List TE → List EM → Prop where
  | nil : ExJ G E [] []
  | cons {t : TE} {m : EM} {ts : List TE} {ms : List EM} (h : Ex G E t m) (r : ExJ G E ts ms) : ExJ G E (t :: ts) (m :: ms)
def jsG : List EM → Str → Ev → Sto → R (A × Sto)
  | [], acc, _, st => .ok (.str acc, st)
  | m :: ms, acc, env, st => (m env st).bind fun a => match a.1 with
    | .str y => if (acc ++ y).length ≤ sizeLine then jsG ms (acc ++ y) env a.2 else .fail
    | _ => .fail
def mJs (ms : List EM) : EM := fun env st => jsG ms Str.empty env st
theorem js_run {ts : List TE} {ms : List EM} (h : ExJ G E ts ms) : ∀ (acc : Str) (ι : List Addr) (env : Ev) (st : Sto) (σ : L2.St) (H : Hp) (Q : VK), Rl G ι H st → EnvR G ι H env σ → (jsG ms acc env st).holds (PE1 G ι H Q) (PXx G ι H E) → tJs ts acc σ H fun out H1 => Q (.str out) H1 := by
  induction h with
  | nil => exact fun acc ι env st σ H Q R Ev h => (show PE1 G ι H Q (.str acc, st) from h) ι H _ (Fr.refl _ _) R im_str
  | cons ha _ ih =>
    intro acc ι env st σ H Q R Ev h
    refine ha.run R Ev h fun ι1 H1 a s1 v f1 R1 Ev1 im q1 => ?_
    dsimp only at q1
    split at q1
    · split at q1
      · rename_i y hz
        exact ⟨y, im_str' im, hz, ih _ ι1 env s1 σ H1 Q R1 Ev1 (sh (Fr.refl _ _) q1 fun _ q => PE1.sh f1 q)⟩
      · exact q1.elim
    · exact q1.elim
theorem ex_js {ts : List TE} {ms : List EM} (h : ExJ G E ts ms) : Ex G E (fun σ H Q => tJs ts Str.empty σ H fun out H1 => Q (.str out) H1) (mJs ms) := fun ι env st σ H Q R Ev q => js_run h Str.empty ι env st σ H Q R Ev q
/-! ### fields -/
theorem ImF.look {ι : List Addr} {H : Hp} {f : Str} : ∀ {fs : List (Str × A)} {vs : List (Str × V)}, ImF G.K H ι fs vs → (fs.lookup f = none → vs.lookup f = none) ∧ ∀ a, fs.lookup f = some a → ∃ v, vs.lookup f = some v ∧ Im G.K H ι a v
  | [], vs, h => by unfold ImF at h; subst h; exact ⟨fun _ => rfl, fun a z => by cases z⟩
  | (g, d) :: fs, vs, h => by
    unfold ImF at h
    obtain ⟨v, vs, rfl, h1, h2⟩ := h
    rw [List.lookup_cons, List.lookup_cons]
    split
    · refine ⟨fun z => ?_, fun a z => ?_⟩
      · cases z
      · cases z; exact ⟨v, rfl, h1⟩
    · exact ImF.look h2
theorem Rl.ins {ι : List Addr} {H : Hp} {st : Sto} (R : Rl G ι H st) {n c : Nat} {fs : List (Str × A)} {v : V} (h : st[n]? = some (.ins c fs)) (im : Im G.K H ι (.ref n) v) : ∃ a dx vs, v = .ref a ∧ ι[n]? = some a ∧ H a = some (.ins (G.cl c) dx vs) ∧ ImF G.K H ι fs vs := by
  obtain ⟨a, e, rfl⟩ := im_ref' im
  obtain ⟨dx, vs, h1, h2⟩ := R.ob n _ a h e
  exact ⟨a, dx, vs, rfl, e, h1, h2⟩
def mFld (c : Nat) (f : Str) (ma : EM) : EM := fun env st => (ma env st).bind fun a => match a.1 with
  | .ref n => match a.2[n]? with
    | some (.ins c' fs) => if c' = c then (match fs.lookup f with | some x => .ok (x, a.2) | none => .fail) else .fail
    | _ => .fail
  | _ => .fail
theorem ex_fld {c : Nat} {f : Str} (hc : Cls G.K (G.cl c)) (hn : NoAttr G.K (G.cl c) f) (ha : Ex G E ta ma) : Ex G E (tFld G.K ta f) (mFld c f ma) := fun ι env st σ H Q R Ev h => by
  refine ha.run R Ev h fun ι1 H1 a s1 v f1 R1 Ev1 im q1 => ?_
  dsimp only at q1
  split at q1
  · split at q1
    · rename_i c' fs hfs
      split at q1
      · rename_i hcc
        subst hcc
        split at q1
        · rename_i x hx
          obtain ⟨p, dx, vs, rfl, _, hp, il⟩ := R1.ins hfs im
          obtain ⟨w, hw, iw⟩ := (ImF.look il).2 x hx
          exact ⟨p, _, dx, vs, w, rfl, hp, hc, hn, hw, (show PE1 G ι H Q (x, s1) from q1) _ _ _ f1 R1 iw⟩
        · exact q1.elim
      · exact q1.elim
    · exact q1.elim
  · exact q1.elim
def putA (f : Str) (v : A) : List (Str × A) → List (Str × A)
  | [] => [(f, v)]
  | (g, x) :: r => if g = f then (g, v) :: r else (g, x) :: putA f v r
theorem ImF.put {ι : List Addr} {H : Hp} {f : Str} {a : A} {v : V} (ia : Im G.K H ι a v) : ∀ {fs : List (Str × A)} {vs : List (Str × V)}, ImF G.K H ι fs vs → ImF G.K H ι (putA f a fs) (putF f v vs)
  | [], vs, h => by unfold ImF at h; subst h; unfold putA putF ImF; exact ⟨v, [], rfl, ia, by unfold ImF; rfl⟩
  | (g, d) :: fs, vs, h => by
    unfold ImF at h
    obtain ⟨w, ws, rfl, h1, h2⟩ := h
    unfold putA putF
    split
    · unfold ImF; exact ⟨v, ws, rfl, ia, h2⟩
    · unfold ImF; exact ⟨w, _, rfl, h1, ImF.put ia h2⟩
theorem ImF.length {ι : List Addr} {H : Hp} : ∀ {fs : List (Str × A)} {vs : List (Str × V)}, ImF G.K H ι fs vs → vs.length = fs.length
  | [], vs, h => by unfold ImF at h; subst h; rfl
  | (g, d) :: fs, vs, h => by
    unfold ImF at h
    obtain ⟨w, ws, rfl, h1, h2⟩ := h
    rw [List.length_cons, List.length_cons, ImF.length h2]
def mSetF (c : Nat) (f : Str) (ma mv : EM) : SM := fun env st => (mv env st).bind fun y => (ma env y.2).bind fun a => match a.1 with
  | .ref n => match a.2[n]? with
    | some (.ins c' fs) => if c' = c ∧ fs.length < 1000 then .ok (.nx env, a.2.set n (.ins c' (putA f y.1 fs))) else .fail
    | _ => .fail
  | _ => .fail
theorem exs_setF (M : AmX G T) {c : Nat} {f : Str} (hc : Cls G.K (G.cl c)) (hn : NoAttr G.K (G.cl c) f) {tv : TE} {mv : EM} (ha : Ex G E ta ma) (hv : Ex G E tv mv) : ExS G E (sFld G.K ta tv f) (mSetF c f ma mv) := fun ι env st σ H D R Ev h => by
  refine hv.run R Ev h fun ι1 H1 y s1 w f1 R1 Ev1 iw q1 => ?_
  refine ha.run R1 Ev1 q1 fun ι2 H2 a s2 v f2 R2 Ev2 im q2 => ?_
  dsimp only at q2
  split at q2
  · split at q2
    · rename_i c' fs hfs
      split at q2
      · rename_i hcc
        obtain ⟨rfl, hlen⟩ := hcc
        obtain ⟨p, dx, vs, rfl, hp, hx, il⟩ := R2.ins hfs im
        refine ⟨p, _, dx, vs, rfl, hx, hc, hn, by rw [ImF.length il]; exact hlen, ?_⟩
        have fs3 : Fr ι2 H2 ι2 (upd H2 p (.ins (G.cl c') dx (putF f w vs))) := Fr.set (List.mem_of_getElem? hp)
        have R3 : Rl G ι2 (upd H2 p (.ins (G.cl c') dx (putF f w vs))) (s2.set _ (.ins c' (putA f y fs))) := R2.set M hp ⟨dx, _, upd_same, R2.imF fs3 (ImF.put (R1.im f2 iw) il)⟩
        exact (show PS1 G ι H D (.nx env, s2.set _ (.ins c' (putA f y fs))) from q2) _ _ ((f1.trans f2).trans fs3) R3 σ (R2.env fs3 Ev2)
      · exact q2.elim
    · exact q2.elim
  · exact q2.elim
/-! ### methods, making, properties -/
def mMeth (c : Nat) (m : Str) (f : FM) (n : Nat) (ma : EM) (ml : LM) : EM := fun env st => (ma env st).bind fun a => match a.1 with
  | .ref k => match a.2[k]? with
    | some (.ins c' fs) => if c' = c ∧ fs.lookup m = none then (ml env a.2).bind fun l => if l.1.length + 1 = n then f (.ref k :: l.1) l.2 else .fail else .fail
    | _ => .fail
  | _ => .fail
theorem ex_meth {c n : Nat} {m : Str} {f : FM} (ha : Ex G E ta ma) (hl : ExL G E tl ml) : Ex G E (tMeth (G.cl c) m (spX G n f) [] E ta tl) (mMeth c m f n ma ml) := fun ι env st σ H Q R Ev h => by
  refine ha.run R Ev h fun ι1 H1 a s1 v f1 R1 Ev1 im q1 => ?_
  dsimp only at q1
  split at q1
  · split at q1
    · rename_i c' fs hfs
      split at q1
      · rename_i hcc
        obtain ⟨rfl, hm⟩ := hcc
        obtain ⟨p, dx, vs, rfl, hp, hx, il⟩ := R1.ins hfs im
        refine ⟨p, dx, vs, rfl, hx, (ImF.look il).1 hm, hl.run R1 Ev1 q1 fun ι2 H2 as s2 w f2 R2 Ev2 im2 q2 => ?_⟩
        dsimp only at q2
        split at q2
        · rename_i hn
          refine ⟨?_, ι2, s2, _, R2, imL_cons (R1.im f2 im) (by rw [List.append_nil]; exact im2), sh (Fr.refl _ _) q2 fun _ q => PE1.sh (f1.trans f2) q⟩
          rw [List.append_nil, List.length_cons, im2.length]
          exact hn
        · exact q2.elim
      · exact q1.elim
    · exact q1.elim
  · exact q1.elim
def mMake (c : Nat) (f : FM) (n : Nat) (ml : LM) : EM := fun env st => (ml env st).bind fun l => if l.1.length + 1 = n then
    (f (.ref l.2.length :: l.1) (l.2 ++ [.ins c []])).bind fun r => match r.1 with
      | .non => .ok (.ref l.2.length, r.2)
      | _ => .fail
  else .fail
theorem Fr.make {ι : List Addr} {H : Hp} {x dx : Addr} {o u : HO} (hx : H x = none) (hd : H dx = none) : Fr ι H (ι ++ [x]) (upd (upd H dx u) x o) := ⟨List.prefix_append _ _, fun b h => by
  rcases List.mem_append.mp h with h | h
  · exact .inl h
  · rw [List.mem_singleton.mp h]; exact .inr hx, fun a w h _ _ => by rw [upd_ne (ne_of_none h hx), upd_ne (ne_of_none h hd)]; exact h, fun a h z => h (by
  by_cases e : a = x
  · rw [e]; exact hx
  · rw [upd_ne e] at z
    by_cases e2 : a = dx
    · rw [e2]; exact hd
    · rw [upd_ne e2] at z; exact z)⟩
theorem ex_make (M : AmX G T) {c n : Nat} {f : FM} (hl : ExL G E tl ml) : Ex G E (tMake (G.cl c) (spX G n f) [] E tl) (mMake c f n ml) := fun ι env st σ H Q R Ev h => by
  refine hl.run R Ev h fun ι1 H1 as s1 vs f1 R1 Ev1 im q1 => ?_
  dsimp only at q1
  split at q1
  · rename_i hn
    intro x dx hx hd hne
    have f2 : Fr ι1 H1 (ι1 ++ [x]) (upd (upd H1 dx (.own x)) x (.ins (G.cl c) dx [])) := Fr.make hx hd
    have hx2 : (upd H1 dx (.own x)) x = none := by rw [upd_ne (Ne.symm hne)]; exact hx
    have R2 : Rl G (ι1 ++ [x]) (upd (upd H1 dx (.own x)) x (.ins (G.cl c) dx [])) (s1 ++ [.ins c []]) := (R1.new M hd).obj M hx2 ⟨dx, [], upd_same, by unfold ImF; rfl⟩
    have hk : (ι1 ++ [x])[s1.length]? = some x := by rw [← R1.len, List.getElem?_append_right (Nat.le_refl _), Nat.sub_self]; rfl
    refine ⟨by rw [List.append_nil, List.length_cons, im.length]; exact hn, ι1 ++ [x], s1 ++ [.ins c []], _, R2, imL_cons (im_ref hk) (by rw [List.append_nil]; exact R1.imL f2 im), ?_⟩
    refine holds_mono (fun r q2 => ?_) (fun _ _ q => PXx.sh f2 q) (holds_bind q1)
    intro ι3 H3 v f3 R3 iv
    obtain ⟨rv, rs⟩ := r
    cases rv with
    | non =>
      refine ⟨im_non' iv, (show PE1 G ι H Q (.ref s1.length, rs) from q2) _ _ _ ((f1.trans f2).trans f3) R3 (im_ref ?_)⟩
      obtain ⟨z, rfl⟩ := f3.pre
      rw [List.getElem?_append_left (List.getElem?_eq_some_iff.mp hk).1]
      exact hk
    | _ => exact q2.elim
  · exact q1.elim
def mProp (c : Nat) (f : FM) (ma : EM) : EM := fun env st => (ma env st).bind fun a => match a.1 with
  | .ref k => match a.2[k]? with
    | some (.ins c' _) => if c' = c then noX (f [.ref k] a.2) else .fail
    | _ => .fail
  | _ => .fail
theorem ex_prop {c : Nat} {f : FM} (ha : Ex G E ta ma) : Ex G E (tProp (G.cl c) (spX G 1 f) [] EF ta) (mProp c f ma) := fun ι env st σ H Q R Ev h => by
  refine ha.run R Ev h fun ι1 H1 a s1 v f1 R1 Ev1 im q1 => ?_
  dsimp only at q1
  split at q1
  · split at q1
    · rename_i c' fs hfs
      split at q1
      · rename_i hcc
        subst hcc
        obtain ⟨p, dx, vs, rfl, hp, hx, il⟩ := R1.ins hfs im
        exact ⟨p, dx, vs, rfl, hx, rfl, ι1, s1, [.ref _], R1, imL_cons im imL_nil, holds_mono (fun _ q => PE1.sh f1 q) (fun _ _ q => q) (noX_holds q1)⟩
      · exact q1.elim
    · exact q1.elim
  · exact q1.elim
/-! ### x[i] = e -/
def gmSub (mo mi : EM) : GM := fun v env st => (mo env st).bind fun o => (mi env o.2).bind fun i => match o.1, i.1 with
  | .ref n, .int k => match i.2[n]? with
    | some (.lst l) => match ixN l.length k with
      | some j => .ok (env, i.2.set n (.lst (l.set j v)))
      | none => .fail
    | _ => .fail
  | _, _ => .fail
theorem exg_subL (M : AmX G T) {to ti : TE} {mo mi : EM} (ho : Ex G E to mo) (hi : Ex G E ti mi) : ExG G E (gSub to ti rSetL) (gmSub mo mi) := fun ι env st σ H a v Q R Ev im h => by
  refine ho.run R Ev h fun ι1 H1 o s1 ov f1 R1 Ev1 io q1 => ?_
  refine hi.run R1 Ev1 q1 fun ι2 H2 i s2 iv f2 R2 Ev2 ii q2 => ?_
  dsimp only at q2
  split at q2
  · split at q2
    · rename_i l hl
      split at q2
      · rename_i j hj
        obtain ⟨p, xs, rfl, hp, hx, il⟩ := R2.lst hl (R1.im f2 io)
        refine ⟨p, xs, _, j, rfl, im_int' ii, hx, by rw [il.length]; exact hj, ?_⟩
        have ia : Im G.K H2 ι2 a v := R1.im f2 (R.im f1 im)
        obtain ⟨f3, R3⟩ := R2.setL M hp (l := l.set j a) (xs := xs.set j v) (imL_set il ia j)
        exact (show PG1 G ι H Q (env, s2.set _ (.lst (l.set j a))) from q2) _ _ ((f1.trans f2).trans f3) R3 σ (R2.env f3 Ev2)
      · exact q2.elim
    · exact q2.elim
  · exact q2.elim
/-! ### a def -/
def mDef (ms : SM) (pad : Nat) : FM := fun as st => (ms (as.map some ++ List.replicate pad none) st).bind fun r => match r.1 with
  | .nx _ => .ok (.non, r.2)
  | .rt a => .ok (a, r.2)
  | _ => .fail
theorem start_env {ι : List Addr} {H : Hp} {as : List A} {vs : List V} {N : List Str} {pad : Nat} (il : ImL G.K H ι as vs) (hp : N.length - vs.length = pad) : EnvR G ι H (as.map some ++ List.replicate pad none) (L2.start N vs) := by
  unfold L2.start
  rw [hp]
  refine ⟨by simp [il.length], fun i a e => ?_⟩
  by_cases hi : i < as.length
  · rw [List.getElem?_append_left (by simpa using hi), List.getElem?_map] at e
    cases h : as[i]? with
    | none => rw [h] at e; cases e
    | some b =>
      rw [h] at e
      cases e
      obtain ⟨v, hv, iv⟩ := imL_get il h
      exact ⟨v, by rw [List.getElem?_append_left (by rw [List.length_map, il.length]; exact hi), List.getElem?_map, hv]; rfl, iv⟩
  · rw [List.getElem?_append_right (by simpa using hi)] at e
    rw [List.getElem?_replicate] at e
    split at e <;> cases e
theorem fn_of_ex {ms : SM} {t : TS} {N : List Str} {n pad : Nat} {vs : List V} {H : Hp} {Q : VK} (hN : N.length - n = pad) (hm : ExS G E t ms) (h : spX G n (mDef ms pad) vs H Q E) : t { nx := fun _ H' => Q .non H', rt := Q } (L2.start N vs) H := by
  obtain ⟨hl, ι, st, as, R, il, q⟩ := h
  refine hm ι _ st _ H _ R (start_env il (by rw [hl]; exact hN)) (go q fun r q1 => ?_)
  obtain ⟨fl, s1⟩ := r
  intro ι1 H1 f1 R1
  cases fl with
  | nx e => exact fun σ Ev => (show PE1 G ι H Q (.non, s1) from q1) _ _ _ f1 R1 im_non
  | rt a => exact fun v iv => (show PE1 G ι H Q (a, s1) from q1) _ _ _ f1 R1 iv
  | bk e => exact q1.elim
  | ct e => exact q1.elim
end
end Mx

/-! ### MkX8 -/
set_option Elab.async false
set_option linter.all false
set_option maxRecDepth 100000
set_option maxHeartbeats 4000000
namespace Mx
open PySem PySem.Spec PyProof.Rows L2
open GxR (TabG Tabbed)
theorem hu64 {k : Nat} {A : Around} (hr : Room k A) : A.units + 64 < cLine := by
  have := hr.un
  omega
theorem hu65 {k : Nat} {A : Around} (hr : Room k A) : A.units + 65 < cLine := by
  have := hr.un
  omega
theorem boot_isi : bootBuiltins "isinstance" = some (.builtin "isinstance") := by decide +kernel
theorem boot_int' : bootBuiltins "int" = some (.type "int") := by decide +kernel
theorem boot_bool' : bootBuiltins "bool" = some (.type "bool") := by decide +kernel
theorem boot_tuple' : bootBuiltins "tuple" = some (.type "tuple") := by decide +kernel
theorem boot_list' : bootBuiltins "list" = some (.type "list") := by decide +kernel
theorem boot_str' : bootBuiltins "str" = some (.type "str") := by decide +kernel
theorem room_gen {k : Nat} {A : Around} {env : Env} (hr : Room (k + 1) A) : Room k (A.in1.in1.deeper env) := by
  have h1 := hr.hd
  have h2 := hr.dp
  have h3 := hr.un
  refine ⟨h1, ?_, ?_⟩
  · show A.depth + 1 + 3 * k + 5 < recursionLimit
    omega
  · have e : (A.in1.in1.deeper env).units = A.units + 1 + 1 + 3 := rfl
    rw [e]
    omega
section
variable {G : Gx} {T : List Addr} {E : XK} {ta tb : TE} {ma mb : EM} {tl : TA} {ml : LM}
def mPar (i j : Nat) (ml : LM) : SM := fun env st => (ml env st).bind fun l => match l.1 with
  | [a, b] => .ok (.nx ((env.set i (some a)).set j (some b)), l.2)
  | _ => .fail
theorem exs_par {i j : Nat} (hl : ExL G E tl ml) : ExS G E (tPar i j tl) (mPar i j ml) := fun ι env st σ H D R Ev h => by
  refine hl.run R Ev h fun ι1 H1 as s1 vs f1 R1 Ev1 im q1 => ?_
  dsimp only at q1
  split at q1
  · rename_i a b
    obtain ⟨v, w, rfl, i1, i2⟩ := imL_2 im
    exact ⟨v, w, rfl, (show PS1 G ι1 H1 D (.nx ((env.set i (some a)).set j (some b)), s1) from fun ι' H' f' => (show PS1 G ι H D (.nx ((env.set i (some a)).set j (some b)), s1) from q1) ι' H' (f1.trans f')) _ _ (Fr.refl _ _) R1 _ ((Ev1.set i i1).set j i2)⟩
  · exact q1.elim
def mPar3 (i j k : Nat) (ml : LM) : SM := fun env st => (ml env st).bind fun l => match l.1 with
  | [a, b, c] => .ok (.nx (((env.set i (some a)).set j (some b)).set k (some c)), l.2)
  | _ => .fail
theorem exs_par3 {i j k : Nat} (hl : ExL G E tl ml) : ExS G E (tPar3 i j k tl) (mPar3 i j k ml) := fun ι env st σ H D R Ev h => by
  refine hl.run R Ev h fun ι1 H1 as s1 vs f1 R1 Ev1 im q1 => ?_
  dsimp only at q1
  split at q1
  · rename_i a b c
    obtain ⟨v, vs, rfl, i1, h2⟩ := imL_cons' im
    obtain ⟨w, x, rfl, i2, i3⟩ := imL_2 h2
    exact ⟨v, w, x, rfl, (show PS1 G ι H D (.nx (((env.set i (some a)).set j (some b)).set k (some c)), s1) from q1) _ _ f1 R1 _ (((Ev1.set i i1).set j i2).set k i3)⟩
  · exact q1.elim
/-- int(x) of an int -/
def fIntI : FL := fun l st => match l with
  | [.int i] => some (.int i, st)
  | [.bl b] => some (.int (if b = true then 1 else 0), st)
  | _ => none
/-- the draws -/
def fTaken : FM := fun as st => match as with
  | [.ref r, .int many] => match st[r]? with
    | some .dr => if 1 ≤ many ∧ many < 1073741824 then .draw many.toNat fun k => .ok (.int k, st) else .fail
    | _ => .fail
  | _ => .fail
end
/-- a def of the text under its name -/
structure DefX (P : Program) (w : World) (G : Gx) (mg : Str → Option Value) (base : Heap) (k : Nat) (x : Str) (f : Addr) (fd : FuncData) (ps : List Str) (dvs : List V) (n : Nat) (fm : FM) : Prop where
  ok : FnOk P w G.K mg base (L2.CX P w) k f fd ps (spX G n fm)
  kp : PySem.W.keepIn G.K (.ref f) = true
  b : Binds G.K fd ps []
  g : mg x = some (.ref f)
  bd : ∃ ds, Vals dvs ds ∧ Binds G.K fd ps ds
/-- a method of the class at C -/
structure MethX (P : Program) (w : World) (G : Gx) (mg : Str → Option Value) (base : Heap) (k : Nat) (C : Addr) (x : Str) (f : Addr) (fd : FuncData) (ps : List Str) (n : Nat) (fm : FM) : Prop where
  ok : FnOk P w G.K mg base (L2.CX P w) k f fd ps (spX G n fm)
  b : Binds G.K fd ps []
  m : Meth G.K C x f
/-- a property of the class at C -/
structure PropX (P : Program) (w : World) (G : Gx) (mg : Str → Option Value) (base : Heap) (k : Nat) (C : Addr) (x : Str) (p f : Addr) (fd : FuncData) (fm : FM) : Prop where
  ok : FnOk P w G.K mg base (L2.CX P w) k f fd ["self"] (spX G 1 fm)
  b : Binds G.K fd ["self"] []
  p : PropOf G.K C x p f
/-- an own error without fields -/
structure Er0 (G : Gx) (mg : Str → Option Value) (x : Str) (c : Nat) : Prop where
  ex : PySem.W.excIn G.K (G.xc c) [Value.type "ValueError", Value.type "Exception", Value.type "BaseException", Value.type "object"] "ValueError.__new__" = true
  kp : PySem.W.keepIn G.K (.ref (G.xc c)) = true
  g : mg x = some (.ref (G.xc c))
  sub : PySem.W.subIn G.K (.ref (G.xc c)) (.type "BaseException") = some true
  ty : PySem.W.typeIn G.K (.ref (G.xc c)) = some (.type "type")
/-- an own error with the field f -/
structure Er1 (P : Program) (w : World) (G : Gx) (mg : Str → Option Value) (base : Heap) (x f : Str) (c : Nat) (fI : Addr) (fd : FuncData) : Prop where
  oex : OexC G.K (G.xc c)
  iC : PySem.W.findIn G.K (.ref (G.xc c)) "__init__" = some (some (.ref fI))
  tI : PySem.W.typeIn G.K (.ref fI) = some (.type "function")
  g : mg x = some (.ref (G.xc c))
  no : PySem.W.findIn G.K (.ref (G.xc c)) f = some none
  ok : FnOk P w G.K mg base CX0 2 fI fd ["self", f] (Mk.spInit G.K (G.xc c) f)
  b : Binds G.K fd ["self", f] []
/-- fd's code object and its table -/
structure OwnX (mg : Str → Option Value) (base : Heap) (fd : FuncData) (c T : Addr) : Prop where
  code : fd.code = .ref c
  tb : GxR.TabB base mg c T
def gC (N : List Str) (sc scope : Scope) (own : List (Str × Nat)) : Bool :=
  blkC N sc scope own && (!scope.isCoroutine && ((scope.names.all fun y => !decide (y.2 = .cell)) && decide (scope.names.lookup (".0" : Str) = some NameKind.local)))
theorem gOk_by {N : List Str} {sc scope : Scope} {own : List (Str × Nat)} (h : gC N sc scope own = true) : Mk.GOk N sc scope own := by
  unfold gC at h
  simp only [Bool.and_eq_true, List.all_eq_true, decide_eq_true_eq, Bool.not_eq_true', decide_eq_false_iff_not] at h
  obtain ⟨h1, h2, h3, h4⟩ := h
  exact ⟨blkOk_by h1, h2, fun y hy => h3 y hy, h4⟩
section
variable {P : Program} {w : World} {K : PySem.W.Frag} {mg : Str → Option Value} {base : Heap} {x qual : Str} {st : Stmt} {f : Addr} {fd : FuncData} {N ps : List Str} {k : Nat} {sp : Sp}
theorem okXC (F : Fun K x qual st f fd) (S : FnScope N ps (defScope st)) (len : ∀ vs H Q E, sp vs H Q E → vs.length = ps.length)
    (hbody : ∀ (A : Around) (outer : List Env) (s : Shared) (H : Hp) (vs : List V) (Q : VK) (E : XK), Room k (A.deeper (envOfC qual (defScope st) s.heap.objs.size f fd.code)) → sp vs H Q E →
      ∃ t, PSs (cxOf (L2.CX P w) P w K mg base N qual (defScope st) f fd.code A outer s H E) (defBody st) t ∧ t { nx := fun _ H' => Q .non H', rt := Q } (L2.start N vs) H) : FnOk P w K mg base (L2.CX P w) (k + 1) f fd ps sp := by
  obtain ⟨oc, od, kV, doc, pm, an, cdv, ct, osl, rfl, lk, hcd⟩ := F.ex
  exact fn_of lk hcd S len fun A outer s H vs Q E hr hsp => hbody A outer s H vs Q E hr hsp
theorem okXD {dvs : List V} {kws : List (Str × V)} (F : FunD K x qual (defArgs st) (defBody st) (defScope st) dvs kws f fd) (S : FnScope N ps (defScope st)) (len : ∀ vs H Q E, sp vs H Q E → vs.length = ps.length)
    (hbody : ∀ (A : Around) (outer : List Env) (s : Shared) (H : Hp) (vs : List V) (Q : VK) (E : XK), Room k (A.deeper (envOfC qual (defScope st) s.heap.objs.size f fd.code)) → sp vs H Q E →
      ∃ t, PSs (cxOf (L2.CX P w) P w K mg base N qual (defScope st) f fd.code A outer s H E) (defBody st) t ∧ t { nx := fun _ H' => Q .non H', rt := Q } (L2.start N vs) H) : FnOk P w K mg base (L2.CX P w) (k + 1) f fd ps sp := by
  obtain ⟨oc, od, dV, kV, doc, pm, an, cdv, ct, osl, rfl, lk, hcd, _, _⟩ := F.ex
  exact fn_of lk hcd S len fun A outer s H vs Q E hr hsp => hbody A outer s H vs Q E hr hsp
end
end Mx

/-! ### MkX9 -/
set_option Elab.async false
set_option linter.all false
set_option maxRecDepth 100000
set_option maxHeartbeats 4000000
namespace Mx
open PySem PySem.Spec PyProof.Rows L2
open GxR (TabG Tabbed)
section
variable {G : Gx} {T : List Addr} {E : XK} {ta tb : TE} {ma mb : EM} {tl : TA} {ml : LM}
theorem ex_ty {n : String} : Ex G E (tC (.ty n)) (mC (.ty n)) := ex_c fun _ _ => by unfold Im; rfl
theorem ok_mul : Ok2 G (rI CMul fun i j => .int (i * j)) fMul := fun ι st H a b x y c Q R ia ib e q => by
  unfold fMul at e
  split at e
  · split at e
    · rename_i h
      cases e
      rw [im_int' ia, im_int' ib]
      exact ⟨_, _, rfl, rfl, .inl h, PE1.at q R im_int⟩
    · cases e
  · cases e
theorem ok_intI : OkL G (fun xs H Q => (∃ i : Int, xs = [.int i] ∧ Q (.int i) H) ∨ ∃ k : Bool, xs = [.bl k] ∧ Q (.int (if k then 1 else 0)) H) fIntI := fun ι st H as xs c Q R im e q => by
  unfold fIntI at e
  split at e
  · cases e
    obtain ⟨v, rfl, i1⟩ := imL_1 im
    exact .inl ⟨_, by rw [im_int' i1], PE1.at q R im_int⟩
  · cases e
    obtain ⟨v, rfl, i1⟩ := imL_1 im
    exact .inr ⟨_, by rw [im_bl' i1], PE1.at q R im_int⟩
  · cases e
/-- isinstance(x, (tuple, list)) -/
def mIsTL (ma : EM) : EM := fun env st => (ma env st).bind fun a => if okIs a.1 a.2 = true then .ok (.bl (Mk.isTup (toD a.1) || Mk.isLst (toD a.1)), a.2) else .fail
theorem kit_tl (K : PySem.W.Frag) (d : Mk.D) : PySem.W.kitAny K (.type (Mk.tyD d)) [.type "tuple", .type "list"] = some (Mk.isTup d || Mk.isLst d) := by
  show (match PySem.W.kitOne K (.type (Mk.tyD d)) (.type "tuple") with | some true => some true | some false => PySem.W.kitAny K (.type (Mk.tyD d)) [.type "list"] | none => none) = _
  rw [kit_ty (Mk.kit_tuple d)]
  cases Mk.isTup d with
  | true => rfl
  | false =>
    show (match PySem.W.kitOne K (.type (Mk.tyD d)) (.type "list") with | some true => some true | some false => some false | none => none) = _
    rw [kit_ty (Mk.kit_list d)]
    cases Mk.isLst d <;> rfl
theorem okIs_key {a : A} {st : Sto} (ho : okIs a st = true) : (∀ n, a ≠ .ty n) ∧ ∀ k, a = .ref k → ∃ l, st[k]? = some (.lst l) := by
  refine ⟨fun m z => (by subst z; cases ho), fun k z => ?_⟩
  subst z
  unfold okIs at ho
  dsimp only at ho
  split at ho
  · rename_i l hl; exact ⟨l, hl⟩
  · cases ho
theorem ex_isTL (M : AmX G T) (ha : Ex G E ta ma) : Ex G E (tCB (rIsiT G.K) (tCons ta (tCons (tTup (tCons (tC (.ty "tuple")) (tCons (tC (.ty "list")) tNil))) tNil))) (mIsTL ma) := fun ι env st σ H Q R Ev h => by
  refine ha.run R Ev h fun ι1 H1 a s1 v f1 R1 Ev1 im h1 => ?_
  dsimp only at h1
  split at h1
  · rename_i ho
    refine ⟨by show 2 ≤ sizeLine; decide, fun p hp => ?_⟩
    have k := okIs_key ho
    have fr : Fr ι1 H1 ι1 (upd H1 p (.tup [.ty "tuple", .ty "list"])) := Fr.new hp
    have R2 := R1.new M (o := .tup [.ty "tuple", .ty "list"]) hp
    exact ⟨v, p, [.ty "tuple", .ty "list"], _, _, _, rfl, upd_same, .cons (.ty _) (.cons (.ty _) .nil), ty_of R2 (R1.im fr im) k.1 k.2, kit_tl _ _, (show PE1 G ι H Q (.bl _, s1) from h1) _ _ _ (f1.trans fr) R2 im_bl⟩
  · exact h1.elim
/-- a % b, a // b -/
def fMod : F2 := fun a b st => match a, b with
  | .int i, .int j => if 0 < j then some (.int (i % j), st) else none
  | _, _ => none
theorem ok_mod : Ok2 G (rI (fun _ j => 0 < j) fun i j => .int (i % j)) fMod := fun ι st H a b x y c Q R ia ib e q => by
  unfold fMod at e
  split at e
  · split at e
    · rename_i h
      cases e
      rw [im_int' ia, im_int' ib]
      exact ⟨_, _, rfl, rfl, h, PE1.at q R im_int⟩
    · cases e
  · cases e
end
end Mx

/-! ### MkXK -/
set_option Elab.async false
set_option linter.all false
set_option maxRecDepth 100000
set_option maxHeartbeats 4000000
/-! rules whose reading names K itself -/
namespace Mx
open PySem PySem.Spec PyProof.Rows L2
section
variable {X : Cx} {K : PySem.W.Frag}
theorem call_lenK (h : X.K = K) : CallR X (.builtin "len") (rLenA K) := h ▸ call_lenA
theorem call_isiK' (h : X.K = K) : CallR X (.builtin "isinstance") (rIsi K) := h ▸ call_isi
theorem call_isiTK (h : X.K = K) : CallR X (.builtin "isinstance") (rIsiT K) := h ▸ call_isiT
theorem call_tupK (h : X.K = K) : CallR X (.type "tuple") (fun xs H Q => ∃ p ys, xs = [.ref p] ∧ ((SqL K H p ys ∧ ∀ l, H l = none → Q (.ref l) (upd H l (.tup ys))) ∨ (SqT K H p ys ∧ Q (.ref p) H))) := h ▸ call_tuple_of
theorem call_listK (h : X.K = K) : CallR X (.type "list") (fun xs H Q => ∃ p ys, xs = [.ref p] ∧ (SqL K H p ys ∨ SqT K H p ys) ∧ ∀ l, H l = none → Q (.ref l) (upd H l (.lst ys))) := h ▸ call_list_of
theorem ix_K (h : X.K = K) : IxR X (rIx K) := h ▸ ix_seq
theorem sl_tupK (h : X.K = K) : L2.SlR X (rSlA K) := h ▸ sl_tupA
theorem sl_lstK (h : X.K = K) : L2.SlR X (rSlL K) := h ▸ sl_list
theorem op_eqK (h : X.K = K) (hu : X.A.units + 64 < cLine) : OpR X (compareOp .Eq) (rEqA K) := h ▸ op_eqA hu
theorem op_neK (h : X.K = K) (hu : X.A.units + 64 < cLine) : OpR X (compareOp .NotEq) (rNeA K) := h ▸ op_neA hu
theorem op_inK (h : X.K = K) (hu : X.A.units + 65 < cLine) : OpR X (compareOp .In) (rInB K) := h ▸ op_inB hu
theorem op_notInK (h : X.K = K) (hu : X.A.units + 65 < cLine) : OpR X (compareOp .NotIn) (rNotInB K) := h ▸ op_notInB hu
theorem op_catK (h : X.K = K) : OpR X (binaryOp .Add) (rCatA K) := h ▸ op_catA
theorem op_repK (h : X.K = K) : OpR X (binaryOp .Mult) (rRepA K) := h ▸ op_repA
theorem mt_joinK (h : X.K = K) : MtR X "str.join" (fun x xs H Q => ∃ a p, ∃ ys : List Str, x = .str a ∧ xs = [.ref p] ∧ (SqL K H p (ys.map V.str) ∨ SqT K H p (ys.map V.str)) ∧
    (ys.map (·.length)).sum + ys.length * a.length ≤ 16777216 ∧ Q (.str (Txt.join a ys)) H) := h ▸ mt_join
theorem pi_tupK (h : X.K = K) {tg l : Expr} {tl : TE} (hl : PE X l tl) : PI X tg l (iTup K tl) := h ▸ pi_tup hl
theorem pi_lstK (h : X.K = K) {tg l : Expr} {tl : TE} (hl : PE X l tl) : PI X tg l (iList K tl) := h ▸ pi_list hl
theorem pi_enLK (h : X.K = K) {e : Expr} {ta : TA} {p pos tpos : Pos} {elts : List Expr} {kk : Nat} (hg : Gl X "enumerate") (hm : X.mg "enumerate" = none) (ha : PA X [e] ta) (hs : starEach [e] X.env = [(false, eval e X.env)] := by rfl) :
    PI X (.Tuple elts kk tpos) (.Call (.Name "enumerate" p) [e] [] pos) (iEnum K ta) := h ▸ pi_enum hg hm ha hs
theorem pi_enTK (h : X.K = K) {e : Expr} {ta : TA} {p pos tpos : Pos} {elts : List Expr} {kk : Nat} (hg : Gl X "enumerate") (hm : X.mg "enumerate" = none) (ha : PA X [e] ta) (hs : starEach [e] X.env = [(false, eval e X.env)] := by rfl) :
    PI X (.Tuple elts kk tpos) (.Call (.Name "enumerate" p) [e] [] pos) (Mk.iEnumT K ta) := h ▸ Mk.pi_enumT hg hm ha hs
theorem pg_tupK (hK : X.K = K) {pos : Pos} {es : List Expr} {k : Nat} {t : TGs} {n : Nat} (hc : X.calm = true) (h : PGs X es t)
    (hn : (assignEach es X.env).length = n := by rfl) (hst : (assignEach es X.env).findIdx? (·.1) = none := by rfl) : PG X (.Tuple es k pos) (gTup K n t) := hK ▸ pg_tup hc h hn hst
theorem pe_fldK (hK : X.K = K) {e : Expr} {f : Str} {ta : TE} {pos : Pos} (he : PE X e ta) (hb : attributeBase e f X.env (eval e X.env) = eval e X.env) : PE X (.Attribute e f pos) (tFld K ta f) := hK ▸ pe_fld he hb
theorem pe_bm0K' (hK : X.K = K) {o : Expr} {name : Str} {T id : String} {r : V → List V → Hp → VK → Prop} {to : TE} {apos cpos : Pos} (pa : PlainAttrs T) (slot : Slot T name id) (hty : typeOf (.builtin id) = pure (.type "method_descriptor")) (hm : MtR X id r) (ho : PE X o to)
    (hbase : attributeBase o name X.env (eval o X.env) = eval o X.env := by rfl) (hline : (apos.endLine == cpos.line) = true := by rfl) : PE X (.Call (.Attribute o name apos) [] [] cpos) (tBM0 K T r to) := hK ▸ pe_bm0 pa slot hty hm ho hbase hline
theorem pe_bmK (hK : X.K = K) {o e : Expr} {es : List Expr} {t : TA} {name : Str} {T id : String} {r : V → List V → Hp → VK → Prop} {to : TE} {apos cpos : Pos} (pa : PlainAttrs T) (slot : Slot T name id) (hty : typeOf (.builtin id) = pure (.type "method_descriptor")) (hm : MtR X id r) (ho : PE X o to) (ha : PA X (e :: es) t)
    (hbase : attributeBase o name X.env (eval o X.env) = eval o X.env := by rfl)
    (hfew : ((backTo cpos (starEach (e :: es) X.env)).all (fun x => !x.1) && (backToKw cpos (keywordEach [] X.env)).all (fun x => x.1.isSome)
      && decide ((e :: es).length + ([] : List Keyword).length + (if ([] : List Keyword).isEmpty then 0 else 1) < 30)) = true := by rfl)
    (hline : (apos.endLine == cpos.line) = true := by rfl) (hs : starEach (e :: es) X.env = (false, eval e X.env) :: starEach es X.env := by rfl) (hplain : (backTo cpos (starEach es X.env)).any (·.1) = false := by rfl) :
    PE X (.Call (.Attribute o name apos) (e :: es) [] cpos) (tBM K T r to t) := hK ▸ pe_bm pa slot hty hm ho ha hbase hfew hline hs hplain
end
end Mx

/-! ### MkXL -/
set_option Elab.async false
set_option linter.all false
set_option maxRecDepth 100000
set_option maxHeartbeats 4000000
namespace Mx
open PySem PySem.Spec PyProof.Rows L2
section
variable {G : Gx} {T : List Addr} {E : XK} {ta tb : TE} {ma mb : EM} {tl : TA} {ml : LM}
/-- list(range(n)) -/
def rgA (n : Int) : List A := (List.range n.toNat).map fun i => A.int (i : Nat)
theorem rg_im {H : Hp} {ι : List Addr} {n : Int} : ImL G.K H ι (rgA n) (rgV 0 n) := by
  unfold rgA rgV
  rw [Int.sub_zero]
  generalize List.range n.toNat = l
  induction l with
  | nil => exact imL_nil
  | cons a l ih =>
    refine imL_cons ?_ ih
    show Im G.K H ι (.int (a : Int)) (.int (0 + (a : Int)))
    rw [Int.zero_add]
    exact im_int
def mListR (ma : EM) : EM := fun env st => (ma env st).bind fun a => match a.1 with
  | .int n => if 0 ≤ n ∧ n ≤ 16777216 then .ok (.ref a.2.length, a.2 ++ [.lst (rgA n)]) else .fail
  | _ => .fail
theorem ex_listR (M : AmX G T) (ha : Ex G E ta ma) : Ex G E (tLstRg (tRg1 ta)) (mListR ma) := fun ι env st σ H Q R Ev h => by
  refine ha.run R Ev h fun ι1 H1 a s1 v f1 R1 Ev1 im h1 => ?_
  dsimp only at h1
  split at h1
  · split at h1
    · rename_i n hn
      exact ⟨n, im_int' im, RgOk.of_le (Int.le_refl 0) hn.2 (by decide) hn.1, fun q hq => PE1.lst M R1 rg_im (PE1.sh f1 h1) hq⟩
    · exact h1.elim
  · exact h1.elim
theorem imL_erase {ι : List Addr} {H : Hp} {ds : List A} {vs : List V} (h : ImL G.K H ι ds vs) : ∀ n, ImL G.K H ι (ds.eraseIdx n) (vs.eraseIdx n) := by
  induction ds generalizing vs with
  | nil => intro n; rw [imL_nil' h]; exact imL_nil
  | cons a ds ih =>
    intro n
    obtain ⟨w, ws, rfl, h2, h3⟩ := imL_cons' h
    cases n with
    | zero => exact h3
    | succ n => exact imL_cons h2 (ih h3 n)
def fPopAt : FB := fun a as st => match a, as with
  | .ref n, [.int i] => match st[n]? with
    | some (.lst l) => if -(2 ^ 63) ≤ i ∧ i < 2 ^ 63 then (seqIndex? i l.length).bind fun k => (l[k]?).map fun y => (y, st.set n (.lst (l.eraseIdx k))) else none
    | _ => none
  | _, _ => none
theorem ok_popAt (M : AmX G T) : OkM G rPopAt fPopAt := fun ι st H a x as xs c Q R ia il e q => by
  unfold fPopAt at e
  split at e
  · rename_i n i
    split at e
    · rename_i l hl
      split at e
      · rename_i hi
        cases hk : seqIndex? i l.length with
        | none => rw [hk] at e; cases e
        | some k =>
          rw [hk] at e
          cases hy : l[k]? with
          | none => replace e : (l[k]?).map _ = some c := e; rw [hy] at e; cases e
          | some y =>
            replace e : (l[k]?).map _ = some c := e
            rw [hy] at e
            cases e
            obtain ⟨w, rfl, iw⟩ := imL_1 il
            obtain ⟨p, xs, rfl, hp, hx, jl⟩ := R.lst hl ia
            obtain ⟨v, hv, iv⟩ := imL_get jl hy
            exact ⟨p, xs, i, k, v, rfl, by rw [im_int' iw], hx, hi.1, hi.2, by rw [jl.length]; exact hk, hv, PE1.mut M R hp (imL_erase jl k) iv q⟩
      · cases e
    · cases e
  · cases e
/-- '..'[i] of what stands written; d * n of lists -/
def fRepL : F2 := fun a b st => match a, b with
  | .ref n, .int k => match st[n]? with
    | some (.lst l) => if (-(2 ^ 63) ≤ k ∧ k < 2 ^ 63) ∧ l.length * k.toNat ≤ sizeLine then some (.ref st.length, st ++ [.lst (List.replicate k.toNat l).flatten]) else none
    | _ => none
  | _, _ => none
theorem ok_repL (M : AmX G T) : Ok2 G rRep fRepL := fun ι st H a b x y c Q R ia ib e q => by
  unfold fRepL at e
  split at e
  · split at e
    · rename_i l hl
      split at e
      · rename_i hz
        cases e
        obtain ⟨p, xs, rfl, _, hx, il⟩ := R.lst hl ia
        exact ⟨p, _, xs, rfl, im_int' ib, hx, hz.1.1, hz.1.2, by rw [il.length]; exact hz.2, fun r hr => PE1.lst M R (imL_rep il _) q hr⟩
      · cases e
    · cases e
  · cases e
end
end Mx

/-! ### MkLam -/
set_option Elab.async false
set_option linter.all false
set_option maxRecDepth 100000
set_option maxHeartbeats 4000000
namespace Mk
open PySem PySem.Spec PyProof.Rows L2
open GxR (TabG Tabbed)
open LamX (CodeO TabS codeO_ne among_app inv_table TabB)
/-- the function object of a lambda, its defaults at dV -/
abbrev lamFn (qual : Str) (params : Arguments) (body : Expr) (scope : Scope) (cl : List (Str × Addr)) (pm cdv ct dV : Value) : FuncData :=
  { PySem.W.kla_fn "<lambda>" qual params body scope cl pm cdv ct with defaults := dV }
abbrev lamObj (qual : Str) (params : Arguments) (body : Expr) (scope : Scope) (cl : List (Str × Addr)) (pm : Value) (c' : Addr) (ct dV : Value) : Obj :=
  { cls := .type "function", data := .func (lamFn qual params body scope cl pm (.ref c') ct dV) }
/-- how the heap has grown once the code object at c' is at hand -/
def Got (P : Addr) (ps : Array Value) (pos : Pos) (qual : Str) (h h' : Heap) (c' : Addr) : Prop :=
  (codeAmong pos ps.toList = none ∧ Heap.ExtBut P h h' ∧ h.objs.size ≤ c' ∧ c' < h'.objs.size ∧ h'.CodeRec (.ref c') qual ∧ h'.get? P = some { cls := .none, data := .fields (ps ++ #[rawInt pos.line, rawInt pos.col, .ref c']) }) ∨
  (codeAmong pos ps.toList = some (.ref c') ∧ (∀ b o, h.get? b = some o → h'.get? b = some o) ∧ h.objs.size ≤ h'.objs.size)
section
variable {M : Model} {A : Around} {E : Value → Shared → Prop} {s : Shared} {qual : Str} {params : Arguments} {body : Expr} {scope : Scope} {env : Env} {c P : Addr} {ps : Array Value} {pos : Pos} {firstLine : Nat} {mg : Str → Option Value} {clos : List (Str × Addr)} {Q : Value → Shared → Prop}
theorem mk_tail {dV : Value} (hcl : closureFor scope env = pure clos) (hne : clos.isEmpty = false) (hge : env.globals = mainGlobals) (hg : s.heap.Ns mainGlobals mg) (hcode : env.code = .ref c) (C : PySem.W.CodeHd s.heap c P) (hP : s.heap.get? P = some { cls := .none, data := .fields ps })
    (ht : TriplesOk ps.toList) (hall : ∀ cv, codeAmong pos ps.toList = some cv → ∃ c', cv = .ref c') (hgP : mainGlobals ≠ P) (hb : s.heap.BuiltinsAt mg P)
    (h : ∀ (c' : Addr) (ct : Value) (h' : Heap) (tk : Tok), Got P ps pos qual s.heap h' c' → Q (.ref h'.objs.size) { s with heap := h'.push (lamObj qual params body scope clos ((mg "__name__").getD .none) c' ct dV), toks := tk }) :
    wpAny M A (makeTail "<lambda>" qual params (.expr body) scope env dV .none none pos firstLine) Q E s := by
  obtain ⟨bm, ob, b1, b2, _, b3, b4, b5, b6, b7⟩ := hb
  unfold makeTail
  rw [hcl, hge]
  refine wpAny_bind (wpAny_pure ?_)
  rw [hne]
  simp only [Bool.false_eq_true, if_false]
  refine wpAny_bind (wpAny_newTextTuple ?_)
  have kp : ∀ (oT : Obj) (b : Addr) (o : Obj), s.heap.get? b = some o → (s.heap.push oT).get? b = some o := fun _ _ _ e => Heap.get?_push_of_some _ e
  have sz1 : ∀ oT : Obj, s.heap.objs.size ≤ (s.heap.push oT).objs.size := fun oT => by rw [Heap.size_push]; exact Nat.le_succ _
  have C2 := fun oT => C.keeps (kp oT)
  cases hc : codeAmong pos ps.toList with
  | none =>
    refine wpAny_bind (wpAny_functionCodeX hcode ((C2 _).code (kp _ _ _ hP) ht) ((C2 _).tab (kp _ _ _ hP)) hc fun c' h' tk hx h1 h2 _ h3 h4 _ => ?_)
    refine wpAny_bind (wpAny_builtinsFor ((hg.push _).extBut hx hgP) b1 b2 (hx _ _ b3 (kp _ _ _ b4)) b5 b6 b7 (wpAny_bind (wpAny_nsGet ((hg.push _).extBut hx hgP) (wpAny_bind (wpAny_pure (wpAny_newObj_type (h c' _ h' tk (.inl ⟨hc, fun b o n e => hx b o n (kp _ _ _ e), Nat.le_trans (sz1 _) h1, h2, h3, h4.2⟩)) (by size_fits)))))))
  | some cv =>
    obtain ⟨c', rfl⟩ := hall cv hc
    refine wpAny_bind (wpAny_functionCode_hit hcode ((C2 _).code (kp _ _ _ hP) ht) hc ?_)
    exact wpAny_bind (wpAny_builtinsFor (hg.push _) b1 b2 (kp _ _ _ b4) b5 b6 b7 (wpAny_bind (wpAny_nsGet (hg.push _) (wpAny_bind (wpAny_pure (wpAny_newObj_type (h c' _ _ s.toks (.inr ⟨hc, kp _, sz1 _⟩)) (by size_fits)))))))
end
/-- the defaults of a lambda at dV -/
def Dfl (X : Cx) (dvs : List Value) (dV : Value) (s : Shared) (H : Hp) : Prop := (dvs = [] ∧ dV = .none) ∨ ∃ t, dV = .ref t ∧ s.heap.get? t = some { cls := .type "tuple", data := .seq dvs.toArray } ∧ H t = none ∧ t ∉ frs X.stack
/-- all but P stays -/
def GrowT (P : Addr) (H H1 : Hp) : Prop := ∀ b o, b ≠ P → H b = some o → H1 b = some o
section
variable {X : Cx} {pins : List (Addr × Obj)} {σ : L2.St} {H : Hp} {s : Shared}
theorem nofr_of (I : Inv X pins σ H s) {f : Addr} (hf : s.heap.objs.size ≤ f) : f ∉ frs X.stack := fun z => by
  rcases List.mem_cons.mp (I.stkSub _ z) with e | e
  · have h1 := I.lt
    rw [← e] at h1
    exact absurd hf (Nat.not_le.mpr h1)
  · exact I.nofs hf e
theorem mk_core {c P : Addr} {q : Str} {params : Arguments} {body : Expr} {scope : Scope} {pos : Pos} {E : Value → Shared → Prop} {Q : Value → Shared → Prop} {dV : Value} (I : Inv X pins σ H s) (TB : TabB X.base X.mg c P) (hcode : X.env.code = .ref c) (hT : TabS H P q)
    (hfree : ∀ y ∈ scope.names, y.2 = .free → ∃ c, X.env.cells.lookup y.1 = some c) (hne : (cloFrom X.env.cells scope.names []).isEmpty = false)
    (h : ∀ (f c' : Addr) (pm ct : Value) (H1 : Hp) (s' : Shared), Inv X pins σ H1 s' → GrowT P H H1 → TabS H1 P q → (∀ b o, b ≠ P → s.heap.get? b = some o → s'.heap.get? b = some o) → (∀ b, b < s.heap.objs.size → H b = none → H1 b = none) →
      s'.heap.get? f = some (lamObj q params body scope (cloFrom X.env.cells scope.names []) pm c' ct dV) → H1 f = none → f ∉ frs X.stack → H1 c' = some (CodeO c' q) → Q (.ref f) s') :
    wpAny (model X.prog X.w) X.A (makeTail "<lambda>" q params (.expr body) scope X.env dV .none none pos pos.line) Q E s := by
  obtain ⟨ps, hP, ht, ha⟩ := hT
  have hP' : s.heap.get? P = some { cls := .none, data := .fields ps } := I.hok P _ hP
  refine mk_tail (mg := X.mg) (c := c) (P := P) (ps := ps) (closure_ok hfree) hne I.ok.glob (I.mod.glob.keeps I.bk) hcode (TB.code.keeps I.bk) hP' ht (fun cv hc => let ⟨c', e, _⟩ := ha pos cv hc; ⟨c', e⟩) TB.gP (TB.bm.keeps I.bk) fun c' ct h' tk got => ?_
  rcases got with ⟨hc, hx, h1, h2, ⟨c2, oc, vs, t, e2, hoc, hd, hv⟩, htb⟩ | ⟨hc, hx, hsz⟩
  · cases e2
    have nC : H c' = none := I.hok.fresh h1
    have hsz : s.heap.objs.size ≤ h'.objs.size := Nat.le_trans h1 (Nat.le_of_lt h2)
    have hPl := Heap.lt_size hP'
    have I1 := inv_table (t' := tk) (more := #[rawInt pos.line, rawInt pos.col, .ref c']) (h' := h'.push (lamObj q params body scope (cloFrom X.env.cells scope.names []) ((X.mg "__name__").getD .none) c' ct dV)) I hP
      (fun b o hb e => Heap.get?_push_of_some _ (hx b o hb e)) (Heap.get?_push_of_some _ htb) h1 ⟨oc, vs, t, Heap.get?_push_of_some _ hoc, hd, hv⟩
    have gr : GrowT P H (upd (upd H P (.tbl (ps ++ #[rawInt pos.line, rawInt pos.col, .ref c']))) c' (CodeO c' q)) := fun b o n e => by
      rw [upd_ne (ne_of_none e nC), upd_ne n]
      exact e
    have eL : (ps ++ #[rawInt pos.line, rawInt pos.col, .ref c']).toList = ps.toList ++ [rawInt pos.line, rawInt pos.col, .ref c'] := by simp
    refine h h'.objs.size c' _ ct _ _ I1 gr ⟨_, by rw [upd_ne (ne_of_none hP nC), upd_same], by rw [eL]; exact PySem.TriplesOk_snoc _ _ _ _ ht, fun p' cv hcv => ?_⟩ (fun b o n e => Heap.get?_push_of_some _ (hx b o n e)) (fun b hb n => ?_) (Heap.get?_push_size _ rfl) ?_ (nofr_of I hsz) upd_same
    · rw [eL] at hcv
      rcases among_app _ ht hcv with z | z
      · obtain ⟨c0, e1, e2⟩ := ha p' cv z
        exact ⟨c0, e1, gr _ _ (fun w => codeO_ne ps (by rw [w, hP] at e2; exact (Option.some.inj e2).symm)) e2⟩
      · exact ⟨c', z, upd_same⟩
    · rw [upd_ne (Nat.ne_of_lt (Nat.lt_of_lt_of_le hb h1)), upd_ne (fun z => by rw [z, hP] at n; cases n)]
      exact n
    · rw [upd_ne (Nat.ne_of_gt h2), upd_ne (Nat.ne_of_gt (Nat.lt_of_lt_of_le hPl hsz))]
      exact I.hok.fresh hsz
  · obtain ⟨c0, e, hco⟩ := ha pos _ hc
    cases e
    have I1 : Inv X pins σ H { s with heap := h'.push (lamObj q params body scope (cloFrom X.env.cells scope.names []) ((X.mg "__name__").getD .none) c' ct dV), toks := tk } := I.kept fun b o e => Heap.get?_push_of_some _ (hx b o e)
    exact h h'.objs.size c' _ ct H _ I1 (fun b o _ e => e) ⟨ps, hP, ht, ha⟩ (fun b o _ e => Heap.get?_push_of_some _ (hx b o e)) (fun b _ n => n) (Heap.get?_push_size _ rfl) (I.hok.fresh hsz) (nofr_of I hsz) hco
theorem mk_fn {c P : Addr} {q : Str} {params : Arguments} {body : Expr} {scope : Scope} {pos : Pos} {E : Value → Shared → Prop} {Q : Value → Shared → Prop} {dvs : List Value} (I : Inv X pins σ H s) (TB : TabB X.base X.mg c P) (hcode : X.env.code = .ref c) (hT : TabS H P q)
    (hfree : ∀ y ∈ scope.names, y.2 = .free → ∃ c, X.env.cells.lookup y.1 = some c) (hne : (cloFrom X.env.cells scope.names []).isEmpty = false)
    (h : ∀ (f c' : Addr) (pm ct dV : Value) (H1 : Hp) (s' : Shared), Inv X pins σ H1 s' → GrowT P H H1 → TabS H1 P q → Dfl X dvs dV s' H1 →
      s'.heap.get? f = some (lamObj q params body scope (cloFrom X.env.cells scope.names []) pm c' ct dV) → H1 f = none → f ∉ frs X.stack → H1 c' = some (CodeO c' q) → Q (.ref f) s') :
    wpAny (model X.prog X.w) X.A (makeFunction "<lambda>" q params (.expr body) scope X.env dvs [] [] pos pos.line) Q E s := by
  rw [makeFunction_eq]
  simp only [List.zip_nil_right, List.filterMap_nil, List.isEmpty_nil, if_true, pure_bind]
  cases dvs with
  | nil =>
    simp only [List.isEmpty_nil, if_true, pure_bind]
    exact mk_core I TB hcode hT hfree hne fun f c' pm ct H1 s' J g t _ _ e1 e2 e3 e4 => h f c' pm ct .none H1 s' J g t (.inl ⟨rfl, rfl⟩) e1 e2 e3 e4
  | cons v r =>
    simp only [List.isEmpty_cons, Bool.false_eq_true, if_false]
    refine wpAny_bind (wpAny_newTextTuple ?_)
    have I1 : Inv X pins σ H { s with heap := s.heap.push { cls := .type "tuple", data := .seq (v :: r).toArray } } := I.kept (t' := s.toks) fun b o e => Heap.get?_push_of_some _ e
    have hP := hT
    obtain ⟨ps, hP, _, _⟩ := hP
    have hPl := Heap.lt_size (I.hok P _ hP : s.heap.get? P = some { cls := .none, data := .fields ps })
    refine mk_core I1 TB hcode hT hfree hne fun f c' pm ct H1 s' J g t kp kn e1 e2 e3 e4 => h f c' pm ct _ H1 s' J g t (.inr ⟨_, rfl, kp _ _ (Nat.ne_of_gt hPl) (Heap.get?_push_size _ rfl), ?_, nofr_of I (Nat.le_refl _)⟩) e1 e2 e3 e4
    exact kn _ (by rw [Heap.size_push]; exact Nat.lt_succ_self _) (I.hok.fresh (Nat.le_refl _))
end
end Mk

/-! ### MkLam2 -/
set_option Elab.async false
set_option linter.all false
set_option maxRecDepth 100000
set_option maxHeartbeats 4000000
namespace Mk
open PySem PySem.Spec PyProof.Rows L2
open GxR (TabG Tabbed)
open LamX (CodeO TabS codeO_ne TabB lamEnv lamCx)
abbrev pars0 : Arguments := { posonlyargs := [], args := [], vararg := none, kwonlyargs := [], kw_defaults := [], kwarg := none, defaults := [] }
abbrev pars1 (a : Str) (p : Pos) (d : Expr) : Arguments := { posonlyargs := [], args := [{ arg := a, annotation := none, pos := p }], vararg := none, kwonlyargs := [], kw_defaults := [], kwarg := none, defaults := [d] }
section
variable {M : Model} {A : Around} {E : Value → Shared → Prop} {s : Shared}
theorem bind_0 {q : Str} {body : Expr} {scope : Scope} {cl : List (Str × Addr)} {pm cdv ct dV : Value} {Q : List (Str × Value) → Shared → Prop} (hd : dV = .none) (h : Q [] s) : wpAny M A (bindArgs (lamFn q pars0 body scope cl pm cdv ct dV) ⟨[], []⟩) Q E s := by
  subst hd
  exact wpAny_pure h
theorem bind_1 {q a : Str} {p : Pos} {d body : Expr} {scope : Scope} {cl : List (Str × Addr)} {pm cdv ct dV v : Value} {t : Addr} {Q : List (Str × Value) → Shared → Prop} (hd : dV = .ref t) (ho : s.heap.get? t = some { cls := .type "tuple", data := .seq #[v] }) (h : Q [(a, v)] s) :
    wpAny M A (bindArgs (lamFn q (pars1 a p d) body scope cl pm cdv ct dV) ⟨[], []⟩) Q E s := by
  subst hd
  unfold bindArgs
  refine wpAny_bind (wpAny_pure ?_)
  refine wpAny_bind (wpAny_seqItems ho rfl ?_)
  have e : ((Array.toList (#[v] : Array Value)).drop ((Array.toList (#[v] : Array Value)).length - 1)) = [v] := rfl
  have ok : ∀ {l : List (Str × Value)}, l = [(a, v)] → Q l s := fun z => z ▸ h
  refine wpAny_pure (ok ?_)
  simp [List.lookup]
end
/-- a lambda's names: its parameters pn, which are no names of the maker, captured ones and globals -/
structure LamP (N pn : List Str) (sc scope : Scope) : Prop where
  kind : scope.kind = .function
  co : scope.isCoroutine = false
  gen : scope.isGenerator = false
  cell : ∀ y ∈ scope.names, y.2 ≠ .cell
  loc : ∀ y ∈ scope.names, y.2 = .local → y.1 ∉ N
  free : ∀ y ∈ scope.names, y.2 = .free → sc.names.lookup y.1 = some .cell ∨ sc.names.lookup y.1 = some .free
  par : ∀ a ∈ pn, scope.names.lookup a = some .local
def lamPB (N pn : List Str) (sc scope : Scope) : Bool :=
  decide (scope.kind = .function) && (!scope.isCoroutine && (!scope.isGenerator && ((scope.names.all fun y => !decide (y.2 = .cell) && ((!decide (y.2 = .local) || decide (y.1 ∉ N)) && (!decide (y.2 = .free) || (decide (sc.names.lookup y.1 = some .cell) || decide (sc.names.lookup y.1 = some .free))))) && pn.all fun a => decide (scope.names.lookup a = some .local))))
theorem lamP_by {N pn : List Str} {sc scope : Scope} (h : lamPB N pn sc scope = true) : LamP N pn sc scope := by
  unfold lamPB at h
  simp only [Bool.and_eq_true, Bool.or_eq_true, Bool.not_eq_true', decide_eq_true_eq, decide_eq_false_iff_not, List.all_eq_true] at h
  obtain ⟨h1, h2, h3, h4, h5⟩ := h
  exact ⟨h1, h2, h3, fun y hy => (h4 y hy).1, fun y hy e => ((h4 y hy).2.1).resolve_left fun z => z e, fun y hy e => ((h4 y hy).2.2).resolve_left fun z => z e, h5⟩
theorem LamP.has {X : Cx} {pn : List Str} {scope : Scope} (L : LamP X.N pn X.env.scope scope) (ok : X.Ok) : ∀ y ∈ scope.names, y.2 = .free → ∃ c, X.env.cells.lookup y.1 = some c := fun y hy e => (L.free y hy e).elim (fun k => ok.has _ (.inl k)) (fun k => ok.has _ (.inr k))
section
variable {X : Cx} {pins : List (Addr × Obj)} {σ : L2.St} {H HZ : Hp} {s s1 : Shared}
theorem mk_start {A : Around} {outer : List Env} {E : XK} {scope : Scope} {pn : List Str} {binds : List (Str × Value)} {f c' : Addr} {h₁ : Heap} {tk : Nat} (I : Inv X pins σ H s) (L : LamP X.N pn X.env.scope scope) (e0 : Env0 X.prog X.w X.K X.mg X.base A outer s1 HZ) (hd : A.handled = none)
    (un : Un (frs X.stack) [] H HZ s.heap s1.heap) (hns : h₁.Ns s1.heap.objs.size fun y => binds.reverse.lookup y) (kp : ∀ b o, s1.heap.get? b = some o → h₁.get? b = some o) :
    Inv (lamCx X A outer s1 HZ E scope f c') [] σ HZ { s1 with heap := h₁, toks := tk } := by
  have hfree := L.has I.ok
  -- a captured cell is the maker's own
  have cm : ∀ {y c}, (cloFrom X.env.cells scope.names []).lookup y = some c → X.env.cells.lookup y = some c := fun {y c} e => by
    rcases cloFrom_mem (PySem.mem_of_lookup e) with hm | ⟨h1, h2⟩
    · cases hm
    · obtain ⟨c1, hc⟩ := hfree _ h1 rfl
      have hc : X.env.cells.lookup y = some c1 := hc
      have e2 : c = c1 := by rw [h2, hc] <;> rfl
      rw [e2]; exact hc
  have look : ∀ {y}, scope.names.lookup y = some .free → ∃ c, (cloFrom X.env.cells scope.names []).lookup y = some c := fun {y} hl => mem_lookup (cloFrom_has (cells := X.env.cells) (acc := []) (PySem.mem_of_lookup hl : (y, NameKind.free) ∈ scope.names))
  have cellK : ∀ {c : Addr} {v : Option Value}, H c = none → s.heap.IsCell c v → h₁.IsCell c v := fun {c v} n ⟨o, ho, hd⟩ => by
    obtain ⟨sl, q⟩ := un.any ho n (by simp)
    exact ⟨_, kp _ _ q, hd⟩
  have noA : ∀ b : Addr, b ∉ (lamCx X A outer s1 HZ E scope f c').ex := fun b z => absurd (show b ∈ ([] : List Addr) from z) (by simp)
  refine ⟨⟨e0.mod, L.kind, rfl, rfl, Nat.le_refl _, fun y z c e1 e2 => I.ok.inj y z c (cm e1) (cm e2), fun y hy => ?_, fun y c z _ => Bool.noConfusion (show false = true from z), fun _ => hd, Around.frames_deeper e0.frames, .inr ⟨rfl, rfl⟩, fun b z => absurd z (noA b), e0.bs, e0.bsz, fun b _ _ => noA b,
      fun b z => absurd z (noA b), e0.funs, e0.frf⟩,
    rfl, e0.bare, Un.kept kp, ⟨_, hns, fun i y v e1 e2 e3 => ?_⟩, fun y c e => ?_, e0.hok.fresh (Nat.le_refl _), fun y c e => ?_, fun q hq => absurd (show q ∈ ([] : List (Addr × Obj)) ++ [] from hq) (by simp), e0.hok.kept kp, I.len⟩
  · rcases (show scope.names.lookup y = some .cell ∨ scope.names.lookup y = some .free from hy) with hy | hy
    · exact absurd rfl (L.cell _ (PySem.mem_of_lookup hy))
    · exact look hy
  · rcases (show Vis scope y from e3) with k | k | k
    · exact absurd (List.mem_of_getElem? e1) (L.loc _ (PySem.mem_of_lookup k) rfl)
    · exact absurd rfl (L.cell _ (PySem.mem_of_lookup k))
    · obtain ⟨m, hn, hl⟩ := I.loc
      have fr := L.free _ (PySem.mem_of_lookup k) rfl
      obtain ⟨w', r, q⟩ := hl i y v e1 e2 (fr.elim (fun k => .inr (.inl k)) (fun k => .inr (.inr k)))
      obtain ⟨c2, h2⟩ := look k
      refine ⟨w', r, .inr ⟨.inr k, c2, h2, ?_⟩⟩
      have c1 := cm h2
      rcases q with ⟨k', _⟩ | ⟨_, c3, e', z⟩
      · have k' : X.env.scope.names.lookup y = some .local := k'
        rcases fr with k2 | k2 <;> rw [show X.env.scope.names.lookup y = _ from k2] at k' <;> cases k'
      · rw [c1] at e'
        cases e'
        exact cellK (I.freeC y _ c1) z
  · obtain ⟨w', z⟩ := I.cell y c (cm e)
    exact ⟨w', cellK (I.freeC y c (cm e)) z⟩
  · obtain ⟨v, o, ho, hd⟩ := I.cell y c (cm e)
    exact un.free c o ho (I.freeC y c (cm e)) (by simp)
end
end Mk

/-! ### MkLam3 -/
set_option Elab.async false
set_option linter.all false
set_option maxRecDepth 100000
set_option maxHeartbeats 4000000
namespace Mk
open PySem PySem.Spec PyProof.Rows L2
open GxR (TabG Tabbed)
open LamX (CodeO TabS codeO_ne TabB lamEnv lamCx GivesTo run_ofS)
/-- the defaults as they stand now -/
def DflAt (dvs : List Value) (dV : Value) (s : Shared) : Prop := (dvs = [] ∧ dV = .none) ∨ ∃ t, dV = .ref t ∧ s.heap.get? t = some { cls := .type "tuple", data := .seq dvs.toArray }
/-- no arguments given: the parameters become binds -/
def BindL (params : Arguments) (dvs : List Value) (binds : List (Str × Value)) : Prop :=
  ∀ (M : Model) (A : Around) (E : Value → Shared → Prop) (s : Shared) (Q : List (Str × Value) → Shared → Prop) (q : Str) (body : Expr) (scope : Scope) (cl : List (Str × Addr)) (pm cv ct dV : Value), DflAt dvs dV s → Q binds s → wpAny M A (bindArgs (lamFn q params body scope cl pm cv ct dV) ⟨[], []⟩) Q E s
theorem bindL_0 : BindL pars0 [] [] := fun M A E s Q q body scope cl pm cv ct dV h hq => by
  rcases h with ⟨_, e⟩ | ⟨t, e, ho⟩
  · exact bind_0 e hq
  · subst e
    unfold bindArgs
    refine wpAny_bind (wpAny_pure ?_)
    exact wpAny_bind (wpAny_seqItems ho rfl (wpAny_pure hq))
theorem bindL_1 {a : Str} {p : Pos} {d : Expr} {v : Value} : BindL (pars1 a p d) [v] [(a, v)] := fun M A E s Q q body scope cl pm cv ct dV h hq => by
  rcases h with ⟨e, _⟩ | ⟨t, e, ho⟩
  · cases e
  · exact bind_1 e ho hq
section
variable {X : Cx} {pins : List (Addr × Obj)} {σ : L2.St} {H HZ : Hp} {s s1 : Shared}
theorem mk_act {CXg : CXT} {Eg : XK} {Ng : List Str} {qg : Str} {sg : Scope} {g f c' : Addr} {cdg pm ct dV : Value} {params : Arguments} {body : Expr} {scope : Scope} {k i : Nat} {a : Str} {pn : List (Addr × Obj)} {xe : Value → Shared → Prop} {W : WX} {tb : XK → TE} {p1 p2 : Pos} {ps : List Str} {dvs : List Value} {binds : List (Str × Value)}
    (I : Inv X pins σ H s) (L : LamP X.N ps X.env.scope scope) (hf : s.heap.get? f = some (lamObj (X.env.qual ++ "<lambda>") params body scope (cloFrom X.env.cells scope.names []) pm c' ct dV)) (hfn : H f = none) (hfr : f ∉ frs X.stack) (hdf : Dfl X dvs dV s H)
    (hb : BindL params dvs binds) (hbn : ∀ y ∈ binds, y.1 ∈ ps)
    (tk : Takes ((cxOf CXg X.prog X.w X.K X.mg X.base Ng qg sg g cdg X.A X.stack s H Eg).tr pn xe) W) (hr : Room (k + 1) (X.A.deeper (envOfC qg sg s.heap.objs.size g cdg)))
    (hbody : ∀ (A : Around) (outer : List Env) (s : Shared) (H : Hp) (E : XK), Room k (A.deeper (lamEnv X scope s.heap.objs.size f c')) → PE (lamCx X A outer s H E scope f c') body (tb E))
    (hN : Ng[i]? = some a) (hv : Vis sg a) (hd : (a == ("__debug__" : Str)) = false := by decide) (hcd : (a == ("__classdict__" : Str)) = false := by decide) :
    PE ((cxOf CXg X.prog X.w X.K X.mg X.base Ng qg sg g cdg X.A X.stack s H Eg).tr pn xe) (.Call (.Name a p1) [] [] p2)
      (fun σZ HZ Q => σZ[i]? = some (some (.ref f)) ∧ HZ c' = some (CodeO c' (X.env.qual ++ "<lambda>")) ∧ ∃ E : XK, (∀ cls d H', E cls d H' → W cls d σZ H') ∧ tb E σ HZ Q) := by
  refine ⟨fun pinsZ sZ σZ HZ Q IZ ⟨hs, hc, E, hW, ht⟩ => ?_⟩
  refine wpAny_Call_Name_kw (thn ((pe_var (pos := p1) (i := i) hN hv hd hcd).run pinsZ sZ σZ HZ (fun v H1 => v = .ref f ∧ H1 = HZ) IZ ⟨.ref f, hs, rfl, rfl⟩) fun u s1 ⟨v, H1, I1, r1, q1⟩ => ?_)
  obtain ⟨rfl, rfl⟩ := q1
  obtain rfl : u = Value.ref f := r1
  have no : ∀ b : Addr, b ∉ ([] : List Addr) := fun b z => nomatch z
  have of1 : s1.heap.get? f = some (lamObj (X.env.qual ++ "<lambda>") params body scope (cloFrom X.env.cells scope.names []) pm c' ct dV) := I1.base.keep f _ hf hfn hfr (no f)
  have df1 : DflAt dvs dV s1 := by
    rcases hdf with ⟨e1, e2⟩ | ⟨t, e1, e2, e3, e4⟩
    · exact .inl ⟨e1, e2⟩
    · exact .inr ⟨t, e1, I1.base.keep t _ e2 e3 e4 (no t)⟩
  refine PySem.W.callWith_F0 ⟨_, _, _, _, of1⟩ ?_
  have un : Un (frs X.stack) [] H H1 s.heap s1.heap := I1.base
  obtain ⟨⟨oc, vs, t, hoc, hdc, hvc⟩, _, _⟩ := I1.hok c' _ hc
  have rc : codeAny (model X.prog X.w) (X.A.deeper (envOfC qg sg s.heap.objs.size g cdg)) (.call (.ref f) ⟨[], []⟩) (CR (L2.CX X.prog X.w) (envOfC qg sg s.heap.objs.size g cdg :: X.stack) X.prog X.w H1 s1 Q E) s1 := by
    refine PySem.W.kla_callFunE hr.depth of1 rfl L.co L.gen rfl ⟨c', oc, vs, t, rfl, hoc, hdc, hvc⟩ ?_
    refine hb _ _ _ _ _ _ _ _ _ _ _ _ _ df1 ?_
    refine wpAny_newFunctionEnv L.cell (fun y hy => L.par _ (hbn y hy)) (fun h₁ hns hsb => ⟨I1.nolimit.fresh _ hsb, ?_⟩) L.kind
    show codeAny _ _ (.expr body (lamEnv X scope s1.heap.objs.size f c')) _ _
    have kp : ∀ b o, s1.heap.get? b = some o → h₁.get? b = some o := fun b o e => hsb.extBut b o (Nat.ne_of_lt (Heap.lt_size e)) (Heap.get?_push_of_some _ e)
    have J := mk_start (E := E) (f := f) (c' := c') (tk := s1.toks + binds.length) I L I1.env0 hr.hd un hns kp
    exact PySem.W.kla_codeExpr (wpAny_mono ((hbody _ _ s1 H1 _ (hr.deeper _)).run [] _ _ H1 Q J ht) (fun v s' ⟨w', H', J', rv, q⟩ => ⟨w', H', J'.os, J'.bare, J'.base, J'.hok, rv, q⟩) fun e s' hq => hq)
  refine wpAny_call (codeAny_mono rc fun r s' hq => ?_)
  cases r with
  | error e => exact tk e s' (XE.of_call I1 (W := W) hW hq)
  | ok fl =>
    cases fl with
    | ret u => exact I1.after hq
    | next => exact False.elim hq
    | brk => exact False.elim hq
    | cont => exact False.elim hq
/-- the def that calls what it got: a calls it; TT: what it makes of the lambda's reading -/
def GivesA (X : Cx) (Ng : List Str) (x : Str) (sg : Scope) (g : Addr) (cdg : Value) (bg : List Stmt) (a : Str) (q : Str) (TT : (XK → Hp → VK → Prop) → Hp → VK → Prop) : Prop :=
  ∀ (f c' : Addr) (s : Shared) (H : Hp) (Q : VK) (tl : XK → Hp → VK → Prop),
    (∀ (W : WX) (pn : List (Addr × Obj)) (xe : Value → Shared → Prop) (p1 p2 : Pos), Takes ((cxOf C8.CX0 X.prog X.w X.K X.mg X.base Ng x sg g cdg X.A X.stack s H C8.E0).tr pn xe) W →
      PE ((cxOf C8.CX0 X.prog X.w X.K X.mg X.base Ng x sg g cdg X.A X.stack s H C8.E0).tr pn xe) (.Call (.Name a p1) [] [] p2) (fun σZ HZ Q => σZ[0]? = some (some (.ref f)) ∧ HZ c' = some (CodeO c' q) ∧ ∃ E : XK, (∀ cls d H', E cls d H' → W cls d σZ H') ∧ tl E HZ Q)) →
    H c' = some (CodeO c' q) → TT tl H Q →
    ∃ t, PSs (cxOf C8.CX0 X.prog X.w X.K X.mg X.base Ng x sg g cdg X.A X.stack s H C8.E0).nox bg t ∧ t { nx := fun _ H' => Q .non H', rt := Q } (L2.start Ng [.ref f]) H
/-- what the maker of a lambda hands over -/
def tLamA (P : Addr) (q : Str) (TT : (XK → Hp → VK → Prop) → Hp → VK → Prop) (t : XK → TE) : TE := fun σ H Q => TabS H P q ∧ ∀ H1, GrowT P H H1 → TabS H1 P q → TT (fun E H' Q' => t E σ H' Q') H1 Q
end
section
variable {X : Cx}
/-- x(lambda ..: body) -/
theorem mk_lamcall {TT : (XK → Hp → VK → Prop) → Hp → VK → Prop} {x a : Str} {g c P : Addr} {k : Nat} {pg : Arguments} {bg : List Stmt} {sg : Scope} {dV kV doc pm cdv ct oc : Value} {an od : Option Addr} {osl : Array (Option Value)} {Ng : List Str}
    {params : Arguments} {body : Expr} {scope : Scope} {t : XK → TE} {p lpos pos : Pos} {ps : List Str} {ds : Nat → List Value} {bs : Nat → List (Str × Value)} (hg : Gl X x) (hm : X.mg x = some (.ref g)) (hk : PySem.W.keepIn X.K (.ref g) = true)
    (lk : X.K.lookup g = some ⟨oc, od, .func (PySem.W.fnOf x x pg bg sg dV kV doc pm an cdv ct), osl⟩) (hcg : PySem.W.codeIn X.K cdv x = true) (hb : L2.Binds X.K (PySem.W.fnOf x x pg bg sg dV kV doc pm an cdv ct) [a] []) (Sg : FnScope Ng [a] sg) (hNg : Ng[0]? = some a) (hva : Vis sg a)
    (hG : GivesA X Ng x sg g cdv bg a (X.env.qual ++ "<lambda>") TT)
    (TB : TabB X.base X.mg c P) (hcode : X.env.code = .ref c) (hr : Room (k + 2) X.A) (L : LamP X.N ps X.env.scope scope) (hne : (cloFrom X.env.cells scope.names []).isEmpty = false)
    (hev : ∀ (pins : List (Addr × Obj)) (s : Shared) (σ : L2.St) (H : Hp) (Q : Value → Shared → Prop), Inv X pins σ H s → (∀ (n : Nat) s', Inv X pins σ H s' → wpAny (model X.prog X.w) X.A (makeFunction "<lambda>" (X.env.qual ++ "<lambda>") params (.expr body) scope X.env (ds n) [] [] lpos lpos.line) Q X.xe s') → wpAny (model X.prog X.w) X.A (eval (.Lambda params body scope lpos) X.env) Q X.xe s)
    (hbl : ∀ n, BindL params (ds n) (bs n)) (hbn : ∀ n, ∀ y ∈ bs n, y.1 ∈ ps)
    (hbody : ∀ (A : Around) (outer : List Env) (s : Shared) (H : Hp) (E : XK) (f c' : Addr), Room k (A.deeper (lamEnv X scope s.heap.objs.size f c')) → PE (lamCx X A outer s H E scope f c') body (t E))
    (hdb : (x == ("__debug__" : Str)) = false := by decide) (hd : (a == ("__debug__" : Str)) = false := by decide) (hcd : (a == ("__classdict__" : Str)) = false := by decide) :
    PE X (.Call (.Name x p) [.Lambda params body scope lpos] [] pos) (tLamA P (X.env.qual ++ "<lambda>") TT t) := by
  refine ⟨fun pins s σ H Q I ⟨hT, h⟩ => ?_⟩
  refine wpAny_Call_Name_kw (ld_glob I hg hm ?_ hdb)
  refine PySem.W.callWith_K (h₀ := X.base) I.ok.mod.kin hk ?_ (by rfl) (by rfl)
  show wpAny _ _ (spliced ((false, eval (.Lambda params body scope lpos) X.env) :: backTo pos (starEach [] X.env))) _ _ s
  refine Calls.spliced_cons (hev pins s σ H _ I fun n s0 I0 => mk_fn I0 TB hcode hT (L.has I0.ok) hne fun f c' pm' ctv dV' H1 s' I1 gr T1 df hf hfn hfr hco => ?_)
  refine Calls.spliced_nil ⟨I1.kIn, ?_⟩
  have rc : codeAny (model X.prog X.w) X.A (.call (.ref g) ⟨[.ref f], []⟩) (CR C8.CX0 X.stack X.prog X.w H1 s' Q C8.E0) s' := by
    refine run_ofS (N := Ng) (ps := [a]) (us := [.ref f]) (vs := [.ref f]) lk hcg Sg hr I1.env0 (hb s' [.ref f] I1.kIn rfl) (.cons rfl .nil) rfl fun hr' => ?_
    obtain ⟨t', ht', hq'⟩ := hG f c' s' H1 Q (fun E H' Q' => t E σ H' Q') (fun W pn xe p1 p2 tk => mk_act (i := 0) (tb := t) I1 L hf hfn hfr df (hbl n) (hbn n) tk hr' (fun A outer s H E hr2 => hbody A outer s H E f c' hr2) hNg hva hd hcd) hco (h H1 gr T1)
    exact ⟨t', ht'.nox, hq'⟩
  refine wpAny_call (codeAny_mono rc fun r s2 hq => ?_)
  cases r with
  | error e => exact (show False from hq).elim
  | ok fl =>
    cases fl with
    | ret u => exact I1.after hq
    | next => exact False.elim hq
    | brk => exact False.elim hq
    | cont => exact False.elim hq
end
end Mk

/-! ### MkIsX -/
set_option Elab.async false
set_option linter.all false
set_option maxRecDepth 100000
set_option maxHeartbeats 4000000
namespace Mk
open PySem PySem.Spec PyProof.Rows L2
open GxR (TabG Tabbed)
open LamX (CodeO GivesTo)
/-! ### isinstance of the exception that a suite holds, an own dict or none -/
def rIsX (K : PySem.W.Frag) (cls : Value) (d : Option Addr) (a : Addr) : List V → Hp → VK → Prop := fun xs H Q => ∃ (D : Addr) (c : V) (cv : Value) (b : Bool), cls = .ref D ∧ ExcC K D ∧ (PySem.W.clsIn K D).isSome = true ∧ (d = none ∨ ∃ dd fs, d = some dd ∧ H dd = some (.xd fs)) ∧
  xs = [.ref a, c] ∧ (∀ u, RelV c u → u = cv) ∧ PySem.W.kitOne K (.ref D) cv = some b ∧ Q (.bl b) H
theorem call_isX {X : Cx} {a : Addr} {cls : Value} {d : Option Addr} {oe : Obj} {pn : List (Addr × Obj)} (hz : Zc cls d oe) (hf : ∃ vs, oe.data = .fields vs) : CallR (X.suite a ((a, oe) :: pn)) (.builtin "isinstance") (rIsX X.K cls d a) := by
  intro pins s σ H xs us Q I r h
  obtain ⟨D, c, cv, b, rfl, C, cl, hd, rfl, hcv, e, q⟩ := h
  cases r with
  | cons rx rr =>
    cases rr with
    | cons rt rr =>
      cases rr
      cases rx
      have ec := hcv _ rt
      subst ec
      obtain ⟨hget, _⟩ := I.pin (a, oe) (List.mem_append.mpr (.inl List.mem_cons_self))
      obtain ⟨vs, hv⟩ := hf
      have J : ∃ od, PySem.W.InstAt s.heap a oe D od := by
        rcases hd with rfl | ⟨dd, fs, rfl, hx⟩
        · exact ⟨none, hget, hz.1, by unfold PySem.W.notCls; rw [hv] <;> rfl, by rw [hz.2]; exact True.intro⟩
        · have hx : ObjOk X.prog X.w H s.heap dd (.xd fs) := I.hok dd _ hx
          obtain ⟨mA, hns, hr⟩ := hx
          obtain ⟨od, ho, hl⟩ := lookIn_ns hns
          exact ⟨some od, hget, hz.1, by unfold PySem.W.notCls; rw [hv] <;> rfl, by rw [hz.2]; exact ho⟩
      obtain ⟨od, J⟩ := J
      exact PySem.W.kia_one (PySem.W.kitx_exc cl C.hg C.hk C.hs C.ha C.hn C.ht C.hm) I.kIn J e (fun z => nomatch z) fun tk => ⟨.bl b, H, I.kept (t' := tk) fun _ _ z => z, rfl, q⟩
/-! ### l.count(b) of bools -/
def rCntB (K : PySem.W.Frag) : V → List V → Hp → VK → Prop := fun x xs H Q => ∃ (p : Addr) (bs : List Bool) (k : Bool), x = .ref p ∧ xs = [.bl k] ∧ SqL K H p (bs.map V.bl) ∧ Q (.int (countIn (.bool k) (bs.map PyData.bool))) H
theorem dp_bools {K : PySem.W.Frag} {H : Hp} : ∀ bs : List Bool, DpAll K H (bs.map V.bl) (bs.map PyData.bool)
  | [] => .nil
  | b :: r => .cons (.bl b) (dp_bools r)
theorem mt_bcount {X : Cx} : MtR X "list.count" (rCntB X.K) := by
  intro pins s σ H x xs v us Q I rx rxs h
  obtain ⟨p, bs, k, rfl, rfl, hs, q⟩ := h
  cases rx
  obtain ⟨u, rfl, ru⟩ := rxs.one
  cases ru
  obtain ⟨its, rv, ⟨o, n, ho, hc, hdn, hd⟩, hz⟩ := I.list hs
  obtain ⟨as, ra⟩ := Dp.readsAll I (bs.map PyData.bool) _ _ (dp_bools bs) rv
  refine count_list_bools ⟨o, ho, hc, n, hd⟩ ra ?_ ⟨.int _, H, I.tok _, ⟨_, rfl⟩, q⟩
  rw [List.all_map]
  exact List.all_eq_true.mpr fun b _ => rfl
theorem ev_lam0 {X : Cx} {body : Expr} {scope : Scope} {lpos : Pos} (pins : List (Addr × Obj)) (s : Shared) (σ : L2.St) (H : Hp) (Q : Value → Shared → Prop) (I : Inv X pins σ H s)
    (h : ∀ (n : Nat) s', Inv X pins σ H s' → wpAny (model X.prog X.w) X.A (makeFunction "<lambda>" (X.env.qual ++ "<lambda>") pars0 (.expr body) scope X.env ((fun _ => []) n) [] [] lpos lpos.line) Q X.xe s') : wpAny (model X.prog X.w) X.A (eval (.Lambda pars0 body scope lpos) X.env) Q X.xe s :=
  PySem.W.kla_eval rfl (h 0 s I)
theorem ev_lam1 {X : Cx} {body : Expr} {scope : Scope} {lpos p dp : Pos} {a : Str} {j : Nat} {i : Int} (pins : List (Addr × Obj)) (s : Shared) (σ : L2.St) (H : Hp) (Q : Value → Shared → Prop) (I : Inv X pins σ H s)
    (h : ∀ (n : Nat) s', Inv X pins σ H s' → wpAny (model X.prog X.w) X.A (makeFunction "<lambda>" (X.env.qual ++ "<lambda>") (pars1 a p (.Constant (.int i) j dp)) (.expr body) scope X.env ((fun n => [.int i n]) n) [] [] lpos lpos.line) Q X.xe s') : wpAny (model X.prog X.w) X.A (eval (.Lambda (pars1 a p (.Constant (.int i) j dp)) body scope lpos) X.env) Q X.xe s := by
  rw [arm_eval_Lambda]
  show wpAny _ _ (do let dv ← evalAll [eval (.Constant (.int i) j dp) X.env]; let kdv ← holding dv (evalAllOpt []); makeFunction "<lambda>" (X.env.qual ++ "<lambda>") (pars1 a p (.Constant (.int i) j dp)) (.expr body) scope X.env dv kdv [] lpos lpos.line) _ _ _
  refine wpAny_bind (wpAny_bind (thn ((pe_int (X := X) (i := i) (j := j) (pos := dp)).run pins s σ H (fun v H1 => v = .int i ∧ H1 = H) I ⟨rfl, rfl⟩) fun u s1 ⟨v, H1, I1, r1, q1⟩ => ?_))
  obtain ⟨rfl, rfl⟩ := q1
  obtain ⟨t, rfl⟩ := r1
  exact wpAny_bind (wpAny_holding (wpAny_pure (wpAny_pure (wpAny_bind (wpAny_holding (wpAny_pure (h t s1 I1)))))))
end Mk

/-! ### MkXW -/
set_option Elab.async false
set_option linter.all false
set_option maxRecDepth 100000
set_option maxHeartbeats 4000000
namespace Mx
open PySem PySem.Spec PyProof.Rows L2
open GxR (TabG Tabbed)
open LamX (TabS)
/-! ### the word for an error -/
def wordOf (c : Nat) : Option Str := match c with
  | 3 => some "manner" | 4 => some "path" | 6 => some "forest" | 7 => some "number" | 8 => some "word" | 9 => some "trap" | 11 => some "line" | 12 => some "step"
  | _ => none
def wordR : R (A × Sto) → R (A × Sto)
  | .ok r => .ok (.str "", r.2)
  | .exc x s => match wordOf x.1 with
    | some w => .ok (.str w, s)
    | none => .fail
  | .fail => .fail
  | .draw n k => .draw n fun i => wordR (k i)
def mWord (me : EM) : EM := fun env st => wordR (me env st)
def EchX (G : Gx) (Q : VK) : XK := fun cls d H => ∃ c w, wordOf c = some w ∧ cls = .ref (G.xc c) ∧ (d = none ∨ ∃ dd fs, d = some dd ∧ H dd = some (.xd fs)) ∧ ∀ H2, (∀ b o, H b = some o → H2 b = some o) → Q (.str w) H2
def TTx (G : Gx) : (XK → Hp → VK → Prop) → Hp → VK → Prop := fun tl H Q => tl (EchX G Q) H fun _ H' => Q (.str "") H'
/-- the table of the code of lambdas -/
structure AmW (G : Gx) (P : Addr) (q : Str) : Prop where
  has : ∀ {H}, G.Am H → TabS H P q
  grow : ∀ {H H1}, G.Am H → Mk.GrowT P H H1 → TabS H1 P q → G.Am H1
section
variable {G : Gx} {T : List Addr} {E : XK} {ι : List Addr} {H H1 : Hp} {st : Sto} {P : Addr} {q : Str}
theorem fr_ext (e : ∀ b o, H b = some o → H1 b = some o) : Fr ι H ι H1 := ⟨List.prefix_refl _, fun _ h => .inl h, fun a o h _ _ => e a o h, fun a h => by
  cases k : H a with
  | none => exact absurd k h
  | some o => rw [e a o k]; simp⟩
theorem Rl.ext (M : AmX G T) (R : Rl G ι H st) (e : ∀ b o, H b = some o → H1 b = some o) : Rl G ι H1 st :=
  ⟨M.same R.am fun b o h _ _ => e b o h, R.len, R.nd, fun n o a h1 h2 => ImO.mono R (fr_ext e) (by
    rcases R.kind (List.mem_of_getElem? h2) with ⟨xs, k⟩ | ⟨C, dx, fs, k⟩ <;> (rw [k]; exact e _ _ k)) (R.ob n o a h1 h2)⟩
theorem fr_grow (T0 : TabS H P q) (g : Mk.GrowT P H H1) (T1 : TabS H1 P q) : Fr ι H ι H1 := by
  obtain ⟨ps, hp, _⟩ := T0
  obtain ⟨ps1, hp1, _⟩ := T1
  refine ⟨List.prefix_refl _, fun _ h => .inl h, fun a o h _ n => g a o (fun e => ?_) h, fun a h => ?_⟩
  · subst e
    rw [hp] at h
    exact n _ (Option.some.inj h).symm
  · by_cases e : a = P
    · rw [e, hp1]; simp
    · cases k : H a with
      | none => exact absurd k h
      | some o => rw [g a o e k]; simp
theorem Rl.grow (W : AmW G P q) (R : Rl G ι H st) (g : Mk.GrowT P H H1) (T1 : TabS H1 P q) : Rl G ι H1 st := by
  have T0 := W.has R.am
  refine ⟨W.grow R.am g T1, R.len, R.nd, fun n o a h1 h2 => ImO.mono R (fr_grow T0 g T1) ?_ (R.ob n o a h1 h2)⟩
  obtain ⟨ps, hp, _⟩ := T0
  have ne : a ≠ P := fun e => by
    subst e
    rcases R.kind (List.mem_of_getElem? h2) with ⟨xs, k⟩ | ⟨C, dx, fs, k⟩ <;> (rw [hp] at k; cases k)
  rcases R.kind (List.mem_of_getElem? h2) with ⟨xs, k⟩ | ⟨C, dx, fs, k⟩ <;> (rw [k]; exact g _ _ ne k)
theorem wordR_holds (M : AmX G T) {Q : VK} (f : Fr ι H ι H1) : ∀ {r : R (A × Sto)}, (wordR r).holds (PE1 G ι H Q) (PXx G ι H E) → r.holds (PE1 G ι H1 fun _ H' => Q (.str "") H') (PXx G ι H1 (EchX G Q))
  | .ok r, h => fun ι' H' v f' R' _ => (show PE1 G ι H Q (.str "", r.2) from h) ι' H' _ (f.trans f') R' im_str
  | .exc (c, p) s, h => fun ι' H' f' R' => by
    unfold wordR at h
    split at h
    · rename_i w hw
      have fin : ∀ H2, (∀ b o, H' b = some o → H2 b = some o) → Q (.str w) H2 := fun H2 e => (show PE1 G ι H Q (.str w, s) from h) ι' H2 _ ((f.trans f').trans (fr_ext e)) (R'.ext M e) im_str
      cases p with
      | none => exact ⟨c, w, hw, rfl, .inl rfl, fin⟩
      | some p => exact fun d v hd _ => ⟨c, w, hw, rfl, .inr ⟨d, _, rfl, hd⟩, fin⟩
    · exact h.elim
  | .fail, h => h
  | .draw n k, h => fun i hi => wordR_holds M f (h i hi)
theorem ex_word (M : AmX G T) (W : AmW G P q) {t : XK → TE} {me : EM} (hm : ∀ E', Ex G E' (t E') me) : Ex G E (Mk.tLamA P q (TTx G) t) (mWord me) := fun ι env st σ H Q R Ev h => by
  refine ⟨W.has R.am, fun H1 g T1 => ?_⟩
  have f : Fr ι H ι H1 := fr_grow (W.has R.am) g T1
  exact hm _ ι env st σ H1 _ (R.grow W g T1) (R.env f Ev) (wordR_holds M f h)
end
/-- the error classes as _law_word asks for them -/
structure WordX (G : Gx) (mg : Str → Option Value) : Prop where
  g0 : mg "MarkError" = some (.ref (G.xc 0))
  g1 : mg "BadQuestion" = some (.ref (G.xc 1))
  g2 : mg "BadReader" = some (.ref (G.xc 2))
  g3 : mg "BadManner" = some (.ref (G.xc 3))
  g4 : mg "BadPath" = some (.ref (G.xc 4))
  g5 : mg "BadRow" = some (.ref (G.xc 5))
  g6 : mg "BadForest" = some (.ref (G.xc 6))
  g7 : mg "BadNumber" = some (.ref (G.xc 7))
  g8 : mg "BadWord" = some (.ref (G.xc 8))
  g9 : mg "BadTrap" = some (.ref (G.xc 9))
  g10 : mg "BadText" = some (.ref (G.xc 10))
  g11 : mg "BadLine" = some (.ref (G.xc 11))
  g12 : mg "BadStep" = some (.ref (G.xc 12))
  g13 : mg "TooMany" = some (.ref (G.xc 13))
  ex : ∀ i, 1 ≤ i → i ≤ 13 → ExcC G.K (G.xc i) ∧ (PySem.W.clsIn G.K (G.xc i)).isSome = true ∧ PySem.W.exmOne G.K (.ref (G.xc i)) (.ref (G.xc 0)) = some true ∧ ∀ j, 1 ≤ j → j ≤ 13 → PySem.W.kitOne G.K (.ref (G.xc i)) (.ref (G.xc j)) = some (decide (i = j))
  x1 : XfC G.K (G.xc 1) ∧ PySem.W.findIn G.K (.ref (G.xc 1)) "part" = some none
  x5 : XfC G.K (G.xc 5) ∧ PySem.W.findIn G.K (.ref (G.xc 5)) "place" = some none
  x13 : XfC G.K (G.xc 13) ∧ PySem.W.findIn G.K (.ref (G.xc 13)) "most" = some none
end Mx

/-! ### MkXT -/
set_option Elab.async false
set_option linter.all false
set_option maxRecDepth 100000
set_option maxHeartbeats 4000000
namespace Mx
open PySem PySem.Spec PyProof.Rows L2
open GxR (TabG Tabbed)
/-! ### the draws -/
/-- all but the list at r stays -/
def XS (r : Addr) (H H' : Hp) : Prop := ∀ b o, H b = some o → b ≠ r → H' b = some o
theorem XS.trans {r : Addr} {H H1 H2 : Hp} (a : XS r H H1) (b : XS r H1 H2) : XS r H H2 := fun c o h z => b c o (a c o h z) z
theorem XS.upd {r : Addr} {H : Hp} {o : HO} : XS r H (upd H r o) := fun b u h z => by rw [upd_ne z]; exact h
/-- the script, beside the list at r -/
def ScrB (K : PySem.W.Frag) (H : Hp) (r a : Addr) (xs : List V) : Prop :=
  (Rd H a (.lst xs) ∧ a ≠ r) ∨ ∃ (o : Obj) (its : Array Value) (n : Nat), K.lookup a = some o ∧ o.cls = .type "list" ∧ o.dict = none ∧ o.data = .seq its n ∧ its.size ≤ sizeLine ∧ Vals xs its.toList
theorem ScrB.sql {K : PySem.W.Frag} {H : Hp} {r a : Addr} {xs : List V} (h : ScrB K H r a xs) : SqL K H a xs := h.elim (fun h => .inl h.1) .inr
theorem ScrB.xs {K : PySem.W.Frag} {H H' : Hp} {r a : Addr} {xs : List V} (e : XS r H H') (h : ScrB K H r a xs) : ScrB K H' r a xs := by
  rcases h with ⟨q | ⟨ob, q⟩, n⟩ | q
  · exact .inl ⟨.inl (e _ _ q n), n⟩
  · exact .inl ⟨.inr ⟨ob, e _ _ q n⟩, n⟩
  · exact .inr q
theorem ScrAt.mk {K : PySem.W.Frag} {H : Hp} {ι : List Addr} {r a : Addr} {xs : List V} (hr : r ∈ ι) (h : ScrAt K H ι a xs) : ScrB K H r a xs := h.imp (fun q => ⟨q.1, fun e => q.2 (by rw [e]; exact hr)⟩) id
theorem ScrAt.upd {K : PySem.W.Frag} {H H' : Hp} {ι : List Addr} {r a : Addr} {xs : List V} (hr : r ∈ ι) (e : XS r H H') (h : ScrAt K H ι a xs) : ScrAt K H' ι a xs := by
  rcases h with ⟨q, n⟩ | q
  · have nr : a ≠ r := fun z => n (by rw [z]; exact hr)
    rcases q with q | ⟨ob, q⟩
    · exact .inl ⟨.inl (e _ _ q nr), n⟩
    · exact .inl ⟨.inr ⟨ob, e _ _ q nr⟩, n⟩
  · exact .inr q
section
variable {G : Gx} {T : List Addr} {ι : List Addr} {H H' : Hp} {st : Sto} {E : XK}
theorem taken_end (M : AmX G T) (R : Rl G ι H st) {n : Nat} {r a : Addr} {ns : List Int} (hn : ι[n]? = some r) (hs : st[n]? = some .dr) {L : List V} (hr : H r = some (.lst L)) (sc : ScrAt G.K H ι a (ns.map .int)) (x : XS r H H') {i y z : Int} (h : H' r = some (.lst [.ref a, .int i, .int y, .int z])) (i0 : 0 ≤ i)
    {many k : Int} (k0 : 0 ≤ k) (k1 : k < many) {Q : VK} (q : (Mx.R.draw many.toNat fun k => .ok (A.int k, st)).holds (PE1 G ι H Q) (PXx G ι H E)) : Q (.int k) H' := by
  have hm := List.mem_of_getElem? hn
  have f : Fr ι H ι H' := ⟨List.prefix_refl _, fun _ h => .inl h, fun b o e nb _ => x b o e fun z => nb (by rw [z]; exact hm), fun b e => by
    by_cases z : b = r
    · rw [z, h]; simp
    · cases q : H b with
      | none => exact absurd q e
      | some o => rw [x b o q z]; simp⟩
  have R2 : Rl G ι H' st := by
    refine ⟨M.same R.am fun b o e n1 _ => x b o e fun z => ?_, R.len, R.nd, fun m o b h1 h2 => ?_⟩
    · rw [z, hr] at e; exact n1 _ (Option.some.inj e).symm
    · by_cases z : b = r
      · subst z
        have em : m = n := (List.getElem?_inj (List.getElem?_eq_some_iff.mp h2).1 R.nd).mp (h2.trans hn.symm)
        subst em
        rw [hs] at h1
        cases h1
        exact ⟨a, ns, i, y, _, h, sc.upd hm x, i0⟩
      · refine ImO.mono R f ?_ (R.ob m o b h1 h2)
        rcases R.kind (List.mem_of_getElem? h2) with ⟨xs, q⟩ | ⟨C, dx, fs, q⟩ <;> (rw [q]; exact x _ _ q z)
  have hk : (Mx.R.ok (A.int ((k.toNat : Nat) : Int), st)).holds (PE1 G ι H Q) (PXx G ι H E) := q k.toNat (by omega)
  have e : ((k.toNat : Nat) : Int) = k := Int.toNat_of_nonneg k0
  rw [e] at hk
  exact (show PE1 G ι H Q (.int k, st) from hk) ι H' _ f R2 im_int
end
theorem v_modX {σ : L2.St} {H : Hp} {ta tb : TE} {a b : Int} (ha : ∀ Q : VK, Q (.int a) H → ta σ H Q) (hb : ∀ Q : VK, Q (.int b) H → tb σ H Q) (h : 0 < b) : ∀ Q : VK, Q (.int (a % b)) H → tOp (rI (fun _ j => 0 < j) fun i j => .int (i % j)) ta tb σ H Q := fun Q q => ha _ (hb _ ⟨a, b, rfl, rfl, h, q⟩)
theorem v_divX {σ : L2.St} {H : Hp} {ta tb : TE} {a b : Int} (ha : ∀ Q : VK, Q (.int a) H → ta σ H Q) (hb : ∀ Q : VK, Q (.int b) H → tb σ H Q) (h : 0 < b) (h2 : b < 1073741824) : ∀ Q : VK, Q (.int (a / b)) H → tOp (rI CDiv fun i j => .int (i / j)) ta tb σ H Q := fun Q q => ha _ (hb _ ⟨a, b, rfl, rfl, ⟨h, h2⟩, q⟩)
theorem v_mulX {σ : L2.St} {H : Hp} {ta tb : TE} {a b : Int} (ha : ∀ Q : VK, Q (.int a) H → ta σ H Q) (hb : ∀ Q : VK, Q (.int b) H → tb σ H Q) (h : CMul a b) : ∀ Q : VK, Q (.int (a * b)) H → tOp (rI CMul fun i j => .int (i * j)) ta tb σ H Q := fun Q q => ha _ (hb _ ⟨a, b, rfl, rfl, h, q⟩)
theorem v_addX {σ : L2.St} {H : Hp} {ta tb : TE} {a b : Int} (ha : ∀ Q : VK, Q (.int a) H → ta σ H Q) (hb : ∀ Q : VK, Q (.int b) H → tb σ H Q) : ∀ Q : VK, Q (.int (a + b)) H → tOp (rI0 fun i j => .int (i + j)) ta tb σ H Q := Mk.v_op0 (g := fun i j => .int (i + j)) ha hb
theorem v_subX {σ : L2.St} {H : Hp} {ta tb : TE} {a b : Int} (ha : ∀ Q : VK, Q (.int a) H → ta σ H Q) (hb : ∀ Q : VK, Q (.int b) H → tb σ H Q) : ∀ Q : VK, Q (.int (a - b)) H → tOp (rI0 fun i j => .int (i - j)) ta tb σ H Q := Mk.v_op0 (g := fun i j => .int (i - j)) ha hb
abbrev rInt1X : List V → Hp → VK → Prop := fun xs H Q => (∃ i, xs = [.int i] ∧ Q (.int i) H) ∨ ∃ k, xs = [.bl k] ∧ Q (.int (if k then 1 else 0)) H
theorem v_intX {σ : L2.St} {H : Hp} {ta : TE} {a : Int} (ha : ∀ Q : VK, Q (.int a) H → ta σ H Q) : ∀ Q : VK, Q (.int a) H → tCB rInt1X (tCons ta tNil) σ H Q := fun Q q => ha _ (.inl ⟨a, rfl, q⟩)
theorem c_setLX {to ti : TE} {σ : L2.St} {H : Hp} {v : V} {p : Addr} {xs : List V} {k : Int} {j : Nat} {Q : L2.St → Hp → Prop} (ho : ∀ Q : VK, Q (.ref p) H → to σ H Q) (hi : ∀ Q : VK, Q (.int k) H → ti σ H Q) (h : H p = some (.lst xs)) (hj : ixN xs.length k = some j) (q : Q σ (upd H p (.lst (xs.set j v)))) : gSub to ti rSetL v σ H Q :=
  ho _ (hi _ ⟨p, xs, k, j, rfl, rfl, h, hj, q⟩)
theorem atI_mapX {ns : List Int} {i : Int} (h : 0 ≤ i) (h2 : i.toNat < ns.length) : atI (ns.map V.int) i = some (.int (ns.getD i.toNat 0)) := by
  have z := atI_nat (xs := ns.map V.int) (j := i.toNat) (v := .int (ns.getD i.toNat 0)) (by
    rw [List.getElem?_map, List.getElem?_eq_getElem h2, List.getD_eq_getElem?_getD, List.getElem?_eq_getElem h2]
    rfl)
  rw [Int.toNat_of_nonneg h] at z
  exact z
/-! ### the law itself -/
def spLawX (G : Gx) : Sp := fun vs H Q _ => ∃ (a : Addr) (ns : List Int), vs = [.ref a] ∧ SqL G.K H a (ns.map .int) ∧ G.Am H ∧ ∀ H', Q (.bl true) H'
/-- the slots when the row of draws stands at i -/
def env0 (n i : Nat) : Ev := (List.replicate n none).set i (some (.ref 0))
def True9 (r : Fl × Sto) : Prop := r.1 = .rt (.bl true)
theorem law_end {G : Gx} {T : List Addr} {E : XK} (M : AmX G T) {t : TS} {ms : SM} (hm : ExS G E t ms) {H : Hp} {Q : VK} {a r : Addr} {ns : List Int} {seed : Int} {n i : Nat} {σ : L2.St} {nx : L2.St → Hp → Prop} (hs : SqL G.K H a (ns.map .int)) (hA : G.Am H) (q : ∀ H', Q (.bl true) H') (hr : H r = none) (hl : σ.length = n)
    (hi : σ[i]? = some (some (.ref r))) (hold : (ms (env0 n i) [.dr]).holds True9 fun _ _ => False) : t { nx := nx, rt := Q } σ (upd H r (.lst [.ref a, .int 0, .int seed, .int 0])) := by
  have hA1 : G.Am (upd H r (.lst [.ref a, .int 0, .int seed, .int 0])) := M.same hA fun b o e _ _ => by rw [upd_ne (ne_of_none e hr)]; exact e
  have sc : ScrAt G.K (upd H r (.lst [.ref a, .int 0, .int seed, .int 0])) [r] a (ns.map .int) := by
    rcases hs with (h | ⟨o, h⟩) | h
    · have ne := ne_of_none h hr
      exact .inl ⟨.inl (by rw [upd_ne ne]; exact h), by simpa using ne⟩
    · have ne := ne_of_none h hr
      exact .inl ⟨.inr ⟨o, by rw [upd_ne ne]; exact h⟩, by simpa using ne⟩
    · exact .inr h
  have R : Rl G [r] (upd H r (.lst [.ref a, .int 0, .int seed, .int 0])) [.dr] := by
    refine ⟨hA1, rfl, by simp, fun m o b h1 h2 => ?_⟩
    match m, h1, h2 with
    | 0, h1, h2 =>
      cases h1
      cases h2
      exact ⟨a, ns, 0, seed, 0, upd_same, sc, Int.le_refl _⟩
    | m + 1, h1, h2 => cases h2
  have Ev : EnvR G [r] (upd H r (.lst [.ref a, .int 0, .int seed, .int 0])) (env0 n i) σ := by
    refine ⟨by unfold env0; simp [hl], fun j b e => ?_⟩
    unfold env0 at e
    by_cases z : i = j
    · subst z
      by_cases hn : i < n
      · rw [List.getElem?_set_self (by simpa using hn)] at e
        cases e
        exact ⟨_, hi, by unfold Im; exact ⟨r, rfl, rfl⟩⟩
      · rw [List.getElem?_eq_none (by simp; omega)] at e
        cases e
    · rw [List.getElem?_set_ne z, List.getElem?_replicate] at e
      split at e <;> cases e
  refine hm [r] _ [.dr] σ _ _ R Ev (holds_mono (fun z hz => ?_) (fun _ _ f => f.elim) hold)
  obtain ⟨fl, s⟩ := z
  intro ι' H' f' R'
  cases (show fl = .rt (.bl true) from hz)
  exact fun v iv => by
    rw [im_bl' iv]
    exact q H'
theorem law_end2 {G : Gx} {T : List Addr} {E : XK} (M : AmX G T) {t : TS} {ms : SM} (hm : ExS G E t ms) {H : Hp} {Q : VK} {a r : Addr} {ns : List Int} {seed : Int} {n i : Nat} {N : List Str} {nx : L2.St → Hp → Prop} (hs : SqL G.K H a (ns.map .int)) (hA : G.Am H) (q : ∀ H', Q (.bl true) H') (hr : H r = none) (hN : N.length = n) (h1 : 1 ≤ n)
    (hi : i < n) (hold : (ms (env0 n i) [.dr]).holds True9 fun _ _ => False) : t { nx := nx, rt := Q } ((L2.start N [.ref a]).set i (some (.ref r))) (upd H r (.lst [.ref a, .int 0, .int seed, .int 0])) := by
  have hl : (L2.start N [.ref a]).length = n := by
    unfold L2.start
    simp [hN]
    omega
  exact law_end M hm hs hA q hr (by rw [List.length_set, hl]) (by rw [List.getElem?_set_self (by rw [hl]; exact hi)]) hold
end Mx

/-! ### MkXH -/
set_option Elab.async false
set_option linter.all false
set_option maxRecDepth 100000
set_option maxHeartbeats 8000000
namespace Mx
open PySem PySem.Spec PyProof.Rows L2 Mk
open GxR (TabG Tabbed)
open LamX (TabS)
abbrev qL : Str := (("law" : Str) ++ ".<locals>.") ++ "<lambda>"
/-! ### what is asked of the heap behind the top -/
def errN : List Str := ["MarkError", "BadQuestion", "BadReader", "BadManner", "BadPath", "BadRow", "BadForest", "BadNumber", "BadWord", "BadTrap", "BadText", "BadLine", "BadStep", "TooMany"]
def oexB (K : PySem.W.Frag) (C : Addr) : Bool := (match K.lookup C with
  | some ⟨.type t, _, .cls cd, sl⟩ => (match cd.mro, sl.toList with
    | .ref C' :: bm, [_, _, _, _, some (.builtin n), _] => decide (t = "type") && (C' == C && (decide (n = "ValueError.__new__") && (!cd.hasDel && (cd.hasDict && PySem.HandSPX.refsVE bm))))
    | _, _ => false)
  | _ => false) && (He.eqO (PySem.W.findIn K (.ref C) "__setattr__") (some (some (.builtin "object.__setattr__"))) && (decide (PySem.W.subIn K (.ref C) (.type "BaseException") = some true) && (decide (PySem.W.typeIn K (.ref C) = some (.type "type")) && PySem.W.keepIn K (.ref C))))
theorem oexB_ok {K : PySem.W.Frag} {C : Addr} (h : oexB K C = true) : OexC K C := by
  obtain ⟨h1, h⟩ := He.ba h
  obtain ⟨h2, h⟩ := He.ba h
  obtain ⟨h3, h⟩ := He.ba h
  obtain ⟨h4, h5⟩ := He.ba h
  refine ⟨?_, He.eqO_ok h2, of_decide_eq_true h3, of_decide_eq_true h4, h5⟩
  split at h1
  · rename_i t dd cd sl hk
    split at h1
    · rename_i C' bm k0 k1 k2 k3 n k5 hm hs
      obtain ⟨a0, h1⟩ := He.ba h1
      obtain ⟨a1, h1⟩ := He.ba h1
      obtain ⟨a2, h1⟩ := He.ba h1
      obtain ⟨a3, h1⟩ := He.ba h1
      obtain ⟨a4, a5⟩ := He.ba h1
      have e0 := of_decide_eq_true a0
      have e1 : C' = C := eq_of_beq a1
      have e2 := of_decide_eq_true a2
      subst e0 e1 e2
      obtain ⟨nm, bs, mro, ns, qn, hd, sn, sub, ab, col, del⟩ := cd
      dsimp only at hm a3 a4
      subst hm a4
      have e3 : del = false := by cases del <;> simp_all
      subst e3
      have hsl : sl = #[k0, k1, k2, k3, some (.builtin "ValueError.__new__"), k5] := by
        obtain ⟨l⟩ := sl
        simp only at hs
        rw [hs]
      subst hsl
      exact ⟨nm, qn, ns, bs, bm, sn, sub, ab, col, dd, k0, k1, k2, k3, k5, hk, a5⟩
    · cases h1
  · cases h1
def excB (K : PySem.W.Frag) (D : Addr) : Bool := He.eqO (PySem.W.findIn K (.ref D) "__getattribute__") (some (some (.builtin "BaseException.__getattribute__"))) && (He.eqO (PySem.W.findIn K (.ref D) "__getattr__") (some none) && (decide (PySem.W.subIn K (.ref D) (.type "BaseException") = some true) && (PySem.W.hasDictIn K D &&
  (He.eqO (PySem.W.findIn K (.ref D) "__class__") (some (some (.builtin "object.__class__"))) && (He.eqO (PySem.W.specialIn K (.builtin "object.__class__") "__get__") (some (some (.builtin "getset_descriptor.__get__"))) && (decide (PySem.W.takesIn K (.builtin "object.__class__") = some true) && decide (PySem.W.mroIn K D (.type "object") = some true)))))))
theorem excB_ok {K : PySem.W.Frag} {C : Addr} (h : excB K C = true) : ExcC K C := by
  obtain ⟨h1, h⟩ := He.ba h
  obtain ⟨h2, h⟩ := He.ba h
  obtain ⟨h3, h⟩ := He.ba h
  obtain ⟨h4, h⟩ := He.ba h
  obtain ⟨h5, h⟩ := He.ba h
  obtain ⟨h6, h⟩ := He.ba h
  obtain ⟨h7, h8⟩ := He.ba h
  exact ⟨He.eqO_ok h1, He.eqO_ok h2, of_decide_eq_true h3, h4, He.eqO_ok h5, He.eqO_ok h6, of_decide_eq_true h7, of_decide_eq_true h8⟩
/-- the class that the i-th error's name stands for -/
def cE (K : PySem.W.Frag) (i : Nat) : Addr := He.ga K (errN.getD i "")
/-- isinstance's table for the class i -/
def isB (K : PySem.W.Frag) (i : Nat) : Bool := excB K (cE K i) && ((PySem.W.clsIn K (cE K i)).isSome && (decide (PySem.W.exmOne K (.ref (cE K i)) (.ref (cE K 0)) = some true) && ((List.range 14).all fun j => decide (j = 0) || decide (PySem.W.kitOne K (.ref (cE K i)) (.ref (cE K j)) = some (decide (i = j))))))
def xfF (K : PySem.W.Frag) (i : Nat) (f : Str) : Bool := xfB K (cE K i) && He.eqO (PySem.W.findIn K (.ref (cE K i)) f) (some none)
def baseB (K : PySem.W.Frag) : Bool := PySem.W.readsIn K (cE K 0) (.type "type") && (He.eqO (PySem.W.specialIn K (.ref (cE K 0)) "__getattribute__") (some (some (.builtin "type.__getattribute__"))) && (match PySem.W.findCls K (.ref (cE K 0)) (.type "type") "__init__" with
  | some (.val (.builtin n)) => decide (n = "ValueError.__init__")
  | _ => false))
theorem isB_ok {K : PySem.W.Frag} {i : Nat} (h : isB K i = true) : ExcC K (cE K i) ∧ (PySem.W.clsIn K (cE K i)).isSome = true ∧ PySem.W.exmOne K (.ref (cE K i)) (.ref (cE K 0)) = some true ∧ ∀ j, 1 ≤ j → j ≤ 13 → PySem.W.kitOne K (.ref (cE K i)) (.ref (cE K j)) = some (decide (i = j)) := by
  obtain ⟨h1, h⟩ := He.ba h
  obtain ⟨h2, h⟩ := He.ba h
  obtain ⟨h3, h4⟩ := He.ba h
  refine ⟨excB_ok h1, h2, of_decide_eq_true h3, fun j a b => ?_⟩
  have z := List.all_eq_true.mp h4 j (List.mem_range.mpr (by omega))
  rcases Bool.or_eq_true_iff.mp z with z | z
  · have := of_decide_eq_true z
    omega
  · exact of_decide_eq_true z
theorem xfF_ok {K : PySem.W.Frag} {i : Nat} {f : Str} (h : xfF K i f = true) : XfC K (cE K i) ∧ PySem.W.findIn K (.ref (cE K i)) f = some none := ⟨xfB_ok (He.ba h).1, He.eqO_ok (He.ba h).2⟩
theorem baseB_ok {K : PySem.W.Frag} {mg : Str → Option Value} (h : baseB K = true) (g : mg "MarkError" = some (.ref (cE K 0))) : BaseT K mg "MarkError" (cE K 0) (.type "type") := by
  obtain ⟨h1, h⟩ := He.ba h
  obtain ⟨h2, h3⟩ := He.ba h
  refine ⟨g, ⟨h1, He.eqO_ok h2⟩, ?_⟩
  split at h3
  · rename_i n e
    rw [e, of_decide_eq_true h3]
  · cases h3
/-- the errors with a field -/
def fldN : List (Nat × Str) := [(1, "part"), (2, "part"), (5, "place"), (10, "place"), (11, "line"), (13, "most")]
def exE (K : PySem.W.Frag) : Bool := ((List.range 13).all fun i => isB K (i + 1)) && ((fldN.all fun p => oexB K (cE K p.1) && xfF K p.1 p.2) && baseB K)
theorem exE_is {K : PySem.W.Frag} (h : exE K = true) (i : Nat) (a : 1 ≤ i) (b : i ≤ 13) : isB K i = true := by
  have z := List.all_eq_true.mp (He.ba h).1 (i - 1) (List.mem_range.mpr (by omega))
  rw [Nat.sub_add_cancel a] at z
  exact z
theorem exE_fld {K : PySem.W.Frag} (h : exE K = true) {i : Nat} {f : Str} (m : (i, f) ∈ fldN) : oexB K (cE K i) = true ∧ xfF K i f = true := He.ba (List.all_eq_true.mp (He.ba (He.ba h).2).1 (i, f) m)
theorem exE_base {K : PySem.W.Frag} (h : exE K = true) : baseB K = true := (He.ba (He.ba h).2).2
/-! ### properties -/
/-- the property object, its getter -/
def gp (K : PySem.W.Frag) (C f : Str) : Addr × Addr := match PySem.W.findIn K (.ref (He.ga K C)) f with
  | some (some (.ref p)) => (match PySem.W.recIn K p "property" with
    | some (.ref g :: _) => (p, g)
    | _ => (p, 0))
  | _ => (0, 0)
structure PrD where
  cls : Str
  f : Str
  qual : Str
  st : Stmt
def PrD.val (d : PrD) : He.FnW := some (d.f, d.qual, defArgs d.st, .stmts (defBody d.st), defScope d.st, mainGlobals, [], builtinsNs)
def prW (K : PySem.W.Frag) (d : PrD) : He.FnW := match K.lookup (gp K d.cls d.f).2 with
  | some ⟨_, _, .func fd, _⟩ => some (fd.name, fd.qualname, fd.params, fd.body, fd.scope, fd.globals, fd.closure, fd.builtins)
  | _ => none
def propB (K : PySem.W.Frag) (d : PrD) : Bool := He.eqO (PySem.W.findIn K (.ref (He.ga K d.cls)) d.f) (some (some (.ref (gp K d.cls d.f).1))) && (He.eqO (PySem.W.specialIn K (.ref (gp K d.cls d.f).1) "__get__") (some (some (.builtin "property.__get__"))) && (decide (PySem.W.takesIn K (.ref (gp K d.cls d.f).1) = some true) &&
  ((match PySem.W.recIn K (gp K d.cls d.f).1 "property" with
    | some (.ref g :: _) => decide (g = (gp K d.cls d.f).2)
    | _ => false) && (PySem.W.keepIn K (.ref (gp K d.cls d.f).2) && (match K.lookup (gp K d.cls d.f).2 with
    | some ⟨_, _, .func fd, _⟩ => PySem.W.codeIn K fd.code d.qual && He.dflB K fd.defaults []
    | _ => false)))))
def fdOf (K : PySem.W.Frag) (p : Str × Option Str) : FuncData := match K.lookup (He.fAd K p) with
  | some ⟨_, _, .func fd, _⟩ => fd
  | _ => ⟨"", "", ⟨[], [], none, [], [], none, []⟩, .stmts [], ⟨.function, [], false, false, []⟩, 0, [], .none, .none, .none, .none, none, .none, .none, 0⟩
theorem funD_fun {K : PySem.W.Frag} {x qual : Str} {st : Stmt} {p : Str × Option Str} (h : ∃ fd, FunD K x qual (defArgs st) (defBody st) (defScope st) [] [] (He.fAd K p) fd) : Fun K x qual st (He.fAd K p) (fdOf K p) := by
  obtain ⟨fd, F⟩ := h
  obtain ⟨oc, od, dV, kV, doc, pm, an, cdv, ct, osl, e, lk, hcd, hD, hK⟩ := F.ex
  have e1 : fdOf K p = fd := by unfold fdOf; rw [lk]
  rw [e1]
  have e2 : dV = .none := by
    rcases hD with ⟨_, h⟩ | ⟨h, _⟩
    · exact h
    · exact absurd rfl h
  subst e2
  exact ⟨⟨oc, od, kV, doc, pm, an, cdv, ct, osl, e, lk, hcd⟩, F.kp⟩
def fdAt (K : PySem.W.Frag) (a : Addr) : FuncData := match K.lookup a with
  | some ⟨_, _, .func fd, _⟩ => fd
  | _ => ⟨"", "", ⟨[], [], none, [], [], none, []⟩, .stmts [], ⟨.function, [], false, false, []⟩, 0, [], .none, .none, .none, .none, none, .none, .none, 0⟩
theorem funD_fd {K : PySem.W.Frag} {x qual : Str} {a : Arguments} {b : List Stmt} {c : Scope} {dvs : List V} {kws : List (Str × V)} {p : Str × Option Str} (h : ∃ fd, FunD K x qual a b c dvs kws (He.fAd K p) fd) : FunD K x qual a b c dvs kws (He.fAd K p) (fdOf K p) := by
  obtain ⟨fd, F⟩ := h
  obtain ⟨oc, od, dV, kV, doc, pm, an, cdv, ct, osl, e, lk, hcd, hD, hK⟩ := F.ex
  have e1 : fdOf K p = fd := by unfold fdOf; rw [lk]
  rw [e1]
  exact F
theorem PrD.fun_ {K : PySem.W.Frag} {d : PrD} (e : prW K d = d.val) (c : propB K d = true) : PropOf K (He.ga K d.cls) d.f (gp K d.cls d.f).1 (gp K d.cls d.f).2 ∧ Fun K d.f d.qual d.st (gp K d.cls d.f).2 (fdAt K (gp K d.cls d.f).2) := by
  obtain ⟨c1, c⟩ := He.ba c
  obtain ⟨c2, c⟩ := He.ba c
  obtain ⟨c3, c⟩ := He.ba c
  obtain ⟨c4, c⟩ := He.ba c
  obtain ⟨c5, c6⟩ := He.ba c
  refine ⟨⟨He.eqO_ok c1, He.eqO_ok c2, of_decide_eq_true c3, ?_⟩, ?_⟩
  · split at c4
    · rename_i g rest q
      have e2 := of_decide_eq_true c4
      exact ⟨rest, by rw [q, e2]⟩
    · cases c4
  · unfold prW at e
    unfold fdAt
    cases q : K.lookup (gp K d.cls d.f).2 with
    | none =>
      rw [q] at c6
      cases c6
    | some o =>
      obtain ⟨oc, od, dt, osl⟩ := o
      rw [q] at c6 e
      cases dt with
      | func fd =>
        obtain ⟨n1, n2, n3, n4, n5, n6, n7, n8, n9, n10, n11, n12, n13, n14, n15⟩ := fd
        have e2 : (some (n1, n2, n3, n4, n5, n6, n7, n15) : He.FnW) = some (d.f, d.qual, defArgs d.st, .stmts (defBody d.st), defScope d.st, mainGlobals, [], builtinsNs) := e
        simp only [Option.some.injEq, Prod.mk.injEq] at e2
        obtain ⟨h1, h2, h3, h4, h5, h6, h7, h8⟩ := e2
        subst h1 h2 h3 h4 h5 h6 h7 h8
        have c7 : (PySem.W.codeIn K n13 d.qual && He.dflB K n8 []) = true := c6
        obtain ⟨k1, k2⟩ := He.ba c7
        have k3 : n8 = .none := by
          rcases He.dflB_ok k2 with ⟨_, z⟩ | ⟨z, _⟩
          · exact z
          · exact absurd rfl z
        subst k3
        exact ⟨⟨oc, od, n9, n10, n11, n12, n13, n14, osl, rfl, q, k1⟩, c5⟩
      | _ => cases c6
/-! ### what the law's tables keep -/
def AmL (G : List Addr) (TP : Addr) : Hp → Prop := fun H => (∀ T ∈ G, TabG H T) ∧ TabS H TP qL
structure AmOkX (Am : Hp → Prop) (G : List Addr) : Prop where
  tab : ∀ {T H}, T ∈ G → Am H → TabG H T
  tabbed : ∀ {T H H'}, T ∈ G → Am H → Tabbed T H H' → Am H'
  same : ∀ {H H'}, Am H → (∀ b o, H b = some o → (∀ xs, o ≠ .lst xs) → H' b = some o) → Am H'
theorem amL_okX {G : List Addr} {TP : Addr} (h : TP ∉ G) : AmOkX (AmL G TP) G := by
  have ts : ∀ {H H' : Hp} {T : Addr}, TabG H T → T ≠ TP → Tabbed T H H' → TabS H TP qL → TabS H' TP qL := fun {H H' T} hT n t ⟨ps, e, tr, c⟩ => by
    refine ⟨ps, by rw [t.2 _ (Ne.symm n)]; exact e, tr, fun pos cv q => ?_⟩
    obtain ⟨c', rfl, hc⟩ := c pos cv q
    refine ⟨c', rfl, ?_⟩
    rw [t.2 c' fun z => ?_]
    · exact hc
    · obtain ⟨ps2, e2, _⟩ := hT
      rw [z, e2] at hc
      cases hc
  refine ⟨fun hT a => a.1 _ hT, fun {T H H'} hT a t => ⟨fun U hU => ?_, ts (a.1 _ hT) (fun z => h (z ▸ hT)) t a.2⟩, fun {H H'} a k => ⟨fun U hU => ?_, ?_⟩⟩
  · by_cases e : U = T
    · subst e
      exact t.1
    · obtain ⟨ps, e2, tr⟩ := a.1 _ hU
      exact ⟨ps, by rw [t.2 _ e]; exact e2, tr⟩
  · obtain ⟨ps, e2, tr⟩ := a.1 _ hU
    exact ⟨ps, k _ _ e2 (fun xs z => by cases z), tr⟩
  · obtain ⟨ps, e, tr, c⟩ := a.2
    refine ⟨ps, k _ _ e (fun xs z => by cases z), tr, fun pos cv q => ?_⟩
    obtain ⟨c', rfl, hc⟩ := c pos cv q
    exact ⟨c', rfl, k _ _ hc (fun xs z => by cases z)⟩
theorem amL_grow {G : List Addr} {TP : Addr} (h : TP ∉ G) (H H1 : Hp) (a : AmL G TP H) (g : GrowT TP H H1) (t : TabS H1 TP qL) : AmL G TP H1 := ⟨fun U hU => by
  obtain ⟨ps, e2, tr⟩ := a.1 _ hU
  exact ⟨ps, g _ _ (fun z => h (z ▸ hU)) e2, tr⟩, t⟩
theorem amL_start {G : List Addr} {TP : Addr} {H : Hp} (h : ∀ T ∈ TP :: G, H T = some (.tbl #[])) : AmL G TP H := by
  refine ⟨fun T hT => ⟨#[], h T (List.mem_cons_of_mem _ hT), ?_⟩, #[], h TP List.mem_cons_self, ?_, fun pos cv q => ?_⟩
  · first | exact True.intro | (unfold TriplesOk; simp) | exact .nil
  · first | exact True.intro | (unfold TriplesOk; simp) | exact .nil
  · cases q
/-- the context of a law: its tables of gens gs, its own TP -/
abbrev GG (K : PySem.W.Frag) (gs : List Addr) (TP : Addr) (cl : Nat → Addr) : Gx := ⟨K, AmL gs TP, cE K, cl⟩
theorem amX_of {K : PySem.W.Frag} {gs : List Addr} {TP : Addr} {cl : Nat → Addr} (h : TP ∉ gs) : AmX (GG K gs TP cl) gs := ⟨fun hT a => a.1 _ hT, fun hT a t => (amL_okX h).tabbed hT a t, fun {H H'} a k => ⟨fun U hU => by
  obtain ⟨ps, e2, tr⟩ := a.1 _ hU
  exact ⟨ps, k _ _ e2 (fun xs z => by cases z) (fun _ _ _ z => by cases z), tr⟩, by
  obtain ⟨ps, e, tr, c⟩ := a.2
  refine ⟨ps, k _ _ e (fun xs z => by cases z) (fun _ _ _ z => by cases z), tr, fun pos cv q => ?_⟩
  obtain ⟨c', rfl, hc⟩ := c pos cv q
  exact ⟨c', rfl, k _ _ hc (fun xs z => by cases z) (fun _ _ _ z => by cases z)⟩⟩⟩
theorem amW_of {K : PySem.W.Frag} {gs : List Addr} {TP : Addr} {cl : Nat → Addr} (h : TP ∉ gs) : AmW (GG K gs TP cl) TP qL := ⟨fun a => a.2, fun a g t => amL_grow h _ _ a g t⟩
/-! ### the Hook -/
structure HD where
  fas : List He.Fa
  fns : List He.DefD
  prs : List PrD
  tfs : List He.Defn
  ex : PySem.W.Frag → Bool
  dep : Nat
def HD.exA (D : HD) (K : PySem.W.Frag) : Bool := D.ex K && (D.prs.all fun p => propB K p)
abbrev AlP : Type := He.AlX × List He.FnW
def reach (D : HD) (g : Addr → Option Obj) : List Addr := PySem.cStatics :: He.asD g D.dep
def obY (D : HD) (g : Addr → Option Obj) : AlP :=
  let F := He.frT g (reach D g)
  (((He.obsD D.fas D.fns F, []), D.exA F && He.tabsB g D.tfs F), D.prs.map (prW F))
def vaY (D : HD) (w : World) : AlP := (He.valX D.fns [] w, D.prs.map PrD.val)
structure Says (D : HD) (w : World) (h : Heap) (K : PySem.W.Frag) : Prop where
  x : He.SaysX D.fas D.fns [] D.tfs D.exA w h K
  p : D.prs.map (prW K) = D.prs.map PrD.val
theorem obY_says {D : HD} {w : World} {h : Heap} (e : obY D h.get? = vaY D w) : Says D w h (He.frT h.get? (reach D h.get?)) := by
  have e0 : ((He.obsD D.fas D.fns (He.frT h.get? (reach D h.get?)), ([] : List _)), D.exA (He.frT h.get? (reach D h.get?)) && He.tabsB h.get? D.tfs (He.frT h.get? (reach D h.get?))) = He.valX D.fns [] w := congrArg Prod.fst e
  have q : (D.exA (He.frT h.get? (reach D h.get?)) && He.tabsB h.get? D.tfs (He.frT h.get? (reach D h.get?))) = true := congrArg Prod.snd e0
  have q1 := (He.ba q).1
  have q2 := fun p hp => He.ba (List.all_eq_true.mp (He.ba q).2 p hp)
  have q3 : ∀ p ∈ D.tfs, ∃ o, h.get? (He.cT (He.frT h.get? (reach D h.get?)) p).2 = some o ∧ He.emptyTab o = true := fun p hp => by
    have z := (q2 p hp).2
    cases hg : h.get? (He.cT (He.frT h.get? (reach D h.get?)) p).2 with
    | some o =>
      rw [hg] at z
      exact ⟨o, rfl, z⟩
    | none =>
      rw [hg] at z
      cases z
  refine ⟨⟨congrArg Prod.fst e0, q1, fun p hp => (q2 p hp).1, ?_, ?_⟩, congrArg Prod.snd e⟩
  · intro p hp
    obtain ⟨o, ho, hz⟩ := q3 p hp
    exact He.frT_none ho hz
  · intro p hp
    obtain ⟨o, ho, hz⟩ := q3 p hp
    rw [ho, He.emptyTab_eq hz]
def hkX (D : HD) : PySem.W.Hook where
  α := AlP
  obs := fun s => obY D s.heap.get?
  val := fun w => vaY D w
  says := fun w h => ∃ K : PySem.W.Frag, K.In h ∧ Says D w h K
  of := fun _ _ e => ⟨_, He.frT_in, obY_says e⟩
  keeps := fun _ h h' ⟨K, i, c⟩ k => ⟨K, i.keeps k, ⟨⟨c.x.t, c.x.more, c.x.hd, c.x.out, fun p hp => k _ _ (c.x.empty p hp)⟩, c.p⟩⟩
def obX (D : HD) (s : PySem.W.SharedT) : AlP := obY D (HandSHeadRun.getT s)
theorem obX_eq (D : HD) (s : PySem.W.SharedT) : obX D s = (hkX D).obs s.abs := by
  show obY D (HandSHeadRun.getT s) = obY D s.abs.heap.get?
  rw [show HandSHeadRun.getT s = s.abs.heap.get? from funext fun a => HandSHeadRun.getT_eq s a]
section
variable {D : HD} {w : World} {h : Heap} {K : PySem.W.Frag} {mg : Str → Option Value} {base : Heap}
theorem Says.fact (c : Says D w h K) (i : Nat) {f : He.Fa} (hi : D.fas[i]? = some f := by rfl) : f.ok K = true := c.x.t.d.fact i hi
theorem Says.fd (c : Says D w h K) (i : Nat) {d : He.DefD} (hi : D.fns[i]? = some d := by rfl) : FunD K d.name d.qual d.params d.body d.scope (d.dvs K) (d.kws K) (He.fAd K d.at_) (fdOf K d.at_) := funD_fd (c.x.t.d.def_ i hi)
theorem Says.pr (c : Says D w h K) (i : Nat) {d : PrD} (hi : D.prs[i]? = some d := by rfl) : PropOf K (He.ga K d.cls) d.f (gp K d.cls d.f).1 (gp K d.cls d.f).2 ∧ Fun K d.f d.qual d.st (gp K d.cls d.f).2 (fdAt K (gp K d.cls d.f).2) := by
  have e2 : (D.prs.map (prW K))[i]? = (D.prs.map PrD.val)[i]? := by rw [c.p]
  rw [List.getElem?_map, List.getElem?_map, hi] at e2
  exact PrD.fun_ (Option.some.inj e2) (List.all_eq_true.mp (He.ba c.x.more).2 d (List.mem_of_getElem? hi))
theorem Says.ex (c : Says D w h K) : D.ex K = true := (He.ba c.x.more).1
theorem fun_of {x qual : Str} {st : Stmt} {f : Addr} {fd : FuncData} (F : FunD K x qual (defArgs st) (defBody st) (defScope st) [] [] f fd) : Fun K x qual st f fd := by
  obtain ⟨oc, od, dV, kV, doc, pm, an, cdv, ct, osl, e, lk, hcd, hD, hK⟩ := F.ex
  have e2 : dV = .none := by
    rcases hD with ⟨_, h⟩ | ⟨h, _⟩
    · exact h
    · exact absurd rfl h
  subst e2
  exact ⟨⟨oc, od, kV, doc, pm, an, cdv, ct, osl, e, lk, hcd⟩, F.kp⟩
theorem own_ofX {x q : Str} {a : Arguments} {b : List Stmt} {s : Scope} {dvs : List V} {kws : List (Str × V)} {p : Str × Option Str} (F : FunD K x q a b s dvs kws (He.fAd K p) (fdOf K p)) (T : LamX.TabB base mg (He.cT K p).1 (He.cT K p).2) : OwnX mg base (fdOf K p) (He.cT K p).1 (He.cT K p).2 := by
  obtain ⟨oc, od, dV, kV, doc, pm, an, cdv, ct, osl, e, lk, hcd, _⟩ := F.ex
  obtain ⟨c, rfl⟩ := He.codeIn_ref hcd
  have e1 : (fdOf K p).code = .ref c := by rw [e]
  exact ⟨by rw [e1]; exact congrArg Value.ref (He.codeOf_eq lk e1).symm, ⟨T.code, T.bm, T.gP⟩⟩
end
/-! ### own errors made -/
theorem small_text {a y : Str} (ha : a.length ≤ 1000) (hy : y.length ≤ 2000) : (a ++ y).length ≤ sizeLine := by
  have e : (a ++ y).length = a.length + y.length := by
    show (a.cps ++ y.cps).size = _
    rw [Array.size_append]
    rfl
  rw [e, sizeLine_eq]
  omega
/-- the message's second part, whatever it tells -/
theorem rd_fmt {te : TE} {σ : L2.St} {H : Hp} {v : V} {acc : Str} {Q : Str → Hp → Prop} (he : ∀ Q : VK, Q v H → te σ H Q) (hv : (∃ y : Str, v = .str y ∧ y.length ≤ 100) ∨ (∃ i : Int, v = .int i ∧ i.natAbs.log2 < 1000) ∨ v = .non) (ha : acc.length ≤ 1000)
    (q : ∀ out, Q out H) : tFmtN te σ H (fun x H1 => ∃ y : Str, x = .str y ∧ (acc ++ y).length ≤ sizeLine ∧ tJs [] (acc ++ y) σ H1 Q) := by
  refine he _ ?_
  rcases hv with ⟨y, rfl, hy⟩ | ⟨i, rfl, hi⟩ | rfl
  · exact .inl ⟨y, rfl, by rw [sizeLine_eq]; omega, _, rfl, small_text ha (by omega), q _⟩
  · refine .inr (.inl ⟨i, rfl, by omega, _, rfl, small_text ha ?_, q _⟩)
    have := int_text_len_1921 (i := i) (by omega)
    exact Nat.le_trans this (by decide)
  · exact .inr (.inr ⟨rfl, _, rfl, small_text ha (by decide +kernel), q _⟩)
end Mx

/-! ### MkG0 -/
set_option Elab.async false
set_option linter.all false
set_option maxRecDepth 100000
set_option maxHeartbeats 4000000
namespace Mx
open PySem PySem.Spec PyProof.Rows L2
open GxR (TabG Tabbed)
/-- the text -/
def top (i : Nat) : Stmt := PySem.Challenge.pw_markspass_k09_whole_desks.main.body.getD i (.Pass ⟨0, 0, 0, 0⟩)
structure Fx (P : Program) (w : World) (G : Gx) (T : List Addr) (mg : Str → Option Value) (base : Heap) : Prop where
  M : AmX G T
  z_all : mg "all" = none
  z_bool : mg "bool" = none
  z_enumerate : mg "enumerate" = none
  z_int : mg "int" = none
  z_isinstance : mg "isinstance" = none
  z_len : mg "len" = none
  z_list : mg "list" = none
  z_range : mg "range" = none
  z_str : mg "str" = none
  z_tuple : mg "tuple" = none
  i_CLOSING : ∃ t, mg "CLOSING" = some (.int (-1) t)
  i_MOST_LENGTH : ∃ t, mg "MOST_LENGTH" = some (.int (2000) t)
  i_MOST_NAMES : ∃ t, mg "MOST_NAMES" = some (.int (3) t)
  i_MOST_STATES : ∃ t, mg "MOST_STATES" = some (.int (6) t)
  s_BLIND : ∃ t, mg "BLIND" = some (.str "blind" t)
  s_CLOSING_SIGN : ∃ t, mg "CLOSING_SIGN" = some (.str ")" t)
  s_DONE : ∃ t, mg "DONE" = some (.str "done" t)
  s_NAMED : ∃ t, mg "NAMED" = some (.str "named" t)
  s_SIGNS : ∃ t, mg "SIGNS" = some (.str "abc)" t)
  e_BadManner : Er0 G mg "BadManner" 3
  e_BadStep : Er0 G mg "BadStep" 12
  e_BadLine : ∃ fI fd, Er1 P w G mg base "BadLine" "line" 11 fI fd
  e_BadQuestion : ∃ fI fd, Er1 P w G mg base "BadQuestion" "part" 1 fI fd
  e_BadReader : ∃ fI fd, Er1 P w G mg base "BadReader" "part" 2 fI fd
  e_TooMany : ∃ fI fd, Er1 P w G mg base "TooMany" "most" 13 fI fd
  wd : WordX G mg
  g_Desk : mg "Desk" = some (.ref (G.cl 0))
  mkA_Desk : PySem.W.makesIn G.K (G.cl 0) = true
  kp_Desk : PySem.W.keepIn G.K (.ref (G.cl 0)) = true
  cl_Desk : Cls G.K (G.cl 0)
  na_Desk__closed : NoAttr G.K (G.cl 0) "_closed"
  na_Desk__erred : NoAttr G.K (G.cl 0) "_erred"
  na_Desk__left_open : NoAttr G.K (G.cl 0) "_left_open"
  na_Desk__manner : NoAttr G.K (G.cl 0) "_manner"
  na_Desk__question : NoAttr G.K (G.cl 0) "_question"
  na_Desk__reader : NoAttr G.K (G.cl 0) "_reader"
  na_Desk__states : NoAttr G.K (G.cl 0) "_states"
  na_Desk__tags : NoAttr G.K (G.cl 0) "_tags"
def m_is_number : SM := (mRet (mAndV (mCB fIsi (mCons (mVar 0) (mCons (mC (.ty "int")) mNil))) (mAndV (mNotV (mCB fIsi (mCons (mVar 0) (mCons (mC (.ty "bool")) mNil)))) (mChain (fI2 fun i j => .bl (decide (i ≤ j))) (fI2 fun i j => .bl (decide (i ≤ j))) (mVar 1) (mVar 0) (mVar 2)))))
def f_is_number : FM := mDef m_is_number 0
def m_is_tuple_of : SM := (mRet (mAndV (mCB fIsi (mCons (mVar 0) (mCons (mC (.ty "tuple")) mNil))) (mChain (fI2 fun i j => .bl (decide (i ≤ j))) (fI2 fun i j => .bl (decide (i ≤ j))) (mVar 1) (mCB fLen (mCons (mVar 0) mNil)) (mVar 2))))
def f_is_tuple_of : FM := mDef m_is_tuple_of 0
def m_are_numbers : SM := (mRet (mAndV (mCall f_is_tuple_of 3 [] (mCons (mVar 0) (mCons (mVar 1) (mCons (mVar 1) mNil)))) (mAll (miTup (mVar 0)) (gmName 3) (mCall f_is_number 3 [] (mCons (mVar 3) (mCons (mC (.int 0)) (mCons (mVar 2) mNil)))) [3])))
def f_are_numbers : FM := mDef m_are_numbers 1
def m_are_steps : SM := (mSeq (mIfS (mOr (mNot (mB (mCall f_is_tuple_of 3 [] (mCons (mVar 0) (mCons (mC (.int 1)) (mCons (mC (.int (6))) mNil)))))) (mNot (mB (mCall f_is_tuple_of 3 [] (mCons (m2 fIx (mVar 0) (mC (.int 0))) (mCons (mC (.int 1)) (mCons (mC (.int (3))) mNil))))))) (mRet (mC (.bl false))) mNx)
    (mSeq (mAsg (mCB fLen (mCons (m2 fIx (mVar 0) (mC (.int 0))) mNil)) (gmName 1))
    (mSeq (mAsg (m2 (fI2 fun i j => .int (i - j)) (mCB fLen (mCons (mVar 0) mNil)) (mC (.int 1))) (gmName 2))
    (mRet (mAll (miTup (mVar 0)) (gmName 3) (mCall f_are_numbers 3 [] (mCons (mVar 3) (mCons (mVar 1) (mCons (mVar 2) mNil)))) [3])))))
def f_are_steps : FM := mDef m_are_steps 3
def m_check_question : SM := (mSeq (mIfS (mNot (mB (mCall f_is_tuple_of 3 [] (mCons (mVar 0) (mCons (mC (.int 2)) (mCons (mC (.int 2)) mNil)))))) (mRz1 1 "part" (mCons (mC (.str "question")) mNil)) mNx)
    (mSeq (mAsg (mVar 0) (gmTup 2 (gmCons (gmName 1) (gmCons (gmName 2) gmNil))))
    (mSeq (mIfS (mNot (mB (mCall f_are_steps 1 [] (mCons (mVar 1) mNil)))) (mRz1 1 "part" (mCons (mC (.str "steps")) mNil)) mNx)
    (mIfS (mNot (mB (mCall f_are_numbers 3 [] (mCons (mVar 2) (mCons (mCB fLen (mCons (mVar 1) mNil)) (mCons (mC (.int 1)) mNil)))))) (mRz1 1 "part" (mCons (mC (.str "answers")) mNil)) mNx))))
def f_check_question : FM := mDef m_check_question 2
def m_names_of : SM := (mRet (mCB fLen (mCons (m2 fIx (m2 fIx (mVar 0) (mC (.int 0))) (mC (.int 0))) mNil)))
def f_names_of : FM := mDef m_names_of 0
def m_check_manner : SM := (mIfS (mB (m2 fNotIn (mVar 0) (mTup (mCons (mC (.str "named")) (mCons (mC (.str "blind")) mNil))))) (mRz0 3) mNx)
def f_check_manner : FM := mDef m_check_manner 0
def m_is_pair : SM := (mRet (mAndV (mCall f_is_tuple_of 3 [] (mCons (mVar 0) (mCons (mC (.int 2)) (mCons (mC (.int 2)) mNil)))) (mAndV (mCall f_is_number 3 [] (mCons (m2 fIx (mVar 0) (mC (.int 0))) (mCons (mC (.int 0)) (mCons (mVar 1) mNil)))) (mCall f_is_number 3 [] (mCons (m2 fIx (mVar 0) (mC (.int 1))) (mCons (mC (.int 0)) (mCons (mC (.int 1)) mNil)))))))
def f_is_pair : FM := mDef m_is_pair 0
def m_are_pairs : SM := (mRet (mAndV (mCall f_is_tuple_of 3 [] (mCons (mVar 0) (mCons (mVar 1) (mCons (mVar 1) mNil)))) (mAll (miTup (mVar 0)) (gmName 3) (mCall f_is_pair 2 [] (mCons (mVar 3) (mCons (mVar 2) mNil))) [3])))
def f_are_pairs : FM := mDef m_are_pairs 1
def m_are_opens : SM := (mSeq (mIfS (mNot (mB (mCall f_is_tuple_of 3 [] (mCons (mVar 0) (mCons (mC (.int 1)) (mCons (mVar 2) mNil)))))) (mRet (mC (.bl false))) mNx)
    (mSeq (mAsg (m2 (fI2 fun i j => .int (i - j)) (mCB fLen (mCons (mVar 0) mNil)) (mC (.int 1))) (gmName 3))
    (mRet (mAll (miTup (mVar 0)) (gmName 4) (mCall f_are_pairs 3 [] (mCons (mVar 4) (mCons (mVar 1) (mCons (mVar 3) mNil)))) [4]))))
def f_are_opens : FM := mDef m_are_opens 2
def m_are_closes : SM := (mSeq (mAsg (m2 (fI2 fun i j => .int (i - j)) (mVar 1) (mC (.int 1))) (gmName 3))
    (mRet (mAndV (mCall f_is_tuple_of 3 [] (mCons (mVar 0) (mCons (mVar 1) (mCons (mVar 1) mNil)))) (mAll (miTup (mVar 0)) (gmName 4) (mCall f_are_numbers 3 [] (mCons (mVar 4) (mCons (mVar 2) (mCons (mVar 3) mNil)))) [4]))))
def f_are_closes : FM := mDef m_are_closes 2
def m_ways_to_close : SM := (mRet (mIf (mB (m2 fEq (mVar 1) (mC (.str "named")))) (mVar 0) (mC (.int 1))))
def f_ways_to_close : FM := mDef m_ways_to_close 0
def m_wrong_part : SM := (mSeq (mIfS (mNot (mB (mCall f_is_tuple_of 3 [] (mCons (mVar 2) (mCons (mC (.int 2)) (mCons (mC (.int 2)) mNil)))))) (mRet (mC (.str "reader"))) mNx)
    (mSeq (mAsg (mVar 2) (gmTup 2 (gmCons (gmName 4) (gmCons (gmName 5) gmNil))))
    (mSeq (mIfS (mNot (mB (mCall f_are_opens 3 [] (mCons (mVar 4) (mCons (mVar 0) (mCons (mVar 3) mNil)))))) (mRet (mC (.str "opens"))) mNx)
    (mSeq (mIfS (mNot (mB (mCall f_are_closes 3 [] (mCons (mVar 5) (mCons (mCB fLen (mCons (mVar 4) mNil)) (mCons (mCall f_ways_to_close 2 [] (mCons (mVar 0) (mCons (mVar 1) mNil))) mNil)))))) (mRet (mC (.str "closes"))) mNx)
    (mRet (mC .non))))))
def f_wrong_part : FM := mDef m_wrong_part 2
def m_check_reader : SM := (mSeq (mAsg (mCall f_wrong_part 4 [] (mCons (mVar 0) (mCons (mVar 1) (mCons (mVar 2) (mCons (mVar 3) mNil))))) (gmName 4))
    (mIfS (mB (m2 fNotN (mVar 4) (mC .non))) (mRz1 2 "part" (mCons (mVar 4) mNil)) mNx))
def f_check_reader : FM := mDef m_check_reader 1
def m_check_reading : SM := (mSeq (mDrop (mCall f_check_question 1 [] (mCons (mVar 0) mNil)))
    (mSeq (mDrop (mCall f_check_manner 1 [] (mCons (mVar 1) mNil)))
    (mDrop (mCall f_check_reader 4 [] (mCons (mCall f_names_of 1 [] (mCons (mVar 0) mNil)) (mCons (mVar 1) (mCons (mVar 2) (mCons (mVar 3) mNil))))))))
def f_check_reading : FM := mDef m_check_reading 0
def m_behind_closing : SM := (mSeq (mAsg (m2 fIx (m2 fIx (mVar 1) (mC (.int 1))) (mVar 2)) (gmName 4))
    (mRet (mIf (mB (m2 fEq (mVar 0) (mC (.str "named")))) (m2 fIx (mVar 4) (mVar 3)) (m2 fIx (mVar 4) (mC (.int 0))))))
def f_behind_closing : FM := mDef m_behind_closing 1
def m_text_of : SM := (mRet (mM1 fJoin (mC (.str "")) (mLc (miLst (mVar 0)) (gmName 1) (fun _ st => .ok (true, st)) (m2 fIx (mC (.str "abc)")) (mVar 1)) [1])))
def f_text_of : FM := mDef m_text_of 1
def m_tag_of : SM := (mSeq (mIfS (mB (m2 fEq (mVar 1) (mC (.str ")")))) (mRet (mC (.int (-1)))) mNx)
    (mSeq (mAsg (mM1 fFind (mC (.str "abc)")) (mVar 1)) (gmName 2))
    (mRet (mIf (mB (mChain (fI2 fun i j => .bl (decide (i ≤ j))) (fI2 fun i j => .bl (decide (i < j))) (mC (.int 0)) (mVar 2) (mVar 0))) (mVar 2) (mC .non)))))
def f_tag_of : FM := mDef m_tag_of 1
def m_words_of : SM := (mRet (mM1 fJoin (mC (.str " ")) (mLc (miTup (mVar 0)) (gmName 1) (fun _ st => .ok (true, st)) (mCB fStrI (mCons (mVar 1) mNil)) [1])))
def f_words_of : FM := mDef m_words_of 1
def m_Desk___init__ : SM := (mSeq (mDrop (mCall f_check_reading 4 [A.int (6)] (mCons (mVar 1) (mCons (mVar 2) (mCons (mVar 3) mNil)))))
    (mSeq (mSetF 0 "_question" (mVar 0) (mVar 1))
    (mSeq (mSetF 0 "_manner" (mVar 0) (mVar 2))
    (mSeq (mSetF 0 "_reader" (mVar 0) (mVar 3))
    (mSeq (mSetF 0 "_tags" (mVar 0) (mLst mNil))
    (mSeq (mSetF 0 "_states" (mVar 0) (mLst (mCons (mC (.int 0)) mNil)))
    (mSeq (mSetF 0 "_left_open" (mVar 0) (mLst mNil))
    (mSeq (mSetF 0 "_closed" (mVar 0) (mLst mNil))
    (mSetF 0 "_erred" (mVar 0) (mLst mNil))))))))))
def f_Desk___init__ : FM := mDef m_Desk___init__ 0
def m_Desk__pass_closing : SM := (mSeq (mAsg (mBM0 "list" fPop (mFld 0 "_left_open" (mVar 0))) (gmName 1))
    (mSeq (mDrop (mBM "list" fAppend (mFld 0 "_closed" (mVar 0)) (mCons (mVar 1) mNil)))
    (mDrop (mBM "list" fAppend (mFld 0 "_states" (mVar 0)) (mCons (mCall f_behind_closing 4 [] (mCons (mFld 0 "_manner" (mVar 0)) (mCons (mFld 0 "_reader" (mVar 0)) (mCons (m2 fIx (mFld 0 "_states" (mVar 0)) (m1 (fU fun i => .int (-i)) (mC (.int 1)))) (mCons (m2 fIx (mVar 1) (mC (.int 0))) mNil))))) mNil)))))
def f_Desk__pass_closing : FM := mDef m_Desk__pass_closing 1
def m_Desk__pass_opening : SM := (mSeq (mAsg (mFld 0 "_question" (mVar 0)) (gmTup 2 (gmCons (gmName 2) (gmCons (gmName 3) gmNil))))
    (mSeq (mAsg (mIf (mB (m2 (fI2 fun i j => .bl (decide (j < i))) (mCB fLen (mCons (mFld 0 "_left_open" (mVar 0)) mNil)) (mC (.int 0)))) (m2 fIx (m2 fIx (mFld 0 "_left_open" (mVar 0)) (m1 (fU fun i => .int (-i)) (mC (.int 1)))) (mC (.int 1))) (mC (.int 0))) (gmName 4))
    (mSeq (mAsg (m2 fIx (m2 fIx (mVar 2) (mVar 4)) (mVar 1)) (gmName 5))
    (mSeq (mAsg (m2 fIx (m2 fIx (m2 fIx (mFld 0 "_reader" (mVar 0)) (mC (.int 0))) (m2 fIx (mFld 0 "_states" (mVar 0)) (m1 (fU fun i => .int (-i)) (mC (.int 1))))) (mVar 1)) (gmTup 2 (gmCons (gmName 6) (gmCons (gmName 7) gmNil))))
    (mSeq (mDrop (mBM "list" fAppend (mFld 0 "_left_open" (mVar 0)) (mCons (mTup (mCons (mVar 1) (mCons (mVar 5) mNil))) mNil)))
    (mSeq (mDrop (mBM "list" fAppend (mFld 0 "_states" (mVar 0)) (mCons (mVar 6) mNil)))
    (mSeq (mDrop (mBM "list" fAppend (mFld 0 "_erred" (mVar 0)) (mCons (m2 fNe (mVar 7) (m2 fIx (mVar 3) (mVar 5))) mNil)))
    (mRet (mTup (mCons (m2 fIx (mVar 3) (mVar 5)) (mCons (mVar 7) mNil)))))))))))
def f_Desk__pass_opening : FM := mDef m_Desk__pass_opening 6
def m_Desk_tag : SM := (mSeq (mIfS (mNot (mB (mCall f_is_number 3 [] (mCons (mVar 1) (mCons (mC (.int (-1))) (mCons (m2 (fI2 fun i j => .int (i - j)) (mCall f_names_of 1 [] (mCons (mFld 0 "_question" (mVar 0)) mNil)) (mC (.int 1))) mNil)))))) (mRz0 12) mNx)
    (mSeq (mIfS (mAnd (mB (m2 fEq (mVar 1) (mC (.int (-1))))) (mB (m2 fEq (mCB fLen (mCons (mFld 0 "_left_open" (mVar 0)) mNil)) (mC (.int 0))))) (mRz0 12) mNx)
    (mSeq (mIfS (mB (m2 fEq (mCB fLen (mCons (mFld 0 "_tags" (mVar 0)) mNil)) (mC (.int (2000))))) (mRz1 13 "most" (mCons (mC (.int (2000))) mNil)) mNx)
    (mSeq (mDrop (mBM "list" fAppend (mFld 0 "_tags" (mVar 0)) (mCons (mVar 1) mNil)))
    (mSeq (mIfS (mB (m2 fEq (mVar 1) (mC (.int (-1))))) (mSeq (mDrop (mMeth 0 "_pass_closing" f_Desk__pass_closing 1 (mVar 0) mNil))
    (mRet (mC .non))) mNx)
    (mRet (mMeth 0 "_pass_opening" f_Desk__pass_opening 2 (mVar 0) (mCons (mVar 1) mNil))))))))
def f_Desk_tag : FM := mDef m_Desk_tag 0
def m_Desk_back : SM := (mSeq (mIfS (mB (m2 fEq (mCB fLen (mCons (mFld 0 "_tags" (mVar 0)) mNil)) (mC (.int 0)))) (mRz0 12) mNx)
    (mSeq (mDrop (mBM0 "list" fPop (mFld 0 "_states" (mVar 0))))
    (mIfS (mB (m2 fEq (mBM0 "list" fPop (mFld 0 "_tags" (mVar 0))) (mC (.int (-1))))) (mDrop (mBM "list" fAppend (mFld 0 "_left_open" (mVar 0)) (mCons (mBM0 "list" fPop (mFld 0 "_closed" (mVar 0))) mNil))) (mSeq (mDrop (mBM0 "list" fPop (mFld 0 "_left_open" (mVar 0))))
    (mDrop (mBM0 "list" fPop (mFld 0 "_erred" (mVar 0))))))))
def f_Desk_back : FM := mDef m_Desk_back 0
def m_Desk_row : SM := (mRet (mCB fTuple (mCons (mFld 0 "_tags" (mVar 0)) mNil)))
def f_Desk_row : FM := mDef m_Desk_row 0
def m_Desk_state : SM := (mRet (m2 fIx (mFld 0 "_states" (mVar 0)) (m1 (fU fun i => .int (-i)) (mC (.int 1)))))
def f_Desk_state : FM := mDef m_Desk_state 0
def m_Desk_wrong : SM := (mRet (mCB fTuple (mCons (mLc (miEnL (mCons (mFld 0 "_erred" (mVar 0)) mNil)) (gmTup 2 (gmCons (gmName 1) (gmCons (gmName 2) gmNil))) (mB (mVar 2)) (mVar 1) [1, 2]) mNil)))
def f_Desk_wrong : FM := mDef m_Desk_wrong 2
def m_Desk__do_tag : SM := (mSeq (mAsg (mIf (mB (m2 fEq (mCB fLen (mCons (mVar 1) mNil)) (mC (.int 1)))) (mCall f_tag_of 2 [] (mCons (mCall f_names_of 1 [] (mCons (mFld 0 "_question" (mVar 0)) mNil)) (mCons (mVar 1) mNil))) (mC .non)) (gmName 2))
    (mSeq (mIfS (mB (m2 fIsN (mVar 2) (mC .non))) (mRz1 11 "line" (mCons (mC (.int 0)) mNil)) mNx)
    (mSeq (mAsg (mMeth 0 "tag" f_Desk_tag 2 (mVar 0) (mCons (mVar 2) mNil)) (gmName 3))
    (mRet (mIf (mB (m2 fIsN (mVar 3) (mC .non))) (mC (.str "done")) (mCall f_words_of 1 [] (mCons (mVar 3) mNil)))))))
def f_Desk__do_tag : FM := mDef m_Desk__do_tag 2
def m_Desk_do : SM := (mSeq (mIfS (mNot (mB (mCB fIsi (mCons (mVar 1) (mCons (mC (.ty "str")) mNil))))) (mRz1 11 "line" (mCons (mC (.int 0)) mNil)) mNx)
    (mSeq (mIfS (mB (m2 fEq (mVar 1) (mC (.str "back")))) (mSeq (mDrop (mMeth 0 "back" f_Desk_back 1 (mVar 0) mNil))
    (mRet (mC (.str "done")))) mNx)
    (mSeq (mIfS (mB (m2 fEq (mVar 1) (mC (.str "row")))) (mRet (mCall f_text_of 1 [] (mCons (mFld 0 "_tags" (mVar 0)) mNil))) mNx)
    (mSeq (mIfS (mB (m2 fEq (mVar 1) (mC (.str "state")))) (mRet (mCB fStrI (mCons (mProp 0 f_Desk_state (mVar 0)) mNil))) mNx)
    (mSeq (mIfS (mB (m2 fEq (mVar 1) (mC (.str "wrong")))) (mRet (mCall f_words_of 1 [] (mCons (mProp 0 f_Desk_wrong (mVar 0)) mNil))) mNx)
    (mRet (mMeth 0 "_do_tag" f_Desk__do_tag 2 (mVar 0) (mCons (mVar 1) mNil))))))))
def f_Desk_do : FM := mDef m_Desk_do 0
def m__law_pick : SM := (mRet (m2 fIx (mVar 1) (mCall fTaken 2 [] (mCons (mVar 0) (mCons (mCB fLen (mCons (mVar 1) mNil)) mNil)))))
def f__law_pick : FM := mDef m__law_pick 0
def m__law_led : SM := (mSeq (mFor (miTup (mVar 2)) (gmName 3)
    (mAsg (m2 fIx (m2 fIx (m2 fIx (mVar 0) (mC (.int 0))) (mVar 1)) (mVar 3)) (gmName 1)))
    (mRet (mVar 1)))
def f__law_led : FM := mDef m__law_led 1
def m__law_answer : SM := (mRet (m2 fIx (m2 fIx (mVar 0) (mC (.int 1))) (mCall f__law_led 3 [] (mCons (mVar 0) (mCons (mC (.int 0)) (mCons (mVar 1) mNil))))))
def f__law_answer : FM := mDef m__law_answer 0
def m__law_paths : SM := (mSeq (mPar 1 2 (mCons (mTup mNil) (mCons (mLst mNil) mNil)))
    (mSeq (mFor (miTup (mVar 0)) (gmName 3)
    (mSeq (mAsg (mIf (mB (m2 (fI2 fun i j => .bl (decide (j ≤ i))) (mVar 3) (mC (.int 0)))) (m2 fCatT (mVar 1) (mTup (mCons (mVar 3) mNil))) (mSl fSlT (mVar 1) moNone (moSome (m1 (fU fun i => .int (-i)) (mC (.int 1)))))) (gmName 1))
    (mAsg (m2 fCatL (mVar 2) (mIf (mB (m2 (fI2 fun i j => .bl (decide (j ≤ i))) (mVar 3) (mC (.int 0)))) (mLst (mCons (mVar 1) mNil)) (mLst mNil))) (gmName 2))))
    (mRet (mTup (mCons (mVar 2) (mCons (mVar 1) mNil))))))
def f__law_paths : FM := mDef m__law_paths 3
def m__law_question : SM := (mSeq (mAsg (mTup (mCons (m2 (fI2 fun i j => .int (i + j)) (mC (.int 1)) (mCall fTaken 2 [] (mCons (mVar 0) (mCons (mVar 1) mNil)))) (mCons (m2 (fI2 fun i j => .int (i + j)) (mC (.int 1)) (mCall fTaken 2 [] (mCons (mVar 0) (mCons (mVar 2) mNil)))) (mCons (mLst mNil) mNil)))) (gmTup 3 (gmCons (gmName 3) (gmCons (gmName 4) (gmCons (gmName 5) gmNil)))))
    (mSeq (mAsg (mCall fTaken 2 [] (mCons (mVar 0) (mCons (mC (.int 3)) mNil))) (gmName 6))
    (mSeq (mFor (miRng1 (mCons (mVar 4) mNil)) (gmName 7)
    (mSeq (mPar 9 10 (mCons (mListR (mVar 3)) (mCons (mLst mNil) mNil)))
    (mSeq (mFor (miRng1 (mCons (mVar 3) mNil)) (gmName 11)
    (mDrop (mBM "list" fAppend (mVar 10) (mCons (mIf (mB (m2 (fI2 fun i j => .bl (decide (j < i))) (mVar 6) (mC (.int 0)))) (mBM "list" fPopAt (mVar 9) (mCons (mCall fTaken 2 [] (mCons (mVar 0) (mCons (mCB fLen (mCons (mVar 9) mNil)) mNil))) mNil)) (mCall fTaken 2 [] (mCons (mVar 0) (mCons (mVar 3) mNil)))) mNil))))
    (mSeq (mIfS (mAnd (mB (m2 fEq (mVar 6) (mC (.int 2)))) (mB (m2 (fI2 fun i j => .bl (decide (j < i))) (mVar 3) (mC (.int 1))))) (mAsg (mCall fTaken 2 [] (mCons (mVar 0) (mCons (mVar 3) mNil))) (gmSub (mVar 10) (mCall fTaken 2 [] (mCons (mVar 0) (mCons (mVar 3) mNil))))) mNx)
    (mDrop (mBM "list" fAppend (mVar 5) (mCons (mVar 10) mNil)))))))
    (mSeq (mAsg (mCB fTuple (mCons (mLc (miRng1 (mCons (mVar 3) mNil)) (gmName 11) (fun _ st => .ok (true, st)) (mCall fTaken 2 [] (mCons (mVar 0) (mCons (mC (.int 2)) mNil))) [11]) mNil)) (gmName 8))
    (mRet (mTup (mCons (mCB fTuple (mCons (mLc (miRng1 (mCons (mVar 3) mNil)) (gmName 11) (fun _ st => .ok (true, st)) (mCB fTuple (mCons (mLc (miLst (mVar 5)) (gmName 10) (fun _ st => .ok (true, st)) (m2 fIx (mVar 10) (mVar 11)) [10]) mNil)) [11]) mNil)) (mCons (mVar 8) mNil))))))))
def f__law_question : FM := mDef m__law_question 9
def m__law_reader : SM := (mSeq (mAsg (mTup (mCons (m2 (fI2 fun i j => .int (i + j)) (mC (.int 1)) (mCall fTaken 2 [] (mCons (mVar 0) (mCons (mVar 3) mNil)))) (mCons (mLst mNil) (mCons (mLst mNil) mNil)))) (gmTup 3 (gmCons (gmName 4) (gmCons (gmName 5) (gmCons (gmName 6) gmNil)))))
    (mSeq (mFor (miRng1 (mCons (mVar 4) mNil)) (gmName 7)
    (mSeq (mDrop (mBM "list" fAppend (mVar 5) (mCons (mCB fTuple (mCons (mLc (miRng1 (mCons (mVar 1) mNil)) (gmName 8) (fun _ st => .ok (true, st)) (mTup (mCons (mCall fTaken 2 [] (mCons (mVar 0) (mCons (mVar 4) mNil))) (mCons (mCall fTaken 2 [] (mCons (mVar 0) (mCons (mC (.int 2)) mNil))) mNil))) [8]) mNil)) mNil)))
    (mDrop (mBM "list" fAppend (mVar 6) (mCons (mCB fTuple (mCons (mLc (miRng1 (mCons (mIf (mB (m2 fEq (mVar 2) (mC (.str "named")))) (mVar 1) (mC (.int 1))) mNil)) (gmName 8) (fun _ st => .ok (true, st)) (mCall fTaken 2 [] (mCons (mVar 0) (mCons (mVar 4) mNil))) [8]) mNil)) mNil)))))
    (mRet (mTup (mCons (mCB fTuple (mCons (mVar 5) mNil)) (mCons (mCB fTuple (mCons (mVar 6) mNil)) mNil))))))
def f__law_reader : FM := mDef m__law_reader 5
def m__law_read : SM := (mSeq (mPar3 2 3 4 (mCons (mC (.int 0)) (mCons (mLst mNil) (mCons (mLst mNil) mNil))))
    (mSeq (mFor (miTup (mVar 1)) (gmName 5)
    (mIfS (mB (m2 (fI2 fun i j => .bl (decide (i < j))) (mVar 5) (mC (.int 0)))) (mSeq (mAsg (mBM0 "list" fPop (mVar 3)) (gmName 6))
    (mAsg (m2 fIx (m2 fIx (m2 fIx (mVar 0) (mC (.int 1))) (mVar 2)) (mIf (mB (m2 (fI2 fun i j => .bl (decide (j < i))) (mCB fLen (mCons (m2 fIx (m2 fIx (mVar 0) (mC (.int 1))) (mVar 2)) mNil)) (mC (.int 1)))) (mVar 6) (mC (.int 0)))) (gmName 2))) (mSeq (mDrop (mBM "list" fAppend (mVar 3) (mCons (mVar 5) mNil)))
    (mSeq (mAsg (m2 fIx (m2 fIx (m2 fIx (mVar 0) (mC (.int 0))) (mVar 2)) (mVar 5)) (gmTup 2 (gmCons (gmName 2) (gmCons (gmName 7) gmNil))))
    (mDrop (mBM "list" fAppend (mVar 4) (mCons (mVar 7) mNil)))))))
    (mRet (mTup (mCons (mVar 4) (mCons (mVar 2) mNil))))))
def f__law_read : FM := mDef m__law_read 6
def m__law_back : SM := (mSeq (mAsg (mLc (miRng1 (mCons (mCB fLen (mCons (m2 fIx (mVar 0) (mC (.int 0))) mNil)) mNil)) (gmName 4) (mB (m2 fEq (m2 fIx (m2 fIx (m2 fIx (mVar 0) (mC (.int 0))) (mVar 4)) (mVar 2)) (mVar 1))) (mVar 4) [4]) (gmName 3))
    (mRet (mIf (mB (m2 fNe (mVar 3) (mLst mNil))) (m2 fIx (mVar 3) (mC (.int 0))) (mVar 1))))
def f__law_back : FM := mDef m__law_back 2
def m__law_near : SM := (mSeq (mIfS (mB (m2 fEq (mCall fTaken 2 [] (mCons (mVar 0) (mCons (mC (.int 3)) mNil))) (mC (.int 0)))) (mRet (mCall f__law_reader 4 [] (mCons (mVar 0) (mCons (mVar 2) (mCons (mVar 3) (mCons (mC (.int 4)) mNil)))))) mNx)
    (mSeq (mAsg (mVar 1) (gmTup 2 (gmCons (gmName 4) (gmCons (gmName 5) gmNil))))
    (mSeq (mPar 6 7 (mCons (mLst mNil) (mCons (mLst mNil) mNil)))
    (mSeq (mFor (miRng1 (mCons (mCB fLen (mCons (mVar 4) mNil)) mNil)) (gmName 8)
    (mSeq (mDrop (mBM "list" fAppend (mVar 6) (mCons (mCB fTuple (mCons (mLc (miTup (m2 fIx (mVar 4) (mVar 8))) (gmName 10) (fun _ st => .ok (true, st)) (mTup (mCons (mVar 10) (mCons (m2 fIx (mVar 5) (mVar 10)) mNil))) [10]) mNil)) mNil)))
    (mDrop (mBM "list" fAppend (mVar 7) (mCons (mCB fTuple (mCons (mLc (miRng1 (mCons (mIf (mB (m2 fEq (mVar 3) (mC (.str "named")))) (mVar 2) (mC (.int 1))) mNil)) (gmName 11) (fun _ st => .ok (true, st)) (mCall f__law_back 3 [] (mCons (mVar 1) (mCons (mVar 8) (mCons (mVar 11) mNil)))) [11]) mNil)) mNil)))))
    (mSeq (mAsg (mCall fTaken 2 [] (mCons (mVar 0) (mCons (m2 fMul (mC (.int 2)) (mCB fLen (mCons (mVar 4) mNil))) mNil))) (gmName 9))
    (mSeq (mIfS (mAnd (mB (m2 (fI2 fun i j => .bl (decide (i < j))) (mVar 9) (mCB fLen (mCons (mVar 4) mNil)))) (mB (m2 fEq (mCall fTaken 2 [] (mCons (mVar 0) (mCons (mC (.int 2)) mNil))) (mC (.int 0))))) (mAsg (mCB fTuple (mCons (mLc (miTup (m2 fIx (mVar 7) (mVar 9))) (gmName 8) (fun _ st => .ok (true, st)) (mCall fTaken 2 [] (mCons (mVar 0) (mCons (mCB fLen (mCons (mVar 4) mNil)) mNil))) [8]) mNil)) (gmSub (mVar 7) (mVar 9))) mNx)
    (mRet (mTup (mCons (mCB fTuple (mCons (mVar 6) mNil)) (mCons (mCB fTuple (mCons (mVar 7) mNil)) mNil))))))))))
def f__law_near : FM := mDef m__law_near 8
def m__law_alike (rec : FM) : SM := (mSeq (mIfS (mB (mIsTL (mVar 1))) (mSeq (mIfS (mOr (mNot (mB (mIsTL (mVar 0)))) (mB (m2 fNe (mCB fIsi (mCons (mVar 0) (mCons (mC (.ty "list")) mNil))) (mCB fIsi (mCons (mVar 1) (mCons (mC (.ty "list")) mNil)))))) (mRet (mC (.bl false))) mNx)
    (mSeq (mIfS (mB (m2 fNe (mCB fLen (mCons (mVar 0) mNil)) (mCB fLen (mCons (mVar 1) mNil)))) (mRet (mC (.bl false))) mNx)
    (mRet (m2 fEq (mLc (miRng1 (mCons (mCB fLen (mCons (mVar 1) mNil)) mNil)) (gmName 2) (mNot (mB (mCall rec 2 [] (mCons (m2 fIx (mVar 0) (mVar 2)) (mCons (m2 fIx (mVar 1) (mVar 2)) mNil))))) (mVar 2) [2]) (mLst mNil))))) mNx)
    (mSeq (mIfS (mOr (mB (m2 fIsN (mVar 1) (mC .non))) (mB (mCB fIsi (mCons (mVar 1) (mCons (mC (.ty "str")) mNil))))) (mRet (mAndV (m2 fEq (mVar 0) (mVar 1)) (m2 fEq (mCB fIsi (mCons (mVar 0) (mCons (mC (.ty "str")) mNil))) (mCB fIsi (mCons (mVar 1) (mCons (mC (.ty "str")) mNil)))))) mNx)
    (mRet (mAndV (mCB fIsi (mCons (mVar 0) (mCons (mC (.ty "int")) mNil))) (mAndV (m2 fEq (mCB fIsi (mCons (mVar 0) (mCons (mC (.ty "bool")) mNil))) (mCB fIsi (mCons (mVar 1) (mCons (mC (.ty "bool")) mNil)))) (m2 fEq (mVar 0) (mVar 1)))))))
def f__law_alike : Nat → FM
  | 0 => fun _ _ => .fail
  | n + 1 => mDef (m__law_alike (f__law_alike n)) 1
def m__law_stands : SM := (mSeq (mAsg (mCall f__law_read 2 [] (mCons (mVar 2) (mCons (mVar 3) mNil))) (gmTup 2 (gmCons (gmName 4) (gmCons (gmName 5) gmNil))))
    (mSeq (mAsg (mLc (miLst (m2 fIx (mCall f__law_paths 1 [] (mCons (mVar 3) mNil)) (mC (.int 0)))) (gmName 8) (fun _ st => .ok (true, st)) (mCall f__law_answer 2 [] (mCons (mVar 1) (mCons (mVar 8) mNil))) [8]) (gmName 6))
    (mSeq (mAsg (mLc (miRng1 (mCons (mCB fLen (mCons (mVar 6) mNil)) mNil)) (gmName 9) (mB (m2 fNe (m2 fIx (mVar 6) (mVar 9)) (m2 fIx (mVar 4) (mVar 9)))) (mVar 9) [9]) (gmName 7))
    (mSeq (mIfS (mNot (mB (mCall (f__law_alike 60) 2 [] (mCons (mLst (mCons (mProp 0 f_Desk_row (mVar 0)) (mCons (mProp 0 f_Desk_state (mVar 0)) (mCons (mProp 0 f_Desk_wrong (mVar 0)) mNil)))) (mCons (mLst (mCons (mVar 3) (mCons (mVar 5) (mCons (mCB fTuple (mCons (mVar 7) mNil)) mNil)))) mNil))))) (mRet (mC (.bl false))) mNx)
    (mSeq (mIfS (mOr (mB (m2 fNe (mMeth 0 "do" f_Desk_do 2 (mVar 0) (mCons (mC (.str "row")) mNil)) (mM1 fJoin (mC (.str "")) (mLc (miTup (mVar 3)) (gmName 10) (fun _ st => .ok (true, st)) (m2 fIx (mC (.str ")abc")) (m2 (fI2 fun i j => .int (i + j)) (mVar 10) (mC (.int 1)))) [10])))) (mB (m2 fNe (mMeth 0 "do" f_Desk_do 2 (mVar 0) (mCons (mC (.str "state")) mNil)) (mCB fStrI (mCons (mVar 5) mNil))))) (mRet (mC (.bl false))) mNx)
    (mRet (m2 fEq (mMeth 0 "do" f_Desk_do 2 (mVar 0) (mCons (mC (.str "wrong")) mNil)) (mM1 fJoin (mC (.str " ")) (mLc (miLst (mVar 7)) (gmName 9) (fun _ st => .ok (true, st)) (mCB fStrI (mCons (mVar 9) mNil)) [9])))))))))
def f__law_stands : FM := mDef m__law_stands 7
def m_law : SM := (mSeq (mPar 2 3 (mCons (mCall f__law_question 3 [] (mCons (mVar 1) (mCons (mC (.int 4)) (mCons (mC (.int 2)) mNil)))) (mCons (mCall f__law_pick 2 [] (mCons (mVar 1) (mCons (mLst (mCons (mC (.str "named")) (mCons (mC (.str "blind")) mNil))) mNil))) mNil)))
    (mSeq (mAsg (mCB fLen (mCons (m2 fIx (m2 fIx (mVar 2) (mC (.int 0))) (mC (.int 0))) mNil)) (gmName 4))
    (mSeq (mAsg (mCall f__law_near 4 [] (mCons (mVar 1) (mCons (mVar 2) (mCons (mVar 4) (mCons (mVar 3) mNil))))) (gmName 5))
    (mSeq (mAsg (mTup (mCons (mMake 0 f_Desk___init__ 4 (mCons (mVar 2) (mCons (mVar 3) (mCons (mVar 5) mNil)))) (mCons (mTup mNil) mNil))) (gmTup 2 (gmCons (gmName 6) (gmCons (gmName 7) gmNil))))
    (mSeq (mFor (miRng1 (mCons (mCall fTaken 2 [] (mCons (mVar 1) (mCons (mC (.int 20)) mNil))) mNil)) (gmName 8)
    (mSeq (mAsg (mTup (mCons (mCall fTaken 2 [] (mCons (mVar 1) (mCons (mC (.int 8)) mNil))) (mCons (m2 (fI2 fun i j => .int (i - j)) (mCall fTaken 2 [] (mCons (mVar 1) (mCons (m2 (fI2 fun i j => .int (i + j)) (mVar 4) (mC (.int 1))) mNil))) (mC (.int 1))) mNil))) (gmTup 2 (gmCons (gmName 9) (gmCons (gmName 10) gmNil))))
    (mSeq (mAsg (mOrV (m2 (fI2 fun i j => .bl (decide (j ≤ i))) (mVar 10) (mC (.int 0))) (m2 fNe (m2 fIx (mCall f__law_paths 1 [] (mCons (mVar 7) mNil)) (mC (.int 1))) (mTup mNil))) (gmName 11))
    (mSeq (mIfS (mB (m2 fEq (mVar 9) (mC (.int 0)))) (mSeq (mIfS (mB (m2 fNe (mWord (mIf (mB (m2 fEq (mCall fTaken 2 [] (mCons (mVar 1) (mCons (mC (.int 2)) mNil))) (mC (.int 0)))) (mMeth 0 "back" f_Desk_back 1 (mVar 6) mNil) (mMeth 0 "do" f_Desk_do 2 (mVar 6) (mCons (mC (.str "back")) mNil)))) (mIf (mB (m2 fNe (mVar 7) (mTup mNil))) (mC (.str "")) (mC (.str "step"))))) (mRet (mC (.bl false))) mNx)
    (mAsg (mSl fSlT (mVar 7) moNone (moSome (m1 (fU fun i => .int (-i)) (mC (.int 1))))) (gmName 7))) (mIfS (mB (m2 fEq (mVar 9) (mC (.int 1)))) (mSeq (mAsg (mCall f__law_pick 2 [] (mCons (mVar 1) (mCons (mLst (mCons (mC .non) (mCons (mVar 4) (mCons (mC (.bl true)) (mCons (mC (.str "a")) (mCons (m2 (fI2 fun i j => .int (i - j)) (mC (.int 0)) (mC (.int 2))) mNil)))))) mNil))) (gmName 12))
    (mIfS (mB (m2 fNe (mWord (mMeth 0 "tag" f_Desk_tag 2 (mVar 6) (mCons (mVar 12) mNil))) (mC (.str "step")))) (mRet (mC (.bl false))) mNx)) (mIfS (mB (m2 fEq (mVar 9) (mC (.int 2)))) (mSeq (mAsg (mCall f__law_pick 2 [] (mCons (mVar 1) (mCons (mLst (mCons (mC (.str "")) (mCons (mC (.str "d")) (mCons (mC (.str "A")) (mCons (mC .non) (mCons (mC (.int 5)) (mCons (mC (.str "aa")) (mCons (mC (.str " a")) (mCons (mC (.str "rows")) (mCons (m2 fIx (mC (.str "abc")) (mVar 4)) mNil)))))))))) mNil))) (gmName 12))
    (mIfS (mB (m2 fNe (mWord (mMeth 0 "do" f_Desk_do 2 (mVar 6) (mCons (mVar 12) mNil))) (mC (.str "line")))) (mRet (mC (.bl false))) mNx)) (mIfS (mNot (mB (mVar 11))) (mIfS (mB (m2 fNe (mLst (mCons (mWord (mMeth 0 "tag" f_Desk_tag 2 (mVar 6) (mCons (mVar 10) mNil))) (mCons (mWord (mMeth 0 "do" f_Desk_do 2 (mVar 6) (mCons (mC (.str ")")) mNil))) mNil))) (m2 fRepL (mLst (mCons (mC (.str "step")) mNil)) (mC (.int 2))))) (mRet (mC (.bl false))) mNx) (mSeq (mAsg (m2 fCatT (mVar 7) (mTup (mCons (mVar 10) mNil))) (gmName 7))
    (mSeq (mAsg (mC .non) (gmName 13))
    (mSeq (mIfS (mB (m2 (fI2 fun i j => .bl (decide (j ≤ i))) (mVar 10) (mC (.int 0)))) (mAsg (mTup (mCons (mCall f__law_answer 2 [] (mCons (mVar 2) (mCons (m2 fIx (mCall f__law_paths 1 [] (mCons (mVar 7) mNil)) (mC (.int 1))) mNil))) (mCons (m2 fIx (m2 fIx (mCall f__law_read 2 [] (mCons (mVar 5) (mCons (mVar 7) mNil))) (mC (.int 0))) (m1 (fU fun i => .int (-i)) (mC (.int 1)))) mNil))) (gmName 13)) mNx)
    (mSeq (mIfS (mAnd (mB (m2 (fI2 fun i j => .bl (decide (i < j))) (mVar 9) (mC (.int 6)))) (mNot (mB (mCall (f__law_alike 60) 2 [] (mCons (mMeth 0 "tag" f_Desk_tag 2 (mVar 6) (mCons (mVar 10) mNil)) (mCons (mVar 13) mNil)))))) (mRet (mC (.bl false))) mNx)
    (mIfS (mAnd (mB (m2 (fI2 fun i j => .bl (decide (j < i))) (mVar 9) (mC (.int 5)))) (mB (m2 fNe (mMeth 0 "do" f_Desk_do 2 (mVar 6) (mCons (m2 fIx (mC (.str ")abc")) (m2 (fI2 fun i j => .int (i + j)) (mVar 10) (mC (.int 1)))) mNil)) (mIf (mB (m2 fIsN (mVar 13) (mC .non))) (mC (.str "done")) (m2 fCatS (m2 fCatS (mCB fStrI (mCons (m2 fIx (mVar 13) (mC (.int 0))) mNil)) (mC (.str " "))) (mCB fStrI (mCons (m2 fIx (mVar 13) (mC (.int 1))) mNil))))))) (mRet (mC (.bl false))) mNx)))))))))
    (mIfS (mNot (mB (mCall f__law_stands 4 [] (mCons (mVar 6) (mCons (mVar 2) (mCons (mVar 5) (mCons (mVar 7) mNil))))))) (mRet (mC (.bl false))) mNx)))))
    (mRet (mC (.bl true))))))))
end Mx

/-! ### MkF -/
set_option Elab.async false
set_option linter.all false
set_option maxRecDepth 100000
set_option maxHeartbeats 8000000
namespace Mx
open PySem PySem.Spec PyProof.Rows L2
/-! ### the head: what is asked -/
def clN : List Str := ["Desk"]
def cL (K : PySem.W.Frag) (i : Nat) : Addr := He.ga K (clN.getD i "")
def fas : List He.Fa := [.glo "MarkError", .glo "BadQuestion", .glo "BadReader", .glo "BadManner",
  .glo "BadPath", .glo "BadRow", .glo "BadForest", .glo "BadNumber",
  .glo "BadWord", .glo "BadTrap", .glo "BadText", .glo "BadLine",
  .glo "BadStep", .glo "TooMany", .glo "_law_taken", .glo "is_number",
  .glo "is_tuple_of", .glo "are_numbers", .glo "are_steps", .glo "check_question",
  .glo "names_of", .glo "check_manner", .glo "is_pair", .glo "are_pairs",
  .glo "are_opens", .glo "are_closes", .glo "ways_to_close", .glo "wrong_part",
  .glo "check_reader", .glo "check_reading", .glo "behind_closing", .glo "text_of",
  .glo "tag_of", .glo "words_of", .glo "_law_pick", .glo "_law_led",
  .glo "_law_answer", .glo "_law_paths", .glo "_law_question", .glo "_law_reader",
  .glo "_law_read", .glo "_law_back", .glo "_law_near", .glo "_law_alike",
  .glo "_law_stands", .glo "law", .glo "_law_word", .free "all",
  .free "bool", .free "enumerate", .free "int", .free "isinstance",
  .free "len", .free "list", .free "range", .free "str",
  .free "tuple", .int "CLOSING" (-1), .int "MOST_LENGTH" (2000), .int "MOST_NAMES" (3),
  .int "MOST_STATES" (6), .str "BLIND" "blind", .str "CLOSING_SIGN" ")", .str "DONE" "done",
  .str "NAMED" "named", .str "SIGNS" "abc)", .exc "BadManner", .exc "BadStep",
  .meth "BadLine" "__init__", .meth "BadQuestion" "__init__", .meth "BadReader" "__init__", .meth "TooMany" "__init__",
  .glo "Desk", .cls "Desk", .mkr "Desk", .keep "Desk",
  .noat "Desk" "_closed", .noat "Desk" "_erred", .noat "Desk" "_left_open", .noat "Desk" "_manner",
  .noat "Desk" "_question", .noat "Desk" "_reader", .noat "Desk" "_states", .noat "Desk" "_tags",
  .meth "Desk" "__init__", .meth "Desk" "_pass_closing", .meth "Desk" "_pass_opening", .meth "Desk" "tag",
  .meth "Desk" "back", .meth "Desk" "_do_tag", .meth "Desk" "do"]
def fns : List He.DefD := [⟨("_law_taken", none), "_law_taken", "_law_taken", defArgs (top 49), defBody (top 49), defScope (top 49), [], []⟩,
  ⟨("is_number", none), "is_number", "is_number", defArgs (top 19), defBody (top 19), defScope (top 19), [], []⟩,
  ⟨("is_tuple_of", none), "is_tuple_of", "is_tuple_of", defArgs (top 20), defBody (top 20), defScope (top 20), [], []⟩,
  ⟨("are_numbers", none), "are_numbers", "are_numbers", defArgs (top 21), defBody (top 21), defScope (top 21), [], []⟩,
  ⟨("are_steps", none), "are_steps", "are_steps", defArgs (top 22), defBody (top 22), defScope (top 22), [], []⟩,
  ⟨("check_question", none), "check_question", "check_question", defArgs (top 23), defBody (top 23), defScope (top 23), [], []⟩,
  ⟨("names_of", none), "names_of", "names_of", defArgs (top 24), defBody (top 24), defScope (top 24), [], []⟩,
  ⟨("check_manner", none), "check_manner", "check_manner", defArgs (top 29), defBody (top 29), defScope (top 29), [], []⟩,
  ⟨("is_pair", none), "is_pair", "is_pair", defArgs (top 30), defBody (top 30), defScope (top 30), [], []⟩,
  ⟨("are_pairs", none), "are_pairs", "are_pairs", defArgs (top 31), defBody (top 31), defScope (top 31), [], []⟩,
  ⟨("are_opens", none), "are_opens", "are_opens", defArgs (top 32), defBody (top 32), defScope (top 32), [], []⟩,
  ⟨("are_closes", none), "are_closes", "are_closes", defArgs (top 33), defBody (top 33), defScope (top 33), [], []⟩,
  ⟨("ways_to_close", none), "ways_to_close", "ways_to_close", defArgs (top 34), defBody (top 34), defScope (top 34), [], []⟩,
  ⟨("wrong_part", none), "wrong_part", "wrong_part", defArgs (top 35), defBody (top 35), defScope (top 35), [.int 6], []⟩,
  ⟨("check_reader", none), "check_reader", "check_reader", defArgs (top 36), defBody (top 36), defScope (top 36), [.int 6], []⟩,
  ⟨("check_reading", none), "check_reading", "check_reading", defArgs (top 37), defBody (top 37), defScope (top 37), [.int 6], []⟩,
  ⟨("behind_closing", none), "behind_closing", "behind_closing", defArgs (top 38), defBody (top 38), defScope (top 38), [], []⟩,
  ⟨("text_of", none), "text_of", "text_of", defArgs (top 42), defBody (top 42), defScope (top 42), [], []⟩,
  ⟨("tag_of", none), "tag_of", "tag_of", defArgs (top 43), defBody (top 43), defScope (top 43), [], []⟩,
  ⟨("words_of", none), "words_of", "words_of", defArgs (top 44), defBody (top 44), defScope (top 44), [], []⟩,
  ⟨("Desk", some "__init__"), "__init__", "Desk.__init__", defArgs (inClass (top 47) 0), defBody (inClass (top 47) 0), defScope (inClass (top 47) 0), [], []⟩,
  ⟨("Desk", some "_pass_closing"), "_pass_closing", "Desk._pass_closing", defArgs (inClass (top 47) 2), defBody (inClass (top 47) 2), defScope (inClass (top 47) 2), [], []⟩,
  ⟨("Desk", some "_pass_opening"), "_pass_opening", "Desk._pass_opening", defArgs (inClass (top 47) 3), defBody (inClass (top 47) 3), defScope (inClass (top 47) 3), [], []⟩,
  ⟨("Desk", some "tag"), "tag", "Desk.tag", defArgs (inClass (top 47) 1), defBody (inClass (top 47) 1), defScope (inClass (top 47) 1), [], []⟩,
  ⟨("Desk", some "back"), "back", "Desk.back", defArgs (inClass (top 47) 4), defBody (inClass (top 47) 4), defScope (inClass (top 47) 4), [], []⟩,
  ⟨("Desk", some "_do_tag"), "_do_tag", "Desk._do_tag", defArgs (inClass (top 47) 9), defBody (inClass (top 47) 9), defScope (inClass (top 47) 9), [], []⟩,
  ⟨("Desk", some "do"), "do", "Desk.do", defArgs (inClass (top 47) 8), defBody (inClass (top 47) 8), defScope (inClass (top 47) 8), [], []⟩,
  ⟨("_law_pick", none), "_law_pick", "_law_pick", defArgs (top 50), defBody (top 50), defScope (top 50), [], []⟩,
  ⟨("_law_led", none), "_law_led", "_law_led", defArgs (top 53), defBody (top 53), defScope (top 53), [], []⟩,
  ⟨("_law_answer", none), "_law_answer", "_law_answer", defArgs (top 54), defBody (top 54), defScope (top 54), [], []⟩,
  ⟨("_law_paths", none), "_law_paths", "_law_paths", defArgs (top 55), defBody (top 55), defScope (top 55), [], []⟩,
  ⟨("_law_question", none), "_law_question", "_law_question", defArgs (top 52), defBody (top 52), defScope (top 52), [], []⟩,
  ⟨("_law_reader", none), "_law_reader", "_law_reader", defArgs (top 56), defBody (top 56), defScope (top 56), [], []⟩,
  ⟨("_law_read", none), "_law_read", "_law_read", defArgs (top 57), defBody (top 57), defScope (top 57), [], []⟩,
  ⟨("_law_back", none), "_law_back", "_law_back", defArgs (top 60), defBody (top 60), defScope (top 60), [], []⟩,
  ⟨("_law_near", none), "_law_near", "_law_near", defArgs (top 59), defBody (top 59), defScope (top 59), [], []⟩,
  ⟨("_law_alike", none), "_law_alike", "_law_alike", defArgs (top 51), defBody (top 51), defScope (top 51), [], []⟩,
  ⟨("_law_stands", none), "_law_stands", "_law_stands", defArgs (top 61), defBody (top 61), defScope (top 61), [], []⟩,
  ⟨("law", none), "law", "law", defArgs (top 62), defBody (top 62), defScope (top 62), [], []⟩,
  ⟨("_law_word", none), "_law_word", "_law_word", defArgs (top 58), defBody (top 58), defScope (top 58), [], []⟩,
  ⟨("BadLine", some "__init__"), "__init__", "BadLine.__init__", defArgs (inClass (top 12) 0), defBody (inClass (top 12) 0), defScope (inClass (top 12) 0), [], []⟩,
  ⟨("BadQuestion", some "__init__"), "__init__", "BadQuestion.__init__", defArgs (inClass (top 2) 0), defBody (inClass (top 2) 0), defScope (inClass (top 2) 0), [], []⟩,
  ⟨("BadReader", some "__init__"), "__init__", "BadReader.__init__", defArgs (inClass (top 3) 0), defBody (inClass (top 3) 0), defScope (inClass (top 3) 0), [], []⟩,
  ⟨("TooMany", some "__init__"), "__init__", "TooMany.__init__", defArgs (inClass (top 14) 0), defBody (inClass (top 14) 0), defScope (inClass (top 14) 0), [], []⟩]
def prs : List PrD := [⟨"Desk", "row", "Desk.row", (inClass (top 47) 5)⟩,
  ⟨"Desk", "state", "Desk.state", (inClass (top 47) 6)⟩,
  ⟨"Desk", "wrong", "Desk.wrong", (inClass (top 47) 7)⟩]
def tfs : List He.Defn := [("law", none), ("are_numbers", none), ("are_steps", none), ("are_pairs", none),
  ("are_opens", none), ("are_closes", none)]
def tabP (K : PySem.W.Frag) (p : He.Defn) : Addr := (He.cT K p).2
def exL (K : PySem.W.Frag) : Bool := exE K && (tfs.tail.all fun p => decide (tabP K ("law", none) ≠ tabP K p))
def HDl : HD := ⟨fas, fns, prs, tfs, exL, 6⟩
def gsT (K : PySem.W.Frag) : List Addr := tfs.tail.map (tabP K)
abbrev GL (K : PySem.W.Frag) : Gx := GG K (gsT K) (tabP K ("law", none)) (cL K)
end Mx

/-! ### MkFR -/
set_option Elab.async false
set_option linter.all false
set_option maxRecDepth 100000
set_option maxHeartbeats 0
namespace Mx
open PySem PySem.Spec PyProof.Rows L2
abbrev RR : PySem.W.OpenRow := PySem.W.OpenLaw.row PySem.Challenge.rw_markspass_k09_whole_desks
def looseN : List Str := (["MarkError", "BadQuestion", "BadReader", "BadManner", "BadPath", "BadRow", "BadForest", "BadNumber", "BadWord", "BadTrap", "BadText", "BadLine", "BadStep", "TooMany", "MOST_STATES", "MOST_NAMES", "MOST_LENGTH", "is_number", "is_tuple_of", "are_numbers"] : List Str) ++ (["are_steps", "check_question", "names_of", "CLOSING", "NAMED", "BLIND", "check_manner", "is_pair", "are_pairs", "are_opens", "are_closes", "ways_to_close", "wrong_part", "check_reader", "check_reading", "behind_closing", "SIGNS", "CLOSING_SIGN", "text_of", "tag_of"] : List Str) ++ (["words_of", "DONE", "Desk", "_law_taken", "_law_pick", "_law_alike", "_law_question", "_law_led", "_law_answer", "_law_paths", "_law_reader", "_law_read", "_law_word", "_law_near", "_law_back", "_law_stands"] : List Str)
theorem run (w : World) : HandSHeadRun.RunEq RR (PySem.W.view RR.prog [62]) (hkX HDl) (obX HDl) 20000 looseN w := by
  intro os
  kernel_rfl
end Mx

/-! ### MkG1 -/
set_option Elab.async false
set_option linter.all false
set_option maxRecDepth 100000
set_option maxHeartbeats 4000000
namespace Mx
open PySem PySem.Spec PyProof.Rows L2
open GxR (TabG Tabbed)
section
variable {P : Program} {w : World} {G : Gx} {T : List Addr} {mg : Str → Option Value} {base : Heap}
theorem sc_is_number : FnScope ["value", "least", "most"] ["value", "least", "most"] (defScope (top 19)) := ⟨rfl, rfl, rfl, by decide +kernel, rfl, by decide +kernel, by decide +kernel⟩
theorem ok_is_number (Z : Fx P w G T mg base) {f : Addr} {fd : FuncData} (Fd : Fun G.K "is_number" "is_number" (top 19) f fd) :
    FnOk P w G.K mg base (L2.CX P w) 1 f fd ["value", "least", "most"] (spX G 3 f_is_number) := by
  refine okXC Fd sc_is_number (fun vs H Q E h => h.1) (fun Ar outer s H vs Q E hr h => ?_)
  refine ⟨_, (pss_one (ps_ret (pe_and (pe_callB (call_isiK' (K := G.K) rfl) (by rfl) Z.z_isinstance boot_isi (pa_cons (pv 0) (pa_cons (pe_bltn (v := .ty "int") (by rfl) Z.z_int boot_int' rfl) pa_nil))) (pe_and (pe_not (pe_callB (call_isiK' (K := G.K) rfl) (by rfl) Z.z_isinstance boot_isi (pa_cons (pv 0) (pa_cons (pe_bltn (v := .ty "bool") (by rfl) Z.z_bool boot_bool' rfl) pa_nil)))) (pe_one (pe_chain op_le op_le (pv 1) (pv 0) (pv 2))))))), ?_⟩
  exact fn_of_ex (n := 3) (pad := 0) rfl ((exs_ret (ex_andV (ex_cb ok_isi (exa_cons ex_var (exa_cons ex_ty exa_nil))) (ex_andV (ex_notV (ex_cb ok_isi (exa_cons ex_var (exa_cons ex_ty exa_nil)))) (ex_chain ok_le ok_le ex_var ex_var ex_var))))) h
theorem sc_check_manner : FnScope ["value"] ["value"] (defScope (top 29)) := ⟨rfl, rfl, rfl, by decide +kernel, rfl, by decide +kernel, by decide +kernel⟩
theorem ok_check_manner (Z : Fx P w G T mg base) {f : Addr} {fd : FuncData} (Fd : Fun G.K "check_manner" "check_manner" (top 29) f fd) :
    FnOk P w G.K mg base (L2.CX P w) 1 f fd ["value"] (spX G 1 f_check_manner) := by
  obtain ⟨t_BLIND, g_BLIND⟩ := Z.s_BLIND
  obtain ⟨t_NAMED, g_NAMED⟩ := Z.s_NAMED
  refine okXC Fd sc_check_manner (fun vs H Q E h => h.1) (fun Ar outer s H vs Q E hr h => ?_)
  refine ⟨_, (pss_one (ps_if (pt_cmpR (op_notInK (K := G.K) rfl (hu65 hr)) (pv 0) (pe_tup (pa_cons (pe_glob (v := .str "named") (by rfl) g_NAMED ⟨_, rfl⟩) (pa_cons (pe_glob (v := .str "blind") (by rfl) g_BLIND ⟨_, rfl⟩) pa_nil))) (by rfl)) (pss_one (ps_raise rfl (takes_of rfl rfl rfl rfl) (pmk_own PySem.F.excBase_ValueError Z.e_BadManner.ex Z.e_BadManner.g Z.e_BadManner.kp (raises_own Z.e_BadManner.sub Z.e_BadManner.ty) (by rfl)))) pss_nil)), ?_⟩
  exact fn_of_ex (n := 1) (pad := 0) rfl ((exs_if (ext_test (ex_2 ok_notIn ex_var (ex_tup Z.M (exa_cons ex_str (exa_cons ex_str exa_nil))))) exs_rz0 exs_next)) h
theorem sc_wrong_part : FnScope ["names", "manner", "value", "most", "opens", "closes"] ["names", "manner", "value", "most"] (defScope (top 35)) := ⟨rfl, rfl, rfl, by decide +kernel, rfl, by decide +kernel, by decide +kernel⟩
theorem ok_wrong_part (Z : Fx P w G T mg base) {f : Addr} {fd : FuncData} (Fd : FunD G.K "wrong_part" "wrong_part" (defArgs (top 35)) (defBody (top 35)) (defScope (top 35)) [V.int (6)] [] f fd)
    {a_is_tuple_of : Addr} {fd_is_tuple_of : FuncData} (D_is_tuple_of : DefX P w G mg base 1 "is_tuple_of" a_is_tuple_of fd_is_tuple_of ["value", "least", "most"] [] 3 f_is_tuple_of)
    {a_are_opens : Addr} {fd_are_opens : FuncData} (D_are_opens : DefX P w G mg base 6 "are_opens" a_are_opens fd_are_opens ["value", "names", "most"] [] 3 f_are_opens)
    {a_are_closes : Addr} {fd_are_closes : FuncData} (D_are_closes : DefX P w G mg base 5 "are_closes" a_are_closes fd_are_closes ["value", "states", "ways"] [] 3 f_are_closes)
    {a_ways_to_close : Addr} {fd_ways_to_close : FuncData} (D_ways_to_close : DefX P w G mg base 1 "ways_to_close" a_ways_to_close fd_ways_to_close ["names", "manner"] [] 2 f_ways_to_close) :
    FnOk P w G.K mg base (L2.CX P w) 7 f fd ["names", "manner", "value", "most"] (spX G 4 f_wrong_part) := by
  refine okXD Fd sc_wrong_part (fun vs H Q E h => h.1) (fun Ar outer s H vs Q E hr h => ?_)
  refine ⟨_, (pss_cons (ps_if (pt_not (pt_val (pe_call D_is_tuple_of.ok (hr.mono (by decide)) (by rfl) D_is_tuple_of.g D_is_tuple_of.kp D_is_tuple_of.b .nil (passes_call (takes_of rfl rfl rfl rfl) fun _ _ _ _ h => h) (pa_cons (pv 2) (pa_cons pe_int (pa_cons pe_int pa_nil)))))) (pss_one (ps_ret pe_str)) pss_nil)
    (pss_cons (ps_asg (pv 2) (pg_tupK (K := G.K) (n := 2) rfl rfl (pgs_cons (pg_name (i := 4) sc_wrong_part.nd rfl (by first | exact Or.inl rfl | exact Or.inr rfl)) (pgs_cons (pg_name (i := 5) sc_wrong_part.nd rfl (by first | exact Or.inl rfl | exact Or.inr rfl)) pgs_nil))))
    (pss_cons (ps_if (pt_not (pt_val (pe_call D_are_opens.ok (hr.mono (by decide)) (by rfl) D_are_opens.g D_are_opens.kp D_are_opens.b .nil (passes_call (takes_of rfl rfl rfl rfl) fun _ _ _ _ h => h) (pa_cons (pv 4) (pa_cons (pv 0) (pa_cons (pv 3) pa_nil)))))) (pss_one (ps_ret pe_str)) pss_nil)
    (pss_cons (ps_if (pt_not (pt_val (pe_call D_are_closes.ok (hr.mono (by decide)) (by rfl) D_are_closes.g D_are_closes.kp D_are_closes.b .nil (passes_call (takes_of rfl rfl rfl rfl) fun _ _ _ _ h => h) (pa_cons (pv 5) (pa_cons (pe_callB (call_lenK (K := G.K) rfl) (by rfl) Z.z_len boot_len (pa_cons (pv 4) pa_nil)) (pa_cons (pe_call D_ways_to_close.ok (hr.mono (by decide)) (by rfl) D_ways_to_close.g D_ways_to_close.kp D_ways_to_close.b .nil (passes_call (takes_of rfl rfl rfl rfl) fun _ _ _ _ h => h) (pa_cons (pv 0) (pa_cons (pv 1) pa_nil))) pa_nil)))))) (pss_one (ps_ret pe_str)) pss_nil)
    (pss_one (ps_ret pe_non)))))), ?_⟩
  exact fn_of_ex (n := 4) (pad := 2) rfl ((exs_seq (exs_if (ext_not (ext_B (ex_call (fun _ _ => imL_nil) (exa_cons ex_var (exa_cons ex_int (exa_cons ex_int exa_nil)))))) (exs_ret ex_str) exs_next)
    (exs_seq (exs_asg ex_var (exg_tup (exgs_cons exg_name (exgs_cons exg_name exgs_nil))))
    (exs_seq (exs_if (ext_not (ext_B (ex_call (fun _ _ => imL_nil) (exa_cons ex_var (exa_cons ex_var (exa_cons ex_var exa_nil)))))) (exs_ret ex_str) exs_next)
    (exs_seq (exs_if (ext_not (ext_B (ex_call (fun _ _ => imL_nil) (exa_cons ex_var (exa_cons (ex_cb ok_len (exa_cons ex_var exa_nil)) (exa_cons (ex_call (fun _ _ => imL_nil) (exa_cons ex_var (exa_cons ex_var exa_nil))) exa_nil)))))) (exs_ret ex_str) exs_next)
    (exs_ret ex_non)))))) h
theorem sc_words_of : FnScope ["numbers", "number"] ["numbers"] (defScope (top 44)) := ⟨rfl, rfl, rfl, by decide +kernel, rfl, by decide +kernel, by decide +kernel⟩
theorem ok_words_of (Z : Fx P w G T mg base) {f : Addr} {fd : FuncData} (Fd : Fun G.K "words_of" "words_of" (top 44) f fd) :
    FnOk P w G.K mg base (L2.CX P w) 1 f fd ["numbers"] (spX G 1 f_words_of) := by
  refine okXC Fd sc_words_of (fun vs H Q E h => h.1) (fun Ar outer s H vs Q E hr h => ?_)
  refine ⟨_, (pss_one (ps_ret (pe_m1 PySem.F.slot_str_join PySem.F.type_str_join (mt_joinK (K := G.K) rfl) pe_str (pe_lc (own := [("number", 1)]) rfl sc_words_of.nd (pi_tupK (K := G.K) rfl (pv 0)) (blkOk_by (N := ["numbers", "number"]) (sc := defScope (top 44)) (by decide +kernel)) (fun _ _ _ _ _ => (pg_name (i := 1) sc_words_of.nd rfl (by first | exact Or.inl rfl | exact Or.inr rfl))) (fun _ _ _ _ _ => pts_nil) (fun _ _ _ _ _ => (pe_callTy call_str_int (by rfl) Z.z_str boot_str' (pa_cons (pv 1) pa_nil))))))), ?_⟩
  exact fn_of_ex (n := 1) (pad := 1) rfl ((exs_ret (ex_m1 ok_join ex_str (ex_lc Z.M (exi_tup ex_var) (exw_name (by decide)) ext_yes (ex_cb ok_strI (exa_cons ex_var exa_nil)))))) h
theorem sc_Desk_row : FnScope ["self"] ["self"] (defScope (inClass (top 47) 5)) := ⟨rfl, rfl, rfl, by decide +kernel, rfl, by decide +kernel, by decide +kernel⟩
theorem ok_Desk_row (Z : Fx P w G T mg base) {f : Addr} {fd : FuncData} (Fd : Fun G.K "row" "Desk.row" (inClass (top 47) 5) f fd) :
    FnOk P w G.K mg base (L2.CX P w) 1 f fd ["self"] (spX G 1 f_Desk_row) := by
  refine okXC Fd sc_Desk_row (fun vs H Q E h => h.1) (fun Ar outer s H vs Q E hr h => ?_)
  refine ⟨_, (pss_one (ps_ret (pe_callTy (call_tupK (K := G.K) rfl) (by rfl) Z.z_tuple boot_tuple' (pa_cons (pe_fldK (K := G.K) rfl (pv 0) rfl) pa_nil)))), ?_⟩
  exact fn_of_ex (n := 1) (pad := 0) rfl ((exs_ret (ex_cb (ok_tuple Z.M) (exa_cons (ex_fld Z.cl_Desk Z.na_Desk__tags ex_var) exa_nil)))) h
theorem sc__law_led : FnScope ["question", "state", "way", "name"] ["question", "state", "way"] (defScope (top 53)) := ⟨rfl, rfl, rfl, by decide +kernel, rfl, by decide +kernel, by decide +kernel⟩
theorem ok__law_led (Z : Fx P w G T mg base) {f : Addr} {fd : FuncData} (Fd : Fun G.K "_law_led" "_law_led" (top 53) f fd) :
    FnOk P w G.K mg base (L2.CX P w) 1 f fd ["question", "state", "way"] (spX G 3 f__law_led) := by
  refine okXC Fd sc__law_led (fun vs H Q E h => h.1) (fun Ar outer s H vs Q E hr h => ?_)
  refine ⟨_, (pss_cons (ps_for (passes_of rfl) rfl (pi_tupK (K := G.K) rfl (pv 2)) (pg_name (i := 3) sc__law_led.nd rfl (by first | exact Or.inl rfl | exact Or.inr rfl))
    (pss_one (ps_set (i := 1) sc__law_led.nd rfl (by first | exact Or.inl rfl | exact Or.inr rfl) (pe_ix (ix_K (K := G.K) rfl) (pe_ix (ix_K (K := G.K) rfl) (pe_ix (ix_K (K := G.K) rfl) (pv 0) pe_int (fun _ _ => rfl)) (pv 1) (fun _ _ => rfl)) (pv 3) (fun _ _ => rfl)))))
    (pss_one (ps_ret (pv 1)))), ?_⟩
  exact fn_of_ex (n := 3) (pad := 1) rfl ((exs_seq (exs_for (exi_tup ex_var) exg_name
    (exs_asg (ex_2 ok_ix (ex_2 ok_ix (ex_2 ok_ix ex_var ex_int) ex_var) ex_var) exg_name))
    (exs_ret ex_var))) h
theorem sc__law_back : FnScope ["question", "state", "name", "some", "one"] ["question", "state", "name"] (defScope (top 60)) := ⟨rfl, rfl, rfl, by decide +kernel, rfl, by decide +kernel, by decide +kernel⟩
theorem ok__law_back (Z : Fx P w G T mg base) {f : Addr} {fd : FuncData} (Fd : Fun G.K "_law_back" "_law_back" (top 60) f fd) :
    FnOk P w G.K mg base (L2.CX P w) 1 f fd ["question", "state", "name"] (spX G 3 f__law_back) := by
  refine okXC Fd sc__law_back (fun vs H Q E h => h.1) (fun Ar outer s H vs Q E hr h => ?_)
  refine ⟨_, (pss_cons (ps_setLc (i := 3) (own := [("one", 4)]) rfl sc__law_back.nd rfl rfl (sw_true rfl rfl rfl (by decide +kernel)) (pi_range1 (by rfl) Z.z_range (pa_cons (pe_callB (call_lenK (K := G.K) rfl) (by rfl) Z.z_len boot_len (pa_cons (pe_ix (ix_K (K := G.K) rfl) (pv 0) pe_int (fun _ _ => rfl)) pa_nil)) pa_nil)) (blkOk_by (N := ["question", "state", "name", "some", "one"]) (sc := defScope (top 60)) (by decide +kernel)) (fun _ _ _ _ _ => (pg_name (i := 4) sc__law_back.nd rfl (by first | exact Or.inl rfl | exact Or.inr rfl))) (fun _ _ _ _ _ => pts_one (pt_cmpR (op_eqK (K := G.K) rfl (hu64 hr)) (pe_ix (ix_K (K := G.K) rfl) (pe_ix (ix_K (K := G.K) rfl) (pe_ix (ix_K (K := G.K) rfl) (pv 0) pe_int (fun _ _ => rfl)) (pv 4) (fun _ _ => rfl)) (pv 2) (fun _ _ => rfl)) (pv 1) (nomark _))) (fun _ _ _ _ _ => (pv 4)))
    (pss_one (ps_ret (pe_ifExp (pt_cmpR (op_neK (K := G.K) rfl (hu64 hr)) (pv 3) (pe_lst pa_nil) (nomark _)) (pe_ix (ix_K (K := G.K) rfl) (pv 3) pe_int (fun _ _ => rfl)) (pv 1))))), ?_⟩
  exact fn_of_ex (n := 3) (pad := 2) rfl ((exs_seq (exs_asg (ex_lc Z.M (exi_rng1 (exa_cons (ex_cb ok_len (exa_cons (ex_2 ok_ix ex_var ex_int) exa_nil)) exa_nil)) (exw_name (by decide)) (ext_test (ex_2 ok_eq (ex_2 ok_ix (ex_2 ok_ix (ex_2 ok_ix ex_var ex_int) ex_var) ex_var) ex_var)) ex_var) exg_name)
    (exs_ret (ex_if (ext_test (ex_2 ok_ne ex_var (ex_lst Z.M exa_nil))) (ex_2 ok_ix ex_var ex_int) ex_var)))) h
end
end Mx

/-! ### MkG2 -/
set_option Elab.async false
set_option linter.all false
set_option maxRecDepth 100000
set_option maxHeartbeats 4000000
namespace Mx
open PySem PySem.Spec PyProof.Rows L2
open GxR (TabG Tabbed)
section
variable {P : Program} {w : World} {G : Gx} {T : List Addr} {mg : Str → Option Value} {base : Heap}
theorem sc_is_tuple_of : FnScope ["value", "least", "most"] ["value", "least", "most"] (defScope (top 20)) := ⟨rfl, rfl, rfl, by decide +kernel, rfl, by decide +kernel, by decide +kernel⟩
theorem ok_is_tuple_of (Z : Fx P w G T mg base) {f : Addr} {fd : FuncData} (Fd : Fun G.K "is_tuple_of" "is_tuple_of" (top 20) f fd) :
    FnOk P w G.K mg base (L2.CX P w) 1 f fd ["value", "least", "most"] (spX G 3 f_is_tuple_of) := by
  refine okXC Fd sc_is_tuple_of (fun vs H Q E h => h.1) (fun Ar outer s H vs Q E hr h => ?_)
  refine ⟨_, (pss_one (ps_ret (pe_and (pe_callB (call_isiK' (K := G.K) rfl) (by rfl) Z.z_isinstance boot_isi (pa_cons (pv 0) (pa_cons (pe_bltn (v := .ty "tuple") (by rfl) Z.z_tuple boot_tuple' rfl) pa_nil))) (pe_one (pe_chain op_le op_le (pv 1) (pe_callB (call_lenK (K := G.K) rfl) (by rfl) Z.z_len boot_len (pa_cons (pv 0) pa_nil)) (pv 2)))))), ?_⟩
  exact fn_of_ex (n := 3) (pad := 0) rfl ((exs_ret (ex_andV (ex_cb ok_isi (exa_cons ex_var (exa_cons ex_ty exa_nil))) (ex_chain ok_le ok_le ex_var (ex_cb ok_len (exa_cons ex_var exa_nil)) ex_var)))) h
theorem sc_is_pair : FnScope ["value", "last"] ["value", "last"] (defScope (top 30)) := ⟨rfl, rfl, rfl, by decide +kernel, rfl, by decide +kernel, by decide +kernel⟩
theorem ok_is_pair (Z : Fx P w G T mg base) {f : Addr} {fd : FuncData} (Fd : Fun G.K "is_pair" "is_pair" (top 30) f fd)
    {a_is_tuple_of : Addr} {fd_is_tuple_of : FuncData} (D_is_tuple_of : DefX P w G mg base 1 "is_tuple_of" a_is_tuple_of fd_is_tuple_of ["value", "least", "most"] [] 3 f_is_tuple_of)
    {a_is_number : Addr} {fd_is_number : FuncData} (D_is_number : DefX P w G mg base 1 "is_number" a_is_number fd_is_number ["value", "least", "most"] [] 3 f_is_number) :
    FnOk P w G.K mg base (L2.CX P w) 2 f fd ["value", "last"] (spX G 2 f_is_pair) := by
  refine okXC Fd sc_is_pair (fun vs H Q E h => h.1) (fun Ar outer s H vs Q E hr h => ?_)
  refine ⟨_, (pss_one (ps_ret (pe_and (pe_call D_is_tuple_of.ok (hr.mono (by decide)) (by rfl) D_is_tuple_of.g D_is_tuple_of.kp D_is_tuple_of.b .nil (passes_call (takes_of rfl rfl rfl rfl) fun _ _ _ _ h => h) (pa_cons (pv 0) (pa_cons pe_int (pa_cons pe_int pa_nil)))) (pe_and (pe_call D_is_number.ok (hr.mono (by decide)) (by rfl) D_is_number.g D_is_number.kp D_is_number.b .nil (passes_call (takes_of rfl rfl rfl rfl) fun _ _ _ _ h => h) (pa_cons (pe_ix (ix_K (K := G.K) rfl) (pv 0) pe_int (fun _ _ => rfl)) (pa_cons pe_int (pa_cons (pv 1) pa_nil)))) (pe_one (pe_call D_is_number.ok (hr.mono (by decide)) (by rfl) D_is_number.g D_is_number.kp D_is_number.b .nil (passes_call (takes_of rfl rfl rfl rfl) fun _ _ _ _ h => h) (pa_cons (pe_ix (ix_K (K := G.K) rfl) (pv 0) pe_int (fun _ _ => rfl)) (pa_cons pe_int (pa_cons pe_int pa_nil))))))))), ?_⟩
  exact fn_of_ex (n := 2) (pad := 0) rfl ((exs_ret (ex_andV (ex_call (fun _ _ => imL_nil) (exa_cons ex_var (exa_cons ex_int (exa_cons ex_int exa_nil)))) (ex_andV (ex_call (fun _ _ => imL_nil) (exa_cons (ex_2 ok_ix ex_var ex_int) (exa_cons ex_int (exa_cons ex_var exa_nil)))) (ex_call (fun _ _ => imL_nil) (exa_cons (ex_2 ok_ix ex_var ex_int) (exa_cons ex_int (exa_cons ex_int exa_nil)))))))) h
theorem sc_check_reader : FnScope ["names", "manner", "value", "most", "part"] ["names", "manner", "value", "most"] (defScope (top 36)) := ⟨rfl, rfl, rfl, by decide +kernel, rfl, by decide +kernel, by decide +kernel⟩
theorem ok_check_reader (Z : Fx P w G T mg base) {f : Addr} {fd : FuncData} (Fd : FunD G.K "check_reader" "check_reader" (defArgs (top 36)) (defBody (top 36)) (defScope (top 36)) [V.int (6)] [] f fd)
    {a_wrong_part : Addr} {fd_wrong_part : FuncData} (D_wrong_part : DefX P w G mg base 7 "wrong_part" a_wrong_part fd_wrong_part ["names", "manner", "value", "most"] [V.int (6)] 4 f_wrong_part) :
    FnOk P w G.K mg base (L2.CX P w) 8 f fd ["names", "manner", "value", "most"] (spX G 4 f_check_reader) := by
  obtain ⟨fI_BadReader, fd_BadReader, e_BadReader⟩ := Z.e_BadReader
  refine okXD Fd sc_check_reader (fun vs H Q E h => h.1) (fun Ar outer s H vs Q E hr h => ?_)
  refine ⟨_, (pss_cons (ps_set (i := 4) sc_check_reader.nd rfl (by first | exact Or.inl rfl | exact Or.inr rfl) (pe_call D_wrong_part.ok (hr.mono (by decide)) (by rfl) D_wrong_part.g D_wrong_part.kp D_wrong_part.b .nil (passes_call (takes_of rfl rfl rfl rfl) fun _ _ _ _ h => h) (pa_cons (pv 0) (pa_cons (pv 1) (pa_cons (pv 2) (pa_cons (pv 3) pa_nil))))))
    (pss_one (ps_if (pt_cmpR op_notN (pv 4) pe_non (nomark _)) (pss_one (ps_raise rfl (takes_of rfl rfl rfl rfl) (pmk_oex e_BadReader.oex e_BadReader.iC e_BadReader.tI e_BadReader.ok (hr.mono (by decide)) e_BadReader.b .nil pass0 (by rfl) e_BadReader.g (pa_cons (pv 4) pa_nil)))) pss_nil))), ?_⟩
  exact fn_of_ex (n := 4) (pad := 1) rfl ((exs_seq (exs_asg (ex_call (fun _ _ => imL_nil) (exa_cons ex_var (exa_cons ex_var (exa_cons ex_var (exa_cons ex_var exa_nil))))) exg_name)
    (exs_if (ext_test (ex_2 ok_notN ex_var ex_non)) (exs_rz1 Z.M e_BadReader.oex e_BadReader.no (exa_cons ex_var exa_nil)) exs_next))) h
theorem sc_Desk___init__ : FnScope ["self", "question", "manner", "reader"] ["self", "question", "manner", "reader"] (defScope (inClass (top 47) 0)) := ⟨rfl, rfl, rfl, by decide +kernel, rfl, by decide +kernel, by decide +kernel⟩
theorem ok_Desk___init__ (Z : Fx P w G T mg base) {f : Addr} {fd : FuncData} (Fd : Fun G.K "__init__" "Desk.__init__" (inClass (top 47) 0) f fd)
    {a_check_reading : Addr} {fd_check_reading : FuncData} (D_check_reading : DefX P w G mg base 9 "check_reading" a_check_reading fd_check_reading ["question", "manner", "reader", "most"] [V.int (6)] 4 f_check_reading) :
    FnOk P w G.K mg base (L2.CX P w) 10 f fd ["self", "question", "manner", "reader"] (spX G 4 f_Desk___init__) := by
  obtain ⟨ds_check_reading, hv_check_reading, hb_check_reading⟩ := D_check_reading.bd
  refine okXC Fd sc_Desk___init__ (fun vs H Q E h => h.1) (fun Ar outer s H vs Q E hr h => ?_)
  refine ⟨_, (pss_cons (ps_expr (pe_call D_check_reading.ok (hr.mono (by decide)) (by rfl) D_check_reading.g D_check_reading.kp hb_check_reading hv_check_reading (passes_call (takes_of rfl rfl rfl rfl) fun _ _ _ _ h => h) (pa_cons (pv 1) (pa_cons (pv 2) (pa_cons (pv 3) pa_nil)))))
    (pss_cons (ps_fld (pv 0) (pv 1) rfl)
    (pss_cons (ps_fld (pv 0) (pv 2) rfl)
    (pss_cons (ps_fld (pv 0) (pv 3) rfl)
    (pss_cons (ps_fld (pv 0) (pe_lst pa_nil) rfl)
    (pss_cons (ps_fld (pv 0) (pe_lst (pa_cons pe_int pa_nil)) rfl)
    (pss_cons (ps_fld (pv 0) (pe_lst pa_nil) rfl)
    (pss_cons (ps_fld (pv 0) (pe_lst pa_nil) rfl)
    (pss_one (ps_fld (pv 0) (pe_lst pa_nil) rfl)))))))))), ?_⟩
  exact fn_of_ex (n := 4) (pad := 0) rfl ((exs_seq (exs_drop (ex_call (fun _ _ => imL_cons im_int (imL_nil)) (exa_cons ex_var (exa_cons ex_var (exa_cons ex_var exa_nil)))))
    (exs_seq (exs_setF Z.M Z.cl_Desk Z.na_Desk__question ex_var ex_var)
    (exs_seq (exs_setF Z.M Z.cl_Desk Z.na_Desk__manner ex_var ex_var)
    (exs_seq (exs_setF Z.M Z.cl_Desk Z.na_Desk__reader ex_var ex_var)
    (exs_seq (exs_setF Z.M Z.cl_Desk Z.na_Desk__tags ex_var (ex_lst Z.M exa_nil))
    (exs_seq (exs_setF Z.M Z.cl_Desk Z.na_Desk__states ex_var (ex_lst Z.M (exa_cons ex_int exa_nil)))
    (exs_seq (exs_setF Z.M Z.cl_Desk Z.na_Desk__left_open ex_var (ex_lst Z.M exa_nil))
    (exs_seq (exs_setF Z.M Z.cl_Desk Z.na_Desk__closed ex_var (ex_lst Z.M exa_nil))
    (exs_setF Z.M Z.cl_Desk Z.na_Desk__erred ex_var (ex_lst Z.M exa_nil))))))))))) h
theorem sc_Desk_state : FnScope ["self"] ["self"] (defScope (inClass (top 47) 6)) := ⟨rfl, rfl, rfl, by decide +kernel, rfl, by decide +kernel, by decide +kernel⟩
theorem ok_Desk_state (Z : Fx P w G T mg base) {f : Addr} {fd : FuncData} (Fd : Fun G.K "state" "Desk.state" (inClass (top 47) 6) f fd) :
    FnOk P w G.K mg base (L2.CX P w) 1 f fd ["self"] (spX G 1 f_Desk_state) := by
  refine okXC Fd sc_Desk_state (fun vs H Q E h => h.1) (fun Ar outer s H vs Q E hr h => ?_)
  refine ⟨_, (pss_one (ps_ret (pe_ix (ix_K (K := G.K) rfl) (pe_fldK (K := G.K) rfl (pv 0) rfl) (pe_un un_neg pe_int) (fun _ _ => rfl)))), ?_⟩
  exact fn_of_ex (n := 1) (pad := 0) rfl ((exs_ret (ex_2 ok_ix (ex_fld Z.cl_Desk Z.na_Desk__states ex_var) (ex_1 ok_neg ex_int)))) h
theorem sc__law_answer : FnScope ["question", "way"] ["question", "way"] (defScope (top 54)) := ⟨rfl, rfl, rfl, by decide +kernel, rfl, by decide +kernel, by decide +kernel⟩
theorem ok__law_answer (Z : Fx P w G T mg base) {f : Addr} {fd : FuncData} (Fd : Fun G.K "_law_answer" "_law_answer" (top 54) f fd)
    {a__law_led : Addr} {fd__law_led : FuncData} (D__law_led : DefX P w G mg base 1 "_law_led" a__law_led fd__law_led ["question", "state", "way"] [] 3 f__law_led) :
    FnOk P w G.K mg base (L2.CX P w) 2 f fd ["question", "way"] (spX G 2 f__law_answer) := by
  refine okXC Fd sc__law_answer (fun vs H Q E h => h.1) (fun Ar outer s H vs Q E hr h => ?_)
  refine ⟨_, (pss_one (ps_ret (pe_ix (ix_K (K := G.K) rfl) (pe_ix (ix_K (K := G.K) rfl) (pv 0) pe_int (fun _ _ => rfl)) (pe_call D__law_led.ok (hr.mono (by decide)) (by rfl) D__law_led.g D__law_led.kp D__law_led.b .nil (passes_call (takes_of rfl rfl rfl rfl) fun _ _ _ _ h => h) (pa_cons (pv 0) (pa_cons pe_int (pa_cons (pv 1) pa_nil)))) (fun _ _ => rfl)))), ?_⟩
  exact fn_of_ex (n := 2) (pad := 0) rfl ((exs_ret (ex_2 ok_ix (ex_2 ok_ix ex_var ex_int) (ex_call (fun _ _ => imL_nil) (exa_cons ex_var (exa_cons ex_int (exa_cons ex_var exa_nil))))))) h
theorem sc__law_near : FnScope ["row", "question", "names", "manner", "steps", "marks", "opens", "closes", "state", "at", "there", "name"] ["row", "question", "names", "manner"] (defScope (top 59)) := ⟨rfl, rfl, rfl, by decide +kernel, rfl, by decide +kernel, by decide +kernel⟩
theorem ok__law_near (Z : Fx P w G T mg base) {f : Addr} {fd : FuncData} (Fd : Fun G.K "_law_near" "_law_near" (top 59) f fd)
    {a__law_taken : Addr} {fd__law_taken : FuncData} (D__law_taken : DefX P w G mg base 1 "_law_taken" a__law_taken fd__law_taken ["row", "many"] [] 2 fTaken)
    {a__law_reader : Addr} {fd__law_reader : FuncData} (D__law_reader : DefX P w G mg base 2 "_law_reader" a__law_reader fd__law_reader ["row", "names", "manner", "most"] [] 4 f__law_reader)
    {a__law_back : Addr} {fd__law_back : FuncData} (D__law_back : DefX P w G mg base 1 "_law_back" a__law_back fd__law_back ["question", "state", "name"] [] 3 f__law_back) :
    FnOk P w G.K mg base (L2.CX P w) 3 f fd ["row", "question", "names", "manner"] (spX G 4 f__law_near) := by
  refine okXC Fd sc__law_near (fun vs H Q E h => h.1) (fun Ar outer s H vs Q E hr h => ?_)
  refine ⟨_, (pss_cons (ps_if (pt_cmpR (op_eqK (K := G.K) rfl (hu64 hr)) (pe_call D__law_taken.ok (hr.mono (by decide)) (by rfl) D__law_taken.g D__law_taken.kp D__law_taken.b .nil (passes_call (takes_of rfl rfl rfl rfl) fun _ _ _ _ h => h) (pa_cons (pv 0) (pa_cons pe_int pa_nil))) pe_int (nomark _)) (pss_one (ps_ret (pe_call D__law_reader.ok (hr.mono (by decide)) (by rfl) D__law_reader.g D__law_reader.kp D__law_reader.b .nil (passes_call (takes_of rfl rfl rfl rfl) fun _ _ _ _ h => h) (pa_cons (pv 0) (pa_cons (pv 2) (pa_cons (pv 3) (pa_cons pe_int pa_nil))))))) pss_nil)
    (pss_cons (ps_asg (pv 1) (pg_tupK (K := G.K) (n := 2) rfl rfl (pgs_cons (pg_name (i := 4) sc__law_near.nd rfl (by first | exact Or.inl rfl | exact Or.inr rfl)) (pgs_cons (pg_name (i := 5) sc__law_near.nd rfl (by first | exact Or.inl rfl | exact Or.inr rfl)) pgs_nil))))
    (pss_cons (ps_par (by rfl) sc__law_near.nd (i := 6) (j := 7) rfl rfl (by decide) rfl rfl (pa_cons (pe_lst pa_nil) (pa_cons (pe_lst pa_nil) pa_nil)) (by rfl))
    (pss_cons (ps_for (passes_of rfl) rfl (pi_range1 (by rfl) Z.z_range (pa_cons (pe_callB (call_lenK (K := G.K) rfl) (by rfl) Z.z_len boot_len (pa_cons (pv 4) pa_nil)) pa_nil)) (pg_name (i := 8) sc__law_near.nd rfl (by first | exact Or.inl rfl | exact Or.inr rfl))
    (pss_cons (ps_expr (pe_bmK (K := G.K) rfl PySem.F.plainAttrs_list PySem.F.slot_list_append PySem.F.type_list_append mt_append (pv 6) (pa_cons (pe_callTy (call_tupK (K := G.K) rfl) (by rfl) Z.z_tuple boot_tuple' (pa_cons (pe_lc (own := [("there", 10)]) rfl sc__law_near.nd (pi_tupK (K := G.K) rfl (pe_ix (ix_K (K := G.K) rfl) (pv 4) (pv 8) (fun _ _ => rfl))) (blkOk_by (N := ["row", "question", "names", "manner", "steps", "marks", "opens", "closes", "state", "at", "there", "name"]) (sc := defScope (top 59)) (by decide +kernel)) (fun _ _ _ _ _ => (pg_name (i := 10) sc__law_near.nd rfl (by first | exact Or.inl rfl | exact Or.inr rfl))) (fun _ _ _ _ _ => pts_nil) (fun _ _ _ _ _ => (pe_tup (pa_cons (pv 10) (pa_cons (pe_ix (ix_K (K := G.K) rfl) (pv 5) (pv 10) (fun _ _ => rfl)) pa_nil))))) pa_nil)) pa_nil)))
    (pss_one (ps_expr (pe_bmK (K := G.K) rfl PySem.F.plainAttrs_list PySem.F.slot_list_append PySem.F.type_list_append mt_append (pv 7) (pa_cons (pe_callTy (call_tupK (K := G.K) rfl) (by rfl) Z.z_tuple boot_tuple' (pa_cons (pe_lc (own := [("name", 11)]) rfl sc__law_near.nd (pi_range1 (by rfl) Z.z_range (pa_cons (pe_ifExp (pt_cmpR (op_eqK (K := G.K) rfl (hu64 hr)) (pv 3) pe_str (nomark _)) (pv 2) pe_int) pa_nil)) (blkOk_by (N := ["row", "question", "names", "manner", "steps", "marks", "opens", "closes", "state", "at", "there", "name"]) (sc := defScope (top 59)) (by decide +kernel)) (fun _ _ _ _ _ => (pg_name (i := 11) sc__law_near.nd rfl (by first | exact Or.inl rfl | exact Or.inr rfl))) (fun _ _ _ _ _ => pts_nil) (fun _ _ _ _ _ => (pe_call D__law_back.ok (hr.mono (by decide)) (by rfl) D__law_back.g D__law_back.kp D__law_back.b .nil passF (pa_cons (pv 1) (pa_cons (pv 8) (pa_cons (pv 11) pa_nil)))))) pa_nil)) pa_nil))))))
    (pss_cons (ps_set (i := 9) sc__law_near.nd rfl (by first | exact Or.inl rfl | exact Or.inr rfl) (pe_call D__law_taken.ok (hr.mono (by decide)) (by rfl) D__law_taken.g D__law_taken.kp D__law_taken.b .nil (passes_call (takes_of rfl rfl rfl rfl) fun _ _ _ _ h => h) (pa_cons (pv 0) (pa_cons (pe_op op_mul pe_int (pe_callB (call_lenK (K := G.K) rfl) (by rfl) Z.z_len boot_len (pa_cons (pv 4) pa_nil))) pa_nil))))
    (pss_cons (ps_if (PW.pt (pw_and (pt_cmpR op_lt (pv 9) (pe_callB (call_lenK (K := G.K) rfl) (by rfl) Z.z_len boot_len (pa_cons (pv 4) pa_nil)) (nomark _)) (pw_and1 (pt_cmpR (op_eqK (K := G.K) rfl (hu64 hr)) (pe_call D__law_taken.ok (hr.mono (by decide)) (by rfl) D__law_taken.g D__law_taken.kp D__law_taken.b .nil (passes_call (takes_of rfl rfl rfl rfl) fun _ _ _ _ h => h) (pa_cons (pv 0) (pa_cons pe_int pa_nil))) pe_int (nomark _))))) (pss_one (ps_asg (pe_callTy (call_tupK (K := G.K) rfl) (by rfl) Z.z_tuple boot_tuple' (pa_cons (pe_lc (own := [("state", 8)]) rfl sc__law_near.nd (pi_tupK (K := G.K) rfl (pe_ix (ix_K (K := G.K) rfl) (pv 7) (pv 9) (fun _ _ => rfl))) (blkOk_by (N := ["row", "question", "names", "manner", "steps", "marks", "opens", "closes", "state", "at", "there", "name"]) (sc := defScope (top 59)) (by decide +kernel)) (fun _ _ _ _ _ => (pg_name (i := 8) sc__law_near.nd rfl (by first | exact Or.inl rfl | exact Or.inr rfl))) (fun _ _ _ _ _ => pts_nil) (fun _ _ _ _ _ => (pe_call D__law_taken.ok (hr.mono (by decide)) (by rfl) D__law_taken.g D__law_taken.kp D__law_taken.b .nil passF (pa_cons (pv 0) (pa_cons (pe_callB (call_lenK (K := G.K) rfl) (by rfl) Z.z_len boot_len (pa_cons (pv 4) pa_nil)) pa_nil))))) pa_nil)) (pg_sub (pv 7) (pv 9) set_list))) pss_nil)
    (pss_one (ps_ret (pe_tup (pa_cons (pe_callTy (call_tupK (K := G.K) rfl) (by rfl) Z.z_tuple boot_tuple' (pa_cons (pv 6) pa_nil)) (pa_cons (pe_callTy (call_tupK (K := G.K) rfl) (by rfl) Z.z_tuple boot_tuple' (pa_cons (pv 7) pa_nil)) pa_nil))))))))))), ?_⟩
  exact fn_of_ex (n := 4) (pad := 8) rfl ((exs_seq (exs_if (ext_test (ex_2 ok_eq (ex_call (fun _ _ => imL_nil) (exa_cons ex_var (exa_cons ex_int exa_nil))) ex_int)) (exs_ret (ex_call (fun _ _ => imL_nil) (exa_cons ex_var (exa_cons ex_var (exa_cons ex_var (exa_cons ex_int exa_nil)))))) exs_next)
    (exs_seq (exs_asg ex_var (exg_tup (exgs_cons exg_name (exgs_cons exg_name exgs_nil))))
    (exs_seq (exs_par (exa_cons (ex_lst Z.M exa_nil) (exa_cons (ex_lst Z.M exa_nil) exa_nil)))
    (exs_seq (exs_for (exi_rng1 (exa_cons (ex_cb ok_len (exa_cons ex_var exa_nil)) exa_nil)) exg_name
    (exs_seq (exs_drop (ex_bm (ok_append Z.M) ex_var (exa_cons (ex_cb (ok_tuple Z.M) (exa_cons (ex_lc Z.M (exi_tup (ex_2 ok_ix ex_var ex_var)) (exw_name (by decide)) ext_yes (ex_tup Z.M (exa_cons ex_var (exa_cons (ex_2 ok_ix ex_var ex_var) exa_nil)))) exa_nil)) exa_nil)))
    (exs_drop (ex_bm (ok_append Z.M) ex_var (exa_cons (ex_cb (ok_tuple Z.M) (exa_cons (ex_lc Z.M (exi_rng1 (exa_cons (ex_if (ext_test (ex_2 ok_eq ex_var ex_str)) ex_var ex_int) exa_nil)) (exw_name (by decide)) ext_yes (ex_call (fun _ _ => imL_nil) (exa_cons ex_var (exa_cons ex_var (exa_cons ex_var exa_nil))))) exa_nil)) exa_nil)))))
    (exs_seq (exs_asg (ex_call (fun _ _ => imL_nil) (exa_cons ex_var (exa_cons (ex_2 ok_mul ex_int (ex_cb ok_len (exa_cons ex_var exa_nil))) exa_nil))) exg_name)
    (exs_seq (exs_if (ext_and (ext_test (ex_2 ok_lt ex_var (ex_cb ok_len (exa_cons ex_var exa_nil)))) (ext_test (ex_2 ok_eq (ex_call (fun _ _ => imL_nil) (exa_cons ex_var (exa_cons ex_int exa_nil))) ex_int))) (exs_asg (ex_cb (ok_tuple Z.M) (exa_cons (ex_lc Z.M (exi_tup (ex_2 ok_ix ex_var ex_var)) (exw_name (by decide)) ext_yes (ex_call (fun _ _ => imL_nil) (exa_cons ex_var (exa_cons (ex_cb ok_len (exa_cons ex_var exa_nil)) exa_nil)))) exa_nil)) (exg_subL Z.M ex_var ex_var)) exs_next)
    (exs_ret (ex_tup Z.M (exa_cons (ex_cb (ok_tuple Z.M) (exa_cons ex_var exa_nil)) (exa_cons (ex_cb (ok_tuple Z.M) (exa_cons ex_var exa_nil)) exa_nil))))))))))) h
end
end Mx

/-! ### MkG3 -/
set_option Elab.async false
set_option linter.all false
set_option maxRecDepth 100000
set_option maxHeartbeats 4000000
namespace Mx
open PySem PySem.Spec PyProof.Rows L2
open GxR (TabG Tabbed)
section
variable {P : Program} {w : World} {G : Gx} {T : List Addr} {mg : Str → Option Value} {base : Heap}
theorem sc_are_numbers : FnScope ["value", "many", "most", "part"] ["value", "many", "most"] (defScope (top 21)) := ⟨rfl, rfl, rfl, by decide +kernel, rfl, by decide +kernel, by decide +kernel⟩
theorem ok_are_numbers (Z : Fx P w G T mg base) {f : Addr} {fd : FuncData} (Fd : Fun G.K "are_numbers" "are_numbers" (top 21) f fd)
    {a_is_tuple_of : Addr} {fd_is_tuple_of : FuncData} (D_is_tuple_of : DefX P w G mg base 1 "is_tuple_of" a_is_tuple_of fd_is_tuple_of ["value", "least", "most"] [] 3 f_is_tuple_of)
    {a_is_number : Addr} {fd_is_number : FuncData} (D_is_number : DefX P w G mg base 1 "is_number" a_is_number fd_is_number ["value", "least", "most"] [] 3 f_is_number)
    {c T0 : Addr} (hT : T0 ∈ T) (O : OwnX mg base fd c T0) :
    FnOk P w G.K mg base (L2.CX P w) 3 f fd ["value", "many", "most"] (spX G 3 f_are_numbers) := by
  refine okXC Fd sc_are_numbers (fun vs H Q E h => h.1) (fun Ar outer s H vs Q E hr h => ?_)
  refine ⟨_, (pss_one (ps_ret (pe_and (pe_call D_is_tuple_of.ok (hr.mono (by decide)) (by rfl) D_is_tuple_of.g D_is_tuple_of.kp D_is_tuple_of.b .nil (passes_call (takes_of rfl rfl rfl rfl) fun _ _ _ _ h => h) (pa_cons (pv 0) (pa_cons (pv 1) (pa_cons (pv 1) pa_nil)))) (pe_one (Mk.pe_all (own := [("part", 3)]) hr (by rfl) Z.z_all O.tb O.code (gOk_by (N := ["value", "many", "most", "part"]) (sc := defScope (top 21)) (by decide +kernel)) sc_are_numbers.nd (pi_tupK (K := G.K) rfl (pv 0)) (fun _ _ _ _ _ _ _ => (pg_name (i := 3) sc_are_numbers.nd rfl (by first | exact Or.inl rfl | exact Or.inr rfl))) (fun _ _ _ _ _ _ _ => (pe_call D_is_number.ok (Room.mono (room_gen hr) (by decide)) (by rfl) D_is_number.g D_is_number.kp D_is_number.b .nil passF (pa_cons (pv 3) (pa_cons pe_int (pa_cons (pv 2) pa_nil)))))))))), ?_⟩
  exact fn_of_ex (n := 3) (pad := 1) rfl ((exs_ret (ex_andV (ex_call (fun _ _ => imL_nil) (exa_cons ex_var (exa_cons ex_var (exa_cons ex_var exa_nil)))) (ex_all Z.M hT (exi_tup ex_var) (exw_name (by decide)) (ex_call (fun _ _ => imL_nil) (exa_cons ex_var (exa_cons ex_int (exa_cons ex_var exa_nil)))))))) h
theorem sc_are_pairs : FnScope ["value", "names", "last", "pair"] ["value", "names", "last"] (defScope (top 31)) := ⟨rfl, rfl, rfl, by decide +kernel, rfl, by decide +kernel, by decide +kernel⟩
theorem ok_are_pairs (Z : Fx P w G T mg base) {f : Addr} {fd : FuncData} (Fd : Fun G.K "are_pairs" "are_pairs" (top 31) f fd)
    {a_is_tuple_of : Addr} {fd_is_tuple_of : FuncData} (D_is_tuple_of : DefX P w G mg base 1 "is_tuple_of" a_is_tuple_of fd_is_tuple_of ["value", "least", "most"] [] 3 f_is_tuple_of)
    {a_is_pair : Addr} {fd_is_pair : FuncData} (D_is_pair : DefX P w G mg base 2 "is_pair" a_is_pair fd_is_pair ["value", "last"] [] 2 f_is_pair)
    {c T0 : Addr} (hT : T0 ∈ T) (O : OwnX mg base fd c T0) :
    FnOk P w G.K mg base (L2.CX P w) 4 f fd ["value", "names", "last"] (spX G 3 f_are_pairs) := by
  refine okXC Fd sc_are_pairs (fun vs H Q E h => h.1) (fun Ar outer s H vs Q E hr h => ?_)
  refine ⟨_, (pss_one (ps_ret (pe_and (pe_call D_is_tuple_of.ok (hr.mono (by decide)) (by rfl) D_is_tuple_of.g D_is_tuple_of.kp D_is_tuple_of.b .nil (passes_call (takes_of rfl rfl rfl rfl) fun _ _ _ _ h => h) (pa_cons (pv 0) (pa_cons (pv 1) (pa_cons (pv 1) pa_nil)))) (pe_one (Mk.pe_all (own := [("pair", 3)]) hr (by rfl) Z.z_all O.tb O.code (gOk_by (N := ["value", "names", "last", "pair"]) (sc := defScope (top 31)) (by decide +kernel)) sc_are_pairs.nd (pi_tupK (K := G.K) rfl (pv 0)) (fun _ _ _ _ _ _ _ => (pg_name (i := 3) sc_are_pairs.nd rfl (by first | exact Or.inl rfl | exact Or.inr rfl))) (fun _ _ _ _ _ _ _ => (pe_call D_is_pair.ok (Room.mono (room_gen hr) (by decide)) (by rfl) D_is_pair.g D_is_pair.kp D_is_pair.b .nil passF (pa_cons (pv 3) (pa_cons (pv 2) pa_nil))))))))), ?_⟩
  exact fn_of_ex (n := 3) (pad := 1) rfl ((exs_ret (ex_andV (ex_call (fun _ _ => imL_nil) (exa_cons ex_var (exa_cons ex_var (exa_cons ex_var exa_nil)))) (ex_all Z.M hT (exi_tup ex_var) (exw_name (by decide)) (ex_call (fun _ _ => imL_nil) (exa_cons ex_var (exa_cons ex_var exa_nil))))))) h
theorem sc_check_reading : FnScope ["question", "manner", "reader", "most"] ["question", "manner", "reader", "most"] (defScope (top 37)) := ⟨rfl, rfl, rfl, by decide +kernel, rfl, by decide +kernel, by decide +kernel⟩
theorem ok_check_reading (Z : Fx P w G T mg base) {f : Addr} {fd : FuncData} (Fd : FunD G.K "check_reading" "check_reading" (defArgs (top 37)) (defBody (top 37)) (defScope (top 37)) [V.int (6)] [] f fd)
    {a_check_question : Addr} {fd_check_question : FuncData} (D_check_question : DefX P w G mg base 6 "check_question" a_check_question fd_check_question ["value"] [] 1 f_check_question)
    {a_check_manner : Addr} {fd_check_manner : FuncData} (D_check_manner : DefX P w G mg base 1 "check_manner" a_check_manner fd_check_manner ["value"] [] 1 f_check_manner)
    {a_check_reader : Addr} {fd_check_reader : FuncData} (D_check_reader : DefX P w G mg base 8 "check_reader" a_check_reader fd_check_reader ["names", "manner", "value", "most"] [V.int (6)] 4 f_check_reader)
    {a_names_of : Addr} {fd_names_of : FuncData} (D_names_of : DefX P w G mg base 1 "names_of" a_names_of fd_names_of ["question"] [] 1 f_names_of) :
    FnOk P w G.K mg base (L2.CX P w) 9 f fd ["question", "manner", "reader", "most"] (spX G 4 f_check_reading) := by
  refine okXD Fd sc_check_reading (fun vs H Q E h => h.1) (fun Ar outer s H vs Q E hr h => ?_)
  refine ⟨_, (pss_cons (ps_expr (pe_call D_check_question.ok (hr.mono (by decide)) (by rfl) D_check_question.g D_check_question.kp D_check_question.b .nil (passes_call (takes_of rfl rfl rfl rfl) fun _ _ _ _ h => h) (pa_cons (pv 0) pa_nil)))
    (pss_cons (ps_expr (pe_call D_check_manner.ok (hr.mono (by decide)) (by rfl) D_check_manner.g D_check_manner.kp D_check_manner.b .nil (passes_call (takes_of rfl rfl rfl rfl) fun _ _ _ _ h => h) (pa_cons (pv 1) pa_nil)))
    (pss_one (ps_expr (pe_call D_check_reader.ok (hr.mono (by decide)) (by rfl) D_check_reader.g D_check_reader.kp D_check_reader.b .nil (passes_call (takes_of rfl rfl rfl rfl) fun _ _ _ _ h => h) (pa_cons (pe_call D_names_of.ok (hr.mono (by decide)) (by rfl) D_names_of.g D_names_of.kp D_names_of.b .nil (passes_call (takes_of rfl rfl rfl rfl) fun _ _ _ _ h => h) (pa_cons (pv 0) pa_nil)) (pa_cons (pv 1) (pa_cons (pv 2) (pa_cons (pv 3) pa_nil))))))))), ?_⟩
  exact fn_of_ex (n := 4) (pad := 0) rfl ((exs_seq (exs_drop (ex_call (fun _ _ => imL_nil) (exa_cons ex_var exa_nil)))
    (exs_seq (exs_drop (ex_call (fun _ _ => imL_nil) (exa_cons ex_var exa_nil)))
    (exs_drop (ex_call (fun _ _ => imL_nil) (exa_cons (ex_call (fun _ _ => imL_nil) (exa_cons ex_var exa_nil)) (exa_cons ex_var (exa_cons ex_var (exa_cons ex_var exa_nil))))))))) h
theorem sc_Desk__pass_closing : FnScope ["self", "mark"] ["self"] (defScope (inClass (top 47) 2)) := ⟨rfl, rfl, rfl, by decide +kernel, rfl, by decide +kernel, by decide +kernel⟩
theorem ok_Desk__pass_closing (Z : Fx P w G T mg base) {f : Addr} {fd : FuncData} (Fd : Fun G.K "_pass_closing" "Desk._pass_closing" (inClass (top 47) 2) f fd)
    {a_behind_closing : Addr} {fd_behind_closing : FuncData} (D_behind_closing : DefX P w G mg base 1 "behind_closing" a_behind_closing fd_behind_closing ["manner", "reader", "state", "name"] [] 4 f_behind_closing) :
    FnOk P w G.K mg base (L2.CX P w) 2 f fd ["self"] (spX G 1 f_Desk__pass_closing) := by
  refine okXC Fd sc_Desk__pass_closing (fun vs H Q E h => h.1) (fun Ar outer s H vs Q E hr h => ?_)
  refine ⟨_, (pss_cons (ps_set (i := 1) sc_Desk__pass_closing.nd rfl (by first | exact Or.inl rfl | exact Or.inr rfl) (pe_bm0K' (K := G.K) rfl PySem.F.plainAttrs_list PySem.F.slot_list_pop PySem.F.type_list_pop mt_pop (pe_fldK (K := G.K) rfl (pv 0) rfl)))
    (pss_cons (ps_expr (pe_bmK (K := G.K) rfl PySem.F.plainAttrs_list PySem.F.slot_list_append PySem.F.type_list_append mt_append (pe_fldK (K := G.K) rfl (pv 0) rfl) (pa_cons (pv 1) pa_nil)))
    (pss_one (ps_expr (pe_bmK (K := G.K) rfl PySem.F.plainAttrs_list PySem.F.slot_list_append PySem.F.type_list_append mt_append (pe_fldK (K := G.K) rfl (pv 0) rfl) (pa_cons (pe_call D_behind_closing.ok (hr.mono (by decide)) (by rfl) D_behind_closing.g D_behind_closing.kp D_behind_closing.b .nil (passes_call (takes_of rfl rfl rfl rfl) fun _ _ _ _ h => h) (pa_cons (pe_fldK (K := G.K) rfl (pv 0) rfl) (pa_cons (pe_fldK (K := G.K) rfl (pv 0) rfl) (pa_cons (pe_ix (ix_K (K := G.K) rfl) (pe_fldK (K := G.K) rfl (pv 0) rfl) (pe_un un_neg pe_int) (fun _ _ => rfl)) (pa_cons (pe_ix (ix_K (K := G.K) rfl) (pv 1) pe_int (fun _ _ => rfl)) pa_nil))))) pa_nil)))))), ?_⟩
  exact fn_of_ex (n := 1) (pad := 1) rfl ((exs_seq (exs_asg (ex_bm0 (ok_pop Z.M) (ex_fld Z.cl_Desk Z.na_Desk__left_open ex_var)) exg_name)
    (exs_seq (exs_drop (ex_bm (ok_append Z.M) (ex_fld Z.cl_Desk Z.na_Desk__closed ex_var) (exa_cons ex_var exa_nil)))
    (exs_drop (ex_bm (ok_append Z.M) (ex_fld Z.cl_Desk Z.na_Desk__states ex_var) (exa_cons (ex_call (fun _ _ => imL_nil) (exa_cons (ex_fld Z.cl_Desk Z.na_Desk__manner ex_var) (exa_cons (ex_fld Z.cl_Desk Z.na_Desk__reader ex_var) (exa_cons (ex_2 ok_ix (ex_fld Z.cl_Desk Z.na_Desk__states ex_var) (ex_1 ok_neg ex_int)) (exa_cons (ex_2 ok_ix ex_var ex_int) exa_nil))))) exa_nil)))))) h
theorem sc_Desk_wrong : FnScope ["self", "number", "erred"] ["self"] (defScope (inClass (top 47) 7)) := ⟨rfl, rfl, rfl, by decide +kernel, rfl, by decide +kernel, by decide +kernel⟩
theorem ok_Desk_wrong (Z : Fx P w G T mg base) {f : Addr} {fd : FuncData} (Fd : Fun G.K "wrong" "Desk.wrong" (inClass (top 47) 7) f fd) :
    FnOk P w G.K mg base (L2.CX P w) 1 f fd ["self"] (spX G 1 f_Desk_wrong) := by
  refine okXC Fd sc_Desk_wrong (fun vs H Q E h => h.1) (fun Ar outer s H vs Q E hr h => ?_)
  refine ⟨_, (pss_one (ps_ret (pe_callTy (call_tupK (K := G.K) rfl) (by rfl) Z.z_tuple boot_tuple' (pa_cons (pe_lc (own := [("number", 1), ("erred", 2)]) rfl sc_Desk_wrong.nd (pi_enLK (K := G.K) rfl (by rfl) Z.z_enumerate (pa_cons (pe_fldK (K := G.K) rfl (pv 0) rfl) pa_nil)) (blkOk_by (N := ["self", "number", "erred"]) (sc := defScope (inClass (top 47) 7)) (by decide +kernel)) (fun _ _ _ _ _ => (pg_tupK (K := G.K) (n := 2) rfl rfl (pgs_cons (pg_name (i := 1) sc_Desk_wrong.nd rfl (by first | exact Or.inl rfl | exact Or.inr rfl)) (pgs_cons (pg_name (i := 2) sc_Desk_wrong.nd rfl (by first | exact Or.inl rfl | exact Or.inr rfl)) pgs_nil)))) (fun _ _ _ _ _ => pts_one (pt_val (pv 2))) (fun _ _ _ _ _ => (pv 1))) pa_nil)))), ?_⟩
  exact fn_of_ex (n := 1) (pad := 2) rfl ((exs_ret (ex_cb (ok_tuple Z.M) (exa_cons (ex_lc Z.M (exi_enL Z.M (exa_cons (ex_fld Z.cl_Desk Z.na_Desk__erred ex_var) exa_nil)) (exw_tup (exws_cons (exw_name (by decide)) (exws_cons (exw_name (by decide)) exws_nil))) (ext_B ex_var) ex_var) exa_nil)))) h
theorem sc__law_paths : FnScope ["tags", "left", "found", "tag"] ["tags"] (defScope (top 55)) := ⟨rfl, rfl, rfl, by decide +kernel, rfl, by decide +kernel, by decide +kernel⟩
theorem ok__law_paths (Z : Fx P w G T mg base) {f : Addr} {fd : FuncData} (Fd : Fun G.K "_law_paths" "_law_paths" (top 55) f fd) :
    FnOk P w G.K mg base (L2.CX P w) 1 f fd ["tags"] (spX G 1 f__law_paths) := by
  refine okXC Fd sc__law_paths (fun vs H Q E h => h.1) (fun Ar outer s H vs Q E hr h => ?_)
  refine ⟨_, (pss_cons (ps_par (by rfl) sc__law_paths.nd (i := 1) (j := 2) rfl rfl (by decide) rfl rfl (pa_cons (pe_tup pa_nil) (pa_cons (pe_lst pa_nil) pa_nil)) (by rfl))
    (pss_cons (ps_for (passes_of rfl) rfl (pi_tupK (K := G.K) rfl (pv 0)) (pg_name (i := 3) sc__law_paths.nd rfl (by first | exact Or.inl rfl | exact Or.inr rfl))
    (pss_cons (ps_set (i := 1) sc__law_paths.nd rfl (by first | exact Or.inl rfl | exact Or.inr rfl) (pe_ifExp (pt_cmpR op_ge (pv 3) pe_int (nomark _)) (pe_op (op_catK (K := G.K) rfl) (pv 1) (pe_tup (pa_cons (pv 3) pa_nil))) (pe_slice (sl_tupK (K := G.K) rfl) (pv 1) po_none (po_some (pe_un un_neg pe_int)))))
    (pss_one (ps_set (i := 2) sc__law_paths.nd rfl (by first | exact Or.inl rfl | exact Or.inr rfl) (pe_op op_cat (pv 2) (pe_ifExp (pt_cmpR op_ge (pv 3) pe_int (nomark _)) (pe_lst (pa_cons (pv 1) pa_nil)) (pe_lst pa_nil)))))))
    (pss_one (ps_ret (pe_tup (pa_cons (pv 2) (pa_cons (pv 1) pa_nil))))))), ?_⟩
  exact fn_of_ex (n := 1) (pad := 3) rfl ((exs_seq (exs_par (exa_cons (ex_tup Z.M exa_nil) (exa_cons (ex_lst Z.M exa_nil) exa_nil)))
    (exs_seq (exs_for (exi_tup ex_var) exg_name
    (exs_seq (exs_asg (ex_if (ext_test (ex_2 ok_ge ex_var ex_int)) (ex_2 (ok_catT Z.M) ex_var (ex_tup Z.M (exa_cons ex_var exa_nil))) (ex_sl (ok_slT Z.M) ex_var exo_none (exo_some (ex_1 ok_neg ex_int)))) exg_name)
    (exs_asg (ex_2 (ok_catL Z.M) ex_var (ex_if (ext_test (ex_2 ok_ge ex_var ex_int)) (ex_lst Z.M (exa_cons ex_var exa_nil)) (ex_lst Z.M exa_nil))) exg_name)))
    (exs_ret (ex_tup Z.M (exa_cons ex_var (exa_cons ex_var exa_nil))))))) h
theorem sc__law_alike : FnScope ["found", "due", "k"] ["found", "due"] (defScope (top 51)) := ⟨rfl, rfl, rfl, by decide +kernel, rfl, by decide +kernel, by decide +kernel⟩
theorem ok__law_alike (Z : Fx P w G T mg base) {f : Addr} {fd : FuncData} (Fd : Fun G.K "_law_alike" "_law_alike" (top 51) f fd) (bR : Binds G.K fd ["found", "due"] []) (gR : mg "_law_alike" = some (.ref f)) :
    ∀ N, FnOk P w G.K mg base (L2.CX P w) (N + 0) f fd ["found", "due"] (spX G 2 (f__law_alike N))
  | 0 => ⟨fun vs H Q E h => h.1, fun A outer s H args us vs Q E _ _ _ _ h => by obtain ⟨_, _, _, _, _, _, q⟩ := h; exact q.elim⟩
  | N + 1 => by
    have D__law_alike : DefX P w G mg base (N + 0) "_law_alike" f fd ["found", "due"] [] 2 (f__law_alike N) := ⟨ok__law_alike Z Fd bR gR N, Fd.kp, bR, gR, ⟨[], .nil, bR⟩⟩
    show FnOk P w G.K mg base (L2.CX P w) ((N + 0) + 1) f fd ["found", "due"] (spX G 2 (mDef (m__law_alike (f__law_alike N)) 1))
    refine okXC Fd sc__law_alike (fun vs H Q E h => h.1) (fun Ar outer s H vs Q E hr h => ?_)
    refine ⟨_, (pss_cons (ps_if (pt_val (pe_callB (call_isiTK (K := G.K) rfl) (by rfl) Z.z_isinstance boot_isi (pa_cons (pv 1) (pa_cons (pe_tup (pa_cons (pe_bltn (v := .ty "tuple") (by rfl) Z.z_tuple boot_tuple' rfl) (pa_cons (pe_bltn (v := .ty "list") (by rfl) Z.z_list boot_list' rfl) pa_nil))) pa_nil)))) (pss_cons (ps_if (PW.pt (pw_or (pt_not (pt_val (pe_callB (call_isiTK (K := G.K) rfl) (by rfl) Z.z_isinstance boot_isi (pa_cons (pv 0) (pa_cons (pe_tup (pa_cons (pe_bltn (v := .ty "tuple") (by rfl) Z.z_tuple boot_tuple' rfl) (pa_cons (pe_bltn (v := .ty "list") (by rfl) Z.z_list boot_list' rfl) pa_nil))) pa_nil))))) (pw_or1 (pt_cmpR (op_neK (K := G.K) rfl (hu64 hr)) (pe_callB (call_isiK' (K := G.K) rfl) (by rfl) Z.z_isinstance boot_isi (pa_cons (pv 0) (pa_cons (pe_bltn (v := .ty "list") (by rfl) Z.z_list boot_list' rfl) pa_nil))) (pe_callB (call_isiK' (K := G.K) rfl) (by rfl) Z.z_isinstance boot_isi (pa_cons (pv 1) (pa_cons (pe_bltn (v := .ty "list") (by rfl) Z.z_list boot_list' rfl) pa_nil))) (nomark _))))) (pss_one (ps_ret pe_bl)) pss_nil)
    (pss_cons (ps_if (pt_cmpR (op_neK (K := G.K) rfl (hu64 hr)) (pe_callB (call_lenK (K := G.K) rfl) (by rfl) Z.z_len boot_len (pa_cons (pv 0) pa_nil)) (pe_callB (call_lenK (K := G.K) rfl) (by rfl) Z.z_len boot_len (pa_cons (pv 1) pa_nil)) (nomark _)) (pss_one (ps_ret pe_bl)) pss_nil)
    (pss_one (ps_ret (pe_cmpR (op_eqK (K := G.K) rfl (hu64 hr)) (pe_lc (own := [("k", 2)]) rfl sc__law_alike.nd (pi_range1 (by rfl) Z.z_range (pa_cons (pe_callB (call_lenK (K := G.K) rfl) (by rfl) Z.z_len boot_len (pa_cons (pv 1) pa_nil)) pa_nil)) (blkOk_by (N := ["found", "due", "k"]) (sc := defScope (top 51)) (by decide +kernel)) (fun _ _ _ _ _ => (pg_name (i := 2) sc__law_alike.nd rfl (by first | exact Or.inl rfl | exact Or.inr rfl))) (fun _ _ _ _ _ => pts_one (pt_not (pt_val (pe_call D__law_alike.ok (hr.mono (Nat.le_refl _)) (by rfl) D__law_alike.g D__law_alike.kp D__law_alike.b .nil passF (pa_cons (pe_ix (ix_K (K := G.K) rfl) (pv 0) (pv 2) (fun _ _ => rfl)) (pa_cons (pe_ix (ix_K (K := G.K) rfl) (pv 1) (pv 2) (fun _ _ => rfl)) pa_nil)))))) (fun _ _ _ _ _ => (pv 2))) (pe_lst pa_nil) (nomark _)))))) pss_nil)
    (pss_cons (ps_if (PW.pt (pw_or (pt_cmpR op_isN (pv 1) pe_non (nomark _)) (pw_or1 (pt_val (pe_callB (call_isiK' (K := G.K) rfl) (by rfl) Z.z_isinstance boot_isi (pa_cons (pv 1) (pa_cons (pe_bltn (v := .ty "str") (by rfl) Z.z_str boot_str' rfl) pa_nil))))))) (pss_one (ps_ret (pe_and (pe_cmpR (op_eqK (K := G.K) rfl (hu64 hr)) (pv 0) (pv 1) (nomark _)) (pe_one (pe_cmpR (op_eqK (K := G.K) rfl (hu64 hr)) (pe_callB (call_isiK' (K := G.K) rfl) (by rfl) Z.z_isinstance boot_isi (pa_cons (pv 0) (pa_cons (pe_bltn (v := .ty "str") (by rfl) Z.z_str boot_str' rfl) pa_nil))) (pe_callB (call_isiK' (K := G.K) rfl) (by rfl) Z.z_isinstance boot_isi (pa_cons (pv 1) (pa_cons (pe_bltn (v := .ty "str") (by rfl) Z.z_str boot_str' rfl) pa_nil))) (nomark _)))))) pss_nil)
    (pss_one (ps_ret (pe_and (pe_callB (call_isiK' (K := G.K) rfl) (by rfl) Z.z_isinstance boot_isi (pa_cons (pv 0) (pa_cons (pe_bltn (v := .ty "int") (by rfl) Z.z_int boot_int' rfl) pa_nil))) (pe_and (pe_cmpR (op_eqK (K := G.K) rfl (hu64 hr)) (pe_callB (call_isiK' (K := G.K) rfl) (by rfl) Z.z_isinstance boot_isi (pa_cons (pv 0) (pa_cons (pe_bltn (v := .ty "bool") (by rfl) Z.z_bool boot_bool' rfl) pa_nil))) (pe_callB (call_isiK' (K := G.K) rfl) (by rfl) Z.z_isinstance boot_isi (pa_cons (pv 1) (pa_cons (pe_bltn (v := .ty "bool") (by rfl) Z.z_bool boot_bool' rfl) pa_nil))) (nomark _)) (pe_one (pe_cmpR (op_eqK (K := G.K) rfl (hu64 hr)) (pv 0) (pv 1) (nomark _))))))))), ?_⟩
    exact fn_of_ex (n := 2) (pad := 1) rfl ((exs_seq (exs_if (ext_B (ex_isTL Z.M ex_var)) (exs_seq (exs_if (ext_or (ext_not (ext_B (ex_isTL Z.M ex_var))) (ext_test (ex_2 ok_ne (ex_cb ok_isi (exa_cons ex_var (exa_cons ex_ty exa_nil))) (ex_cb ok_isi (exa_cons ex_var (exa_cons ex_ty exa_nil)))))) (exs_ret ex_bl) exs_next)
    (exs_seq (exs_if (ext_test (ex_2 ok_ne (ex_cb ok_len (exa_cons ex_var exa_nil)) (ex_cb ok_len (exa_cons ex_var exa_nil)))) (exs_ret ex_bl) exs_next)
    (exs_ret (ex_2 ok_eq (ex_lc Z.M (exi_rng1 (exa_cons (ex_cb ok_len (exa_cons ex_var exa_nil)) exa_nil)) (exw_name (by decide)) (ext_not (ext_B (ex_call (fun _ _ => imL_nil) (exa_cons (ex_2 ok_ix ex_var ex_var) (exa_cons (ex_2 ok_ix ex_var ex_var) exa_nil))))) ex_var) (ex_lst Z.M exa_nil))))) exs_next)
    (exs_seq (exs_if (ext_or (ext_test (ex_2 ok_isN ex_var ex_non)) (ext_B (ex_cb ok_isi (exa_cons ex_var (exa_cons ex_ty exa_nil))))) (exs_ret (ex_andV (ex_2 ok_eq ex_var ex_var) (ex_2 ok_eq (ex_cb ok_isi (exa_cons ex_var (exa_cons ex_ty exa_nil))) (ex_cb ok_isi (exa_cons ex_var (exa_cons ex_ty exa_nil)))))) exs_next)
    (exs_ret (ex_andV (ex_cb ok_isi (exa_cons ex_var (exa_cons ex_ty exa_nil))) (ex_andV (ex_2 ok_eq (ex_cb ok_isi (exa_cons ex_var (exa_cons ex_ty exa_nil))) (ex_cb ok_isi (exa_cons ex_var (exa_cons ex_ty exa_nil)))) (ex_2 ok_eq ex_var ex_var))))))) h
end
end Mx

/-! ### MkG4 -/
set_option Elab.async false
set_option linter.all false
set_option maxRecDepth 100000
set_option maxHeartbeats 4000000
namespace Mx
open PySem PySem.Spec PyProof.Rows L2
open GxR (TabG Tabbed)
section
variable {P : Program} {w : World} {G : Gx} {T : List Addr} {mg : Str → Option Value} {base : Heap}
theorem sc_are_steps : FnScope ["value", "names", "last", "nexts"] ["value"] (defScope (top 22)) := ⟨rfl, rfl, rfl, by decide +kernel, rfl, by decide +kernel, by decide +kernel⟩
theorem ok_are_steps (Z : Fx P w G T mg base) {f : Addr} {fd : FuncData} (Fd : Fun G.K "are_steps" "are_steps" (top 22) f fd)
    {a_is_tuple_of : Addr} {fd_is_tuple_of : FuncData} (D_is_tuple_of : DefX P w G mg base 1 "is_tuple_of" a_is_tuple_of fd_is_tuple_of ["value", "least", "most"] [] 3 f_is_tuple_of)
    {a_are_numbers : Addr} {fd_are_numbers : FuncData} (D_are_numbers : DefX P w G mg base 3 "are_numbers" a_are_numbers fd_are_numbers ["value", "many", "most"] [] 3 f_are_numbers)
    {c T0 : Addr} (hT : T0 ∈ T) (O : OwnX mg base fd c T0) :
    FnOk P w G.K mg base (L2.CX P w) 5 f fd ["value"] (spX G 1 f_are_steps) := by
  obtain ⟨t_MOST_STATES, g_MOST_STATES⟩ := Z.i_MOST_STATES
  obtain ⟨t_MOST_NAMES, g_MOST_NAMES⟩ := Z.i_MOST_NAMES
  refine okXC Fd sc_are_steps (fun vs H Q E h => h.1) (fun Ar outer s H vs Q E hr h => ?_)
  refine ⟨_, (pss_cons (ps_if (PW.pt (pw_or (pt_not (pt_val (pe_call D_is_tuple_of.ok (hr.mono (by decide)) (by rfl) D_is_tuple_of.g D_is_tuple_of.kp D_is_tuple_of.b .nil (passes_call (takes_of rfl rfl rfl rfl) fun _ _ _ _ h => h) (pa_cons (pv 0) (pa_cons pe_int (pa_cons (pe_glob (v := .int (6)) (by rfl) g_MOST_STATES ⟨_, rfl⟩) pa_nil)))))) (pw_or1 (pt_not (pt_val (pe_call D_is_tuple_of.ok (hr.mono (by decide)) (by rfl) D_is_tuple_of.g D_is_tuple_of.kp D_is_tuple_of.b .nil (passes_call (takes_of rfl rfl rfl rfl) fun _ _ _ _ h => h) (pa_cons (pe_ix (ix_K (K := G.K) rfl) (pv 0) pe_int (fun _ _ => rfl)) (pa_cons pe_int (pa_cons (pe_glob (v := .int (3)) (by rfl) g_MOST_NAMES ⟨_, rfl⟩) pa_nil))))))))) (pss_one (ps_ret pe_bl)) pss_nil)
    (pss_cons (ps_set (i := 1) sc_are_steps.nd rfl (by first | exact Or.inl rfl | exact Or.inr rfl) (pe_callB (call_lenK (K := G.K) rfl) (by rfl) Z.z_len boot_len (pa_cons (pe_ix (ix_K (K := G.K) rfl) (pv 0) pe_int (fun _ _ => rfl)) pa_nil)))
    (pss_cons (ps_set (i := 2) sc_are_steps.nd rfl (by first | exact Or.inl rfl | exact Or.inr rfl) (pe_op op_sub (pe_callB (call_lenK (K := G.K) rfl) (by rfl) Z.z_len boot_len (pa_cons (pv 0) pa_nil)) pe_int))
    (pss_one (ps_ret (Mk.pe_all (own := [("nexts", 3)]) hr (by rfl) Z.z_all O.tb O.code (gOk_by (N := ["value", "names", "last", "nexts"]) (sc := defScope (top 22)) (by decide +kernel)) sc_are_steps.nd (pi_tupK (K := G.K) rfl (pv 0)) (fun _ _ _ _ _ _ _ => (pg_name (i := 3) sc_are_steps.nd rfl (by first | exact Or.inl rfl | exact Or.inr rfl))) (fun _ _ _ _ _ _ _ => (pe_call D_are_numbers.ok (Room.mono (room_gen hr) (by decide)) (by rfl) D_are_numbers.g D_are_numbers.kp D_are_numbers.b .nil passF (pa_cons (pv 3) (pa_cons (pv 1) (pa_cons (pv 2) pa_nil))))))))))), ?_⟩
  exact fn_of_ex (n := 1) (pad := 3) rfl ((exs_seq (exs_if (ext_or (ext_not (ext_B (ex_call (fun _ _ => imL_nil) (exa_cons ex_var (exa_cons ex_int (exa_cons ex_int exa_nil)))))) (ext_not (ext_B (ex_call (fun _ _ => imL_nil) (exa_cons (ex_2 ok_ix ex_var ex_int) (exa_cons ex_int (exa_cons ex_int exa_nil))))))) (exs_ret ex_bl) exs_next)
    (exs_seq (exs_asg (ex_cb ok_len (exa_cons (ex_2 ok_ix ex_var ex_int) exa_nil)) exg_name)
    (exs_seq (exs_asg (ex_2 ok_sub (ex_cb ok_len (exa_cons ex_var exa_nil)) ex_int) exg_name)
    (exs_ret (ex_all Z.M hT (exi_tup ex_var) (exw_name (by decide)) (ex_call (fun _ _ => imL_nil) (exa_cons ex_var (exa_cons ex_var (exa_cons ex_var exa_nil)))))))))) h
theorem sc_are_opens : FnScope ["value", "names", "most", "last", "pairs"] ["value", "names", "most"] (defScope (top 32)) := ⟨rfl, rfl, rfl, by decide +kernel, rfl, by decide +kernel, by decide +kernel⟩
theorem ok_are_opens (Z : Fx P w G T mg base) {f : Addr} {fd : FuncData} (Fd : Fun G.K "are_opens" "are_opens" (top 32) f fd)
    {a_is_tuple_of : Addr} {fd_is_tuple_of : FuncData} (D_is_tuple_of : DefX P w G mg base 1 "is_tuple_of" a_is_tuple_of fd_is_tuple_of ["value", "least", "most"] [] 3 f_is_tuple_of)
    {a_are_pairs : Addr} {fd_are_pairs : FuncData} (D_are_pairs : DefX P w G mg base 4 "are_pairs" a_are_pairs fd_are_pairs ["value", "names", "last"] [] 3 f_are_pairs)
    {c T0 : Addr} (hT : T0 ∈ T) (O : OwnX mg base fd c T0) :
    FnOk P w G.K mg base (L2.CX P w) 6 f fd ["value", "names", "most"] (spX G 3 f_are_opens) := by
  refine okXC Fd sc_are_opens (fun vs H Q E h => h.1) (fun Ar outer s H vs Q E hr h => ?_)
  refine ⟨_, (pss_cons (ps_if (pt_not (pt_val (pe_call D_is_tuple_of.ok (hr.mono (by decide)) (by rfl) D_is_tuple_of.g D_is_tuple_of.kp D_is_tuple_of.b .nil (passes_call (takes_of rfl rfl rfl rfl) fun _ _ _ _ h => h) (pa_cons (pv 0) (pa_cons pe_int (pa_cons (pv 2) pa_nil)))))) (pss_one (ps_ret pe_bl)) pss_nil)
    (pss_cons (ps_set (i := 3) sc_are_opens.nd rfl (by first | exact Or.inl rfl | exact Or.inr rfl) (pe_op op_sub (pe_callB (call_lenK (K := G.K) rfl) (by rfl) Z.z_len boot_len (pa_cons (pv 0) pa_nil)) pe_int))
    (pss_one (ps_ret (Mk.pe_all (own := [("pairs", 4)]) hr (by rfl) Z.z_all O.tb O.code (gOk_by (N := ["value", "names", "most", "last", "pairs"]) (sc := defScope (top 32)) (by decide +kernel)) sc_are_opens.nd (pi_tupK (K := G.K) rfl (pv 0)) (fun _ _ _ _ _ _ _ => (pg_name (i := 4) sc_are_opens.nd rfl (by first | exact Or.inl rfl | exact Or.inr rfl))) (fun _ _ _ _ _ _ _ => (pe_call D_are_pairs.ok (Room.mono (room_gen hr) (by decide)) (by rfl) D_are_pairs.g D_are_pairs.kp D_are_pairs.b .nil passF (pa_cons (pv 4) (pa_cons (pv 1) (pa_cons (pv 3) pa_nil)))))))))), ?_⟩
  exact fn_of_ex (n := 3) (pad := 2) rfl ((exs_seq (exs_if (ext_not (ext_B (ex_call (fun _ _ => imL_nil) (exa_cons ex_var (exa_cons ex_int (exa_cons ex_var exa_nil)))))) (exs_ret ex_bl) exs_next)
    (exs_seq (exs_asg (ex_2 ok_sub (ex_cb ok_len (exa_cons ex_var exa_nil)) ex_int) exg_name)
    (exs_ret (ex_all Z.M hT (exi_tup ex_var) (exw_name (by decide)) (ex_call (fun _ _ => imL_nil) (exa_cons ex_var (exa_cons ex_var (exa_cons ex_var exa_nil))))))))) h
theorem sc_behind_closing : FnScope ["manner", "reader", "state", "name", "nexts"] ["manner", "reader", "state", "name"] (defScope (top 38)) := ⟨rfl, rfl, rfl, by decide +kernel, rfl, by decide +kernel, by decide +kernel⟩
theorem ok_behind_closing (Z : Fx P w G T mg base) {f : Addr} {fd : FuncData} (Fd : Fun G.K "behind_closing" "behind_closing" (top 38) f fd) :
    FnOk P w G.K mg base (L2.CX P w) 1 f fd ["manner", "reader", "state", "name"] (spX G 4 f_behind_closing) := by
  obtain ⟨t_NAMED, g_NAMED⟩ := Z.s_NAMED
  refine okXC Fd sc_behind_closing (fun vs H Q E h => h.1) (fun Ar outer s H vs Q E hr h => ?_)
  refine ⟨_, (pss_cons (ps_set (i := 4) sc_behind_closing.nd rfl (by first | exact Or.inl rfl | exact Or.inr rfl) (pe_ix (ix_K (K := G.K) rfl) (pe_ix (ix_K (K := G.K) rfl) (pv 1) pe_int (fun _ _ => rfl)) (pv 2) (fun _ _ => rfl)))
    (pss_one (ps_ret (pe_ifExp (pt_cmpR (op_eqK (K := G.K) rfl (hu64 hr)) (pv 0) (pe_glob (v := .str "named") (by rfl) g_NAMED ⟨_, rfl⟩) (nomark _)) (pe_ix (ix_K (K := G.K) rfl) (pv 4) (pv 3) (fun _ _ => rfl)) (pe_ix (ix_K (K := G.K) rfl) (pv 4) pe_int (fun _ _ => rfl)))))), ?_⟩
  exact fn_of_ex (n := 4) (pad := 1) rfl ((exs_seq (exs_asg (ex_2 ok_ix (ex_2 ok_ix ex_var ex_int) ex_var) exg_name)
    (exs_ret (ex_if (ext_test (ex_2 ok_eq ex_var ex_str)) (ex_2 ok_ix ex_var ex_var) (ex_2 ok_ix ex_var ex_int))))) h
theorem sc_Desk__pass_opening : FnScope ["self", "name", "steps", "answers", "outer", "inner", "state", "given"] ["self", "name"] (defScope (inClass (top 47) 3)) := ⟨rfl, rfl, rfl, by decide +kernel, rfl, by decide +kernel, by decide +kernel⟩
theorem ok_Desk__pass_opening (Z : Fx P w G T mg base) {f : Addr} {fd : FuncData} (Fd : Fun G.K "_pass_opening" "Desk._pass_opening" (inClass (top 47) 3) f fd) :
    FnOk P w G.K mg base (L2.CX P w) 1 f fd ["self", "name"] (spX G 2 f_Desk__pass_opening) := by
  refine okXC Fd sc_Desk__pass_opening (fun vs H Q E h => h.1) (fun Ar outer s H vs Q E hr h => ?_)
  refine ⟨_, (pss_cons (ps_asg (pe_fldK (K := G.K) rfl (pv 0) rfl) (pg_tupK (K := G.K) (n := 2) rfl rfl (pgs_cons (pg_name (i := 2) sc_Desk__pass_opening.nd rfl (by first | exact Or.inl rfl | exact Or.inr rfl)) (pgs_cons (pg_name (i := 3) sc_Desk__pass_opening.nd rfl (by first | exact Or.inl rfl | exact Or.inr rfl)) pgs_nil))))
    (pss_cons (ps_set (i := 4) sc_Desk__pass_opening.nd rfl (by first | exact Or.inl rfl | exact Or.inr rfl) (pe_ifExp (pt_cmpR op_gt (pe_callB (call_lenK (K := G.K) rfl) (by rfl) Z.z_len boot_len (pa_cons (pe_fldK (K := G.K) rfl (pv 0) rfl) pa_nil)) pe_int (nomark _)) (pe_ix (ix_K (K := G.K) rfl) (pe_ix (ix_K (K := G.K) rfl) (pe_fldK (K := G.K) rfl (pv 0) rfl) (pe_un un_neg pe_int) (fun _ _ => rfl)) pe_int (fun _ _ => rfl)) pe_int))
    (pss_cons (ps_set (i := 5) sc_Desk__pass_opening.nd rfl (by first | exact Or.inl rfl | exact Or.inr rfl) (pe_ix (ix_K (K := G.K) rfl) (pe_ix (ix_K (K := G.K) rfl) (pv 2) (pv 4) (fun _ _ => rfl)) (pv 1) (fun _ _ => rfl)))
    (pss_cons (ps_asg (pe_ix (ix_K (K := G.K) rfl) (pe_ix (ix_K (K := G.K) rfl) (pe_ix (ix_K (K := G.K) rfl) (pe_fldK (K := G.K) rfl (pv 0) rfl) pe_int (fun _ _ => rfl)) (pe_ix (ix_K (K := G.K) rfl) (pe_fldK (K := G.K) rfl (pv 0) rfl) (pe_un un_neg pe_int) (fun _ _ => rfl)) (fun _ _ => rfl)) (pv 1) (fun _ _ => rfl)) (pg_tupK (K := G.K) (n := 2) rfl rfl (pgs_cons (pg_name (i := 6) sc_Desk__pass_opening.nd rfl (by first | exact Or.inl rfl | exact Or.inr rfl)) (pgs_cons (pg_name (i := 7) sc_Desk__pass_opening.nd rfl (by first | exact Or.inl rfl | exact Or.inr rfl)) pgs_nil))))
    (pss_cons (ps_expr (pe_bmK (K := G.K) rfl PySem.F.plainAttrs_list PySem.F.slot_list_append PySem.F.type_list_append mt_append (pe_fldK (K := G.K) rfl (pv 0) rfl) (pa_cons (pe_tup (pa_cons (pv 1) (pa_cons (pv 5) pa_nil))) pa_nil)))
    (pss_cons (ps_expr (pe_bmK (K := G.K) rfl PySem.F.plainAttrs_list PySem.F.slot_list_append PySem.F.type_list_append mt_append (pe_fldK (K := G.K) rfl (pv 0) rfl) (pa_cons (pv 6) pa_nil)))
    (pss_cons (ps_expr (pe_bmK (K := G.K) rfl PySem.F.plainAttrs_list PySem.F.slot_list_append PySem.F.type_list_append mt_append (pe_fldK (K := G.K) rfl (pv 0) rfl) (pa_cons (pe_cmpR (op_neK (K := G.K) rfl (hu64 hr)) (pv 7) (pe_ix (ix_K (K := G.K) rfl) (pv 3) (pv 5) (fun _ _ => rfl)) (nomark _)) pa_nil)))
    (pss_one (ps_ret (pe_tup (pa_cons (pe_ix (ix_K (K := G.K) rfl) (pv 3) (pv 5) (fun _ _ => rfl)) (pa_cons (pv 7) pa_nil)))))))))))), ?_⟩
  exact fn_of_ex (n := 2) (pad := 6) rfl ((exs_seq (exs_asg (ex_fld Z.cl_Desk Z.na_Desk__question ex_var) (exg_tup (exgs_cons exg_name (exgs_cons exg_name exgs_nil))))
    (exs_seq (exs_asg (ex_if (ext_test (ex_2 ok_gt (ex_cb ok_len (exa_cons (ex_fld Z.cl_Desk Z.na_Desk__left_open ex_var) exa_nil)) ex_int)) (ex_2 ok_ix (ex_2 ok_ix (ex_fld Z.cl_Desk Z.na_Desk__left_open ex_var) (ex_1 ok_neg ex_int)) ex_int) ex_int) exg_name)
    (exs_seq (exs_asg (ex_2 ok_ix (ex_2 ok_ix ex_var ex_var) ex_var) exg_name)
    (exs_seq (exs_asg (ex_2 ok_ix (ex_2 ok_ix (ex_2 ok_ix (ex_fld Z.cl_Desk Z.na_Desk__reader ex_var) ex_int) (ex_2 ok_ix (ex_fld Z.cl_Desk Z.na_Desk__states ex_var) (ex_1 ok_neg ex_int))) ex_var) (exg_tup (exgs_cons exg_name (exgs_cons exg_name exgs_nil))))
    (exs_seq (exs_drop (ex_bm (ok_append Z.M) (ex_fld Z.cl_Desk Z.na_Desk__left_open ex_var) (exa_cons (ex_tup Z.M (exa_cons ex_var (exa_cons ex_var exa_nil))) exa_nil)))
    (exs_seq (exs_drop (ex_bm (ok_append Z.M) (ex_fld Z.cl_Desk Z.na_Desk__states ex_var) (exa_cons ex_var exa_nil)))
    (exs_seq (exs_drop (ex_bm (ok_append Z.M) (ex_fld Z.cl_Desk Z.na_Desk__erred ex_var) (exa_cons (ex_2 ok_ne ex_var (ex_2 ok_ix ex_var ex_var)) exa_nil)))
    (exs_ret (ex_tup Z.M (exa_cons (ex_2 ok_ix ex_var ex_var) (exa_cons ex_var exa_nil)))))))))))) h
theorem sc_Desk__do_tag : FnScope ["self", "sign", "tag", "told"] ["self", "sign"] (defScope (inClass (top 47) 9)) := ⟨rfl, rfl, rfl, by decide +kernel, rfl, by decide +kernel, by decide +kernel⟩
theorem ok_Desk__do_tag (Z : Fx P w G T mg base) {f : Addr} {fd : FuncData} (Fd : Fun G.K "_do_tag" "Desk._do_tag" (inClass (top 47) 9) f fd)
    {a_tag_of : Addr} {fd_tag_of : FuncData} (D_tag_of : DefX P w G mg base 1 "tag_of" a_tag_of fd_tag_of ["names", "sign"] [] 2 f_tag_of)
    {a_names_of : Addr} {fd_names_of : FuncData} (D_names_of : DefX P w G mg base 1 "names_of" a_names_of fd_names_of ["question"] [] 1 f_names_of)
    {a_Desk_tag : Addr} {fd_Desk_tag : FuncData} (D_Desk_tag : MethX P w G mg base 4 (G.cl 0) "tag" a_Desk_tag fd_Desk_tag ["self", "value"] 2 f_Desk_tag)
    {a_words_of : Addr} {fd_words_of : FuncData} (D_words_of : DefX P w G mg base 1 "words_of" a_words_of fd_words_of ["numbers"] [] 1 f_words_of) :
    FnOk P w G.K mg base (L2.CX P w) 5 f fd ["self", "sign"] (spX G 2 f_Desk__do_tag) := by
  obtain ⟨t_DONE, g_DONE⟩ := Z.s_DONE
  obtain ⟨fI_BadLine, fd_BadLine, e_BadLine⟩ := Z.e_BadLine
  refine okXC Fd sc_Desk__do_tag (fun vs H Q E h => h.1) (fun Ar outer s H vs Q E hr h => ?_)
  refine ⟨_, (pss_cons (ps_set (i := 2) sc_Desk__do_tag.nd rfl (by first | exact Or.inl rfl | exact Or.inr rfl) (pe_ifExp (pt_cmpR (op_eqK (K := G.K) rfl (hu64 hr)) (pe_callB (call_lenK (K := G.K) rfl) (by rfl) Z.z_len boot_len (pa_cons (pv 1) pa_nil)) pe_int (nomark _)) (pe_call D_tag_of.ok (hr.mono (by decide)) (by rfl) D_tag_of.g D_tag_of.kp D_tag_of.b .nil (passes_call (takes_of rfl rfl rfl rfl) fun _ _ _ _ h => h) (pa_cons (pe_call D_names_of.ok (hr.mono (by decide)) (by rfl) D_names_of.g D_names_of.kp D_names_of.b .nil (passes_call (takes_of rfl rfl rfl rfl) fun _ _ _ _ h => h) (pa_cons (pe_fldK (K := G.K) rfl (pv 0) rfl) pa_nil)) (pa_cons (pv 1) pa_nil))) pe_non))
    (pss_cons (ps_if (pt_cmpR op_isN (pv 2) pe_non (nomark _)) (pss_one (ps_raise rfl (takes_of rfl rfl rfl rfl) (pmk_oex e_BadLine.oex e_BadLine.iC e_BadLine.tI e_BadLine.ok (hr.mono (by decide)) e_BadLine.b .nil pass0 (by rfl) e_BadLine.g (pa_cons pe_int pa_nil)))) pss_nil)
    (pss_cons (ps_set (i := 3) sc_Desk__do_tag.nd rfl (by first | exact Or.inl rfl | exact Or.inr rfl) (pe_meth (pv 0) Z.cl_Desk D_Desk_tag.m D_Desk_tag.ok (hr.mono (by decide)) D_Desk_tag.b .nil (passes_call (takes_of rfl rfl rfl rfl) fun _ _ _ _ h => h) (pa_cons (pv 2) pa_nil)))
    (pss_one (ps_ret (pe_ifExp (pt_cmpR op_isN (pv 3) pe_non (nomark _)) (pe_glob (v := .str "done") (by rfl) g_DONE ⟨_, rfl⟩) (pe_call D_words_of.ok (hr.mono (by decide)) (by rfl) D_words_of.g D_words_of.kp D_words_of.b .nil (passes_call (takes_of rfl rfl rfl rfl) fun _ _ _ _ h => h) (pa_cons (pv 3) pa_nil)))))))), ?_⟩
  exact fn_of_ex (n := 2) (pad := 2) rfl ((exs_seq (exs_asg (ex_if (ext_test (ex_2 ok_eq (ex_cb ok_len (exa_cons ex_var exa_nil)) ex_int)) (ex_call (fun _ _ => imL_nil) (exa_cons (ex_call (fun _ _ => imL_nil) (exa_cons (ex_fld Z.cl_Desk Z.na_Desk__question ex_var) exa_nil)) (exa_cons ex_var exa_nil))) ex_non) exg_name)
    (exs_seq (exs_if (ext_test (ex_2 ok_isN ex_var ex_non)) (exs_rz1 Z.M e_BadLine.oex e_BadLine.no (exa_cons ex_int exa_nil)) exs_next)
    (exs_seq (exs_asg (ex_meth ex_var (exa_cons ex_var exa_nil)) exg_name)
    (exs_ret (ex_if (ext_test (ex_2 ok_isN ex_var ex_non)) ex_str (ex_call (fun _ _ => imL_nil) (exa_cons ex_var exa_nil)))))))) h
theorem sc__law_question : FnScope ["row", "states", "names", "many", "some", "steps", "kind", "name", "marks", "left", "to", "state"] ["row", "states", "names"] (defScope (top 52)) := ⟨rfl, rfl, rfl, by decide +kernel, rfl, by decide +kernel, by decide +kernel⟩
theorem ok__law_question (Z : Fx P w G T mg base) {f : Addr} {fd : FuncData} (Fd : Fun G.K "_law_question" "_law_question" (top 52) f fd)
    {a__law_taken : Addr} {fd__law_taken : FuncData} (D__law_taken : DefX P w G mg base 1 "_law_taken" a__law_taken fd__law_taken ["row", "many"] [] 2 fTaken) :
    FnOk P w G.K mg base (L2.CX P w) 2 f fd ["row", "states", "names"] (spX G 3 f__law_question) := by
  refine okXC Fd sc__law_question (fun vs H Q E h => h.1) (fun Ar outer s H vs Q E hr h => ?_)
  refine ⟨_, (pss_cons (ps_asg (pe_tup (pa_cons (pe_op op_add pe_int (pe_call D__law_taken.ok (hr.mono (by decide)) (by rfl) D__law_taken.g D__law_taken.kp D__law_taken.b .nil (passes_call (takes_of rfl rfl rfl rfl) fun _ _ _ _ h => h) (pa_cons (pv 0) (pa_cons (pv 1) pa_nil)))) (pa_cons (pe_op op_add pe_int (pe_call D__law_taken.ok (hr.mono (by decide)) (by rfl) D__law_taken.g D__law_taken.kp D__law_taken.b .nil (passes_call (takes_of rfl rfl rfl rfl) fun _ _ _ _ h => h) (pa_cons (pv 0) (pa_cons (pv 2) pa_nil)))) (pa_cons (pe_lst pa_nil) pa_nil)))) (pg_tupK (K := G.K) (n := 3) rfl rfl (pgs_cons (pg_name (i := 3) sc__law_question.nd rfl (by first | exact Or.inl rfl | exact Or.inr rfl)) (pgs_cons (pg_name (i := 4) sc__law_question.nd rfl (by first | exact Or.inl rfl | exact Or.inr rfl)) (pgs_cons (pg_name (i := 5) sc__law_question.nd rfl (by first | exact Or.inl rfl | exact Or.inr rfl)) pgs_nil)))))
    (pss_cons (ps_set (i := 6) sc__law_question.nd rfl (by first | exact Or.inl rfl | exact Or.inr rfl) (pe_call D__law_taken.ok (hr.mono (by decide)) (by rfl) D__law_taken.g D__law_taken.kp D__law_taken.b .nil (passes_call (takes_of rfl rfl rfl rfl) fun _ _ _ _ h => h) (pa_cons (pv 0) (pa_cons pe_int pa_nil))))
    (pss_cons (ps_for (passes_of rfl) rfl (pi_range1 (by rfl) Z.z_range (pa_cons (pv 4) pa_nil)) (pg_name (i := 7) sc__law_question.nd rfl (by first | exact Or.inl rfl | exact Or.inr rfl))
    (pss_cons (ps_par (by rfl) sc__law_question.nd (i := 9) (j := 10) rfl rfl (by decide) rfl rfl (pa_cons (pe_listRg rfl (by rfl) Z.z_list (prg_1 (by rfl) Z.z_range (pv 3))) (pa_cons (pe_lst pa_nil) pa_nil)) (by rfl))
    (pss_cons (ps_for (passes_of rfl) rfl (pi_range1 (by rfl) Z.z_range (pa_cons (pv 3) pa_nil)) (pg_name (i := 11) sc__law_question.nd rfl (by first | exact Or.inl rfl | exact Or.inr rfl))
    (pss_one (ps_expr (pe_bmK (K := G.K) rfl PySem.F.plainAttrs_list PySem.F.slot_list_append PySem.F.type_list_append mt_append (pv 10) (pa_cons (pe_ifExp (pt_cmpR op_gt (pv 6) pe_int (nomark _)) (pe_bmK (K := G.K) rfl PySem.F.plainAttrs_list PySem.F.slot_list_pop PySem.F.type_list_pop mt_popAt (pv 9) (pa_cons (pe_call D__law_taken.ok (hr.mono (by decide)) (by rfl) D__law_taken.g D__law_taken.kp D__law_taken.b .nil (passes_call (takes_of rfl rfl rfl rfl) fun _ _ _ _ h => h) (pa_cons (pv 0) (pa_cons (pe_callB (call_lenK (K := G.K) rfl) (by rfl) Z.z_len boot_len (pa_cons (pv 9) pa_nil)) pa_nil))) pa_nil)) (pe_call D__law_taken.ok (hr.mono (by decide)) (by rfl) D__law_taken.g D__law_taken.kp D__law_taken.b .nil (passes_call (takes_of rfl rfl rfl rfl) fun _ _ _ _ h => h) (pa_cons (pv 0) (pa_cons (pv 3) pa_nil)))) pa_nil)))))
    (pss_cons (ps_if (PW.pt (pw_and (pt_cmpR (op_eqK (K := G.K) rfl (hu64 hr)) (pv 6) pe_int (nomark _)) (pw_and1 (pt_cmpR op_gt (pv 3) pe_int (nomark _))))) (pss_one (ps_asg (pe_call D__law_taken.ok (hr.mono (by decide)) (by rfl) D__law_taken.g D__law_taken.kp D__law_taken.b .nil (passes_call (takes_of rfl rfl rfl rfl) fun _ _ _ _ h => h) (pa_cons (pv 0) (pa_cons (pv 3) pa_nil))) (pg_sub (pv 10) (pe_call D__law_taken.ok (hr.mono (by decide)) (by rfl) D__law_taken.g D__law_taken.kp D__law_taken.b .nil (passes_call (takes_of rfl rfl rfl rfl) fun _ _ _ _ h => h) (pa_cons (pv 0) (pa_cons (pv 3) pa_nil))) set_list))) pss_nil)
    (pss_one (ps_expr (pe_bmK (K := G.K) rfl PySem.F.plainAttrs_list PySem.F.slot_list_append PySem.F.type_list_append mt_append (pv 5) (pa_cons (pv 10) pa_nil))))))))
    (pss_cons (ps_set (i := 8) sc__law_question.nd rfl (by first | exact Or.inl rfl | exact Or.inr rfl) (pe_callTy (call_tupK (K := G.K) rfl) (by rfl) Z.z_tuple boot_tuple' (pa_cons (pe_lc (own := [("state", 11)]) rfl sc__law_question.nd (pi_range1 (by rfl) Z.z_range (pa_cons (pv 3) pa_nil)) (blkOk_by (N := ["row", "states", "names", "many", "some", "steps", "kind", "name", "marks", "left", "to", "state"]) (sc := defScope (top 52)) (by decide +kernel)) (fun _ _ _ _ _ => (pg_name (i := 11) sc__law_question.nd rfl (by first | exact Or.inl rfl | exact Or.inr rfl))) (fun _ _ _ _ _ => pts_nil) (fun _ _ _ _ _ => (pe_call D__law_taken.ok (hr.mono (by decide)) (by rfl) D__law_taken.g D__law_taken.kp D__law_taken.b .nil passF (pa_cons (pv 0) (pa_cons pe_int pa_nil))))) pa_nil)))
    (pss_one (ps_ret (pe_tup (pa_cons (pe_callTy (call_tupK (K := G.K) rfl) (by rfl) Z.z_tuple boot_tuple' (pa_cons (pe_lc (own := [("state", 11)]) rfl sc__law_question.nd (pi_range1 (by rfl) Z.z_range (pa_cons (pv 3) pa_nil)) (blkOk_by (N := ["row", "states", "names", "many", "some", "steps", "kind", "name", "marks", "left", "to", "state"]) (sc := defScope (top 52)) (by decide +kernel)) (fun _ _ _ _ _ => (pg_name (i := 11) sc__law_question.nd rfl (by first | exact Or.inl rfl | exact Or.inr rfl))) (fun _ _ _ _ _ => pts_nil) (fun _ _ _ _ _ => (pe_callTy (call_tupK (K := G.K) rfl) (by rfl) Z.z_tuple boot_tuple' (pa_cons (pe_lc (own := [("to", 10)]) rfl sc__law_question.nd (pi_lstK (K := G.K) rfl (pv 5)) (blkOk_by (N := ["row", "states", "names", "many", "some", "steps", "kind", "name", "marks", "left", "to", "state"]) (by rfl)) (fun _ _ _ _ _ => (pg_name (i := 10) sc__law_question.nd rfl (by first | exact Or.inl rfl | exact Or.inr rfl))) (fun _ _ _ _ _ => pts_nil) (fun _ _ _ _ _ => (pe_ix (ix_K (K := G.K) rfl) (pv 10) (pv 11) (fun _ _ => rfl)))) pa_nil)))) pa_nil)) (pa_cons (pv 8) pa_nil))))))))), ?_⟩
  exact fn_of_ex (n := 3) (pad := 9) rfl ((exs_seq (exs_asg (ex_tup Z.M (exa_cons (ex_2 ok_add ex_int (ex_call (fun _ _ => imL_nil) (exa_cons ex_var (exa_cons ex_var exa_nil)))) (exa_cons (ex_2 ok_add ex_int (ex_call (fun _ _ => imL_nil) (exa_cons ex_var (exa_cons ex_var exa_nil)))) (exa_cons (ex_lst Z.M exa_nil) exa_nil)))) (exg_tup (exgs_cons exg_name (exgs_cons exg_name (exgs_cons exg_name exgs_nil)))))
    (exs_seq (exs_asg (ex_call (fun _ _ => imL_nil) (exa_cons ex_var (exa_cons ex_int exa_nil))) exg_name)
    (exs_seq (exs_for (exi_rng1 (exa_cons ex_var exa_nil)) exg_name
    (exs_seq (exs_par (exa_cons (ex_listR Z.M ex_var) (exa_cons (ex_lst Z.M exa_nil) exa_nil)))
    (exs_seq (exs_for (exi_rng1 (exa_cons ex_var exa_nil)) exg_name
    (exs_drop (ex_bm (ok_append Z.M) ex_var (exa_cons (ex_if (ext_test (ex_2 ok_gt ex_var ex_int)) (ex_bm (ok_popAt Z.M) ex_var (exa_cons (ex_call (fun _ _ => imL_nil) (exa_cons ex_var (exa_cons (ex_cb ok_len (exa_cons ex_var exa_nil)) exa_nil))) exa_nil)) (ex_call (fun _ _ => imL_nil) (exa_cons ex_var (exa_cons ex_var exa_nil)))) exa_nil))))
    (exs_seq (exs_if (ext_and (ext_test (ex_2 ok_eq ex_var ex_int)) (ext_test (ex_2 ok_gt ex_var ex_int))) (exs_asg (ex_call (fun _ _ => imL_nil) (exa_cons ex_var (exa_cons ex_var exa_nil))) (exg_subL Z.M ex_var (ex_call (fun _ _ => imL_nil) (exa_cons ex_var (exa_cons ex_var exa_nil))))) exs_next)
    (exs_drop (ex_bm (ok_append Z.M) ex_var (exa_cons ex_var exa_nil)))))))
    (exs_seq (exs_asg (ex_cb (ok_tuple Z.M) (exa_cons (ex_lc Z.M (exi_rng1 (exa_cons ex_var exa_nil)) (exw_name (by decide)) ext_yes (ex_call (fun _ _ => imL_nil) (exa_cons ex_var (exa_cons ex_int exa_nil)))) exa_nil)) exg_name)
    (exs_ret (ex_tup Z.M (exa_cons (ex_cb (ok_tuple Z.M) (exa_cons (ex_lc Z.M (exi_rng1 (exa_cons ex_var exa_nil)) (exw_name (by decide)) ext_yes (ex_cb (ok_tuple Z.M) (exa_cons (ex_lc Z.M (exi_lst ex_var) (exw_name (by decide)) ext_yes (ex_2 ok_ix ex_var ex_var)) exa_nil))) exa_nil)) (exa_cons ex_var exa_nil))))))))) h
theorem sc__law_stands : FnScope ["desk", "question", "reader", "tags", "told", "state", "due", "wrong", "way", "at", "tag"] ["desk", "question", "reader", "tags"] (defScope (top 61)) := ⟨rfl, rfl, rfl, by decide +kernel, rfl, by decide +kernel, by decide +kernel⟩
theorem ok__law_stands (Z : Fx P w G T mg base) {f : Addr} {fd : FuncData} (Fd : Fun G.K "_law_stands" "_law_stands" (top 61) f fd)
    {a__law_read : Addr} {fd__law_read : FuncData} (D__law_read : DefX P w G mg base 1 "_law_read" a__law_read fd__law_read ["reader", "tags"] [] 2 f__law_read)
    {a__law_paths : Addr} {fd__law_paths : FuncData} (D__law_paths : DefX P w G mg base 1 "_law_paths" a__law_paths fd__law_paths ["tags"] [] 1 f__law_paths)
    {a__law_answer : Addr} {fd__law_answer : FuncData} (D__law_answer : DefX P w G mg base 2 "_law_answer" a__law_answer fd__law_answer ["question", "way"] [] 2 f__law_answer)
    {a__law_alike : Addr} {fd__law_alike : FuncData} (D__law_alike : DefX P w G mg base 60 "_law_alike" a__law_alike fd__law_alike ["found", "due"] [] 2 (f__law_alike 60))
    {p_Desk_wrong a_Desk_wrong : Addr} {fd_Desk_wrong : FuncData} (D_Desk_wrong : PropX P w G mg base 1 (G.cl 0) "wrong" p_Desk_wrong a_Desk_wrong fd_Desk_wrong f_Desk_wrong)
    {p_Desk_state a_Desk_state : Addr} {fd_Desk_state : FuncData} (D_Desk_state : PropX P w G mg base 1 (G.cl 0) "state" p_Desk_state a_Desk_state fd_Desk_state f_Desk_state)
    {p_Desk_row a_Desk_row : Addr} {fd_Desk_row : FuncData} (D_Desk_row : PropX P w G mg base 1 (G.cl 0) "row" p_Desk_row a_Desk_row fd_Desk_row f_Desk_row)
    {a_Desk_do : Addr} {fd_Desk_do : FuncData} (D_Desk_do : MethX P w G mg base 6 (G.cl 0) "do" a_Desk_do fd_Desk_do ["self", "line"] 2 f_Desk_do) :
    FnOk P w G.K mg base (L2.CX P w) 61 f fd ["desk", "question", "reader", "tags"] (spX G 4 f__law_stands) := by
  refine okXC Fd sc__law_stands (fun vs H Q E h => h.1) (fun Ar outer s H vs Q E hr h => ?_)
  refine ⟨_, (pss_cons (ps_asg (pe_call D__law_read.ok (hr.mono (by decide)) (by rfl) D__law_read.g D__law_read.kp D__law_read.b .nil (passes_call (takes_of rfl rfl rfl rfl) fun _ _ _ _ h => h) (pa_cons (pv 2) (pa_cons (pv 3) pa_nil))) (pg_tupK (K := G.K) (n := 2) rfl rfl (pgs_cons (pg_name (i := 4) sc__law_stands.nd rfl (by first | exact Or.inl rfl | exact Or.inr rfl)) (pgs_cons (pg_name (i := 5) sc__law_stands.nd rfl (by first | exact Or.inl rfl | exact Or.inr rfl)) pgs_nil))))
    (pss_cons (ps_set (i := 6) sc__law_stands.nd rfl (by first | exact Or.inl rfl | exact Or.inr rfl) (pe_lc (own := [("way", 8)]) rfl sc__law_stands.nd (pi_lstK (K := G.K) rfl (pe_ix (ix_K (K := G.K) rfl) (pe_call D__law_paths.ok (hr.mono (by decide)) (by rfl) D__law_paths.g D__law_paths.kp D__law_paths.b .nil (passes_call (takes_of rfl rfl rfl rfl) fun _ _ _ _ h => h) (pa_cons (pv 3) pa_nil)) pe_int (fun _ _ => rfl))) (blkOk_by (N := ["desk", "question", "reader", "tags", "told", "state", "due", "wrong", "way", "at", "tag"]) (sc := defScope (top 61)) (by decide +kernel)) (fun _ _ _ _ _ => (pg_name (i := 8) sc__law_stands.nd rfl (by first | exact Or.inl rfl | exact Or.inr rfl))) (fun _ _ _ _ _ => pts_nil) (fun _ _ _ _ _ => (pe_call D__law_answer.ok (hr.mono (by decide)) (by rfl) D__law_answer.g D__law_answer.kp D__law_answer.b .nil passF (pa_cons (pv 1) (pa_cons (pv 8) pa_nil))))))
    (pss_cons (ps_setLc (i := 7) (own := [("at", 9)]) rfl sc__law_stands.nd rfl rfl (sw_true rfl rfl rfl (by decide +kernel)) (pi_range1 (by rfl) Z.z_range (pa_cons (pe_callB (call_lenK (K := G.K) rfl) (by rfl) Z.z_len boot_len (pa_cons (pv 6) pa_nil)) pa_nil)) (blkOk_by (N := ["desk", "question", "reader", "tags", "told", "state", "due", "wrong", "way", "at", "tag"]) (sc := defScope (top 61)) (by decide +kernel)) (fun _ _ _ _ _ => (pg_name (i := 9) sc__law_stands.nd rfl (by first | exact Or.inl rfl | exact Or.inr rfl))) (fun _ _ _ _ _ => pts_one (pt_cmpR (op_neK (K := G.K) rfl (hu64 hr)) (pe_ix (ix_K (K := G.K) rfl) (pv 6) (pv 9) (fun _ _ => rfl)) (pe_ix (ix_K (K := G.K) rfl) (pv 4) (pv 9) (fun _ _ => rfl)) (nomark _))) (fun _ _ _ _ _ => (pv 9)))
    (pss_cons (ps_if (pt_not (pt_val (pe_call D__law_alike.ok (hr.mono (by decide)) (by rfl) D__law_alike.g D__law_alike.kp D__law_alike.b .nil (passes_call (takes_of rfl rfl rfl rfl) fun _ _ _ _ h => h) (pa_cons (pe_lst (pa_cons (pe_prop (pv 0) Z.cl_Desk D_Desk_row.p D_Desk_row.ok (hr.mono (by decide)) D_Desk_row.b .nil passF rfl) (pa_cons (pe_prop (pv 0) Z.cl_Desk D_Desk_state.p D_Desk_state.ok (hr.mono (by decide)) D_Desk_state.b .nil passF rfl) (pa_cons (pe_prop (pv 0) Z.cl_Desk D_Desk_wrong.p D_Desk_wrong.ok (hr.mono (by decide)) D_Desk_wrong.b .nil passF rfl) pa_nil)))) (pa_cons (pe_lst (pa_cons (pv 3) (pa_cons (pv 5) (pa_cons (pe_callTy (call_tupK (K := G.K) rfl) (by rfl) Z.z_tuple boot_tuple' (pa_cons (pv 7) pa_nil)) pa_nil)))) pa_nil))))) (pss_one (ps_ret pe_bl)) pss_nil)
    (pss_cons (ps_if (PW.pt (pw_or (pt_cmpR (op_neK (K := G.K) rfl (hu64 hr)) (pe_meth (pv 0) Z.cl_Desk D_Desk_do.m D_Desk_do.ok (hr.mono (by decide)) D_Desk_do.b .nil (passes_call (takes_of rfl rfl rfl rfl) fun _ _ _ _ h => h) (pa_cons pe_str pa_nil)) (pe_m1 PySem.F.slot_str_join PySem.F.type_str_join (mt_joinK (K := G.K) rfl) pe_str (pe_lc (own := [("tag", 10)]) rfl sc__law_stands.nd (pi_tupK (K := G.K) rfl (pv 3)) (blkOk_by (N := ["desk", "question", "reader", "tags", "told", "state", "due", "wrong", "way", "at", "tag"]) (sc := defScope (top 61)) (by decide +kernel)) (fun _ _ _ _ _ => (pg_name (i := 10) sc__law_stands.nd rfl (by first | exact Or.inl rfl | exact Or.inr rfl))) (fun _ _ _ _ _ => pts_nil) (fun _ _ _ _ _ => (pe_ix (ix_K (K := G.K) rfl) pe_str (pe_op op_add (pv 10) pe_int) (fun _ _ => rfl))))) (nomark _)) (pw_or1 (pt_cmpR (op_neK (K := G.K) rfl (hu64 hr)) (pe_meth (pv 0) Z.cl_Desk D_Desk_do.m D_Desk_do.ok (hr.mono (by decide)) D_Desk_do.b .nil (passes_call (takes_of rfl rfl rfl rfl) fun _ _ _ _ h => h) (pa_cons pe_str pa_nil)) (pe_callTy call_str_int (by rfl) Z.z_str boot_str' (pa_cons (pv 5) pa_nil)) (nomark _))))) (pss_one (ps_ret pe_bl)) pss_nil)
    (pss_one (ps_ret (pe_cmpR (op_eqK (K := G.K) rfl (hu64 hr)) (pe_meth (pv 0) Z.cl_Desk D_Desk_do.m D_Desk_do.ok (hr.mono (by decide)) D_Desk_do.b .nil (passes_call (takes_of rfl rfl rfl rfl) fun _ _ _ _ h => h) (pa_cons pe_str pa_nil)) (pe_m1 PySem.F.slot_str_join PySem.F.type_str_join (mt_joinK (K := G.K) rfl) pe_str (pe_lc (own := [("at", 9)]) rfl sc__law_stands.nd (pi_lstK (K := G.K) rfl (pv 7)) (blkOk_by (N := ["desk", "question", "reader", "tags", "told", "state", "due", "wrong", "way", "at", "tag"]) (sc := defScope (top 61)) (by decide +kernel)) (fun _ _ _ _ _ => (pg_name (i := 9) sc__law_stands.nd rfl (by first | exact Or.inl rfl | exact Or.inr rfl))) (fun _ _ _ _ _ => pts_nil) (fun _ _ _ _ _ => (pe_callTy call_str_int (by rfl) Z.z_str boot_str' (pa_cons (pv 9) pa_nil))))) (nomark _))))))))), ?_⟩
  exact fn_of_ex (n := 4) (pad := 7) rfl ((exs_seq (exs_asg (ex_call (fun _ _ => imL_nil) (exa_cons ex_var (exa_cons ex_var exa_nil))) (exg_tup (exgs_cons exg_name (exgs_cons exg_name exgs_nil))))
    (exs_seq (exs_asg (ex_lc Z.M (exi_lst (ex_2 ok_ix (ex_call (fun _ _ => imL_nil) (exa_cons ex_var exa_nil)) ex_int)) (exw_name (by decide)) ext_yes (ex_call (fun _ _ => imL_nil) (exa_cons ex_var (exa_cons ex_var exa_nil)))) exg_name)
    (exs_seq (exs_asg (ex_lc Z.M (exi_rng1 (exa_cons (ex_cb ok_len (exa_cons ex_var exa_nil)) exa_nil)) (exw_name (by decide)) (ext_test (ex_2 ok_ne (ex_2 ok_ix ex_var ex_var) (ex_2 ok_ix ex_var ex_var))) ex_var) exg_name)
    (exs_seq (exs_if (ext_not (ext_B (ex_call (fun _ _ => imL_nil) (exa_cons (ex_lst Z.M (exa_cons (ex_prop ex_var) (exa_cons (ex_prop ex_var) (exa_cons (ex_prop ex_var) exa_nil)))) (exa_cons (ex_lst Z.M (exa_cons ex_var (exa_cons ex_var (exa_cons (ex_cb (ok_tuple Z.M) (exa_cons ex_var exa_nil)) exa_nil)))) exa_nil))))) (exs_ret ex_bl) exs_next)
    (exs_seq (exs_if (ext_or (ext_test (ex_2 ok_ne (ex_meth ex_var (exa_cons ex_str exa_nil)) (ex_m1 ok_join ex_str (ex_lc Z.M (exi_tup ex_var) (exw_name (by decide)) ext_yes (ex_2 ok_ix ex_str (ex_2 ok_add ex_var ex_int)))))) (ext_test (ex_2 ok_ne (ex_meth ex_var (exa_cons ex_str exa_nil)) (ex_cb ok_strI (exa_cons ex_var exa_nil))))) (exs_ret ex_bl) exs_next)
    (exs_ret (ex_2 ok_eq (ex_meth ex_var (exa_cons ex_str exa_nil)) (ex_m1 ok_join ex_str (ex_lc Z.M (exi_lst ex_var) (exw_name (by decide)) ext_yes (ex_cb ok_strI (exa_cons ex_var exa_nil)))))))))))) h
end
end Mx

/-! ### MkGW -/
set_option Elab.async false
set_option linter.all false
set_option maxRecDepth 100000
set_option maxHeartbeats 4000000
namespace Mx
open PySem PySem.Spec PyProof.Rows L2
open GxR (TabG Tabbed)
abbrev sWordX : Stmt := top 58
theorem scWordX : FnScope ["work", "e", "known", "words"] ["work"] (defScope sWordX) := ⟨rfl, rfl, rfl, by decide +kernel, rfl, by decide +kernel, by decide +kernel⟩
theorem v_isW {G : Gx} {mg : Str → Option Value} {σ : L2.St} {H : Hp} {a : Addr} {d : Option Addr} {i j : Nat} (W : WordX G mg) (i1 : 1 ≤ i) (i2 : i ≤ 13) (h1 : 1 ≤ j) (h2 : j ≤ 13) (es : σ[1]? = some (some (.ref a))) (hd : d = none ∨ ∃ dd fs, d = some dd ∧ H dd = some (.xd fs)) :
    ∀ Q : VK, Q (.bl (decide (i = j))) H → tCB (Mk.rIsX G.K (.ref (G.xc i)) d a) (tCons (tVar 1) (tCons (tC (.ref (G.xc j))) tNil)) σ H Q := fun Q q => by
  obtain ⟨e1, e2, e3, e4⟩ := W.ex i i1 i2
  exact ⟨.ref a, es, G.xc i, .ref (G.xc j), .ref (G.xc j), _, rfl, e1, e2, hd, rfl, fun u r => r, e4 j h1 h2, q⟩
theorem c_lstX {t : TA} {xs : List V} {σ : L2.St} {H : Hp} {Q : VK} (h : ∀ Q : List V → Hp → Prop, Q xs H → t σ H Q) (hz : xs.length ≤ sizeLine) (q : ∀ a, H a = none → Q (.ref a) (upd H a (.lst xs))) : tLst t σ H Q := h _ ⟨hz, q⟩
theorem szX {n : Nat} (h : n ≤ 100000) : n ≤ sizeLine := by rw [sizeLine_eq]; omega
abbrev wsX : List Str := ["manner", "path", "forest", "number", "word", "trap", "step", "line"]
theorem word_endX {K : PySem.W.Frag} {σ : L2.St} {H : Hp} {l3 l4 : Addr} {D' : Ends} {k : Nat} {w : Str} {bs : List Bool} (hb : bs = (List.range 8).map fun j => decide (k = j)) (hk8 : k < 8) (hk : H l3 = some (.lst (bs.map V.bl))) (hw : H l4 = some (.lst (wsX.map V.str))) (hkw : wsX[k]? = some w)
    (e2 : σ[2]? = some (some (.ref l3))) (e3 : σ[3]? = some (some (.ref l4))) (q : D'.rt (.str w) H) :
    tRet (tIf (tTest (tOp rEq (tBM K "list" (Mk.rCntB K) (tVar 2) (tCons (tC (.bl true)) tNil)) (tC (.int 1)))) (tOp (rIxL K) (tVar 3) (tBM K "list" (rIndex K) (tVar 2) (tCons (tC (.bl true)) tNil))) (tC (.str "other"))) D' σ H := by
  have hc : countIn (.bool true) (bs.map PyData.bool) = 1 := by
    subst hb
    match k, hk8 with
    | 0, _ => decide +kernel
    | 1, _ => decide +kernel
    | 2, _ => decide +kernel
    | 3, _ => decide +kernel
    | 4, _ => decide +kernel
    | 5, _ => decide +kernel
    | 6, _ => decide +kernel
    | 7, _ => decide +kernel
  refine Mk.c_ret (Mk.c_ifE (Mk.c_test (Mk.c_op (Mk.c_var e2 ⟨.inl ⟨rfl, _, SqL.of hk⟩, Mk.c_cons (Mk.c_c ⟨l3, _, true, rfl, rfl, SqL.of hk, Mk.c_c ⟨rfl, _, rfl, ?_⟩⟩)⟩))))
  rw [hc, decide_eq_true rfl]
  refine iteT (Mk.c_op (Mk.c_var e3 (Mk.c_var e2 ⟨.inl ⟨rfl, _, SqL.of hk⟩, Mk.c_cons (Mk.c_c ⟨l3, _, .bl true, k, .bl true, rfl, rfl, SqL.of hk, rfl, ?_, ?_, rfl, fun m z hm hz => ?_, ⟨l4, _, (k : Nat), _, rfl, rfl, SqL.of hw, atI_nat (j := k) ?_, q⟩⟩)⟩)))
  · rw [List.all_map]; exact List.all_eq_true.mpr fun _ _ => rfl
  · subst hb
    rw [List.getElem?_map, List.getElem?_map, List.getElem?_range hk8]
    simp
  · subst hb
    rw [List.getElem?_map, List.getElem?_map, List.getElem?_range (by omega)] at hz
    have : decide (k = m) = false := decide_eq_false (by omega)
    simp only [Option.map_some, this, Option.some.injEq] at hz
    subst hz
    rfl
  · rw [List.getElem?_map, hkw]; rfl
def kOfW (c : Nat) : Nat := match c with
  | 3 => 0 | 4 => 1 | 6 => 2 | 7 => 3 | 8 => 4 | 9 => 5 | 12 => 6 | 11 => 7 | _ => 8
theorem word_givesX {X : Cx} {G : Gx} {q : Str} {g : Addr} {cdg : Value} (hK : X.K = G.K) (W : WordX G X.mg) (zi : X.mg "isinstance" = none) : Mk.GivesA X ["work", "e", "known", "words"] "_law_word" (defScope sWordX) g cdg (defBody sWordX) "work" q (TTx G) := by
  intro f c' s H Q tl act hc h
  refine ⟨_, pss_cons (ps_try_as (X := (cxOf C8.CX0 X.prog X.w X.K X.mg X.base ["work", "e", "known", "words"] "_law_word" (defScope sWordX) g cdg X.A X.stack s H C8.E0).nox) (i := 1) (c := .ref (G.xc 0))
      (tb := fun W D σ H => σ[0]? = some (some (.ref f)) ∧ H c' = some (LamX.CodeO c' q) ∧ ∃ E : XK, (∀ cls d H', E cls d H' → W cls d σ H') ∧ tl E H fun _ H1 => D.nx σ H1)
      rfl rfl scWordX.nd rfl rfl ⟨by rfl, by decide, .inl W.g0⟩ L2.takes0 (fun W pn xe tk _ => ?_)
      (fun a oe cls d pn hz hf =>
        pss_cons (ps_if (PW.pt (pw_or (pt_val (pe_callB (Mk.call_isX hz hf) (by rfl) zi boot_isi (pa_cons (pv 1) (pa_cons (pe_glob (v := .ref (G.xc 1)) (by rfl) W.g1 rfl) pa_nil)))) (pw_or1 (pt_val (pe_callB (Mk.call_isX hz hf) (by rfl) zi boot_isi (pa_cons (pv 1) (pa_cons (pe_glob (v := .ref (G.xc 2)) (by rfl) W.g2 rfl) pa_nil)))))))
          (pss_one (ps_ret (pe_op op_add_str (pe_ifExp (pt_val (pe_callB (Mk.call_isX hz hf) (by rfl) zi boot_isi (pa_cons (pv 1) (pa_cons (pe_glob (v := .ref (G.xc 1)) (by rfl) W.g1 rfl) pa_nil)))) pe_str pe_str) (pe_xf (hK ▸ W.x1.1) (hK ▸ W.x1.2) hz hf (pv 1))))) pss_nil)
        (pss_cons (ps_if (PW.pt (pw_or (pt_val (pe_callB (Mk.call_isX hz hf) (by rfl) zi boot_isi (pa_cons (pv 1) (pa_cons (pe_glob (v := .ref (G.xc 5)) (by rfl) W.g5 rfl) pa_nil)))) (pw_or1 (pt_val (pe_callB (Mk.call_isX hz hf) (by rfl) zi boot_isi (pa_cons (pv 1) (pa_cons (pe_glob (v := .ref (G.xc 10)) (by rfl) W.g10 rfl) pa_nil)))))))
          (pss_one (ps_ret (pe_tup (pa_cons (pe_ifExp (pt_val (pe_callB (Mk.call_isX hz hf) (by rfl) zi boot_isi (pa_cons (pv 1) (pa_cons (pe_glob (v := .ref (G.xc 5)) (by rfl) W.g5 rfl) pa_nil)))) pe_str pe_str) (pa_cons (pe_xf (hK ▸ W.x5.1) (hK ▸ W.x5.2) hz hf (pv 1)) pa_nil))))) pss_nil)
        (pss_cons (ps_if (pt_val (pe_callB (Mk.call_isX hz hf) (by rfl) zi boot_isi (pa_cons (pv 1) (pa_cons (pe_glob (v := .ref (G.xc 13)) (by rfl) W.g13 rfl) pa_nil))))
          (pss_one (ps_ret (pe_tup (pa_cons pe_str (pa_cons (pe_xf (hK ▸ W.x13.1) (hK ▸ W.x13.2) hz hf (pv 1)) pa_nil))))) pss_nil)
        (pss_cons (ps_set (i := 2) scWordX.nd rfl (Or.inl rfl) (pe_lst (pa_cons (pe_callB (Mk.call_isX hz hf) (by rfl) zi boot_isi (pa_cons (pv 1) (pa_cons (pe_glob (v := .ref (G.xc 3)) (by rfl) W.g3 rfl) pa_nil))) (pa_cons (pe_callB (Mk.call_isX hz hf) (by rfl) zi boot_isi (pa_cons (pv 1) (pa_cons (pe_glob (v := .ref (G.xc 4)) (by rfl) W.g4 rfl) pa_nil)))
            (pa_cons (pe_callB (Mk.call_isX hz hf) (by rfl) zi boot_isi (pa_cons (pv 1) (pa_cons (pe_glob (v := .ref (G.xc 6)) (by rfl) W.g6 rfl) pa_nil))) (pa_cons (pe_callB (Mk.call_isX hz hf) (by rfl) zi boot_isi (pa_cons (pv 1) (pa_cons (pe_glob (v := .ref (G.xc 7)) (by rfl) W.g7 rfl) pa_nil))) pa_nil))))))
        (pss_cons (ps_set (i := 2) scWordX.nd rfl (Or.inl rfl) (pe_op op_cat (pv 2) (pe_lst (pa_cons (pe_callB (Mk.call_isX hz hf) (by rfl) zi boot_isi (pa_cons (pv 1) (pa_cons (pe_glob (v := .ref (G.xc 8)) (by rfl) W.g8 rfl) pa_nil))) (pa_cons (pe_callB (Mk.call_isX hz hf) (by rfl) zi boot_isi (pa_cons (pv 1) (pa_cons (pe_glob (v := .ref (G.xc 9)) (by rfl) W.g9 rfl) pa_nil)))
            (pa_cons (pe_callB (Mk.call_isX hz hf) (by rfl) zi boot_isi (pa_cons (pv 1) (pa_cons (pe_glob (v := .ref (G.xc 12)) (by rfl) W.g12 rfl) pa_nil))) (pa_cons (pe_callB (Mk.call_isX hz hf) (by rfl) zi boot_isi (pa_cons (pv 1) (pa_cons (pe_glob (v := .ref (G.xc 11)) (by rfl) W.g11 rfl) pa_nil))) pa_nil)))))))
        (pss_cons (ps_set (i := 3) scWordX.nd rfl (Or.inl rfl) (pe_lst (pa_cons pe_str (pa_cons pe_str (pa_cons pe_str (pa_cons pe_str (pa_cons pe_str (pa_cons pe_str (pa_cons pe_str (pa_cons pe_str pa_nil))))))))))
        (pss_one (ps_ret (te := tIf (tTest (tOp rEq (tBM X.K "list" (Mk.rCntB X.K) (tVar 2) (tCons (tC (.bl true)) tNil)) (tC (.int 1)))) (tOp (rIxL X.K) (tVar 3) (tBM X.K "list" (rIndex X.K) (tVar 2) (tCons (tC (.bl true)) tNil))) (tC (.str "other"))) (by
          refine pe_ifExp (pt_cmpR op_eq (pe_bm PySem.F.plainAttrs_list PySem.F.slot_list_count PySem.F.type_list_count Mk.mt_bcount (pv 2) (pa_cons pe_bl pa_nil)) pe_int (nomark _)) ?_ pe_str
          exact pe_ix ix_list (pv 3) (pe_bm PySem.F.plainAttrs_list PySem.F.slot_list_index PySem.F.type_list_index mt_index (pv 2) (pa_cons pe_bl pa_nil)) (fun _ _ => rfl)))))))))))
    (pss_one (ps_ret pe_str)), ?_⟩
  · refine ⟨fun pins s' σ H' D I h' => ?_⟩
    obtain ⟨h1, h2, h3⟩ := h'
    exact (pss_one (ps_expr (act W pn xe _ _ tk))).run pins s' σ H' D I ⟨h1, h2, h3⟩
  · refine Mk.c_seq ⟨rfl, hc, EchX G Q, fun cls d H' he => ?_, h⟩
    obtain ⟨c, w, hw, rfl, hd, fin⟩ := he
    have rng : 1 ≤ c ∧ c ≤ 13 ∧ c ≠ 1 ∧ c ≠ 2 ∧ c ≠ 5 ∧ c ≠ 10 ∧ c ≠ 13 ∧ kOfW c < 8 ∧ wsX[kOfW c]? = some w ∧ [decide (c = 3), decide (c = 4), decide (c = 6), decide (c = 7), decide (c = 8), decide (c = 9), decide (c = 12), decide (c = 11)] = (List.range 8).map fun j => decide (kOfW c = j) := by
      unfold wordOf at hw
      split at hw <;> first
        | (cases hw; refine ⟨by decide, by decide, by decide, by decide, by decide, by decide, by decide, by decide, rfl, by decide⟩; done)
        | (cases hw; done)
    obtain ⟨r1, r2, n1, n2, n5, n10, n13, hk8, hkw, hbs⟩ := rng
    have vx : ∀ {σ : L2.St} {H2 : Hp} {a : Addr} (j : Nat), 1 ≤ j → j ≤ 13 → σ[1]? = some (some (.ref a)) → (d = none ∨ ∃ dd fs, d = some dd ∧ H2 dd = some (.xd fs)) → ∀ Q : VK, Q (.bl (decide (c = j))) H2 → tCB (Mk.rIsX X.K (.ref (G.xc c)) d a) (tCons (tVar 1) (tCons (tC (.ref (G.xc j))) tNil)) σ H2 Q := fun j h1 h2 es hd => by
      rw [hK]
      exact v_isW W r1 r2 h1 h2 es hd
    have vf : ∀ {σ : L2.St} {H2 : Hp} {a : Addr} (j : Nat), 1 ≤ j → j ≤ 13 → c ≠ j → σ[1]? = some (some (.ref a)) → (d = none ∨ ∃ dd fs, d = some dd ∧ H2 dd = some (.xd fs)) → ∀ Q : VK, Q (.bl false) H2 → tCB (Mk.rIsX X.K (.ref (G.xc c)) d a) (tCons (tVar 1) (tCons (tC (.ref (G.xc j))) tNil)) σ H2 Q := fun j h1 h2 ne es hd Q q => vx j h1 h2 es hd Q (by rw [decide_eq_false ne]; exact q)
    have up : ∀ {H2 : Hp} {l : Addr} {o : HO}, (d = none ∨ ∃ dd fs, d = some dd ∧ H2 dd = some (.xd fs)) → H2 l = none → (d = none ∨ ∃ dd fs, d = some dd ∧ (upd H2 l o) dd = some (.xd fs)) := fun hd hl => hd.imp id fun ⟨dd, fs, e, h⟩ => ⟨dd, fs, e, by rw [upd_ne (ne_of_none h hl)]; exact h⟩
    refine ⟨true, (by rw [show ((cxOf C8.CX0 X.prog X.w X.K X.mg X.base ["work", "e", "known", "words"] "_law_word" (defScope sWordX) g cdg X.A X.stack s H C8.E0).nox).K = G.K from hK]; exact (W.ex c r1 r2).2.2.1), fun _ a ha => ?_, fun z => Bool.noConfusion z⟩
    refine Mk.c_seq (Mk.c_if (Mk.c_or (Mk.c_Bv (vf 1 (by decide) (by decide) n1 rfl hd) (iteF (Mk.c_Bv (vf 2 (by decide) (by decide) n2 rfl hd) (iteF (Mk.c_next ?_)))))))
    dsimp only
    refine Mk.c_seq (Mk.c_if (Mk.c_or (Mk.c_Bv (vf 5 (by decide) (by decide) n5 rfl hd) (iteF (Mk.c_Bv (vf 10 (by decide) (by decide) n10 rfl hd) (iteF (Mk.c_next ?_)))))))
    dsimp only
    refine Mk.c_seq (Mk.c_if (Mk.c_Bv (vf 13 (by decide) (by decide) n13 rfl hd) (iteF (Mk.c_next ?_))))
    dsimp only
    refine Mk.c_seq (Mk.c_set (c_lstX (Mk.va_cons (vx 3 (by decide) (by decide) rfl hd) (Mk.va_cons (vx 4 (by decide) (by decide) rfl hd) (Mk.va_cons (vx 6 (by decide) (by decide) rfl hd) (Mk.va_cons (vx 7 (by decide) (by decide) rfl hd) Mk.va_nil)))) (szX (by show 4 ≤ _; decide)) fun l1 h1 => ?_))
    dsimp only
    have hd1 := up (o := .lst [.bl (decide (c = 3)), .bl (decide (c = 4)), .bl (decide (c = 6)), .bl (decide (c = 7))]) hd h1
    refine Mk.c_seq (Mk.c_set (Mk.c_op (Mk.c_var rfl (c_lstX (Mk.va_cons (vx 8 (by decide) (by decide) rfl hd1) (Mk.va_cons (vx 9 (by decide) (by decide) rfl hd1) (Mk.va_cons (vx 12 (by decide) (by decide) rfl hd1) (Mk.va_cons (vx 11 (by decide) (by decide) rfl hd1) Mk.va_nil)))) (szX (by show 4 ≤ _; decide)) fun l2 h2 => ?_))))
    refine ⟨l1, l2, _, _, rfl, rfl, by rw [upd_ne (ne_of_none upd_same h2), upd_same], upd_same, szX (by show 8 ≤ _; decide), fun l3 h3 => ?_⟩
    dsimp only
    refine Mk.c_seq (Mk.c_set (c_lstX (Mk.va_cons Mk.v_c (Mk.va_cons Mk.v_c (Mk.va_cons Mk.v_c (Mk.va_cons Mk.v_c (Mk.va_cons Mk.v_c (Mk.va_cons Mk.v_c (Mk.va_cons Mk.v_c (Mk.va_cons Mk.v_c Mk.va_nil)))))))) (szX (by show 8 ≤ _; decide)) fun l4 h4 => ?_))
    dsimp only
    refine word_endX (k := kOfW c) (w := w) hbs hk8 ?_ upd_same hkw rfl rfl (fin _ fun b o e => ?_)
    · rw [upd_ne (ne_of_none upd_same h4), upd_same]
      rfl
    · have g1 : ∀ {Hx : Hp} {l : Addr} {u : HO}, Hx l = none → Hx b = some o → upd Hx l u b = some o := fun n e => by rw [upd_ne (ne_of_none e n)]; exact e
      exact g1 h4 (g1 h3 (g1 h2 (g1 h1 e)))
end Mx

/-! ### MkG5 -/
set_option Elab.async false
set_option linter.all false
set_option maxRecDepth 100000
set_option maxHeartbeats 4000000
namespace Mx
open PySem PySem.Spec PyProof.Rows L2
open GxR (TabG Tabbed)
section
variable {P : Program} {w : World} {G : Gx} {T : List Addr} {mg : Str → Option Value} {base : Heap}
theorem sc_check_question : FnScope ["value", "steps", "answers"] ["value"] (defScope (top 23)) := ⟨rfl, rfl, rfl, by decide +kernel, rfl, by decide +kernel, by decide +kernel⟩
theorem ok_check_question (Z : Fx P w G T mg base) {f : Addr} {fd : FuncData} (Fd : Fun G.K "check_question" "check_question" (top 23) f fd)
    {a_is_tuple_of : Addr} {fd_is_tuple_of : FuncData} (D_is_tuple_of : DefX P w G mg base 1 "is_tuple_of" a_is_tuple_of fd_is_tuple_of ["value", "least", "most"] [] 3 f_is_tuple_of)
    {a_are_steps : Addr} {fd_are_steps : FuncData} (D_are_steps : DefX P w G mg base 5 "are_steps" a_are_steps fd_are_steps ["value"] [] 1 f_are_steps)
    {a_are_numbers : Addr} {fd_are_numbers : FuncData} (D_are_numbers : DefX P w G mg base 3 "are_numbers" a_are_numbers fd_are_numbers ["value", "many", "most"] [] 3 f_are_numbers) :
    FnOk P w G.K mg base (L2.CX P w) 6 f fd ["value"] (spX G 1 f_check_question) := by
  obtain ⟨fI_BadQuestion, fd_BadQuestion, e_BadQuestion⟩ := Z.e_BadQuestion
  refine okXC Fd sc_check_question (fun vs H Q E h => h.1) (fun Ar outer s H vs Q E hr h => ?_)
  refine ⟨_, (pss_cons (ps_if (pt_not (pt_val (pe_call D_is_tuple_of.ok (hr.mono (by decide)) (by rfl) D_is_tuple_of.g D_is_tuple_of.kp D_is_tuple_of.b .nil (passes_call (takes_of rfl rfl rfl rfl) fun _ _ _ _ h => h) (pa_cons (pv 0) (pa_cons pe_int (pa_cons pe_int pa_nil)))))) (pss_one (ps_raise rfl (takes_of rfl rfl rfl rfl) (pmk_oex e_BadQuestion.oex e_BadQuestion.iC e_BadQuestion.tI e_BadQuestion.ok (hr.mono (by decide)) e_BadQuestion.b .nil pass0 (by rfl) e_BadQuestion.g (pa_cons pe_str pa_nil)))) pss_nil)
    (pss_cons (ps_asg (pv 0) (pg_tupK (K := G.K) (n := 2) rfl rfl (pgs_cons (pg_name (i := 1) sc_check_question.nd rfl (by first | exact Or.inl rfl | exact Or.inr rfl)) (pgs_cons (pg_name (i := 2) sc_check_question.nd rfl (by first | exact Or.inl rfl | exact Or.inr rfl)) pgs_nil))))
    (pss_cons (ps_if (pt_not (pt_val (pe_call D_are_steps.ok (hr.mono (by decide)) (by rfl) D_are_steps.g D_are_steps.kp D_are_steps.b .nil (passes_call (takes_of rfl rfl rfl rfl) fun _ _ _ _ h => h) (pa_cons (pv 1) pa_nil)))) (pss_one (ps_raise rfl (takes_of rfl rfl rfl rfl) (pmk_oex e_BadQuestion.oex e_BadQuestion.iC e_BadQuestion.tI e_BadQuestion.ok (hr.mono (by decide)) e_BadQuestion.b .nil pass0 (by rfl) e_BadQuestion.g (pa_cons pe_str pa_nil)))) pss_nil)
    (pss_one (ps_if (pt_not (pt_val (pe_call D_are_numbers.ok (hr.mono (by decide)) (by rfl) D_are_numbers.g D_are_numbers.kp D_are_numbers.b .nil (passes_call (takes_of rfl rfl rfl rfl) fun _ _ _ _ h => h) (pa_cons (pv 2) (pa_cons (pe_callB (call_lenK (K := G.K) rfl) (by rfl) Z.z_len boot_len (pa_cons (pv 1) pa_nil)) (pa_cons pe_int pa_nil)))))) (pss_one (ps_raise rfl (takes_of rfl rfl rfl rfl) (pmk_oex e_BadQuestion.oex e_BadQuestion.iC e_BadQuestion.tI e_BadQuestion.ok (hr.mono (by decide)) e_BadQuestion.b .nil pass0 (by rfl) e_BadQuestion.g (pa_cons pe_str pa_nil)))) pss_nil))))), ?_⟩
  exact fn_of_ex (n := 1) (pad := 2) rfl ((exs_seq (exs_if (ext_not (ext_B (ex_call (fun _ _ => imL_nil) (exa_cons ex_var (exa_cons ex_int (exa_cons ex_int exa_nil)))))) (exs_rz1 Z.M e_BadQuestion.oex e_BadQuestion.no (exa_cons ex_str exa_nil)) exs_next)
    (exs_seq (exs_asg ex_var (exg_tup (exgs_cons exg_name (exgs_cons exg_name exgs_nil))))
    (exs_seq (exs_if (ext_not (ext_B (ex_call (fun _ _ => imL_nil) (exa_cons ex_var exa_nil)))) (exs_rz1 Z.M e_BadQuestion.oex e_BadQuestion.no (exa_cons ex_str exa_nil)) exs_next)
    (exs_if (ext_not (ext_B (ex_call (fun _ _ => imL_nil) (exa_cons ex_var (exa_cons (ex_cb ok_len (exa_cons ex_var exa_nil)) (exa_cons ex_int exa_nil)))))) (exs_rz1 Z.M e_BadQuestion.oex e_BadQuestion.no (exa_cons ex_str exa_nil)) exs_next))))) h
theorem sc_are_closes : FnScope ["value", "states", "ways", "last", "nexts"] ["value", "states", "ways"] (defScope (top 33)) := ⟨rfl, rfl, rfl, by decide +kernel, rfl, by decide +kernel, by decide +kernel⟩
theorem ok_are_closes (Z : Fx P w G T mg base) {f : Addr} {fd : FuncData} (Fd : Fun G.K "are_closes" "are_closes" (top 33) f fd)
    {a_is_tuple_of : Addr} {fd_is_tuple_of : FuncData} (D_is_tuple_of : DefX P w G mg base 1 "is_tuple_of" a_is_tuple_of fd_is_tuple_of ["value", "least", "most"] [] 3 f_is_tuple_of)
    {a_are_numbers : Addr} {fd_are_numbers : FuncData} (D_are_numbers : DefX P w G mg base 3 "are_numbers" a_are_numbers fd_are_numbers ["value", "many", "most"] [] 3 f_are_numbers)
    {c T0 : Addr} (hT : T0 ∈ T) (O : OwnX mg base fd c T0) :
    FnOk P w G.K mg base (L2.CX P w) 5 f fd ["value", "states", "ways"] (spX G 3 f_are_closes) := by
  refine okXC Fd sc_are_closes (fun vs H Q E h => h.1) (fun Ar outer s H vs Q E hr h => ?_)
  refine ⟨_, (pss_cons (ps_set (i := 3) sc_are_closes.nd rfl (by first | exact Or.inl rfl | exact Or.inr rfl) (pe_op op_sub (pv 1) pe_int))
    (pss_one (ps_ret (pe_and (pe_call D_is_tuple_of.ok (hr.mono (by decide)) (by rfl) D_is_tuple_of.g D_is_tuple_of.kp D_is_tuple_of.b .nil (passes_call (takes_of rfl rfl rfl rfl) fun _ _ _ _ h => h) (pa_cons (pv 0) (pa_cons (pv 1) (pa_cons (pv 1) pa_nil)))) (pe_one (Mk.pe_all (own := [("nexts", 4)]) hr (by rfl) Z.z_all O.tb O.code (gOk_by (N := ["value", "states", "ways", "last", "nexts"]) (sc := defScope (top 33)) (by decide +kernel)) sc_are_closes.nd (pi_tupK (K := G.K) rfl (pv 0)) (fun _ _ _ _ _ _ _ => (pg_name (i := 4) sc_are_closes.nd rfl (by first | exact Or.inl rfl | exact Or.inr rfl))) (fun _ _ _ _ _ _ _ => (pe_call D_are_numbers.ok (Room.mono (room_gen hr) (by decide)) (by rfl) D_are_numbers.g D_are_numbers.kp D_are_numbers.b .nil passF (pa_cons (pv 4) (pa_cons (pv 2) (pa_cons (pv 3) pa_nil))))))))))), ?_⟩
  exact fn_of_ex (n := 3) (pad := 2) rfl ((exs_seq (exs_asg (ex_2 ok_sub ex_var ex_int) exg_name)
    (exs_ret (ex_andV (ex_call (fun _ _ => imL_nil) (exa_cons ex_var (exa_cons ex_var (exa_cons ex_var exa_nil)))) (ex_all Z.M hT (exi_tup ex_var) (exw_name (by decide)) (ex_call (fun _ _ => imL_nil) (exa_cons ex_var (exa_cons ex_var (exa_cons ex_var exa_nil))))))))) h
theorem sc_text_of : FnScope ["row", "tag"] ["row"] (defScope (top 42)) := ⟨rfl, rfl, rfl, by decide +kernel, rfl, by decide +kernel, by decide +kernel⟩
theorem ok_text_of (Z : Fx P w G T mg base) {f : Addr} {fd : FuncData} (Fd : Fun G.K "text_of" "text_of" (top 42) f fd) :
    FnOk P w G.K mg base (L2.CX P w) 1 f fd ["row"] (spX G 1 f_text_of) := by
  obtain ⟨t_SIGNS, g_SIGNS⟩ := Z.s_SIGNS
  refine okXC Fd sc_text_of (fun vs H Q E h => h.1) (fun Ar outer s H vs Q E hr h => ?_)
  refine ⟨_, (pss_one (ps_ret (pe_m1 PySem.F.slot_str_join PySem.F.type_str_join (mt_joinK (K := G.K) rfl) pe_str (pe_lc (own := [("tag", 1)]) rfl sc_text_of.nd (pi_lstK (K := G.K) rfl (pv 0)) (blkOk_by (N := ["row", "tag"]) (sc := defScope (top 42)) (by decide +kernel)) (fun _ _ _ _ _ => (pg_name (i := 1) sc_text_of.nd rfl (by first | exact Or.inl rfl | exact Or.inr rfl))) (fun _ _ _ _ _ => pts_nil) (fun _ _ _ _ _ => (pe_ix (ix_K (K := G.K) rfl) (pe_glob (v := .str "abc)") (by rfl) g_SIGNS ⟨_, rfl⟩) (pv 1) (fun _ _ => rfl))))))), ?_⟩
  exact fn_of_ex (n := 1) (pad := 1) rfl ((exs_ret (ex_m1 ok_join ex_str (ex_lc Z.M (exi_lst ex_var) (exw_name (by decide)) ext_yes (ex_2 ok_ix ex_str ex_var))))) h
theorem sc_Desk_tag : FnScope ["self", "value"] ["self", "value"] (defScope (inClass (top 47) 1)) := ⟨rfl, rfl, rfl, by decide +kernel, rfl, by decide +kernel, by decide +kernel⟩
theorem ok_Desk_tag (Z : Fx P w G T mg base) {f : Addr} {fd : FuncData} (Fd : Fun G.K "tag" "Desk.tag" (inClass (top 47) 1) f fd)
    {a_is_number : Addr} {fd_is_number : FuncData} (D_is_number : DefX P w G mg base 1 "is_number" a_is_number fd_is_number ["value", "least", "most"] [] 3 f_is_number)
    {a_names_of : Addr} {fd_names_of : FuncData} (D_names_of : DefX P w G mg base 1 "names_of" a_names_of fd_names_of ["question"] [] 1 f_names_of)
    {a_Desk__pass_closing : Addr} {fd_Desk__pass_closing : FuncData} (D_Desk__pass_closing : MethX P w G mg base 2 (G.cl 0) "_pass_closing" a_Desk__pass_closing fd_Desk__pass_closing ["self"] 1 f_Desk__pass_closing)
    {a_Desk__pass_opening : Addr} {fd_Desk__pass_opening : FuncData} (D_Desk__pass_opening : MethX P w G mg base 1 (G.cl 0) "_pass_opening" a_Desk__pass_opening fd_Desk__pass_opening ["self", "name"] 2 f_Desk__pass_opening) :
    FnOk P w G.K mg base (L2.CX P w) 4 f fd ["self", "value"] (spX G 2 f_Desk_tag) := by
  obtain ⟨t_CLOSING, g_CLOSING⟩ := Z.i_CLOSING
  obtain ⟨t_MOST_LENGTH, g_MOST_LENGTH⟩ := Z.i_MOST_LENGTH
  obtain ⟨fI_TooMany, fd_TooMany, e_TooMany⟩ := Z.e_TooMany
  refine okXC Fd sc_Desk_tag (fun vs H Q E h => h.1) (fun Ar outer s H vs Q E hr h => ?_)
  refine ⟨_, (pss_cons (ps_if (pt_not (pt_val (pe_call D_is_number.ok (hr.mono (by decide)) (by rfl) D_is_number.g D_is_number.kp D_is_number.b .nil (passes_call (takes_of rfl rfl rfl rfl) fun _ _ _ _ h => h) (pa_cons (pv 1) (pa_cons (pe_glob (v := .int (-1)) (by rfl) g_CLOSING ⟨_, rfl⟩) (pa_cons (pe_op op_sub (pe_call D_names_of.ok (hr.mono (by decide)) (by rfl) D_names_of.g D_names_of.kp D_names_of.b .nil (passes_call (takes_of rfl rfl rfl rfl) fun _ _ _ _ h => h) (pa_cons (pe_fldK (K := G.K) rfl (pv 0) rfl) pa_nil)) pe_int) pa_nil)))))) (pss_one (ps_raise rfl (takes_of rfl rfl rfl rfl) (pmk_own PySem.F.excBase_ValueError Z.e_BadStep.ex Z.e_BadStep.g Z.e_BadStep.kp (raises_own Z.e_BadStep.sub Z.e_BadStep.ty) (by rfl)))) pss_nil)
    (pss_cons (ps_if (PW.pt (pw_and (pt_cmpR (op_eqK (K := G.K) rfl (hu64 hr)) (pv 1) (pe_glob (v := .int (-1)) (by rfl) g_CLOSING ⟨_, rfl⟩) (nomark _)) (pw_and1 (pt_cmpR (op_eqK (K := G.K) rfl (hu64 hr)) (pe_callB (call_lenK (K := G.K) rfl) (by rfl) Z.z_len boot_len (pa_cons (pe_fldK (K := G.K) rfl (pv 0) rfl) pa_nil)) pe_int (nomark _))))) (pss_one (ps_raise rfl (takes_of rfl rfl rfl rfl) (pmk_own PySem.F.excBase_ValueError Z.e_BadStep.ex Z.e_BadStep.g Z.e_BadStep.kp (raises_own Z.e_BadStep.sub Z.e_BadStep.ty) (by rfl)))) pss_nil)
    (pss_cons (ps_if (pt_cmpR (op_eqK (K := G.K) rfl (hu64 hr)) (pe_callB (call_lenK (K := G.K) rfl) (by rfl) Z.z_len boot_len (pa_cons (pe_fldK (K := G.K) rfl (pv 0) rfl) pa_nil)) (pe_glob (v := .int (2000)) (by rfl) g_MOST_LENGTH ⟨_, rfl⟩) (nomark _)) (pss_one (ps_raise rfl (takes_of rfl rfl rfl rfl) (pmk_oex e_TooMany.oex e_TooMany.iC e_TooMany.tI e_TooMany.ok (hr.mono (by decide)) e_TooMany.b .nil pass0 (by rfl) e_TooMany.g (pa_cons (pe_glob (v := .int (2000)) (by rfl) g_MOST_LENGTH ⟨_, rfl⟩) pa_nil)))) pss_nil)
    (pss_cons (ps_expr (pe_bmK (K := G.K) rfl PySem.F.plainAttrs_list PySem.F.slot_list_append PySem.F.type_list_append mt_append (pe_fldK (K := G.K) rfl (pv 0) rfl) (pa_cons (pv 1) pa_nil)))
    (pss_cons (ps_if (pt_cmpR (op_eqK (K := G.K) rfl (hu64 hr)) (pv 1) (pe_glob (v := .int (-1)) (by rfl) g_CLOSING ⟨_, rfl⟩) (nomark _)) (pss_cons (ps_expr (pe_meth0 (pv 0) Z.cl_Desk D_Desk__pass_closing.m D_Desk__pass_closing.ok (hr.mono (by decide)) D_Desk__pass_closing.b .nil (passes_call (takes_of rfl rfl rfl rfl) fun _ _ _ _ h => h)))
    (pss_one (ps_ret pe_non))) pss_nil)
    (pss_one (ps_ret (pe_meth (pv 0) Z.cl_Desk D_Desk__pass_opening.m D_Desk__pass_opening.ok (hr.mono (by decide)) D_Desk__pass_opening.b .nil (passes_call (takes_of rfl rfl rfl rfl) fun _ _ _ _ h => h) (pa_cons (pv 1) pa_nil))))))))), ?_⟩
  exact fn_of_ex (n := 2) (pad := 0) rfl ((exs_seq (exs_if (ext_not (ext_B (ex_call (fun _ _ => imL_nil) (exa_cons ex_var (exa_cons ex_int (exa_cons (ex_2 ok_sub (ex_call (fun _ _ => imL_nil) (exa_cons (ex_fld Z.cl_Desk Z.na_Desk__question ex_var) exa_nil)) ex_int) exa_nil)))))) exs_rz0 exs_next)
    (exs_seq (exs_if (ext_and (ext_test (ex_2 ok_eq ex_var ex_int)) (ext_test (ex_2 ok_eq (ex_cb ok_len (exa_cons (ex_fld Z.cl_Desk Z.na_Desk__left_open ex_var) exa_nil)) ex_int))) exs_rz0 exs_next)
    (exs_seq (exs_if (ext_test (ex_2 ok_eq (ex_cb ok_len (exa_cons (ex_fld Z.cl_Desk Z.na_Desk__tags ex_var) exa_nil)) ex_int)) (exs_rz1 Z.M e_TooMany.oex e_TooMany.no (exa_cons ex_int exa_nil)) exs_next)
    (exs_seq (exs_drop (ex_bm (ok_append Z.M) (ex_fld Z.cl_Desk Z.na_Desk__tags ex_var) (exa_cons ex_var exa_nil)))
    (exs_seq (exs_if (ext_test (ex_2 ok_eq ex_var ex_int)) (exs_seq (exs_drop (ex_meth ex_var exa_nil))
    (exs_ret ex_non)) exs_next)
    (exs_ret (ex_meth ex_var (exa_cons ex_var exa_nil))))))))) h
theorem sc_Desk_do : FnScope ["self", "line"] ["self", "line"] (defScope (inClass (top 47) 8)) := ⟨rfl, rfl, rfl, by decide +kernel, rfl, by decide +kernel, by decide +kernel⟩
theorem ok_Desk_do (Z : Fx P w G T mg base) {f : Addr} {fd : FuncData} (Fd : Fun G.K "do" "Desk.do" (inClass (top 47) 8) f fd)
    {a_Desk_back : Addr} {fd_Desk_back : FuncData} (D_Desk_back : MethX P w G mg base 1 (G.cl 0) "back" a_Desk_back fd_Desk_back ["self"] 1 f_Desk_back)
    {a_text_of : Addr} {fd_text_of : FuncData} (D_text_of : DefX P w G mg base 1 "text_of" a_text_of fd_text_of ["row"] [] 1 f_text_of)
    {p_Desk_state a_Desk_state : Addr} {fd_Desk_state : FuncData} (D_Desk_state : PropX P w G mg base 1 (G.cl 0) "state" p_Desk_state a_Desk_state fd_Desk_state f_Desk_state)
    {a_words_of : Addr} {fd_words_of : FuncData} (D_words_of : DefX P w G mg base 1 "words_of" a_words_of fd_words_of ["numbers"] [] 1 f_words_of)
    {p_Desk_wrong a_Desk_wrong : Addr} {fd_Desk_wrong : FuncData} (D_Desk_wrong : PropX P w G mg base 1 (G.cl 0) "wrong" p_Desk_wrong a_Desk_wrong fd_Desk_wrong f_Desk_wrong)
    {a_Desk__do_tag : Addr} {fd_Desk__do_tag : FuncData} (D_Desk__do_tag : MethX P w G mg base 5 (G.cl 0) "_do_tag" a_Desk__do_tag fd_Desk__do_tag ["self", "sign"] 2 f_Desk__do_tag) :
    FnOk P w G.K mg base (L2.CX P w) 6 f fd ["self", "line"] (spX G 2 f_Desk_do) := by
  obtain ⟨t_DONE, g_DONE⟩ := Z.s_DONE
  obtain ⟨fI_BadLine, fd_BadLine, e_BadLine⟩ := Z.e_BadLine
  refine okXC Fd sc_Desk_do (fun vs H Q E h => h.1) (fun Ar outer s H vs Q E hr h => ?_)
  refine ⟨_, (pss_cons (ps_if (pt_not (pt_val (pe_callB (call_isiK' (K := G.K) rfl) (by rfl) Z.z_isinstance boot_isi (pa_cons (pv 1) (pa_cons (pe_bltn (v := .ty "str") (by rfl) Z.z_str boot_str' rfl) pa_nil))))) (pss_one (ps_raise rfl (takes_of rfl rfl rfl rfl) (pmk_oex e_BadLine.oex e_BadLine.iC e_BadLine.tI e_BadLine.ok (hr.mono (by decide)) e_BadLine.b .nil pass0 (by rfl) e_BadLine.g (pa_cons pe_int pa_nil)))) pss_nil)
    (pss_cons (ps_if (pt_cmpR (op_eqK (K := G.K) rfl (hu64 hr)) (pv 1) pe_str (nomark _)) (pss_cons (ps_expr (pe_meth0 (pv 0) Z.cl_Desk D_Desk_back.m D_Desk_back.ok (hr.mono (by decide)) D_Desk_back.b .nil (passes_call (takes_of rfl rfl rfl rfl) fun _ _ _ _ h => h)))
    (pss_one (ps_ret (pe_glob (v := .str "done") (by rfl) g_DONE ⟨_, rfl⟩)))) pss_nil)
    (pss_cons (ps_if (pt_cmpR (op_eqK (K := G.K) rfl (hu64 hr)) (pv 1) pe_str (nomark _)) (pss_one (ps_ret (pe_call D_text_of.ok (hr.mono (by decide)) (by rfl) D_text_of.g D_text_of.kp D_text_of.b .nil (passes_call (takes_of rfl rfl rfl rfl) fun _ _ _ _ h => h) (pa_cons (pe_fldK (K := G.K) rfl (pv 0) rfl) pa_nil)))) pss_nil)
    (pss_cons (ps_if (pt_cmpR (op_eqK (K := G.K) rfl (hu64 hr)) (pv 1) pe_str (nomark _)) (pss_one (ps_ret (pe_callTy call_str_int (by rfl) Z.z_str boot_str' (pa_cons (pe_prop (pv 0) Z.cl_Desk D_Desk_state.p D_Desk_state.ok (hr.mono (by decide)) D_Desk_state.b .nil passF rfl) pa_nil)))) pss_nil)
    (pss_cons (ps_if (pt_cmpR (op_eqK (K := G.K) rfl (hu64 hr)) (pv 1) pe_str (nomark _)) (pss_one (ps_ret (pe_call D_words_of.ok (hr.mono (by decide)) (by rfl) D_words_of.g D_words_of.kp D_words_of.b .nil (passes_call (takes_of rfl rfl rfl rfl) fun _ _ _ _ h => h) (pa_cons (pe_prop (pv 0) Z.cl_Desk D_Desk_wrong.p D_Desk_wrong.ok (hr.mono (by decide)) D_Desk_wrong.b .nil passF rfl) pa_nil)))) pss_nil)
    (pss_one (ps_ret (pe_meth (pv 0) Z.cl_Desk D_Desk__do_tag.m D_Desk__do_tag.ok (hr.mono (by decide)) D_Desk__do_tag.b .nil (passes_call (takes_of rfl rfl rfl rfl) fun _ _ _ _ h => h) (pa_cons (pv 1) pa_nil))))))))), ?_⟩
  exact fn_of_ex (n := 2) (pad := 0) rfl ((exs_seq (exs_if (ext_not (ext_B (ex_cb ok_isi (exa_cons ex_var (exa_cons ex_ty exa_nil))))) (exs_rz1 Z.M e_BadLine.oex e_BadLine.no (exa_cons ex_int exa_nil)) exs_next)
    (exs_seq (exs_if (ext_test (ex_2 ok_eq ex_var ex_str)) (exs_seq (exs_drop (ex_meth ex_var exa_nil))
    (exs_ret ex_str)) exs_next)
    (exs_seq (exs_if (ext_test (ex_2 ok_eq ex_var ex_str)) (exs_ret (ex_call (fun _ _ => imL_nil) (exa_cons (ex_fld Z.cl_Desk Z.na_Desk__tags ex_var) exa_nil))) exs_next)
    (exs_seq (exs_if (ext_test (ex_2 ok_eq ex_var ex_str)) (exs_ret (ex_cb ok_strI (exa_cons (ex_prop ex_var) exa_nil))) exs_next)
    (exs_seq (exs_if (ext_test (ex_2 ok_eq ex_var ex_str)) (exs_ret (ex_call (fun _ _ => imL_nil) (exa_cons (ex_prop ex_var) exa_nil))) exs_next)
    (exs_ret (ex_meth ex_var (exa_cons ex_var exa_nil))))))))) h
theorem sc__law_reader : FnScope ["row", "names", "manner", "most", "many", "opens", "closes", "state", "name"] ["row", "names", "manner", "most"] (defScope (top 56)) := ⟨rfl, rfl, rfl, by decide +kernel, rfl, by decide +kernel, by decide +kernel⟩
theorem ok__law_reader (Z : Fx P w G T mg base) {f : Addr} {fd : FuncData} (Fd : Fun G.K "_law_reader" "_law_reader" (top 56) f fd)
    {a__law_taken : Addr} {fd__law_taken : FuncData} (D__law_taken : DefX P w G mg base 1 "_law_taken" a__law_taken fd__law_taken ["row", "many"] [] 2 fTaken) :
    FnOk P w G.K mg base (L2.CX P w) 2 f fd ["row", "names", "manner", "most"] (spX G 4 f__law_reader) := by
  refine okXC Fd sc__law_reader (fun vs H Q E h => h.1) (fun Ar outer s H vs Q E hr h => ?_)
  refine ⟨_, (pss_cons (ps_asg (pe_tup (pa_cons (pe_op op_add pe_int (pe_call D__law_taken.ok (hr.mono (by decide)) (by rfl) D__law_taken.g D__law_taken.kp D__law_taken.b .nil (passes_call (takes_of rfl rfl rfl rfl) fun _ _ _ _ h => h) (pa_cons (pv 0) (pa_cons (pv 3) pa_nil)))) (pa_cons (pe_lst pa_nil) (pa_cons (pe_lst pa_nil) pa_nil)))) (pg_tupK (K := G.K) (n := 3) rfl rfl (pgs_cons (pg_name (i := 4) sc__law_reader.nd rfl (by first | exact Or.inl rfl | exact Or.inr rfl)) (pgs_cons (pg_name (i := 5) sc__law_reader.nd rfl (by first | exact Or.inl rfl | exact Or.inr rfl)) (pgs_cons (pg_name (i := 6) sc__law_reader.nd rfl (by first | exact Or.inl rfl | exact Or.inr rfl)) pgs_nil)))))
    (pss_cons (ps_for (passes_of rfl) rfl (pi_range1 (by rfl) Z.z_range (pa_cons (pv 4) pa_nil)) (pg_name (i := 7) sc__law_reader.nd rfl (by first | exact Or.inl rfl | exact Or.inr rfl))
    (pss_cons (ps_expr (pe_bmK (K := G.K) rfl PySem.F.plainAttrs_list PySem.F.slot_list_append PySem.F.type_list_append mt_append (pv 5) (pa_cons (pe_callTy (call_tupK (K := G.K) rfl) (by rfl) Z.z_tuple boot_tuple' (pa_cons (pe_lc (own := [("name", 8)]) rfl sc__law_reader.nd (pi_range1 (by rfl) Z.z_range (pa_cons (pv 1) pa_nil)) (blkOk_by (N := ["row", "names", "manner", "most", "many", "opens", "closes", "state", "name"]) (sc := defScope (top 56)) (by decide +kernel)) (fun _ _ _ _ _ => (pg_name (i := 8) sc__law_reader.nd rfl (by first | exact Or.inl rfl | exact Or.inr rfl))) (fun _ _ _ _ _ => pts_nil) (fun _ _ _ _ _ => (pe_tup (pa_cons (pe_call D__law_taken.ok (hr.mono (by decide)) (by rfl) D__law_taken.g D__law_taken.kp D__law_taken.b .nil passF (pa_cons (pv 0) (pa_cons (pv 4) pa_nil))) (pa_cons (pe_call D__law_taken.ok (hr.mono (by decide)) (by rfl) D__law_taken.g D__law_taken.kp D__law_taken.b .nil passF (pa_cons (pv 0) (pa_cons pe_int pa_nil))) pa_nil))))) pa_nil)) pa_nil)))
    (pss_one (ps_expr (pe_bmK (K := G.K) rfl PySem.F.plainAttrs_list PySem.F.slot_list_append PySem.F.type_list_append mt_append (pv 6) (pa_cons (pe_callTy (call_tupK (K := G.K) rfl) (by rfl) Z.z_tuple boot_tuple' (pa_cons (pe_lc (own := [("name", 8)]) rfl sc__law_reader.nd (pi_range1 (by rfl) Z.z_range (pa_cons (pe_ifExp (pt_cmpR (op_eqK (K := G.K) rfl (hu64 hr)) (pv 2) pe_str (nomark _)) (pv 1) pe_int) pa_nil)) (blkOk_by (N := ["row", "names", "manner", "most", "many", "opens", "closes", "state", "name"]) (sc := defScope (top 56)) (by decide +kernel)) (fun _ _ _ _ _ => (pg_name (i := 8) sc__law_reader.nd rfl (by first | exact Or.inl rfl | exact Or.inr rfl))) (fun _ _ _ _ _ => pts_nil) (fun _ _ _ _ _ => (pe_call D__law_taken.ok (hr.mono (by decide)) (by rfl) D__law_taken.g D__law_taken.kp D__law_taken.b .nil passF (pa_cons (pv 0) (pa_cons (pv 4) pa_nil))))) pa_nil)) pa_nil))))))
    (pss_one (ps_ret (pe_tup (pa_cons (pe_callTy (call_tupK (K := G.K) rfl) (by rfl) Z.z_tuple boot_tuple' (pa_cons (pv 5) pa_nil)) (pa_cons (pe_callTy (call_tupK (K := G.K) rfl) (by rfl) Z.z_tuple boot_tuple' (pa_cons (pv 6) pa_nil)) pa_nil))))))), ?_⟩
  exact fn_of_ex (n := 4) (pad := 5) rfl ((exs_seq (exs_asg (ex_tup Z.M (exa_cons (ex_2 ok_add ex_int (ex_call (fun _ _ => imL_nil) (exa_cons ex_var (exa_cons ex_var exa_nil)))) (exa_cons (ex_lst Z.M exa_nil) (exa_cons (ex_lst Z.M exa_nil) exa_nil)))) (exg_tup (exgs_cons exg_name (exgs_cons exg_name (exgs_cons exg_name exgs_nil)))))
    (exs_seq (exs_for (exi_rng1 (exa_cons ex_var exa_nil)) exg_name
    (exs_seq (exs_drop (ex_bm (ok_append Z.M) ex_var (exa_cons (ex_cb (ok_tuple Z.M) (exa_cons (ex_lc Z.M (exi_rng1 (exa_cons ex_var exa_nil)) (exw_name (by decide)) ext_yes (ex_tup Z.M (exa_cons (ex_call (fun _ _ => imL_nil) (exa_cons ex_var (exa_cons ex_var exa_nil))) (exa_cons (ex_call (fun _ _ => imL_nil) (exa_cons ex_var (exa_cons ex_int exa_nil))) exa_nil)))) exa_nil)) exa_nil)))
    (exs_drop (ex_bm (ok_append Z.M) ex_var (exa_cons (ex_cb (ok_tuple Z.M) (exa_cons (ex_lc Z.M (exi_rng1 (exa_cons (ex_if (ext_test (ex_2 ok_eq ex_var ex_str)) ex_var ex_int) exa_nil)) (exw_name (by decide)) ext_yes (ex_call (fun _ _ => imL_nil) (exa_cons ex_var (exa_cons ex_var exa_nil)))) exa_nil)) exa_nil)))))
    (exs_ret (ex_tup Z.M (exa_cons (ex_cb (ok_tuple Z.M) (exa_cons ex_var exa_nil)) (exa_cons (ex_cb (ok_tuple Z.M) (exa_cons ex_var exa_nil)) exa_nil))))))) h
theorem sc_law : FnScope ["script", "row", "question", "manner", "names", "reader", "desk", "tags", "turn", "way", "tag", "fine", "bad", "due"] ["script"] (defScope (top 62)) := ⟨rfl, rfl, rfl, by decide +kernel, rfl, by decide +kernel, by decide +kernel⟩
theorem ok_law (hold : (m_law (env0 14 1) [.dr]).holds True9 fun _ _ => False) (Z : Fx P w G T mg base) {f : Addr} {fd : FuncData} (Fd : Fun G.K "law" "law" (top 62) f fd)
    {a__law_pick : Addr} {fd__law_pick : FuncData} (D__law_pick : DefX P w G mg base 2 "_law_pick" a__law_pick fd__law_pick ["row", "things"] [] 2 f__law_pick)
    {a__law_question : Addr} {fd__law_question : FuncData} (D__law_question : DefX P w G mg base 2 "_law_question" a__law_question fd__law_question ["row", "states", "names"] [] 3 f__law_question)
    {a__law_near : Addr} {fd__law_near : FuncData} (D__law_near : DefX P w G mg base 3 "_law_near" a__law_near fd__law_near ["row", "question", "names", "manner"] [] 4 f__law_near)
    {a_Desk___init__ : Addr} {fd_Desk___init__ : FuncData} (D_Desk___init__ : MethX P w G mg base 10 (G.cl 0) "__init__" a_Desk___init__ fd_Desk___init__ ["self", "question", "manner", "reader"] 4 f_Desk___init__)
    {a__law_taken : Addr} {fd__law_taken : FuncData} (D__law_taken : DefX P w G mg base 1 "_law_taken" a__law_taken fd__law_taken ["row", "many"] [] 2 fTaken)
    {a__law_paths : Addr} {fd__law_paths : FuncData} (D__law_paths : DefX P w G mg base 1 "_law_paths" a__law_paths fd__law_paths ["tags"] [] 1 f__law_paths)
    {a_Desk_back : Addr} {fd_Desk_back : FuncData} (D_Desk_back : MethX P w G mg base 1 (G.cl 0) "back" a_Desk_back fd_Desk_back ["self"] 1 f_Desk_back)
    {a_Desk_do : Addr} {fd_Desk_do : FuncData} (D_Desk_do : MethX P w G mg base 6 (G.cl 0) "do" a_Desk_do fd_Desk_do ["self", "line"] 2 f_Desk_do)
    {a_Desk_tag : Addr} {fd_Desk_tag : FuncData} (D_Desk_tag : MethX P w G mg base 4 (G.cl 0) "tag" a_Desk_tag fd_Desk_tag ["self", "value"] 2 f_Desk_tag)
    {a__law_read : Addr} {fd__law_read : FuncData} (D__law_read : DefX P w G mg base 1 "_law_read" a__law_read fd__law_read ["reader", "tags"] [] 2 f__law_read)
    {a__law_answer : Addr} {fd__law_answer : FuncData} (D__law_answer : DefX P w G mg base 2 "_law_answer" a__law_answer fd__law_answer ["question", "way"] [] 2 f__law_answer)
    {a__law_alike : Addr} {fd__law_alike : FuncData} (D__law_alike : DefX P w G mg base 60 "_law_alike" a__law_alike fd__law_alike ["found", "due"] [] 2 (f__law_alike 60))
    {a__law_stands : Addr} {fd__law_stands : FuncData} (D__law_stands : DefX P w G mg base 61 "_law_stands" a__law_stands fd__law_stands ["desk", "question", "reader", "tags"] [] 4 f__law_stands)
    {c TP aW : Addr} {fdW : FuncData} (W : AmW G TP ((("law" : Str) ++ ".<locals>.") ++ "<lambda>")) (OL : OwnX mg base fd c TP) (TB : LamX.TabB base mg c TP) (FW : Fun G.K "_law_word" "_law_word" sWordX aW fdW) (wbW : Binds G.K fdW ["work"] []) (gW : mg "_law_word" = some (.ref aW)) :
    FnOk P w G.K mg base (L2.CX P w) 62 f fd ["script"] (spLawX G) := by
  obtain ⟨ocW, odW, kVW, docW, pmW, anW, cdvW, ctW, oslW, efd, lkW, hcW⟩ := FW.ex
  have wb := wbW
  rw [efd] at wb lkW
  refine okXC Fd sc_law (fun vs H Q E h => by obtain ⟨a, ns, rfl, _⟩ := h; rfl) (fun Ar outer s H vs Q E hr h => ?_)
  obtain ⟨a, ns, rfl, hs, hA, q⟩ := h
  refine ⟨_, (pss_cons (ps_set (i := 1) sc_law.nd rfl (by first | exact Or.inl rfl | exact Or.inr rfl) (pe_lst (pa_cons (pv 0) (pa_cons pe_int (pa_cons pe_int (pa_cons pe_int pa_nil))))))
    (pss_cons (ps_par (by rfl) sc_law.nd (i := 2) (j := 3) rfl rfl (by decide) rfl rfl (pa_cons (pe_call D__law_question.ok (hr.mono (by decide)) (by rfl) D__law_question.g D__law_question.kp D__law_question.b .nil (passes_call (takes_of rfl rfl rfl rfl) fun _ _ _ _ h => h) (pa_cons (pv 1) (pa_cons pe_int (pa_cons pe_int pa_nil)))) (pa_cons (pe_call D__law_pick.ok (hr.mono (by decide)) (by rfl) D__law_pick.g D__law_pick.kp D__law_pick.b .nil (passes_call (takes_of rfl rfl rfl rfl) fun _ _ _ _ h => h) (pa_cons (pv 1) (pa_cons (pe_lst (pa_cons pe_str (pa_cons pe_str pa_nil))) pa_nil))) pa_nil)) (by rfl))
    (pss_cons (ps_set (i := 4) sc_law.nd rfl (by first | exact Or.inl rfl | exact Or.inr rfl) (pe_callB (call_lenK (K := G.K) rfl) (by rfl) Z.z_len boot_len (pa_cons (pe_ix (ix_K (K := G.K) rfl) (pe_ix (ix_K (K := G.K) rfl) (pv 2) pe_int (fun _ _ => rfl)) pe_int (fun _ _ => rfl)) pa_nil)))
    (pss_cons (ps_set (i := 5) sc_law.nd rfl (by first | exact Or.inl rfl | exact Or.inr rfl) (pe_call D__law_near.ok (hr.mono (by decide)) (by rfl) D__law_near.g D__law_near.kp D__law_near.b .nil (passes_call (takes_of rfl rfl rfl rfl) fun _ _ _ _ h => h) (pa_cons (pv 1) (pa_cons (pv 2) (pa_cons (pv 4) (pa_cons (pv 3) pa_nil))))))
    (pss_cons (ps_asg (pe_tup (pa_cons (pe_make ⟨Z.mkA_Desk, D_Desk___init__.m.at_, D_Desk___init__.m.fn, Z.kp_Desk⟩ D_Desk___init__.ok (hr.mono (by decide)) (by rfl) Z.g_Desk D_Desk___init__.b .nil (passes_call (takes_of rfl rfl rfl rfl) fun _ _ _ _ h => h) (pa_cons (pv 2) (pa_cons (pv 3) (pa_cons (pv 5) pa_nil)))) (pa_cons (pe_tup pa_nil) pa_nil))) (pg_tupK (K := G.K) (n := 2) rfl rfl (pgs_cons (pg_name (i := 6) sc_law.nd rfl (by first | exact Or.inl rfl | exact Or.inr rfl)) (pgs_cons (pg_name (i := 7) sc_law.nd rfl (by first | exact Or.inl rfl | exact Or.inr rfl)) pgs_nil))))
    (pss_cons (ps_for (passes_of rfl) rfl (pi_range1 (by rfl) Z.z_range (pa_cons (pe_call D__law_taken.ok (hr.mono (by decide)) (by rfl) D__law_taken.g D__law_taken.kp D__law_taken.b .nil (passes_call (takes_of rfl rfl rfl rfl) fun _ _ _ _ h => h) (pa_cons (pv 1) (pa_cons pe_int pa_nil))) pa_nil)) (pg_name (i := 8) sc_law.nd rfl (by first | exact Or.inl rfl | exact Or.inr rfl))
    (pss_cons (ps_asg (pe_tup (pa_cons (pe_call D__law_taken.ok (hr.mono (by decide)) (by rfl) D__law_taken.g D__law_taken.kp D__law_taken.b .nil (passes_call (takes_of rfl rfl rfl rfl) fun _ _ _ _ h => h) (pa_cons (pv 1) (pa_cons pe_int pa_nil))) (pa_cons (pe_op op_sub (pe_call D__law_taken.ok (hr.mono (by decide)) (by rfl) D__law_taken.g D__law_taken.kp D__law_taken.b .nil (passes_call (takes_of rfl rfl rfl rfl) fun _ _ _ _ h => h) (pa_cons (pv 1) (pa_cons (pe_op op_add (pv 4) pe_int) pa_nil))) pe_int) pa_nil))) (pg_tupK (K := G.K) (n := 2) rfl rfl (pgs_cons (pg_name (i := 9) sc_law.nd rfl (by first | exact Or.inl rfl | exact Or.inr rfl)) (pgs_cons (pg_name (i := 10) sc_law.nd rfl (by first | exact Or.inl rfl | exact Or.inr rfl)) pgs_nil))))
    (pss_cons (ps_set (i := 11) sc_law.nd rfl (by first | exact Or.inl rfl | exact Or.inr rfl) (pe_or (pe_cmpR op_ge (pv 10) pe_int (nomark _)) (pe_one (pe_cmpR (op_neK (K := G.K) rfl (hu64 hr)) (pe_ix (ix_K (K := G.K) rfl) (pe_call D__law_paths.ok (hr.mono (by decide)) (by rfl) D__law_paths.g D__law_paths.kp D__law_paths.b .nil (passes_call (takes_of rfl rfl rfl rfl) fun _ _ _ _ h => h) (pa_cons (pv 7) pa_nil)) pe_int (fun _ _ => rfl)) (pe_tup pa_nil) (nomark _)))))
    (pss_cons (ps_if (pt_cmpR (op_eqK (K := G.K) rfl (hu64 hr)) (pv 9) pe_int (nomark _)) (pss_cons (ps_if (pt_cmpR (op_neK (K := G.K) rfl (hu64 hr)) (Mk.mk_lamcall (k := 6) (ps := []) (ds := fun _ => []) (bs := fun _ => []) (by rfl) gW FW.kp lkW hcW wb scWordX rfl (.inl rfl) (word_givesX (G := G) rfl Z.wd Z.z_isinstance) TB OL.code (hr.mono (by decide)) (Mk.lamP_by (N := ["script", "row", "question", "manner", "names", "reader", "desk", "tags", "turn", "way", "tag", "fine", "bad", "due"]) (sc := defScope (top 62)) (by decide +kernel)) (by rfl) Mk.ev_lam0 (fun _ => Mk.bindL_0) (fun _ y hy => absurd hy List.not_mem_nil) (fun _ _ _ _ _ _ _ hq => (pe_ifExp (pt_cmpR (op_eqK (K := G.K) rfl (hu64 hq)) (pe_call D__law_taken.ok (hq.mono (by decide)) (by rfl) D__law_taken.g D__law_taken.kp D__law_taken.b .nil (passes_call (takes_of rfl rfl rfl rfl) fun _ _ _ _ h => h) (pa_cons (pv 1) (pa_cons pe_int pa_nil))) pe_int (nomark _)) (pe_meth0 (pv 6) Z.cl_Desk D_Desk_back.m D_Desk_back.ok (hq.mono (by decide)) D_Desk_back.b .nil (passes_call (takes_of rfl rfl rfl rfl) fun _ _ _ _ h => h)) (pe_meth (pv 6) Z.cl_Desk D_Desk_do.m D_Desk_do.ok (hq.mono (by decide)) D_Desk_do.b .nil (passes_call (takes_of rfl rfl rfl rfl) fun _ _ _ _ h => h) (pa_cons pe_str pa_nil))))) (pe_ifExp (pt_cmpR (op_neK (K := G.K) rfl (hu64 hr)) (pv 7) (pe_tup pa_nil) (nomark _)) pe_str pe_str) (nomark _)) (pss_one (ps_ret pe_bl)) pss_nil)
    (pss_one (ps_set (i := 7) sc_law.nd rfl (by first | exact Or.inl rfl | exact Or.inr rfl) (pe_slice (sl_tupK (K := G.K) rfl) (pv 7) po_none (po_some (pe_un un_neg pe_int)))))) (pss_one (ps_if (pt_cmpR (op_eqK (K := G.K) rfl (hu64 hr)) (pv 9) pe_int (nomark _)) (pss_cons (ps_set (i := 12) sc_law.nd rfl (by first | exact Or.inl rfl | exact Or.inr rfl) (pe_call D__law_pick.ok (hr.mono (by decide)) (by rfl) D__law_pick.g D__law_pick.kp D__law_pick.b .nil (passes_call (takes_of rfl rfl rfl rfl) fun _ _ _ _ h => h) (pa_cons (pv 1) (pa_cons (pe_lst (pa_cons pe_non (pa_cons (pv 4) (pa_cons pe_bl (pa_cons pe_str (pa_cons (pe_op op_sub pe_int pe_int) pa_nil)))))) pa_nil))))
    (pss_one (ps_if (pt_cmpR (op_neK (K := G.K) rfl (hu64 hr)) (Mk.mk_lamcall (k := 4) (ps := []) (ds := fun _ => []) (bs := fun _ => []) (by rfl) gW FW.kp lkW hcW wb scWordX rfl (.inl rfl) (word_givesX (G := G) rfl Z.wd Z.z_isinstance) TB OL.code (hr.mono (by decide)) (Mk.lamP_by (N := ["script", "row", "question", "manner", "names", "reader", "desk", "tags", "turn", "way", "tag", "fine", "bad", "due"]) (sc := defScope (top 62)) (by decide +kernel)) (by rfl) Mk.ev_lam0 (fun _ => Mk.bindL_0) (fun _ y hy => absurd hy List.not_mem_nil) (fun _ _ _ _ _ _ _ hq => (pe_meth (pv 6) Z.cl_Desk D_Desk_tag.m D_Desk_tag.ok (hq.mono (by decide)) D_Desk_tag.b .nil (passes_call (takes_of rfl rfl rfl rfl) fun _ _ _ _ h => h) (pa_cons (pv 12) pa_nil)))) pe_str (nomark _)) (pss_one (ps_ret pe_bl)) pss_nil))) (pss_one (ps_if (pt_cmpR (op_eqK (K := G.K) rfl (hu64 hr)) (pv 9) pe_int (nomark _)) (pss_cons (ps_set (i := 12) sc_law.nd rfl (by first | exact Or.inl rfl | exact Or.inr rfl) (pe_call D__law_pick.ok (hr.mono (by decide)) (by rfl) D__law_pick.g D__law_pick.kp D__law_pick.b .nil (passes_call (takes_of rfl rfl rfl rfl) fun _ _ _ _ h => h) (pa_cons (pv 1) (pa_cons (pe_lst (pa_cons pe_str (pa_cons pe_str (pa_cons pe_str (pa_cons pe_non (pa_cons pe_int (pa_cons pe_str (pa_cons pe_str (pa_cons pe_str (pa_cons (pe_ix (ix_K (K := G.K) rfl) pe_str (pv 4) (fun _ _ => rfl)) pa_nil)))))))))) pa_nil))))
    (pss_one (ps_if (pt_cmpR (op_neK (K := G.K) rfl (hu64 hr)) (Mk.mk_lamcall (k := 6) (ps := []) (ds := fun _ => []) (bs := fun _ => []) (by rfl) gW FW.kp lkW hcW wb scWordX rfl (.inl rfl) (word_givesX (G := G) rfl Z.wd Z.z_isinstance) TB OL.code (hr.mono (by decide)) (Mk.lamP_by (N := ["script", "row", "question", "manner", "names", "reader", "desk", "tags", "turn", "way", "tag", "fine", "bad", "due"]) (sc := defScope (top 62)) (by decide +kernel)) (by rfl) Mk.ev_lam0 (fun _ => Mk.bindL_0) (fun _ y hy => absurd hy List.not_mem_nil) (fun _ _ _ _ _ _ _ hq => (pe_meth (pv 6) Z.cl_Desk D_Desk_do.m D_Desk_do.ok (hq.mono (by decide)) D_Desk_do.b .nil (passes_call (takes_of rfl rfl rfl rfl) fun _ _ _ _ h => h) (pa_cons (pv 12) pa_nil)))) pe_str (nomark _)) (pss_one (ps_ret pe_bl)) pss_nil))) (pss_one (ps_if (pt_not (pt_val (pv 11))) (pss_one (ps_if (pt_cmpR (op_neK (K := G.K) rfl (hu64 hr)) (pe_lst (pa_cons (Mk.mk_lamcall (k := 4) (ps := []) (ds := fun _ => []) (bs := fun _ => []) (by rfl) gW FW.kp lkW hcW wb scWordX rfl (.inl rfl) (word_givesX (G := G) rfl Z.wd Z.z_isinstance) TB OL.code (hr.mono (by decide)) (Mk.lamP_by (N := ["script", "row", "question", "manner", "names", "reader", "desk", "tags", "turn", "way", "tag", "fine", "bad", "due"]) (sc := defScope (top 62)) (by decide +kernel)) (by rfl) Mk.ev_lam0 (fun _ => Mk.bindL_0) (fun _ y hy => absurd hy List.not_mem_nil) (fun _ _ _ _ _ _ _ hq => (pe_meth (pv 6) Z.cl_Desk D_Desk_tag.m D_Desk_tag.ok (hq.mono (by decide)) D_Desk_tag.b .nil (passes_call (takes_of rfl rfl rfl rfl) fun _ _ _ _ h => h) (pa_cons (pv 10) pa_nil)))) (pa_cons (Mk.mk_lamcall (k := 6) (ps := ["a"]) (ds := fun n => [.int 0 n]) (bs := fun n => [("a", .int 0 n)]) (by rfl) gW FW.kp lkW hcW wb scWordX rfl (.inl rfl) (word_givesX (G := G) rfl Z.wd Z.z_isinstance) TB OL.code (hr.mono (by decide)) (Mk.lamP_by (N := ["script", "row", "question", "manner", "names", "reader", "desk", "tags", "turn", "way", "tag", "fine", "bad", "due"]) (sc := defScope (top 62)) (by decide +kernel)) (by rfl) Mk.ev_lam1 (fun _ => Mk.bindL_1) (fun _ y hy => by rw [List.mem_singleton.mp hy]; exact List.mem_singleton.mpr rfl) (fun _ _ _ _ _ _ _ hq => (pe_meth (pv 6) Z.cl_Desk D_Desk_do.m D_Desk_do.ok (hq.mono (by decide)) D_Desk_do.b .nil (passes_call (takes_of rfl rfl rfl rfl) fun _ _ _ _ h => h) (pa_cons pe_str pa_nil)))) pa_nil))) (pe_op op_rep (pe_lst (pa_cons pe_str pa_nil)) pe_int) (nomark _)) (pss_one (ps_ret pe_bl)) pss_nil)) (pss_cons (ps_set (i := 7) sc_law.nd rfl (by first | exact Or.inl rfl | exact Or.inr rfl) (pe_op (op_catK (K := G.K) rfl) (pv 7) (pe_tup (pa_cons (pv 10) pa_nil))))
    (pss_cons (ps_set (i := 13) sc_law.nd rfl (by first | exact Or.inl rfl | exact Or.inr rfl) pe_non)
    (pss_cons (ps_if (pt_cmpR op_ge (pv 10) pe_int (nomark _)) (pss_one (ps_set (i := 13) sc_law.nd rfl (by first | exact Or.inl rfl | exact Or.inr rfl) (pe_tup (pa_cons (pe_call D__law_answer.ok (hr.mono (by decide)) (by rfl) D__law_answer.g D__law_answer.kp D__law_answer.b .nil (passes_call (takes_of rfl rfl rfl rfl) fun _ _ _ _ h => h) (pa_cons (pv 2) (pa_cons (pe_ix (ix_K (K := G.K) rfl) (pe_call D__law_paths.ok (hr.mono (by decide)) (by rfl) D__law_paths.g D__law_paths.kp D__law_paths.b .nil (passes_call (takes_of rfl rfl rfl rfl) fun _ _ _ _ h => h) (pa_cons (pv 7) pa_nil)) pe_int (fun _ _ => rfl)) pa_nil))) (pa_cons (pe_ix (ix_K (K := G.K) rfl) (pe_ix (ix_K (K := G.K) rfl) (pe_call D__law_read.ok (hr.mono (by decide)) (by rfl) D__law_read.g D__law_read.kp D__law_read.b .nil (passes_call (takes_of rfl rfl rfl rfl) fun _ _ _ _ h => h) (pa_cons (pv 5) (pa_cons (pv 7) pa_nil))) pe_int (fun _ _ => rfl)) (pe_un un_neg pe_int) (fun _ _ => rfl)) pa_nil))))) pss_nil)
    (pss_cons (ps_if (PW.pt (pw_and (pt_cmpR op_lt (pv 9) pe_int (nomark _)) (pw_and1 (pt_not (pt_val (pe_call D__law_alike.ok (hr.mono (by decide)) (by rfl) D__law_alike.g D__law_alike.kp D__law_alike.b .nil (passes_call (takes_of rfl rfl rfl rfl) fun _ _ _ _ h => h) (pa_cons (pe_meth (pv 6) Z.cl_Desk D_Desk_tag.m D_Desk_tag.ok (hr.mono (by decide)) D_Desk_tag.b .nil (passes_call (takes_of rfl rfl rfl rfl) fun _ _ _ _ h => h) (pa_cons (pv 10) pa_nil)) (pa_cons (pv 13) pa_nil)))))))) (pss_one (ps_ret pe_bl)) pss_nil)
    (pss_one (ps_if (PW.pt (pw_and (pt_cmpR op_gt (pv 9) pe_int (nomark _)) (pw_and1 (pt_cmpR (op_neK (K := G.K) rfl (hu64 hr)) (pe_meth (pv 6) Z.cl_Desk D_Desk_do.m D_Desk_do.ok (hr.mono (by decide)) D_Desk_do.b .nil (passes_call (takes_of rfl rfl rfl rfl) fun _ _ _ _ h => h) (pa_cons (pe_ix (ix_K (K := G.K) rfl) pe_str (pe_op op_add (pv 10) pe_int) (fun _ _ => rfl)) pa_nil)) (pe_ifExp (pt_cmpR op_isN (pv 13) pe_non (nomark _)) pe_str (pe_op op_add_str (pe_op op_add_str (pe_callTy call_str_int (by rfl) Z.z_str boot_str' (pa_cons (pe_ix (ix_K (K := G.K) rfl) (pv 13) pe_int (fun _ _ => rfl)) pa_nil)) pe_str) (pe_callTy call_str_int (by rfl) Z.z_str boot_str' (pa_cons (pe_ix (ix_K (K := G.K) rfl) (pv 13) pe_int (fun _ _ => rfl)) pa_nil)))) (nomark _))))) (pss_one (ps_ret pe_bl)) pss_nil)))))))))))))
    (pss_one (ps_if (pt_not (pt_val (pe_call D__law_stands.ok (hr.mono (by decide)) (by rfl) D__law_stands.g D__law_stands.kp D__law_stands.b .nil (passes_call (takes_of rfl rfl rfl rfl) fun _ _ _ _ h => h) (pa_cons (pv 6) (pa_cons (pv 2) (pa_cons (pv 5) (pa_cons (pv 7) pa_nil))))))) (pss_one (ps_ret pe_bl)) pss_nil))))))
    (pss_one (ps_ret pe_bl)))))))), ?_⟩
  refine Mk.c_seq (Mk.c_set (Mk.va_cons (Mk.v_var rfl) (Mk.va_cons Mk.v_c (Mk.va_cons Mk.v_c (Mk.va_cons Mk.v_c Mk.va_nil))) _ ⟨by show 4 ≤ sizeLine; decide, fun r hr0 => ?_⟩))
  exact law_end2 (n := 14) (i := 1) (ms := m_law) Z.M (show ExS G E _ m_law from (exs_seq (exs_par (exa_cons (ex_call (fun _ _ => imL_nil) (exa_cons ex_var (exa_cons ex_int (exa_cons ex_int exa_nil)))) (exa_cons (ex_call (fun _ _ => imL_nil) (exa_cons ex_var (exa_cons (ex_lst Z.M (exa_cons ex_str (exa_cons ex_str exa_nil))) exa_nil))) exa_nil)))
    (exs_seq (exs_asg (ex_cb ok_len (exa_cons (ex_2 ok_ix (ex_2 ok_ix ex_var ex_int) ex_int) exa_nil)) exg_name)
    (exs_seq (exs_asg (ex_call (fun _ _ => imL_nil) (exa_cons ex_var (exa_cons ex_var (exa_cons ex_var (exa_cons ex_var exa_nil))))) exg_name)
    (exs_seq (exs_asg (ex_tup Z.M (exa_cons (ex_make Z.M (exa_cons ex_var (exa_cons ex_var (exa_cons ex_var exa_nil)))) (exa_cons (ex_tup Z.M exa_nil) exa_nil))) (exg_tup (exgs_cons exg_name (exgs_cons exg_name exgs_nil))))
    (exs_seq (exs_for (exi_rng1 (exa_cons (ex_call (fun _ _ => imL_nil) (exa_cons ex_var (exa_cons ex_int exa_nil))) exa_nil)) exg_name
    (exs_seq (exs_asg (ex_tup Z.M (exa_cons (ex_call (fun _ _ => imL_nil) (exa_cons ex_var (exa_cons ex_int exa_nil))) (exa_cons (ex_2 ok_sub (ex_call (fun _ _ => imL_nil) (exa_cons ex_var (exa_cons (ex_2 ok_add ex_var ex_int) exa_nil))) ex_int) exa_nil))) (exg_tup (exgs_cons exg_name (exgs_cons exg_name exgs_nil))))
    (exs_seq (exs_asg (ex_orV (ex_2 ok_ge ex_var ex_int) (ex_2 ok_ne (ex_2 ok_ix (ex_call (fun _ _ => imL_nil) (exa_cons ex_var exa_nil)) ex_int) (ex_tup Z.M exa_nil))) exg_name)
    (exs_seq (exs_if (ext_test (ex_2 ok_eq ex_var ex_int)) (exs_seq (exs_if (ext_test (ex_2 ok_ne (ex_word Z.M W (fun E' => (ex_if (ext_test (ex_2 ok_eq (ex_call (fun _ _ => imL_nil) (exa_cons ex_var (exa_cons ex_int exa_nil))) ex_int)) (ex_meth ex_var exa_nil) (ex_meth ex_var (exa_cons ex_str exa_nil))))) (ex_if (ext_test (ex_2 ok_ne ex_var (ex_tup Z.M exa_nil))) ex_str ex_str))) (exs_ret ex_bl) exs_next)
    (exs_asg (ex_sl (ok_slT Z.M) ex_var exo_none (exo_some (ex_1 ok_neg ex_int))) exg_name)) (exs_if (ext_test (ex_2 ok_eq ex_var ex_int)) (exs_seq (exs_asg (ex_call (fun _ _ => imL_nil) (exa_cons ex_var (exa_cons (ex_lst Z.M (exa_cons ex_non (exa_cons ex_var (exa_cons ex_bl (exa_cons ex_str (exa_cons (ex_2 ok_sub ex_int ex_int) exa_nil)))))) exa_nil))) exg_name)
    (exs_if (ext_test (ex_2 ok_ne (ex_word Z.M W (fun E' => (ex_meth ex_var (exa_cons ex_var exa_nil)))) ex_str)) (exs_ret ex_bl) exs_next)) (exs_if (ext_test (ex_2 ok_eq ex_var ex_int)) (exs_seq (exs_asg (ex_call (fun _ _ => imL_nil) (exa_cons ex_var (exa_cons (ex_lst Z.M (exa_cons ex_str (exa_cons ex_str (exa_cons ex_str (exa_cons ex_non (exa_cons ex_int (exa_cons ex_str (exa_cons ex_str (exa_cons ex_str (exa_cons (ex_2 ok_ix ex_str ex_var) exa_nil)))))))))) exa_nil))) exg_name)
    (exs_if (ext_test (ex_2 ok_ne (ex_word Z.M W (fun E' => (ex_meth ex_var (exa_cons ex_var exa_nil)))) ex_str)) (exs_ret ex_bl) exs_next)) (exs_if (ext_not (ext_B ex_var)) (exs_if (ext_test (ex_2 ok_ne (ex_lst Z.M (exa_cons (ex_word Z.M W (fun E' => (ex_meth ex_var (exa_cons ex_var exa_nil)))) (exa_cons (ex_word Z.M W (fun E' => (ex_meth ex_var (exa_cons ex_str exa_nil)))) exa_nil))) (ex_2 (ok_repL Z.M) (ex_lst Z.M (exa_cons ex_str exa_nil)) ex_int))) (exs_ret ex_bl) exs_next) (exs_seq (exs_asg (ex_2 (ok_catT Z.M) ex_var (ex_tup Z.M (exa_cons ex_var exa_nil))) exg_name)
    (exs_seq (exs_asg ex_non exg_name)
    (exs_seq (exs_if (ext_test (ex_2 ok_ge ex_var ex_int)) (exs_asg (ex_tup Z.M (exa_cons (ex_call (fun _ _ => imL_nil) (exa_cons ex_var (exa_cons (ex_2 ok_ix (ex_call (fun _ _ => imL_nil) (exa_cons ex_var exa_nil)) ex_int) exa_nil))) (exa_cons (ex_2 ok_ix (ex_2 ok_ix (ex_call (fun _ _ => imL_nil) (exa_cons ex_var (exa_cons ex_var exa_nil))) ex_int) (ex_1 ok_neg ex_int)) exa_nil))) exg_name) exs_next)
    (exs_seq (exs_if (ext_and (ext_test (ex_2 ok_lt ex_var ex_int)) (ext_not (ext_B (ex_call (fun _ _ => imL_nil) (exa_cons (ex_meth ex_var (exa_cons ex_var exa_nil)) (exa_cons ex_var exa_nil)))))) (exs_ret ex_bl) exs_next)
    (exs_if (ext_and (ext_test (ex_2 ok_gt ex_var ex_int)) (ext_test (ex_2 ok_ne (ex_meth ex_var (exa_cons (ex_2 ok_ix ex_str (ex_2 ok_add ex_var ex_int)) exa_nil)) (ex_if (ext_test (ex_2 ok_isN ex_var ex_non)) ex_str (ex_2 ok_catS (ex_2 ok_catS (ex_cb ok_strI (exa_cons (ex_2 ok_ix ex_var ex_int) exa_nil)) ex_str) (ex_cb ok_strI (exa_cons (ex_2 ok_ix ex_var ex_int) exa_nil))))))) (exs_ret ex_bl) exs_next)))))))))
    (exs_if (ext_not (ext_B (ex_call (fun _ _ => imL_nil) (exa_cons ex_var (exa_cons ex_var (exa_cons ex_var (exa_cons ex_var exa_nil))))))) (exs_ret ex_bl) exs_next)))))
    (exs_ret ex_bl))))))) hs hA q hr0 rfl (by decide) (by decide) (by with_reducible exact hold)
end
end Mx

/-! ### MkG6 -/
set_option Elab.async false
set_option linter.all false
set_option maxRecDepth 100000
set_option maxHeartbeats 4000000
namespace Mx
open PySem PySem.Spec PyProof.Rows L2
open GxR (TabG Tabbed)
section
variable {P : Program} {w : World} {G : Gx} {T : List Addr} {mg : Str → Option Value} {base : Heap}
theorem sc_names_of : FnScope ["question"] ["question"] (defScope (top 24)) := ⟨rfl, rfl, rfl, by decide +kernel, rfl, by decide +kernel, by decide +kernel⟩
theorem ok_names_of (Z : Fx P w G T mg base) {f : Addr} {fd : FuncData} (Fd : Fun G.K "names_of" "names_of" (top 24) f fd) :
    FnOk P w G.K mg base (L2.CX P w) 1 f fd ["question"] (spX G 1 f_names_of) := by
  refine okXC Fd sc_names_of (fun vs H Q E h => h.1) (fun Ar outer s H vs Q E hr h => ?_)
  refine ⟨_, (pss_one (ps_ret (pe_callB (call_lenK (K := G.K) rfl) (by rfl) Z.z_len boot_len (pa_cons (pe_ix (ix_K (K := G.K) rfl) (pe_ix (ix_K (K := G.K) rfl) (pv 0) pe_int (fun _ _ => rfl)) pe_int (fun _ _ => rfl)) pa_nil)))), ?_⟩
  exact fn_of_ex (n := 1) (pad := 0) rfl ((exs_ret (ex_cb ok_len (exa_cons (ex_2 ok_ix (ex_2 ok_ix ex_var ex_int) ex_int) exa_nil)))) h
theorem sc_ways_to_close : FnScope ["names", "manner"] ["names", "manner"] (defScope (top 34)) := ⟨rfl, rfl, rfl, by decide +kernel, rfl, by decide +kernel, by decide +kernel⟩
theorem ok_ways_to_close (Z : Fx P w G T mg base) {f : Addr} {fd : FuncData} (Fd : Fun G.K "ways_to_close" "ways_to_close" (top 34) f fd) :
    FnOk P w G.K mg base (L2.CX P w) 1 f fd ["names", "manner"] (spX G 2 f_ways_to_close) := by
  obtain ⟨t_NAMED, g_NAMED⟩ := Z.s_NAMED
  refine okXC Fd sc_ways_to_close (fun vs H Q E h => h.1) (fun Ar outer s H vs Q E hr h => ?_)
  refine ⟨_, (pss_one (ps_ret (pe_ifExp (pt_cmpR (op_eqK (K := G.K) rfl (hu64 hr)) (pv 1) (pe_glob (v := .str "named") (by rfl) g_NAMED ⟨_, rfl⟩) (nomark _)) (pv 0) pe_int))), ?_⟩
  exact fn_of_ex (n := 2) (pad := 0) rfl ((exs_ret (ex_if (ext_test (ex_2 ok_eq ex_var ex_str)) ex_var ex_int))) h
theorem sc_tag_of : FnScope ["names", "sign", "name"] ["names", "sign"] (defScope (top 43)) := ⟨rfl, rfl, rfl, by decide +kernel, rfl, by decide +kernel, by decide +kernel⟩
theorem ok_tag_of (Z : Fx P w G T mg base) {f : Addr} {fd : FuncData} (Fd : Fun G.K "tag_of" "tag_of" (top 43) f fd) :
    FnOk P w G.K mg base (L2.CX P w) 1 f fd ["names", "sign"] (spX G 2 f_tag_of) := by
  obtain ⟨t_CLOSING_SIGN, g_CLOSING_SIGN⟩ := Z.s_CLOSING_SIGN
  obtain ⟨t_CLOSING, g_CLOSING⟩ := Z.i_CLOSING
  obtain ⟨t_SIGNS, g_SIGNS⟩ := Z.s_SIGNS
  refine okXC Fd sc_tag_of (fun vs H Q E h => h.1) (fun Ar outer s H vs Q E hr h => ?_)
  refine ⟨_, (pss_cons (ps_if (pt_cmpR (op_eqK (K := G.K) rfl (hu64 hr)) (pv 1) (pe_glob (v := .str ")") (by rfl) g_CLOSING_SIGN ⟨_, rfl⟩) (nomark _)) (pss_one (ps_ret (pe_glob (v := .int (-1)) (by rfl) g_CLOSING ⟨_, rfl⟩))) pss_nil)
    (pss_cons (ps_set (i := 2) sc_tag_of.nd rfl (by first | exact Or.inl rfl | exact Or.inr rfl) (pe_m1 PySem.F.slot_str_find PySem.F.type_str_find mt_find (pe_glob (v := .str "abc)") (by rfl) g_SIGNS ⟨_, rfl⟩) (pv 1)))
    (pss_one (ps_ret (pe_ifExp (pt_chain op_le op_lt pe_int (pv 2) (pv 0)) (pv 2) pe_non))))), ?_⟩
  exact fn_of_ex (n := 2) (pad := 1) rfl ((exs_seq (exs_if (ext_test (ex_2 ok_eq ex_var ex_str)) (exs_ret ex_int) exs_next)
    (exs_seq (exs_asg (ex_m1 ok_find ex_str ex_var) exg_name)
    (exs_ret (ex_if (ext_test (ex_chain ok_le ok_lt ex_int ex_var ex_var)) ex_var ex_non))))) h
theorem sc_Desk_back : FnScope ["self"] ["self"] (defScope (inClass (top 47) 4)) := ⟨rfl, rfl, rfl, by decide +kernel, rfl, by decide +kernel, by decide +kernel⟩
theorem ok_Desk_back (Z : Fx P w G T mg base) {f : Addr} {fd : FuncData} (Fd : Fun G.K "back" "Desk.back" (inClass (top 47) 4) f fd) :
    FnOk P w G.K mg base (L2.CX P w) 1 f fd ["self"] (spX G 1 f_Desk_back) := by
  obtain ⟨t_CLOSING, g_CLOSING⟩ := Z.i_CLOSING
  refine okXC Fd sc_Desk_back (fun vs H Q E h => h.1) (fun Ar outer s H vs Q E hr h => ?_)
  refine ⟨_, (pss_cons (ps_if (pt_cmpR (op_eqK (K := G.K) rfl (hu64 hr)) (pe_callB (call_lenK (K := G.K) rfl) (by rfl) Z.z_len boot_len (pa_cons (pe_fldK (K := G.K) rfl (pv 0) rfl) pa_nil)) pe_int (nomark _)) (pss_one (ps_raise rfl (takes_of rfl rfl rfl rfl) (pmk_own PySem.F.excBase_ValueError Z.e_BadStep.ex Z.e_BadStep.g Z.e_BadStep.kp (raises_own Z.e_BadStep.sub Z.e_BadStep.ty) (by rfl)))) pss_nil)
    (pss_cons (ps_expr (pe_bm0K' (K := G.K) rfl PySem.F.plainAttrs_list PySem.F.slot_list_pop PySem.F.type_list_pop mt_pop (pe_fldK (K := G.K) rfl (pv 0) rfl)))
    (pss_one (ps_if (pt_cmpR (op_eqK (K := G.K) rfl (hu64 hr)) (pe_bm0K' (K := G.K) rfl PySem.F.plainAttrs_list PySem.F.slot_list_pop PySem.F.type_list_pop mt_pop (pe_fldK (K := G.K) rfl (pv 0) rfl)) (pe_glob (v := .int (-1)) (by rfl) g_CLOSING ⟨_, rfl⟩) (nomark _)) (pss_one (ps_expr (pe_bmK (K := G.K) rfl PySem.F.plainAttrs_list PySem.F.slot_list_append PySem.F.type_list_append mt_append (pe_fldK (K := G.K) rfl (pv 0) rfl) (pa_cons (pe_bm0K' (K := G.K) rfl PySem.F.plainAttrs_list PySem.F.slot_list_pop PySem.F.type_list_pop mt_pop (pe_fldK (K := G.K) rfl (pv 0) rfl)) pa_nil)))) (pss_cons (ps_expr (pe_bm0K' (K := G.K) rfl PySem.F.plainAttrs_list PySem.F.slot_list_pop PySem.F.type_list_pop mt_pop (pe_fldK (K := G.K) rfl (pv 0) rfl)))
    (pss_one (ps_expr (pe_bm0K' (K := G.K) rfl PySem.F.plainAttrs_list PySem.F.slot_list_pop PySem.F.type_list_pop mt_pop (pe_fldK (K := G.K) rfl (pv 0) rfl))))))))), ?_⟩
  exact fn_of_ex (n := 1) (pad := 0) rfl ((exs_seq (exs_if (ext_test (ex_2 ok_eq (ex_cb ok_len (exa_cons (ex_fld Z.cl_Desk Z.na_Desk__tags ex_var) exa_nil)) ex_int)) exs_rz0 exs_next)
    (exs_seq (exs_drop (ex_bm0 (ok_pop Z.M) (ex_fld Z.cl_Desk Z.na_Desk__states ex_var)))
    (exs_if (ext_test (ex_2 ok_eq (ex_bm0 (ok_pop Z.M) (ex_fld Z.cl_Desk Z.na_Desk__tags ex_var)) ex_int)) (exs_drop (ex_bm (ok_append Z.M) (ex_fld Z.cl_Desk Z.na_Desk__left_open ex_var) (exa_cons (ex_bm0 (ok_pop Z.M) (ex_fld Z.cl_Desk Z.na_Desk__closed ex_var)) exa_nil))) (exs_seq (exs_drop (ex_bm0 (ok_pop Z.M) (ex_fld Z.cl_Desk Z.na_Desk__left_open ex_var)))
    (exs_drop (ex_bm0 (ok_pop Z.M) (ex_fld Z.cl_Desk Z.na_Desk__erred ex_var)))))))) h
theorem sc__law_pick : FnScope ["row", "things"] ["row", "things"] (defScope (top 50)) := ⟨rfl, rfl, rfl, by decide +kernel, rfl, by decide +kernel, by decide +kernel⟩
theorem ok__law_pick (Z : Fx P w G T mg base) {f : Addr} {fd : FuncData} (Fd : Fun G.K "_law_pick" "_law_pick" (top 50) f fd)
    {a__law_taken : Addr} {fd__law_taken : FuncData} (D__law_taken : DefX P w G mg base 1 "_law_taken" a__law_taken fd__law_taken ["row", "many"] [] 2 fTaken) :
    FnOk P w G.K mg base (L2.CX P w) 2 f fd ["row", "things"] (spX G 2 f__law_pick) := by
  refine okXC Fd sc__law_pick (fun vs H Q E h => h.1) (fun Ar outer s H vs Q E hr h => ?_)
  refine ⟨_, (pss_one (ps_ret (pe_ix (ix_K (K := G.K) rfl) (pv 1) (pe_call D__law_taken.ok (hr.mono (by decide)) (by rfl) D__law_taken.g D__law_taken.kp D__law_taken.b .nil (passes_call (takes_of rfl rfl rfl rfl) fun _ _ _ _ h => h) (pa_cons (pv 0) (pa_cons (pe_callB (call_lenK (K := G.K) rfl) (by rfl) Z.z_len boot_len (pa_cons (pv 1) pa_nil)) pa_nil))) (fun _ _ => rfl)))), ?_⟩
  exact fn_of_ex (n := 2) (pad := 0) rfl ((exs_ret (ex_2 ok_ix ex_var (ex_call (fun _ _ => imL_nil) (exa_cons ex_var (exa_cons (ex_cb ok_len (exa_cons ex_var exa_nil)) exa_nil)))))) h
theorem sc__law_read : FnScope ["reader", "tags", "state", "names", "found", "tag", "name", "told"] ["reader", "tags"] (defScope (top 57)) := ⟨rfl, rfl, rfl, by decide +kernel, rfl, by decide +kernel, by decide +kernel⟩
theorem ok__law_read (Z : Fx P w G T mg base) {f : Addr} {fd : FuncData} (Fd : Fun G.K "_law_read" "_law_read" (top 57) f fd) :
    FnOk P w G.K mg base (L2.CX P w) 1 f fd ["reader", "tags"] (spX G 2 f__law_read) := by
  refine okXC Fd sc__law_read (fun vs H Q E h => h.1) (fun Ar outer s H vs Q E hr h => ?_)
  refine ⟨_, (pss_cons (ps_par3 (by rfl) sc__law_read.nd (i := 2) (j := 3) (l := 4) rfl rfl rfl (by decide) (by decide) (by decide) rfl rfl rfl (pa_cons pe_int (pa_cons (pe_lst pa_nil) (pa_cons (pe_lst pa_nil) pa_nil))) (by rfl))
    (pss_cons (ps_for (passes_of rfl) rfl (pi_tupK (K := G.K) rfl (pv 1)) (pg_name (i := 5) sc__law_read.nd rfl (by first | exact Or.inl rfl | exact Or.inr rfl))
    (pss_one (ps_if (pt_cmpR op_lt (pv 5) pe_int (nomark _)) (pss_cons (ps_set (i := 6) sc__law_read.nd rfl (by first | exact Or.inl rfl | exact Or.inr rfl) (pe_bm0K' (K := G.K) rfl PySem.F.plainAttrs_list PySem.F.slot_list_pop PySem.F.type_list_pop mt_pop (pv 3)))
    (pss_one (ps_set (i := 2) sc__law_read.nd rfl (by first | exact Or.inl rfl | exact Or.inr rfl) (pe_ix (ix_K (K := G.K) rfl) (pe_ix (ix_K (K := G.K) rfl) (pe_ix (ix_K (K := G.K) rfl) (pv 0) pe_int (fun _ _ => rfl)) (pv 2) (fun _ _ => rfl)) (pe_ifExp (pt_cmpR op_gt (pe_callB (call_lenK (K := G.K) rfl) (by rfl) Z.z_len boot_len (pa_cons (pe_ix (ix_K (K := G.K) rfl) (pe_ix (ix_K (K := G.K) rfl) (pv 0) pe_int (fun _ _ => rfl)) (pv 2) (fun _ _ => rfl)) pa_nil)) pe_int (nomark _)) (pv 6) pe_int) (fun _ _ => rfl))))) (pss_cons (ps_expr (pe_bmK (K := G.K) rfl PySem.F.plainAttrs_list PySem.F.slot_list_append PySem.F.type_list_append mt_append (pv 3) (pa_cons (pv 5) pa_nil)))
    (pss_cons (ps_asg (pe_ix (ix_K (K := G.K) rfl) (pe_ix (ix_K (K := G.K) rfl) (pe_ix (ix_K (K := G.K) rfl) (pv 0) pe_int (fun _ _ => rfl)) (pv 2) (fun _ _ => rfl)) (pv 5) (fun _ _ => rfl)) (pg_tupK (K := G.K) (n := 2) rfl rfl (pgs_cons (pg_name (i := 2) sc__law_read.nd rfl (by first | exact Or.inl rfl | exact Or.inr rfl)) (pgs_cons (pg_name (i := 7) sc__law_read.nd rfl (by first | exact Or.inl rfl | exact Or.inr rfl)) pgs_nil))))
    (pss_one (ps_expr (pe_bmK (K := G.K) rfl PySem.F.plainAttrs_list PySem.F.slot_list_append PySem.F.type_list_append mt_append (pv 4) (pa_cons (pv 7) pa_nil)))))))))
    (pss_one (ps_ret (pe_tup (pa_cons (pv 4) (pa_cons (pv 2) pa_nil))))))), ?_⟩
  exact fn_of_ex (n := 2) (pad := 6) rfl ((exs_seq (exs_par3 (exa_cons ex_int (exa_cons (ex_lst Z.M exa_nil) (exa_cons (ex_lst Z.M exa_nil) exa_nil))))
    (exs_seq (exs_for (exi_tup ex_var) exg_name
    (exs_if (ext_test (ex_2 ok_lt ex_var ex_int)) (exs_seq (exs_asg (ex_bm0 (ok_pop Z.M) ex_var) exg_name)
    (exs_asg (ex_2 ok_ix (ex_2 ok_ix (ex_2 ok_ix ex_var ex_int) ex_var) (ex_if (ext_test (ex_2 ok_gt (ex_cb ok_len (exa_cons (ex_2 ok_ix (ex_2 ok_ix ex_var ex_int) ex_var) exa_nil)) ex_int)) ex_var ex_int)) exg_name)) (exs_seq (exs_drop (ex_bm (ok_append Z.M) ex_var (exa_cons ex_var exa_nil)))
    (exs_seq (exs_asg (ex_2 ok_ix (ex_2 ok_ix (ex_2 ok_ix ex_var ex_int) ex_var) ex_var) (exg_tup (exgs_cons exg_name (exgs_cons exg_name exgs_nil))))
    (exs_drop (ex_bm (ok_append Z.M) ex_var (exa_cons ex_var exa_nil)))))))
    (exs_ret (ex_tup Z.M (exa_cons ex_var (exa_cons ex_var exa_nil))))))) h
end
end Mx

/-! ### MkGT -/
set_option Elab.async false
set_option linter.all false
set_option maxRecDepth 100000
set_option maxHeartbeats 4000000
namespace Mx
open PySem PySem.Spec PyProof.Rows L2
open GxR (TabG Tabbed)
abbrev sTakenX : Stmt := top 49
theorem sc_taken : FnScope ["row", "many", "found", "cell"] ["row", "many"] (defScope sTakenX) := ⟨rfl, rfl, rfl, by decide +kernel, rfl, by decide +kernel, by decide +kernel⟩
theorem ok_takenX {P : Program} {w : World} {G : Gx} {T : List Addr} {mg : Str → Option Value} {base : Heap} (M : AmX G T) (zi : mg "int" = none) (zl : mg "len" = none) {f : Addr} {fd : FuncData} (F : Fun G.K "_law_taken" "_law_taken" sTakenX f fd) : FnOk P w G.K mg base (L2.CX P w) 1 f fd ["row", "many"] (spX G 2 fTaken) := by
  refine okXC F sc_taken (fun vs H Q E h => h.1) (fun Ar outer s H vs Q E hr h => ?_)
  refine ⟨_, pss_cons (ps_if (pt_cmpR op_gt (pe_ix ix_list (pv 0) pe_int (fun _ _ => rfl)) pe_int (nomark _))
      (pss_cons (ps_set (i := 2) sc_taken.nd rfl (Or.inl rfl) (pe_op op_mod (pe_callTy call_int1 (by rfl) zi boot_int' (pa_cons (pe_ix ix_list (pv 0) pe_int (fun _ _ => rfl)) pa_nil)) (pv 1)))
      (pss_cons (ps_asg (pe_op op_fdiv (pe_ix ix_list (pv 0) pe_int (fun _ _ => rfl)) (pv 1)) (pg_sub (pv 0) pe_int set_list))
      (pss_one (ps_ret (pv 2))))) pss_nil)
    (pss_cons (ps_asg (pe_op op_add (pe_ix ix_list (pv 0) pe_int (fun _ _ => rfl)) pe_int) (pg_sub (pv 0) pe_int set_list))
    (pss_cons (ps_if (pt_cmpR op_gt (pe_ix ix_list (pv 0) pe_int (fun _ _ => rfl)) (pe_callB call_len_seq (by rfl) zl boot_len (pa_cons (pe_ix ix_list (pv 0) pe_int (fun _ _ => rfl)) pa_nil)) (nomark _))
      (pss_cons (ps_asg (pe_op op_mod (pe_callTy call_int1 (by rfl) zi boot_int' (pa_cons (pe_op op_add (pe_op op_mul (pe_ix ix_list (pv 0) pe_int (fun _ _ => rfl)) pe_int) pe_int) pa_nil)) pe_int) (pg_sub (pv 0) pe_int set_list))
      (pss_one (ps_ret (pe_op op_mod (pe_callTy call_int1 (by rfl) zi boot_int' (pa_cons (pe_op op_fdiv (pe_ix ix_list (pv 0) pe_int (fun _ _ => rfl)) pe_int) pa_nil)) (pv 1))))) pss_nil)
    (pss_cons (ps_set (i := 3) sc_taken.nd rfl (Or.inl rfl) (pe_ix ix_list (pe_ix ix_list (pv 0) pe_int (fun _ _ => rfl)) (pe_op op_sub (pe_ix ix_list (pv 0) pe_int (fun _ _ => rfl)) pe_int) (fun _ _ => rfl)))
    (pss_cons (ps_asg (pe_op op_mod (pe_callTy call_int1 (by rfl) zi boot_int' (pa_cons (pe_op op_add (pe_op op_add (pe_op op_mul (pe_ix ix_list (pv 0) pe_int (fun _ _ => rfl)) pe_int) (pv 3)) pe_int) pa_nil)) pe_int) (pg_sub (pv 0) pe_int set_list))
    (pss_cons (ps_if (pt_cmpR op_ge (pv 3) (pe_op op_pow pe_int pe_int) (nomark _))
      (pss_one (ps_asg (pe_op op_fdiv (pv 3) (pv 1)) (pg_sub (pv 0) pe_int set_list))) pss_nil)
    (pss_one (ps_ret (pe_op op_mod (pe_callTy call_int1 (by rfl) zi boot_int' (pa_cons (pv 3) pa_nil)) (pv 1))))))))), ?_⟩
  obtain ⟨hl, ι, st, as, R, il, q⟩ := h
  obtain ⟨n, many, rfl, hst, m1, m2, q⟩ : ∃ n many, as = [.ref n, .int many] ∧ st[n]? = some .dr ∧ 1 ≤ many ∧ many < 1073741824 ∧ (Mx.R.draw many.toNat fun k => .ok (A.int k, st)).holds (PE1 G ι H Q) (PXx G ι H E) := by
    unfold fTaken at q
    split at q
    · split at q
      · rename_i hst
        split at q
        · rename_i hm
          exact ⟨_, _, rfl, hst, hm.1, hm.2, q⟩
        · exact q.elim
      · exact q.elim
    · exact q.elim
  obtain ⟨v1, v2, rfl, i1, i2⟩ := imL_2 il
  obtain ⟨r, hn, rfl⟩ := im_ref' i1
  rw [im_int' i2]
  obtain ⟨a, ns, i, x, y, hr0, ha, i0⟩ := R.ob n _ r hst hn
  have hm := List.mem_of_getElem? hn
  have mp : 0 < many := by omega
  have md : ∀ z : Int, 0 ≤ z % many ∧ z % many < many := fun z => ⟨Int.emod_nonneg _ (by omega), Int.emod_lt_of_pos _ mp⟩
  have fin : ∀ {H' : Hp} {i y z k : Int}, XS r H H' → H' r = some (.lst [.ref a, .int i, .int y, .int z]) → 0 ≤ i → 0 ≤ k → k < many → Q (.int k) H' := fun x h i0 k0 k1 => taken_end M R hn hst hr0 ha x h i0 k0 k1 q
  have s0 : ScrB G.K H r a (ns.map .int) := ScrAt.mk hm ha
  refine Mk.c_seq (Mk.c_if (Mk.c_Bv (Mk.v_opb (Mk.v_ixL (Mk.v_var rfl) Mk.v_c (SqL.of hr0) rfl) Mk.v_c) ?_))
  by_cases y0 : 0 < y
  · rw [decide_eq_true y0]
    refine iteT (Mk.c_seq (Mk.c_set (Mk.c_v (v_modX (v_intX (Mk.v_ixL (Mk.v_var rfl) Mk.v_c (SqL.of hr0) rfl)) (Mk.v_var rfl) mp) ?_)))
    dsimp only
    refine Mk.c_seq (Mk.c_asg (Mk.c_v (v_divX (Mk.v_ixL (Mk.v_var rfl) Mk.v_c (SqL.of hr0) rfl) (Mk.v_var rfl) mp m2) (c_setLX (Mk.v_var rfl) Mk.v_c hr0 (j := 3) rfl ?_)))
    dsimp only
    exact Mk.c_ret (Mk.c_var rfl (fin XS.upd upd_same i0 (md y).1 (md y).2))
  · rw [decide_eq_false y0]
    refine iteF (Mk.c_next ?_)
    dsimp only
    refine Mk.c_seq (Mk.c_asg (Mk.c_v (v_addX (Mk.v_ixL (Mk.v_var rfl) Mk.v_c (SqL.of hr0) rfl) Mk.v_c) (c_setLX (Mk.v_var rfl) Mk.v_c hr0 (j := 1) rfl ?_)))
    dsimp only
    have h1 : (upd H r (.lst ([V.ref a, .int i, .int x, .int y].set 1 (.int (i + 1))))) r = some (.lst [V.ref a, .int (i + 1), .int x, .int y]) := upd_same
    have x1 : XS r H (upd H r (.lst ([V.ref a, .int i, .int x, .int y].set 1 (.int (i + 1))))) := XS.upd
    generalize (upd H r (.lst ([V.ref a, .int i, .int x, .int y].set 1 (.int (i + 1))))) = H1 at h1 x1
    have s1 := ScrB.xs x1 s0
    refine Mk.c_seq (Mk.c_if (Mk.c_Bv (Mk.v_opb (Mk.v_ixL (Mk.v_var rfl) Mk.v_c (SqL.of h1) rfl) (Mk.v_len (Mk.v_ixL (Mk.v_var rfl) Mk.v_c (SqL.of h1) rfl) (.inl s1.sql))) ?_))
    rw [List.length_map]
    by_cases il : (ns.length : Int) < i + 1
    · rw [decide_eq_true il]
      refine iteT (Mk.c_seq (Mk.c_asg (Mk.c_v (v_modX (v_intX (v_addX (v_mulX (Mk.v_ixL (Mk.v_var rfl) Mk.v_c (SqL.of h1) rfl) Mk.v_c (.inr ⟨by decide, by decide⟩)) Mk.v_c)) Mk.v_c (by decide)) (c_setLX (Mk.v_var rfl) Mk.v_c h1 (j := 2) rfl ?_))))
      dsimp only
      have h2 : (upd H1 r (.lst ([V.ref a, .int (i + 1), .int x, .int y].set 2 (.int ((x * 48271 + 11) % 2147483647))))) r = some (.lst [V.ref a, .int (i + 1), .int ((x * 48271 + 11) % 2147483647), .int y]) := upd_same
      exact Mk.c_ret (Mk.c_v (v_modX (v_intX (v_divX (Mk.v_ixL (Mk.v_var rfl) Mk.v_c (SqL.of h2) rfl) Mk.v_c (by decide) (by decide))) (Mk.v_var rfl) mp) (fin (XS.trans x1 XS.upd) h2 (by omega) (md _).1 (md _).2))
    · rw [decide_eq_false il]
      refine iteF (Mk.c_next ?_)
      dsimp only
      have il2 : i.toNat < ns.length := by omega
      have hcell : atI (ns.map V.int) (i + 1 - 1) = some (.int (ns.getD i.toNat 0)) := by
        rw [show i + 1 - 1 = i by omega]
        exact atI_mapX i0 (by omega)
      generalize ns.getD i.toNat 0 = cell at hcell
      refine Mk.c_seq (Mk.c_set (Mk.c_v (Mk.v_ixL (Mk.v_ixL (Mk.v_var rfl) Mk.v_c (SqL.of h1) rfl) (v_subX (Mk.v_ixL (Mk.v_var rfl) Mk.v_c (SqL.of h1) rfl) Mk.v_c) s1.sql hcell) ?_))
      dsimp only
      refine Mk.c_seq (Mk.c_asg (Mk.c_v (v_modX (v_intX (v_addX (v_addX (v_mulX (Mk.v_ixL (Mk.v_var rfl) Mk.v_c (SqL.of h1) rfl) Mk.v_c (.inr ⟨by decide, by decide⟩)) (Mk.v_var rfl)) Mk.v_c)) Mk.v_c (by decide)) (c_setLX (Mk.v_var rfl) Mk.v_c h1 (j := 2) rfl ?_)))
      dsimp only
      have h2 : (upd H1 r (.lst ([V.ref a, .int (i + 1), .int x, .int y].set 2 (.int ((x * 48271 + cell + 11) % 2147483647))))) r = some (.lst [V.ref a, .int (i + 1), .int ((x * 48271 + cell + 11) % 2147483647), .int y]) := upd_same
      have x2 : XS r H (upd H1 r (.lst ([V.ref a, .int (i + 1), .int x, .int y].set 2 (.int ((x * 48271 + cell + 11) % 2147483647))))) := XS.trans x1 XS.upd
      generalize (upd H1 r (.lst ([V.ref a, .int (i + 1), .int x, .int y].set 2 (.int ((x * 48271 + cell + 11) % 2147483647))))) = H2 at h2 x2
      refine Mk.c_seq (Mk.c_if (Mk.c_Bv (Mk.v_opb (Mk.v_var rfl) (fun Q q => Mk.v_c _ (Mk.v_c _ ⟨10, 18, rfl, rfl, ⟨by decide, by decide, by decide⟩, q⟩))) ?_))
      by_cases big : (10 : Int) ^ (18 : Int).toNat ≤ cell
      · rw [decide_eq_true big]
        refine iteT (Mk.c_asg (Mk.c_v (v_divX (Mk.v_var rfl) (Mk.v_var rfl) mp m2) (c_setLX (Mk.v_var rfl) Mk.v_c h2 (j := 3) rfl ?_)))
        dsimp only
        exact Mk.c_ret (Mk.c_v (v_modX (v_intX (Mk.v_var rfl)) (Mk.v_var rfl) mp) (fin (XS.trans x2 XS.upd) upd_same (by omega) (md _).1 (md _).2))
      · rw [decide_eq_false big]
        refine iteF (Mk.c_next ?_)
        dsimp only
        exact Mk.c_ret (Mk.c_v (v_modX (v_intX (Mk.v_var rfl)) (Mk.v_var rfl) mp) (fin x2 h2 (by omega) (md _).1 (md _).2))
end Mx

/-! ### MkFD -/
set_option Elab.async false
set_option linter.all false
set_option maxRecDepth 100000
set_option maxHeartbeats 8000000
namespace Mx
open PySem PySem.Spec PyProof.Rows L2
section
variable {P : Program} {w w2 : World} {h : Heap} {K : PySem.W.Frag} {mg : Str → Option Value} {base : Heap}
theorem nT (c : Says HDl w h K) : tabP K ("law", none) ∉ gsT K := fun z => by
  obtain ⟨p, hp, e⟩ := List.mem_map.mp z
  exact of_decide_eq_true (List.all_eq_true.mp (He.ba c.ex).2 p hp) e.symm
theorem glo {x : Str} (X : K.In h) (Gn : h.Ns mainGlobals mg) (c : Says HDl w h K) (i : Nat) (hi : fas[i]? = some (.glo x) := by rfl) : mg x = some (.ref (He.ga K x)) := He.glo_ok X Gn (c.fact i hi)
theorem sc_init_BadLine : FnScope ["self", "line"] ["self", "line"] (defScope (inClass (top 12) 0)) := ⟨rfl, rfl, rfl, by decide +kernel, rfl, by decide +kernel, by decide +kernel⟩
theorem ok_init_BadLine {f C CM : Addr} {mc : Value} {fd : FuncData} (F : Fun K "__init__" "BadLine.__init__" (inClass (top 12) 0) f fd) (T : Mk.BaseT K mg "MarkError" CM mc) : FnOk P w K mg base CX0 2 f fd ["self", "line"] (Mk.spInit K C "line") := by
  refine F.ok sc_init_BadLine (fun vs H Q E h => ?_) (fun cdv A outer s H vs Q E hr h => ?_)
  · obtain ⟨a, v, rfl, _⟩ := h
    rfl
  · obtain ⟨a, v, rfl, hv, oe, hno, he, q⟩ := h
    refine ⟨_, pss_cons (ps_expr (Mk.pe_meinit T (by rfl) (pa_cons (pv 0) (pa_cons (pe_joined (.cons pe_str (.cons (Mk.pe_fmtN (pv 1)) .nil))) pa_nil)))) (pss_one (ps_ost (pv 0) (pv 1))), ?_⟩
    refine Mk.c_seq (Mk.c_drop ⟨_, rfl, _, rfl, by rw [sizeLine_eq]; decide +kernel, rd_fmt (Mk.v_var rfl) hv (by decide +kernel) fun out => ⟨a, C, _, rfl, by show 1 ≤ 1000; decide, oe, he, ?_⟩⟩)
    exact ⟨_, rfl, _, rfl, a, C, rfl, oe, hno, .inl ⟨he, fun dx n ne => q dx n ne⟩⟩
theorem er_BadLine (X : K.In h) (Gn : h.Ns mainGlobals mg) (c : Says HDl w h K) : ∃ fI fd, Er1 P w2 (GL K) mg base "BadLine" "line" 11 fI fd := by
  have hm : (11, ("line" : Str)) ∈ fldN := by decide
  have F := fun_of (show FunD K "__init__" "BadLine.__init__" (defArgs (inClass (top 12) 0)) (defBody (inClass (top 12) 0)) (defScope (inClass (top 12) 0)) [] [] (He.fAd K ("BadLine", some "__init__")) (fdOf K ("BadLine", some "__init__")) from c.fd 40)
  have M := He.meth_ok (c.fact 68)
  exact ⟨_, _, oexB_ok (exE_fld (He.ba c.ex).1 hm).1, M.1, eq_of_beq M.2, glo X Gn c 11, (xfF_ok (exE_fld (He.ba c.ex).1 hm).2).2, ok_init_BadLine F (baseB_ok (exE_base (He.ba c.ex).1) (glo X Gn c 0)), F.binds fun _ _ _ _ _ _ us hl => match us, hl with | [_, _], _ => rfl⟩
theorem sc_init_BadQuestion : FnScope ["self", "part"] ["self", "part"] (defScope (inClass (top 2) 0)) := ⟨rfl, rfl, rfl, by decide +kernel, rfl, by decide +kernel, by decide +kernel⟩
theorem ok_init_BadQuestion {f C CM : Addr} {mc : Value} {fd : FuncData} (F : Fun K "__init__" "BadQuestion.__init__" (inClass (top 2) 0) f fd) (T : Mk.BaseT K mg "MarkError" CM mc) : FnOk P w K mg base CX0 2 f fd ["self", "part"] (Mk.spInit K C "part") := by
  refine F.ok sc_init_BadQuestion (fun vs H Q E h => ?_) (fun cdv A outer s H vs Q E hr h => ?_)
  · obtain ⟨a, v, rfl, _⟩ := h
    rfl
  · obtain ⟨a, v, rfl, hv, oe, hno, he, q⟩ := h
    refine ⟨_, pss_cons (ps_expr (Mk.pe_meinit T (by rfl) (pa_cons (pv 0) (pa_cons (pe_joined (.cons pe_str (.cons (Mk.pe_fmtN (pv 1)) .nil))) pa_nil)))) (pss_one (ps_ost (pv 0) (pv 1))), ?_⟩
    refine Mk.c_seq (Mk.c_drop ⟨_, rfl, _, rfl, by rw [sizeLine_eq]; decide +kernel, rd_fmt (Mk.v_var rfl) hv (by decide +kernel) fun out => ⟨a, C, _, rfl, by show 1 ≤ 1000; decide, oe, he, ?_⟩⟩)
    exact ⟨_, rfl, _, rfl, a, C, rfl, oe, hno, .inl ⟨he, fun dx n ne => q dx n ne⟩⟩
theorem er_BadQuestion (X : K.In h) (Gn : h.Ns mainGlobals mg) (c : Says HDl w h K) : ∃ fI fd, Er1 P w2 (GL K) mg base "BadQuestion" "part" 1 fI fd := by
  have hm : (1, ("part" : Str)) ∈ fldN := by decide
  have F := fun_of (show FunD K "__init__" "BadQuestion.__init__" (defArgs (inClass (top 2) 0)) (defBody (inClass (top 2) 0)) (defScope (inClass (top 2) 0)) [] [] (He.fAd K ("BadQuestion", some "__init__")) (fdOf K ("BadQuestion", some "__init__")) from c.fd 41)
  have M := He.meth_ok (c.fact 69)
  exact ⟨_, _, oexB_ok (exE_fld (He.ba c.ex).1 hm).1, M.1, eq_of_beq M.2, glo X Gn c 1, (xfF_ok (exE_fld (He.ba c.ex).1 hm).2).2, ok_init_BadQuestion F (baseB_ok (exE_base (He.ba c.ex).1) (glo X Gn c 0)), F.binds fun _ _ _ _ _ _ us hl => match us, hl with | [_, _], _ => rfl⟩
theorem sc_init_BadReader : FnScope ["self", "part"] ["self", "part"] (defScope (inClass (top 3) 0)) := ⟨rfl, rfl, rfl, by decide +kernel, rfl, by decide +kernel, by decide +kernel⟩
theorem ok_init_BadReader {f C CM : Addr} {mc : Value} {fd : FuncData} (F : Fun K "__init__" "BadReader.__init__" (inClass (top 3) 0) f fd) (T : Mk.BaseT K mg "MarkError" CM mc) : FnOk P w K mg base CX0 2 f fd ["self", "part"] (Mk.spInit K C "part") := by
  refine F.ok sc_init_BadReader (fun vs H Q E h => ?_) (fun cdv A outer s H vs Q E hr h => ?_)
  · obtain ⟨a, v, rfl, _⟩ := h
    rfl
  · obtain ⟨a, v, rfl, hv, oe, hno, he, q⟩ := h
    refine ⟨_, pss_cons (ps_expr (Mk.pe_meinit T (by rfl) (pa_cons (pv 0) (pa_cons (pe_joined (.cons pe_str (.cons (Mk.pe_fmtN (pv 1)) .nil))) pa_nil)))) (pss_one (ps_ost (pv 0) (pv 1))), ?_⟩
    refine Mk.c_seq (Mk.c_drop ⟨_, rfl, _, rfl, by rw [sizeLine_eq]; decide +kernel, rd_fmt (Mk.v_var rfl) hv (by decide +kernel) fun out => ⟨a, C, _, rfl, by show 1 ≤ 1000; decide, oe, he, ?_⟩⟩)
    exact ⟨_, rfl, _, rfl, a, C, rfl, oe, hno, .inl ⟨he, fun dx n ne => q dx n ne⟩⟩
theorem er_BadReader (X : K.In h) (Gn : h.Ns mainGlobals mg) (c : Says HDl w h K) : ∃ fI fd, Er1 P w2 (GL K) mg base "BadReader" "part" 2 fI fd := by
  have hm : (2, ("part" : Str)) ∈ fldN := by decide
  have F := fun_of (show FunD K "__init__" "BadReader.__init__" (defArgs (inClass (top 3) 0)) (defBody (inClass (top 3) 0)) (defScope (inClass (top 3) 0)) [] [] (He.fAd K ("BadReader", some "__init__")) (fdOf K ("BadReader", some "__init__")) from c.fd 42)
  have M := He.meth_ok (c.fact 70)
  exact ⟨_, _, oexB_ok (exE_fld (He.ba c.ex).1 hm).1, M.1, eq_of_beq M.2, glo X Gn c 2, (xfF_ok (exE_fld (He.ba c.ex).1 hm).2).2, ok_init_BadReader F (baseB_ok (exE_base (He.ba c.ex).1) (glo X Gn c 0)), F.binds fun _ _ _ _ _ _ us hl => match us, hl with | [_, _], _ => rfl⟩
theorem sc_init_TooMany : FnScope ["self", "most"] ["self", "most"] (defScope (inClass (top 14) 0)) := ⟨rfl, rfl, rfl, by decide +kernel, rfl, by decide +kernel, by decide +kernel⟩
theorem ok_init_TooMany {f C CM : Addr} {mc : Value} {fd : FuncData} (F : Fun K "__init__" "TooMany.__init__" (inClass (top 14) 0) f fd) (T : Mk.BaseT K mg "MarkError" CM mc) : FnOk P w K mg base CX0 2 f fd ["self", "most"] (Mk.spInit K C "most") := by
  refine F.ok sc_init_TooMany (fun vs H Q E h => ?_) (fun cdv A outer s H vs Q E hr h => ?_)
  · obtain ⟨a, v, rfl, _⟩ := h
    rfl
  · obtain ⟨a, v, rfl, hv, oe, hno, he, q⟩ := h
    refine ⟨_, pss_cons (ps_expr (Mk.pe_meinit T (by rfl) (pa_cons (pv 0) (pa_cons (pe_joined (.cons pe_str (.cons (Mk.pe_fmtN (pv 1)) .nil))) pa_nil)))) (pss_one (ps_ost (pv 0) (pv 1))), ?_⟩
    refine Mk.c_seq (Mk.c_drop ⟨_, rfl, _, rfl, by rw [sizeLine_eq]; decide +kernel, rd_fmt (Mk.v_var rfl) hv (by decide +kernel) fun out => ⟨a, C, _, rfl, by show 1 ≤ 1000; decide, oe, he, ?_⟩⟩)
    exact ⟨_, rfl, _, rfl, a, C, rfl, oe, hno, .inl ⟨he, fun dx n ne => q dx n ne⟩⟩
theorem er_TooMany (X : K.In h) (Gn : h.Ns mainGlobals mg) (c : Says HDl w h K) : ∃ fI fd, Er1 P w2 (GL K) mg base "TooMany" "most" 13 fI fd := by
  have hm : (13, ("most" : Str)) ∈ fldN := by decide
  have F := fun_of (show FunD K "__init__" "TooMany.__init__" (defArgs (inClass (top 14) 0)) (defBody (inClass (top 14) 0)) (defScope (inClass (top 14) 0)) [] [] (He.fAd K ("TooMany", some "__init__")) (fdOf K ("TooMany", some "__init__")) from c.fd 43)
  have M := He.meth_ok (c.fact 71)
  exact ⟨_, _, oexB_ok (exE_fld (He.ba c.ex).1 hm).1, M.1, eq_of_beq M.2, glo X Gn c 13, (xfF_ok (exE_fld (He.ba c.ex).1 hm).2).2, ok_init_TooMany F (baseB_ok (exE_base (He.ba c.ex).1) (glo X Gn c 0)), F.binds fun _ _ _ _ _ _ us hl => match us, hl with | [_, _], _ => rfl⟩
theorem er_BadManner (X : K.In h) (Gn : h.Ns mainGlobals mg) (c : Says HDl w h K) : Er0 (GL K) mg "BadManner" 3 := by
  have E := He.exc_ok (c.fact 66)
  exact ⟨E.1, E.2.1, glo X Gn c 3, E.2.2.1, E.2.2.2⟩
theorem er_BadStep (X : K.In h) (Gn : h.Ns mainGlobals mg) (c : Says HDl w h K) : Er0 (GL K) mg "BadStep" 12 := by
  have E := He.exc_ok (c.fact 67)
  exact ⟨E.1, E.2.1, glo X Gn c 12, E.2.2.1, E.2.2.2⟩
theorem wordX (X : K.In h) (Gn : h.Ns mainGlobals mg) (c : Says HDl w h K) : WordX (GL K) mg where
  g0 := glo X Gn c 0
  g1 := glo X Gn c 1
  g2 := glo X Gn c 2
  g3 := glo X Gn c 3
  g4 := glo X Gn c 4
  g5 := glo X Gn c 5
  g6 := glo X Gn c 6
  g7 := glo X Gn c 7
  g8 := glo X Gn c 8
  g9 := glo X Gn c 9
  g10 := glo X Gn c 10
  g11 := glo X Gn c 11
  g12 := glo X Gn c 12
  g13 := glo X Gn c 13
  ex := fun i a b => isB_ok (exE_is (He.ba c.ex).1 i a b)
  x1 := xfF_ok (exE_fld (He.ba c.ex).1 (by decide)).2
  x5 := xfF_ok (exE_fld (He.ba c.ex).1 (by decide)).2
  x13 := xfF_ok (exE_fld (He.ba c.ex).1 (by decide)).2
theorem fx (X : K.In h) (Gn : h.Ns mainGlobals mg) (c : Says HDl w h K) : Fx P w2 (GL K) (gsT K) mg base where
  M := amX_of (nT c)
  z_all := He.free_ok X Gn (c.fact 47)
  z_bool := He.free_ok X Gn (c.fact 48)
  z_enumerate := He.free_ok X Gn (c.fact 49)
  z_int := He.free_ok X Gn (c.fact 50)
  z_isinstance := He.free_ok X Gn (c.fact 51)
  z_len := He.free_ok X Gn (c.fact 52)
  z_list := He.free_ok X Gn (c.fact 53)
  z_range := He.free_ok X Gn (c.fact 54)
  z_str := He.free_ok X Gn (c.fact 55)
  z_tuple := He.free_ok X Gn (c.fact 56)
  i_CLOSING := He.int_ok X Gn (c.fact 57)
  i_MOST_LENGTH := He.int_ok X Gn (c.fact 58)
  i_MOST_NAMES := He.int_ok X Gn (c.fact 59)
  i_MOST_STATES := He.int_ok X Gn (c.fact 60)
  s_BLIND := He.str_ok X Gn (c.fact 61)
  s_CLOSING_SIGN := He.str_ok X Gn (c.fact 62)
  s_DONE := He.str_ok X Gn (c.fact 63)
  s_NAMED := He.str_ok X Gn (c.fact 64)
  s_SIGNS := He.str_ok X Gn (c.fact 65)
  e_BadManner := er_BadManner X Gn c
  e_BadStep := er_BadStep X Gn c
  e_BadLine := er_BadLine X Gn c
  e_BadQuestion := er_BadQuestion X Gn c
  e_BadReader := er_BadReader X Gn c
  e_TooMany := er_TooMany X Gn c
  wd := wordX X Gn c
  g_Desk := glo X Gn c 72
  mkA_Desk := (He.mkr_ok (c.fact 74)).1
  kp_Desk := He.keep_ok (c.fact 75)
  cl_Desk := He.cls_ok (c.fact 73)
  na_Desk__closed := He.noat_ok (c.fact 76)
  na_Desk__erred := He.noat_ok (c.fact 77)
  na_Desk__left_open := He.noat_ok (c.fact 78)
  na_Desk__manner := He.noat_ok (c.fact 79)
  na_Desk__question := He.noat_ok (c.fact 80)
  na_Desk__reader := He.noat_ok (c.fact 81)
  na_Desk__states := He.noat_ok (c.fact 82)
  na_Desk__tags := He.noat_ok (c.fact 83)
theorem D__law_taken (X : K.In h) (Gn : h.Ns mainGlobals mg) (c : Says HDl w h K) (TB : ∀ p ∈ tfs, LamX.TabB base mg (He.cT K p).1 (He.cT K p).2) : DefX P w2 (GL K) mg base 1 "_law_taken" (He.fAd K ("_law_taken", none)) (fdOf K ("_law_taken", none)) ["row", "many"] [] 2 fTaken := by
  have F := fun_of (show FunD K "_law_taken" "_law_taken" (defArgs (top 49)) (defBody (top 49)) (defScope (top 49)) [] [] (He.fAd K ("_law_taken", none)) (fdOf K ("_law_taken", none)) from c.fd 0)
  have b : Binds K (fdOf K ("_law_taken", none)) ["row", "many"] [] := F.binds fun _ _ _ _ _ _ us hl => match us, hl with | [_, _], _ => rfl
  exact ⟨ok_takenX (fx (P := P) (w2 := w2) (base := base) X Gn c).M (fx (P := P) (w2 := w2) (base := base) X Gn c).z_int (fx (P := P) (w2 := w2) (base := base) X Gn c).z_len F, F.kp, b, glo X Gn c 14, [], .nil, b⟩
theorem D_is_number (X : K.In h) (Gn : h.Ns mainGlobals mg) (c : Says HDl w h K) (TB : ∀ p ∈ tfs, LamX.TabB base mg (He.cT K p).1 (He.cT K p).2) : DefX P w2 (GL K) mg base 1 "is_number" (He.fAd K ("is_number", none)) (fdOf K ("is_number", none)) ["value", "least", "most"] [] 3 f_is_number := by
  have F := fun_of (show FunD K "is_number" "is_number" (defArgs (top 19)) (defBody (top 19)) (defScope (top 19)) [] [] (He.fAd K ("is_number", none)) (fdOf K ("is_number", none)) from c.fd 1)
  have b : Binds K (fdOf K ("is_number", none)) ["value", "least", "most"] [] := F.binds fun _ _ _ _ _ _ us hl => match us, hl with | [_, _, _], _ => rfl
  exact ⟨ok_is_number (fx X Gn c) F , F.kp, b, glo X Gn c 15, [], .nil, b⟩
theorem D_is_tuple_of (X : K.In h) (Gn : h.Ns mainGlobals mg) (c : Says HDl w h K) (TB : ∀ p ∈ tfs, LamX.TabB base mg (He.cT K p).1 (He.cT K p).2) : DefX P w2 (GL K) mg base 1 "is_tuple_of" (He.fAd K ("is_tuple_of", none)) (fdOf K ("is_tuple_of", none)) ["value", "least", "most"] [] 3 f_is_tuple_of := by
  have F := fun_of (show FunD K "is_tuple_of" "is_tuple_of" (defArgs (top 20)) (defBody (top 20)) (defScope (top 20)) [] [] (He.fAd K ("is_tuple_of", none)) (fdOf K ("is_tuple_of", none)) from c.fd 2)
  have b : Binds K (fdOf K ("is_tuple_of", none)) ["value", "least", "most"] [] := F.binds fun _ _ _ _ _ _ us hl => match us, hl with | [_, _, _], _ => rfl
  exact ⟨ok_is_tuple_of (fx X Gn c) F , F.kp, b, glo X Gn c 16, [], .nil, b⟩
theorem D_are_numbers (X : K.In h) (Gn : h.Ns mainGlobals mg) (c : Says HDl w h K) (TB : ∀ p ∈ tfs, LamX.TabB base mg (He.cT K p).1 (He.cT K p).2) : DefX P w2 (GL K) mg base 3 "are_numbers" (He.fAd K ("are_numbers", none)) (fdOf K ("are_numbers", none)) ["value", "many", "most"] [] 3 f_are_numbers := by
  have F := (show FunD K "are_numbers" "are_numbers" (defArgs (top 21)) (defBody (top 21)) (defScope (top 21)) [] [] (He.fAd K ("are_numbers", none)) (fdOf K ("are_numbers", none)) from c.fd 3)
  have b : Binds K (fdOf K ("are_numbers", none)) ["value", "many", "most"] [] := (fun_of F).binds fun _ _ _ _ _ _ us hl => match us, hl with | [_, _, _], _ => rfl
  exact ⟨ok_are_numbers (fx X Gn c) (fun_of F) (D_is_tuple_of X Gn c TB) (D_is_number X Gn c TB) (hT := List.mem_of_getElem? (i := 0) rfl) (O := own_ofX F (TB _ (List.mem_of_getElem? (i := 1) rfl))), (fun_of F).kp, b, glo X Gn c 17, [], .nil, b⟩
theorem D_are_steps (X : K.In h) (Gn : h.Ns mainGlobals mg) (c : Says HDl w h K) (TB : ∀ p ∈ tfs, LamX.TabB base mg (He.cT K p).1 (He.cT K p).2) : DefX P w2 (GL K) mg base 5 "are_steps" (He.fAd K ("are_steps", none)) (fdOf K ("are_steps", none)) ["value"] [] 1 f_are_steps := by
  have F := (show FunD K "are_steps" "are_steps" (defArgs (top 22)) (defBody (top 22)) (defScope (top 22)) [] [] (He.fAd K ("are_steps", none)) (fdOf K ("are_steps", none)) from c.fd 4)
  have b : Binds K (fdOf K ("are_steps", none)) ["value"] [] := (fun_of F).binds fun _ _ _ _ _ _ us hl => match us, hl with | [_], _ => rfl
  exact ⟨ok_are_steps (fx X Gn c) (fun_of F) (D_is_tuple_of X Gn c TB) (D_are_numbers X Gn c TB) (hT := List.mem_of_getElem? (i := 1) rfl) (O := own_ofX F (TB _ (List.mem_of_getElem? (i := 2) rfl))), (fun_of F).kp, b, glo X Gn c 18, [], .nil, b⟩
theorem D_check_question (X : K.In h) (Gn : h.Ns mainGlobals mg) (c : Says HDl w h K) (TB : ∀ p ∈ tfs, LamX.TabB base mg (He.cT K p).1 (He.cT K p).2) : DefX P w2 (GL K) mg base 6 "check_question" (He.fAd K ("check_question", none)) (fdOf K ("check_question", none)) ["value"] [] 1 f_check_question := by
  have F := fun_of (show FunD K "check_question" "check_question" (defArgs (top 23)) (defBody (top 23)) (defScope (top 23)) [] [] (He.fAd K ("check_question", none)) (fdOf K ("check_question", none)) from c.fd 5)
  have b : Binds K (fdOf K ("check_question", none)) ["value"] [] := F.binds fun _ _ _ _ _ _ us hl => match us, hl with | [_], _ => rfl
  exact ⟨ok_check_question (fx X Gn c) F (D_is_tuple_of X Gn c TB) (D_are_steps X Gn c TB) (D_are_numbers X Gn c TB), F.kp, b, glo X Gn c 19, [], .nil, b⟩
theorem D_names_of (X : K.In h) (Gn : h.Ns mainGlobals mg) (c : Says HDl w h K) (TB : ∀ p ∈ tfs, LamX.TabB base mg (He.cT K p).1 (He.cT K p).2) : DefX P w2 (GL K) mg base 1 "names_of" (He.fAd K ("names_of", none)) (fdOf K ("names_of", none)) ["question"] [] 1 f_names_of := by
  have F := fun_of (show FunD K "names_of" "names_of" (defArgs (top 24)) (defBody (top 24)) (defScope (top 24)) [] [] (He.fAd K ("names_of", none)) (fdOf K ("names_of", none)) from c.fd 6)
  have b : Binds K (fdOf K ("names_of", none)) ["question"] [] := F.binds fun _ _ _ _ _ _ us hl => match us, hl with | [_], _ => rfl
  exact ⟨ok_names_of (fx X Gn c) F , F.kp, b, glo X Gn c 20, [], .nil, b⟩
theorem D_check_manner (X : K.In h) (Gn : h.Ns mainGlobals mg) (c : Says HDl w h K) (TB : ∀ p ∈ tfs, LamX.TabB base mg (He.cT K p).1 (He.cT K p).2) : DefX P w2 (GL K) mg base 1 "check_manner" (He.fAd K ("check_manner", none)) (fdOf K ("check_manner", none)) ["value"] [] 1 f_check_manner := by
  have F := fun_of (show FunD K "check_manner" "check_manner" (defArgs (top 29)) (defBody (top 29)) (defScope (top 29)) [] [] (He.fAd K ("check_manner", none)) (fdOf K ("check_manner", none)) from c.fd 7)
  have b : Binds K (fdOf K ("check_manner", none)) ["value"] [] := F.binds fun _ _ _ _ _ _ us hl => match us, hl with | [_], _ => rfl
  exact ⟨ok_check_manner (fx X Gn c) F , F.kp, b, glo X Gn c 21, [], .nil, b⟩
theorem D_is_pair (X : K.In h) (Gn : h.Ns mainGlobals mg) (c : Says HDl w h K) (TB : ∀ p ∈ tfs, LamX.TabB base mg (He.cT K p).1 (He.cT K p).2) : DefX P w2 (GL K) mg base 2 "is_pair" (He.fAd K ("is_pair", none)) (fdOf K ("is_pair", none)) ["value", "last"] [] 2 f_is_pair := by
  have F := fun_of (show FunD K "is_pair" "is_pair" (defArgs (top 30)) (defBody (top 30)) (defScope (top 30)) [] [] (He.fAd K ("is_pair", none)) (fdOf K ("is_pair", none)) from c.fd 8)
  have b : Binds K (fdOf K ("is_pair", none)) ["value", "last"] [] := F.binds fun _ _ _ _ _ _ us hl => match us, hl with | [_, _], _ => rfl
  exact ⟨ok_is_pair (fx X Gn c) F (D_is_tuple_of X Gn c TB) (D_is_number X Gn c TB), F.kp, b, glo X Gn c 22, [], .nil, b⟩
theorem D_are_pairs (X : K.In h) (Gn : h.Ns mainGlobals mg) (c : Says HDl w h K) (TB : ∀ p ∈ tfs, LamX.TabB base mg (He.cT K p).1 (He.cT K p).2) : DefX P w2 (GL K) mg base 4 "are_pairs" (He.fAd K ("are_pairs", none)) (fdOf K ("are_pairs", none)) ["value", "names", "last"] [] 3 f_are_pairs := by
  have F := (show FunD K "are_pairs" "are_pairs" (defArgs (top 31)) (defBody (top 31)) (defScope (top 31)) [] [] (He.fAd K ("are_pairs", none)) (fdOf K ("are_pairs", none)) from c.fd 9)
  have b : Binds K (fdOf K ("are_pairs", none)) ["value", "names", "last"] [] := (fun_of F).binds fun _ _ _ _ _ _ us hl => match us, hl with | [_, _, _], _ => rfl
  exact ⟨ok_are_pairs (fx X Gn c) (fun_of F) (D_is_tuple_of X Gn c TB) (D_is_pair X Gn c TB) (hT := List.mem_of_getElem? (i := 2) rfl) (O := own_ofX F (TB _ (List.mem_of_getElem? (i := 3) rfl))), (fun_of F).kp, b, glo X Gn c 23, [], .nil, b⟩
theorem D_are_opens (X : K.In h) (Gn : h.Ns mainGlobals mg) (c : Says HDl w h K) (TB : ∀ p ∈ tfs, LamX.TabB base mg (He.cT K p).1 (He.cT K p).2) : DefX P w2 (GL K) mg base 6 "are_opens" (He.fAd K ("are_opens", none)) (fdOf K ("are_opens", none)) ["value", "names", "most"] [] 3 f_are_opens := by
  have F := (show FunD K "are_opens" "are_opens" (defArgs (top 32)) (defBody (top 32)) (defScope (top 32)) [] [] (He.fAd K ("are_opens", none)) (fdOf K ("are_opens", none)) from c.fd 10)
  have b : Binds K (fdOf K ("are_opens", none)) ["value", "names", "most"] [] := (fun_of F).binds fun _ _ _ _ _ _ us hl => match us, hl with | [_, _, _], _ => rfl
  exact ⟨ok_are_opens (fx X Gn c) (fun_of F) (D_is_tuple_of X Gn c TB) (D_are_pairs X Gn c TB) (hT := List.mem_of_getElem? (i := 3) rfl) (O := own_ofX F (TB _ (List.mem_of_getElem? (i := 4) rfl))), (fun_of F).kp, b, glo X Gn c 24, [], .nil, b⟩
theorem D_are_closes (X : K.In h) (Gn : h.Ns mainGlobals mg) (c : Says HDl w h K) (TB : ∀ p ∈ tfs, LamX.TabB base mg (He.cT K p).1 (He.cT K p).2) : DefX P w2 (GL K) mg base 5 "are_closes" (He.fAd K ("are_closes", none)) (fdOf K ("are_closes", none)) ["value", "states", "ways"] [] 3 f_are_closes := by
  have F := (show FunD K "are_closes" "are_closes" (defArgs (top 33)) (defBody (top 33)) (defScope (top 33)) [] [] (He.fAd K ("are_closes", none)) (fdOf K ("are_closes", none)) from c.fd 11)
  have b : Binds K (fdOf K ("are_closes", none)) ["value", "states", "ways"] [] := (fun_of F).binds fun _ _ _ _ _ _ us hl => match us, hl with | [_, _, _], _ => rfl
  exact ⟨ok_are_closes (fx X Gn c) (fun_of F) (D_is_tuple_of X Gn c TB) (D_are_numbers X Gn c TB) (hT := List.mem_of_getElem? (i := 4) rfl) (O := own_ofX F (TB _ (List.mem_of_getElem? (i := 5) rfl))), (fun_of F).kp, b, glo X Gn c 25, [], .nil, b⟩
theorem D_ways_to_close (X : K.In h) (Gn : h.Ns mainGlobals mg) (c : Says HDl w h K) (TB : ∀ p ∈ tfs, LamX.TabB base mg (He.cT K p).1 (He.cT K p).2) : DefX P w2 (GL K) mg base 1 "ways_to_close" (He.fAd K ("ways_to_close", none)) (fdOf K ("ways_to_close", none)) ["names", "manner"] [] 2 f_ways_to_close := by
  have F := fun_of (show FunD K "ways_to_close" "ways_to_close" (defArgs (top 34)) (defBody (top 34)) (defScope (top 34)) [] [] (He.fAd K ("ways_to_close", none)) (fdOf K ("ways_to_close", none)) from c.fd 12)
  have b : Binds K (fdOf K ("ways_to_close", none)) ["names", "manner"] [] := F.binds fun _ _ _ _ _ _ us hl => match us, hl with | [_, _], _ => rfl
  exact ⟨ok_ways_to_close (fx X Gn c) F , F.kp, b, glo X Gn c 26, [], .nil, b⟩
theorem D_wrong_part (X : K.In h) (Gn : h.Ns mainGlobals mg) (c : Says HDl w h K) (TB : ∀ p ∈ tfs, LamX.TabB base mg (He.cT K p).1 (He.cT K p).2) : DefX P w2 (GL K) mg base 7 "wrong_part" (He.fAd K ("wrong_part", none)) (fdOf K ("wrong_part", none)) ["names", "manner", "value", "most"] [V.int (6)] 4 f_wrong_part := by
  have F := (show FunD K "wrong_part" "wrong_part" (defArgs (top 35)) (defBody (top 35)) (defScope (top 35)) [V.int (6)] [] (He.fAd K ("wrong_part", none)) (fdOf K ("wrong_part", none)) from c.fd 13)
  have b : Binds K (fdOf K ("wrong_part", none)) ["names", "manner", "value", "most"] [] := by
    obtain ⟨ds, hv, hb⟩ := F.binds1 (ps := ["names", "manner", "value", "most"]) 4 1 (by decide) rfl (fun _ _ _ _ _ _ _ us its hl hi => match us, hl, its, hi with | [_, _, _, _], _, [_], _ => ⟨_, rfl, by kernel_rfl⟩)
    cases (show Vals [] ds from hv)
    exact hb
  have bd := F.binds1 (ps := ["names", "manner", "value", "most"]) 3 0 (by decide) rfl (fun _ _ _ _ _ _ _ us its hl hi => match us, hl, its, hi with | [_, _, _], _, [_], _ => ⟨_, rfl, by kernel_rfl⟩)
  exact ⟨ok_wrong_part (fx X Gn c) F (D_is_tuple_of X Gn c TB) (D_are_opens X Gn c TB) (D_are_closes X Gn c TB) (D_ways_to_close X Gn c TB), F.kp, b, glo X Gn c 27, bd⟩
theorem D_check_reader (X : K.In h) (Gn : h.Ns mainGlobals mg) (c : Says HDl w h K) (TB : ∀ p ∈ tfs, LamX.TabB base mg (He.cT K p).1 (He.cT K p).2) : DefX P w2 (GL K) mg base 8 "check_reader" (He.fAd K ("check_reader", none)) (fdOf K ("check_reader", none)) ["names", "manner", "value", "most"] [V.int (6)] 4 f_check_reader := by
  have F := (show FunD K "check_reader" "check_reader" (defArgs (top 36)) (defBody (top 36)) (defScope (top 36)) [V.int (6)] [] (He.fAd K ("check_reader", none)) (fdOf K ("check_reader", none)) from c.fd 14)
  have b : Binds K (fdOf K ("check_reader", none)) ["names", "manner", "value", "most"] [] := by
    obtain ⟨ds, hv, hb⟩ := F.binds1 (ps := ["names", "manner", "value", "most"]) 4 1 (by decide) rfl (fun _ _ _ _ _ _ _ us its hl hi => match us, hl, its, hi with | [_, _, _, _], _, [_], _ => ⟨_, rfl, by kernel_rfl⟩)
    cases (show Vals [] ds from hv)
    exact hb
  have bd := F.binds1 (ps := ["names", "manner", "value", "most"]) 3 0 (by decide) rfl (fun _ _ _ _ _ _ _ us its hl hi => match us, hl, its, hi with | [_, _, _], _, [_], _ => ⟨_, rfl, by kernel_rfl⟩)
  exact ⟨ok_check_reader (fx X Gn c) F (D_wrong_part X Gn c TB), F.kp, b, glo X Gn c 28, bd⟩
theorem D_check_reading (X : K.In h) (Gn : h.Ns mainGlobals mg) (c : Says HDl w h K) (TB : ∀ p ∈ tfs, LamX.TabB base mg (He.cT K p).1 (He.cT K p).2) : DefX P w2 (GL K) mg base 9 "check_reading" (He.fAd K ("check_reading", none)) (fdOf K ("check_reading", none)) ["question", "manner", "reader", "most"] [V.int (6)] 4 f_check_reading := by
  have F := (show FunD K "check_reading" "check_reading" (defArgs (top 37)) (defBody (top 37)) (defScope (top 37)) [V.int (6)] [] (He.fAd K ("check_reading", none)) (fdOf K ("check_reading", none)) from c.fd 15)
  have b : Binds K (fdOf K ("check_reading", none)) ["question", "manner", "reader", "most"] [] := by
    obtain ⟨ds, hv, hb⟩ := F.binds1 (ps := ["question", "manner", "reader", "most"]) 4 1 (by decide) rfl (fun _ _ _ _ _ _ _ us its hl hi => match us, hl, its, hi with | [_, _, _, _], _, [_], _ => ⟨_, rfl, by kernel_rfl⟩)
    cases (show Vals [] ds from hv)
    exact hb
  have bd := F.binds1 (ps := ["question", "manner", "reader", "most"]) 3 0 (by decide) rfl (fun _ _ _ _ _ _ _ us its hl hi => match us, hl, its, hi with | [_, _, _], _, [_], _ => ⟨_, rfl, by kernel_rfl⟩)
  exact ⟨ok_check_reading (fx X Gn c) F (D_check_question X Gn c TB) (D_check_manner X Gn c TB) (D_check_reader X Gn c TB) (D_names_of X Gn c TB), F.kp, b, glo X Gn c 29, bd⟩
theorem D_behind_closing (X : K.In h) (Gn : h.Ns mainGlobals mg) (c : Says HDl w h K) (TB : ∀ p ∈ tfs, LamX.TabB base mg (He.cT K p).1 (He.cT K p).2) : DefX P w2 (GL K) mg base 1 "behind_closing" (He.fAd K ("behind_closing", none)) (fdOf K ("behind_closing", none)) ["manner", "reader", "state", "name"] [] 4 f_behind_closing := by
  have F := fun_of (show FunD K "behind_closing" "behind_closing" (defArgs (top 38)) (defBody (top 38)) (defScope (top 38)) [] [] (He.fAd K ("behind_closing", none)) (fdOf K ("behind_closing", none)) from c.fd 16)
  have b : Binds K (fdOf K ("behind_closing", none)) ["manner", "reader", "state", "name"] [] := F.binds fun _ _ _ _ _ _ us hl => match us, hl with | [_, _, _, _], _ => rfl
  exact ⟨ok_behind_closing (fx X Gn c) F , F.kp, b, glo X Gn c 30, [], .nil, b⟩
theorem D_text_of (X : K.In h) (Gn : h.Ns mainGlobals mg) (c : Says HDl w h K) (TB : ∀ p ∈ tfs, LamX.TabB base mg (He.cT K p).1 (He.cT K p).2) : DefX P w2 (GL K) mg base 1 "text_of" (He.fAd K ("text_of", none)) (fdOf K ("text_of", none)) ["row"] [] 1 f_text_of := by
  have F := fun_of (show FunD K "text_of" "text_of" (defArgs (top 42)) (defBody (top 42)) (defScope (top 42)) [] [] (He.fAd K ("text_of", none)) (fdOf K ("text_of", none)) from c.fd 17)
  have b : Binds K (fdOf K ("text_of", none)) ["row"] [] := F.binds fun _ _ _ _ _ _ us hl => match us, hl with | [_], _ => rfl
  exact ⟨ok_text_of (fx X Gn c) F , F.kp, b, glo X Gn c 31, [], .nil, b⟩
theorem D_tag_of (X : K.In h) (Gn : h.Ns mainGlobals mg) (c : Says HDl w h K) (TB : ∀ p ∈ tfs, LamX.TabB base mg (He.cT K p).1 (He.cT K p).2) : DefX P w2 (GL K) mg base 1 "tag_of" (He.fAd K ("tag_of", none)) (fdOf K ("tag_of", none)) ["names", "sign"] [] 2 f_tag_of := by
  have F := fun_of (show FunD K "tag_of" "tag_of" (defArgs (top 43)) (defBody (top 43)) (defScope (top 43)) [] [] (He.fAd K ("tag_of", none)) (fdOf K ("tag_of", none)) from c.fd 18)
  have b : Binds K (fdOf K ("tag_of", none)) ["names", "sign"] [] := F.binds fun _ _ _ _ _ _ us hl => match us, hl with | [_, _], _ => rfl
  exact ⟨ok_tag_of (fx X Gn c) F , F.kp, b, glo X Gn c 32, [], .nil, b⟩
theorem D_words_of (X : K.In h) (Gn : h.Ns mainGlobals mg) (c : Says HDl w h K) (TB : ∀ p ∈ tfs, LamX.TabB base mg (He.cT K p).1 (He.cT K p).2) : DefX P w2 (GL K) mg base 1 "words_of" (He.fAd K ("words_of", none)) (fdOf K ("words_of", none)) ["numbers"] [] 1 f_words_of := by
  have F := fun_of (show FunD K "words_of" "words_of" (defArgs (top 44)) (defBody (top 44)) (defScope (top 44)) [] [] (He.fAd K ("words_of", none)) (fdOf K ("words_of", none)) from c.fd 19)
  have b : Binds K (fdOf K ("words_of", none)) ["numbers"] [] := F.binds fun _ _ _ _ _ _ us hl => match us, hl with | [_], _ => rfl
  exact ⟨ok_words_of (fx X Gn c) F , F.kp, b, glo X Gn c 33, [], .nil, b⟩
theorem D_Desk___init__ (X : K.In h) (Gn : h.Ns mainGlobals mg) (c : Says HDl w h K) (TB : ∀ p ∈ tfs, LamX.TabB base mg (He.cT K p).1 (He.cT K p).2) : MethX P w2 (GL K) mg base 10 ((GL K).cl 0) "__init__" (He.fAd K ("Desk", some "__init__")) (fdOf K ("Desk", some "__init__")) ["self", "question", "manner", "reader"] 4 f_Desk___init__ := by
  have F := fun_of (show FunD K "__init__" "Desk.__init__" (defArgs (inClass (top 47) 0)) (defBody (inClass (top 47) 0)) (defScope (inClass (top 47) 0)) [] [] (He.fAd K ("Desk", some "__init__")) (fdOf K ("Desk", some "__init__")) from c.fd 20)
  have b : Binds K (fdOf K ("Desk", some "__init__")) ["self", "question", "manner", "reader"] [] := F.binds fun _ _ _ _ _ _ us hl => match us, hl with | [_, _, _, _], _ => rfl
  exact ⟨ok_Desk___init__ (fx X Gn c) F (D_check_reading X Gn c TB), b, He.meth_ok (c.fact 84)⟩
theorem D_Desk__pass_closing (X : K.In h) (Gn : h.Ns mainGlobals mg) (c : Says HDl w h K) (TB : ∀ p ∈ tfs, LamX.TabB base mg (He.cT K p).1 (He.cT K p).2) : MethX P w2 (GL K) mg base 2 ((GL K).cl 0) "_pass_closing" (He.fAd K ("Desk", some "_pass_closing")) (fdOf K ("Desk", some "_pass_closing")) ["self"] 1 f_Desk__pass_closing := by
  have F := fun_of (show FunD K "_pass_closing" "Desk._pass_closing" (defArgs (inClass (top 47) 2)) (defBody (inClass (top 47) 2)) (defScope (inClass (top 47) 2)) [] [] (He.fAd K ("Desk", some "_pass_closing")) (fdOf K ("Desk", some "_pass_closing")) from c.fd 21)
  have b : Binds K (fdOf K ("Desk", some "_pass_closing")) ["self"] [] := F.binds fun _ _ _ _ _ _ us hl => match us, hl with | [_], _ => rfl
  exact ⟨ok_Desk__pass_closing (fx X Gn c) F (D_behind_closing X Gn c TB), b, He.meth_ok (c.fact 85)⟩
theorem D_Desk__pass_opening (X : K.In h) (Gn : h.Ns mainGlobals mg) (c : Says HDl w h K) (TB : ∀ p ∈ tfs, LamX.TabB base mg (He.cT K p).1 (He.cT K p).2) : MethX P w2 (GL K) mg base 1 ((GL K).cl 0) "_pass_opening" (He.fAd K ("Desk", some "_pass_opening")) (fdOf K ("Desk", some "_pass_opening")) ["self", "name"] 2 f_Desk__pass_opening := by
  have F := fun_of (show FunD K "_pass_opening" "Desk._pass_opening" (defArgs (inClass (top 47) 3)) (defBody (inClass (top 47) 3)) (defScope (inClass (top 47) 3)) [] [] (He.fAd K ("Desk", some "_pass_opening")) (fdOf K ("Desk", some "_pass_opening")) from c.fd 22)
  have b : Binds K (fdOf K ("Desk", some "_pass_opening")) ["self", "name"] [] := F.binds fun _ _ _ _ _ _ us hl => match us, hl with | [_, _], _ => rfl
  exact ⟨ok_Desk__pass_opening (fx X Gn c) F , b, He.meth_ok (c.fact 86)⟩
theorem D_Desk_tag (X : K.In h) (Gn : h.Ns mainGlobals mg) (c : Says HDl w h K) (TB : ∀ p ∈ tfs, LamX.TabB base mg (He.cT K p).1 (He.cT K p).2) : MethX P w2 (GL K) mg base 4 ((GL K).cl 0) "tag" (He.fAd K ("Desk", some "tag")) (fdOf K ("Desk", some "tag")) ["self", "value"] 2 f_Desk_tag := by
  have F := fun_of (show FunD K "tag" "Desk.tag" (defArgs (inClass (top 47) 1)) (defBody (inClass (top 47) 1)) (defScope (inClass (top 47) 1)) [] [] (He.fAd K ("Desk", some "tag")) (fdOf K ("Desk", some "tag")) from c.fd 23)
  have b : Binds K (fdOf K ("Desk", some "tag")) ["self", "value"] [] := F.binds fun _ _ _ _ _ _ us hl => match us, hl with | [_, _], _ => rfl
  exact ⟨ok_Desk_tag (fx X Gn c) F (D_is_number X Gn c TB) (D_names_of X Gn c TB) (D_Desk__pass_closing X Gn c TB) (D_Desk__pass_opening X Gn c TB), b, He.meth_ok (c.fact 87)⟩
theorem D_Desk_back (X : K.In h) (Gn : h.Ns mainGlobals mg) (c : Says HDl w h K) (TB : ∀ p ∈ tfs, LamX.TabB base mg (He.cT K p).1 (He.cT K p).2) : MethX P w2 (GL K) mg base 1 ((GL K).cl 0) "back" (He.fAd K ("Desk", some "back")) (fdOf K ("Desk", some "back")) ["self"] 1 f_Desk_back := by
  have F := fun_of (show FunD K "back" "Desk.back" (defArgs (inClass (top 47) 4)) (defBody (inClass (top 47) 4)) (defScope (inClass (top 47) 4)) [] [] (He.fAd K ("Desk", some "back")) (fdOf K ("Desk", some "back")) from c.fd 24)
  have b : Binds K (fdOf K ("Desk", some "back")) ["self"] [] := F.binds fun _ _ _ _ _ _ us hl => match us, hl with | [_], _ => rfl
  exact ⟨ok_Desk_back (fx X Gn c) F , b, He.meth_ok (c.fact 88)⟩
theorem D_Desk_row (X : K.In h) (Gn : h.Ns mainGlobals mg) (c : Says HDl w h K) (TB : ∀ p ∈ tfs, LamX.TabB base mg (He.cT K p).1 (He.cT K p).2) : PropX P w2 (GL K) mg base 1 ((GL K).cl 0) "row" (gp K "Desk" "row").1 (gp K "Desk" "row").2 (fdAt K (gp K "Desk" "row").2) f_Desk_row := by
  obtain ⟨p, F⟩ := c.pr 0
  exact ⟨ok_Desk_row (fx X Gn c) F , F.binds fun _ _ _ _ _ _ us hl => match us, hl with | [_], _ => rfl, p⟩
theorem D_Desk_state (X : K.In h) (Gn : h.Ns mainGlobals mg) (c : Says HDl w h K) (TB : ∀ p ∈ tfs, LamX.TabB base mg (He.cT K p).1 (He.cT K p).2) : PropX P w2 (GL K) mg base 1 ((GL K).cl 0) "state" (gp K "Desk" "state").1 (gp K "Desk" "state").2 (fdAt K (gp K "Desk" "state").2) f_Desk_state := by
  obtain ⟨p, F⟩ := c.pr 1
  exact ⟨ok_Desk_state (fx X Gn c) F , F.binds fun _ _ _ _ _ _ us hl => match us, hl with | [_], _ => rfl, p⟩
theorem D_Desk_wrong (X : K.In h) (Gn : h.Ns mainGlobals mg) (c : Says HDl w h K) (TB : ∀ p ∈ tfs, LamX.TabB base mg (He.cT K p).1 (He.cT K p).2) : PropX P w2 (GL K) mg base 1 ((GL K).cl 0) "wrong" (gp K "Desk" "wrong").1 (gp K "Desk" "wrong").2 (fdAt K (gp K "Desk" "wrong").2) f_Desk_wrong := by
  obtain ⟨p, F⟩ := c.pr 2
  exact ⟨ok_Desk_wrong (fx X Gn c) F , F.binds fun _ _ _ _ _ _ us hl => match us, hl with | [_], _ => rfl, p⟩
theorem D_Desk__do_tag (X : K.In h) (Gn : h.Ns mainGlobals mg) (c : Says HDl w h K) (TB : ∀ p ∈ tfs, LamX.TabB base mg (He.cT K p).1 (He.cT K p).2) : MethX P w2 (GL K) mg base 5 ((GL K).cl 0) "_do_tag" (He.fAd K ("Desk", some "_do_tag")) (fdOf K ("Desk", some "_do_tag")) ["self", "sign"] 2 f_Desk__do_tag := by
  have F := fun_of (show FunD K "_do_tag" "Desk._do_tag" (defArgs (inClass (top 47) 9)) (defBody (inClass (top 47) 9)) (defScope (inClass (top 47) 9)) [] [] (He.fAd K ("Desk", some "_do_tag")) (fdOf K ("Desk", some "_do_tag")) from c.fd 25)
  have b : Binds K (fdOf K ("Desk", some "_do_tag")) ["self", "sign"] [] := F.binds fun _ _ _ _ _ _ us hl => match us, hl with | [_, _], _ => rfl
  exact ⟨ok_Desk__do_tag (fx X Gn c) F (D_tag_of X Gn c TB) (D_names_of X Gn c TB) (D_Desk_tag X Gn c TB) (D_words_of X Gn c TB), b, He.meth_ok (c.fact 89)⟩
theorem D_Desk_do (X : K.In h) (Gn : h.Ns mainGlobals mg) (c : Says HDl w h K) (TB : ∀ p ∈ tfs, LamX.TabB base mg (He.cT K p).1 (He.cT K p).2) : MethX P w2 (GL K) mg base 6 ((GL K).cl 0) "do" (He.fAd K ("Desk", some "do")) (fdOf K ("Desk", some "do")) ["self", "line"] 2 f_Desk_do := by
  have F := fun_of (show FunD K "do" "Desk.do" (defArgs (inClass (top 47) 8)) (defBody (inClass (top 47) 8)) (defScope (inClass (top 47) 8)) [] [] (He.fAd K ("Desk", some "do")) (fdOf K ("Desk", some "do")) from c.fd 26)
  have b : Binds K (fdOf K ("Desk", some "do")) ["self", "line"] [] := F.binds fun _ _ _ _ _ _ us hl => match us, hl with | [_, _], _ => rfl
  exact ⟨ok_Desk_do (fx X Gn c) F (D_Desk_back X Gn c TB) (D_text_of X Gn c TB) (D_Desk_state X Gn c TB) (D_words_of X Gn c TB) (D_Desk_wrong X Gn c TB) (D_Desk__do_tag X Gn c TB), b, He.meth_ok (c.fact 90)⟩
theorem D__law_pick (X : K.In h) (Gn : h.Ns mainGlobals mg) (c : Says HDl w h K) (TB : ∀ p ∈ tfs, LamX.TabB base mg (He.cT K p).1 (He.cT K p).2) : DefX P w2 (GL K) mg base 2 "_law_pick" (He.fAd K ("_law_pick", none)) (fdOf K ("_law_pick", none)) ["row", "things"] [] 2 f__law_pick := by
  have F := fun_of (show FunD K "_law_pick" "_law_pick" (defArgs (top 50)) (defBody (top 50)) (defScope (top 50)) [] [] (He.fAd K ("_law_pick", none)) (fdOf K ("_law_pick", none)) from c.fd 27)
  have b : Binds K (fdOf K ("_law_pick", none)) ["row", "things"] [] := F.binds fun _ _ _ _ _ _ us hl => match us, hl with | [_, _], _ => rfl
  exact ⟨ok__law_pick (fx X Gn c) F (D__law_taken X Gn c TB), F.kp, b, glo X Gn c 34, [], .nil, b⟩
theorem D__law_led (X : K.In h) (Gn : h.Ns mainGlobals mg) (c : Says HDl w h K) (TB : ∀ p ∈ tfs, LamX.TabB base mg (He.cT K p).1 (He.cT K p).2) : DefX P w2 (GL K) mg base 1 "_law_led" (He.fAd K ("_law_led", none)) (fdOf K ("_law_led", none)) ["question", "state", "way"] [] 3 f__law_led := by
  have F := fun_of (show FunD K "_law_led" "_law_led" (defArgs (top 53)) (defBody (top 53)) (defScope (top 53)) [] [] (He.fAd K ("_law_led", none)) (fdOf K ("_law_led", none)) from c.fd 28)
  have b : Binds K (fdOf K ("_law_led", none)) ["question", "state", "way"] [] := F.binds fun _ _ _ _ _ _ us hl => match us, hl with | [_, _, _], _ => rfl
  exact ⟨ok__law_led (fx X Gn c) F , F.kp, b, glo X Gn c 35, [], .nil, b⟩
theorem D__law_answer (X : K.In h) (Gn : h.Ns mainGlobals mg) (c : Says HDl w h K) (TB : ∀ p ∈ tfs, LamX.TabB base mg (He.cT K p).1 (He.cT K p).2) : DefX P w2 (GL K) mg base 2 "_law_answer" (He.fAd K ("_law_answer", none)) (fdOf K ("_law_answer", none)) ["question", "way"] [] 2 f__law_answer := by
  have F := fun_of (show FunD K "_law_answer" "_law_answer" (defArgs (top 54)) (defBody (top 54)) (defScope (top 54)) [] [] (He.fAd K ("_law_answer", none)) (fdOf K ("_law_answer", none)) from c.fd 29)
  have b : Binds K (fdOf K ("_law_answer", none)) ["question", "way"] [] := F.binds fun _ _ _ _ _ _ us hl => match us, hl with | [_, _], _ => rfl
  exact ⟨ok__law_answer (fx X Gn c) F (D__law_led X Gn c TB), F.kp, b, glo X Gn c 36, [], .nil, b⟩
theorem D__law_paths (X : K.In h) (Gn : h.Ns mainGlobals mg) (c : Says HDl w h K) (TB : ∀ p ∈ tfs, LamX.TabB base mg (He.cT K p).1 (He.cT K p).2) : DefX P w2 (GL K) mg base 1 "_law_paths" (He.fAd K ("_law_paths", none)) (fdOf K ("_law_paths", none)) ["tags"] [] 1 f__law_paths := by
  have F := fun_of (show FunD K "_law_paths" "_law_paths" (defArgs (top 55)) (defBody (top 55)) (defScope (top 55)) [] [] (He.fAd K ("_law_paths", none)) (fdOf K ("_law_paths", none)) from c.fd 30)
  have b : Binds K (fdOf K ("_law_paths", none)) ["tags"] [] := F.binds fun _ _ _ _ _ _ us hl => match us, hl with | [_], _ => rfl
  exact ⟨ok__law_paths (fx X Gn c) F , F.kp, b, glo X Gn c 37, [], .nil, b⟩
theorem D__law_question (X : K.In h) (Gn : h.Ns mainGlobals mg) (c : Says HDl w h K) (TB : ∀ p ∈ tfs, LamX.TabB base mg (He.cT K p).1 (He.cT K p).2) : DefX P w2 (GL K) mg base 2 "_law_question" (He.fAd K ("_law_question", none)) (fdOf K ("_law_question", none)) ["row", "states", "names"] [] 3 f__law_question := by
  have F := fun_of (show FunD K "_law_question" "_law_question" (defArgs (top 52)) (defBody (top 52)) (defScope (top 52)) [] [] (He.fAd K ("_law_question", none)) (fdOf K ("_law_question", none)) from c.fd 31)
  have b : Binds K (fdOf K ("_law_question", none)) ["row", "states", "names"] [] := F.binds fun _ _ _ _ _ _ us hl => match us, hl with | [_, _, _], _ => rfl
  exact ⟨ok__law_question (fx X Gn c) F (D__law_taken X Gn c TB), F.kp, b, glo X Gn c 38, [], .nil, b⟩
theorem D__law_reader (X : K.In h) (Gn : h.Ns mainGlobals mg) (c : Says HDl w h K) (TB : ∀ p ∈ tfs, LamX.TabB base mg (He.cT K p).1 (He.cT K p).2) : DefX P w2 (GL K) mg base 2 "_law_reader" (He.fAd K ("_law_reader", none)) (fdOf K ("_law_reader", none)) ["row", "names", "manner", "most"] [] 4 f__law_reader := by
  have F := fun_of (show FunD K "_law_reader" "_law_reader" (defArgs (top 56)) (defBody (top 56)) (defScope (top 56)) [] [] (He.fAd K ("_law_reader", none)) (fdOf K ("_law_reader", none)) from c.fd 32)
  have b : Binds K (fdOf K ("_law_reader", none)) ["row", "names", "manner", "most"] [] := F.binds fun _ _ _ _ _ _ us hl => match us, hl with | [_, _, _, _], _ => rfl
  exact ⟨ok__law_reader (fx X Gn c) F (D__law_taken X Gn c TB), F.kp, b, glo X Gn c 39, [], .nil, b⟩
theorem D__law_read (X : K.In h) (Gn : h.Ns mainGlobals mg) (c : Says HDl w h K) (TB : ∀ p ∈ tfs, LamX.TabB base mg (He.cT K p).1 (He.cT K p).2) : DefX P w2 (GL K) mg base 1 "_law_read" (He.fAd K ("_law_read", none)) (fdOf K ("_law_read", none)) ["reader", "tags"] [] 2 f__law_read := by
  have F := fun_of (show FunD K "_law_read" "_law_read" (defArgs (top 57)) (defBody (top 57)) (defScope (top 57)) [] [] (He.fAd K ("_law_read", none)) (fdOf K ("_law_read", none)) from c.fd 33)
  have b : Binds K (fdOf K ("_law_read", none)) ["reader", "tags"] [] := F.binds fun _ _ _ _ _ _ us hl => match us, hl with | [_, _], _ => rfl
  exact ⟨ok__law_read (fx X Gn c) F , F.kp, b, glo X Gn c 40, [], .nil, b⟩
theorem D__law_back (X : K.In h) (Gn : h.Ns mainGlobals mg) (c : Says HDl w h K) (TB : ∀ p ∈ tfs, LamX.TabB base mg (He.cT K p).1 (He.cT K p).2) : DefX P w2 (GL K) mg base 1 "_law_back" (He.fAd K ("_law_back", none)) (fdOf K ("_law_back", none)) ["question", "state", "name"] [] 3 f__law_back := by
  have F := fun_of (show FunD K "_law_back" "_law_back" (defArgs (top 60)) (defBody (top 60)) (defScope (top 60)) [] [] (He.fAd K ("_law_back", none)) (fdOf K ("_law_back", none)) from c.fd 34)
  have b : Binds K (fdOf K ("_law_back", none)) ["question", "state", "name"] [] := F.binds fun _ _ _ _ _ _ us hl => match us, hl with | [_, _, _], _ => rfl
  exact ⟨ok__law_back (fx X Gn c) F , F.kp, b, glo X Gn c 41, [], .nil, b⟩
theorem D__law_near (X : K.In h) (Gn : h.Ns mainGlobals mg) (c : Says HDl w h K) (TB : ∀ p ∈ tfs, LamX.TabB base mg (He.cT K p).1 (He.cT K p).2) : DefX P w2 (GL K) mg base 3 "_law_near" (He.fAd K ("_law_near", none)) (fdOf K ("_law_near", none)) ["row", "question", "names", "manner"] [] 4 f__law_near := by
  have F := fun_of (show FunD K "_law_near" "_law_near" (defArgs (top 59)) (defBody (top 59)) (defScope (top 59)) [] [] (He.fAd K ("_law_near", none)) (fdOf K ("_law_near", none)) from c.fd 35)
  have b : Binds K (fdOf K ("_law_near", none)) ["row", "question", "names", "manner"] [] := F.binds fun _ _ _ _ _ _ us hl => match us, hl with | [_, _, _, _], _ => rfl
  exact ⟨ok__law_near (fx X Gn c) F (D__law_taken X Gn c TB) (D__law_reader X Gn c TB) (D__law_back X Gn c TB), F.kp, b, glo X Gn c 42, [], .nil, b⟩
theorem D__law_alike (X : K.In h) (Gn : h.Ns mainGlobals mg) (c : Says HDl w h K) (TB : ∀ p ∈ tfs, LamX.TabB base mg (He.cT K p).1 (He.cT K p).2) : DefX P w2 (GL K) mg base 60 "_law_alike" (He.fAd K ("_law_alike", none)) (fdOf K ("_law_alike", none)) ["found", "due"] [] 2 (f__law_alike 60) := by
  have F := fun_of (show FunD K "_law_alike" "_law_alike" (defArgs (top 51)) (defBody (top 51)) (defScope (top 51)) [] [] (He.fAd K ("_law_alike", none)) (fdOf K ("_law_alike", none)) from c.fd 36)
  have b : Binds K (fdOf K ("_law_alike", none)) ["found", "due"] [] := F.binds fun _ _ _ _ _ _ us hl => match us, hl with | [_, _], _ => rfl
  exact ⟨ok__law_alike (fx X Gn c) F b (glo X Gn c 43)  60, F.kp, b, glo X Gn c 43, [], .nil, b⟩
theorem D__law_stands (X : K.In h) (Gn : h.Ns mainGlobals mg) (c : Says HDl w h K) (TB : ∀ p ∈ tfs, LamX.TabB base mg (He.cT K p).1 (He.cT K p).2) : DefX P w2 (GL K) mg base 61 "_law_stands" (He.fAd K ("_law_stands", none)) (fdOf K ("_law_stands", none)) ["desk", "question", "reader", "tags"] [] 4 f__law_stands := by
  have F := fun_of (show FunD K "_law_stands" "_law_stands" (defArgs (top 61)) (defBody (top 61)) (defScope (top 61)) [] [] (He.fAd K ("_law_stands", none)) (fdOf K ("_law_stands", none)) from c.fd 37)
  have b : Binds K (fdOf K ("_law_stands", none)) ["desk", "question", "reader", "tags"] [] := F.binds fun _ _ _ _ _ _ us hl => match us, hl with | [_, _, _, _], _ => rfl
  exact ⟨ok__law_stands (fx X Gn c) F (D__law_read X Gn c TB) (D__law_paths X Gn c TB) (D__law_answer X Gn c TB) (D__law_alike X Gn c TB) (D_Desk_wrong X Gn c TB) (D_Desk_state X Gn c TB) (D_Desk_row X Gn c TB) (D_Desk_do X Gn c TB), F.kp, b, glo X Gn c 44, [], .nil, b⟩
theorem all_law (hold : (m_law (env0 14 1) [.dr]).holds True9 fun _ _ => False) (X : K.In h) (Gn : h.Ns mainGlobals mg) (c : Says HDl w h K) (TB : ∀ p ∈ tfs, LamX.TabB base mg (He.cT K p).1 (He.cT K p).2) : FnOk P w2 K mg base (L2.CX P w2) 62 (He.fAd K ("law", none)) (fdOf K ("law", none)) ["script"] (spLawX (GL K)) := by
  have F := (show FunD K "law" "law" (defArgs (top 62)) (defBody (top 62)) (defScope (top 62)) [] [] (He.fAd K ("law", none)) (fdOf K ("law", none)) from c.fd 38)
  have FW := fun_of (show FunD K "_law_word" "_law_word" (defArgs (top 58)) (defBody (top 58)) (defScope (top 58)) [] [] (He.fAd K ("_law_word", none)) (fdOf K ("_law_word", none)) from c.fd 39)
  exact ok_law (by with_reducible exact hold) (fx X Gn c) (fun_of F) (D__law_pick X Gn c TB) (D__law_question X Gn c TB) (D__law_near X Gn c TB) (D_Desk___init__ X Gn c TB) (D__law_taken X Gn c TB) (D__law_paths X Gn c TB) (D_Desk_back X Gn c TB) (D_Desk_do X Gn c TB) (D_Desk_tag X Gn c TB) (D__law_read X Gn c TB) (D__law_answer X Gn c TB) (D__law_alike X Gn c TB) (D__law_stands X Gn c TB) (amW_of (nT c)) (own_ofX F (TB _ List.mem_cons_self)) (TB _ List.mem_cons_self) FW (FW.binds fun _ _ _ _ _ _ us hl => match us, hl with | [_], _ => rfl) (glo X Gn c 46)
theorem room1 : Room 62 callerA := ⟨rfl, by decide, by decide⟩
theorem at_law (hold : (m_law (env0 14 1) [.dr]).holds True9 fun _ _ => False) (w : World) (mg : Str → Option Value) (fa : Addr) (h : Heap) (Y : (hkX HDl).says w h) (Gn : h.Ns mainGlobals mg) (hmg : mg "law" = some (.ref fa)) :
    ∃ K : PySem.W.Frag, K.In h ∧ LamX.LawAtS PySem.Challenge.rw_markspass_k09_whole_desks w K (L2.CX PySem.Challenge.rw_markspass_k09_whole_desks.prog w) 62 63 "script" mg fa h := by
  obtain ⟨K, X, c⟩ := Y
  have FD := (show FunD K "law" "law" (defArgs (top 62)) (defBody (top 62)) (defScope (top 62)) [] [] (He.fAd K ("law", none)) (fdOf K ("law", none)) from c.fd 38)
  have F := fun_of FD
  have e := hmg.symm.trans (glo X Gn c 45)
  cases e
  have b : Binds K (fdOf K ("law", none)) ["script"] [] := F.binds fun _ _ _ _ _ _ us hl => match us, hl with | [_], _ => rfl
  refine ⟨K, X, fdOf K ("law", none), tfs.map fun p => He.cT K p, spLawX (GL K), fun p hp => ?_, fun p hp => ?_, fun p hp => ?_, fun s u => ?_, fun H a ns hl _ hT hS => ⟨a, ns, rfl, hS, amL_start fun T hT2 => ?_, fun _ => rfl⟩, fun base _ _ TB => ?_⟩
  · obtain ⟨q, hq, rfl⟩ := List.mem_map.mp hp
    exact c.x.empty q hq
  · obtain ⟨q, hq, rfl⟩ := List.mem_map.mp hp
    exact c.x.out q hq
  · obtain ⟨q, hq, rfl⟩ := List.mem_map.mp hp
    exact PySem.W.codeHd_of_K X (c.x.hd q hq)
  · obtain ⟨oc, od, kV, doc, pm, an, cdv, ct, osl, e, lk, hcd⟩ := F.ex
    rw [e]
    exact .of_eq rfl
  · have hm : ∃ q ∈ tfs, T = (He.cT K q).2 := by
      rcases List.mem_cons.mp hT2 with z | z
      · exact ⟨("law", none), List.mem_cons_self, z⟩
      · obtain ⟨q, hq, e⟩ := List.mem_map.mp z
        exact ⟨q, List.mem_of_mem_tail hq, e.symm⟩
    obtain ⟨q, hq, rfl⟩ := hm
    exact hT _ (List.mem_map.mpr ⟨q, hq, rfl⟩)
  · exact all_law (by with_reducible exact hold) X Gn c fun p hp => TB _ (List.mem_map.mpr ⟨p, hp, rfl⟩)
end
end Mx

/-! ### MkM0 -/
set_option Elab.async false
set_option linter.all false
set_option maxRecDepth 100000
set_option maxHeartbeats 1000000
namespace Mx
open PySem PySem.Spec PyProof.Rows L2
/-! ### outcomes -/
theorem bind_holds {α β : Type} {f : α → R β} {Q : β → Prop} {E : Xc → Sto → Prop} : ∀ {r : R α}, r.holds (fun a => (f a).holds Q E) E → (r.bind f).holds Q E
  | .ok a, h => h
  | .exc x s, h => h
  | .fail, h => h
  | .draw n k, h => fun i hi => bind_holds (h i hi)
theorem holds_bind_iff {α β : Type} {f : α → R β} {Q : β → Prop} {E : Xc → Sto → Prop} {r : R α} : (r.bind f).holds Q E ↔ r.holds (fun a => (f a).holds Q E) E := ⟨holds_bind, bind_holds⟩
theorem noX_of {α : Type} {Q : α → Prop} {X : Xc → Sto → Prop} : ∀ {r : R α}, r.holds Q (fun _ _ => False) → (noX r).holds Q X
  | .ok a, h => h
  | .exc _ _, h => False.elim h
  | .fail, h => h
  | .draw n k, h => fun i hi => noX_of (h i hi)
theorem bind_ok {α β : Type} {f : α → R β} {a : α} : (R.ok a).bind f = f a := id rfl
theorem bind_fail {α β : Type} {f : α → R β} : (R.fail : R α).bind f = .fail := id rfl
theorem bind_exc {α β : Type} {f : α → R β} {x : Xc} {s : Sto} : (R.exc x s : R α).bind f = .exc x s := id rfl
theorem noX_ok {α : Type} {a : α} : noX (R.ok a) = .ok a := id rfl
theorem holds_ok {α : Type} {Q : α → Prop} {E : Xc → Sto → Prop} {a : α} : (R.ok a).holds Q E ↔ Q a := id Iff.rfl
theorem holds_exc {α : Type} {Q : α → Prop} {E : Xc → Sto → Prop} {x : Xc} {s : Sto} : (R.exc x s : R α).holds Q E ↔ E x s := id Iff.rfl
/-! ### runs -/
theorem mVar_at {i : Nat} {env : Ev} {st : Sto} {a : A} (h : env[i]? = some (some a)) : mVar i env st = .ok (a, st) := by unfold mVar; rw [h]
theorem thenS_nx {env : Ev} {st : Sto} {m : SM} : thenS (.nx env, st) m = m env st := id rfl
theorem thenS_rt {a : A} {st : Sto} {m : SM} : thenS (.rt a, st) m = .ok (.rt a, st) := id rfl
theorem asB_bl {b : Bool} {st : Sto} : asB (.bl b, st) = .ok (b, st) := id rfl
theorem ofO_some {α : Type} {a : α} : ofO (some a) = .ok a := id rfl
theorem ofO_none {α : Type} : ofO (none : Option α) = .fail := id rfl
theorem flow_nx {e : Ev} {s : Sto} {k : Ev → Sto → R (Fl × Sto)} : flow (.nx e, s) k = k e s := id rfl
theorem isi_int {v : Int} {st : Sto} : fIsi [.int v, .ty "int"] st = some (.bl true, st) := id rfl
theorem isi_int2 {v : Int} {st : Sto} : fIsi [.int v, .ty "bool"] st = some (.bl false, st) := id rfl
theorem isi_tup {l : List A} {st : Sto} : fIsi [.tup l, .ty "tuple"] st = some (.bl true, st) := id rfl
theorem len_tup {l : List A} {st : Sto} : fLen [.tup l] st = some (.int l.length, st) := id rfl
/-! ### loops -/
theorem pre_get {s s2 : Sto} {i : Nat} {o : Ob} (p : s <+: s2) (h : s[i]? = some o) : s2[i]? = some o := by
  obtain ⟨g, rfl⟩ := p
  rw [List.getElem?_append_left (List.getElem?_eq_some_iff.mp h).1]
  exact h
def Fls : Xc → Sto → Prop := fun _ _ => False
theorem for_rule {L : List A} {f : Itm} {mg : GM} {mb : SM} {E : Xc → Sto → Prop} {Inv : Nat → Ev → Sto → Prop} (hf : ∀ i e s, Inv i e s → f i s = ofL L i s)
    (step : ∀ i a e s, L[i]? = some a → Inv i e s → (mg a e s).holds (fun e' => (mb e'.1 e'.2).holds (fun r => ∃ e2, r.1 = .nx e2 ∧ Inv (i + 1) e2 r.2) E) E) :
    ∀ k i e s, L.length < k + i → i ≤ L.length → Inv i e s → (forG f mg mb k i e s).holds (fun r => ∃ e2, r.1 = .nx e2 ∧ Inv L.length e2 r.2) E
  | 0, i, e, s, h, h2, _ => by omega
  | k + 1, i, e, s, h, h2, hI => by
    unfold forG
    rw [hf i e s hI]
    unfold ofL
    by_cases hi : i < L.length
    · rw [List.getElem?_eq_getElem hi]
      refine bind_holds (holds_mono (fun e' q => bind_holds (holds_mono (fun r q => ?_) (fun _ _ z => z) q)) (fun _ _ z => z) (step i _ e s (List.getElem?_eq_getElem hi) hI))
      obtain ⟨fl, s2⟩ := r
      obtain ⟨e2, rfl, q⟩ := q
      exact for_rule hf step k (i + 1) e2 s2 (by omega) hi q
    · rw [List.getElem?_eq_none (by omega)]
      have : i = L.length := by omega
      exact ⟨e, rfl, this ▸ hI⟩
theorem lc_rule {L : List A} {f : Itm} {mg : GM} {mt : BM} {me : EM} {wenv : Ev} {s0 : Sto} {E : Xc → Sto → Prop} {P : Nat → List A → Prop} (hf : ∀ i s, s0 <+: s → f i s = ofL L i s)
    (step : ∀ i a s acc, L[i]? = some a → s0 <+: s → P i acc → acc.length ≤ i → (mg a wenv s).holds (fun e => e.2 = s ∧ (mt e.1 s).holds (fun b => s <+: b.2 ∧ if b.1 = true then (me e.1 b.2).holds (fun y => s <+: y.2 ∧ P (i + 1) (acc ++ [y.1])) Fls else P (i + 1) acc) Fls) Fls) (hL : L.length ≤ 100000) :
    ∀ k i s acc, L.length < k + i → i ≤ L.length → s0 <+: s → s[s0.length]? = some (.lst acc) → acc.length ≤ i → P i acc → (lcG f mg mt me wenv s0.length k i s).holds (fun r => ∃ acc, r.1 = .ref s0.length ∧ s0 <+: r.2 ∧ r.2[s0.length]? = some (.lst acc) ∧ acc.length ≤ L.length ∧ P L.length acc) E
  | 0, i, s, acc, h, h2, _, _, _, _ => by omega
  | k + 1, i, s, acc, h, h2, hp, hn, hl, hI => by
    unfold lcG
    rw [hf i s hp]
    unfold ofL
    by_cases hi : i < L.length
    · rw [List.getElem?_eq_getElem hi]
      refine bind_holds (noX_of (holds_mono (fun e q => ?_) (fun _ _ z => z) (step i _ s acc (List.getElem?_eq_getElem hi) hp hI hl)))
      obtain ⟨e, se⟩ := e
      obtain ⟨rfl, q⟩ := q
      refine bind_holds (noX_of (holds_mono (fun b q => ?_) (fun _ _ z => z) q))
      obtain ⟨b, sb⟩ := b
      obtain ⟨pb, q⟩ := q
      have gb : ∀ {s2 : Sto}, se <+: s2 → s2[s0.length]? = some (.lst acc) := fun {s2} p => pre_get p hn
      dsimp only at q ⊢
      by_cases hb : b = true
      · rw [if_pos hb] at q ⊢
        refine bind_holds (noX_of (holds_mono (fun y q => ?_) (fun _ _ z => z) q))
        obtain ⟨y, sy⟩ := y
        obtain ⟨py, q⟩ := q
        dsimp only
        rw [gb py]
        dsimp only
        rw [if_pos (by rw [sizeLine_eq]; omega)]
        refine lc_rule hf step hL k (i + 1) _ (acc ++ [y]) (by omega) hi ?_ ?_ ?_ q
        · have h1 := hp.trans py
          obtain ⟨g, rfl⟩ := h1
          exact ⟨g.set 0 (.lst (acc ++ [y])), by rw [List.set_append_right _ _ (Nat.le_refl _), Nat.sub_self]⟩
        · have hl3 : s0.length < sy.length := (List.getElem?_eq_some_iff.mp (gb py)).1
          rw [List.getElem?_set_self hl3]
        · rw [List.length_append]
          exact Nat.succ_le_succ hl
      · rw [if_neg hb] at q ⊢
        exact lc_rule hf step hL k (i + 1) sb acc (by omega) hi (hp.trans pb) (gb pb) (by omega) q
    · rw [List.getElem?_eq_none (by omega)]
      have e : i = L.length := by omega
      subst e
      exact ⟨acc, rfl, hp, hn, hl, hI⟩
theorem all_rule {L : List A} {f : Itm} {mg : GM} {me : EM} {wenv : Ev} {s : Sto} (hf : ∀ i, f i s = ofL L i s) (step : ∀ (i : Nat) (a : A), L[i]? = some a → ∃ e, mg a wenv s = .ok (e, s) ∧ me e s = .ok (.bl true, s)) : ∀ k i, L.length < k + i → i ≤ L.length → allG f mg me wenv k i s = .ok (.bl true, s)
  | 0, i, h, h2 => by omega
  | k + 1, i, h, h2 => by
    unfold allG
    rw [hf i]
    unfold ofL
    by_cases hi : i < L.length
    · rw [List.getElem?_eq_getElem hi]
      obtain ⟨e, e1, e2⟩ := step i _ (List.getElem?_eq_getElem hi)
      dsimp only
      rw [e1]
      dsimp only [noX, R.bind]
      rw [e2]
      dsimp only [noX, R.bind, asB]
      rw [if_pos rfl]
      exact all_rule hf step k (i + 1) (by omega) hi
    · rw [List.getElem?_eq_none (by omega)]
theorem itRng_eq {n : Nat} : itRng 0 n = itTup ((List.range n).map fun i => A.int (i : Nat)) := by
  funext i s
  unfold itRng itTup ofL
  rw [List.getElem?_map]
  by_cases h : i < n
  · rw [if_pos h, List.getElem?_range h]
    simp
  · rw [if_neg h, List.getElem?_eq_none (by simpa using h)]
    rfl
theorem fuel_gt {n i : Nat} (h : n ≤ 100000) : n < fuel + i := by unfold fuel; omega
/-- a draw -/
theorem taken_holds {st : Sto} {r : Nat} {many : Int} {Q : A × Sto → Prop} {E : Xc → Sto → Prop} (h0 : st[r]? = some .dr) (h1 : 1 ≤ many) (h2 : many < 1073741824) (q : ∀ k : Nat, (k : Int) < many → Q (.int k, st)) : (fTaken [.ref r, .int many] st).holds Q E := by
  unfold fTaken
  dsimp only
  rw [h0]
  dsimp only
  rw [if_pos ⟨h1, h2⟩]
  exact fun i hi => q i (by omega)
theorem all_tup {L : List A} {mg : GM} {me : EM} {wenv : Ev} {s : Sto} (hL : L.length ≤ 100000) (step : ∀ (i : Nat) (a : A), L[i]? = some a → ∃ e, mg a wenv s = .ok (e, s) ∧ me e s = .ok (.bl true, s)) : allG (itTup L) mg me wenv fuel 0 s = .ok (.bl true, s) := by
  have hf : L.length < fuel + 0 := fuel_gt hL
  generalize fuel = fu at hf
  have h : ∀ i, itTup L i s = ofL L i s := fun i => rfl
  exact all_rule h step fu 0 hf (Nat.zero_le _)
theorem get_map {α : Type} {l : List α} {g : α → A} {i : Nat} {a : A} (h : (l.map g)[i]? = some a) : ∃ x, l[i]? = some x ∧ x ∈ l ∧ a = g x := by
  rw [List.getElem?_map] at h
  cases hx : l[i]? with
  | none => rw [hx] at h; cases h
  | some x =>
    rw [hx] at h
    cases h
    exact ⟨x, rfl, List.mem_of_getElem? hx, rfl⟩
end Mx

/-! ### MkM1 -/
set_option Elab.async false
set_option linter.all false
set_option maxRecDepth 100000
set_option maxHeartbeats 1000000
namespace Mx
open PySem PySem.Spec PyProof.Rows L2
/-! ### questions, readers -/
def aI (l : List Int) : List A := l.map .int
def aN (l : List Nat) : A := .tup (l.map fun k => .int (k : Nat))
structure Qn where
  st : List (List Nat)
  ms : List Nat
def aQ (q : Qn) : A := .tup [.tup (q.st.map aN), aN q.ms]
structure QOk (q : Qn) (n : Nat) : Prop where
  m1 : 1 ≤ q.st.length
  m2 : q.st.length ≤ 4
  n1 : 1 ≤ n
  n2 : n ≤ 2
  rl : ∀ r ∈ q.st, r.length = n
  rx : ∀ r ∈ q.st, ∀ x ∈ r, x < q.st.length
  ml : q.ms.length = q.st.length
  mx : ∀ x ∈ q.ms, x < 2
structure Rd where
  op : List (List (Nat × Nat))
  cl : List (List Nat)
def aP (p : Nat × Nat) : A := .tup [.int (p.1 : Nat), .int (p.2 : Nat)]
def aR (r : Rd) : A := .tup [.tup (r.op.map fun l => .tup (l.map aP)), .tup (r.cl.map aN)]
structure ROk (r : Rd) (n c : Nat) : Prop where
  m1 : 1 ≤ r.op.length
  m2 : r.op.length ≤ 4
  ol : ∀ l ∈ r.op, l.length = n
  o1 : ∀ l ∈ r.op, ∀ p ∈ l, p.1 < r.op.length
  o2 : ∀ l ∈ r.op, ∀ p ∈ l, p.2 < 2
  cm : r.cl.length = r.op.length
  cl : ∀ l ∈ r.cl, l.length = c
  cx : ∀ l ∈ r.cl, ∀ x ∈ l, x < r.op.length
def ways (n : Nat) (b : Bool) : Nat := if b = true then n else 1
def aM (b : Bool) : A := .str (if b = true then "named" else "blind")
def Qn.to (q : Qn) (s t : Nat) : Nat := (q.st.getD s []).getD t 0
def Qn.due (q : Qn) (s : Nat) : Nat := q.ms.getD s 0
def Rd.on (r : Rd) (s t : Nat) : Nat × Nat := (r.op.getD s []).getD t (0, 0)
def Rd.off (r : Rd) (s j : Nat) : Nat := (r.cl.getD s []).getD j 0
/-! ### x[i] -/
theorem atI_natX {α : Type} {xs : List α} {j : Nat} {v : α} (h : xs[j]? = some v) : atI xs (j : Int) = some v := by
  have hj := (List.getElem?_eq_some_iff.mp h).1
  unfold atI ixN
  rw [if_pos (by omega), if_pos (by omega)]
  exact h
theorem atI_last {α : Type} {xs : List α} {v : α} : atI (xs ++ [v]) (-1) = some v := by
  unfold atI ixN
  rw [if_neg (by omega), if_pos (by simp; omega)]
  show (xs ++ [v])[((-1 : Int) + ((xs ++ [v]).length : Nat)).toNat]? = some v
  rw [show ((-1 : Int) + ((xs ++ [v]).length : Nat)).toNat = xs.length by simp; omega]
  simp
theorem ix_tup {l : List A} {k : Nat} {a : A} {st : Sto} (h : l[k]? = some a) : fIx (.tup l) (.int (k : Nat)) st = some (a, st) := by
  unfold fIx ixA
  dsimp only
  rw [atI_natX h]
  rfl
theorem ix_lst {l : List A} {n k : Nat} {a : A} {st : Sto} (hn : st[n]? = some (.lst l)) (h : l[k]? = some a) : fIx (.ref n) (.int (k : Nat)) st = some (a, st) := by
  unfold fIx ixA
  dsimp only
  rw [hn]
  dsimp only
  rw [atI_natX h]
  rfl
theorem ix_last {l : List A} {n : Nat} {a : A} {st : Sto} (hn : st[n]? = some (.lst (l ++ [a]))) : fIx (.ref n) (.int (-1)) st = some (a, st) := by
  unfold fIx ixA
  dsimp only
  rw [hn]
  dsimp only
  rw [atI_last]
  rfl
theorem ix_aN {l : List Nat} {k : Nat} {st : Sto} (h : k < l.length) : fIx (aN l) (.int (k : Nat)) st = some (.int (l.getD k 0 : Nat), st) := by
  refine ix_tup ?_
  rw [List.getElem?_map, List.getD_eq_getElem?_getD, List.getElem?_eq_getElem h]
  rfl
theorem ix_q0 {q : Qn} {st : Sto} : fIx (aQ q) (.int 0) st = some (.tup (q.st.map aN), st) := rfl
theorem ix_q1 {q : Qn} {st : Sto} : fIx (aQ q) (.int 1) st = some (aN q.ms, st) := rfl
theorem ix_r0 {r : Rd} {st : Sto} : fIx (aR r) (.int 0) st = some (.tup (r.op.map fun l => .tup (l.map aP)), st) := rfl
theorem ix_r1 {r : Rd} {st : Sto} : fIx (aR r) (.int 1) st = some (.tup (r.cl.map aN), st) := rfl
theorem ix_mN {l : List (List Nat)} {k : Nat} {st : Sto} (h : k < l.length) : fIx (.tup (l.map aN)) (.int (k : Nat)) st = some (aN (l.getD k []), st) := by
  refine ix_tup ?_
  rw [List.getElem?_map, List.getD_eq_getElem?_getD, List.getElem?_eq_getElem h]
  rfl
theorem ix_mP {l : List (List (Nat × Nat))} {k : Nat} {st : Sto} (h : k < l.length) : fIx (.tup (l.map fun l => .tup (l.map aP))) (.int (k : Nat)) st = some (.tup ((l.getD k []).map aP), st) := by
  refine ix_tup ?_
  rw [List.getElem?_map, List.getD_eq_getElem?_getD, List.getElem?_eq_getElem h]
  rfl
theorem ix_aP {l : List (Nat × Nat)} {k : Nat} {st : Sto} (h : k < l.length) : fIx (.tup (l.map aP)) (.int (k : Nat)) st = some (aP (l.getD k (0, 0)), st) := by
  refine ix_tup ?_
  rw [List.getElem?_map, List.getD_eq_getElem?_getD, List.getElem?_eq_getElem h]
  rfl
theorem getD_mem {α : Type} {l : List α} {k : Nat} {d : α} (h : k < l.length) : l.getD k d ∈ l := by
  rw [List.getD_eq_getElem?_getD, List.getElem?_eq_getElem h]
  exact List.getElem_mem h
section
variable {q : Qn} {r : Rd} {n c : Nat} {st : Sto}
theorem QOk.rlen (h : QOk q n) {s : Nat} (hs : s < q.st.length) : (q.st.getD s []).length = n := h.rl _ (getD_mem hs)
theorem QOk.to_lt (h : QOk q n) {s t : Nat} (hs : s < q.st.length) (ht : t < n) : q.to s t < q.st.length := h.rx _ (getD_mem hs) _ (getD_mem (by rw [h.rlen hs]; exact ht))
theorem ROk.olen (h : ROk r n c) {s : Nat} (hs : s < r.op.length) : (r.op.getD s []).length = n := h.ol _ (getD_mem hs)
theorem ROk.clen (h : ROk r n c) {s : Nat} (hs : s < r.op.length) : (r.cl.getD s []).length = c := h.cl _ (getD_mem (by rw [h.cm]; exact hs))
theorem ROk.on_lt (h : ROk r n c) {s t : Nat} (hs : s < r.op.length) (ht : t < n) : (r.on s t).1 < r.op.length ∧ (r.on s t).2 < 2 :=
  ⟨h.o1 _ (getD_mem hs) _ (getD_mem (by rw [h.olen hs]; exact ht)), h.o2 _ (getD_mem hs) _ (getD_mem (by rw [h.olen hs]; exact ht))⟩
theorem ROk.off_lt (h : ROk r n c) {s j : Nat} (hs : s < r.op.length) (hj : j < c) : r.off s j < r.op.length := h.cx _ (getD_mem (by rw [h.cm]; exact hs)) _ (getD_mem (by rw [h.clen hs]; exact hj))
/-! ### the checks -/
theorem num_t {v lo hi : Int} (h1 : lo ≤ v) (h2 : v ≤ hi) : f_is_number [.int v, .int lo, .int hi] st = .ok (.bl true, st) := by
  unfold f_is_number m_is_number
  simp only [Mx.mDef, Mx.mSeq, Mx.mAsg, Mx.mRet, Mx.mDrop, Mx.mIfS, Mx.mNx, Mx.mAndV, Mx.mOrV, Mx.mNotV, Mx.mIf, Mx.mB, Mx.mAnd, Mx.mOr, Mx.mNot, Mx.mNil, Mx.mCons, Mx.mCB, Mx.mCall, Mx.m1, Mx.m2, Mx.mC, Mx.mVar, Mx.mChain, Mx.mTup, Mx.mLst, Mx.mPar, Mx.mPar3, Mx.gmName, Mx.gmTup, Mx.gmCons, Mx.gmNil, Mx.mFld, Mx.bind_ok, Mx.bind_fail, Mx.bind_exc, Mx.noX_ok, Mx.thenS_nx, Mx.thenS_rt, Mx.asB_bl, Mx.ofO_some, Mx.ofO_none, Mx.flow_nx, List.map_cons, List.map_nil, List.cons_append, List.nil_append, List.append_nil, List.getElem?_cons_zero, List.getElem?_cons_succ, List.set_cons_zero, List.set_cons_succ, List.replicate_succ, List.replicate_zero, List.length_cons, List.length_nil, Nat.zero_add, Nat.reduceAdd, if_true, if_false, reduceIte, reduceCtorEq, Bool.not_true, Bool.not_false, Bool.false_eq_true, Mx.fI2, Mx.fU, Option.map_some, Option.map_none, Nat.reduceEqDiff, Mx.isi_int, Mx.isi_int2, Mx.isi_tup, Mx.len_tup, decide_true, decide_false, h1, h2]
theorem num_f {v lo hi : Int} (h1 : ¬ (lo ≤ v ∧ v ≤ hi)) : f_is_number [.int v, .int lo, .int hi] st = .ok (.bl false, st) := by
  unfold f_is_number m_is_number
  by_cases h : lo ≤ v
  · have h2 : ¬ v ≤ hi := fun z => h1 ⟨h, z⟩
    simp only [Mx.mDef, Mx.mSeq, Mx.mAsg, Mx.mRet, Mx.mDrop, Mx.mIfS, Mx.mNx, Mx.mAndV, Mx.mOrV, Mx.mNotV, Mx.mIf, Mx.mB, Mx.mAnd, Mx.mOr, Mx.mNot, Mx.mNil, Mx.mCons, Mx.mCB, Mx.mCall, Mx.m1, Mx.m2, Mx.mC, Mx.mVar, Mx.mChain, Mx.mTup, Mx.mLst, Mx.mPar, Mx.mPar3, Mx.gmName, Mx.gmTup, Mx.gmCons, Mx.gmNil, Mx.mFld, Mx.bind_ok, Mx.bind_fail, Mx.bind_exc, Mx.noX_ok, Mx.thenS_nx, Mx.thenS_rt, Mx.asB_bl, Mx.ofO_some, Mx.ofO_none, Mx.flow_nx, List.map_cons, List.map_nil, List.cons_append, List.nil_append, List.append_nil, List.getElem?_cons_zero, List.getElem?_cons_succ, List.set_cons_zero, List.set_cons_succ, List.replicate_succ, List.replicate_zero, List.length_cons, List.length_nil, Nat.zero_add, Nat.reduceAdd, if_true, if_false, reduceIte, reduceCtorEq, Bool.not_true, Bool.not_false, Bool.false_eq_true, Mx.fI2, Mx.fU, Option.map_some, Option.map_none, Nat.reduceEqDiff, Mx.isi_int, Mx.isi_int2, Mx.isi_tup, Mx.len_tup, decide_true, decide_false, h, h2]
  · simp only [Mx.mDef, Mx.mSeq, Mx.mAsg, Mx.mRet, Mx.mDrop, Mx.mIfS, Mx.mNx, Mx.mAndV, Mx.mOrV, Mx.mNotV, Mx.mIf, Mx.mB, Mx.mAnd, Mx.mOr, Mx.mNot, Mx.mNil, Mx.mCons, Mx.mCB, Mx.mCall, Mx.m1, Mx.m2, Mx.mC, Mx.mVar, Mx.mChain, Mx.mTup, Mx.mLst, Mx.mPar, Mx.mPar3, Mx.gmName, Mx.gmTup, Mx.gmCons, Mx.gmNil, Mx.mFld, Mx.bind_ok, Mx.bind_fail, Mx.bind_exc, Mx.noX_ok, Mx.thenS_nx, Mx.thenS_rt, Mx.asB_bl, Mx.ofO_some, Mx.ofO_none, Mx.flow_nx, List.map_cons, List.map_nil, List.cons_append, List.nil_append, List.append_nil, List.getElem?_cons_zero, List.getElem?_cons_succ, List.set_cons_zero, List.set_cons_succ, List.replicate_succ, List.replicate_zero, List.length_cons, List.length_nil, Nat.zero_add, Nat.reduceAdd, if_true, if_false, reduceIte, reduceCtorEq, Bool.not_true, Bool.not_false, Bool.false_eq_true, Mx.fI2, Mx.fU, Option.map_some, Option.map_none, Nat.reduceEqDiff, Mx.isi_int, Mx.isi_int2, Mx.isi_tup, Mx.len_tup, decide_true, decide_false, h]
theorem tup_t {l : List A} {lo hi : Int} (h1 : lo ≤ l.length) (h2 : l.length ≤ hi) : f_is_tuple_of [.tup l, .int lo, .int hi] st = .ok (.bl true, st) := by
  unfold f_is_tuple_of m_is_tuple_of
  simp only [Mx.mDef, Mx.mSeq, Mx.mAsg, Mx.mRet, Mx.mDrop, Mx.mIfS, Mx.mNx, Mx.mAndV, Mx.mOrV, Mx.mNotV, Mx.mIf, Mx.mB, Mx.mAnd, Mx.mOr, Mx.mNot, Mx.mNil, Mx.mCons, Mx.mCB, Mx.mCall, Mx.m1, Mx.m2, Mx.mC, Mx.mVar, Mx.mChain, Mx.mTup, Mx.mLst, Mx.mPar, Mx.mPar3, Mx.gmName, Mx.gmTup, Mx.gmCons, Mx.gmNil, Mx.mFld, Mx.bind_ok, Mx.bind_fail, Mx.bind_exc, Mx.noX_ok, Mx.thenS_nx, Mx.thenS_rt, Mx.asB_bl, Mx.ofO_some, Mx.ofO_none, Mx.flow_nx, List.map_cons, List.map_nil, List.cons_append, List.nil_append, List.append_nil, List.getElem?_cons_zero, List.getElem?_cons_succ, List.set_cons_zero, List.set_cons_succ, List.replicate_succ, List.replicate_zero, List.length_cons, List.length_nil, Nat.zero_add, Nat.reduceAdd, if_true, if_false, reduceIte, reduceCtorEq, Bool.not_true, Bool.not_false, Bool.false_eq_true, Mx.fI2, Mx.fU, Option.map_some, Option.map_none, Nat.reduceEqDiff, Mx.isi_int, Mx.isi_int2, Mx.isi_tup, Mx.len_tup, decide_true, decide_false, h1, h2]
theorem nums_t {l : List Nat} {k m : Nat} {many most : Int} (h1 : l.length = k) (hk : k ≤ 1000) (e1 : many = k) (e2 : most = (m : Int) - 1) (h2 : ∀ x ∈ l, x < m) : f_are_numbers [aN l, .int many, .int most] st = .ok (.bl true, st) := by
  subst e1 e2 h1
  unfold f_are_numbers m_are_numbers
  have e : f_is_tuple_of [aN l, .int l.length, .int l.length] st = .ok (.bl true, st) := tup_t (by simp) (by simp)
  simp only [Mx.mDef, Mx.mSeq, Mx.mAsg, Mx.mRet, Mx.mDrop, Mx.mIfS, Mx.mNx, Mx.mAndV, Mx.mOrV, Mx.mNotV, Mx.mIf, Mx.mB, Mx.mAnd, Mx.mOr, Mx.mNot, Mx.mNil, Mx.mCons, Mx.mCB, Mx.mCall, Mx.m1, Mx.m2, Mx.mC, Mx.mVar, Mx.mChain, Mx.mTup, Mx.mLst, Mx.mPar, Mx.mPar3, Mx.gmName, Mx.gmTup, Mx.gmCons, Mx.gmNil, Mx.mFld, Mx.bind_ok, Mx.bind_fail, Mx.bind_exc, Mx.noX_ok, Mx.thenS_nx, Mx.thenS_rt, Mx.asB_bl, Mx.ofO_some, Mx.ofO_none, Mx.flow_nx, List.map_cons, List.map_nil, List.cons_append, List.nil_append, List.append_nil, List.getElem?_cons_zero, List.getElem?_cons_succ, List.set_cons_zero, List.set_cons_succ, List.replicate_succ, List.replicate_zero, List.length_cons, List.length_nil, Nat.zero_add, Nat.reduceAdd, if_true, if_false, reduceIte, reduceCtorEq, Bool.not_true, Bool.not_false, Bool.false_eq_true, Mx.fI2, Mx.fU, Option.map_some, Option.map_none, Nat.reduceEqDiff, Mx.isi_int, Mx.isi_int2, Mx.isi_tup, Mx.len_tup, decide_true, decide_false, e, mAll, miTup]
  unfold aN
  simp only [Mx.mDef, Mx.mSeq, Mx.mAsg, Mx.mRet, Mx.mDrop, Mx.mIfS, Mx.mNx, Mx.mAndV, Mx.mOrV, Mx.mNotV, Mx.mIf, Mx.mB, Mx.mAnd, Mx.mOr, Mx.mNot, Mx.mNil, Mx.mCons, Mx.mCB, Mx.mCall, Mx.m1, Mx.m2, Mx.mC, Mx.mVar, Mx.mChain, Mx.mTup, Mx.mLst, Mx.mPar, Mx.mPar3, Mx.gmName, Mx.gmTup, Mx.gmCons, Mx.gmNil, Mx.mFld, Mx.bind_ok, Mx.bind_fail, Mx.bind_exc, Mx.noX_ok, Mx.thenS_nx, Mx.thenS_rt, Mx.asB_bl, Mx.ofO_some, Mx.ofO_none, Mx.flow_nx, List.map_cons, List.map_nil, List.cons_append, List.nil_append, List.append_nil, List.getElem?_cons_zero, List.getElem?_cons_succ, List.set_cons_zero, List.set_cons_succ, List.replicate_succ, List.replicate_zero, List.length_cons, List.length_nil, Nat.zero_add, Nat.reduceAdd, if_true, if_false, reduceIte, reduceCtorEq, Bool.not_true, Bool.not_false, Bool.false_eq_true, Mx.fI2, Mx.fU, Option.map_some, Option.map_none, Nat.reduceEqDiff, Mx.isi_int, Mx.isi_int2, Mx.isi_tup, Mx.len_tup, decide_true, decide_false]
  rw [all_tup]
  · simp only [Mx.mDef, Mx.mSeq, Mx.mAsg, Mx.mRet, Mx.mDrop, Mx.mIfS, Mx.mNx, Mx.mAndV, Mx.mOrV, Mx.mNotV, Mx.mIf, Mx.mB, Mx.mAnd, Mx.mOr, Mx.mNot, Mx.mNil, Mx.mCons, Mx.mCB, Mx.mCall, Mx.m1, Mx.m2, Mx.mC, Mx.mVar, Mx.mChain, Mx.mTup, Mx.mLst, Mx.mPar, Mx.mPar3, Mx.gmName, Mx.gmTup, Mx.gmCons, Mx.gmNil, Mx.mFld, Mx.bind_ok, Mx.bind_fail, Mx.bind_exc, Mx.noX_ok, Mx.thenS_nx, Mx.thenS_rt, Mx.asB_bl, Mx.ofO_some, Mx.ofO_none, Mx.flow_nx, List.map_cons, List.map_nil, List.cons_append, List.nil_append, List.append_nil, List.getElem?_cons_zero, List.getElem?_cons_succ, List.set_cons_zero, List.set_cons_succ, List.replicate_succ, List.replicate_zero, List.length_cons, List.length_nil, Nat.zero_add, Nat.reduceAdd, if_true, if_false, reduceIte, reduceCtorEq, Bool.not_true, Bool.not_false, Bool.false_eq_true, Mx.fI2, Mx.fU, Option.map_some, Option.map_none, Nat.reduceEqDiff, Mx.isi_int, Mx.isi_int2, Mx.isi_tup, Mx.len_tup, decide_true, decide_false]
  · simp; omega
  · intro i a ha
    obtain ⟨x, _, hx, rfl⟩ := get_map ha
    have := h2 x hx
    have hh := num_t (st := st) (v := (x : Int)) (lo := 0) (hi := (m : Int) - 1) (by omega) (by omega)
    refine ⟨_, rfl, ?_⟩
    simp only [Mx.mDef, Mx.mSeq, Mx.mAsg, Mx.mRet, Mx.mDrop, Mx.mIfS, Mx.mNx, Mx.mAndV, Mx.mOrV, Mx.mNotV, Mx.mIf, Mx.mB, Mx.mAnd, Mx.mOr, Mx.mNot, Mx.mNil, Mx.mCons, Mx.mCB, Mx.mCall, Mx.m1, Mx.m2, Mx.mC, Mx.mVar, Mx.mChain, Mx.mTup, Mx.mLst, Mx.mPar, Mx.mPar3, Mx.gmName, Mx.gmTup, Mx.gmCons, Mx.gmNil, Mx.mFld, Mx.bind_ok, Mx.bind_fail, Mx.bind_exc, Mx.noX_ok, Mx.thenS_nx, Mx.thenS_rt, Mx.asB_bl, Mx.ofO_some, Mx.ofO_none, Mx.flow_nx, List.map_cons, List.map_nil, List.cons_append, List.nil_append, List.append_nil, List.getElem?_cons_zero, List.getElem?_cons_succ, List.set_cons_zero, List.set_cons_succ, List.replicate_succ, List.replicate_zero, List.length_cons, List.length_nil, Nat.zero_add, Nat.reduceAdd, if_true, if_false, reduceIte, reduceCtorEq, Bool.not_true, Bool.not_false, Bool.false_eq_true, Mx.fI2, Mx.fU, Option.map_some, Option.map_none, Nat.reduceEqDiff, Mx.isi_int, Mx.isi_int2, Mx.isi_tup, Mx.len_tup, decide_true, decide_false, wipeE, hh]
theorem steps_t (h : QOk q n) : f_are_steps [.tup (q.st.map aN)] st = .ok (.bl true, st) := by
  have hm1 := h.m1
  have hm2 := h.m2
  have hn1 := h.n1
  have hn2 := h.n2
  have e1 : f_is_tuple_of [.tup (q.st.map aN), .int 1, .int 6] st = .ok (.bl true, st) := tup_t (by simp; omega) (by simp; omega)
  have l0 : (q.st.getD 0 []).length = n := h.rlen (by omega)
  have e0 : fIx (.tup (q.st.map aN)) (.int 0) st = some (aN (q.st.getD 0 []), st) := ix_mN (k := 0) (by omega)
  have e2 : f_is_tuple_of [aN (q.st.getD 0 []), .int 1, .int 3] st = .ok (.bl true, st) := tup_t (by rw [List.length_map, l0]; omega) (by rw [List.length_map, l0]; omega)
  have e3 : fLen [aN (q.st.getD 0 [])] st = some (.int n, st) := by
    show some (A.int ((List.map _ (q.st.getD 0 [])).length : Nat), st) = _
    rw [List.length_map, l0]
  unfold f_are_steps m_are_steps
  simp only [Mx.mDef, Mx.mSeq, Mx.mAsg, Mx.mRet, Mx.mDrop, Mx.mIfS, Mx.mNx, Mx.mAndV, Mx.mOrV, Mx.mNotV, Mx.mIf, Mx.mB, Mx.mAnd, Mx.mOr, Mx.mNot, Mx.mNil, Mx.mCons, Mx.mCB, Mx.mCall, Mx.m1, Mx.m2, Mx.mC, Mx.mVar, Mx.mChain, Mx.mTup, Mx.mLst, Mx.mPar, Mx.mPar3, Mx.gmName, Mx.gmTup, Mx.gmCons, Mx.gmNil, Mx.mFld, Mx.bind_ok, Mx.bind_fail, Mx.bind_exc, Mx.noX_ok, Mx.thenS_nx, Mx.thenS_rt, Mx.asB_bl, Mx.ofO_some, Mx.ofO_none, Mx.flow_nx, List.map_cons, List.map_nil, List.cons_append, List.nil_append, List.append_nil, List.getElem?_cons_zero, List.getElem?_cons_succ, List.set_cons_zero, List.set_cons_succ, List.replicate_succ, List.replicate_zero, List.length_cons, List.length_nil, Nat.zero_add, Nat.reduceAdd, if_true, if_false, reduceIte, reduceCtorEq, Bool.not_true, Bool.not_false, Bool.false_eq_true, Mx.fI2, Mx.fU, Option.map_some, Option.map_none, Nat.reduceEqDiff, Mx.isi_int, Mx.isi_int2, Mx.isi_tup, Mx.len_tup, decide_true, decide_false, e1, e0, e2, e3, mAll, miTup, List.length_map]
  rw [all_tup]
  · simp only [Mx.mDef, Mx.mSeq, Mx.mAsg, Mx.mRet, Mx.mDrop, Mx.mIfS, Mx.mNx, Mx.mAndV, Mx.mOrV, Mx.mNotV, Mx.mIf, Mx.mB, Mx.mAnd, Mx.mOr, Mx.mNot, Mx.mNil, Mx.mCons, Mx.mCB, Mx.mCall, Mx.m1, Mx.m2, Mx.mC, Mx.mVar, Mx.mChain, Mx.mTup, Mx.mLst, Mx.mPar, Mx.mPar3, Mx.gmName, Mx.gmTup, Mx.gmCons, Mx.gmNil, Mx.mFld, Mx.bind_ok, Mx.bind_fail, Mx.bind_exc, Mx.noX_ok, Mx.thenS_nx, Mx.thenS_rt, Mx.asB_bl, Mx.ofO_some, Mx.ofO_none, Mx.flow_nx, List.map_cons, List.map_nil, List.cons_append, List.nil_append, List.append_nil, List.getElem?_cons_zero, List.getElem?_cons_succ, List.set_cons_zero, List.set_cons_succ, List.replicate_succ, List.replicate_zero, List.length_cons, List.length_nil, Nat.zero_add, Nat.reduceAdd, if_true, if_false, reduceIte, reduceCtorEq, Bool.not_true, Bool.not_false, Bool.false_eq_true, Mx.fI2, Mx.fU, Option.map_some, Option.map_none, Nat.reduceEqDiff, Mx.isi_int, Mx.isi_int2, Mx.isi_tup, Mx.len_tup, decide_true, decide_false]
  · simp; omega
  · intro i a ha
    obtain ⟨x, _, hx, rfl⟩ := get_map ha
    have hh := nums_t (st := st) (l := x) (k := n) (m := q.st.length) (many := n) (most := (q.st.length : Int) - 1) (h.rl x hx) (by omega) rfl rfl (h.rx x hx)
    refine ⟨_, rfl, ?_⟩
    simp only [Mx.mDef, Mx.mSeq, Mx.mAsg, Mx.mRet, Mx.mDrop, Mx.mIfS, Mx.mNx, Mx.mAndV, Mx.mOrV, Mx.mNotV, Mx.mIf, Mx.mB, Mx.mAnd, Mx.mOr, Mx.mNot, Mx.mNil, Mx.mCons, Mx.mCB, Mx.mCall, Mx.m1, Mx.m2, Mx.mC, Mx.mVar, Mx.mChain, Mx.mTup, Mx.mLst, Mx.mPar, Mx.mPar3, Mx.gmName, Mx.gmTup, Mx.gmCons, Mx.gmNil, Mx.mFld, Mx.bind_ok, Mx.bind_fail, Mx.bind_exc, Mx.noX_ok, Mx.thenS_nx, Mx.thenS_rt, Mx.asB_bl, Mx.ofO_some, Mx.ofO_none, Mx.flow_nx, List.map_cons, List.map_nil, List.cons_append, List.nil_append, List.append_nil, List.getElem?_cons_zero, List.getElem?_cons_succ, List.set_cons_zero, List.set_cons_succ, List.replicate_succ, List.replicate_zero, List.length_cons, List.length_nil, Nat.zero_add, Nat.reduceAdd, if_true, if_false, reduceIte, reduceCtorEq, Bool.not_true, Bool.not_false, Bool.false_eq_true, Mx.fI2, Mx.fU, Option.map_some, Option.map_none, Nat.reduceEqDiff, Mx.isi_int, Mx.isi_int2, Mx.isi_tup, Mx.len_tup, decide_true, decide_false, wipeE, hh]
theorem checkQ_t (h : QOk q n) : f_check_question [aQ q] st = .ok (.non, st) := by
  have hm1 := h.m1
  have hm2 := h.m2
  have e1 : f_is_tuple_of [aQ q, .int 2, .int 2] st = .ok (.bl true, st) := tup_t (by simp) (by simp)
  have e2 : f_are_numbers [aN q.ms, .int q.st.length, .int 1] st = .ok (.bl true, st) := nums_t (m := 2) h.ml (by omega) rfl rfl h.mx
  unfold f_check_question m_check_question
  simp only [Mx.mDef, Mx.mSeq, Mx.mAsg, Mx.mRet, Mx.mDrop, Mx.mIfS, Mx.mNx, Mx.mAndV, Mx.mOrV, Mx.mNotV, Mx.mIf, Mx.mB, Mx.mAnd, Mx.mOr, Mx.mNot, Mx.mNil, Mx.mCons, Mx.mCB, Mx.mCall, Mx.m1, Mx.m2, Mx.mC, Mx.mVar, Mx.mChain, Mx.mTup, Mx.mLst, Mx.mPar, Mx.mPar3, Mx.gmName, Mx.gmTup, Mx.gmCons, Mx.gmNil, Mx.mFld, Mx.bind_ok, Mx.bind_fail, Mx.bind_exc, Mx.noX_ok, Mx.thenS_nx, Mx.thenS_rt, Mx.asB_bl, Mx.ofO_some, Mx.ofO_none, Mx.flow_nx, List.map_cons, List.map_nil, List.cons_append, List.nil_append, List.append_nil, List.getElem?_cons_zero, List.getElem?_cons_succ, List.set_cons_zero, List.set_cons_succ, List.replicate_succ, List.replicate_zero, List.length_cons, List.length_nil, Nat.zero_add, Nat.reduceAdd, if_true, if_false, reduceIte, reduceCtorEq, Bool.not_true, Bool.not_false, Bool.false_eq_true, Mx.fI2, Mx.fU, Option.map_some, Option.map_none, Nat.reduceEqDiff, Mx.isi_int, Mx.isi_int2, Mx.isi_tup, Mx.len_tup, decide_true, decide_false, e1]
  unfold aQ
  simp only [Mx.mDef, Mx.mSeq, Mx.mAsg, Mx.mRet, Mx.mDrop, Mx.mIfS, Mx.mNx, Mx.mAndV, Mx.mOrV, Mx.mNotV, Mx.mIf, Mx.mB, Mx.mAnd, Mx.mOr, Mx.mNot, Mx.mNil, Mx.mCons, Mx.mCB, Mx.mCall, Mx.m1, Mx.m2, Mx.mC, Mx.mVar, Mx.mChain, Mx.mTup, Mx.mLst, Mx.mPar, Mx.mPar3, Mx.gmName, Mx.gmTup, Mx.gmCons, Mx.gmNil, Mx.mFld, Mx.bind_ok, Mx.bind_fail, Mx.bind_exc, Mx.noX_ok, Mx.thenS_nx, Mx.thenS_rt, Mx.asB_bl, Mx.ofO_some, Mx.ofO_none, Mx.flow_nx, List.map_cons, List.map_nil, List.cons_append, List.nil_append, List.append_nil, List.getElem?_cons_zero, List.getElem?_cons_succ, List.set_cons_zero, List.set_cons_succ, List.replicate_succ, List.replicate_zero, List.length_cons, List.length_nil, Nat.zero_add, Nat.reduceAdd, if_true, if_false, reduceIte, reduceCtorEq, Bool.not_true, Bool.not_false, Bool.false_eq_true, Mx.fI2, Mx.fU, Option.map_some, Option.map_none, Nat.reduceEqDiff, Mx.isi_int, Mx.isi_int2, Mx.isi_tup, Mx.len_tup, decide_true, decide_false, steps_t h, List.length_map, e2]
theorem names_t (h : QOk q n) : f_names_of [aQ q] st = .ok (.int n, st) := by
  have hm1 := h.m1
  have l0 : (q.st.getD 0 []).length = n := h.rlen (by omega)
  have e0 : fIx (.tup (q.st.map aN)) (.int 0) st = some (aN (q.st.getD 0 []), st) := ix_mN (k := 0) (by omega)
  have e3 : fLen [aN (q.st.getD 0 [])] st = some (.int n, st) := by
    show some (A.int ((List.map _ (q.st.getD 0 [])).length : Nat), st) = _
    rw [List.length_map, l0]
  unfold f_names_of m_names_of
  simp only [Mx.mDef, Mx.mSeq, Mx.mAsg, Mx.mRet, Mx.mDrop, Mx.mIfS, Mx.mNx, Mx.mAndV, Mx.mOrV, Mx.mNotV, Mx.mIf, Mx.mB, Mx.mAnd, Mx.mOr, Mx.mNot, Mx.mNil, Mx.mCons, Mx.mCB, Mx.mCall, Mx.m1, Mx.m2, Mx.mC, Mx.mVar, Mx.mChain, Mx.mTup, Mx.mLst, Mx.mPar, Mx.mPar3, Mx.gmName, Mx.gmTup, Mx.gmCons, Mx.gmNil, Mx.mFld, Mx.bind_ok, Mx.bind_fail, Mx.bind_exc, Mx.noX_ok, Mx.thenS_nx, Mx.thenS_rt, Mx.asB_bl, Mx.ofO_some, Mx.ofO_none, Mx.flow_nx, List.map_cons, List.map_nil, List.cons_append, List.nil_append, List.append_nil, List.getElem?_cons_zero, List.getElem?_cons_succ, List.set_cons_zero, List.set_cons_succ, List.replicate_succ, List.replicate_zero, List.length_cons, List.length_nil, Nat.zero_add, Nat.reduceAdd, if_true, if_false, reduceIte, reduceCtorEq, Bool.not_true, Bool.not_false, Bool.false_eq_true, Mx.fI2, Mx.fU, Option.map_some, Option.map_none, Nat.reduceEqDiff, Mx.isi_int, Mx.isi_int2, Mx.isi_tup, Mx.len_tup, decide_true, decide_false, ix_q0, e0, e3]
theorem manner_t {b : Bool} : f_check_manner [aM b] st = .ok (.non, st) := by
  have e1 : toP st 40 (aM b) = some (.str (if b = true then "named" else "blind")) := by unfold aM toP; rfl
  have e2 : toPs st 40 [.str "named", .str "blind"] = some [.str "named", .str "blind"] := by simp [toPs, toP]
  have e3 : inA (aM b) (.tup [.str "named", .str "blind"]) st = some true := by
    show inDeep (aM b) [.str "named", .str "blind"] st = _
    unfold inDeep
    rw [e1, e2]
    cases b <;> decide +kernel
  have e : fNotIn (aM b) (.tup [.str "named", .str "blind"]) st = some (.bl false, st) := by
    unfold fNotIn
    rw [e3]
    rfl
  unfold f_check_manner m_check_manner
  simp only [Mx.mDef, Mx.mSeq, Mx.mAsg, Mx.mRet, Mx.mDrop, Mx.mIfS, Mx.mNx, Mx.mAndV, Mx.mOrV, Mx.mNotV, Mx.mIf, Mx.mB, Mx.mAnd, Mx.mOr, Mx.mNot, Mx.mNil, Mx.mCons, Mx.mCB, Mx.mCall, Mx.m1, Mx.m2, Mx.mC, Mx.mVar, Mx.mChain, Mx.mTup, Mx.mLst, Mx.mPar, Mx.mPar3, Mx.gmName, Mx.gmTup, Mx.gmCons, Mx.gmNil, Mx.mFld, Mx.bind_ok, Mx.bind_fail, Mx.bind_exc, Mx.noX_ok, Mx.thenS_nx, Mx.thenS_rt, Mx.asB_bl, Mx.ofO_some, Mx.ofO_none, Mx.flow_nx, List.map_cons, List.map_nil, List.cons_append, List.nil_append, List.append_nil, List.getElem?_cons_zero, List.getElem?_cons_succ, List.set_cons_zero, List.set_cons_succ, List.replicate_succ, List.replicate_zero, List.length_cons, List.length_nil, Nat.zero_add, Nat.reduceAdd, if_true, if_false, reduceIte, reduceCtorEq, Bool.not_true, Bool.not_false, Bool.false_eq_true, Mx.fI2, Mx.fU, Option.map_some, Option.map_none, Nat.reduceEqDiff, Mx.isi_int, Mx.isi_int2, Mx.isi_tup, Mx.len_tup, decide_true, decide_false, show ((2 : Nat) ≤ sizeLine) = True by rw [sizeLine_eq]; simp, e]
theorem pair_t {p : Nat × Nat} {m : Nat} (h1 : p.1 < m) (h2 : p.2 < 2) : f_is_pair [aP p, .int ((m : Int) - 1)] st = .ok (.bl true, st) := by
  have e1 : f_is_tuple_of [aP p, .int 2, .int 2] st = .ok (.bl true, st) := tup_t (by simp) (by simp)
  have e2 : fIx (aP p) (.int 0) st = some (.int p.1, st) := rfl
  have e3 : fIx (aP p) (.int 1) st = some (.int p.2, st) := rfl
  unfold f_is_pair m_is_pair
  simp only [Mx.mDef, Mx.mSeq, Mx.mAsg, Mx.mRet, Mx.mDrop, Mx.mIfS, Mx.mNx, Mx.mAndV, Mx.mOrV, Mx.mNotV, Mx.mIf, Mx.mB, Mx.mAnd, Mx.mOr, Mx.mNot, Mx.mNil, Mx.mCons, Mx.mCB, Mx.mCall, Mx.m1, Mx.m2, Mx.mC, Mx.mVar, Mx.mChain, Mx.mTup, Mx.mLst, Mx.mPar, Mx.mPar3, Mx.gmName, Mx.gmTup, Mx.gmCons, Mx.gmNil, Mx.mFld, Mx.bind_ok, Mx.bind_fail, Mx.bind_exc, Mx.noX_ok, Mx.thenS_nx, Mx.thenS_rt, Mx.asB_bl, Mx.ofO_some, Mx.ofO_none, Mx.flow_nx, List.map_cons, List.map_nil, List.cons_append, List.nil_append, List.append_nil, List.getElem?_cons_zero, List.getElem?_cons_succ, List.set_cons_zero, List.set_cons_succ, List.replicate_succ, List.replicate_zero, List.length_cons, List.length_nil, Nat.zero_add, Nat.reduceAdd, if_true, if_false, reduceIte, reduceCtorEq, Bool.not_true, Bool.not_false, Bool.false_eq_true, Mx.fI2, Mx.fU, Option.map_some, Option.map_none, Nat.reduceEqDiff, Mx.isi_int, Mx.isi_int2, Mx.isi_tup, Mx.len_tup, decide_true, decide_false, e1, e2, e3, num_t (st := st) (v := (p.1 : Int)) (lo := 0) (hi := (m : Int) - 1) (by omega) (by omega), num_t (st := st) (v := (p.2 : Int)) (lo := 0) (hi := 1) (by omega) (by omega)]
theorem pairs_t {l : List (Nat × Nat)} {m k : Nat} (hl : l.length = k) (hk : k ≤ 1000) (h1 : ∀ p ∈ l, p.1 < m) (h2 : ∀ p ∈ l, p.2 < 2) : f_are_pairs [.tup (l.map aP), .int k, .int ((m : Int) - 1)] st = .ok (.bl true, st) := by
  have e1 : f_is_tuple_of [.tup (l.map aP), .int k, .int k] st = .ok (.bl true, st) := tup_t (by simp [hl]) (by simp [hl])
  unfold f_are_pairs m_are_pairs
  simp only [Mx.mDef, Mx.mSeq, Mx.mAsg, Mx.mRet, Mx.mDrop, Mx.mIfS, Mx.mNx, Mx.mAndV, Mx.mOrV, Mx.mNotV, Mx.mIf, Mx.mB, Mx.mAnd, Mx.mOr, Mx.mNot, Mx.mNil, Mx.mCons, Mx.mCB, Mx.mCall, Mx.m1, Mx.m2, Mx.mC, Mx.mVar, Mx.mChain, Mx.mTup, Mx.mLst, Mx.mPar, Mx.mPar3, Mx.gmName, Mx.gmTup, Mx.gmCons, Mx.gmNil, Mx.mFld, Mx.bind_ok, Mx.bind_fail, Mx.bind_exc, Mx.noX_ok, Mx.thenS_nx, Mx.thenS_rt, Mx.asB_bl, Mx.ofO_some, Mx.ofO_none, Mx.flow_nx, List.map_cons, List.map_nil, List.cons_append, List.nil_append, List.append_nil, List.getElem?_cons_zero, List.getElem?_cons_succ, List.set_cons_zero, List.set_cons_succ, List.replicate_succ, List.replicate_zero, List.length_cons, List.length_nil, Nat.zero_add, Nat.reduceAdd, if_true, if_false, reduceIte, reduceCtorEq, Bool.not_true, Bool.not_false, Bool.false_eq_true, Mx.fI2, Mx.fU, Option.map_some, Option.map_none, Nat.reduceEqDiff, Mx.isi_int, Mx.isi_int2, Mx.isi_tup, Mx.len_tup, decide_true, decide_false, e1, mAll, miTup]
  rw [all_tup]
  · simp only [Mx.mDef, Mx.mSeq, Mx.mAsg, Mx.mRet, Mx.mDrop, Mx.mIfS, Mx.mNx, Mx.mAndV, Mx.mOrV, Mx.mNotV, Mx.mIf, Mx.mB, Mx.mAnd, Mx.mOr, Mx.mNot, Mx.mNil, Mx.mCons, Mx.mCB, Mx.mCall, Mx.m1, Mx.m2, Mx.mC, Mx.mVar, Mx.mChain, Mx.mTup, Mx.mLst, Mx.mPar, Mx.mPar3, Mx.gmName, Mx.gmTup, Mx.gmCons, Mx.gmNil, Mx.mFld, Mx.bind_ok, Mx.bind_fail, Mx.bind_exc, Mx.noX_ok, Mx.thenS_nx, Mx.thenS_rt, Mx.asB_bl, Mx.ofO_some, Mx.ofO_none, Mx.flow_nx, List.map_cons, List.map_nil, List.cons_append, List.nil_append, List.append_nil, List.getElem?_cons_zero, List.getElem?_cons_succ, List.set_cons_zero, List.set_cons_succ, List.replicate_succ, List.replicate_zero, List.length_cons, List.length_nil, Nat.zero_add, Nat.reduceAdd, if_true, if_false, reduceIte, reduceCtorEq, Bool.not_true, Bool.not_false, Bool.false_eq_true, Mx.fI2, Mx.fU, Option.map_some, Option.map_none, Nat.reduceEqDiff, Mx.isi_int, Mx.isi_int2, Mx.isi_tup, Mx.len_tup, decide_true, decide_false]
  · simp; omega
  · intro i a ha
    obtain ⟨x, _, hx, rfl⟩ := get_map ha
    have hh := pair_t (st := st) (h1 x hx) (h2 x hx)
    refine ⟨_, rfl, ?_⟩
    simp only [Mx.mDef, Mx.mSeq, Mx.mAsg, Mx.mRet, Mx.mDrop, Mx.mIfS, Mx.mNx, Mx.mAndV, Mx.mOrV, Mx.mNotV, Mx.mIf, Mx.mB, Mx.mAnd, Mx.mOr, Mx.mNot, Mx.mNil, Mx.mCons, Mx.mCB, Mx.mCall, Mx.m1, Mx.m2, Mx.mC, Mx.mVar, Mx.mChain, Mx.mTup, Mx.mLst, Mx.mPar, Mx.mPar3, Mx.gmName, Mx.gmTup, Mx.gmCons, Mx.gmNil, Mx.mFld, Mx.bind_ok, Mx.bind_fail, Mx.bind_exc, Mx.noX_ok, Mx.thenS_nx, Mx.thenS_rt, Mx.asB_bl, Mx.ofO_some, Mx.ofO_none, Mx.flow_nx, List.map_cons, List.map_nil, List.cons_append, List.nil_append, List.append_nil, List.getElem?_cons_zero, List.getElem?_cons_succ, List.set_cons_zero, List.set_cons_succ, List.replicate_succ, List.replicate_zero, List.length_cons, List.length_nil, Nat.zero_add, Nat.reduceAdd, if_true, if_false, reduceIte, reduceCtorEq, Bool.not_true, Bool.not_false, Bool.false_eq_true, Mx.fI2, Mx.fU, Option.map_some, Option.map_none, Nat.reduceEqDiff, Mx.isi_int, Mx.isi_int2, Mx.isi_tup, Mx.len_tup, decide_true, decide_false, wipeE, hh]
theorem opens_t (h : ROk r n c) {most : Int} (hn : n ≤ 1000) (hm : (r.op.length : Int) ≤ most) : f_are_opens [.tup (r.op.map fun l => .tup (l.map aP)), .int n, .int most] st = .ok (.bl true, st) := by
  have hm1 := h.m1
  have hm2 := h.m2
  have e1 : f_is_tuple_of [.tup (r.op.map fun l => .tup (l.map aP)), .int 1, .int most] st = .ok (.bl true, st) := tup_t (by simp; omega) (by simp; omega)
  unfold f_are_opens m_are_opens
  simp only [Mx.mDef, Mx.mSeq, Mx.mAsg, Mx.mRet, Mx.mDrop, Mx.mIfS, Mx.mNx, Mx.mAndV, Mx.mOrV, Mx.mNotV, Mx.mIf, Mx.mB, Mx.mAnd, Mx.mOr, Mx.mNot, Mx.mNil, Mx.mCons, Mx.mCB, Mx.mCall, Mx.m1, Mx.m2, Mx.mC, Mx.mVar, Mx.mChain, Mx.mTup, Mx.mLst, Mx.mPar, Mx.mPar3, Mx.gmName, Mx.gmTup, Mx.gmCons, Mx.gmNil, Mx.mFld, Mx.bind_ok, Mx.bind_fail, Mx.bind_exc, Mx.noX_ok, Mx.thenS_nx, Mx.thenS_rt, Mx.asB_bl, Mx.ofO_some, Mx.ofO_none, Mx.flow_nx, List.map_cons, List.map_nil, List.cons_append, List.nil_append, List.append_nil, List.getElem?_cons_zero, List.getElem?_cons_succ, List.set_cons_zero, List.set_cons_succ, List.replicate_succ, List.replicate_zero, List.length_cons, List.length_nil, Nat.zero_add, Nat.reduceAdd, if_true, if_false, reduceIte, reduceCtorEq, Bool.not_true, Bool.not_false, Bool.false_eq_true, Mx.fI2, Mx.fU, Option.map_some, Option.map_none, Nat.reduceEqDiff, Mx.isi_int, Mx.isi_int2, Mx.isi_tup, Mx.len_tup, decide_true, decide_false, e1, mAll, miTup, List.length_map]
  rw [all_tup]
  · simp only [Mx.mDef, Mx.mSeq, Mx.mAsg, Mx.mRet, Mx.mDrop, Mx.mIfS, Mx.mNx, Mx.mAndV, Mx.mOrV, Mx.mNotV, Mx.mIf, Mx.mB, Mx.mAnd, Mx.mOr, Mx.mNot, Mx.mNil, Mx.mCons, Mx.mCB, Mx.mCall, Mx.m1, Mx.m2, Mx.mC, Mx.mVar, Mx.mChain, Mx.mTup, Mx.mLst, Mx.mPar, Mx.mPar3, Mx.gmName, Mx.gmTup, Mx.gmCons, Mx.gmNil, Mx.mFld, Mx.bind_ok, Mx.bind_fail, Mx.bind_exc, Mx.noX_ok, Mx.thenS_nx, Mx.thenS_rt, Mx.asB_bl, Mx.ofO_some, Mx.ofO_none, Mx.flow_nx, List.map_cons, List.map_nil, List.cons_append, List.nil_append, List.append_nil, List.getElem?_cons_zero, List.getElem?_cons_succ, List.set_cons_zero, List.set_cons_succ, List.replicate_succ, List.replicate_zero, List.length_cons, List.length_nil, Nat.zero_add, Nat.reduceAdd, if_true, if_false, reduceIte, reduceCtorEq, Bool.not_true, Bool.not_false, Bool.false_eq_true, Mx.fI2, Mx.fU, Option.map_some, Option.map_none, Nat.reduceEqDiff, Mx.isi_int, Mx.isi_int2, Mx.isi_tup, Mx.len_tup, decide_true, decide_false]
  · simp; omega
  · intro i a ha
    obtain ⟨x, _, hx, rfl⟩ := get_map ha
    have hh := pairs_t (st := st) (h.ol x hx) hn (h.o1 x hx) (h.o2 x hx)
    refine ⟨_, rfl, ?_⟩
    simp only [Mx.mDef, Mx.mSeq, Mx.mAsg, Mx.mRet, Mx.mDrop, Mx.mIfS, Mx.mNx, Mx.mAndV, Mx.mOrV, Mx.mNotV, Mx.mIf, Mx.mB, Mx.mAnd, Mx.mOr, Mx.mNot, Mx.mNil, Mx.mCons, Mx.mCB, Mx.mCall, Mx.m1, Mx.m2, Mx.mC, Mx.mVar, Mx.mChain, Mx.mTup, Mx.mLst, Mx.mPar, Mx.mPar3, Mx.gmName, Mx.gmTup, Mx.gmCons, Mx.gmNil, Mx.mFld, Mx.bind_ok, Mx.bind_fail, Mx.bind_exc, Mx.noX_ok, Mx.thenS_nx, Mx.thenS_rt, Mx.asB_bl, Mx.ofO_some, Mx.ofO_none, Mx.flow_nx, List.map_cons, List.map_nil, List.cons_append, List.nil_append, List.append_nil, List.getElem?_cons_zero, List.getElem?_cons_succ, List.set_cons_zero, List.set_cons_succ, List.replicate_succ, List.replicate_zero, List.length_cons, List.length_nil, Nat.zero_add, Nat.reduceAdd, if_true, if_false, reduceIte, reduceCtorEq, Bool.not_true, Bool.not_false, Bool.false_eq_true, Mx.fI2, Mx.fU, Option.map_some, Option.map_none, Nat.reduceEqDiff, Mx.isi_int, Mx.isi_int2, Mx.isi_tup, Mx.len_tup, decide_true, decide_false, wipeE, hh]
theorem closes_t (h : ROk r n c) (hc : c ≤ 1000) : f_are_closes [.tup (r.cl.map aN), .int r.op.length, .int c] st = .ok (.bl true, st) := by
  have hm1 := h.m1
  have hm2 := h.m2
  have hcm := h.cm
  have e1 : f_is_tuple_of [.tup (r.cl.map aN), .int r.op.length, .int r.op.length] st = .ok (.bl true, st) := tup_t (by simp; omega) (by simp; omega)
  unfold f_are_closes m_are_closes
  simp only [Mx.mDef, Mx.mSeq, Mx.mAsg, Mx.mRet, Mx.mDrop, Mx.mIfS, Mx.mNx, Mx.mAndV, Mx.mOrV, Mx.mNotV, Mx.mIf, Mx.mB, Mx.mAnd, Mx.mOr, Mx.mNot, Mx.mNil, Mx.mCons, Mx.mCB, Mx.mCall, Mx.m1, Mx.m2, Mx.mC, Mx.mVar, Mx.mChain, Mx.mTup, Mx.mLst, Mx.mPar, Mx.mPar3, Mx.gmName, Mx.gmTup, Mx.gmCons, Mx.gmNil, Mx.mFld, Mx.bind_ok, Mx.bind_fail, Mx.bind_exc, Mx.noX_ok, Mx.thenS_nx, Mx.thenS_rt, Mx.asB_bl, Mx.ofO_some, Mx.ofO_none, Mx.flow_nx, List.map_cons, List.map_nil, List.cons_append, List.nil_append, List.append_nil, List.getElem?_cons_zero, List.getElem?_cons_succ, List.set_cons_zero, List.set_cons_succ, List.replicate_succ, List.replicate_zero, List.length_cons, List.length_nil, Nat.zero_add, Nat.reduceAdd, if_true, if_false, reduceIte, reduceCtorEq, Bool.not_true, Bool.not_false, Bool.false_eq_true, Mx.fI2, Mx.fU, Option.map_some, Option.map_none, Nat.reduceEqDiff, Mx.isi_int, Mx.isi_int2, Mx.isi_tup, Mx.len_tup, decide_true, decide_false, e1, mAll, miTup, List.length_map]
  rw [all_tup]
  · simp only [Mx.mDef, Mx.mSeq, Mx.mAsg, Mx.mRet, Mx.mDrop, Mx.mIfS, Mx.mNx, Mx.mAndV, Mx.mOrV, Mx.mNotV, Mx.mIf, Mx.mB, Mx.mAnd, Mx.mOr, Mx.mNot, Mx.mNil, Mx.mCons, Mx.mCB, Mx.mCall, Mx.m1, Mx.m2, Mx.mC, Mx.mVar, Mx.mChain, Mx.mTup, Mx.mLst, Mx.mPar, Mx.mPar3, Mx.gmName, Mx.gmTup, Mx.gmCons, Mx.gmNil, Mx.mFld, Mx.bind_ok, Mx.bind_fail, Mx.bind_exc, Mx.noX_ok, Mx.thenS_nx, Mx.thenS_rt, Mx.asB_bl, Mx.ofO_some, Mx.ofO_none, Mx.flow_nx, List.map_cons, List.map_nil, List.cons_append, List.nil_append, List.append_nil, List.getElem?_cons_zero, List.getElem?_cons_succ, List.set_cons_zero, List.set_cons_succ, List.replicate_succ, List.replicate_zero, List.length_cons, List.length_nil, Nat.zero_add, Nat.reduceAdd, if_true, if_false, reduceIte, reduceCtorEq, Bool.not_true, Bool.not_false, Bool.false_eq_true, Mx.fI2, Mx.fU, Option.map_some, Option.map_none, Nat.reduceEqDiff, Mx.isi_int, Mx.isi_int2, Mx.isi_tup, Mx.len_tup, decide_true, decide_false]
  · simp; omega
  · intro i a ha
    obtain ⟨x, _, hx, rfl⟩ := get_map ha
    have hh := nums_t (st := st) (l := x) (k := c) (m := r.op.length) (many := c) (most := (r.op.length : Int) - 1) (h.cl x hx) hc rfl rfl (h.cx x hx)
    refine ⟨_, rfl, ?_⟩
    simp only [Mx.mDef, Mx.mSeq, Mx.mAsg, Mx.mRet, Mx.mDrop, Mx.mIfS, Mx.mNx, Mx.mAndV, Mx.mOrV, Mx.mNotV, Mx.mIf, Mx.mB, Mx.mAnd, Mx.mOr, Mx.mNot, Mx.mNil, Mx.mCons, Mx.mCB, Mx.mCall, Mx.m1, Mx.m2, Mx.mC, Mx.mVar, Mx.mChain, Mx.mTup, Mx.mLst, Mx.mPar, Mx.mPar3, Mx.gmName, Mx.gmTup, Mx.gmCons, Mx.gmNil, Mx.mFld, Mx.bind_ok, Mx.bind_fail, Mx.bind_exc, Mx.noX_ok, Mx.thenS_nx, Mx.thenS_rt, Mx.asB_bl, Mx.ofO_some, Mx.ofO_none, Mx.flow_nx, List.map_cons, List.map_nil, List.cons_append, List.nil_append, List.append_nil, List.getElem?_cons_zero, List.getElem?_cons_succ, List.set_cons_zero, List.set_cons_succ, List.replicate_succ, List.replicate_zero, List.length_cons, List.length_nil, Nat.zero_add, Nat.reduceAdd, if_true, if_false, reduceIte, reduceCtorEq, Bool.not_true, Bool.not_false, Bool.false_eq_true, Mx.fI2, Mx.fU, Option.map_some, Option.map_none, Nat.reduceEqDiff, Mx.isi_int, Mx.isi_int2, Mx.isi_tup, Mx.len_tup, decide_true, decide_false, wipeE, hh]
theorem ways_t {b : Bool} : f_ways_to_close [.int n, aM b] st = .ok (.int (ways n b), st) := by
  have e : fEq (aM b) (.str "named") st = some (.bl b, st) := by cases b <;> rfl
  unfold f_ways_to_close m_ways_to_close
  cases b <;> simp only [Mx.mDef, Mx.mSeq, Mx.mAsg, Mx.mRet, Mx.mDrop, Mx.mIfS, Mx.mNx, Mx.mAndV, Mx.mOrV, Mx.mNotV, Mx.mIf, Mx.mB, Mx.mAnd, Mx.mOr, Mx.mNot, Mx.mNil, Mx.mCons, Mx.mCB, Mx.mCall, Mx.m1, Mx.m2, Mx.mC, Mx.mVar, Mx.mChain, Mx.mTup, Mx.mLst, Mx.mPar, Mx.mPar3, Mx.gmName, Mx.gmTup, Mx.gmCons, Mx.gmNil, Mx.mFld, Mx.bind_ok, Mx.bind_fail, Mx.bind_exc, Mx.noX_ok, Mx.thenS_nx, Mx.thenS_rt, Mx.asB_bl, Mx.ofO_some, Mx.ofO_none, Mx.flow_nx, List.map_cons, List.map_nil, List.cons_append, List.nil_append, List.append_nil, List.getElem?_cons_zero, List.getElem?_cons_succ, List.set_cons_zero, List.set_cons_succ, List.replicate_succ, List.replicate_zero, List.length_cons, List.length_nil, Nat.zero_add, Nat.reduceAdd, if_true, if_false, reduceIte, reduceCtorEq, Bool.not_true, Bool.not_false, Bool.false_eq_true, Mx.fI2, Mx.fU, Option.map_some, Option.map_none, Nat.reduceEqDiff, Mx.isi_int, Mx.isi_int2, Mx.isi_tup, Mx.len_tup, decide_true, decide_false, e, ways] <;> rfl
theorem wrong_t {b : Bool} (h : ROk r n (ways n b)) (hn : n ≤ 1000) : f_wrong_part [.int n, aM b, aR r, .int 6] st = .ok (.non, st) := by
  have hm2 := h.m2
  have e1 : f_is_tuple_of [aR r, .int 2, .int 2] st = .ok (.bl true, st) := tup_t (by simp) (by simp)
  have hw : ways n b ≤ 1000 := by unfold ways; split <;> omega
  unfold f_wrong_part m_wrong_part
  simp only [Mx.mDef, Mx.mSeq, Mx.mAsg, Mx.mRet, Mx.mDrop, Mx.mIfS, Mx.mNx, Mx.mAndV, Mx.mOrV, Mx.mNotV, Mx.mIf, Mx.mB, Mx.mAnd, Mx.mOr, Mx.mNot, Mx.mNil, Mx.mCons, Mx.mCB, Mx.mCall, Mx.m1, Mx.m2, Mx.mC, Mx.mVar, Mx.mChain, Mx.mTup, Mx.mLst, Mx.mPar, Mx.mPar3, Mx.gmName, Mx.gmTup, Mx.gmCons, Mx.gmNil, Mx.mFld, Mx.bind_ok, Mx.bind_fail, Mx.bind_exc, Mx.noX_ok, Mx.thenS_nx, Mx.thenS_rt, Mx.asB_bl, Mx.ofO_some, Mx.ofO_none, Mx.flow_nx, List.map_cons, List.map_nil, List.cons_append, List.nil_append, List.append_nil, List.getElem?_cons_zero, List.getElem?_cons_succ, List.set_cons_zero, List.set_cons_succ, List.replicate_succ, List.replicate_zero, List.length_cons, List.length_nil, Nat.zero_add, Nat.reduceAdd, if_true, if_false, reduceIte, reduceCtorEq, Bool.not_true, Bool.not_false, Bool.false_eq_true, Mx.fI2, Mx.fU, Option.map_some, Option.map_none, Nat.reduceEqDiff, Mx.isi_int, Mx.isi_int2, Mx.isi_tup, Mx.len_tup, decide_true, decide_false, e1]
  unfold aR
  simp only [Mx.mDef, Mx.mSeq, Mx.mAsg, Mx.mRet, Mx.mDrop, Mx.mIfS, Mx.mNx, Mx.mAndV, Mx.mOrV, Mx.mNotV, Mx.mIf, Mx.mB, Mx.mAnd, Mx.mOr, Mx.mNot, Mx.mNil, Mx.mCons, Mx.mCB, Mx.mCall, Mx.m1, Mx.m2, Mx.mC, Mx.mVar, Mx.mChain, Mx.mTup, Mx.mLst, Mx.mPar, Mx.mPar3, Mx.gmName, Mx.gmTup, Mx.gmCons, Mx.gmNil, Mx.mFld, Mx.bind_ok, Mx.bind_fail, Mx.bind_exc, Mx.noX_ok, Mx.thenS_nx, Mx.thenS_rt, Mx.asB_bl, Mx.ofO_some, Mx.ofO_none, Mx.flow_nx, List.map_cons, List.map_nil, List.cons_append, List.nil_append, List.append_nil, List.getElem?_cons_zero, List.getElem?_cons_succ, List.set_cons_zero, List.set_cons_succ, List.replicate_succ, List.replicate_zero, List.length_cons, List.length_nil, Nat.zero_add, Nat.reduceAdd, if_true, if_false, reduceIte, reduceCtorEq, Bool.not_true, Bool.not_false, Bool.false_eq_true, Mx.fI2, Mx.fU, Option.map_some, Option.map_none, Nat.reduceEqDiff, Mx.isi_int, Mx.isi_int2, Mx.isi_tup, Mx.len_tup, decide_true, decide_false, opens_t (st := st) h (most := 6) hn (by omega), ways_t, List.length_map, closes_t (st := st) h hw]
theorem checkR_t {b : Bool} (h : ROk r n (ways n b)) (hn : n ≤ 1000) : f_check_reader [.int n, aM b, aR r, .int 6] st = .ok (.non, st) := by
  unfold f_check_reader m_check_reader
  simp only [Mx.mDef, Mx.mSeq, Mx.mAsg, Mx.mRet, Mx.mDrop, Mx.mIfS, Mx.mNx, Mx.mAndV, Mx.mOrV, Mx.mNotV, Mx.mIf, Mx.mB, Mx.mAnd, Mx.mOr, Mx.mNot, Mx.mNil, Mx.mCons, Mx.mCB, Mx.mCall, Mx.m1, Mx.m2, Mx.mC, Mx.mVar, Mx.mChain, Mx.mTup, Mx.mLst, Mx.mPar, Mx.mPar3, Mx.gmName, Mx.gmTup, Mx.gmCons, Mx.gmNil, Mx.mFld, Mx.bind_ok, Mx.bind_fail, Mx.bind_exc, Mx.noX_ok, Mx.thenS_nx, Mx.thenS_rt, Mx.asB_bl, Mx.ofO_some, Mx.ofO_none, Mx.flow_nx, List.map_cons, List.map_nil, List.cons_append, List.nil_append, List.append_nil, List.getElem?_cons_zero, List.getElem?_cons_succ, List.set_cons_zero, List.set_cons_succ, List.replicate_succ, List.replicate_zero, List.length_cons, List.length_nil, Nat.zero_add, Nat.reduceAdd, if_true, if_false, reduceIte, reduceCtorEq, Bool.not_true, Bool.not_false, Bool.false_eq_true, Mx.fI2, Mx.fU, Option.map_some, Option.map_none, Nat.reduceEqDiff, Mx.isi_int, Mx.isi_int2, Mx.isi_tup, Mx.len_tup, decide_true, decide_false, wrong_t (st := st) h hn, fNotN, isNon]
theorem reading_t {b : Bool} (h : QOk q n) (h2 : ROk r n (ways n b)) : f_check_reading [aQ q, aM b, aR r, .int 6] st = .ok (.non, st) := by
  have hn2 := h.n2
  unfold f_check_reading m_check_reading
  simp only [Mx.mDef, Mx.mSeq, Mx.mAsg, Mx.mRet, Mx.mDrop, Mx.mIfS, Mx.mNx, Mx.mAndV, Mx.mOrV, Mx.mNotV, Mx.mIf, Mx.mB, Mx.mAnd, Mx.mOr, Mx.mNot, Mx.mNil, Mx.mCons, Mx.mCB, Mx.mCall, Mx.m1, Mx.m2, Mx.mC, Mx.mVar, Mx.mChain, Mx.mTup, Mx.mLst, Mx.mPar, Mx.mPar3, Mx.gmName, Mx.gmTup, Mx.gmCons, Mx.gmNil, Mx.mFld, Mx.bind_ok, Mx.bind_fail, Mx.bind_exc, Mx.noX_ok, Mx.thenS_nx, Mx.thenS_rt, Mx.asB_bl, Mx.ofO_some, Mx.ofO_none, Mx.flow_nx, List.map_cons, List.map_nil, List.cons_append, List.nil_append, List.append_nil, List.getElem?_cons_zero, List.getElem?_cons_succ, List.set_cons_zero, List.set_cons_succ, List.replicate_succ, List.replicate_zero, List.length_cons, List.length_nil, Nat.zero_add, Nat.reduceAdd, if_true, if_false, reduceIte, reduceCtorEq, Bool.not_true, Bool.not_false, Bool.false_eq_true, Mx.fI2, Mx.fU, Option.map_some, Option.map_none, Nat.reduceEqDiff, Mx.isi_int, Mx.isi_int2, Mx.isi_tup, Mx.len_tup, decide_true, decide_false, checkQ_t h, manner_t, names_t h, checkR_t (st := st) h2 (by omega)]
end
end Mx

/-! ### MkM2 -/
set_option Elab.async false
set_option linter.all false
set_option maxRecDepth 100000
set_option maxHeartbeats 1000000
namespace Mx
open PySem PySem.Spec PyProof.Rows L2
/-! ### rows: the last tag stands first -/
def aL (l : List Nat) : List A := l.map fun k => .int (k : Nat)
theorem aN_eq {l : List Nat} : aN l = .tup (aL l) := rfl
def aT (ts : List Int) : A := .tup (aI ts.reverse)
def nms : List Int → List Nat
  | [] => []
  | t :: ts => if t < 0 then (nms ts).dropLast else nms ts ++ [t.toNat]
def pths : List Int → List (List Nat)
  | [] => []
  | t :: ts => if t < 0 then pths ts else pths ts ++ [nms (t :: ts)]
def jx (c : Nat) (l : List Nat) : Nat := if 1 < c then l.getLast?.getD 0 else 0
def rst (r : Rd) (c : Nat) : List Int → Nat
  | [] => 0
  | t :: ts => if t < 0 then r.off (rst r c ts) (jx c (nms ts)) else (r.on (rst r c ts) t.toNat).1
def fnd (r : Rd) (c : Nat) : List Int → List Nat
  | [] => []
  | t :: ts => if t < 0 then fnd r c ts else fnd r c ts ++ [(r.on (rst r c ts) t.toNat).2]
def led (q : Qn) (s : Nat) (w : List Nat) : Nat := w.foldl q.to s
def Gd (n : Nat) : List Int → Prop
  | [] => True
  | t :: ts => Gd n ts ∧ ((0 ≤ t ∧ t < n) ∨ (t = -1 ∧ nms ts ≠ []))
section
variable {q : Qn} {r : Rd} {n c : Nat} {st : Sto} {ts : List Int}
theorem nms_lt : ∀ {ts : List Int}, Gd n ts → ∀ x ∈ nms ts, x < n
  | [], _, x, h => by cases h
  | t :: ts, g, x, h => by
    unfold nms at h
    split at h
    · exact nms_lt g.1 x ((List.dropLast_sublist _).subset h)
    · rcases List.mem_append.mp h with h | h
      · exact nms_lt g.1 x h
      · rw [List.mem_singleton.mp h]
        rcases g.2 with ⟨a, b⟩ | ⟨a, b⟩ <;> omega
theorem nms_len : ∀ {ts : List Int}, (nms ts).length ≤ ts.length
  | [] => Nat.le_refl _
  | t :: ts => by
    have := nms_len (ts := ts)
    unfold nms
    split
    · rw [List.length_dropLast, List.length_cons]; omega
    · rw [List.length_append, List.length_cons]; simp; omega
theorem pths_len : ∀ {ts : List Int}, (pths ts).length ≤ ts.length
  | [] => Nat.le_refl _
  | t :: ts => by
    have := pths_len (ts := ts)
    unfold pths
    split
    · rw [List.length_cons]; omega
    · rw [List.length_append, List.length_cons]; simp; omega
theorem pths_lt : ∀ {ts : List Int}, Gd n ts → ∀ w ∈ pths ts, ∀ x ∈ w, x < n
  | [], _, w, h => by cases h
  | t :: ts, g, w, h => by
    unfold pths at h
    split at h
    · exact pths_lt g.1 w h
    · rcases List.mem_append.mp h with h | h
      · exact pths_lt g.1 w h
      · rw [List.mem_singleton.mp h]
        exact nms_lt g
theorem nms_neg {t : Int} (h : t < 0) : nms (t :: ts) = (nms ts).dropLast := by rw [nms, if_pos h]
theorem nms_pos {t : Int} (h : ¬ t < 0) : nms (t :: ts) = nms ts ++ [t.toNat] := by rw [nms, if_neg h]
theorem pths_neg {t : Int} (h : t < 0) : pths (t :: ts) = pths ts := by rw [pths, if_pos h]
theorem pths_pos {t : Int} (h : ¬ t < 0) : pths (t :: ts) = pths ts ++ [nms (t :: ts)] := by rw [pths, if_neg h]
theorem rst_neg {t : Int} (h : t < 0) : rst r c (t :: ts) = r.off (rst r c ts) (jx c (nms ts)) := by rw [rst, if_pos h]
theorem rst_pos {t : Int} (h : ¬ t < 0) : rst r c (t :: ts) = (r.on (rst r c ts) t.toNat).1 := by rw [rst, if_neg h]
theorem fnd_neg {t : Int} (h : t < 0) : fnd r c (t :: ts) = fnd r c ts := by rw [fnd, if_pos h]
theorem fnd_pos {t : Int} (h : ¬ t < 0) : fnd r c (t :: ts) = fnd r c ts ++ [(r.on (rst r c ts) t.toNat).2] := by rw [fnd, if_neg h]
structure CW (n c : Nat) : Prop where
  c1 : 1 ≤ c
  c2 : 1 < c → c = n
theorem cw_ways {b : Bool} (h : 1 ≤ n) : CW n (ways n b) := by
  unfold ways
  cases b with
  | false => exact ⟨by simp, by simp⟩
  | true => exact ⟨by simpa using h, by simp⟩
theorem jx_lt (w : CW n c) {l : List Nat} (hl : ∀ x ∈ l, x < n) (ne : l ≠ []) : jx c l < c := by
  unfold jx
  split
  · rename_i h
    rw [w.c2 h, List.getLast?_eq_some_getLast ne]
    exact hl _ (List.getLast_mem ne)
  · exact w.c1
theorem rst_lt (h : ROk r n c) (w : CW n c) : ∀ {ts : List Int}, Gd n ts → rst r c ts < r.op.length
  | [], _ => by have := h.m1; exact this
  | t :: ts, g => by
    have ih := rst_lt h w g.1
    unfold rst
    rcases g.2 with ⟨a, b⟩ | ⟨a, b⟩
    · rw [if_neg (by omega)]
      exact (h.on_lt ih (by omega)).1
    · rw [if_pos (by omega)]
      exact h.off_lt ih (jx_lt w (nms_lt g.1) b)
/-! ### walking along a row -/
def pre (ts : List Int) (i : Nat) : List Int := ts.drop (ts.length - i)
theorem pre_all : pre ts ts.length = ts := by unfold pre; rw [Nat.sub_self]; rfl
theorem pre_zero : pre ts 0 = [] := by unfold pre; rw [Nat.sub_zero, List.drop_length]
theorem pre_step {i : Nat} {a : A} (h : (aI ts.reverse)[i]? = some a) : ∃ t, a = .int t ∧ pre ts (i + 1) = t :: pre ts i := by
  unfold aI at h
  obtain ⟨t, h1, _, rfl⟩ := get_map h
  have hi := (List.getElem?_eq_some_iff.mp h1).1
  rw [List.length_reverse] at hi
  rw [List.getElem?_reverse hi] at h1
  refine ⟨t, rfl, ?_⟩
  unfold pre
  have e : ts.length - i = ts.length - (i + 1) + 1 := by omega
  have hk : ts.length - (i + 1) < ts.length := by omega
  rw [e, List.drop_eq_getElem_cons hk]
  have e2 : ts.length - 1 - i = ts.length - (i + 1) := by omega
  rw [e2, List.getElem?_eq_getElem hk] at h1
  rw [Option.some.inj h1]
theorem Gd.drop : ∀ {ts : List Int} (k : Nat), Gd n ts → Gd n (ts.drop k)
  | ts, 0, g => g
  | [], k + 1, g => g
  | t :: ts, k + 1, g => Gd.drop k g.1
theorem Gd.pre (g : Gd n ts) (i : Nat) : Gd n (pre ts i) := Gd.drop _ g
theorem for_tup {L : List A} {mg : GM} {mb : SM} {E : Xc → Sto → Prop} {Inv : Nat → Ev → Sto → Prop} {e : Ev} {s : Sto} (hL : L.length ≤ 100000) (h0 : Inv 0 e s)
    (step : ∀ (i : Nat) (a : A) (e : Ev) (s : Sto), L[i]? = some a → Inv i e s → (mg a e s).holds (fun e' => (mb e'.1 e'.2).holds (fun r => ∃ e2, r.1 = .nx e2 ∧ Inv (i + 1) e2 r.2) E) E) :
    (forG (itTup L) mg mb fuel 0 e s).holds (fun r => ∃ e2, r.1 = .nx e2 ∧ Inv L.length e2 r.2) E := by
  have hf : L.length < fuel + 0 := fuel_gt hL
  generalize fuel = fu at hf
  exact for_rule (Inv := Inv) (fun i e s _ => (rfl : itTup L i s = ofL L i s)) step fu 0 e s hf (Nat.zero_le _) h0
/-! ### _law_led, _law_answer -/
theorem led_step {s : Nat} {w : List Nat} {i : Nat} (h : i < w.length) : led q s (w.take (i + 1)) = q.to (led q s (w.take i)) (w.getD i 0) := by
  unfold led
  rw [List.take_succ_eq_append_getElem h, List.foldl_append, List.getD_eq_getElem?_getD, List.getElem?_eq_getElem h]
  rfl
theorem led_lt (h : QOk q n) : ∀ {w : List Nat} {s : Nat}, s < q.st.length → (∀ x ∈ w, x < n) → led q s w < q.st.length
  | [], s, hs, _ => hs
  | x :: w, s, hs, hw => led_lt h (w := w) (h.to_lt hs (hw x List.mem_cons_self)) fun y hy => hw y (List.mem_cons_of_mem _ hy)
theorem led_h (h : QOk q n) {w : List Nat} {s : Nat} {E : Xc → Sto → Prop} (hs : s < q.st.length) (hw : ∀ x ∈ w, x < n) (hl : w.length ≤ 1000) : (f__law_led [aQ q, .int s, aN w] st).holds (fun y => y = (.int (led q s w : Nat), st)) E := by
  unfold f__law_led m__law_led
  simp only [Mx.mDef, Mx.mSeq, Mx.mAsg, Mx.mRet, Mx.mDrop, Mx.mIfS, Mx.mNx, Mx.mAndV, Mx.mOrV, Mx.mNotV, Mx.mIf, Mx.mB, Mx.mAnd, Mx.mOr, Mx.mNot, Mx.mNil, Mx.mCons, Mx.mCB, Mx.mCall, Mx.m1, Mx.m2, Mx.mC, Mx.mVar, Mx.mChain, Mx.mTup, Mx.mLst, Mx.mPar, Mx.mPar3, Mx.gmName, Mx.gmTup, Mx.gmCons, Mx.gmNil, Mx.mFld, Mx.bind_ok, Mx.bind_fail, Mx.bind_exc, Mx.noX_ok, Mx.thenS_nx, Mx.thenS_rt, Mx.asB_bl, Mx.ofO_some, Mx.ofO_none, Mx.flow_nx, List.map_cons, List.map_nil, List.cons_append, List.nil_append, List.append_nil, List.getElem?_cons_zero, List.getElem?_cons_succ, List.set_cons_zero, List.set_cons_succ, List.replicate_succ, List.replicate_zero, List.length_cons, List.length_nil, Nat.zero_add, Nat.reduceAdd, if_true, if_false, reduceIte, reduceCtorEq, Bool.not_true, Bool.not_false, Bool.false_eq_true, Mx.fI2, Mx.fU, Option.map_some, Option.map_none, Nat.reduceEqDiff, Mx.isi_int, Mx.isi_int2, Mx.isi_tup, Mx.len_tup, decide_true, decide_false, Mx.holds_bind_iff, Mx.holds_ok, Mx.holds_exc, mFor, miTup]
  rw [aN_eq]
  simp only [Mx.mDef, Mx.mSeq, Mx.mAsg, Mx.mRet, Mx.mDrop, Mx.mIfS, Mx.mNx, Mx.mAndV, Mx.mOrV, Mx.mNotV, Mx.mIf, Mx.mB, Mx.mAnd, Mx.mOr, Mx.mNot, Mx.mNil, Mx.mCons, Mx.mCB, Mx.mCall, Mx.m1, Mx.m2, Mx.mC, Mx.mVar, Mx.mChain, Mx.mTup, Mx.mLst, Mx.mPar, Mx.mPar3, Mx.gmName, Mx.gmTup, Mx.gmCons, Mx.gmNil, Mx.mFld, Mx.bind_ok, Mx.bind_fail, Mx.bind_exc, Mx.noX_ok, Mx.thenS_nx, Mx.thenS_rt, Mx.asB_bl, Mx.ofO_some, Mx.ofO_none, Mx.flow_nx, List.map_cons, List.map_nil, List.cons_append, List.nil_append, List.append_nil, List.getElem?_cons_zero, List.getElem?_cons_succ, List.set_cons_zero, List.set_cons_succ, List.replicate_succ, List.replicate_zero, List.length_cons, List.length_nil, Nat.zero_add, Nat.reduceAdd, if_true, if_false, reduceIte, reduceCtorEq, Bool.not_true, Bool.not_false, Bool.false_eq_true, Mx.fI2, Mx.fU, Option.map_some, Option.map_none, Nat.reduceEqDiff, Mx.isi_int, Mx.isi_int2, Mx.isi_tup, Mx.len_tup, decide_true, decide_false, Mx.holds_bind_iff, Mx.holds_ok, Mx.holds_exc]
  refine holds_mono (fun y hy => ?_) (fun _ _ z => z) (for_tup (L := aL w) (Inv := fun i e s2 => s2 = st ∧ ∃ j, e = [some (aQ q), some (.int (led q s (w.take i) : Nat)), some (A.tup (aL w)), j]) (by unfold aL; simp; omega) ⟨rfl, _, rfl⟩ (fun i a e s2 ha hI => ?_))
  · obtain ⟨e2, h1, h2, j, h3⟩ := hy
    obtain ⟨f, s2⟩ := y
    dsimp only at h1 h2
    subst h1 h2 h3
    simp only [Mx.mDef, Mx.mSeq, Mx.mAsg, Mx.mRet, Mx.mDrop, Mx.mIfS, Mx.mNx, Mx.mAndV, Mx.mOrV, Mx.mNotV, Mx.mIf, Mx.mB, Mx.mAnd, Mx.mOr, Mx.mNot, Mx.mNil, Mx.mCons, Mx.mCB, Mx.mCall, Mx.m1, Mx.m2, Mx.mC, Mx.mVar, Mx.mChain, Mx.mTup, Mx.mLst, Mx.mPar, Mx.mPar3, Mx.gmName, Mx.gmTup, Mx.gmCons, Mx.gmNil, Mx.mFld, Mx.bind_ok, Mx.bind_fail, Mx.bind_exc, Mx.noX_ok, Mx.thenS_nx, Mx.thenS_rt, Mx.asB_bl, Mx.ofO_some, Mx.ofO_none, Mx.flow_nx, List.map_cons, List.map_nil, List.cons_append, List.nil_append, List.append_nil, List.getElem?_cons_zero, List.getElem?_cons_succ, List.set_cons_zero, List.set_cons_succ, List.replicate_succ, List.replicate_zero, List.length_cons, List.length_nil, Nat.zero_add, Nat.reduceAdd, if_true, if_false, reduceIte, reduceCtorEq, Bool.not_true, Bool.not_false, Bool.false_eq_true, Mx.fI2, Mx.fU, Option.map_some, Option.map_none, Nat.reduceEqDiff, Mx.isi_int, Mx.isi_int2, Mx.isi_tup, Mx.len_tup, decide_true, decide_false, Mx.holds_bind_iff, Mx.holds_ok, Mx.holds_exc]
    rw [List.take_of_length_le (by unfold aL; simp)]
  · obtain ⟨rfl, j, rfl⟩ := hI
    obtain ⟨x, hx, hm, rfl⟩ := get_map ha
    have hi := (List.getElem?_eq_some_iff.mp hx).1
    have hk : led q s (w.take i) < q.st.length := led_lt h hs fun y hy => hw y (List.mem_of_mem_take hy)
    have hg : w.getD i 0 = x := by rw [List.getD_eq_getElem?_getD, hx]; rfl
    have e1 := ix_mN (st := s2) hk
    have e2 := ix_aN (st := s2) (l := q.st.getD (led q s (w.take i)) []) (k := x) (by rw [h.rlen hk]; exact hw x hm)
    simp only [Mx.mDef, Mx.mSeq, Mx.mAsg, Mx.mRet, Mx.mDrop, Mx.mIfS, Mx.mNx, Mx.mAndV, Mx.mOrV, Mx.mNotV, Mx.mIf, Mx.mB, Mx.mAnd, Mx.mOr, Mx.mNot, Mx.mNil, Mx.mCons, Mx.mCB, Mx.mCall, Mx.m1, Mx.m2, Mx.mC, Mx.mVar, Mx.mChain, Mx.mTup, Mx.mLst, Mx.mPar, Mx.mPar3, Mx.gmName, Mx.gmTup, Mx.gmCons, Mx.gmNil, Mx.mFld, Mx.bind_ok, Mx.bind_fail, Mx.bind_exc, Mx.noX_ok, Mx.thenS_nx, Mx.thenS_rt, Mx.asB_bl, Mx.ofO_some, Mx.ofO_none, Mx.flow_nx, List.map_cons, List.map_nil, List.cons_append, List.nil_append, List.append_nil, List.getElem?_cons_zero, List.getElem?_cons_succ, List.set_cons_zero, List.set_cons_succ, List.replicate_succ, List.replicate_zero, List.length_cons, List.length_nil, Nat.zero_add, Nat.reduceAdd, if_true, if_false, reduceIte, reduceCtorEq, Bool.not_true, Bool.not_false, Bool.false_eq_true, Mx.fI2, Mx.fU, Option.map_some, Option.map_none, Nat.reduceEqDiff, Mx.isi_int, Mx.isi_int2, Mx.isi_tup, Mx.len_tup, decide_true, decide_false, Mx.holds_bind_iff, Mx.holds_ok, Mx.holds_exc, ix_q0, e1, e2]
    refine ⟨_, rfl, trivial, some (.int (x : Nat)), ?_⟩
    rw [led_step hi, hg]
    rfl
theorem ans_h (h : QOk q n) {w : List Nat} {E : Xc → Sto → Prop} (hw : ∀ x ∈ w, x < n) (hl : w.length ≤ 1000) : (f__law_answer [aQ q, aN w] st).holds (fun y => y = (.int (q.due (led q 0 w) : Nat), st)) E := by
  have hm1 := h.m1
  unfold f__law_answer m__law_answer
  simp only [Mx.mDef, Mx.mSeq, Mx.mAsg, Mx.mRet, Mx.mDrop, Mx.mIfS, Mx.mNx, Mx.mAndV, Mx.mOrV, Mx.mNotV, Mx.mIf, Mx.mB, Mx.mAnd, Mx.mOr, Mx.mNot, Mx.mNil, Mx.mCons, Mx.mCB, Mx.mCall, Mx.m1, Mx.m2, Mx.mC, Mx.mVar, Mx.mChain, Mx.mTup, Mx.mLst, Mx.mPar, Mx.mPar3, Mx.gmName, Mx.gmTup, Mx.gmCons, Mx.gmNil, Mx.mFld, Mx.bind_ok, Mx.bind_fail, Mx.bind_exc, Mx.noX_ok, Mx.thenS_nx, Mx.thenS_rt, Mx.asB_bl, Mx.ofO_some, Mx.ofO_none, Mx.flow_nx, List.map_cons, List.map_nil, List.cons_append, List.nil_append, List.append_nil, List.getElem?_cons_zero, List.getElem?_cons_succ, List.set_cons_zero, List.set_cons_succ, List.replicate_succ, List.replicate_zero, List.length_cons, List.length_nil, Nat.zero_add, Nat.reduceAdd, if_true, if_false, reduceIte, reduceCtorEq, Bool.not_true, Bool.not_false, Bool.false_eq_true, Mx.fI2, Mx.fU, Option.map_some, Option.map_none, Nat.reduceEqDiff, Mx.isi_int, Mx.isi_int2, Mx.isi_tup, Mx.len_tup, decide_true, decide_false, Mx.holds_bind_iff, Mx.holds_ok, Mx.holds_exc, ix_q1]
  refine holds_mono (fun y hy => ?_) (fun _ _ z => z) (led_h (s := 0) h (by omega) hw hl)
  subst hy
  have e1 := ix_aN (st := st) (l := q.ms) (k := led q 0 w) (by rw [h.ml]; exact led_lt h (by omega) hw)
  simp only [Mx.mDef, Mx.mSeq, Mx.mAsg, Mx.mRet, Mx.mDrop, Mx.mIfS, Mx.mNx, Mx.mAndV, Mx.mOrV, Mx.mNotV, Mx.mIf, Mx.mB, Mx.mAnd, Mx.mOr, Mx.mNot, Mx.mNil, Mx.mCons, Mx.mCB, Mx.mCall, Mx.m1, Mx.m2, Mx.mC, Mx.mVar, Mx.mChain, Mx.mTup, Mx.mLst, Mx.mPar, Mx.mPar3, Mx.gmName, Mx.gmTup, Mx.gmCons, Mx.gmNil, Mx.mFld, Mx.bind_ok, Mx.bind_fail, Mx.bind_exc, Mx.noX_ok, Mx.thenS_nx, Mx.thenS_rt, Mx.asB_bl, Mx.ofO_some, Mx.ofO_none, Mx.flow_nx, List.map_cons, List.map_nil, List.cons_append, List.nil_append, List.append_nil, List.getElem?_cons_zero, List.getElem?_cons_succ, List.set_cons_zero, List.set_cons_succ, List.replicate_succ, List.replicate_zero, List.length_cons, List.length_nil, Nat.zero_add, Nat.reduceAdd, if_true, if_false, reduceIte, reduceCtorEq, Bool.not_true, Bool.not_false, Bool.false_eq_true, Mx.fI2, Mx.fU, Option.map_some, Option.map_none, Nat.reduceEqDiff, Mx.isi_int, Mx.isi_int2, Mx.isi_tup, Mx.len_tup, decide_true, decide_false, Mx.holds_bind_iff, Mx.holds_ok, Mx.holds_exc, e1]
  rfl
/-! ### _law_paths, _law_read -/
theorem sIx_m1 {m d : Nat} : HT.sIx m d (some (-1)) = m - 1 := by
  show (if (-1 : Int) < 0 then ((-1 : Int) + (m : Int)).toNat else min (-1 : Int).toNat m) = m - 1
  rw [if_pos (by decide)]
  omega
theorem cut_last {l : List A} : cutA l none (some (-1)) = l.dropLast := by
  unfold cutA
  rw [HT.sIx_none, sIx_m1, List.drop_zero, List.dropLast_eq_take, Nat.sub_zero]
theorem sl_last {l : List A} {s : Sto} : fSlT (.tup l) none (some (-1)) s = some (.tup l.dropLast, s) := by
  show some (A.tup (cutA l none (some (-1))), s) = _
  rw [cut_last]
theorem aL_append {a b : List Nat} : aL (a ++ b) = aL a ++ aL b := List.map_append
theorem aL_dropLast {a : List Nat} : (aL a).dropLast = aL a.dropLast := by unfold aL; rw [List.map_dropLast]
theorem aL_len {a : List Nat} : (aL a).length = a.length := List.length_map ..
theorem pre_new {s g : Sto} {a : Sto} (h : s <+: a) : s <+: a ++ g := h.trans (List.prefix_append _ _)
theorem get_new {s : Sto} {o : Ob} {g : Sto} : (s ++ o :: g)[s.length]? = some o := by simp
theorem aI_len {l : List Int} : (aI l).length = l.length := List.length_map ..
theorem paths_h {E : Xc → Sto → Prop} (g : Gd n ts) (hl : ts.length ≤ 1000) :
    (f__law_paths [aT ts] st).holds (fun y => st <+: y.2 ∧ ∃ k, y.1 = .tup [.ref k, aN (nms ts)] ∧ y.2[k]? = some (.lst ((pths ts).map aN))) E := by
  unfold f__law_paths m__law_paths
  simp only [Mx.mDef, Mx.mSeq, Mx.mAsg, Mx.mRet, Mx.mDrop, Mx.mIfS, Mx.mNx, Mx.mAndV, Mx.mOrV, Mx.mNotV, Mx.mIf, Mx.mB, Mx.mAnd, Mx.mOr, Mx.mNot, Mx.mNil, Mx.mCons, Mx.mCB, Mx.mCall, Mx.m1, Mx.m2, Mx.mC, Mx.mVar, Mx.mChain, Mx.mTup, Mx.mLst, Mx.mPar, Mx.mPar3, Mx.gmName, Mx.gmTup, Mx.gmCons, Mx.gmNil, Mx.mFld, Mx.bind_ok, Mx.bind_fail, Mx.bind_exc, Mx.noX_ok, Mx.thenS_nx, Mx.thenS_rt, Mx.asB_bl, Mx.ofO_some, Mx.ofO_none, Mx.flow_nx, List.map_cons, List.map_nil, List.cons_append, List.nil_append, List.append_nil, List.getElem?_cons_zero, List.getElem?_cons_succ, List.set_cons_zero, List.set_cons_succ, List.replicate_succ, List.replicate_zero, List.length_cons, List.length_nil, Nat.zero_add, Nat.reduceAdd, if_true, if_false, reduceIte, reduceCtorEq, Bool.not_true, Bool.not_false, Bool.false_eq_true, Mx.fI2, Mx.fU, Option.map_some, Option.map_none, Nat.reduceEqDiff, Mx.isi_int, Mx.isi_int2, Mx.isi_tup, Mx.len_tup, decide_true, decide_false, Mx.holds_bind_iff, Mx.holds_ok, Mx.holds_exc, mFor, miTup, show ((0 : Nat) ≤ sizeLine) = True by simp]
  unfold aT
  simp only [Mx.mDef, Mx.mSeq, Mx.mAsg, Mx.mRet, Mx.mDrop, Mx.mIfS, Mx.mNx, Mx.mAndV, Mx.mOrV, Mx.mNotV, Mx.mIf, Mx.mB, Mx.mAnd, Mx.mOr, Mx.mNot, Mx.mNil, Mx.mCons, Mx.mCB, Mx.mCall, Mx.m1, Mx.m2, Mx.mC, Mx.mVar, Mx.mChain, Mx.mTup, Mx.mLst, Mx.mPar, Mx.mPar3, Mx.gmName, Mx.gmTup, Mx.gmCons, Mx.gmNil, Mx.mFld, Mx.bind_ok, Mx.bind_fail, Mx.bind_exc, Mx.noX_ok, Mx.thenS_nx, Mx.thenS_rt, Mx.asB_bl, Mx.ofO_some, Mx.ofO_none, Mx.flow_nx, List.map_cons, List.map_nil, List.cons_append, List.nil_append, List.append_nil, List.getElem?_cons_zero, List.getElem?_cons_succ, List.set_cons_zero, List.set_cons_succ, List.replicate_succ, List.replicate_zero, List.length_cons, List.length_nil, Nat.zero_add, Nat.reduceAdd, if_true, if_false, reduceIte, reduceCtorEq, Bool.not_true, Bool.not_false, Bool.false_eq_true, Mx.fI2, Mx.fU, Option.map_some, Option.map_none, Nat.reduceEqDiff, Mx.isi_int, Mx.isi_int2, Mx.isi_tup, Mx.len_tup, decide_true, decide_false, Mx.holds_bind_iff, Mx.holds_ok, Mx.holds_exc]
  refine holds_mono (fun y hy => ?_) (fun _ _ z => z) (for_tup (L := aI ts.reverse) (Inv := fun i e s => st <+: s ∧ ∃ k j, e = [some (.tup (aI ts.reverse)), some (aN (nms (pre ts i))), some (.ref k), j] ∧ s[k]? = some (.lst ((pths (pre ts i)).map aN))) (by rw [aI_len, List.length_reverse]; omega) ?_ (fun i a e s2 ha hI => ?_))
  · obtain ⟨e2, h1, h2, k, j, h3, h4⟩ := hy
    obtain ⟨f, s2⟩ := y
    dsimp only at h1 h2 h4
    subst h1 h3
    rw [aI_len, List.length_reverse, pre_all] at h4
    simp only [Mx.mDef, Mx.mSeq, Mx.mAsg, Mx.mRet, Mx.mDrop, Mx.mIfS, Mx.mNx, Mx.mAndV, Mx.mOrV, Mx.mNotV, Mx.mIf, Mx.mB, Mx.mAnd, Mx.mOr, Mx.mNot, Mx.mNil, Mx.mCons, Mx.mCB, Mx.mCall, Mx.m1, Mx.m2, Mx.mC, Mx.mVar, Mx.mChain, Mx.mTup, Mx.mLst, Mx.mPar, Mx.mPar3, Mx.gmName, Mx.gmTup, Mx.gmCons, Mx.gmNil, Mx.mFld, Mx.bind_ok, Mx.bind_fail, Mx.bind_exc, Mx.noX_ok, Mx.thenS_nx, Mx.thenS_rt, Mx.asB_bl, Mx.ofO_some, Mx.ofO_none, Mx.flow_nx, List.map_cons, List.map_nil, List.cons_append, List.nil_append, List.append_nil, List.getElem?_cons_zero, List.getElem?_cons_succ, List.set_cons_zero, List.set_cons_succ, List.replicate_succ, List.replicate_zero, List.length_cons, List.length_nil, Nat.zero_add, Nat.reduceAdd, if_true, if_false, reduceIte, reduceCtorEq, Bool.not_true, Bool.not_false, Bool.false_eq_true, Mx.fI2, Mx.fU, Option.map_some, Option.map_none, Nat.reduceEqDiff, Mx.isi_int, Mx.isi_int2, Mx.isi_tup, Mx.len_tup, decide_true, decide_false, Mx.holds_bind_iff, Mx.holds_ok, Mx.holds_exc, show ((2 : Nat) ≤ sizeLine) = True by rw [sizeLine_eq]; simp]
    rw [aI_len, List.length_reverse, pre_all]
    exact ⟨h2, k, rfl, h4⟩
  · rw [pre_zero]
    exact ⟨List.prefix_append _ _, _, _, rfl, get_new⟩
  · obtain ⟨hp, k, j, rfl, hk⟩ := hI
    obtain ⟨t, rfl, hst⟩ := pre_step ha
    have gp : Gd n (t :: pre ts i) := hst ▸ g.pre (i + 1)
    have hlen : (pre ts i).length ≤ 1000 := by unfold pre; rw [List.length_drop]; omega
    have l1 := nms_len (ts := pre ts i)
    have l2 := pths_len (ts := pre ts i)
    rw [hst]
    by_cases ht : t < 0
    · have e1 : decide ((0 : Int) ≤ t) = false := by simp; omega
      rw [aN_eq]
      simp only [Mx.mDef, Mx.mSeq, Mx.mAsg, Mx.mRet, Mx.mDrop, Mx.mIfS, Mx.mNx, Mx.mAndV, Mx.mOrV, Mx.mNotV, Mx.mIf, Mx.mB, Mx.mAnd, Mx.mOr, Mx.mNot, Mx.mNil, Mx.mCons, Mx.mCB, Mx.mCall, Mx.m1, Mx.m2, Mx.mC, Mx.mVar, Mx.mChain, Mx.mTup, Mx.mLst, Mx.mPar, Mx.mPar3, Mx.gmName, Mx.gmTup, Mx.gmCons, Mx.gmNil, Mx.mFld, Mx.bind_ok, Mx.bind_fail, Mx.bind_exc, Mx.noX_ok, Mx.thenS_nx, Mx.thenS_rt, Mx.asB_bl, Mx.ofO_some, Mx.ofO_none, Mx.flow_nx, List.map_cons, List.map_nil, List.cons_append, List.nil_append, List.append_nil, List.getElem?_cons_zero, List.getElem?_cons_succ, List.set_cons_zero, List.set_cons_succ, List.replicate_succ, List.replicate_zero, List.length_cons, List.length_nil, Nat.zero_add, Nat.reduceAdd, if_true, if_false, reduceIte, reduceCtorEq, Bool.not_true, Bool.not_false, Bool.false_eq_true, Mx.fI2, Mx.fU, Option.map_some, Option.map_none, Nat.reduceEqDiff, Mx.isi_int, Mx.isi_int2, Mx.isi_tup, Mx.len_tup, decide_true, decide_false, Mx.holds_bind_iff, Mx.holds_ok, Mx.holds_exc, e1, mSl, moNone, moSome, sl_last]
      have e2 : fCatL (.ref k) (.ref s2.length) (s2 ++ [.lst []]) = some (.ref (s2.length + 1), s2 ++ [.lst []] ++ [.lst ((pths (pre ts i)).map aN ++ [])]) := by
        unfold fCatL
        dsimp only
        rw [pre_get (List.prefix_append _ _) hk, get_new]
        dsimp only
        rw [if_pos (by rw [sizeLine_eq, List.length_map]; simp; omega)]
        simp
      simp only [Mx.mDef, Mx.mSeq, Mx.mAsg, Mx.mRet, Mx.mDrop, Mx.mIfS, Mx.mNx, Mx.mAndV, Mx.mOrV, Mx.mNotV, Mx.mIf, Mx.mB, Mx.mAnd, Mx.mOr, Mx.mNot, Mx.mNil, Mx.mCons, Mx.mCB, Mx.mCall, Mx.m1, Mx.m2, Mx.mC, Mx.mVar, Mx.mChain, Mx.mTup, Mx.mLst, Mx.mPar, Mx.mPar3, Mx.gmName, Mx.gmTup, Mx.gmCons, Mx.gmNil, Mx.mFld, Mx.bind_ok, Mx.bind_fail, Mx.bind_exc, Mx.noX_ok, Mx.thenS_nx, Mx.thenS_rt, Mx.asB_bl, Mx.ofO_some, Mx.ofO_none, Mx.flow_nx, List.map_cons, List.map_nil, List.cons_append, List.nil_append, List.append_nil, List.getElem?_cons_zero, List.getElem?_cons_succ, List.set_cons_zero, List.set_cons_succ, List.replicate_succ, List.replicate_zero, List.length_cons, List.length_nil, Nat.zero_add, Nat.reduceAdd, if_true, if_false, reduceIte, reduceCtorEq, Bool.not_true, Bool.not_false, Bool.false_eq_true, Mx.fI2, Mx.fU, Option.map_some, Option.map_none, Nat.reduceEqDiff, Mx.isi_int, Mx.isi_int2, Mx.isi_tup, Mx.len_tup, decide_true, decide_false, Mx.holds_bind_iff, Mx.holds_ok, Mx.holds_exc, e2, show ((0 : Nat) ≤ sizeLine) = True by simp]
      refine ⟨_, rfl, pre_new (pre_new hp), s2.length + 1, some (.int t), ?_, ?_⟩
      · show _ = [_, some (aN (nms (t :: pre ts i))), _, _]
        rw [nms_neg ht, aN_eq, aL_dropLast]
      · rw [pths_neg ht]
        have z := get_new (s := s2 ++ [.lst []]) (o := .lst ((pths (pre ts i)).map aN)) (g := [])
        simpa using z
    · have e1 : decide ((0 : Int) ≤ t) = true := by simp; omega
      have e0 : (t.toNat : Int) = t := by omega
      have c1 : fCatT (aN (nms (pre ts i))) (.tup [.int t]) s2 = some (aN (nms (t :: pre ts i)), s2) := by
        rw [aN_eq]
        unfold fCatT
        dsimp only
        rw [if_pos (by rw [sizeLine_eq, aL_len]; simp; omega)]
        rw [nms_pos ht, aN_eq, aL_append]
        unfold aL
        simp [e0]
      simp only [Mx.mDef, Mx.mSeq, Mx.mAsg, Mx.mRet, Mx.mDrop, Mx.mIfS, Mx.mNx, Mx.mAndV, Mx.mOrV, Mx.mNotV, Mx.mIf, Mx.mB, Mx.mAnd, Mx.mOr, Mx.mNot, Mx.mNil, Mx.mCons, Mx.mCB, Mx.mCall, Mx.m1, Mx.m2, Mx.mC, Mx.mVar, Mx.mChain, Mx.mTup, Mx.mLst, Mx.mPar, Mx.mPar3, Mx.gmName, Mx.gmTup, Mx.gmCons, Mx.gmNil, Mx.mFld, Mx.bind_ok, Mx.bind_fail, Mx.bind_exc, Mx.noX_ok, Mx.thenS_nx, Mx.thenS_rt, Mx.asB_bl, Mx.ofO_some, Mx.ofO_none, Mx.flow_nx, List.map_cons, List.map_nil, List.cons_append, List.nil_append, List.append_nil, List.getElem?_cons_zero, List.getElem?_cons_succ, List.set_cons_zero, List.set_cons_succ, List.replicate_succ, List.replicate_zero, List.length_cons, List.length_nil, Nat.zero_add, Nat.reduceAdd, if_true, if_false, reduceIte, reduceCtorEq, Bool.not_true, Bool.not_false, Bool.false_eq_true, Mx.fI2, Mx.fU, Option.map_some, Option.map_none, Nat.reduceEqDiff, Mx.isi_int, Mx.isi_int2, Mx.isi_tup, Mx.len_tup, decide_true, decide_false, Mx.holds_bind_iff, Mx.holds_ok, Mx.holds_exc, e1, c1, show ((1 : Nat) ≤ sizeLine) = True by rw [sizeLine_eq]; simp]
      have e2 : fCatL (.ref k) (.ref s2.length) (s2 ++ [.lst [aN (nms (t :: pre ts i))]]) = some (.ref (s2.length + 1), s2 ++ [.lst [aN (nms (t :: pre ts i))]] ++ [.lst ((pths (pre ts i)).map aN ++ [aN (nms (t :: pre ts i))])]) := by
        unfold fCatL
        dsimp only
        rw [pre_get (List.prefix_append _ _) hk, get_new]
        dsimp only
        rw [if_pos (by rw [sizeLine_eq, List.length_map]; simp; omega)]
        simp
      simp only [Mx.mDef, Mx.mSeq, Mx.mAsg, Mx.mRet, Mx.mDrop, Mx.mIfS, Mx.mNx, Mx.mAndV, Mx.mOrV, Mx.mNotV, Mx.mIf, Mx.mB, Mx.mAnd, Mx.mOr, Mx.mNot, Mx.mNil, Mx.mCons, Mx.mCB, Mx.mCall, Mx.m1, Mx.m2, Mx.mC, Mx.mVar, Mx.mChain, Mx.mTup, Mx.mLst, Mx.mPar, Mx.mPar3, Mx.gmName, Mx.gmTup, Mx.gmCons, Mx.gmNil, Mx.mFld, Mx.bind_ok, Mx.bind_fail, Mx.bind_exc, Mx.noX_ok, Mx.thenS_nx, Mx.thenS_rt, Mx.asB_bl, Mx.ofO_some, Mx.ofO_none, Mx.flow_nx, List.map_cons, List.map_nil, List.cons_append, List.nil_append, List.append_nil, List.getElem?_cons_zero, List.getElem?_cons_succ, List.set_cons_zero, List.set_cons_succ, List.replicate_succ, List.replicate_zero, List.length_cons, List.length_nil, Nat.zero_add, Nat.reduceAdd, if_true, if_false, reduceIte, reduceCtorEq, Bool.not_true, Bool.not_false, Bool.false_eq_true, Mx.fI2, Mx.fU, Option.map_some, Option.map_none, Nat.reduceEqDiff, Mx.isi_int, Mx.isi_int2, Mx.isi_tup, Mx.len_tup, decide_true, decide_false, Mx.holds_bind_iff, Mx.holds_ok, Mx.holds_exc, e2]
      refine ⟨_, rfl, pre_new (pre_new hp), _, _, rfl, ?_⟩
      rw [pths_pos ht, List.map_append]
      have z := get_new (s := s2 ++ [.lst [aN (nms (t :: pre ts i))]]) (o := .lst ((pths (pre ts i)).map aN ++ [aN (nms (t :: pre ts i))])) (g := [])
      simpa using z
end
end Mx

/-! ### MkM3 -/
set_option Elab.async false
set_option linter.all false
set_option maxRecDepth 100000
set_option maxHeartbeats 1000000
namespace Mx
open PySem PySem.Spec PyProof.Rows L2
section
variable {q : Qn} {r : Rd} {n c : Nat} {st : Sto} {ts : List Int}
theorem set_new0 {s : Sto} {x z : Ob} {g : Sto} : (s ++ x :: g).set s.length z = s ++ z :: g := by
  rw [List.set_append_right _ _ (Nat.le_refl _), Nat.sub_self]
  rfl
theorem set_new1 {s : Sto} {x y z : Ob} {g : Sto} : (s ++ x :: y :: g).set (s.length + 1) z = s ++ x :: z :: g := by
  rw [List.set_append_right _ _ (by omega), Nat.add_sub_cancel_left]
  rfl
theorem get_new1 {s : Sto} {x y : Ob} {g : Sto} : (s ++ x :: y :: g)[s.length + 1]? = some y := by
  rw [List.getElem?_append_right (by omega), Nat.add_sub_cancel_left]
  rfl
theorem isL {s : Sto} {k : Nat} {l : List A} (h : s[k]? = some (.lst l)) : isTyA "list" (.ref k) s = true := by
  unfold isTyA
  dsimp only
  rw [h]
  rfl
theorem pop_l {s : Sto} {k : Nat} {l : List A} {a : A} (h : s[k]? = some (.lst (l ++ [a]))) : fPop (.ref k) [] s = some (a, s.set k (.lst l)) := by
  unfold fPop
  dsimp only
  rw [h]
  dsimp only
  have e : (l ++ [a])[(l ++ [a]).length - 1]? = some a := by simp
  rw [e, List.dropLast_concat]
  rfl
theorem app_l {s : Sto} {k : Nat} {l : List A} {a : A} (h : s[k]? = some (.lst l)) (hl : l.length ≤ 100000) : fAppend (.ref k) [a] s = some (.non, s.set k (.lst (l ++ [a]))) := by
  unfold fAppend
  dsimp only
  rw [h]
  dsimp only
  rw [if_pos (by rw [sizeLine_eq]; omega)]
theorem len_aN {l : List Nat} {s : Sto} : fLen [aN l] s = some (.int l.length, s) := by
  show some (A.int ((aL l).length : Nat), s) = _
  rw [aL_len]
theorem fnd_len : ∀ {ts : List Int}, (fnd r c ts).length = (pths ts).length
  | [] => rfl
  | t :: ts => by
    by_cases ht : t < 0
    · rw [fnd_neg ht, pths_neg ht, fnd_len]
    · rw [fnd_pos ht, pths_pos ht, List.length_append, List.length_append, fnd_len]
      rfl
theorem split_last {l : List Nat} (h : l ≠ []) : l = l.dropLast ++ [l.getLast?.getD 0] := by
  rw [List.getLast?_eq_some_getLast h]
  exact (List.dropLast_concat_getLast h).symm
theorem read_h {E : Xc → Sto → Prop} (h : ROk r n c) (w : CW n c) (g : Gd n ts) (hl : ts.length ≤ 1000) :
    (f__law_read [aR r, aT ts] st).holds (fun y => y = (.tup [.ref (st.length + 1), .int (rst r c ts : Nat)], st ++ [.lst (aL (nms ts)), .lst (aL (fnd r c ts))])) E := by
  unfold f__law_read m__law_read
  simp only [Mx.mDef, Mx.mSeq, Mx.mAsg, Mx.mRet, Mx.mDrop, Mx.mIfS, Mx.mNx, Mx.mAndV, Mx.mOrV, Mx.mNotV, Mx.mIf, Mx.mB, Mx.mAnd, Mx.mOr, Mx.mNot, Mx.mNil, Mx.mCons, Mx.mCB, Mx.mCall, Mx.m1, Mx.m2, Mx.mC, Mx.mVar, Mx.mChain, Mx.mTup, Mx.mLst, Mx.mPar, Mx.mPar3, Mx.gmName, Mx.gmTup, Mx.gmCons, Mx.gmNil, Mx.mFld, Mx.bind_ok, Mx.bind_fail, Mx.bind_exc, Mx.noX_ok, Mx.thenS_nx, Mx.thenS_rt, Mx.asB_bl, Mx.ofO_some, Mx.ofO_none, Mx.flow_nx, List.map_cons, List.map_nil, List.cons_append, List.nil_append, List.append_nil, List.getElem?_cons_zero, List.getElem?_cons_succ, List.set_cons_zero, List.set_cons_succ, List.replicate_succ, List.replicate_zero, List.length_cons, List.length_nil, Nat.zero_add, Nat.reduceAdd, if_true, if_false, reduceIte, reduceCtorEq, Bool.not_true, Bool.not_false, Bool.false_eq_true, Mx.fI2, Mx.fU, Option.map_some, Option.map_none, Nat.reduceEqDiff, Mx.isi_int, Mx.isi_int2, Mx.isi_tup, Mx.len_tup, decide_true, decide_false, Mx.holds_bind_iff, Mx.holds_ok, Mx.holds_exc, mFor, miTup, show ((0 : Nat) ≤ sizeLine) = True by simp]
  unfold aT
  simp only [Mx.mDef, Mx.mSeq, Mx.mAsg, Mx.mRet, Mx.mDrop, Mx.mIfS, Mx.mNx, Mx.mAndV, Mx.mOrV, Mx.mNotV, Mx.mIf, Mx.mB, Mx.mAnd, Mx.mOr, Mx.mNot, Mx.mNil, Mx.mCons, Mx.mCB, Mx.mCall, Mx.m1, Mx.m2, Mx.mC, Mx.mVar, Mx.mChain, Mx.mTup, Mx.mLst, Mx.mPar, Mx.mPar3, Mx.gmName, Mx.gmTup, Mx.gmCons, Mx.gmNil, Mx.mFld, Mx.bind_ok, Mx.bind_fail, Mx.bind_exc, Mx.noX_ok, Mx.thenS_nx, Mx.thenS_rt, Mx.asB_bl, Mx.ofO_some, Mx.ofO_none, Mx.flow_nx, List.map_cons, List.map_nil, List.cons_append, List.nil_append, List.append_nil, List.getElem?_cons_zero, List.getElem?_cons_succ, List.set_cons_zero, List.set_cons_succ, List.replicate_succ, List.replicate_zero, List.length_cons, List.length_nil, Nat.zero_add, Nat.reduceAdd, if_true, if_false, reduceIte, reduceCtorEq, Bool.not_true, Bool.not_false, Bool.false_eq_true, Mx.fI2, Mx.fU, Option.map_some, Option.map_none, Nat.reduceEqDiff, Mx.isi_int, Mx.isi_int2, Mx.isi_tup, Mx.len_tup, decide_true, decide_false, Mx.holds_bind_iff, Mx.holds_ok, Mx.holds_exc]
  refine holds_mono (fun y hy => ?_) (fun _ _ z => z) (for_tup (L := aI ts.reverse) (Inv := fun i e s => s = st ++ [.lst (aL (nms (pre ts i))), .lst (aL (fnd r c (pre ts i)))] ∧ ∃ j5 j6 j7, e = [some (aR r), some (.tup (aI ts.reverse)), some (.int (rst r c (pre ts i) : Nat)), some (.ref st.length), some (.ref (st.length + 1)), j5, j6, j7]) (by rw [aI_len, List.length_reverse]; omega) ?_ (fun i a e s2 ha hI => ?_))
  · obtain ⟨e2, h1, h2, j5, j6, j7, h3⟩ := hy
    obtain ⟨f, s2⟩ := y
    dsimp only at h1 h2
    rw [aI_len, List.length_reverse, pre_all] at h2 h3
    subst h1 h2 h3
    simp only [Mx.mDef, Mx.mSeq, Mx.mAsg, Mx.mRet, Mx.mDrop, Mx.mIfS, Mx.mNx, Mx.mAndV, Mx.mOrV, Mx.mNotV, Mx.mIf, Mx.mB, Mx.mAnd, Mx.mOr, Mx.mNot, Mx.mNil, Mx.mCons, Mx.mCB, Mx.mCall, Mx.m1, Mx.m2, Mx.mC, Mx.mVar, Mx.mChain, Mx.mTup, Mx.mLst, Mx.mPar, Mx.mPar3, Mx.gmName, Mx.gmTup, Mx.gmCons, Mx.gmNil, Mx.mFld, Mx.bind_ok, Mx.bind_fail, Mx.bind_exc, Mx.noX_ok, Mx.thenS_nx, Mx.thenS_rt, Mx.asB_bl, Mx.ofO_some, Mx.ofO_none, Mx.flow_nx, List.map_cons, List.map_nil, List.cons_append, List.nil_append, List.append_nil, List.getElem?_cons_zero, List.getElem?_cons_succ, List.set_cons_zero, List.set_cons_succ, List.replicate_succ, List.replicate_zero, List.length_cons, List.length_nil, Nat.zero_add, Nat.reduceAdd, if_true, if_false, reduceIte, reduceCtorEq, Bool.not_true, Bool.not_false, Bool.false_eq_true, Mx.fI2, Mx.fU, Option.map_some, Option.map_none, Nat.reduceEqDiff, Mx.isi_int, Mx.isi_int2, Mx.isi_tup, Mx.len_tup, decide_true, decide_false, Mx.holds_bind_iff, Mx.holds_ok, Mx.holds_exc, show ((2 : Nat) ≤ sizeLine) = True by rw [sizeLine_eq]; simp]
  · rw [pre_zero]
    refine ⟨?_, none, none, none, ?_⟩
    · simp [nms, fnd, aL]
    · simp [rst]
  · obtain ⟨rfl, j5, j6, j7, rfl⟩ := hI
    obtain ⟨t, rfl, hst⟩ := pre_step ha
    have gp : Gd n (t :: pre ts i) := hst ▸ g.pre (i + 1)
    have hlen : (pre ts i).length ≤ 1000 := by unfold pre; rw [List.length_drop]; omega
    have l1 := nms_len (ts := pre ts i)
    have l2 := pths_len (ts := pre ts i)
    have l3 := fnd_len (r := r) (c := c) (ts := pre ts i)
    have hs := rst_lt h w gp.1
    rw [hst]
    generalize pre ts i = P at *
    by_cases ht : t < 0
    · have hne : nms P ≠ [] := by
        rcases gp.2 with ⟨a, b⟩ | ⟨a, b⟩
        · omega
        · exact b
      have e1 : decide (t < (0 : Int)) = true := by simpa using ht
      have en := split_last hne
      have g0 : (st ++ [Ob.lst (aL (nms P)), Ob.lst (aL (fnd r c P))])[st.length]? = some (.lst (aL (nms P).dropLast ++ [.int ((nms P).getLast?.getD 0 : Nat)])) := by
        rw [get_new]
        conv => lhs; rw [en]
        rw [aL_append]
        rfl
      have e2 := pop_l g0
      rw [set_new0] at e2
      have e3 := ix_mN (st := st ++ [.lst (aL (nms P).dropLast), .lst (aL (fnd r c P))]) (l := r.cl) (k := rst r c P) (by rw [h.cm]; exact hs)
      have e4 : decide ((1 : Int) < ((r.cl.getD (rst r c P) []).length : Nat)) = decide (1 < c) := by
        rw [h.clen hs]
        exact decide_eq_decide.mpr (by omega)
      have hj := jx_lt w (nms_lt gp.1) hne
      have e5 := ix_aN (st := st ++ [.lst (aL (nms P).dropLast), .lst (aL (fnd r c P))]) (l := r.cl.getD (rst r c P) []) (k := jx c (nms P)) (by rw [h.clen hs]; exact hj)
      simp only [Mx.mDef, Mx.mSeq, Mx.mAsg, Mx.mRet, Mx.mDrop, Mx.mIfS, Mx.mNx, Mx.mAndV, Mx.mOrV, Mx.mNotV, Mx.mIf, Mx.mB, Mx.mAnd, Mx.mOr, Mx.mNot, Mx.mNil, Mx.mCons, Mx.mCB, Mx.mCall, Mx.m1, Mx.m2, Mx.mC, Mx.mVar, Mx.mChain, Mx.mTup, Mx.mLst, Mx.mPar, Mx.mPar3, Mx.gmName, Mx.gmTup, Mx.gmCons, Mx.gmNil, Mx.mFld, Mx.bind_ok, Mx.bind_fail, Mx.bind_exc, Mx.noX_ok, Mx.thenS_nx, Mx.thenS_rt, Mx.asB_bl, Mx.ofO_some, Mx.ofO_none, Mx.flow_nx, List.map_cons, List.map_nil, List.cons_append, List.nil_append, List.append_nil, List.getElem?_cons_zero, List.getElem?_cons_succ, List.set_cons_zero, List.set_cons_succ, List.replicate_succ, List.replicate_zero, List.length_cons, List.length_nil, Nat.zero_add, Nat.reduceAdd, if_true, if_false, reduceIte, reduceCtorEq, Bool.not_true, Bool.not_false, Bool.false_eq_true, Mx.fI2, Mx.fU, Option.map_some, Option.map_none, Nat.reduceEqDiff, Mx.isi_int, Mx.isi_int2, Mx.isi_tup, Mx.len_tup, decide_true, decide_false, Mx.holds_bind_iff, Mx.holds_ok, Mx.holds_exc, e1, mBM0, isL g0, e2, ix_r1, e3, len_aN, e4]
      by_cases hc : 1 < c
      · have ej : jx c (nms P) = (nms P).getLast?.getD 0 := by unfold jx; rw [if_pos hc]
        rw [ej] at e5
        simp only [Mx.mDef, Mx.mSeq, Mx.mAsg, Mx.mRet, Mx.mDrop, Mx.mIfS, Mx.mNx, Mx.mAndV, Mx.mOrV, Mx.mNotV, Mx.mIf, Mx.mB, Mx.mAnd, Mx.mOr, Mx.mNot, Mx.mNil, Mx.mCons, Mx.mCB, Mx.mCall, Mx.m1, Mx.m2, Mx.mC, Mx.mVar, Mx.mChain, Mx.mTup, Mx.mLst, Mx.mPar, Mx.mPar3, Mx.gmName, Mx.gmTup, Mx.gmCons, Mx.gmNil, Mx.mFld, Mx.bind_ok, Mx.bind_fail, Mx.bind_exc, Mx.noX_ok, Mx.thenS_nx, Mx.thenS_rt, Mx.asB_bl, Mx.ofO_some, Mx.ofO_none, Mx.flow_nx, List.map_cons, List.map_nil, List.cons_append, List.nil_append, List.append_nil, List.getElem?_cons_zero, List.getElem?_cons_succ, List.set_cons_zero, List.set_cons_succ, List.replicate_succ, List.replicate_zero, List.length_cons, List.length_nil, Nat.zero_add, Nat.reduceAdd, if_true, if_false, reduceIte, reduceCtorEq, Bool.not_true, Bool.not_false, Bool.false_eq_true, Mx.fI2, Mx.fU, Option.map_some, Option.map_none, Nat.reduceEqDiff, Mx.isi_int, Mx.isi_int2, Mx.isi_tup, Mx.len_tup, decide_true, decide_false, Mx.holds_bind_iff, Mx.holds_ok, Mx.holds_exc, hc, e5]
        refine ⟨_, rfl, ?_, some (.int t), some (.int ((nms P).getLast?.getD 0 : Nat)), j7, ?_⟩
        · rw [nms_neg ht, fnd_neg ht]
        · rw [rst_neg ht, ej]
          rfl
      · have ej : jx c (nms P) = 0 := by unfold jx; rw [if_neg hc]
        rw [ej, show ((0 : Nat) : Int) = 0 from rfl] at e5
        simp only [Mx.mDef, Mx.mSeq, Mx.mAsg, Mx.mRet, Mx.mDrop, Mx.mIfS, Mx.mNx, Mx.mAndV, Mx.mOrV, Mx.mNotV, Mx.mIf, Mx.mB, Mx.mAnd, Mx.mOr, Mx.mNot, Mx.mNil, Mx.mCons, Mx.mCB, Mx.mCall, Mx.m1, Mx.m2, Mx.mC, Mx.mVar, Mx.mChain, Mx.mTup, Mx.mLst, Mx.mPar, Mx.mPar3, Mx.gmName, Mx.gmTup, Mx.gmCons, Mx.gmNil, Mx.mFld, Mx.bind_ok, Mx.bind_fail, Mx.bind_exc, Mx.noX_ok, Mx.thenS_nx, Mx.thenS_rt, Mx.asB_bl, Mx.ofO_some, Mx.ofO_none, Mx.flow_nx, List.map_cons, List.map_nil, List.cons_append, List.nil_append, List.append_nil, List.getElem?_cons_zero, List.getElem?_cons_succ, List.set_cons_zero, List.set_cons_succ, List.replicate_succ, List.replicate_zero, List.length_cons, List.length_nil, Nat.zero_add, Nat.reduceAdd, if_true, if_false, reduceIte, reduceCtorEq, Bool.not_true, Bool.not_false, Bool.false_eq_true, Mx.fI2, Mx.fU, Option.map_some, Option.map_none, Nat.reduceEqDiff, Mx.isi_int, Mx.isi_int2, Mx.isi_tup, Mx.len_tup, decide_true, decide_false, Mx.holds_bind_iff, Mx.holds_ok, Mx.holds_exc, hc, e5]
        refine ⟨_, rfl, ?_, some (.int t), some (.int ((nms P).getLast?.getD 0 : Nat)), j7, ?_⟩
        · rw [nms_neg ht, fnd_neg ht]
        · rw [rst_neg ht, ej]
          rfl
    · have e1 : decide (t < (0 : Int)) = false := by simpa using ht
      have htn : t.toNat < n := by rcases gp.2 with ⟨a, b⟩ | ⟨a, b⟩ <;> omega
      have e0 : A.int t = .int (t.toNat : Nat) := by
        congr 1
        omega
      have g0 : (st ++ [Ob.lst (aL (nms P)), Ob.lst (aL (fnd r c P))])[st.length]? = some (.lst (aL (nms P))) := get_new
      have e2 := app_l (a := .int t) g0 (by rw [aL_len]; omega)
      rw [set_new0] at e2
      generalize hs1 : aL (nms P) ++ [A.int t] = N1 at e2
      have e3 := ix_mP (st := st ++ [.lst N1, .lst (aL (fnd r c P))]) (l := r.op) (k := rst r c P) hs
      have e4 := ix_aP (st := st ++ [.lst N1, .lst (aL (fnd r c P))]) (l := r.op.getD (rst r c P) []) (k := t.toNat) (by rw [h.olen hs]; exact htn)
      rw [← e0] at e4
      have g1 : (st ++ [Ob.lst N1, Ob.lst (aL (fnd r c P))])[st.length + 1]? = some (.lst (aL (fnd r c P))) := get_new1
      have e5 := app_l (a := .int (((r.op.getD (rst r c P) []).getD t.toNat (0, 0)).2 : Nat)) g1 (by rw [aL_len]; omega)
      rw [set_new1] at e5
      simp only [Mx.mDef, Mx.mSeq, Mx.mAsg, Mx.mRet, Mx.mDrop, Mx.mIfS, Mx.mNx, Mx.mAndV, Mx.mOrV, Mx.mNotV, Mx.mIf, Mx.mB, Mx.mAnd, Mx.mOr, Mx.mNot, Mx.mNil, Mx.mCons, Mx.mCB, Mx.mCall, Mx.m1, Mx.m2, Mx.mC, Mx.mVar, Mx.mChain, Mx.mTup, Mx.mLst, Mx.mPar, Mx.mPar3, Mx.gmName, Mx.gmTup, Mx.gmCons, Mx.gmNil, Mx.mFld, Mx.bind_ok, Mx.bind_fail, Mx.bind_exc, Mx.noX_ok, Mx.thenS_nx, Mx.thenS_rt, Mx.asB_bl, Mx.ofO_some, Mx.ofO_none, Mx.flow_nx, List.map_cons, List.map_nil, List.cons_append, List.nil_append, List.append_nil, List.getElem?_cons_zero, List.getElem?_cons_succ, List.set_cons_zero, List.set_cons_succ, List.replicate_succ, List.replicate_zero, List.length_cons, List.length_nil, Nat.zero_add, Nat.reduceAdd, if_true, if_false, reduceIte, reduceCtorEq, Bool.not_true, Bool.not_false, Bool.false_eq_true, Mx.fI2, Mx.fU, Option.map_some, Option.map_none, Nat.reduceEqDiff, Mx.isi_int, Mx.isi_int2, Mx.isi_tup, Mx.len_tup, decide_true, decide_false, Mx.holds_bind_iff, Mx.holds_ok, Mx.holds_exc, e1, mBM, isL g0, e2, ix_r0, e3, e4, aP]
      simp only [Mx.mDef, Mx.mSeq, Mx.mAsg, Mx.mRet, Mx.mDrop, Mx.mIfS, Mx.mNx, Mx.mAndV, Mx.mOrV, Mx.mNotV, Mx.mIf, Mx.mB, Mx.mAnd, Mx.mOr, Mx.mNot, Mx.mNil, Mx.mCons, Mx.mCB, Mx.mCall, Mx.m1, Mx.m2, Mx.mC, Mx.mVar, Mx.mChain, Mx.mTup, Mx.mLst, Mx.mPar, Mx.mPar3, Mx.gmName, Mx.gmTup, Mx.gmCons, Mx.gmNil, Mx.mFld, Mx.bind_ok, Mx.bind_fail, Mx.bind_exc, Mx.noX_ok, Mx.thenS_nx, Mx.thenS_rt, Mx.asB_bl, Mx.ofO_some, Mx.ofO_none, Mx.flow_nx, List.map_cons, List.map_nil, List.cons_append, List.nil_append, List.append_nil, List.getElem?_cons_zero, List.getElem?_cons_succ, List.set_cons_zero, List.set_cons_succ, List.replicate_succ, List.replicate_zero, List.length_cons, List.length_nil, Nat.zero_add, Nat.reduceAdd, if_true, if_false, reduceIte, reduceCtorEq, Bool.not_true, Bool.not_false, Bool.false_eq_true, Mx.fI2, Mx.fU, Option.map_some, Option.map_none, Nat.reduceEqDiff, Mx.isi_int, Mx.isi_int2, Mx.isi_tup, Mx.len_tup, decide_true, decide_false, Mx.holds_bind_iff, Mx.holds_ok, Mx.holds_exc, isL g1, e5]
      refine ⟨_, rfl, ?_, some (.int t), j6, some (.int (((r.op.getD (rst r c P) []).getD t.toNat (0, 0)).2 : Nat)), ?_⟩
      · rw [nms_pos ht, fnd_pos ht, aL_append, aL_append, ← hs1, e0]
        rfl
      · rw [rst_pos ht]
        rfl
end
end Mx

/-! ### MkM4 -/
set_option Elab.async false
set_option linter.all false
set_option maxRecDepth 100000
set_option maxHeartbeats 1000000
namespace Mx
open PySem PySem.Spec PyProof.Rows L2
/-! ### the desk -/
def flds (d : Nat) (q : Qn) (b : Bool) (r : Rd) : List (Str × A) := [("_question", aQ q), ("_manner", aM b), ("_reader", aR r), ("_tags", .ref (d + 1)), ("_states", .ref (d + 2)), ("_left_open", .ref (d + 3)), ("_closed", .ref (d + 4)), ("_erred", .ref (d + 5))]
def stk (r : Rd) (c : Nat) : List Int → List Nat
  | [] => [0]
  | t :: ts => stk r c ts ++ [rst r c (t :: ts)]
def lop (q : Qn) (w : List Nat) : List (Nat × Nat) := (List.range w.length).map fun i => (w.getD i 0, led q 0 (w.take (i + 1)))
def cld (q : Qn) : List Int → List (Nat × Nat)
  | [] => []
  | t :: ts => if t < 0 then cld q ts ++ [((nms ts).getLast?.getD 0, led q 0 (nms ts))] else cld q ts
def erd (q : Qn) (r : Rd) (c : Nat) (ts : List Int) : List Bool := List.zipWith (fun f w => decide (f ≠ q.due (led q 0 w))) (fnd r c ts) (pths ts)
structure DSt (st : Sto) (d : Nat) (q : Qn) (b : Bool) (r : Rd) (c : Nat) (ts : List Int) : Prop where
  o : st[d]? = some (.ins 0 (flds d q b r))
  t : st[d + 1]? = some (.lst (aI ts.reverse))
  s : st[d + 2]? = some (.lst (aL (stk r c ts)))
  l : st[d + 3]? = some (.lst ((lop q (nms ts)).map aP))
  k : st[d + 4]? = some (.lst ((cld q ts).map aP))
  e : st[d + 5]? = some (.lst ((erd q r c ts).map .bl))
section
variable {q : Qn} {r : Rd} {n c d : Nat} {b : Bool} {st : Sto} {ts : List Int}
theorem DSt.pre {st2 : Sto} (h : DSt st d q b r c ts) (p : st <+: st2) : DSt st2 d q b r c ts := ⟨pre_get p h.o, pre_get p h.t, pre_get p h.s, pre_get p h.l, pre_get p h.k, pre_get p h.e⟩
theorem lop_snoc {w : List Nat} {x : Nat} : lop q (w ++ [x]) = lop q w ++ [(x, led q 0 (w ++ [x]))] := by
  unfold lop
  rw [List.length_append, List.length_singleton, List.range_succ, List.map_append]
  congr 1
  · apply List.map_congr_left
    intro i hi
    have hi := List.mem_range.mp hi
    rw [List.take_append_of_le_length (by omega)]
    congr 1
    rw [List.getD_eq_getElem?_getD, List.getD_eq_getElem?_getD, List.getElem?_append_left hi]
  · rw [List.map_singleton, List.take_of_length_le (by simp)]
    simp
theorem lop_last {w : List Nat} (h : w ≠ []) : lop q w = lop q w.dropLast ++ [(w.getLast?.getD 0, led q 0 w)] := by
  have e := split_last h
  conv => lhs; rw [e]
  rw [lop_snoc, ← e]
theorem lop_len {w : List Nat} : (lop q w).length = w.length := by unfold lop; simp
theorem stk_last : ∃ l, stk r c ts = l ++ [rst r c ts] := by
  cases ts with
  | nil => exact ⟨[], rfl⟩
  | cons t ts => exact ⟨stk r c ts, rfl⟩
theorem stk_len : ∀ {ts : List Int}, (stk r c ts).length = ts.length + 1
  | [] => rfl
  | t :: ts => by rw [stk, List.length_append, stk_len]; rfl
theorem cld_len : ∀ {ts : List Int}, (cld q ts).length ≤ ts.length
  | [] => Nat.le_refl _
  | t :: ts => by
    have := cld_len (ts := ts)
    unfold cld
    split
    · rw [List.length_append, List.length_cons]; simp; omega
    · rw [List.length_cons]; omega
theorem erd_len : (erd q r c ts).length = (pths ts).length := by unfold erd; rw [List.length_zipWith, fnd_len]; omega
theorem erd_neg {t : Int} (h : t < 0) : erd q r c (t :: ts) = erd q r c ts := by unfold erd; rw [fnd_neg h, pths_neg h]
theorem erd_pos {t : Int} (h : ¬ t < 0) : erd q r c (t :: ts) = erd q r c ts ++ [decide ((r.on (rst r c ts) t.toNat).2 ≠ q.due (led q 0 (nms ts ++ [t.toNat])))] := by
  unfold erd
  rw [fnd_pos h, pths_pos h, List.zipWith_append fnd_len, nms_pos h]
  rfl
/-! the fields -/
theorem lk_q : (flds d q b r).lookup ("_question" : Str) = some (aQ q) := rfl
theorem lk_m : (flds d q b r).lookup ("_manner" : Str) = some (aM b) := rfl
theorem lk_r : (flds d q b r).lookup ("_reader" : Str) = some (aR r) := rfl
theorem lk_t : (flds d q b r).lookup ("_tags" : Str) = some (A.ref (d + 1)) := rfl
theorem lk_s : (flds d q b r).lookup ("_states" : Str) = some (A.ref (d + 2)) := rfl
theorem lk_l : (flds d q b r).lookup ("_left_open" : Str) = some (A.ref (d + 3)) := rfl
theorem lk_k : (flds d q b r).lookup ("_closed" : Str) = some (A.ref (d + 4)) := rfl
theorem lk_e : (flds d q b r).lookup ("_erred" : Str) = some (A.ref (d + 5)) := rfl
theorem init_h (h : QOk q n) (h2 : ROk r n (ways n b)) : f_Desk___init__ [.ref st.length, aQ q, aM b, aR r] (st ++ [.ins 0 []]) = .ok (.non, st ++ [.ins 0 (flds st.length q b r), .lst [], .lst [.int 0], .lst [], .lst [], .lst []]) := by
  have p1 : putA ("_question" : Str) (aQ q) [] = ([("_question", aQ q)] : List (Str × A)) := rfl
  have p2 : putA ("_manner" : Str) (aM b) [("_question", aQ q)] = ([("_question", aQ q), ("_manner", aM b)] : List (Str × A)) := rfl
  have p3 : putA ("_reader" : Str) (aR r) [("_question", aQ q), ("_manner", aM b)] = ([("_question", aQ q), ("_manner", aM b), ("_reader", aR r)] : List (Str × A)) := rfl
  have p4 : ∀ x, putA ("_tags" : Str) x [("_question", aQ q), ("_manner", aM b), ("_reader", aR r)] = ([("_question", aQ q), ("_manner", aM b), ("_reader", aR r), ("_tags", x)] : List (Str × A)) := fun _ => rfl
  have p5 : ∀ x y, putA ("_states" : Str) y [("_question", aQ q), ("_manner", aM b), ("_reader", aR r), ("_tags", x)] = ([("_question", aQ q), ("_manner", aM b), ("_reader", aR r), ("_tags", x), ("_states", y)] : List (Str × A)) := fun _ _ => rfl
  have p6 : ∀ x y z, putA ("_left_open" : Str) z [("_question", aQ q), ("_manner", aM b), ("_reader", aR r), ("_tags", x), ("_states", y)] = ([("_question", aQ q), ("_manner", aM b), ("_reader", aR r), ("_tags", x), ("_states", y), ("_left_open", z)] : List (Str × A)) := fun _ _ _ => rfl
  have p7 : ∀ x y z u, putA ("_closed" : Str) u [("_question", aQ q), ("_manner", aM b), ("_reader", aR r), ("_tags", x), ("_states", y), ("_left_open", z)] = ([("_question", aQ q), ("_manner", aM b), ("_reader", aR r), ("_tags", x), ("_states", y), ("_left_open", z), ("_closed", u)] : List (Str × A)) := fun _ _ _ _ => rfl
  have p8 : ∀ x y z u v, putA ("_erred" : Str) v [("_question", aQ q), ("_manner", aM b), ("_reader", aR r), ("_tags", x), ("_states", y), ("_left_open", z), ("_closed", u)] = ([("_question", aQ q), ("_manner", aM b), ("_reader", aR r), ("_tags", x), ("_states", y), ("_left_open", z), ("_closed", u), ("_erred", v)] : List (Str × A)) := fun _ _ _ _ _ => rfl
  unfold f_Desk___init__ m_Desk___init__
  simp only [Mx.mDef, Mx.mSeq, Mx.mAsg, Mx.mRet, Mx.mDrop, Mx.mIfS, Mx.mNx, Mx.mAndV, Mx.mOrV, Mx.mNotV, Mx.mIf, Mx.mB, Mx.mAnd, Mx.mOr, Mx.mNot, Mx.mNil, Mx.mCons, Mx.mCB, Mx.mCall, Mx.m1, Mx.m2, Mx.mC, Mx.mVar, Mx.mChain, Mx.mTup, Mx.mLst, Mx.mPar, Mx.mPar3, Mx.gmName, Mx.gmTup, Mx.gmCons, Mx.gmNil, Mx.mFld, Mx.bind_ok, Mx.bind_fail, Mx.bind_exc, Mx.noX_ok, Mx.thenS_nx, Mx.thenS_rt, Mx.asB_bl, Mx.ofO_some, Mx.ofO_none, Mx.flow_nx, List.map_cons, List.map_nil, List.cons_append, List.nil_append, List.append_nil, List.getElem?_cons_zero, List.getElem?_cons_succ, List.set_cons_zero, List.set_cons_succ, List.replicate_succ, List.replicate_zero, List.length_cons, List.length_nil, Nat.zero_add, Nat.reduceAdd, if_true, if_false, reduceIte, reduceCtorEq, Bool.not_true, Bool.not_false, Bool.false_eq_true, Mx.fI2, Mx.fU, Option.map_some, Option.map_none, Nat.reduceEqDiff, Mx.isi_int, Mx.isi_int2, Mx.isi_tup, Mx.len_tup, decide_true, decide_false, reading_t (st := st ++ [.ins 0 []]) h h2, mSetF, get_new, set_new0, p1, p2, p3, p4, p5, p6, p7, p8, show ((0 : Nat) ≤ sizeLine) = True by simp, show ((1 : Nat) ≤ sizeLine) = True by rw [sizeLine_eq]; simp, List.append_assoc, List.length_append, Nat.reduceLT, and_self]
  rfl
end
end Mx

/-! ### MkM5 -/
set_option Elab.async false
set_option linter.all false
set_option maxRecDepth 100000
set_option maxHeartbeats 1000000
namespace Mx
open PySem PySem.Spec PyProof.Rows L2
structure D6 (st : Sto) (d : Nat) (fs : List (Str × A)) (t s l k e : List A) : Prop where
  o : st[d]? = some (.ins 0 fs)
  t : st[d + 1]? = some (.lst t)
  s : st[d + 2]? = some (.lst s)
  l : st[d + 3]? = some (.lst l)
  k : st[d + 4]? = some (.lst k)
  e : st[d + 5]? = some (.lst e)
def Kp (st : Sto) (d : Nat) (st2 : Sto) : Prop := ∀ i, i < d → st2[i]? = st[i]?
theorem Kp.refl {st : Sto} {d : Nat} : Kp st d st := fun _ _ => rfl
theorem Kp.trans {a b c : Sto} {d : Nat} (h : Kp a d b) (g : Kp b d c) : Kp a d c := fun i hi => (g i hi).trans (h i hi)
theorem Kp.set {st : Sto} {d j : Nat} {z : Ob} : Kp st d (st.set (d + j) z) := fun i hi => List.getElem?_set_ne (by omega)
theorem get_set {st : Sto} {i : Nat} {o z : Ob} (h : st[i]? = some o) : (st.set i z)[i]? = some z := List.getElem?_set_self (List.getElem?_eq_some_iff.mp h).1
section
variable {d : Nat} {fs : List (Str × A)} {t s l k e z : List A} {st : Sto}
theorem D6.st_ (h : D6 st d fs t s l k e) : D6 (st.set (d + 1) (.lst z)) d fs z s l k e := ⟨by rw [List.getElem?_set_ne (by omega)]; exact h.o, get_set h.t, by rw [List.getElem?_set_ne (by omega)]; exact h.s, by rw [List.getElem?_set_ne (by omega)]; exact h.l, by rw [List.getElem?_set_ne (by omega)]; exact h.k, by rw [List.getElem?_set_ne (by omega)]; exact h.e⟩
theorem D6.ss (h : D6 st d fs t s l k e) : D6 (st.set (d + 2) (.lst z)) d fs t z l k e := ⟨by rw [List.getElem?_set_ne (by omega)]; exact h.o, by rw [List.getElem?_set_ne (by omega)]; exact h.t, get_set h.s, by rw [List.getElem?_set_ne (by omega)]; exact h.l, by rw [List.getElem?_set_ne (by omega)]; exact h.k, by rw [List.getElem?_set_ne (by omega)]; exact h.e⟩
theorem D6.sl (h : D6 st d fs t s l k e) : D6 (st.set (d + 3) (.lst z)) d fs t s z k e := ⟨by rw [List.getElem?_set_ne (by omega)]; exact h.o, by rw [List.getElem?_set_ne (by omega)]; exact h.t, by rw [List.getElem?_set_ne (by omega)]; exact h.s, get_set h.l, by rw [List.getElem?_set_ne (by omega)]; exact h.k, by rw [List.getElem?_set_ne (by omega)]; exact h.e⟩
theorem D6.sk (h : D6 st d fs t s l k e) : D6 (st.set (d + 4) (.lst z)) d fs t s l z e := ⟨by rw [List.getElem?_set_ne (by omega)]; exact h.o, by rw [List.getElem?_set_ne (by omega)]; exact h.t, by rw [List.getElem?_set_ne (by omega)]; exact h.s, by rw [List.getElem?_set_ne (by omega)]; exact h.l, get_set h.k, by rw [List.getElem?_set_ne (by omega)]; exact h.e⟩
theorem D6.se (h : D6 st d fs t s l k e) : D6 (st.set (d + 5) (.lst z)) d fs t s l k z := ⟨by rw [List.getElem?_set_ne (by omega)]; exact h.o, by rw [List.getElem?_set_ne (by omega)]; exact h.t, by rw [List.getElem?_set_ne (by omega)]; exact h.s, by rw [List.getElem?_set_ne (by omega)]; exact h.l, by rw [List.getElem?_set_ne (by omega)]; exact h.k, get_set h.e⟩
end
theorem eq_int {i j : Int} {st : Sto} : fEq (.int i) (.int j) st = some (.bl (decide (i = j)), st) := id rfl
theorem ne_int {i j : Int} {st : Sto} : fNe (.int i) (.int j) st = some (.bl (!decide (i = j)), st) := id rfl
theorem len_ref {l : List A} {k : Nat} {st : Sto} (h : st[k]? = some (.lst l)) : fLen [.ref k] st = some (.int l.length, st) := by
  unfold fLen
  dsimp only
  rw [h]
theorem ne_cast {x y : Nat} : (!decide ((x : Int) = (y : Int))) = decide (x ≠ y) := by
  rw [← decide_not]
  exact decide_eq_decide.mpr (by omega)
section
variable {q : Qn} {r : Rd} {n c d : Nat} {b : Bool} {st : Sto} {ts : List Int} {E : Xc → Sto → Prop} {T K Er : List A}
theorem DSt.d6 (h : DSt st d q b r c ts) : D6 st d (flds d q b r) (aI ts.reverse) (aL (stk r c ts)) ((lop q (nms ts)).map aP) ((cld q ts).map aP) ((erd q r c ts).map .bl) := ⟨h.o, h.t, h.s, h.l, h.k, h.e⟩
theorem D6.dst (h : D6 st d (flds d q b r) (aI ts.reverse) (aL (stk r c ts)) ((lop q (nms ts)).map aP) ((cld q ts).map aP) ((erd q r c ts).map .bl)) : DSt st d q b r c ts := ⟨h.o, h.t, h.s, h.l, h.k, h.e⟩
theorem behind_t (h : ROk r n (ways n b)) {s x : Nat} (hs : s < r.op.length) (hx : x < n) (hn : 1 ≤ n) : f_behind_closing [aM b, aR r, .int s, .int x] st = .ok (.int (r.off s (if 1 < ways n b then x else 0) : Nat), st) := by
  have e1 := ix_mN (st := st) (l := r.cl) (k := s) (by rw [h.cm]; exact hs)
  have hc := h.clen hs
  unfold f_behind_closing m_behind_closing
  cases b with
  | true =>
    have ew : ways n true = n := rfl
    have e2 := ix_aN (st := st) (l := r.cl.getD s []) (k := x) (by rw [hc]; exact hx)
    have e3 : fEq (aM true) (.str "named") st = some (.bl true, st) := rfl
    simp only [Mx.mDef, Mx.mSeq, Mx.mAsg, Mx.mRet, Mx.mDrop, Mx.mIfS, Mx.mNx, Mx.mAndV, Mx.mOrV, Mx.mNotV, Mx.mIf, Mx.mB, Mx.mAnd, Mx.mOr, Mx.mNot, Mx.mNil, Mx.mCons, Mx.mCB, Mx.mCall, Mx.m1, Mx.m2, Mx.mC, Mx.mVar, Mx.mChain, Mx.mTup, Mx.mLst, Mx.mPar, Mx.mPar3, Mx.gmName, Mx.gmTup, Mx.gmCons, Mx.gmNil, Mx.mFld, Mx.bind_ok, Mx.bind_fail, Mx.bind_exc, Mx.noX_ok, Mx.thenS_nx, Mx.thenS_rt, Mx.asB_bl, Mx.ofO_some, Mx.ofO_none, Mx.flow_nx, List.map_cons, List.map_nil, List.cons_append, List.nil_append, List.append_nil, List.getElem?_cons_zero, List.getElem?_cons_succ, List.set_cons_zero, List.set_cons_succ, List.replicate_succ, List.replicate_zero, List.length_cons, List.length_nil, Nat.zero_add, Nat.reduceAdd, if_true, if_false, reduceIte, reduceCtorEq, Bool.not_true, Bool.not_false, Bool.false_eq_true, Mx.fI2, Mx.fU, Option.map_some, Option.map_none, Nat.reduceEqDiff, Mx.isi_int, Mx.isi_int2, Mx.isi_tup, Mx.len_tup, decide_true, decide_false, ix_r1, e1, e3, e2]
    unfold Rd.off
    rw [ew]
    by_cases h1 : 1 < n
    · rw [if_pos h1]
    · have : x = 0 := by omega
      subst this
      rw [if_neg h1]
  | false =>
    have e2 := ix_aN (st := st) (l := r.cl.getD s []) (k := 0) (by rw [hc]; exact Nat.one_pos)
    have e3 : fEq (aM false) (.str "named") st = some (.bl false, st) := rfl
    rw [show ((0 : Nat) : Int) = 0 from rfl] at e2
    simp only [Mx.mDef, Mx.mSeq, Mx.mAsg, Mx.mRet, Mx.mDrop, Mx.mIfS, Mx.mNx, Mx.mAndV, Mx.mOrV, Mx.mNotV, Mx.mIf, Mx.mB, Mx.mAnd, Mx.mOr, Mx.mNot, Mx.mNil, Mx.mCons, Mx.mCB, Mx.mCall, Mx.m1, Mx.m2, Mx.mC, Mx.mVar, Mx.mChain, Mx.mTup, Mx.mLst, Mx.mPar, Mx.mPar3, Mx.gmName, Mx.gmTup, Mx.gmCons, Mx.gmNil, Mx.mFld, Mx.bind_ok, Mx.bind_fail, Mx.bind_exc, Mx.noX_ok, Mx.thenS_nx, Mx.thenS_rt, Mx.asB_bl, Mx.ofO_some, Mx.ofO_none, Mx.flow_nx, List.map_cons, List.map_nil, List.cons_append, List.nil_append, List.append_nil, List.getElem?_cons_zero, List.getElem?_cons_succ, List.set_cons_zero, List.set_cons_succ, List.replicate_succ, List.replicate_zero, List.length_cons, List.length_nil, Nat.zero_add, Nat.reduceAdd, if_true, if_false, reduceIte, reduceCtorEq, Bool.not_true, Bool.not_false, Bool.false_eq_true, Mx.fI2, Mx.fU, Option.map_some, Option.map_none, Nat.reduceEqDiff, Mx.isi_int, Mx.isi_int2, Mx.isi_tup, Mx.len_tup, decide_true, decide_false, ix_r1, e1, e3, e2]
    rfl
/-- the state that the innermost open mark stands in -/
def mOut : EM := (mIf (mB (m2 (fI2 fun i j => .bl (decide (j < i))) (mCB fLen (mCons (mFld 0 "_left_open" (mVar 0)) mNil)) (mC (.int 0)))) (m2 fIx (m2 fIx (mFld 0 "_left_open" (mVar 0)) (m1 (fU fun i => .int (-i)) (mC (.int 1)))) (mC (.int 1))) (mC (.int 0)))
theorem open_h (hq : QOk q n) (hr : ROk r n c) (w : CW n c) (g : Gd n ts) {t : Int} (ht : 0 ≤ t) (ht2 : t < n) (hl : ts.length ≤ 1000) (h : D6 st d (flds d q b r) T (aL (stk r c ts)) ((lop q (nms ts)).map aP) K ((erd q r c ts).map .bl)) :
    (f_Desk__pass_opening [.ref d, .int t] st).holds (fun y => y.1 = .tup [.int (q.due (led q 0 (nms (t :: ts))) : Nat), .int ((r.on (rst r c ts) t.toNat).2 : Nat)] ∧ D6 y.2 d (flds d q b r) T (aL (stk r c (t :: ts))) ((lop q (nms (t :: ts))).map aP) K ((erd q r c (t :: ts)).map .bl) ∧ Kp st d y.2) E := by
  have hm1 := hq.m1
  have l1 := nms_len (ts := ts)
  have l2 := pths_len (ts := ts)
  have l3 := lop_len (q := q) (w := nms ts)
  have l4 := stk_len (r := r) (c := c) (ts := ts)
  have l5 := erd_len (q := q) (r := r) (c := c) (ts := ts)
  have htn : ¬ t < 0 := by omega
  have hd := h.o
  -- where it stands
  have hs : led q 0 (nms ts) < q.st.length := led_lt hq (by omega) (nms_lt g)
  have hto : led q 0 (nms (t :: ts)) = q.to (led q 0 (nms ts)) t.toNat := by
    rw [nms_pos htn]
    unfold led
    rw [List.foldl_append]
    rfl
  have e0 : A.int t = .int (t.toNat : Nat) := by congr 1; omega
  have e1 := ix_mN (st := st) hs
  have e2 := ix_aN (st := st) (l := q.st.getD (led q 0 (nms ts)) []) (k := t.toNat) (by rw [hq.rlen hs]; omega)
  have hr0 := rst_lt hr w g
  have e3 := ix_mP (st := st) (l := r.op) (k := rst r c ts) hr0
  have e4 := ix_aP (st := st) (l := r.op.getD (rst r c ts) []) (k := t.toNat) (by rw [hr.olen hr0]; omega)
  rw [← e0] at e2 e4
  obtain ⟨sl, hsl⟩ := stk_last (r := r) (c := c) (ts := ts)
  have hs0 := h.s
  have el : fIx (.ref (d + 2)) (.int (-1)) st = some (.int (rst r c ts : Nat), st) := by
    rw [hsl, aL_append] at hs0
    exact ix_last hs0
  have len := len_ref h.l
  -- the outer state
  have outer : mOut [some (.ref d), some (.int t), some (.tup (q.st.map aN)), some (aN q.ms), none, none, none, none] st = .ok (.int (led q 0 (nms ts) : Nat), st) := by
    unfold mOut
    by_cases hne : nms ts = []
    · have ez : decide ((0 : Int) < ((List.map aP (lop q (nms ts))).length : Nat)) = false := by
        rw [hne]
        simp [lop]
      simp only [Mx.mDef, Mx.mSeq, Mx.mAsg, Mx.mRet, Mx.mDrop, Mx.mIfS, Mx.mNx, Mx.mAndV, Mx.mOrV, Mx.mNotV, Mx.mIf, Mx.mB, Mx.mAnd, Mx.mOr, Mx.mNot, Mx.mNil, Mx.mCons, Mx.mCB, Mx.mCall, Mx.m1, Mx.m2, Mx.mC, Mx.mVar, Mx.mChain, Mx.mTup, Mx.mLst, Mx.mPar, Mx.mPar3, Mx.gmName, Mx.gmTup, Mx.gmCons, Mx.gmNil, Mx.mFld, Mx.bind_ok, Mx.bind_fail, Mx.bind_exc, Mx.noX_ok, Mx.thenS_nx, Mx.thenS_rt, Mx.asB_bl, Mx.ofO_some, Mx.ofO_none, Mx.flow_nx, List.map_cons, List.map_nil, List.cons_append, List.nil_append, List.append_nil, List.getElem?_cons_zero, List.getElem?_cons_succ, List.set_cons_zero, List.set_cons_succ, List.replicate_succ, List.replicate_zero, List.length_cons, List.length_nil, Nat.zero_add, Nat.reduceAdd, if_true, if_false, reduceIte, reduceCtorEq, Bool.not_true, Bool.not_false, Bool.false_eq_true, Mx.fI2, Mx.fU, Option.map_some, Option.map_none, Nat.reduceEqDiff, Mx.isi_int, Mx.isi_int2, Mx.isi_tup, Mx.len_tup, decide_true, decide_false, hd, lk_l, len, ez]
      rw [hne]
      rfl
    · have ez : decide ((0 : Int) < ((List.map aP (lop q (nms ts))).length : Nat)) = true := by
        have : (nms ts).length ≠ 0 := fun z => hne (List.eq_nil_of_length_eq_zero z)
        rw [List.length_map, l3]
        simp
        omega
      have hl0 := h.l
      rw [lop_last hne, List.map_append] at hl0
      have ea : fIx (.ref (d + 3)) (.int (-1)) st = some (aP ((nms ts).getLast?.getD 0, led q 0 (nms ts)), st) := ix_last hl0
      have eb : fIx (aP ((nms ts).getLast?.getD 0, led q 0 (nms ts))) (.int 1) st = some (.int (led q 0 (nms ts) : Nat), st) := rfl
      simp only [Mx.mDef, Mx.mSeq, Mx.mAsg, Mx.mRet, Mx.mDrop, Mx.mIfS, Mx.mNx, Mx.mAndV, Mx.mOrV, Mx.mNotV, Mx.mIf, Mx.mB, Mx.mAnd, Mx.mOr, Mx.mNot, Mx.mNil, Mx.mCons, Mx.mCB, Mx.mCall, Mx.m1, Mx.m2, Mx.mC, Mx.mVar, Mx.mChain, Mx.mTup, Mx.mLst, Mx.mPar, Mx.mPar3, Mx.gmName, Mx.gmTup, Mx.gmCons, Mx.gmNil, Mx.mFld, Mx.bind_ok, Mx.bind_fail, Mx.bind_exc, Mx.noX_ok, Mx.thenS_nx, Mx.thenS_rt, Mx.asB_bl, Mx.ofO_some, Mx.ofO_none, Mx.flow_nx, List.map_cons, List.map_nil, List.cons_append, List.nil_append, List.append_nil, List.getElem?_cons_zero, List.getElem?_cons_succ, List.set_cons_zero, List.set_cons_succ, List.replicate_succ, List.replicate_zero, List.length_cons, List.length_nil, Nat.zero_add, Nat.reduceAdd, if_true, if_false, reduceIte, reduceCtorEq, Bool.not_true, Bool.not_false, Bool.false_eq_true, Mx.fI2, Mx.fU, Option.map_some, Option.map_none, Nat.reduceEqDiff, Mx.isi_int, Mx.isi_int2, Mx.isi_tup, Mx.len_tup, decide_true, decide_false, hd, lk_l, len, ez, ea, eb]
  unfold f_Desk__pass_opening m_Desk__pass_opening
  show (mDef (mSeq _ (mSeq (mAsg mOut (gmName 4)) _)) 6 _ _).holds _ _
  simp only [Mx.mDef, Mx.mSeq, Mx.mAsg, Mx.mRet, Mx.mDrop, Mx.mIfS, Mx.mNx, Mx.mAndV, Mx.mOrV, Mx.mNotV, Mx.mIf, Mx.mB, Mx.mAnd, Mx.mOr, Mx.mNot, Mx.mNil, Mx.mCons, Mx.mCB, Mx.mCall, Mx.m1, Mx.m2, Mx.mC, Mx.mVar, Mx.mChain, Mx.mTup, Mx.mLst, Mx.mPar, Mx.mPar3, Mx.gmName, Mx.gmTup, Mx.gmCons, Mx.gmNil, Mx.mFld, Mx.bind_ok, Mx.bind_fail, Mx.bind_exc, Mx.noX_ok, Mx.thenS_nx, Mx.thenS_rt, Mx.asB_bl, Mx.ofO_some, Mx.ofO_none, Mx.flow_nx, List.map_cons, List.map_nil, List.cons_append, List.nil_append, List.append_nil, List.getElem?_cons_zero, List.getElem?_cons_succ, List.set_cons_zero, List.set_cons_succ, List.replicate_succ, List.replicate_zero, List.length_cons, List.length_nil, Nat.zero_add, Nat.reduceAdd, if_true, if_false, reduceIte, reduceCtorEq, Bool.not_true, Bool.not_false, Bool.false_eq_true, Mx.fI2, Mx.fU, Option.map_some, Option.map_none, Nat.reduceEqDiff, Mx.isi_int, Mx.isi_int2, Mx.isi_tup, Mx.len_tup, decide_true, decide_false, hd, lk_q]
  unfold aQ
  simp only [Mx.mDef, Mx.mSeq, Mx.mAsg, Mx.mRet, Mx.mDrop, Mx.mIfS, Mx.mNx, Mx.mAndV, Mx.mOrV, Mx.mNotV, Mx.mIf, Mx.mB, Mx.mAnd, Mx.mOr, Mx.mNot, Mx.mNil, Mx.mCons, Mx.mCB, Mx.mCall, Mx.m1, Mx.m2, Mx.mC, Mx.mVar, Mx.mChain, Mx.mTup, Mx.mLst, Mx.mPar, Mx.mPar3, Mx.gmName, Mx.gmTup, Mx.gmCons, Mx.gmNil, Mx.mFld, Mx.bind_ok, Mx.bind_fail, Mx.bind_exc, Mx.noX_ok, Mx.thenS_nx, Mx.thenS_rt, Mx.asB_bl, Mx.ofO_some, Mx.ofO_none, Mx.flow_nx, List.map_cons, List.map_nil, List.cons_append, List.nil_append, List.append_nil, List.getElem?_cons_zero, List.getElem?_cons_succ, List.set_cons_zero, List.set_cons_succ, List.replicate_succ, List.replicate_zero, List.length_cons, List.length_nil, Nat.zero_add, Nat.reduceAdd, if_true, if_false, reduceIte, reduceCtorEq, Bool.not_true, Bool.not_false, Bool.false_eq_true, Mx.fI2, Mx.fU, Option.map_some, Option.map_none, Nat.reduceEqDiff, Mx.isi_int, Mx.isi_int2, Mx.isi_tup, Mx.len_tup, decide_true, decide_false, outer]
  simp only [Mx.mDef, Mx.mSeq, Mx.mAsg, Mx.mRet, Mx.mDrop, Mx.mIfS, Mx.mNx, Mx.mAndV, Mx.mOrV, Mx.mNotV, Mx.mIf, Mx.mB, Mx.mAnd, Mx.mOr, Mx.mNot, Mx.mNil, Mx.mCons, Mx.mCB, Mx.mCall, Mx.m1, Mx.m2, Mx.mC, Mx.mVar, Mx.mChain, Mx.mTup, Mx.mLst, Mx.mPar, Mx.mPar3, Mx.gmName, Mx.gmTup, Mx.gmCons, Mx.gmNil, Mx.mFld, Mx.bind_ok, Mx.bind_fail, Mx.bind_exc, Mx.noX_ok, Mx.thenS_nx, Mx.thenS_rt, Mx.asB_bl, Mx.ofO_some, Mx.ofO_none, Mx.flow_nx, List.map_cons, List.map_nil, List.cons_append, List.nil_append, List.append_nil, List.getElem?_cons_zero, List.getElem?_cons_succ, List.set_cons_zero, List.set_cons_succ, List.replicate_succ, List.replicate_zero, List.length_cons, List.length_nil, Nat.zero_add, Nat.reduceAdd, if_true, if_false, reduceIte, reduceCtorEq, Bool.not_true, Bool.not_false, Bool.false_eq_true, Mx.fI2, Mx.fU, Option.map_some, Option.map_none, Nat.reduceEqDiff, Mx.isi_int, Mx.isi_int2, Mx.isi_tup, Mx.len_tup, decide_true, decide_false, e1, e2, hd, lk_r, ix_r0, e3, lk_s, el, e4, aP]
  have a1 := app_l (a := .tup [.int t, .int ((q.st.getD (led q 0 (nms ts)) []).getD t.toNat 0 : Nat)]) h.l (by rw [List.length_map, l3]; omega)
  have h1 := h.sl (z := (lop q (nms ts)).map aP ++ [.tup [.int t, .int ((q.st.getD (led q 0 (nms ts)) []).getD t.toNat 0 : Nat)]])
  have k1 : Kp st d (st.set (d + 3) (.lst ((lop q (nms ts)).map aP ++ [.tup [.int t, .int ((q.st.getD (led q 0 (nms ts)) []).getD t.toNat 0 : Nat)]]))) := Kp.set
  have a2 := app_l (a := .int (((r.op.getD (rst r c ts) []).getD t.toNat (0, 0)).1 : Nat)) h1.s (by rw [aL_len, l4]; omega)
  have i1 := isL h1.s
  have o1 := h1.o
  have h2 := h1.ss (z := aL (stk r c ts) ++ [.int (((r.op.getD (rst r c ts) []).getD t.toNat (0, 0)).1 : Nat)])
  generalize hz1 : st.set (d + 3) (.lst ((lop q (nms ts)).map aP ++ [.tup [.int t, .int ((q.st.getD (led q 0 (nms ts)) []).getD t.toNat 0 : Nat)]])) = st1 at *
  have k2 : Kp st1 d (st1.set (d + 2) (.lst (aL (stk r c ts) ++ [.int (((r.op.getD (rst r c ts) []).getD t.toNat (0, 0)).1 : Nat)]))) := Kp.set
  generalize hz2 : st1.set (d + 2) (.lst (aL (stk r c ts) ++ [.int (((r.op.getD (rst r c ts) []).getD t.toNat (0, 0)).1 : Nat)])) = st2 at *
  have e5 := ix_aN (st := st2) (l := q.ms) (k := (q.st.getD (led q 0 (nms ts)) []).getD t.toNat 0) (by rw [hq.ml]; exact hq.to_lt hs (by omega))
  generalize hv : (!decide (((((r.op.getD (rst r c ts) []).getD t.toNat (0, 0)).2 : Nat) : Int) = (q.ms.getD ((q.st.getD (led q 0 (nms ts)) []).getD t.toNat 0) 0 : Nat))) = v
  have a3 := app_l (a := .bl v) h2.e (by rw [List.length_map, l5]; omega)
  have h3 := h2.se (z := (erd q r c ts).map .bl ++ [.bl v])
  have k3 : Kp st2 d (st2.set (d + 5) (.lst ((erd q r c ts).map .bl ++ [.bl v]))) := Kp.set
  have i2 := isL h2.e
  have o2 := h2.o
  generalize hz3 : st2.set (d + 5) (.lst ((erd q r c ts).map .bl ++ [.bl v])) = st3 at *
  have e6 := ix_aN (st := st3) (l := q.ms) (k := (q.st.getD (led q 0 (nms ts)) []).getD t.toNat 0) (by rw [hq.ml]; exact hq.to_lt hs (by omega))
  simp only [Mx.mDef, Mx.mSeq, Mx.mAsg, Mx.mRet, Mx.mDrop, Mx.mIfS, Mx.mNx, Mx.mAndV, Mx.mOrV, Mx.mNotV, Mx.mIf, Mx.mB, Mx.mAnd, Mx.mOr, Mx.mNot, Mx.mNil, Mx.mCons, Mx.mCB, Mx.mCall, Mx.m1, Mx.m2, Mx.mC, Mx.mVar, Mx.mChain, Mx.mTup, Mx.mLst, Mx.mPar, Mx.mPar3, Mx.gmName, Mx.gmTup, Mx.gmCons, Mx.gmNil, Mx.mFld, Mx.bind_ok, Mx.bind_fail, Mx.bind_exc, Mx.noX_ok, Mx.thenS_nx, Mx.thenS_rt, Mx.asB_bl, Mx.ofO_some, Mx.ofO_none, Mx.flow_nx, List.map_cons, List.map_nil, List.cons_append, List.nil_append, List.append_nil, List.getElem?_cons_zero, List.getElem?_cons_succ, List.set_cons_zero, List.set_cons_succ, List.replicate_succ, List.replicate_zero, List.length_cons, List.length_nil, Nat.zero_add, Nat.reduceAdd, if_true, if_false, reduceIte, reduceCtorEq, Bool.not_true, Bool.not_false, Bool.false_eq_true, Mx.fI2, Mx.fU, Option.map_some, Option.map_none, Nat.reduceEqDiff, Mx.isi_int, Mx.isi_int2, Mx.isi_tup, Mx.len_tup, decide_true, decide_false, Mx.holds_bind_iff, Mx.holds_ok, Mx.holds_exc, mBM, isL h.l, lk_l, show ((2 : Nat) ≤ sizeLine) = True by rw [sizeLine_eq]; simp, hd, a1, i1, o1, a2, o2, lk_e, lk_s, i2, e5, ne_int, hv, a3, e6]
  refine ⟨?_, ?_, k1.trans (k2.trans k3)⟩
  · rw [hto]
    rfl
  · have q1 : aL (stk r c (t :: ts)) = aL (stk r c ts) ++ [.int (((r.op.getD (rst r c ts) []).getD t.toNat (0, 0)).1 : Nat)] := by
      rw [stk, aL_append, rst_pos htn]
      rfl
    have q2 : (lop q (nms (t :: ts))).map aP = (lop q (nms ts)).map aP ++ [.tup [.int t, .int ((q.st.getD (led q 0 (nms ts)) []).getD t.toNat 0 : Nat)]] := by
      rw [nms_pos htn, lop_snoc, List.map_append, ← nms_pos htn, hto, e0]
      rfl
    have q3 : (erd q r c (t :: ts)).map A.bl = (erd q r c ts).map .bl ++ [.bl v] := by
      rw [erd_pos htn, List.map_append, ← hv, ← nms_pos htn, hto]
      rw [ne_cast]
      rfl
    rw [q1, q2, q3]
    exact h3
theorem close_h (hq : QOk q n) (hr : ROk r n (ways n b)) (w : CW n (ways n b)) (g : Gd n ts) (ne : nms ts ≠ []) (hl : ts.length ≤ 1000) (h : D6 st d (flds d q b r) T (aL (stk r (ways n b) ts)) ((lop q (nms ts)).map aP) ((cld q ts).map aP) Er) :
    (f_Desk__pass_closing [.ref d] st).holds (fun y => D6 y.2 d (flds d q b r) T (aL (stk r (ways n b) (-1 :: ts))) ((lop q (nms (-1 :: ts))).map aP) ((cld q (-1 :: ts)).map aP) Er ∧ Kp st d y.2) E := by
  have l1 := nms_len (ts := ts)
  have l2 := cld_len (q := q) (ts := ts)
  have l4 := stk_len (r := r) (c := ways n b) (ts := ts)
  have hd := h.o
  have hlt : (nms ts).getLast?.getD 0 < n := by
    rw [List.getLast?_eq_some_getLast ne]
    exact nms_lt g _ (List.getLast_mem ne)
  have h0 := h.l
  rw [lop_last ne, List.map_append] at h0
  have a1 := pop_l (a := aP ((nms ts).getLast?.getD 0, led q 0 (nms ts))) h0
  have h1 := h.sl (z := (lop q (nms ts).dropLast).map aP)
  have k1 : Kp st d (st.set (d + 3) (.lst ((lop q (nms ts).dropLast).map aP))) := Kp.set
  have i0 := isL h.l
  generalize hz1 : st.set (d + 3) (.lst ((lop q (nms ts).dropLast).map aP)) = st1 at *
  have a2 := app_l (a := aP ((nms ts).getLast?.getD 0, led q 0 (nms ts))) h1.k (by rw [List.length_map]; omega)
  have h2 := h1.sk (z := (cld q ts).map aP ++ [aP ((nms ts).getLast?.getD 0, led q 0 (nms ts))])
  have k2 : Kp st1 d (st1.set (d + 4) (.lst ((cld q ts).map aP ++ [aP ((nms ts).getLast?.getD 0, led q 0 (nms ts))]))) := Kp.set
  have i1 := isL h1.k
  have o1 := h1.o
  generalize hz2 : st1.set (d + 4) (.lst ((cld q ts).map aP ++ [aP ((nms ts).getLast?.getD 0, led q 0 (nms ts))])) = st2 at *
  have o2 := h2.o
  have i2 := isL h2.s
  obtain ⟨sl, hsl⟩ := stk_last (r := r) (c := ways n b) (ts := ts)
  have hs0 := h2.s
  have el : fIx (.ref (d + 2)) (.int (-1)) st2 = some (.int (rst r (ways n b) ts : Nat), st2) := by
    rw [hsl, aL_append] at hs0
    exact ix_last hs0
  have e0 : fIx (aP ((nms ts).getLast?.getD 0, led q 0 (nms ts))) (.int 0) st2 = some (.int ((nms ts).getLast?.getD 0 : Nat), st2) := rfl
  have eb := behind_t (st := st2) hr (rst_lt hr w g) hlt (Nat.lt_of_le_of_lt (Nat.zero_le _) hlt)
  have a3 := app_l (a := .int (r.off (rst r (ways n b) ts) (if 1 < ways n b then (nms ts).getLast?.getD 0 else 0) : Nat)) h2.s (by rw [aL_len, l4]; omega)
  have h3 := h2.ss (z := aL (stk r (ways n b) ts) ++ [.int (r.off (rst r (ways n b) ts) (if 1 < ways n b then (nms ts).getLast?.getD 0 else 0) : Nat)])
  have k3 : Kp st2 d (st2.set (d + 2) (.lst (aL (stk r (ways n b) ts) ++ [.int (r.off (rst r (ways n b) ts) (if 1 < ways n b then (nms ts).getLast?.getD 0 else 0) : Nat)]))) := Kp.set
  generalize hz3 : st2.set (d + 2) (.lst (aL (stk r (ways n b) ts) ++ [.int (r.off (rst r (ways n b) ts) (if 1 < ways n b then (nms ts).getLast?.getD 0 else 0) : Nat)])) = st3 at *
  unfold f_Desk__pass_closing m_Desk__pass_closing
  simp only [Mx.mDef, Mx.mSeq, Mx.mAsg, Mx.mRet, Mx.mDrop, Mx.mIfS, Mx.mNx, Mx.mAndV, Mx.mOrV, Mx.mNotV, Mx.mIf, Mx.mB, Mx.mAnd, Mx.mOr, Mx.mNot, Mx.mNil, Mx.mCons, Mx.mCB, Mx.mCall, Mx.m1, Mx.m2, Mx.mC, Mx.mVar, Mx.mChain, Mx.mTup, Mx.mLst, Mx.mPar, Mx.mPar3, Mx.gmName, Mx.gmTup, Mx.gmCons, Mx.gmNil, Mx.mFld, Mx.bind_ok, Mx.bind_fail, Mx.bind_exc, Mx.noX_ok, Mx.thenS_nx, Mx.thenS_rt, Mx.asB_bl, Mx.ofO_some, Mx.ofO_none, Mx.flow_nx, List.map_cons, List.map_nil, List.cons_append, List.nil_append, List.append_nil, List.getElem?_cons_zero, List.getElem?_cons_succ, List.set_cons_zero, List.set_cons_succ, List.replicate_succ, List.replicate_zero, List.length_cons, List.length_nil, Nat.zero_add, Nat.reduceAdd, if_true, if_false, reduceIte, reduceCtorEq, Bool.not_true, Bool.not_false, Bool.false_eq_true, Mx.fI2, Mx.fU, Option.map_some, Option.map_none, Nat.reduceEqDiff, Mx.isi_int, Mx.isi_int2, Mx.isi_tup, Mx.len_tup, decide_true, decide_false, Mx.holds_bind_iff, Mx.holds_ok, Mx.holds_exc, mBM0, mBM, hd, lk_l, i0, a1, o1, lk_k, i1, a2, o2, lk_s, i2, lk_m, lk_r, el, e0, eb, a3]
  refine ⟨?_, k1.trans (k2.trans k3)⟩
  have q1 : aL (stk r (ways n b) (-1 :: ts)) = aL (stk r (ways n b) ts) ++ [.int (r.off (rst r (ways n b) ts) (if 1 < ways n b then (nms ts).getLast?.getD 0 else 0) : Nat)] := by
    rw [stk, aL_append, rst_neg (by decide)]
    rfl
  have q3 : (cld q (-1 :: ts)).map aP = (cld q ts).map aP ++ [aP ((nms ts).getLast?.getD 0, led q 0 (nms ts))] := by
    rw [cld, if_pos (by decide), List.map_append]
    rfl
  rw [q1, nms_neg (by decide), q3]
  exact h3
theorem not_one {t : Int} (h : 0 ≤ t) : decide (t = -1) = false := decide_eq_false (by omega)
/-- a tag that stands -/
theorem tag_h (hq : QOk q n) (hr : ROk r n (ways n b)) {t : Int} (g : Gd n (t :: ts)) (hl : ts.length ≤ 1000) (h : DSt st d q b r (ways n b) ts) :
    (f_Desk_tag [.ref d, .int t] st).holds (fun y => y.1 = (if t < 0 then .non else .tup [.int (q.due (led q 0 (nms (t :: ts))) : Nat), .int ((r.on (rst r (ways n b) ts) t.toNat).2 : Nat)]) ∧ DSt y.2 d q b r (ways n b) (t :: ts) ∧ Kp st d y.2) E := by
  have w : CW n (ways n b) := cw_ways hq.n1
  have h6 := h.d6
  have hn1 := hq.n1
  have hd := h6.o
  have hb : -1 ≤ t ∧ t ≤ (n : Int) - 1 := by rcases g.2 with ⟨x, y⟩ | ⟨x, y⟩ <;> omega
  have e1 := num_t (st := st) (v := t) (lo := -1) (hi := (n : Int) - 1) hb.1 hb.2
  have e2 := len_ref h6.t
  have e3 : decide (((aI ts.reverse).length : Int) = 2000) = false := decide_eq_false (by rw [aI_len, List.length_reverse]; omega)
  have a1 := app_l (a := .int t) h6.t (by rw [aI_len, List.length_reverse]; omega)
  have h1 := h6.st_ (z := aI ts.reverse ++ [.int t])
  have k1 : Kp st d (st.set (d + 1) (.lst (aI ts.reverse ++ [.int t]))) := Kp.set
  have i1 := isL h6.t
  have len := len_ref h6.l
  generalize hz1 : st.set (d + 1) (.lst (aI ts.reverse ++ [.int t])) = st1 at *
  have o1 := h1.o
  have et : aI ts.reverse ++ [.int t] = aI (t :: ts).reverse := by unfold aI; simp
  have lkb : (flds d q b r).lookup ("_pass_closing" : Str) = none := rfl
  have lko : (flds d q b r).lookup ("_pass_opening" : Str) = none := rfl
  unfold f_Desk_tag m_Desk_tag
  by_cases ht : t < 0
  · have t1 : t = -1 := by omega
    subst t1
    have hne : nms ts ≠ [] := by
      rcases g.2 with ⟨x, y⟩ | ⟨x, y⟩
      · omega
      · exact y
    have e4 : decide (((List.map aP (lop q (nms ts))).length : Int) = 0) = false := decide_eq_false (by
      have : (nms ts).length ≠ 0 := fun z => hne (List.eq_nil_of_length_eq_zero z)
      rw [List.length_map, lop_len]
      omega)
    simp only [Mx.mDef, Mx.mSeq, Mx.mAsg, Mx.mRet, Mx.mDrop, Mx.mIfS, Mx.mNx, Mx.mAndV, Mx.mOrV, Mx.mNotV, Mx.mIf, Mx.mB, Mx.mAnd, Mx.mOr, Mx.mNot, Mx.mNil, Mx.mCons, Mx.mCB, Mx.mCall, Mx.m1, Mx.m2, Mx.mC, Mx.mVar, Mx.mChain, Mx.mTup, Mx.mLst, Mx.mPar, Mx.mPar3, Mx.gmName, Mx.gmTup, Mx.gmCons, Mx.gmNil, Mx.mFld, Mx.bind_ok, Mx.bind_fail, Mx.bind_exc, Mx.noX_ok, Mx.thenS_nx, Mx.thenS_rt, Mx.asB_bl, Mx.ofO_some, Mx.ofO_none, Mx.flow_nx, List.map_cons, List.map_nil, List.cons_append, List.nil_append, List.append_nil, List.getElem?_cons_zero, List.getElem?_cons_succ, List.set_cons_zero, List.set_cons_succ, List.replicate_succ, List.replicate_zero, List.length_cons, List.length_nil, Nat.zero_add, Nat.reduceAdd, if_true, if_false, reduceIte, reduceCtorEq, Bool.not_true, Bool.not_false, Bool.false_eq_true, Mx.fI2, Mx.fU, Option.map_some, Option.map_none, Nat.reduceEqDiff, Mx.isi_int, Mx.isi_int2, Mx.isi_tup, Mx.len_tup, decide_true, decide_false, Mx.holds_bind_iff, Mx.holds_ok, Mx.holds_exc, hd, lk_q, names_t hq, e1, eq_int, lk_l, len, e4, lk_t, e2, e3, mBM, i1, a1, mMeth, o1, lkb, and_self]
    refine holds_mono (fun y hy => ?_) (fun _ _ z => z) (close_h hq hr w g.1 hne hl h1)
    refine ⟨rfl, ?_, k1.trans hy.2⟩
    have z := hy.1
    rw [et] at z
    exact D6.dst (by rw [erd_neg (by decide)]; exact z)
  · have t0 := not_one (t := t) (by omega)
    simp only [Mx.mDef, Mx.mSeq, Mx.mAsg, Mx.mRet, Mx.mDrop, Mx.mIfS, Mx.mNx, Mx.mAndV, Mx.mOrV, Mx.mNotV, Mx.mIf, Mx.mB, Mx.mAnd, Mx.mOr, Mx.mNot, Mx.mNil, Mx.mCons, Mx.mCB, Mx.mCall, Mx.m1, Mx.m2, Mx.mC, Mx.mVar, Mx.mChain, Mx.mTup, Mx.mLst, Mx.mPar, Mx.mPar3, Mx.gmName, Mx.gmTup, Mx.gmCons, Mx.gmNil, Mx.mFld, Mx.bind_ok, Mx.bind_fail, Mx.bind_exc, Mx.noX_ok, Mx.thenS_nx, Mx.thenS_rt, Mx.asB_bl, Mx.ofO_some, Mx.ofO_none, Mx.flow_nx, List.map_cons, List.map_nil, List.cons_append, List.nil_append, List.append_nil, List.getElem?_cons_zero, List.getElem?_cons_succ, List.set_cons_zero, List.set_cons_succ, List.replicate_succ, List.replicate_zero, List.length_cons, List.length_nil, Nat.zero_add, Nat.reduceAdd, if_true, if_false, reduceIte, reduceCtorEq, Bool.not_true, Bool.not_false, Bool.false_eq_true, Mx.fI2, Mx.fU, Option.map_some, Option.map_none, Nat.reduceEqDiff, Mx.isi_int, Mx.isi_int2, Mx.isi_tup, Mx.len_tup, decide_true, decide_false, Mx.holds_bind_iff, Mx.holds_ok, Mx.holds_exc, hd, lk_q, names_t hq, e1, eq_int, t0, lk_t, e2, e3, mBM, i1, a1, mMeth, o1, lko, and_self]
    have htn : t < n := by omega
    refine holds_mono (fun y hy => ?_) (fun _ _ z => z) (open_h (c := ways n b) hq hr w g.1 (t := t) (by omega) htn hl h1)
    refine ⟨by rw [hy.1, if_neg ht], ?_, k1.trans hy.2.2⟩
    have z := hy.2.1
    rw [et] at z
    exact D6.dst (by rw [cld, if_neg ht]; exact z)
end
end Mx

/-! ### MkM6 -/
set_option Elab.async false
set_option linter.all false
set_option maxRecDepth 100000
set_option maxHeartbeats 1000000
namespace Mx
open PySem PySem.Spec PyProof.Rows L2
theorem lc_run {L : List A} {f : Itm} {mg : GM} {mt : BM} {me : EM} {wenv : Ev} {s0 : Sto} {E : Xc → Sto → Prop} (P : Nat → List A → Prop) (hL : L.length ≤ 100000) (hf : ∀ i s, s0 <+: s → f i s = ofL L i s) (h0 : P 0 [])
    (step : ∀ (i : Nat) (a : A) (s : Sto) (acc : List A), L[i]? = some a → s0 <+: s → P i acc → (mg a wenv s).holds (fun e => e.2 = s ∧ (mt e.1 s).holds (fun b => s <+: b.2 ∧ if b.1 = true then (me e.1 b.2).holds (fun y => s <+: y.2 ∧ P (i + 1) (acc ++ [y.1])) Fls else P (i + 1) acc) Fls) Fls) :
    (lcG f mg mt me wenv s0.length fuel 0 (s0 ++ [.lst []])).holds (fun r => ∃ acc, r.1 = .ref s0.length ∧ s0 <+: r.2 ∧ r.2[s0.length]? = some (.lst acc) ∧ acc.length ≤ L.length ∧ P L.length acc) E := by
  have hfu : L.length < fuel + 0 := fuel_gt hL
  generalize fuel = fu at hfu
  exact lc_rule (P := P) hf (fun i a s acc h1 h2 h3 _ => step i a s acc h1 h2 h3) hL fu 0 _ [] hfu (Nat.zero_le _) (List.prefix_append _ _) (by simp) (Nat.le_refl _) h0
theorem itLst_eq {k : Nat} {l : List A} {s0 s : Sto} {i : Nat} (h : s0[k]? = some (.lst l)) (p : s0 <+: s) : itLst k i s = ofL l i s := by
  unfold itLst
  rw [pre_get p h]
theorem isi_non {x : String} {st : Sto} : fIsi [.non, .ty "int"] st = some (.bl false, st) := id rfl
theorem isi_bl {v : Bool} {st : Sto} : fIsi [.bl v, .ty "int"] st = some (.bl true, st) := id rfl
theorem isi_bl2 {v : Bool} {st : Sto} : fIsi [.bl v, .ty "bool"] st = some (.bl true, st) := id rfl
theorem isi_str {v : Str} {st : Sto} : fIsi [.str v, .ty "int"] st = some (.bl false, st) := id rfl
section
variable {q : Qn} {r : Rd} {n c d : Nat} {b : Bool} {st : Sto} {ts : List Int} {E : Xc → Sto → Prop} {T K Er : List A}
theorem num_non {lo hi : Int} : f_is_number [.non, .int lo, .int hi] st = .ok (.bl false, st) := by
  unfold f_is_number m_is_number
  simp only [Mx.mDef, Mx.mSeq, Mx.mAsg, Mx.mRet, Mx.mDrop, Mx.mIfS, Mx.mNx, Mx.mAndV, Mx.mOrV, Mx.mNotV, Mx.mIf, Mx.mB, Mx.mAnd, Mx.mOr, Mx.mNot, Mx.mNil, Mx.mCons, Mx.mCB, Mx.mCall, Mx.m1, Mx.m2, Mx.mC, Mx.mVar, Mx.mChain, Mx.mTup, Mx.mLst, Mx.mPar, Mx.mPar3, Mx.gmName, Mx.gmTup, Mx.gmCons, Mx.gmNil, Mx.mFld, Mx.bind_ok, Mx.bind_fail, Mx.bind_exc, Mx.noX_ok, Mx.thenS_nx, Mx.thenS_rt, Mx.asB_bl, Mx.ofO_some, Mx.ofO_none, Mx.flow_nx, List.map_cons, List.map_nil, List.cons_append, List.nil_append, List.append_nil, List.getElem?_cons_zero, List.getElem?_cons_succ, List.set_cons_zero, List.set_cons_succ, List.replicate_succ, List.replicate_zero, List.length_cons, List.length_nil, Nat.zero_add, Nat.reduceAdd, if_true, if_false, reduceIte, reduceCtorEq, Bool.not_true, Bool.not_false, Bool.false_eq_true, Mx.fI2, Mx.fU, Option.map_some, Option.map_none, Nat.reduceEqDiff, Mx.isi_int, Mx.isi_int2, Mx.isi_tup, Mx.len_tup, decide_true, decide_false, isi_non (x := "")]
theorem num_bl {lo hi : Int} {v : Bool} : f_is_number [.bl v, .int lo, .int hi] st = .ok (.bl false, st) := by
  unfold f_is_number m_is_number
  simp only [Mx.mDef, Mx.mSeq, Mx.mAsg, Mx.mRet, Mx.mDrop, Mx.mIfS, Mx.mNx, Mx.mAndV, Mx.mOrV, Mx.mNotV, Mx.mIf, Mx.mB, Mx.mAnd, Mx.mOr, Mx.mNot, Mx.mNil, Mx.mCons, Mx.mCB, Mx.mCall, Mx.m1, Mx.m2, Mx.mC, Mx.mVar, Mx.mChain, Mx.mTup, Mx.mLst, Mx.mPar, Mx.mPar3, Mx.gmName, Mx.gmTup, Mx.gmCons, Mx.gmNil, Mx.mFld, Mx.bind_ok, Mx.bind_fail, Mx.bind_exc, Mx.noX_ok, Mx.thenS_nx, Mx.thenS_rt, Mx.asB_bl, Mx.ofO_some, Mx.ofO_none, Mx.flow_nx, List.map_cons, List.map_nil, List.cons_append, List.nil_append, List.append_nil, List.getElem?_cons_zero, List.getElem?_cons_succ, List.set_cons_zero, List.set_cons_succ, List.replicate_succ, List.replicate_zero, List.length_cons, List.length_nil, Nat.zero_add, Nat.reduceAdd, if_true, if_false, reduceIte, reduceCtorEq, Bool.not_true, Bool.not_false, Bool.false_eq_true, Mx.fI2, Mx.fU, Option.map_some, Option.map_none, Nat.reduceEqDiff, Mx.isi_int, Mx.isi_int2, Mx.isi_tup, Mx.len_tup, decide_true, decide_false, isi_bl, isi_bl2]
theorem num_str {lo hi : Int} {v : Str} : f_is_number [.str v, .int lo, .int hi] st = .ok (.bl false, st) := by
  unfold f_is_number m_is_number
  simp only [Mx.mDef, Mx.mSeq, Mx.mAsg, Mx.mRet, Mx.mDrop, Mx.mIfS, Mx.mNx, Mx.mAndV, Mx.mOrV, Mx.mNotV, Mx.mIf, Mx.mB, Mx.mAnd, Mx.mOr, Mx.mNot, Mx.mNil, Mx.mCons, Mx.mCB, Mx.mCall, Mx.m1, Mx.m2, Mx.mC, Mx.mVar, Mx.mChain, Mx.mTup, Mx.mLst, Mx.mPar, Mx.mPar3, Mx.gmName, Mx.gmTup, Mx.gmCons, Mx.gmNil, Mx.mFld, Mx.bind_ok, Mx.bind_fail, Mx.bind_exc, Mx.noX_ok, Mx.thenS_nx, Mx.thenS_rt, Mx.asB_bl, Mx.ofO_some, Mx.ofO_none, Mx.flow_nx, List.map_cons, List.map_nil, List.cons_append, List.nil_append, List.append_nil, List.getElem?_cons_zero, List.getElem?_cons_succ, List.set_cons_zero, List.set_cons_succ, List.replicate_succ, List.replicate_zero, List.length_cons, List.length_nil, Nat.zero_add, Nat.reduceAdd, if_true, if_false, reduceIte, reduceCtorEq, Bool.not_true, Bool.not_false, Bool.false_eq_true, Mx.fI2, Mx.fU, Option.map_some, Option.map_none, Nat.reduceEqDiff, Mx.isi_int, Mx.isi_int2, Mx.isi_tup, Mx.len_tup, decide_true, decide_false, isi_str]
/-- what is no tag -/
theorem tag_bad (hq : QOk q n) {v : A} (hv : f_is_number [v, .int (-1), .int ((n : Int) - 1)] st = .ok (.bl false, st)) (h : DSt st d q b r c ts) : f_Desk_tag [.ref d, v] st = .exc (12, none) st := by
  have hd := h.o
  unfold f_Desk_tag m_Desk_tag
  simp only [Mx.mDef, Mx.mSeq, Mx.mAsg, Mx.mRet, Mx.mDrop, Mx.mIfS, Mx.mNx, Mx.mAndV, Mx.mOrV, Mx.mNotV, Mx.mIf, Mx.mB, Mx.mAnd, Mx.mOr, Mx.mNot, Mx.mNil, Mx.mCons, Mx.mCB, Mx.mCall, Mx.m1, Mx.m2, Mx.mC, Mx.mVar, Mx.mChain, Mx.mTup, Mx.mLst, Mx.mPar, Mx.mPar3, Mx.gmName, Mx.gmTup, Mx.gmCons, Mx.gmNil, Mx.mFld, Mx.bind_ok, Mx.bind_fail, Mx.bind_exc, Mx.noX_ok, Mx.thenS_nx, Mx.thenS_rt, Mx.asB_bl, Mx.ofO_some, Mx.ofO_none, Mx.flow_nx, List.map_cons, List.map_nil, List.cons_append, List.nil_append, List.append_nil, List.getElem?_cons_zero, List.getElem?_cons_succ, List.set_cons_zero, List.set_cons_succ, List.replicate_succ, List.replicate_zero, List.length_cons, List.length_nil, Nat.zero_add, Nat.reduceAdd, if_true, if_false, reduceIte, reduceCtorEq, Bool.not_true, Bool.not_false, Bool.false_eq_true, Mx.fI2, Mx.fU, Option.map_some, Option.map_none, Nat.reduceEqDiff, Mx.isi_int, Mx.isi_int2, Mx.isi_tup, Mx.len_tup, decide_true, decide_false, hd, lk_q, names_t hq, hv, mRz0]
theorem tag_none (hq : QOk q n) (hz : nms ts = []) (h : DSt st d q b r c ts) : f_Desk_tag [.ref d, .int (-1)] st = .exc (12, none) st := by
  have hd := h.o
  have hn := hq.n1
  have e1 := num_t (st := st) (v := -1) (lo := -1) (hi := (n : Int) - 1) (by omega) (by omega)
  have len := len_ref h.l
  have e4 : decide (((List.map aP (lop q (nms ts))).length : Int) = 0) = true := decide_eq_true (by rw [hz]; rfl)
  unfold f_Desk_tag m_Desk_tag
  simp only [Mx.mDef, Mx.mSeq, Mx.mAsg, Mx.mRet, Mx.mDrop, Mx.mIfS, Mx.mNx, Mx.mAndV, Mx.mOrV, Mx.mNotV, Mx.mIf, Mx.mB, Mx.mAnd, Mx.mOr, Mx.mNot, Mx.mNil, Mx.mCons, Mx.mCB, Mx.mCall, Mx.m1, Mx.m2, Mx.mC, Mx.mVar, Mx.mChain, Mx.mTup, Mx.mLst, Mx.mPar, Mx.mPar3, Mx.gmName, Mx.gmTup, Mx.gmCons, Mx.gmNil, Mx.mFld, Mx.bind_ok, Mx.bind_fail, Mx.bind_exc, Mx.noX_ok, Mx.thenS_nx, Mx.thenS_rt, Mx.asB_bl, Mx.ofO_some, Mx.ofO_none, Mx.flow_nx, List.map_cons, List.map_nil, List.cons_append, List.nil_append, List.append_nil, List.getElem?_cons_zero, List.getElem?_cons_succ, List.set_cons_zero, List.set_cons_succ, List.replicate_succ, List.replicate_zero, List.length_cons, List.length_nil, Nat.zero_add, Nat.reduceAdd, if_true, if_false, reduceIte, reduceCtorEq, Bool.not_true, Bool.not_false, Bool.false_eq_true, Mx.fI2, Mx.fU, Option.map_some, Option.map_none, Nat.reduceEqDiff, Mx.isi_int, Mx.isi_int2, Mx.isi_tup, Mx.len_tup, decide_true, decide_false, hd, lk_q, names_t hq, e1, eq_int, lk_l, len, e4, mRz0]
/-! ### back -/
theorem back_none (h : DSt st d q b r c []) : f_Desk_back [.ref d] st = .exc (12, none) st := by
  have hd := h.o
  have len := len_ref h.t
  have e4 : decide (((aI ([] : List Int).reverse).length : Int) = 0) = true := rfl
  unfold f_Desk_back m_Desk_back
  simp only [Mx.mDef, Mx.mSeq, Mx.mAsg, Mx.mRet, Mx.mDrop, Mx.mIfS, Mx.mNx, Mx.mAndV, Mx.mOrV, Mx.mNotV, Mx.mIf, Mx.mB, Mx.mAnd, Mx.mOr, Mx.mNot, Mx.mNil, Mx.mCons, Mx.mCB, Mx.mCall, Mx.m1, Mx.m2, Mx.mC, Mx.mVar, Mx.mChain, Mx.mTup, Mx.mLst, Mx.mPar, Mx.mPar3, Mx.gmName, Mx.gmTup, Mx.gmCons, Mx.gmNil, Mx.mFld, Mx.bind_ok, Mx.bind_fail, Mx.bind_exc, Mx.noX_ok, Mx.thenS_nx, Mx.thenS_rt, Mx.asB_bl, Mx.ofO_some, Mx.ofO_none, Mx.flow_nx, List.map_cons, List.map_nil, List.cons_append, List.nil_append, List.append_nil, List.getElem?_cons_zero, List.getElem?_cons_succ, List.set_cons_zero, List.set_cons_succ, List.replicate_succ, List.replicate_zero, List.length_cons, List.length_nil, Nat.zero_add, Nat.reduceAdd, if_true, if_false, reduceIte, reduceCtorEq, Bool.not_true, Bool.not_false, Bool.false_eq_true, Mx.fI2, Mx.fU, Option.map_some, Option.map_none, Nat.reduceEqDiff, Mx.isi_int, Mx.isi_int2, Mx.isi_tup, Mx.len_tup, decide_true, decide_false, hd, lk_t, len, eq_int, e4, mRz0]
theorem back_h {t : Int} (hg : Gd n (t :: ts)) (hl : ts.length ≤ 1000) (h : DSt st d q b r c (t :: ts)) : (f_Desk_back [.ref d] st).holds (fun y => y.1 = .non ∧ DSt y.2 d q b r c ts ∧ Kp st d y.2) E := by
  have l1 := nms_len (ts := ts)
  have hd := h.o
  have len := len_ref h.t
  have e4 : decide (((aI (t :: ts).reverse).length : Int) = 0) = false := decide_eq_false (by rw [aI_len, List.length_reverse, List.length_cons]; omega)
  have h6 := h.d6
  have i0 := isL h6.s
  have es : aL (stk r c (t :: ts)) = aL (stk r c ts) ++ [.int (rst r c (t :: ts) : Nat)] := by
    rw [stk, aL_append]
    rfl
  have hs := h6.s
  rw [es] at hs
  have a1 := pop_l hs
  have h1 := h6.ss (z := aL (stk r c ts))
  have k1 : Kp st d (st.set (d + 2) (.lst (aL (stk r c ts)))) := Kp.set
  generalize hz1 : st.set (d + 2) (.lst (aL (stk r c ts))) = st1 at *
  have i1 := isL h1.t
  have et : aI (t :: ts).reverse = aI ts.reverse ++ [.int t] := by unfold aI; simp
  have ht0 := h1.t
  rw [et] at ht0
  have a2 := pop_l ht0
  have o1 := h1.o
  have h2 := h1.st_ (z := aI ts.reverse)
  have k2 : Kp st1 d (st1.set (d + 1) (.lst (aI ts.reverse))) := Kp.set
  generalize hz2 : st1.set (d + 1) (.lst (aI ts.reverse)) = st2 at *
  have o2 := h2.o
  have i2 := isL h2.l
  have hl2 := h2.l
  have hk2 := h2.k
  have he2 := h2.e
  unfold f_Desk_back m_Desk_back
  by_cases ht : t < 0
  · have t1 : decide (t = -1) = true := decide_eq_true (by rcases hg.2 with ⟨x, y⟩ | ⟨x, y⟩ <;> omega)
    have hne : nms ts ≠ [] := by
      rcases hg.2 with ⟨x, y⟩ | ⟨x, y⟩
      · omega
      · exact y
    have i3 := isL h2.k
    have ek : (cld q (t :: ts)).map aP = (cld q ts).map aP ++ [aP ((nms ts).getLast?.getD 0, led q 0 (nms ts))] := by
      rw [cld, if_pos ht, List.map_append]
      rfl
    rw [ek] at hk2
    have a3 := pop_l hk2
    have h3 := h2.sk (z := (cld q ts).map aP)
    have k3 : Kp st2 d (st2.set (d + 4) (.lst ((cld q ts).map aP))) := Kp.set
    generalize hz3 : st2.set (d + 4) (.lst ((cld q ts).map aP)) = st3 at *
    have a4 := app_l (a := aP ((nms ts).getLast?.getD 0, led q 0 (nms ts))) h3.l (by rw [List.length_map, lop_len, nms_neg ht, List.length_dropLast]; omega)
    have h4 := h3.sl (z := (lop q (nms (t :: ts))).map aP ++ [aP ((nms ts).getLast?.getD 0, led q 0 (nms ts))])
    have k4 : Kp st3 d (st3.set (d + 3) (.lst ((lop q (nms (t :: ts))).map aP ++ [aP ((nms ts).getLast?.getD 0, led q 0 (nms ts))]))) := Kp.set
    generalize hz4 : st3.set (d + 3) (.lst ((lop q (nms (t :: ts))).map aP ++ [aP ((nms ts).getLast?.getD 0, led q 0 (nms ts))])) = st4 at *
    simp only [Mx.mDef, Mx.mSeq, Mx.mAsg, Mx.mRet, Mx.mDrop, Mx.mIfS, Mx.mNx, Mx.mAndV, Mx.mOrV, Mx.mNotV, Mx.mIf, Mx.mB, Mx.mAnd, Mx.mOr, Mx.mNot, Mx.mNil, Mx.mCons, Mx.mCB, Mx.mCall, Mx.m1, Mx.m2, Mx.mC, Mx.mVar, Mx.mChain, Mx.mTup, Mx.mLst, Mx.mPar, Mx.mPar3, Mx.gmName, Mx.gmTup, Mx.gmCons, Mx.gmNil, Mx.mFld, Mx.bind_ok, Mx.bind_fail, Mx.bind_exc, Mx.noX_ok, Mx.thenS_nx, Mx.thenS_rt, Mx.asB_bl, Mx.ofO_some, Mx.ofO_none, Mx.flow_nx, List.map_cons, List.map_nil, List.cons_append, List.nil_append, List.append_nil, List.getElem?_cons_zero, List.getElem?_cons_succ, List.set_cons_zero, List.set_cons_succ, List.replicate_succ, List.replicate_zero, List.length_cons, List.length_nil, Nat.zero_add, Nat.reduceAdd, if_true, if_false, reduceIte, reduceCtorEq, Bool.not_true, Bool.not_false, Bool.false_eq_true, Mx.fI2, Mx.fU, Option.map_some, Option.map_none, Nat.reduceEqDiff, Mx.isi_int, Mx.isi_int2, Mx.isi_tup, Mx.len_tup, decide_true, decide_false, Mx.holds_bind_iff, Mx.holds_ok, Mx.holds_exc, hd, lk_t, len, eq_int, e4, mBM0, mBM, lk_s, i0, a1, o1, i1, a2, t1, o2, lk_l, i2, lk_k, i3, a3, a4]
    refine ⟨trivial, ?_, k1.trans (k2.trans (k3.trans k4))⟩
    have q2 : (lop q (nms (t :: ts))).map aP ++ [aP ((nms ts).getLast?.getD 0, led q 0 (nms ts))] = (lop q (nms ts)).map aP := by
      rw [nms_neg ht, lop_last hne, List.map_append]
      rfl
    rw [q2] at h4
    exact D6.dst (by rw [← erd_neg ht]; exact h4)
  · have t1 : decide (t = -1) = false := decide_eq_false (by omega)
    have q2 : (lop q (nms (t :: ts))).map aP = (lop q (nms ts)).map aP ++ [aP (t.toNat, led q 0 (nms (t :: ts)))] := by
      rw [nms_pos ht, lop_snoc, List.map_append]
      rfl
    rw [q2] at hl2
    have a3 := pop_l hl2
    have h3 := h2.sl (z := (lop q (nms ts)).map aP)
    have k3 : Kp st2 d (st2.set (d + 3) (.lst ((lop q (nms ts)).map aP))) := Kp.set
    generalize hz3 : st2.set (d + 3) (.lst ((lop q (nms ts)).map aP)) = st3 at *
    have o3 := h3.o
    have i3 := isL h3.e
    have he3 := h3.e
    rw [erd_pos ht, List.map_append, List.map_singleton] at he3
    have a4 := pop_l he3
    have h4 := h3.se (z := (erd q r c ts).map .bl)
    have k4 : Kp st3 d (st3.set (d + 5) (.lst ((erd q r c ts).map .bl))) := Kp.set
    generalize hz4 : st3.set (d + 5) (.lst ((erd q r c ts).map .bl)) = st4 at *
    simp only [Mx.mDef, Mx.mSeq, Mx.mAsg, Mx.mRet, Mx.mDrop, Mx.mIfS, Mx.mNx, Mx.mAndV, Mx.mOrV, Mx.mNotV, Mx.mIf, Mx.mB, Mx.mAnd, Mx.mOr, Mx.mNot, Mx.mNil, Mx.mCons, Mx.mCB, Mx.mCall, Mx.m1, Mx.m2, Mx.mC, Mx.mVar, Mx.mChain, Mx.mTup, Mx.mLst, Mx.mPar, Mx.mPar3, Mx.gmName, Mx.gmTup, Mx.gmCons, Mx.gmNil, Mx.mFld, Mx.bind_ok, Mx.bind_fail, Mx.bind_exc, Mx.noX_ok, Mx.thenS_nx, Mx.thenS_rt, Mx.asB_bl, Mx.ofO_some, Mx.ofO_none, Mx.flow_nx, List.map_cons, List.map_nil, List.cons_append, List.nil_append, List.append_nil, List.getElem?_cons_zero, List.getElem?_cons_succ, List.set_cons_zero, List.set_cons_succ, List.replicate_succ, List.replicate_zero, List.length_cons, List.length_nil, Nat.zero_add, Nat.reduceAdd, if_true, if_false, reduceIte, reduceCtorEq, Bool.not_true, Bool.not_false, Bool.false_eq_true, Mx.fI2, Mx.fU, Option.map_some, Option.map_none, Nat.reduceEqDiff, Mx.isi_int, Mx.isi_int2, Mx.isi_tup, Mx.len_tup, decide_true, decide_false, Mx.holds_bind_iff, Mx.holds_ok, Mx.holds_exc, hd, lk_t, len, eq_int, e4, mBM0, mBM, lk_s, i0, a1, o1, i1, a2, t1, o2, lk_l, i2, a3, o3, lk_e, i3, a4]
    refine ⟨trivial, ?_, k1.trans (k2.trans (k3.trans k4))⟩
    have q3 : cld q (t :: ts) = cld q ts := by rw [cld, if_neg ht]
    rw [q3] at h4
    exact D6.dst h4
/-! ### row, state, wrong -/
theorem row_t (h : DSt st d q b r c ts) : f_Desk_row [.ref d] st = .ok (aT ts, st) := by
  have hd := h.o
  have e : fTuple [.ref (d + 1)] st = some (aT ts, st) := by
    unfold fTuple
    dsimp only
    rw [h.t]
    rfl
  unfold f_Desk_row m_Desk_row
  simp only [Mx.mDef, Mx.mSeq, Mx.mAsg, Mx.mRet, Mx.mDrop, Mx.mIfS, Mx.mNx, Mx.mAndV, Mx.mOrV, Mx.mNotV, Mx.mIf, Mx.mB, Mx.mAnd, Mx.mOr, Mx.mNot, Mx.mNil, Mx.mCons, Mx.mCB, Mx.mCall, Mx.m1, Mx.m2, Mx.mC, Mx.mVar, Mx.mChain, Mx.mTup, Mx.mLst, Mx.mPar, Mx.mPar3, Mx.gmName, Mx.gmTup, Mx.gmCons, Mx.gmNil, Mx.mFld, Mx.bind_ok, Mx.bind_fail, Mx.bind_exc, Mx.noX_ok, Mx.thenS_nx, Mx.thenS_rt, Mx.asB_bl, Mx.ofO_some, Mx.ofO_none, Mx.flow_nx, List.map_cons, List.map_nil, List.cons_append, List.nil_append, List.append_nil, List.getElem?_cons_zero, List.getElem?_cons_succ, List.set_cons_zero, List.set_cons_succ, List.replicate_succ, List.replicate_zero, List.length_cons, List.length_nil, Nat.zero_add, Nat.reduceAdd, if_true, if_false, reduceIte, reduceCtorEq, Bool.not_true, Bool.not_false, Bool.false_eq_true, Mx.fI2, Mx.fU, Option.map_some, Option.map_none, Nat.reduceEqDiff, Mx.isi_int, Mx.isi_int2, Mx.isi_tup, Mx.len_tup, decide_true, decide_false, hd, lk_t, e]
theorem state_t (h : DSt st d q b r c ts) : f_Desk_state [.ref d] st = .ok (.int (rst r c ts : Nat), st) := by
  have hd := h.o
  obtain ⟨sl, hsl⟩ := stk_last (r := r) (c := c) (ts := ts)
  have hs0 := h.s
  have el : fIx (.ref (d + 2)) (.int (-1)) st = some (.int (rst r c ts : Nat), st) := by
    rw [hsl, aL_append] at hs0
    exact ix_last hs0
  unfold f_Desk_state m_Desk_state
  simp only [Mx.mDef, Mx.mSeq, Mx.mAsg, Mx.mRet, Mx.mDrop, Mx.mIfS, Mx.mNx, Mx.mAndV, Mx.mOrV, Mx.mNotV, Mx.mIf, Mx.mB, Mx.mAnd, Mx.mOr, Mx.mNot, Mx.mNil, Mx.mCons, Mx.mCB, Mx.mCall, Mx.m1, Mx.m2, Mx.mC, Mx.mVar, Mx.mChain, Mx.mTup, Mx.mLst, Mx.mPar, Mx.mPar3, Mx.gmName, Mx.gmTup, Mx.gmCons, Mx.gmNil, Mx.mFld, Mx.bind_ok, Mx.bind_fail, Mx.bind_exc, Mx.noX_ok, Mx.thenS_nx, Mx.thenS_rt, Mx.asB_bl, Mx.ofO_some, Mx.ofO_none, Mx.flow_nx, List.map_cons, List.map_nil, List.cons_append, List.nil_append, List.append_nil, List.getElem?_cons_zero, List.getElem?_cons_succ, List.set_cons_zero, List.set_cons_succ, List.replicate_succ, List.replicate_zero, List.length_cons, List.length_nil, Nat.zero_add, Nat.reduceAdd, if_true, if_false, reduceIte, reduceCtorEq, Bool.not_true, Bool.not_false, Bool.false_eq_true, Mx.fI2, Mx.fU, Option.map_some, Option.map_none, Nat.reduceEqDiff, Mx.isi_int, Mx.isi_int2, Mx.isi_tup, Mx.len_tup, decide_true, decide_false, hd, lk_s, el]
def wrg (bs : List Bool) : List Nat := (List.range bs.length).filter fun k => bs.getD k false
theorem wrong_h (hl : ts.length ≤ 1000) (h : DSt st d q b r c ts) : (f_Desk_wrong [.ref d] st).holds (fun y => y.1 = aN (wrg (erd q r c ts)) ∧ st <+: y.2) E := by
  have l2 := pths_len (ts := ts)
  have hd := h.o
  have he := h.e
  unfold f_Desk_wrong m_Desk_wrong
  simp only [Mx.mDef, Mx.mSeq, Mx.mAsg, Mx.mRet, Mx.mDrop, Mx.mIfS, Mx.mNx, Mx.mAndV, Mx.mOrV, Mx.mNotV, Mx.mIf, Mx.mB, Mx.mAnd, Mx.mOr, Mx.mNot, Mx.mNil, Mx.mCons, Mx.mCB, Mx.mCall, Mx.m1, Mx.m2, Mx.mC, Mx.mVar, Mx.mChain, Mx.mTup, Mx.mLst, Mx.mPar, Mx.mPar3, Mx.gmName, Mx.gmTup, Mx.gmCons, Mx.gmNil, Mx.mFld, Mx.bind_ok, Mx.bind_fail, Mx.bind_exc, Mx.noX_ok, Mx.thenS_nx, Mx.thenS_rt, Mx.asB_bl, Mx.ofO_some, Mx.ofO_none, Mx.flow_nx, List.map_cons, List.map_nil, List.cons_append, List.nil_append, List.append_nil, List.getElem?_cons_zero, List.getElem?_cons_succ, List.set_cons_zero, List.set_cons_succ, List.replicate_succ, List.replicate_zero, List.length_cons, List.length_nil, Nat.zero_add, Nat.reduceAdd, if_true, if_false, reduceIte, reduceCtorEq, Bool.not_true, Bool.not_false, Bool.false_eq_true, Mx.fI2, Mx.fU, Option.map_some, Option.map_none, Nat.reduceEqDiff, Mx.isi_int, Mx.isi_int2, Mx.isi_tup, Mx.len_tup, decide_true, decide_false, Mx.holds_bind_iff, Mx.holds_ok, Mx.holds_exc, mLc, miEnL, hd, lk_e, he]
  have hf : ∀ (i : Nat) (s : Sto), st <+: s → itEnL (d + 5) i s = ofL (((erd q r c ts).map A.bl).mapIdx fun i a => .tup [.int (i : Nat), a]) i s := fun i s p => by
    unfold itEnL
    rw [pre_get p he]
    unfold ofL ofE
    rw [List.getElem?_mapIdx]
    dsimp only
    cases ((erd q r c ts).map A.bl)[i]? <;> rfl
  refine holds_mono (fun y hy => ?_) (fun _ _ z => z) (lc_run (fun i acc => acc = aL ((List.range i).filter fun k => (erd q r c ts).getD k false)) (by simp [erd_len]; omega) hf rfl (fun i a s acc ha p hP => ?_))
  · obtain ⟨acc, h1, h2, h3, h4, h5⟩ := hy
    obtain ⟨a, s⟩ := y
    dsimp only at h1 h2 h3
    subst h1
    have e : fTuple [.ref st.length] s = some (.tup acc, s) := by
      unfold fTuple
      dsimp only
      rw [h3]
    simp only [Mx.mDef, Mx.mSeq, Mx.mAsg, Mx.mRet, Mx.mDrop, Mx.mIfS, Mx.mNx, Mx.mAndV, Mx.mOrV, Mx.mNotV, Mx.mIf, Mx.mB, Mx.mAnd, Mx.mOr, Mx.mNot, Mx.mNil, Mx.mCons, Mx.mCB, Mx.mCall, Mx.m1, Mx.m2, Mx.mC, Mx.mVar, Mx.mChain, Mx.mTup, Mx.mLst, Mx.mPar, Mx.mPar3, Mx.gmName, Mx.gmTup, Mx.gmCons, Mx.gmNil, Mx.mFld, Mx.bind_ok, Mx.bind_fail, Mx.bind_exc, Mx.noX_ok, Mx.thenS_nx, Mx.thenS_rt, Mx.asB_bl, Mx.ofO_some, Mx.ofO_none, Mx.flow_nx, List.map_cons, List.map_nil, List.cons_append, List.nil_append, List.append_nil, List.getElem?_cons_zero, List.getElem?_cons_succ, List.set_cons_zero, List.set_cons_succ, List.replicate_succ, List.replicate_zero, List.length_cons, List.length_nil, Nat.zero_add, Nat.reduceAdd, if_true, if_false, reduceIte, reduceCtorEq, Bool.not_true, Bool.not_false, Bool.false_eq_true, Mx.fI2, Mx.fU, Option.map_some, Option.map_none, Nat.reduceEqDiff, Mx.isi_int, Mx.isi_int2, Mx.isi_tup, Mx.len_tup, decide_true, decide_false, Mx.holds_bind_iff, Mx.holds_ok, Mx.holds_exc, e]
    refine ⟨?_, h2⟩
    rw [h5, List.length_mapIdx, List.length_map]
    rfl
  · rw [List.getElem?_mapIdx, List.getElem?_map] at ha
    cases hx : (erd q r c ts)[i]? with
    | none => rw [hx] at ha; cases ha
    | some x =>
      rw [hx] at ha
      cases ha
      have hg : (erd q r c ts).getD i false = x := by rw [List.getD_eq_getElem?_getD, hx]; rfl
      subst hP
      simp only [Mx.mDef, Mx.mSeq, Mx.mAsg, Mx.mRet, Mx.mDrop, Mx.mIfS, Mx.mNx, Mx.mAndV, Mx.mOrV, Mx.mNotV, Mx.mIf, Mx.mB, Mx.mAnd, Mx.mOr, Mx.mNot, Mx.mNil, Mx.mCons, Mx.mCB, Mx.mCall, Mx.m1, Mx.m2, Mx.mC, Mx.mVar, Mx.mChain, Mx.mTup, Mx.mLst, Mx.mPar, Mx.mPar3, Mx.gmName, Mx.gmTup, Mx.gmCons, Mx.gmNil, Mx.mFld, Mx.bind_ok, Mx.bind_fail, Mx.bind_exc, Mx.noX_ok, Mx.thenS_nx, Mx.thenS_rt, Mx.asB_bl, Mx.ofO_some, Mx.ofO_none, Mx.flow_nx, List.map_cons, List.map_nil, List.cons_append, List.nil_append, List.append_nil, List.getElem?_cons_zero, List.getElem?_cons_succ, List.set_cons_zero, List.set_cons_succ, List.replicate_succ, List.replicate_zero, List.length_cons, List.length_nil, Nat.zero_add, Nat.reduceAdd, if_true, if_false, reduceIte, reduceCtorEq, Bool.not_true, Bool.not_false, Bool.false_eq_true, Mx.fI2, Mx.fU, Option.map_some, Option.map_none, Nat.reduceEqDiff, Mx.isi_int, Mx.isi_int2, Mx.isi_tup, Mx.len_tup, decide_true, decide_false, Mx.holds_bind_iff, Mx.holds_ok, Mx.holds_exc, wipeE]
      refine ⟨trivial, List.prefix_refl _, ?_⟩
      rw [List.range_succ, List.filter_append]
      cases x with
      | true =>
        rw [if_pos rfl]
        refine ⟨List.prefix_refl _, ?_⟩
        have : ([i].filter fun k => (erd q r c ts).getD k false) = [i] := by simp [List.filter_cons, hx]
        rw [this, aL_append]
        rfl
      | false =>
        rw [if_neg (by decide)]
        have : ([i].filter fun k => (erd q r c ts).getD k false) = [] := by simp [List.filter_cons, hx]
        rw [this, List.append_nil]
end
end Mx

/-! ### MkM7 -/
set_option Elab.async false
set_option linter.all false
set_option maxRecDepth 100000
set_option maxHeartbeats 1000000
namespace Mx
open PySem PySem.Spec PyProof.Rows L2
/-! ### texts -/
def sgn (t : Int) : Str := if t < 0 then ")" else if t = 0 then "a" else "b"
def tx (i : Nat) : Str := toString (i : Int)
theorem strs_of : ∀ {ys : List Str}, strsOf (ys.map A.str) = some ys
  | [] => rfl
  | y :: ys => by
    show (strsOf (ys.map A.str)).map _ = _
    rw [strs_of]
    rfl
theorem sum_le {ys : List Str} {m : Nat} (h : ∀ y ∈ ys, y.length ≤ m) : (ys.map (·.length)).sum ≤ ys.length * m := by
  induction ys with
  | nil => simp
  | cons y ys ih =>
    have := h y List.mem_cons_self
    have := ih fun z hz => h z (List.mem_cons_of_mem _ hz)
    rw [List.map_cons, List.sum_cons, List.length_cons, Nat.succ_mul]
    omega
theorem join_l {s : Str} {ys : List Str} {k : Nat} {st : Sto} (hk : st[k]? = some (.lst (ys.map A.str))) (hs : s.length ≤ 1) (hl : ys.length ≤ 1000) (h : ∀ y ∈ ys, y.length ≤ 2000) : fJoin (.str s) [.ref k] st = some (.str (Txt.join s ys), st) := by
  unfold fJoin
  dsimp only
  rw [hk]
  dsimp only
  rw [strs_of]
  dsimp only
  have h1 := sum_le h
  have h2 : ys.length * s.length ≤ 1000 * 1 := Nat.mul_le_mul hl hs
  have h3 : ys.length * 2000 ≤ 1000 * 2000 := Nat.mul_le_mul_right _ hl
  rw [if_pos (by omega)]
theorem sgn_len {t : Int} : (sgn t).length ≤ 2000 := by
  unfold sgn
  split
  · decide +kernel
  · split <;> decide +kernel
theorem log_small {i : Nat} (h : i ≤ 1000) : ((i : Int).natAbs).log2 < 1920 := by
  have := Nat.log2_le_self i
  show i.log2 < 1920
  omega
theorem str_n {i : Nat} {st : Sto} (h : i ≤ 1000) : fStrI [.int (i : Nat)] st = some (.str (tx i), st) := by
  unfold fStrI
  dsimp only
  rw [if_pos (log_small h)]
  rfl
theorem tx_len {i : Nat} (h : i ≤ 1000) : (tx i).length ≤ 2000 := by
  have := int_text_len_1921 (i := (i : Int)) (by have := log_small h; omega)
  exact Nat.le_trans this (by decide)
def Tg (t : Int) : Prop := t = -1 ∨ t = 0 ∨ t = 1
theorem gd_tg {n : Nat} (hn : n ≤ 2) : ∀ {ts : List Int}, Gd n ts → ∀ t ∈ ts, Tg t
  | [], _, t, h => by cases h
  | u :: ts, g, t, h => by
    rcases List.mem_cons.mp h with rfl | h
    · unfold Tg
      rcases g.2 with ⟨a, b⟩ | ⟨a, b⟩ <;> omega
    · exact gd_tg hn g.1 t h
theorem sgn_ix {t : Int} (h : Tg t) {st : Sto} : fIx (.str "abc)") (.int t) st = some (.str (sgn t), st) := by rcases h with rfl | rfl | rfl <;> rfl
theorem sgn_ix2 {t : Int} (h : Tg t) {st : Sto} : fIx (.str ")abc") (.int (t + 1)) st = some (.str (sgn t), st) := by rcases h with rfl | rfl | rfl <;> rfl
section
variable {q : Qn} {r : Rd} {n c d : Nat} {b : Bool} {st : Sto} {ts : List Int} {E : Xc → Sto → Prop} {T K Er : List A}
/-- [g(x) for x in ..], strings -/
theorem lc_strs {L : List A} {f : Itm} {mg : GM} {me : EM} {wenv : Ev} {ys : List Str} (hy : ys.length = L.length) (hL : L.length ≤ 1000) (hf : ∀ i s, st <+: s → f i s = ofL L i s) (hs : ∀ y ∈ ys, y.length ≤ 2000)
    (step : ∀ (i : Nat) (a : A) (y : Str) (s : Sto), L[i]? = some a → ys[i]? = some y → st <+: s → ∃ e, mg a wenv s = .ok (e, s) ∧ me e s = .ok (.str y, s)) :
    (lcG f mg (fun _ st => .ok (true, st)) me wenv st.length fuel 0 (st ++ [.lst []])).holds (fun r => r.1 = .ref st.length ∧ st <+: r.2 ∧ r.2[st.length]? = some (.lst (ys.map .str))) E := by
  refine holds_mono (fun y hy2 => ?_) (fun _ _ z => z) (lc_run (fun i acc => acc = (ys.take i).map .str) (by omega) hf rfl (fun i a s acc ha p hP => ?_))
  · obtain ⟨acc, h1, h2, h3, h4, h5⟩ := hy2
    rw [← hy, List.take_length] at h5
    exact ⟨h1, h2, by rw [h3, h5]⟩
  · have hi := (List.getElem?_eq_some_iff.mp ha).1
    have hi2 : i < ys.length := by omega
    obtain ⟨e, e1, e2⟩ := step i a ys[i] s ha (List.getElem?_eq_getElem hi2) p
    rw [e1]
    refine ⟨rfl, List.prefix_refl _, ?_⟩
    rw [if_pos rfl]
    dsimp only
    rw [e2]
    refine ⟨List.prefix_refl _, ?_⟩
    rw [hP, List.take_succ_eq_append_getElem hi2, List.map_append]
    rfl
theorem text_h {k : Nat} (ht : ∀ t ∈ ts, Tg t) (hl : ts.length ≤ 1000) (hk : st[k]? = some (.lst (aI ts.reverse))) : (f_text_of [.ref k] st).holds (fun y => y.1 = .str (Txt.join "" (ts.reverse.map sgn)) ∧ st <+: y.2) E := by
  unfold f_text_of m_text_of
  simp only [Mx.mDef, Mx.mSeq, Mx.mAsg, Mx.mRet, Mx.mDrop, Mx.mIfS, Mx.mNx, Mx.mAndV, Mx.mOrV, Mx.mNotV, Mx.mIf, Mx.mB, Mx.mAnd, Mx.mOr, Mx.mNot, Mx.mNil, Mx.mCons, Mx.mCB, Mx.mCall, Mx.m1, Mx.m2, Mx.mC, Mx.mVar, Mx.mChain, Mx.mTup, Mx.mLst, Mx.mPar, Mx.mPar3, Mx.gmName, Mx.gmTup, Mx.gmCons, Mx.gmNil, Mx.mFld, Mx.bind_ok, Mx.bind_fail, Mx.bind_exc, Mx.noX_ok, Mx.thenS_nx, Mx.thenS_rt, Mx.asB_bl, Mx.ofO_some, Mx.ofO_none, Mx.flow_nx, List.map_cons, List.map_nil, List.cons_append, List.nil_append, List.append_nil, List.getElem?_cons_zero, List.getElem?_cons_succ, List.set_cons_zero, List.set_cons_succ, List.replicate_succ, List.replicate_zero, List.length_cons, List.length_nil, Nat.zero_add, Nat.reduceAdd, if_true, if_false, reduceIte, reduceCtorEq, Bool.not_true, Bool.not_false, Bool.false_eq_true, Mx.fI2, Mx.fU, Option.map_some, Option.map_none, Nat.reduceEqDiff, Mx.isi_int, Mx.isi_int2, Mx.isi_tup, Mx.len_tup, decide_true, decide_false, Mx.holds_bind_iff, Mx.holds_ok, Mx.holds_exc, mM1, mLc, miLst, hk]
  refine holds_mono (fun y hy => ?_) (fun _ _ z => z) (lc_strs (ys := ts.reverse.map sgn) (L := aI ts.reverse) (by rw [aI_len, List.length_map]) (by rw [aI_len, List.length_reverse]; omega) (fun i s p => itLst_eq hk p) (fun y hy => by obtain ⟨t, _, rfl⟩ := List.mem_map.mp hy; exact sgn_len) (fun i a y s ha hy p => ?_))
  · obtain ⟨h1, h2, h3⟩ := hy
    obtain ⟨a, s⟩ := y
    dsimp only at h1 h2 h3
    subst h1
    have e := join_l (s := "") h3 (by decide +kernel) (by rw [List.length_map, List.length_reverse]; omega) (fun y hy => by obtain ⟨t, _, rfl⟩ := List.mem_map.mp hy; exact sgn_len)
    simp only [Mx.mDef, Mx.mSeq, Mx.mAsg, Mx.mRet, Mx.mDrop, Mx.mIfS, Mx.mNx, Mx.mAndV, Mx.mOrV, Mx.mNotV, Mx.mIf, Mx.mB, Mx.mAnd, Mx.mOr, Mx.mNot, Mx.mNil, Mx.mCons, Mx.mCB, Mx.mCall, Mx.m1, Mx.m2, Mx.mC, Mx.mVar, Mx.mChain, Mx.mTup, Mx.mLst, Mx.mPar, Mx.mPar3, Mx.gmName, Mx.gmTup, Mx.gmCons, Mx.gmNil, Mx.mFld, Mx.bind_ok, Mx.bind_fail, Mx.bind_exc, Mx.noX_ok, Mx.thenS_nx, Mx.thenS_rt, Mx.asB_bl, Mx.ofO_some, Mx.ofO_none, Mx.flow_nx, List.map_cons, List.map_nil, List.cons_append, List.nil_append, List.append_nil, List.getElem?_cons_zero, List.getElem?_cons_succ, List.set_cons_zero, List.set_cons_succ, List.replicate_succ, List.replicate_zero, List.length_cons, List.length_nil, Nat.zero_add, Nat.reduceAdd, if_true, if_false, reduceIte, reduceCtorEq, Bool.not_true, Bool.not_false, Bool.false_eq_true, Mx.fI2, Mx.fU, Option.map_some, Option.map_none, Nat.reduceEqDiff, Mx.isi_int, Mx.isi_int2, Mx.isi_tup, Mx.len_tup, decide_true, decide_false, Mx.holds_bind_iff, Mx.holds_ok, Mx.holds_exc, e]
    exact ⟨trivial, h2⟩
  · obtain ⟨t, h1, h2, rfl⟩ := get_map ha
    rw [List.getElem?_map, h1] at hy
    cases hy
    have e := sgn_ix (st := s) (ht t (List.mem_reverse.mp h2))
    refine ⟨_, rfl, ?_⟩
    simp only [Mx.mDef, Mx.mSeq, Mx.mAsg, Mx.mRet, Mx.mDrop, Mx.mIfS, Mx.mNx, Mx.mAndV, Mx.mOrV, Mx.mNotV, Mx.mIf, Mx.mB, Mx.mAnd, Mx.mOr, Mx.mNot, Mx.mNil, Mx.mCons, Mx.mCB, Mx.mCall, Mx.m1, Mx.m2, Mx.mC, Mx.mVar, Mx.mChain, Mx.mTup, Mx.mLst, Mx.mPar, Mx.mPar3, Mx.gmName, Mx.gmTup, Mx.gmCons, Mx.gmNil, Mx.mFld, Mx.bind_ok, Mx.bind_fail, Mx.bind_exc, Mx.noX_ok, Mx.thenS_nx, Mx.thenS_rt, Mx.asB_bl, Mx.ofO_some, Mx.ofO_none, Mx.flow_nx, List.map_cons, List.map_nil, List.cons_append, List.nil_append, List.append_nil, List.getElem?_cons_zero, List.getElem?_cons_succ, List.set_cons_zero, List.set_cons_succ, List.replicate_succ, List.replicate_zero, List.length_cons, List.length_nil, Nat.zero_add, Nat.reduceAdd, if_true, if_false, reduceIte, reduceCtorEq, Bool.not_true, Bool.not_false, Bool.false_eq_true, Mx.fI2, Mx.fU, Option.map_some, Option.map_none, Nat.reduceEqDiff, Mx.isi_int, Mx.isi_int2, Mx.isi_tup, Mx.len_tup, decide_true, decide_false, wipeE, e]
theorem words_h {l : List Nat} (hl : l.length ≤ 1000) (hx : ∀ x ∈ l, x ≤ 1000) : (f_words_of [aN l] st).holds (fun y => y.1 = .str (Txt.join " " (l.map tx)) ∧ st <+: y.2) E := by
  unfold f_words_of m_words_of
  simp only [Mx.mDef, Mx.mSeq, Mx.mAsg, Mx.mRet, Mx.mDrop, Mx.mIfS, Mx.mNx, Mx.mAndV, Mx.mOrV, Mx.mNotV, Mx.mIf, Mx.mB, Mx.mAnd, Mx.mOr, Mx.mNot, Mx.mNil, Mx.mCons, Mx.mCB, Mx.mCall, Mx.m1, Mx.m2, Mx.mC, Mx.mVar, Mx.mChain, Mx.mTup, Mx.mLst, Mx.mPar, Mx.mPar3, Mx.gmName, Mx.gmTup, Mx.gmCons, Mx.gmNil, Mx.mFld, Mx.bind_ok, Mx.bind_fail, Mx.bind_exc, Mx.noX_ok, Mx.thenS_nx, Mx.thenS_rt, Mx.asB_bl, Mx.ofO_some, Mx.ofO_none, Mx.flow_nx, List.map_cons, List.map_nil, List.cons_append, List.nil_append, List.append_nil, List.getElem?_cons_zero, List.getElem?_cons_succ, List.set_cons_zero, List.set_cons_succ, List.replicate_succ, List.replicate_zero, List.length_cons, List.length_nil, Nat.zero_add, Nat.reduceAdd, if_true, if_false, reduceIte, reduceCtorEq, Bool.not_true, Bool.not_false, Bool.false_eq_true, Mx.fI2, Mx.fU, Option.map_some, Option.map_none, Nat.reduceEqDiff, Mx.isi_int, Mx.isi_int2, Mx.isi_tup, Mx.len_tup, decide_true, decide_false, Mx.holds_bind_iff, Mx.holds_ok, Mx.holds_exc, mM1, mLc, miTup]
  rw [aN_eq]
  simp only [Mx.mDef, Mx.mSeq, Mx.mAsg, Mx.mRet, Mx.mDrop, Mx.mIfS, Mx.mNx, Mx.mAndV, Mx.mOrV, Mx.mNotV, Mx.mIf, Mx.mB, Mx.mAnd, Mx.mOr, Mx.mNot, Mx.mNil, Mx.mCons, Mx.mCB, Mx.mCall, Mx.m1, Mx.m2, Mx.mC, Mx.mVar, Mx.mChain, Mx.mTup, Mx.mLst, Mx.mPar, Mx.mPar3, Mx.gmName, Mx.gmTup, Mx.gmCons, Mx.gmNil, Mx.mFld, Mx.bind_ok, Mx.bind_fail, Mx.bind_exc, Mx.noX_ok, Mx.thenS_nx, Mx.thenS_rt, Mx.asB_bl, Mx.ofO_some, Mx.ofO_none, Mx.flow_nx, List.map_cons, List.map_nil, List.cons_append, List.nil_append, List.append_nil, List.getElem?_cons_zero, List.getElem?_cons_succ, List.set_cons_zero, List.set_cons_succ, List.replicate_succ, List.replicate_zero, List.length_cons, List.length_nil, Nat.zero_add, Nat.reduceAdd, if_true, if_false, reduceIte, reduceCtorEq, Bool.not_true, Bool.not_false, Bool.false_eq_true, Mx.fI2, Mx.fU, Option.map_some, Option.map_none, Nat.reduceEqDiff, Mx.isi_int, Mx.isi_int2, Mx.isi_tup, Mx.len_tup, decide_true, decide_false, Mx.holds_bind_iff, Mx.holds_ok, Mx.holds_exc]
  refine holds_mono (fun y hy => ?_) (fun _ _ z => z) (lc_strs (ys := l.map tx) (L := aL l) (by rw [aL_len, List.length_map]) (by rw [aL_len]; omega) (fun i s p => (rfl : itTup (aL l) i s = ofL (aL l) i s)) (fun y hy => by obtain ⟨t, h, rfl⟩ := List.mem_map.mp hy; exact tx_len (hx t h)) (fun i a y s ha hy p => ?_))
  · obtain ⟨h1, h2, h3⟩ := hy
    obtain ⟨a, s⟩ := y
    dsimp only at h1 h2 h3
    subst h1
    have e := join_l (s := " ") h3 (by decide +kernel) (by rw [List.length_map]; omega) (fun y hy => by obtain ⟨t, h, rfl⟩ := List.mem_map.mp hy; exact tx_len (hx t h))
    simp only [Mx.mDef, Mx.mSeq, Mx.mAsg, Mx.mRet, Mx.mDrop, Mx.mIfS, Mx.mNx, Mx.mAndV, Mx.mOrV, Mx.mNotV, Mx.mIf, Mx.mB, Mx.mAnd, Mx.mOr, Mx.mNot, Mx.mNil, Mx.mCons, Mx.mCB, Mx.mCall, Mx.m1, Mx.m2, Mx.mC, Mx.mVar, Mx.mChain, Mx.mTup, Mx.mLst, Mx.mPar, Mx.mPar3, Mx.gmName, Mx.gmTup, Mx.gmCons, Mx.gmNil, Mx.mFld, Mx.bind_ok, Mx.bind_fail, Mx.bind_exc, Mx.noX_ok, Mx.thenS_nx, Mx.thenS_rt, Mx.asB_bl, Mx.ofO_some, Mx.ofO_none, Mx.flow_nx, List.map_cons, List.map_nil, List.cons_append, List.nil_append, List.append_nil, List.getElem?_cons_zero, List.getElem?_cons_succ, List.set_cons_zero, List.set_cons_succ, List.replicate_succ, List.replicate_zero, List.length_cons, List.length_nil, Nat.zero_add, Nat.reduceAdd, if_true, if_false, reduceIte, reduceCtorEq, Bool.not_true, Bool.not_false, Bool.false_eq_true, Mx.fI2, Mx.fU, Option.map_some, Option.map_none, Nat.reduceEqDiff, Mx.isi_int, Mx.isi_int2, Mx.isi_tup, Mx.len_tup, decide_true, decide_false, Mx.holds_bind_iff, Mx.holds_ok, Mx.holds_exc, e]
    exact ⟨trivial, h2⟩
  · obtain ⟨t, h1, h2, rfl⟩ := get_map ha
    rw [List.getElem?_map, h1] at hy
    cases hy
    have e := str_n (st := s) (hx t h2)
    refine ⟨_, rfl, ?_⟩
    simp only [Mx.mDef, Mx.mSeq, Mx.mAsg, Mx.mRet, Mx.mDrop, Mx.mIfS, Mx.mNx, Mx.mAndV, Mx.mOrV, Mx.mNotV, Mx.mIf, Mx.mB, Mx.mAnd, Mx.mOr, Mx.mNot, Mx.mNil, Mx.mCons, Mx.mCB, Mx.mCall, Mx.m1, Mx.m2, Mx.mC, Mx.mVar, Mx.mChain, Mx.mTup, Mx.mLst, Mx.mPar, Mx.mPar3, Mx.gmName, Mx.gmTup, Mx.gmCons, Mx.gmNil, Mx.mFld, Mx.bind_ok, Mx.bind_fail, Mx.bind_exc, Mx.noX_ok, Mx.thenS_nx, Mx.thenS_rt, Mx.asB_bl, Mx.ofO_some, Mx.ofO_none, Mx.flow_nx, List.map_cons, List.map_nil, List.cons_append, List.nil_append, List.append_nil, List.getElem?_cons_zero, List.getElem?_cons_succ, List.set_cons_zero, List.set_cons_succ, List.replicate_succ, List.replicate_zero, List.length_cons, List.length_nil, Nat.zero_add, Nat.reduceAdd, if_true, if_false, reduceIte, reduceCtorEq, Bool.not_true, Bool.not_false, Bool.false_eq_true, Mx.fI2, Mx.fU, Option.map_some, Option.map_none, Nat.reduceEqDiff, Mx.isi_int, Mx.isi_int2, Mx.isi_tup, Mx.len_tup, decide_true, decide_false, wipeE, e]
end
end Mx

/-! ### MkM8 -/
set_option Elab.async false
set_option linter.all false
set_option maxRecDepth 100000
set_option maxHeartbeats 1000000
namespace Mx
open PySem PySem.Spec PyProof.Rows L2
theorem isi_strs {s : Str} {st : Sto} : fIsi [.str s, .ty "str"] st = some (.bl true, st) := id rfl
theorem isi_strn {st : Sto} : fIsi [.non, .ty "str"] st = some (.bl false, st) := id rfl
theorem isi_stri {i : Int} {st : Sto} : fIsi [.int i, .ty "str"] st = some (.bl false, st) := id rfl
theorem eq_str {s t : Str} {st : Sto} : fEq (.str s) (.str t) st = some (.bl (decide (s = t)), st) := id rfl
theorem ne_str {s t : Str} {st : Sto} : fNe (.str s) (.str t) st = some (.bl (!decide (s = t)), st) := id rfl
section
variable {q : Qn} {r : Rd} {n c d : Nat} {b : Bool} {st : Sto} {ts : List Int} {E : Xc → Sto → Prop} {T K Er : List A} {Q : A × Sto → Prop}
theorem lkp : (flds d q b r).lookup ("_do_tag" : Str) = none ∧ (flds d q b r).lookup ("tag" : Str) = none ∧ (flds d q b r).lookup ("back" : Str) = none ∧ (flds d q b r).lookup ("do" : Str) = none := ⟨rfl, rfl, rfl, rfl⟩
theorem do_row (hn : n ≤ 2) (g : Gd n ts) (hl : ts.length ≤ 1000) (h : DSt st d q b r c ts) : (f_Desk_do [.ref d, .str "row"] st).holds (fun y => y.1 = .str (Txt.join "" (ts.reverse.map sgn)) ∧ st <+: y.2) E := by
  have hd := h.o
  have b1 : decide (("row" : Str) = "back") = false := by decide +kernel
  have b2 : decide (("row" : Str) = "row") = true := by decide +kernel
  unfold f_Desk_do m_Desk_do
  simp only [Mx.mDef, Mx.mSeq, Mx.mAsg, Mx.mRet, Mx.mDrop, Mx.mIfS, Mx.mNx, Mx.mAndV, Mx.mOrV, Mx.mNotV, Mx.mIf, Mx.mB, Mx.mAnd, Mx.mOr, Mx.mNot, Mx.mNil, Mx.mCons, Mx.mCB, Mx.mCall, Mx.m1, Mx.m2, Mx.mC, Mx.mVar, Mx.mChain, Mx.mTup, Mx.mLst, Mx.mPar, Mx.mPar3, Mx.gmName, Mx.gmTup, Mx.gmCons, Mx.gmNil, Mx.mFld, Mx.bind_ok, Mx.bind_fail, Mx.bind_exc, Mx.noX_ok, Mx.thenS_nx, Mx.thenS_rt, Mx.asB_bl, Mx.ofO_some, Mx.ofO_none, Mx.flow_nx, List.map_cons, List.map_nil, List.cons_append, List.nil_append, List.append_nil, List.getElem?_cons_zero, List.getElem?_cons_succ, List.set_cons_zero, List.set_cons_succ, List.replicate_succ, List.replicate_zero, List.length_cons, List.length_nil, Nat.zero_add, Nat.reduceAdd, if_true, if_false, reduceIte, reduceCtorEq, Bool.not_true, Bool.not_false, Bool.false_eq_true, Mx.fI2, Mx.fU, Option.map_some, Option.map_none, Nat.reduceEqDiff, Mx.isi_int, Mx.isi_int2, Mx.isi_tup, Mx.len_tup, decide_true, decide_false, Mx.holds_bind_iff, Mx.holds_ok, Mx.holds_exc, isi_strs, eq_str, b1, b2, hd, lk_t]
  exact text_h (gd_tg hn g) hl h.t
theorem do_state (hs : rst r c ts ≤ 1000) (h : DSt st d q b r c ts) : f_Desk_do [.ref d, .str "state"] st = .ok (.str (tx (rst r c ts)), st) := by
  have hd := h.o
  have b1 : decide (("state" : Str) = "back") = false := by decide +kernel
  have b2 : decide (("state" : Str) = "row") = false := by decide +kernel
  have b3 : decide (("state" : Str) = "state") = true := by decide +kernel
  unfold f_Desk_do m_Desk_do
  simp only [Mx.mDef, Mx.mSeq, Mx.mAsg, Mx.mRet, Mx.mDrop, Mx.mIfS, Mx.mNx, Mx.mAndV, Mx.mOrV, Mx.mNotV, Mx.mIf, Mx.mB, Mx.mAnd, Mx.mOr, Mx.mNot, Mx.mNil, Mx.mCons, Mx.mCB, Mx.mCall, Mx.m1, Mx.m2, Mx.mC, Mx.mVar, Mx.mChain, Mx.mTup, Mx.mLst, Mx.mPar, Mx.mPar3, Mx.gmName, Mx.gmTup, Mx.gmCons, Mx.gmNil, Mx.mFld, Mx.bind_ok, Mx.bind_fail, Mx.bind_exc, Mx.noX_ok, Mx.thenS_nx, Mx.thenS_rt, Mx.asB_bl, Mx.ofO_some, Mx.ofO_none, Mx.flow_nx, List.map_cons, List.map_nil, List.cons_append, List.nil_append, List.append_nil, List.getElem?_cons_zero, List.getElem?_cons_succ, List.set_cons_zero, List.set_cons_succ, List.replicate_succ, List.replicate_zero, List.length_cons, List.length_nil, Nat.zero_add, Nat.reduceAdd, if_true, if_false, reduceIte, reduceCtorEq, Bool.not_true, Bool.not_false, Bool.false_eq_true, Mx.fI2, Mx.fU, Option.map_some, Option.map_none, Nat.reduceEqDiff, Mx.isi_int, Mx.isi_int2, Mx.isi_tup, Mx.len_tup, decide_true, decide_false, isi_strs, eq_str, b1, b2, b3, mProp, hd, state_t h, str_n hs]
theorem wrg_lt {bs : List Bool} : (wrg bs).length ≤ bs.length ∧ ∀ x ∈ wrg bs, x < bs.length := by
  unfold wrg
  refine ⟨Nat.le_trans (List.length_filter_le _ _) (by simp), fun x hx => List.mem_range.mp (List.mem_filter.mp hx).1⟩
theorem do_wrong (hl : ts.length ≤ 1000) (h : DSt st d q b r c ts) : (f_Desk_do [.ref d, .str "wrong"] st).holds (fun y => y.1 = .str (Txt.join " " ((wrg (erd q r c ts)).map tx)) ∧ st <+: y.2) E := by
  have hd := h.o
  have l2 := pths_len (ts := ts)
  have l3 := wrg_lt (bs := erd q r c ts)
  rw [erd_len] at l3
  have b1 : decide (("wrong" : Str) = "back") = false := by decide +kernel
  have b2 : decide (("wrong" : Str) = "row") = false := by decide +kernel
  have b3 : decide (("wrong" : Str) = "state") = false := by decide +kernel
  have b4 : decide (("wrong" : Str) = "wrong") = true := by decide +kernel
  unfold f_Desk_do m_Desk_do
  simp only [Mx.mDef, Mx.mSeq, Mx.mAsg, Mx.mRet, Mx.mDrop, Mx.mIfS, Mx.mNx, Mx.mAndV, Mx.mOrV, Mx.mNotV, Mx.mIf, Mx.mB, Mx.mAnd, Mx.mOr, Mx.mNot, Mx.mNil, Mx.mCons, Mx.mCB, Mx.mCall, Mx.m1, Mx.m2, Mx.mC, Mx.mVar, Mx.mChain, Mx.mTup, Mx.mLst, Mx.mPar, Mx.mPar3, Mx.gmName, Mx.gmTup, Mx.gmCons, Mx.gmNil, Mx.mFld, Mx.bind_ok, Mx.bind_fail, Mx.bind_exc, Mx.noX_ok, Mx.thenS_nx, Mx.thenS_rt, Mx.asB_bl, Mx.ofO_some, Mx.ofO_none, Mx.flow_nx, List.map_cons, List.map_nil, List.cons_append, List.nil_append, List.append_nil, List.getElem?_cons_zero, List.getElem?_cons_succ, List.set_cons_zero, List.set_cons_succ, List.replicate_succ, List.replicate_zero, List.length_cons, List.length_nil, Nat.zero_add, Nat.reduceAdd, if_true, if_false, reduceIte, reduceCtorEq, Bool.not_true, Bool.not_false, Bool.false_eq_true, Mx.fI2, Mx.fU, Option.map_some, Option.map_none, Nat.reduceEqDiff, Mx.isi_int, Mx.isi_int2, Mx.isi_tup, Mx.len_tup, decide_true, decide_false, Mx.holds_bind_iff, Mx.holds_ok, Mx.holds_exc, isi_strs, eq_str, b1, b2, b3, b4, mProp, hd]
  refine noX_of (holds_mono (fun y hy => ?_) (fun _ _ z => z) (wrong_h (q := q) (r := r) (c := c) (ts := ts) (b := b) hl h))
  obtain ⟨a, s⟩ := y
  obtain ⟨h1, h2⟩ := hy
  dsimp only at h1 h2
  subst h1
  simp only [Mx.mDef, Mx.mSeq, Mx.mAsg, Mx.mRet, Mx.mDrop, Mx.mIfS, Mx.mNx, Mx.mAndV, Mx.mOrV, Mx.mNotV, Mx.mIf, Mx.mB, Mx.mAnd, Mx.mOr, Mx.mNot, Mx.mNil, Mx.mCons, Mx.mCB, Mx.mCall, Mx.m1, Mx.m2, Mx.mC, Mx.mVar, Mx.mChain, Mx.mTup, Mx.mLst, Mx.mPar, Mx.mPar3, Mx.gmName, Mx.gmTup, Mx.gmCons, Mx.gmNil, Mx.mFld, Mx.bind_ok, Mx.bind_fail, Mx.bind_exc, Mx.noX_ok, Mx.thenS_nx, Mx.thenS_rt, Mx.asB_bl, Mx.ofO_some, Mx.ofO_none, Mx.flow_nx, List.map_cons, List.map_nil, List.cons_append, List.nil_append, List.append_nil, List.getElem?_cons_zero, List.getElem?_cons_succ, List.set_cons_zero, List.set_cons_succ, List.replicate_succ, List.replicate_zero, List.length_cons, List.length_nil, Nat.zero_add, Nat.reduceAdd, if_true, if_false, reduceIte, reduceCtorEq, Bool.not_true, Bool.not_false, Bool.false_eq_true, Mx.fI2, Mx.fU, Option.map_some, Option.map_none, Nat.reduceEqDiff, Mx.isi_int, Mx.isi_int2, Mx.isi_tup, Mx.len_tup, decide_true, decide_false, Mx.holds_bind_iff, Mx.holds_ok, Mx.holds_exc]
  refine holds_mono (fun y hy => ⟨hy.1, h2.trans hy.2⟩) (fun _ _ z => z) (words_h (by omega) (fun x hx => by have := l3.2 x hx; omega))
theorem do_back {t : Int} (hg : Gd n (t :: ts)) (hl : ts.length ≤ 1000) (h : DSt st d q b r c (t :: ts)) : (f_Desk_do [.ref d, .str "back"] st).holds (fun y => y.1 = .str "done" ∧ DSt y.2 d q b r c ts ∧ Kp st d y.2) E := by
  have hd := h.o
  have b1 : decide (("back" : Str) = "back") = true := by decide +kernel
  have lk := (lkp (d := d) (q := q) (b := b) (r := r)).2.2.1
  unfold f_Desk_do m_Desk_do
  simp only [Mx.mDef, Mx.mSeq, Mx.mAsg, Mx.mRet, Mx.mDrop, Mx.mIfS, Mx.mNx, Mx.mAndV, Mx.mOrV, Mx.mNotV, Mx.mIf, Mx.mB, Mx.mAnd, Mx.mOr, Mx.mNot, Mx.mNil, Mx.mCons, Mx.mCB, Mx.mCall, Mx.m1, Mx.m2, Mx.mC, Mx.mVar, Mx.mChain, Mx.mTup, Mx.mLst, Mx.mPar, Mx.mPar3, Mx.gmName, Mx.gmTup, Mx.gmCons, Mx.gmNil, Mx.mFld, Mx.bind_ok, Mx.bind_fail, Mx.bind_exc, Mx.noX_ok, Mx.thenS_nx, Mx.thenS_rt, Mx.asB_bl, Mx.ofO_some, Mx.ofO_none, Mx.flow_nx, List.map_cons, List.map_nil, List.cons_append, List.nil_append, List.append_nil, List.getElem?_cons_zero, List.getElem?_cons_succ, List.set_cons_zero, List.set_cons_succ, List.replicate_succ, List.replicate_zero, List.length_cons, List.length_nil, Nat.zero_add, Nat.reduceAdd, if_true, if_false, reduceIte, reduceCtorEq, Bool.not_true, Bool.not_false, Bool.false_eq_true, Mx.fI2, Mx.fU, Option.map_some, Option.map_none, Nat.reduceEqDiff, Mx.isi_int, Mx.isi_int2, Mx.isi_tup, Mx.len_tup, decide_true, decide_false, Mx.holds_bind_iff, Mx.holds_ok, Mx.holds_exc, isi_strs, eq_str, b1, mMeth, hd, lk, and_self]
  exact holds_mono (fun y hy => ⟨trivial, hy.2⟩) (fun _ _ z => z) (back_h hg hl h)
theorem do_back0 (h : DSt st d q b r c []) : f_Desk_do [.ref d, .str "back"] st = .exc (12, none) st := by
  have hd := h.o
  have b1 : decide (("back" : Str) = "back") = true := by decide +kernel
  have lk := (lkp (d := d) (q := q) (b := b) (r := r)).2.2.1
  unfold f_Desk_do m_Desk_do
  simp only [Mx.mDef, Mx.mSeq, Mx.mAsg, Mx.mRet, Mx.mDrop, Mx.mIfS, Mx.mNx, Mx.mAndV, Mx.mOrV, Mx.mNotV, Mx.mIf, Mx.mB, Mx.mAnd, Mx.mOr, Mx.mNot, Mx.mNil, Mx.mCons, Mx.mCB, Mx.mCall, Mx.m1, Mx.m2, Mx.mC, Mx.mVar, Mx.mChain, Mx.mTup, Mx.mLst, Mx.mPar, Mx.mPar3, Mx.gmName, Mx.gmTup, Mx.gmCons, Mx.gmNil, Mx.mFld, Mx.bind_ok, Mx.bind_fail, Mx.bind_exc, Mx.noX_ok, Mx.thenS_nx, Mx.thenS_rt, Mx.asB_bl, Mx.ofO_some, Mx.ofO_none, Mx.flow_nx, List.map_cons, List.map_nil, List.cons_append, List.nil_append, List.append_nil, List.getElem?_cons_zero, List.getElem?_cons_succ, List.set_cons_zero, List.set_cons_succ, List.replicate_succ, List.replicate_zero, List.length_cons, List.length_nil, Nat.zero_add, Nat.reduceAdd, if_true, if_false, reduceIte, reduceCtorEq, Bool.not_true, Bool.not_false, Bool.false_eq_true, Mx.fI2, Mx.fU, Option.map_some, Option.map_none, Nat.reduceEqDiff, Mx.isi_int, Mx.isi_int2, Mx.isi_tup, Mx.len_tup, decide_true, decide_false, isi_strs, eq_str, b1, mMeth, hd, lk, and_self, back_none h]
structure Plain (s : Str) : Prop where
  b1 : decide (s = "back") = false
  b2 : decide (s = "row") = false
  b3 : decide (s = "state") = false
  b4 : decide (s = "wrong") = false
theorem do_else {s : Str} (p : Plain s) (h : DSt st d q b r c ts) (hq : (f_Desk__do_tag [.ref d, .str s] st).holds Q E) : (f_Desk_do [.ref d, .str s] st).holds Q E := by
  have hd := h.o
  have lk := (lkp (d := d) (q := q) (b := b) (r := r)).1
  unfold f_Desk_do m_Desk_do
  simp only [Mx.mDef, Mx.mSeq, Mx.mAsg, Mx.mRet, Mx.mDrop, Mx.mIfS, Mx.mNx, Mx.mAndV, Mx.mOrV, Mx.mNotV, Mx.mIf, Mx.mB, Mx.mAnd, Mx.mOr, Mx.mNot, Mx.mNil, Mx.mCons, Mx.mCB, Mx.mCall, Mx.m1, Mx.m2, Mx.mC, Mx.mVar, Mx.mChain, Mx.mTup, Mx.mLst, Mx.mPar, Mx.mPar3, Mx.gmName, Mx.gmTup, Mx.gmCons, Mx.gmNil, Mx.mFld, Mx.bind_ok, Mx.bind_fail, Mx.bind_exc, Mx.noX_ok, Mx.thenS_nx, Mx.thenS_rt, Mx.asB_bl, Mx.ofO_some, Mx.ofO_none, Mx.flow_nx, List.map_cons, List.map_nil, List.cons_append, List.nil_append, List.append_nil, List.getElem?_cons_zero, List.getElem?_cons_succ, List.set_cons_zero, List.set_cons_succ, List.replicate_succ, List.replicate_zero, List.length_cons, List.length_nil, Nat.zero_add, Nat.reduceAdd, if_true, if_false, reduceIte, reduceCtorEq, Bool.not_true, Bool.not_false, Bool.false_eq_true, Mx.fI2, Mx.fU, Option.map_some, Option.map_none, Nat.reduceEqDiff, Mx.isi_int, Mx.isi_int2, Mx.isi_tup, Mx.len_tup, decide_true, decide_false, Mx.holds_bind_iff, Mx.holds_ok, Mx.holds_exc, isi_strs, eq_str, p.b1, p.b2, p.b3, p.b4, mMeth, hd, lk, and_self]
  exact hq
theorem tag_find {s : Str} {k : Int} (h : decide (s = ")") = false) (hk : Txt.find "abc)" s = k) : f_tag_of [.int n, .str s] st = .ok ((if 0 ≤ k ∧ k < n then .int k else .non), st) := by
  have e : fFind (.str "abc)") [.str s] st = some (.int k, st) := by
    unfold fFind
    dsimp only
    rw [hk]
  unfold f_tag_of m_tag_of
  by_cases h1 : 0 ≤ k
  · by_cases h2 : k < n
    · simp only [Mx.mDef, Mx.mSeq, Mx.mAsg, Mx.mRet, Mx.mDrop, Mx.mIfS, Mx.mNx, Mx.mAndV, Mx.mOrV, Mx.mNotV, Mx.mIf, Mx.mB, Mx.mAnd, Mx.mOr, Mx.mNot, Mx.mNil, Mx.mCons, Mx.mCB, Mx.mCall, Mx.m1, Mx.m2, Mx.mC, Mx.mVar, Mx.mChain, Mx.mTup, Mx.mLst, Mx.mPar, Mx.mPar3, Mx.gmName, Mx.gmTup, Mx.gmCons, Mx.gmNil, Mx.mFld, Mx.bind_ok, Mx.bind_fail, Mx.bind_exc, Mx.noX_ok, Mx.thenS_nx, Mx.thenS_rt, Mx.asB_bl, Mx.ofO_some, Mx.ofO_none, Mx.flow_nx, List.map_cons, List.map_nil, List.cons_append, List.nil_append, List.append_nil, List.getElem?_cons_zero, List.getElem?_cons_succ, List.set_cons_zero, List.set_cons_succ, List.replicate_succ, List.replicate_zero, List.length_cons, List.length_nil, Nat.zero_add, Nat.reduceAdd, if_true, if_false, reduceIte, reduceCtorEq, Bool.not_true, Bool.not_false, Bool.false_eq_true, Mx.fI2, Mx.fU, Option.map_some, Option.map_none, Nat.reduceEqDiff, Mx.isi_int, Mx.isi_int2, Mx.isi_tup, Mx.len_tup, decide_true, decide_false, eq_str, h, mM1, e, h1, h2, and_self]
    · simp only [Mx.mDef, Mx.mSeq, Mx.mAsg, Mx.mRet, Mx.mDrop, Mx.mIfS, Mx.mNx, Mx.mAndV, Mx.mOrV, Mx.mNotV, Mx.mIf, Mx.mB, Mx.mAnd, Mx.mOr, Mx.mNot, Mx.mNil, Mx.mCons, Mx.mCB, Mx.mCall, Mx.m1, Mx.m2, Mx.mC, Mx.mVar, Mx.mChain, Mx.mTup, Mx.mLst, Mx.mPar, Mx.mPar3, Mx.gmName, Mx.gmTup, Mx.gmCons, Mx.gmNil, Mx.mFld, Mx.bind_ok, Mx.bind_fail, Mx.bind_exc, Mx.noX_ok, Mx.thenS_nx, Mx.thenS_rt, Mx.asB_bl, Mx.ofO_some, Mx.ofO_none, Mx.flow_nx, List.map_cons, List.map_nil, List.cons_append, List.nil_append, List.append_nil, List.getElem?_cons_zero, List.getElem?_cons_succ, List.set_cons_zero, List.set_cons_succ, List.replicate_succ, List.replicate_zero, List.length_cons, List.length_nil, Nat.zero_add, Nat.reduceAdd, if_true, if_false, reduceIte, reduceCtorEq, Bool.not_true, Bool.not_false, Bool.false_eq_true, Mx.fI2, Mx.fU, Option.map_some, Option.map_none, Nat.reduceEqDiff, Mx.isi_int, Mx.isi_int2, Mx.isi_tup, Mx.len_tup, decide_true, decide_false, eq_str, h, mM1, e, h1, h2, and_false]
  · simp only [Mx.mDef, Mx.mSeq, Mx.mAsg, Mx.mRet, Mx.mDrop, Mx.mIfS, Mx.mNx, Mx.mAndV, Mx.mOrV, Mx.mNotV, Mx.mIf, Mx.mB, Mx.mAnd, Mx.mOr, Mx.mNot, Mx.mNil, Mx.mCons, Mx.mCB, Mx.mCall, Mx.m1, Mx.m2, Mx.mC, Mx.mVar, Mx.mChain, Mx.mTup, Mx.mLst, Mx.mPar, Mx.mPar3, Mx.gmName, Mx.gmTup, Mx.gmCons, Mx.gmNil, Mx.mFld, Mx.bind_ok, Mx.bind_fail, Mx.bind_exc, Mx.noX_ok, Mx.thenS_nx, Mx.thenS_rt, Mx.asB_bl, Mx.ofO_some, Mx.ofO_none, Mx.flow_nx, List.map_cons, List.map_nil, List.cons_append, List.nil_append, List.append_nil, List.getElem?_cons_zero, List.getElem?_cons_succ, List.set_cons_zero, List.set_cons_succ, List.replicate_succ, List.replicate_zero, List.length_cons, List.length_nil, Nat.zero_add, Nat.reduceAdd, if_true, if_false, reduceIte, reduceCtorEq, Bool.not_true, Bool.not_false, Bool.false_eq_true, Mx.fI2, Mx.fU, Option.map_some, Option.map_none, Nat.reduceEqDiff, Mx.isi_int, Mx.isi_int2, Mx.isi_tup, Mx.len_tup, decide_true, decide_false, eq_str, h, mM1, e, h1, false_and]
theorem tag_sgn {t : Int} (h : Tg t) (ht : t < n) : f_tag_of [.int n, .str (sgn t)] st = .ok (.int t, st) := by
  rcases h with rfl | rfl | rfl
  · have e : decide (sgn (-1) = ")") = true := by decide +kernel
    unfold f_tag_of m_tag_of
    simp only [Mx.mDef, Mx.mSeq, Mx.mAsg, Mx.mRet, Mx.mDrop, Mx.mIfS, Mx.mNx, Mx.mAndV, Mx.mOrV, Mx.mNotV, Mx.mIf, Mx.mB, Mx.mAnd, Mx.mOr, Mx.mNot, Mx.mNil, Mx.mCons, Mx.mCB, Mx.mCall, Mx.m1, Mx.m2, Mx.mC, Mx.mVar, Mx.mChain, Mx.mTup, Mx.mLst, Mx.mPar, Mx.mPar3, Mx.gmName, Mx.gmTup, Mx.gmCons, Mx.gmNil, Mx.mFld, Mx.bind_ok, Mx.bind_fail, Mx.bind_exc, Mx.noX_ok, Mx.thenS_nx, Mx.thenS_rt, Mx.asB_bl, Mx.ofO_some, Mx.ofO_none, Mx.flow_nx, List.map_cons, List.map_nil, List.cons_append, List.nil_append, List.append_nil, List.getElem?_cons_zero, List.getElem?_cons_succ, List.set_cons_zero, List.set_cons_succ, List.replicate_succ, List.replicate_zero, List.length_cons, List.length_nil, Nat.zero_add, Nat.reduceAdd, if_true, if_false, reduceIte, reduceCtorEq, Bool.not_true, Bool.not_false, Bool.false_eq_true, Mx.fI2, Mx.fU, Option.map_some, Option.map_none, Nat.reduceEqDiff, Mx.isi_int, Mx.isi_int2, Mx.isi_tup, Mx.len_tup, decide_true, decide_false, eq_str, e]
  · rw [tag_find (k := 0) (by decide +kernel) (by decide +kernel), if_pos ⟨by omega, by omega⟩]
  · rw [tag_find (k := 1) (by decide +kernel) (by decide +kernel), if_pos ⟨by omega, by omega⟩]
theorem len_str {s : Str} {m : Nat} (h : s.length = m) (h2 : m ≤ 1000) : fLen [.str s] st = some (.int m, st) := by
  unfold fLen
  dsimp only
  rw [if_pos (by rw [sizeLine_eq]; omega), h]
/-- no line -/
theorem bad_tag {s : Str} (hq : QOk q n) (h : DSt st d q b r c ts) (hs : (∃ m, s.length = m ∧ m ≤ 1000 ∧ m ≠ 1) ∨ (s.length = 1 ∧ f_tag_of [.int n, .str s] st = .ok (.non, st))) (hE : E (11, some ("line", .int 0)) st) : (f_Desk__do_tag [.ref d, .str s] st).holds Q E := by
  have hd := h.o
  have hf : fldOk (.int 0) = true := by decide +kernel
  unfold f_Desk__do_tag m_Desk__do_tag
  rcases hs with ⟨m, h1, h2, h3⟩ | ⟨h1, h2⟩
  · have e : decide ((m : Int) = 1) = false := decide_eq_false (by omega)
    simp only [Mx.mDef, Mx.mSeq, Mx.mAsg, Mx.mRet, Mx.mDrop, Mx.mIfS, Mx.mNx, Mx.mAndV, Mx.mOrV, Mx.mNotV, Mx.mIf, Mx.mB, Mx.mAnd, Mx.mOr, Mx.mNot, Mx.mNil, Mx.mCons, Mx.mCB, Mx.mCall, Mx.m1, Mx.m2, Mx.mC, Mx.mVar, Mx.mChain, Mx.mTup, Mx.mLst, Mx.mPar, Mx.mPar3, Mx.gmName, Mx.gmTup, Mx.gmCons, Mx.gmNil, Mx.mFld, Mx.bind_ok, Mx.bind_fail, Mx.bind_exc, Mx.noX_ok, Mx.thenS_nx, Mx.thenS_rt, Mx.asB_bl, Mx.ofO_some, Mx.ofO_none, Mx.flow_nx, List.map_cons, List.map_nil, List.cons_append, List.nil_append, List.append_nil, List.getElem?_cons_zero, List.getElem?_cons_succ, List.set_cons_zero, List.set_cons_succ, List.replicate_succ, List.replicate_zero, List.length_cons, List.length_nil, Nat.zero_add, Nat.reduceAdd, if_true, if_false, reduceIte, reduceCtorEq, Bool.not_true, Bool.not_false, Bool.false_eq_true, Mx.fI2, Mx.fU, Option.map_some, Option.map_none, Nat.reduceEqDiff, Mx.isi_int, Mx.isi_int2, Mx.isi_tup, Mx.len_tup, decide_true, decide_false, Mx.holds_bind_iff, Mx.holds_ok, Mx.holds_exc, len_str h1 h2, eq_int, e, fIsN, isNon, mRz1, hf]
    exact hE
  · have e : decide (((1 : Nat) : Int) = 1) = true := by decide
    simp only [Mx.mDef, Mx.mSeq, Mx.mAsg, Mx.mRet, Mx.mDrop, Mx.mIfS, Mx.mNx, Mx.mAndV, Mx.mOrV, Mx.mNotV, Mx.mIf, Mx.mB, Mx.mAnd, Mx.mOr, Mx.mNot, Mx.mNil, Mx.mCons, Mx.mCB, Mx.mCall, Mx.m1, Mx.m2, Mx.mC, Mx.mVar, Mx.mChain, Mx.mTup, Mx.mLst, Mx.mPar, Mx.mPar3, Mx.gmName, Mx.gmTup, Mx.gmCons, Mx.gmNil, Mx.mFld, Mx.bind_ok, Mx.bind_fail, Mx.bind_exc, Mx.noX_ok, Mx.thenS_nx, Mx.thenS_rt, Mx.asB_bl, Mx.ofO_some, Mx.ofO_none, Mx.flow_nx, List.map_cons, List.map_nil, List.cons_append, List.nil_append, List.append_nil, List.getElem?_cons_zero, List.getElem?_cons_succ, List.set_cons_zero, List.set_cons_succ, List.replicate_succ, List.replicate_zero, List.length_cons, List.length_nil, Nat.zero_add, Nat.reduceAdd, if_true, if_false, reduceIte, reduceCtorEq, Bool.not_true, Bool.not_false, Bool.false_eq_true, Mx.fI2, Mx.fU, Option.map_some, Option.map_none, Nat.reduceEqDiff, Mx.isi_int, Mx.isi_int2, Mx.isi_tup, Mx.len_tup, decide_true, decide_false, Mx.holds_bind_iff, Mx.holds_ok, Mx.holds_exc, len_str h1 (by omega), eq_int, e, hd, lk_q, names_t hq, h2, fIsN, isNon, mRz1, hf]
    exact hE
/-- a sign that stands -/
theorem sign_h (hq : QOk q n) (hr : ROk r n (ways n b)) {t : Int} (g : Gd n (t :: ts)) (hl : ts.length ≤ 1000) (h : DSt st d q b r (ways n b) ts) :
    (f_Desk_do [.ref d, .str (sgn t)] st).holds (fun y => y.1 = .str (if t < 0 then "done" else Txt.join " " [tx (q.due (led q 0 (nms (t :: ts)))), tx (r.on (rst r (ways n b) ts) t.toNat).2]) ∧ DSt y.2 d q b r (ways n b) (t :: ts) ∧ (0 < d → y.2[0]? = st[0]?)) E := by
  have hd := h.o
  have hT := gd_tg hq.n2 g t List.mem_cons_self
  have w : CW n (ways n b) := cw_ways hq.n1
  have hm1 := hq.m1
  have ht : t < n := by rcases g.2 with ⟨x, y⟩ | ⟨x, y⟩ <;> omega
  have p : Plain (sgn t) := by rcases hT with rfl | rfl | rfl <;> exact ⟨by decide +kernel, by decide +kernel, by decide +kernel, by decide +kernel⟩
  have hlen : (sgn t).length = 1 := by rcases hT with rfl | rfl | rfl <;> decide +kernel
  have e : decide (((1 : Nat) : Int) = 1) = true := by decide
  have lk := (lkp (d := d) (q := q) (b := b) (r := r)).2.1
  refine do_else p h ?_
  unfold f_Desk__do_tag m_Desk__do_tag
  simp only [Mx.mDef, Mx.mSeq, Mx.mAsg, Mx.mRet, Mx.mDrop, Mx.mIfS, Mx.mNx, Mx.mAndV, Mx.mOrV, Mx.mNotV, Mx.mIf, Mx.mB, Mx.mAnd, Mx.mOr, Mx.mNot, Mx.mNil, Mx.mCons, Mx.mCB, Mx.mCall, Mx.m1, Mx.m2, Mx.mC, Mx.mVar, Mx.mChain, Mx.mTup, Mx.mLst, Mx.mPar, Mx.mPar3, Mx.gmName, Mx.gmTup, Mx.gmCons, Mx.gmNil, Mx.mFld, Mx.bind_ok, Mx.bind_fail, Mx.bind_exc, Mx.noX_ok, Mx.thenS_nx, Mx.thenS_rt, Mx.asB_bl, Mx.ofO_some, Mx.ofO_none, Mx.flow_nx, List.map_cons, List.map_nil, List.cons_append, List.nil_append, List.append_nil, List.getElem?_cons_zero, List.getElem?_cons_succ, List.set_cons_zero, List.set_cons_succ, List.replicate_succ, List.replicate_zero, List.length_cons, List.length_nil, Nat.zero_add, Nat.reduceAdd, if_true, if_false, reduceIte, reduceCtorEq, Bool.not_true, Bool.not_false, Bool.false_eq_true, Mx.fI2, Mx.fU, Option.map_some, Option.map_none, Nat.reduceEqDiff, Mx.isi_int, Mx.isi_int2, Mx.isi_tup, Mx.len_tup, decide_true, decide_false, Mx.holds_bind_iff, Mx.holds_ok, Mx.holds_exc, len_str hlen (by omega), eq_int, e, hd, lk_q, names_t hq, tag_sgn hT ht, fIsN, isNon, mMeth, lk, and_self]
  refine holds_mono (fun y hy => ?_) (fun _ _ z => z) (tag_h hq hr g hl h)
  obtain ⟨a, s⟩ := y
  obtain ⟨h1, h2, h3⟩ := hy
  dsimp only at h1 h2
  by_cases hz : t < 0
  · rw [if_pos hz] at h1 ⊢
    subst h1
    simp only [Mx.mDef, Mx.mSeq, Mx.mAsg, Mx.mRet, Mx.mDrop, Mx.mIfS, Mx.mNx, Mx.mAndV, Mx.mOrV, Mx.mNotV, Mx.mIf, Mx.mB, Mx.mAnd, Mx.mOr, Mx.mNot, Mx.mNil, Mx.mCons, Mx.mCB, Mx.mCall, Mx.m1, Mx.m2, Mx.mC, Mx.mVar, Mx.mChain, Mx.mTup, Mx.mLst, Mx.mPar, Mx.mPar3, Mx.gmName, Mx.gmTup, Mx.gmCons, Mx.gmNil, Mx.mFld, Mx.bind_ok, Mx.bind_fail, Mx.bind_exc, Mx.noX_ok, Mx.thenS_nx, Mx.thenS_rt, Mx.asB_bl, Mx.ofO_some, Mx.ofO_none, Mx.flow_nx, List.map_cons, List.map_nil, List.cons_append, List.nil_append, List.append_nil, List.getElem?_cons_zero, List.getElem?_cons_succ, List.set_cons_zero, List.set_cons_succ, List.replicate_succ, List.replicate_zero, List.length_cons, List.length_nil, Nat.zero_add, Nat.reduceAdd, if_true, if_false, reduceIte, reduceCtorEq, Bool.not_true, Bool.not_false, Bool.false_eq_true, Mx.fI2, Mx.fU, Option.map_some, Option.map_none, Nat.reduceEqDiff, Mx.isi_int, Mx.isi_int2, Mx.isi_tup, Mx.len_tup, decide_true, decide_false, Mx.holds_bind_iff, Mx.holds_ok, Mx.holds_exc, isNon]
    exact ⟨trivial, h2, fun z => h3 0 z⟩
  · rw [if_neg hz] at h1 ⊢
    subst h1
    have hto : led q 0 (nms (t :: ts)) < q.st.length := led_lt hq (by omega) (nms_lt g)
    have d1 : q.due (led q 0 (nms (t :: ts))) < 2 := hq.mx _ (getD_mem (by rw [hq.ml]; exact hto))
    have d2 : (r.on (rst r (ways n b) ts) t.toNat).2 < 2 := (hr.on_lt (rst_lt hr w g.1) (by omega)).2
    simp only [Mx.mDef, Mx.mSeq, Mx.mAsg, Mx.mRet, Mx.mDrop, Mx.mIfS, Mx.mNx, Mx.mAndV, Mx.mOrV, Mx.mNotV, Mx.mIf, Mx.mB, Mx.mAnd, Mx.mOr, Mx.mNot, Mx.mNil, Mx.mCons, Mx.mCB, Mx.mCall, Mx.m1, Mx.m2, Mx.mC, Mx.mVar, Mx.mChain, Mx.mTup, Mx.mLst, Mx.mPar, Mx.mPar3, Mx.gmName, Mx.gmTup, Mx.gmCons, Mx.gmNil, Mx.mFld, Mx.bind_ok, Mx.bind_fail, Mx.bind_exc, Mx.noX_ok, Mx.thenS_nx, Mx.thenS_rt, Mx.asB_bl, Mx.ofO_some, Mx.ofO_none, Mx.flow_nx, List.map_cons, List.map_nil, List.cons_append, List.nil_append, List.append_nil, List.getElem?_cons_zero, List.getElem?_cons_succ, List.set_cons_zero, List.set_cons_succ, List.replicate_succ, List.replicate_zero, List.length_cons, List.length_nil, Nat.zero_add, Nat.reduceAdd, if_true, if_false, reduceIte, reduceCtorEq, Bool.not_true, Bool.not_false, Bool.false_eq_true, Mx.fI2, Mx.fU, Option.map_some, Option.map_none, Nat.reduceEqDiff, Mx.isi_int, Mx.isi_int2, Mx.isi_tup, Mx.len_tup, decide_true, decide_false, Mx.holds_bind_iff, Mx.holds_ok, Mx.holds_exc, isNon]
    have z := words_h (st := s) (E := E) (l := [q.due (led q 0 (nms (t :: ts))), (r.on (rst r (ways n b) ts) t.toNat).2]) (by simp) (fun x hx => by
      rcases List.mem_cons.mp hx with rfl | hx
      · omega
      · rw [List.mem_singleton.mp hx]; omega)
    exact holds_mono (fun y hy => ⟨hy.1, h2.pre hy.2, fun zd => by
      obtain ⟨g, hg⟩ := hy.2
      have := (List.getElem?_eq_some_iff.mp h2.o).1
      rw [← hg, List.getElem?_append_left (by omega)]
      exact h3 0 zd⟩) (fun _ _ z => z) z
theorem sign_none (hq : QOk q n) (hz : nms ts = []) (h : DSt st d q b r c ts) : f_Desk_do [.ref d, .str ")"] st = .exc (12, none) st := by
  have hd := h.o
  have lk := (lkp (d := d) (q := q) (b := b) (r := r)).2.1
  have lk0 := (lkp (d := d) (q := q) (b := b) (r := r)).1
  have b1 : decide ((")" : Str) = "back") = false := by decide +kernel
  have b2 : decide ((")" : Str) = "row") = false := by decide +kernel
  have b3 : decide ((")" : Str) = "state") = false := by decide +kernel
  have b4 : decide ((")" : Str) = "wrong") = false := by decide +kernel
  have e : decide (((1 : Nat) : Int) = 1) = true := by decide
  have hlen : (")" : Str).length = 1 := by decide +kernel
  have hn := hq.n1
  have et : f_tag_of [.int n, .str ")"] st = .ok (.int (-1), st) := tag_sgn (t := -1) (.inl rfl) (by omega)
  have e2 : f_Desk__do_tag [.ref d, .str ")"] st = .exc (12, none) st := by
    unfold f_Desk__do_tag m_Desk__do_tag
    simp only [Mx.mDef, Mx.mSeq, Mx.mAsg, Mx.mRet, Mx.mDrop, Mx.mIfS, Mx.mNx, Mx.mAndV, Mx.mOrV, Mx.mNotV, Mx.mIf, Mx.mB, Mx.mAnd, Mx.mOr, Mx.mNot, Mx.mNil, Mx.mCons, Mx.mCB, Mx.mCall, Mx.m1, Mx.m2, Mx.mC, Mx.mVar, Mx.mChain, Mx.mTup, Mx.mLst, Mx.mPar, Mx.mPar3, Mx.gmName, Mx.gmTup, Mx.gmCons, Mx.gmNil, Mx.mFld, Mx.bind_ok, Mx.bind_fail, Mx.bind_exc, Mx.noX_ok, Mx.thenS_nx, Mx.thenS_rt, Mx.asB_bl, Mx.ofO_some, Mx.ofO_none, Mx.flow_nx, List.map_cons, List.map_nil, List.cons_append, List.nil_append, List.append_nil, List.getElem?_cons_zero, List.getElem?_cons_succ, List.set_cons_zero, List.set_cons_succ, List.replicate_succ, List.replicate_zero, List.length_cons, List.length_nil, Nat.zero_add, Nat.reduceAdd, if_true, if_false, reduceIte, reduceCtorEq, Bool.not_true, Bool.not_false, Bool.false_eq_true, Mx.fI2, Mx.fU, Option.map_some, Option.map_none, Nat.reduceEqDiff, Mx.isi_int, Mx.isi_int2, Mx.isi_tup, Mx.len_tup, decide_true, decide_false, len_str hlen (by omega), eq_int, e, hd, lk_q, names_t hq, et, fIsN, isNon, mMeth, lk, and_self, tag_none hq hz h]
  unfold f_Desk_do m_Desk_do
  simp only [Mx.mDef, Mx.mSeq, Mx.mAsg, Mx.mRet, Mx.mDrop, Mx.mIfS, Mx.mNx, Mx.mAndV, Mx.mOrV, Mx.mNotV, Mx.mIf, Mx.mB, Mx.mAnd, Mx.mOr, Mx.mNot, Mx.mNil, Mx.mCons, Mx.mCB, Mx.mCall, Mx.m1, Mx.m2, Mx.mC, Mx.mVar, Mx.mChain, Mx.mTup, Mx.mLst, Mx.mPar, Mx.mPar3, Mx.gmName, Mx.gmTup, Mx.gmCons, Mx.gmNil, Mx.mFld, Mx.bind_ok, Mx.bind_fail, Mx.bind_exc, Mx.noX_ok, Mx.thenS_nx, Mx.thenS_rt, Mx.asB_bl, Mx.ofO_some, Mx.ofO_none, Mx.flow_nx, List.map_cons, List.map_nil, List.cons_append, List.nil_append, List.append_nil, List.getElem?_cons_zero, List.getElem?_cons_succ, List.set_cons_zero, List.set_cons_succ, List.replicate_succ, List.replicate_zero, List.length_cons, List.length_nil, Nat.zero_add, Nat.reduceAdd, if_true, if_false, reduceIte, reduceCtorEq, Bool.not_true, Bool.not_false, Bool.false_eq_true, Mx.fI2, Mx.fU, Option.map_some, Option.map_none, Nat.reduceEqDiff, Mx.isi_int, Mx.isi_int2, Mx.isi_tup, Mx.len_tup, decide_true, decide_false, isi_strs, eq_str, b1, b2, b3, b4, mMeth, hd, lk0, and_self, e2]
end
end Mx

/-! ### MkM9 -/
set_option Elab.async false
set_option linter.all false
set_option maxRecDepth 100000
set_option maxHeartbeats 1000000
namespace Mx
open PySem PySem.Spec PyProof.Rows L2
section
variable {q : Qn} {r : Rd} {n c d : Nat} {b : Bool} {st : Sto} {ts : List Int} {E : Xc → Sto → Prop}
/-- [g(x) for x in ..] -/
theorem lc_vals {L : List A} {f : Itm} {mg : GM} {me : EM} {wenv : Ev} {ys : List A} (hy : ys.length = L.length) (hL : L.length ≤ 1000) (hf : ∀ i s, st <+: s → f i s = ofL L i s)
    (step : ∀ (i : Nat) (a : A) (y : A) (s : Sto), L[i]? = some a → ys[i]? = some y → st <+: s → ∃ e, mg a wenv s = .ok (e, s) ∧ (me e s).holds (fun z => z.1 = y ∧ s <+: z.2) Fls) :
    (lcG f mg (fun _ st => .ok (true, st)) me wenv st.length fuel 0 (st ++ [.lst []])).holds (fun r => r.1 = .ref st.length ∧ st <+: r.2 ∧ r.2[st.length]? = some (.lst ys)) E := by
  refine holds_mono (fun y hy2 => ?_) (fun _ _ z => z) (lc_run (fun i acc => acc = ys.take i) (by omega) hf rfl (fun i a s acc ha p hP => ?_))
  · obtain ⟨acc, h1, h2, h3, h4, h5⟩ := hy2
    rw [← hy, List.take_length] at h5
    exact ⟨h1, h2, by rw [h3, h5]⟩
  · have hi := (List.getElem?_eq_some_iff.mp ha).1
    have hi2 : i < ys.length := by omega
    obtain ⟨e, e1, e2⟩ := step i a ys[i] s ha (List.getElem?_eq_getElem hi2) p
    rw [e1]
    refine ⟨rfl, List.prefix_refl _, ?_⟩
    rw [if_pos rfl]
    dsimp only
    refine holds_mono (fun z hz => ⟨hz.2, ?_⟩) (fun _ _ z => z) e2
    rw [hP, hz.1, List.take_succ_eq_append_getElem hi2]
/-- [i for i in range(m) if g(i)] -/
theorem lc_flt {m : Nat} {f : Itm} {mg : GM} {mt : BM} {me : EM} {wenv : Ev} {g : Nat → Bool} (hL : m ≤ 1000) (hf : f = itRng 0 m)
    (step : ∀ (i : Nat) (s : Sto), i < m → st <+: s → ∃ e, mg (.int (i : Nat)) wenv s = .ok (e, s) ∧ (mt e s).holds (fun z => z.1 = g i ∧ s <+: z.2 ∧ me e z.2 = .ok (.int (i : Nat), z.2)) Fls) :
    (lcG f mg mt me wenv st.length fuel 0 (st ++ [.lst []])).holds (fun r => r.1 = .ref st.length ∧ st <+: r.2 ∧ r.2[st.length]? = some (.lst (aL ((List.range m).filter g)))) E := by
  subst hf
  rw [itRng_eq]
  refine holds_mono (fun y hy2 => ?_) (fun _ _ z => z) (lc_run (L := (List.range m).map fun i => A.int (i : Nat)) (fun i acc => acc = aL ((List.range i).filter g)) (by simp; omega) (fun i s p => rfl) rfl (fun i a s acc ha p hP => ?_))
  · obtain ⟨acc, h1, h2, h3, h4, h5⟩ := hy2
    rw [List.length_map, List.length_range] at h5
    exact ⟨h1, h2, by rw [h3, h5]⟩
  · obtain ⟨x, hx, _, rfl⟩ := get_map ha
    have hi := (List.getElem?_eq_some_iff.mp hx).1
    rw [List.length_range] at hi
    rw [List.getElem?_range hi] at hx
    cases hx
    obtain ⟨e, e1, e2⟩ := step i s hi p
    rw [e1]
    refine ⟨rfl, holds_mono (fun z hz => ⟨hz.2.1, ?_⟩) (fun _ _ z => z) e2⟩
    rw [hz.1, hP, List.range_succ, List.filter_append]
    cases hg : g i with
    | true =>
      rw [if_pos rfl, hz.2.2]
      refine ⟨hz.2.1, ?_⟩
      have : [i].filter g = [i] := by simp [List.filter_cons, hg]
      rw [this, aL_append]
      rfl
    | false =>
      rw [if_neg (by decide)]
      have : [i].filter g = [] := by simp [List.filter_cons, hg]
      rw [this, List.append_nil]
/-! ### _law_alike -/
theorem toP_nil {s : Sto} {k m : Nat} (h : s[k]? = some (.lst [])) : toP s (m + 1) (.ref k) = some (.list []) := by
  unfold toP
  rw [h]
  simp [toPs]
theorem eq_nil {s : Sto} {k k2 : Nat} (h : s[k]? = some (.lst [])) (h2 : s[k2]? = some (.lst [])) : fEq (.ref k) (.ref k2) s = some (.bl true, s) := by
  have e : eqA (.ref k) (.ref k2) s = some true := by
    show eqDeep (.ref k) (.ref k2) s = _
    unfold eqDeep
    rw [toP_nil h, toP_nil h2]
    decide +kernel
  unfold fEq
  rw [e]
  rfl
theorem eq_bl {x y : Bool} {s : Sto} : fEq (.bl x) (.bl y) s = some (.bl (decide (x = y)), s) := id rfl
theorem ne_bl {x y : Bool} {s : Sto} : fNe (.bl x) (.bl y) s = some (.bl (!decide (x = y)), s) := id rfl
def AlOk (m : Nat) (x y : A) (st : Sto) : Prop := ∀ s, st <+: s → (f__law_alike m [x, y] s).holds (fun z => z.1 = .bl true ∧ s <+: z.2) Fls
theorem al_int {m : Nat} {i : Int} : AlOk (m + 1) (.int i) (.int i) st := fun s p => by
  have e1 : fIsi [.int i, .ty "str"] s = some (.bl false, s) := rfl
  unfold f__law_alike m__law_alike
  simp only [Mx.mDef, Mx.mSeq, Mx.mAsg, Mx.mRet, Mx.mDrop, Mx.mIfS, Mx.mNx, Mx.mAndV, Mx.mOrV, Mx.mNotV, Mx.mIf, Mx.mB, Mx.mAnd, Mx.mOr, Mx.mNot, Mx.mNil, Mx.mCons, Mx.mCB, Mx.mCall, Mx.m1, Mx.m2, Mx.mC, Mx.mVar, Mx.mChain, Mx.mTup, Mx.mLst, Mx.mPar, Mx.mPar3, Mx.gmName, Mx.gmTup, Mx.gmCons, Mx.gmNil, Mx.mFld, Mx.bind_ok, Mx.bind_fail, Mx.bind_exc, Mx.noX_ok, Mx.thenS_nx, Mx.thenS_rt, Mx.asB_bl, Mx.ofO_some, Mx.ofO_none, Mx.flow_nx, List.map_cons, List.map_nil, List.cons_append, List.nil_append, List.append_nil, List.getElem?_cons_zero, List.getElem?_cons_succ, List.set_cons_zero, List.set_cons_succ, List.replicate_succ, List.replicate_zero, List.length_cons, List.length_nil, Nat.zero_add, Nat.reduceAdd, if_true, if_false, reduceIte, reduceCtorEq, Bool.not_true, Bool.not_false, Bool.false_eq_true, Mx.fI2, Mx.fU, Option.map_some, Option.map_none, Nat.reduceEqDiff, Mx.isi_int, Mx.isi_int2, Mx.isi_tup, Mx.len_tup, decide_true, decide_false, Mx.holds_bind_iff, Mx.holds_ok, Mx.holds_exc, mIsTL, okIs, toD, Mk.isTup, Mk.isLst, Bool.or_self, fIsN, isNon, e1, eq_bl, eq_int]
  exact ⟨trivial, List.prefix_refl _⟩
theorem al_non {m : Nat} : AlOk (m + 1) .non .non st := fun s p => by
  have e1 : fIsi [.non, .ty "str"] s = some (.bl false, s) := rfl
  have e2 : fEq .non .non s = some (.bl true, s) := rfl
  unfold f__law_alike m__law_alike
  simp only [Mx.mDef, Mx.mSeq, Mx.mAsg, Mx.mRet, Mx.mDrop, Mx.mIfS, Mx.mNx, Mx.mAndV, Mx.mOrV, Mx.mNotV, Mx.mIf, Mx.mB, Mx.mAnd, Mx.mOr, Mx.mNot, Mx.mNil, Mx.mCons, Mx.mCB, Mx.mCall, Mx.m1, Mx.m2, Mx.mC, Mx.mVar, Mx.mChain, Mx.mTup, Mx.mLst, Mx.mPar, Mx.mPar3, Mx.gmName, Mx.gmTup, Mx.gmCons, Mx.gmNil, Mx.mFld, Mx.bind_ok, Mx.bind_fail, Mx.bind_exc, Mx.noX_ok, Mx.thenS_nx, Mx.thenS_rt, Mx.asB_bl, Mx.ofO_some, Mx.ofO_none, Mx.flow_nx, List.map_cons, List.map_nil, List.cons_append, List.nil_append, List.append_nil, List.getElem?_cons_zero, List.getElem?_cons_succ, List.set_cons_zero, List.set_cons_succ, List.replicate_succ, List.replicate_zero, List.length_cons, List.length_nil, Nat.zero_add, Nat.reduceAdd, if_true, if_false, reduceIte, reduceCtorEq, Bool.not_true, Bool.not_false, Bool.false_eq_true, Mx.fI2, Mx.fU, Option.map_some, Option.map_none, Nat.reduceEqDiff, Mx.isi_int, Mx.isi_int2, Mx.isi_tup, Mx.len_tup, decide_true, decide_false, Mx.holds_bind_iff, Mx.holds_ok, Mx.holds_exc, mIsTL, okIs, toD, Mk.isTup, Mk.isLst, Bool.or_self, fIsN, isNon, e1, e2, eq_bl, eq_int]
  exact ⟨trivial, List.prefix_refl _⟩
/-- sequences of one kind, item by item -/
theorem al_seq {m N : Nat} {a b : A} {v : Bool} {x y : Nat → A} (hN : N ≤ 1000) (ok : ∀ s, st <+: s → okIs a s = true ∧ okIs b s = true) (ta : (Mk.isTup (toD a) || Mk.isLst (toD a)) = true) (tb : (Mk.isTup (toD b) || Mk.isLst (toD b)) = true)
    (i1 : ∀ s, st <+: s → fIsi [a, .ty "list"] s = some (.bl v, s)) (i2 : ∀ s, st <+: s → fIsi [b, .ty "list"] s = some (.bl v, s)) (l1 : ∀ s, st <+: s → fLen [a] s = some (.int N, s)) (l2 : ∀ s, st <+: s → fLen [b] s = some (.int N, s))
    (x1 : ∀ i s, i < N → st <+: s → fIx a (.int (i : Nat)) s = some (x i, s)) (x2 : ∀ i s, i < N → st <+: s → fIx b (.int (i : Nat)) s = some (y i, s)) (h : ∀ i, i < N → AlOk m (x i) (y i) st) : AlOk (m + 1) a b st := fun s p => by
  have hr : (-(2 ^ 62 : Int) ≤ (N : Int) ∧ (N : Int) < 2 ^ 62) = True := eq_true ⟨by omega, by omega⟩
  unfold f__law_alike m__law_alike
  simp only [Mx.mDef, Mx.mSeq, Mx.mAsg, Mx.mRet, Mx.mDrop, Mx.mIfS, Mx.mNx, Mx.mAndV, Mx.mOrV, Mx.mNotV, Mx.mIf, Mx.mB, Mx.mAnd, Mx.mOr, Mx.mNot, Mx.mNil, Mx.mCons, Mx.mCB, Mx.mCall, Mx.m1, Mx.m2, Mx.mC, Mx.mVar, Mx.mChain, Mx.mTup, Mx.mLst, Mx.mPar, Mx.mPar3, Mx.gmName, Mx.gmTup, Mx.gmCons, Mx.gmNil, Mx.mFld, Mx.bind_ok, Mx.bind_fail, Mx.bind_exc, Mx.noX_ok, Mx.thenS_nx, Mx.thenS_rt, Mx.asB_bl, Mx.ofO_some, Mx.ofO_none, Mx.flow_nx, List.map_cons, List.map_nil, List.cons_append, List.nil_append, List.append_nil, List.getElem?_cons_zero, List.getElem?_cons_succ, List.set_cons_zero, List.set_cons_succ, List.replicate_succ, List.replicate_zero, List.length_cons, List.length_nil, Nat.zero_add, Nat.reduceAdd, if_true, if_false, reduceIte, reduceCtorEq, Bool.not_true, Bool.not_false, Bool.false_eq_true, Mx.fI2, Mx.fU, Option.map_some, Option.map_none, Nat.reduceEqDiff, Mx.isi_int, Mx.isi_int2, Mx.isi_tup, Mx.len_tup, decide_true, decide_false, Mx.holds_bind_iff, Mx.holds_ok, Mx.holds_exc, mIsTL, ok s p, ta, tb, i1 s p, i2 s p, ne_bl, l1 s p, l2 s p, ne_int, mLc, miRng1, hr, Int.toNat_natCast]
  refine holds_mono (fun z hz => ?_) (fun _ _ z => z) (lc_flt (g := fun _ => false) hN rfl (fun i s2 hi p2 => ⟨_, rfl, ?_⟩))
  · obtain ⟨w, s2⟩ := z
    obtain ⟨h1, h2, h3⟩ := hz
    dsimp only at h1 h2 h3
    subst h1
    have e0 : ((List.range N).filter fun _ => false) = [] := by simp
    rw [e0] at h3
    have e := eq_nil (s := s2 ++ [.lst []]) (k := s.length) (k2 := s2.length) (pre_get (List.prefix_append _ _) h3) get_new
    simp only [Mx.mDef, Mx.mSeq, Mx.mAsg, Mx.mRet, Mx.mDrop, Mx.mIfS, Mx.mNx, Mx.mAndV, Mx.mOrV, Mx.mNotV, Mx.mIf, Mx.mB, Mx.mAnd, Mx.mOr, Mx.mNot, Mx.mNil, Mx.mCons, Mx.mCB, Mx.mCall, Mx.m1, Mx.m2, Mx.mC, Mx.mVar, Mx.mChain, Mx.mTup, Mx.mLst, Mx.mPar, Mx.mPar3, Mx.gmName, Mx.gmTup, Mx.gmCons, Mx.gmNil, Mx.mFld, Mx.bind_ok, Mx.bind_fail, Mx.bind_exc, Mx.noX_ok, Mx.thenS_nx, Mx.thenS_rt, Mx.asB_bl, Mx.ofO_some, Mx.ofO_none, Mx.flow_nx, List.map_cons, List.map_nil, List.cons_append, List.nil_append, List.append_nil, List.getElem?_cons_zero, List.getElem?_cons_succ, List.set_cons_zero, List.set_cons_succ, List.replicate_succ, List.replicate_zero, List.length_cons, List.length_nil, Nat.zero_add, Nat.reduceAdd, if_true, if_false, reduceIte, reduceCtorEq, Bool.not_true, Bool.not_false, Bool.false_eq_true, Mx.fI2, Mx.fU, Option.map_some, Option.map_none, Nat.reduceEqDiff, Mx.isi_int, Mx.isi_int2, Mx.isi_tup, Mx.len_tup, decide_true, decide_false, Mx.holds_bind_iff, Mx.holds_ok, Mx.holds_exc, show ((0 : Nat) ≤ sizeLine) = True by simp, e]
    exact ⟨trivial, pre_new h2⟩
  · have p3 := p.trans p2
    simp only [Mx.mDef, Mx.mSeq, Mx.mAsg, Mx.mRet, Mx.mDrop, Mx.mIfS, Mx.mNx, Mx.mAndV, Mx.mOrV, Mx.mNotV, Mx.mIf, Mx.mB, Mx.mAnd, Mx.mOr, Mx.mNot, Mx.mNil, Mx.mCons, Mx.mCB, Mx.mCall, Mx.m1, Mx.m2, Mx.mC, Mx.mVar, Mx.mChain, Mx.mTup, Mx.mLst, Mx.mPar, Mx.mPar3, Mx.gmName, Mx.gmTup, Mx.gmCons, Mx.gmNil, Mx.mFld, Mx.bind_ok, Mx.bind_fail, Mx.bind_exc, Mx.noX_ok, Mx.thenS_nx, Mx.thenS_rt, Mx.asB_bl, Mx.ofO_some, Mx.ofO_none, Mx.flow_nx, List.map_cons, List.map_nil, List.cons_append, List.nil_append, List.append_nil, List.getElem?_cons_zero, List.getElem?_cons_succ, List.set_cons_zero, List.set_cons_succ, List.replicate_succ, List.replicate_zero, List.length_cons, List.length_nil, Nat.zero_add, Nat.reduceAdd, if_true, if_false, reduceIte, reduceCtorEq, Bool.not_true, Bool.not_false, Bool.false_eq_true, Mx.fI2, Mx.fU, Option.map_some, Option.map_none, Nat.reduceEqDiff, Mx.isi_int, Mx.isi_int2, Mx.isi_tup, Mx.len_tup, decide_true, decide_false, Mx.holds_bind_iff, Mx.holds_ok, Mx.holds_exc, wipeE, x1 i s2 hi p3, x2 i s2 hi p3]
    refine holds_mono (fun z hz => ?_) (fun _ _ z => z) (h i hi s2 p3)
    obtain ⟨w, s3⟩ := z
    obtain ⟨h1, h2⟩ := hz
    dsimp only at h1 h2
    subst h1
    simp only [Mx.mDef, Mx.mSeq, Mx.mAsg, Mx.mRet, Mx.mDrop, Mx.mIfS, Mx.mNx, Mx.mAndV, Mx.mOrV, Mx.mNotV, Mx.mIf, Mx.mB, Mx.mAnd, Mx.mOr, Mx.mNot, Mx.mNil, Mx.mCons, Mx.mCB, Mx.mCall, Mx.m1, Mx.m2, Mx.mC, Mx.mVar, Mx.mChain, Mx.mTup, Mx.mLst, Mx.mPar, Mx.mPar3, Mx.gmName, Mx.gmTup, Mx.gmCons, Mx.gmNil, Mx.mFld, Mx.bind_ok, Mx.bind_fail, Mx.bind_exc, Mx.noX_ok, Mx.thenS_nx, Mx.thenS_rt, Mx.asB_bl, Mx.ofO_some, Mx.ofO_none, Mx.flow_nx, List.map_cons, List.map_nil, List.cons_append, List.nil_append, List.append_nil, List.getElem?_cons_zero, List.getElem?_cons_succ, List.set_cons_zero, List.set_cons_succ, List.replicate_succ, List.replicate_zero, List.length_cons, List.length_nil, Nat.zero_add, Nat.reduceAdd, if_true, if_false, reduceIte, reduceCtorEq, Bool.not_true, Bool.not_false, Bool.false_eq_true, Mx.fI2, Mx.fU, Option.map_some, Option.map_none, Nat.reduceEqDiff, Mx.isi_int, Mx.isi_int2, Mx.isi_tup, Mx.len_tup, decide_true, decide_false, Mx.holds_bind_iff, Mx.holds_ok, Mx.holds_exc]
    exact ⟨trivial, h2, trivial⟩
theorem al_ints {m : Nat} {l : List A} (hl : l.length ≤ 1000) (h : ∀ a ∈ l, ∃ i, a = A.int i) : AlOk (m + 2) (.tup l) (.tup l) st :=
  al_seq (N := l.length) (v := false) (x := fun i => l.getD i .non) (y := fun i => l.getD i .non) hl (fun _ _ => ⟨rfl, rfl⟩) rfl rfl (fun _ _ => rfl) (fun _ _ => rfl) (fun _ _ => rfl) (fun _ _ => rfl)
    (fun i s hi _ => ix_tup (by rw [List.getD_eq_getElem?_getD, List.getElem?_eq_getElem hi]; rfl)) (fun i s hi _ => ix_tup (by rw [List.getD_eq_getElem?_getD, List.getElem?_eq_getElem hi]; rfl))
    (fun i hi => by
      obtain ⟨z, e⟩ := h _ (getD_mem (d := A.non) hi)
      rw [e]
      exact al_int)
theorem al_lst {m k k2 : Nat} {l : List A} (hl : l.length ≤ 1000) (h1 : st[k]? = some (.lst l)) (h2 : st[k2]? = some (.lst l)) (h : ∀ a ∈ l, AlOk m a a st) : AlOk (m + 1) (.ref k) (.ref k2) st := by
  have g1 : ∀ s, st <+: s → s[k]? = some (.lst l) := fun s p => pre_get p h1
  have g2 : ∀ s, st <+: s → s[k2]? = some (.lst l) := fun s p => pre_get p h2
  have o : ∀ {j : Nat} {s : Sto}, s[j]? = some (.lst l) → okIs (.ref j) s = true := fun {j s} e => by
    unfold okIs
    dsimp only
    rw [e]
  have i : ∀ {j : Nat} {s : Sto}, s[j]? = some (.lst l) → fIsi [.ref j, .ty "list"] s = some (.bl true, s) := fun {j s} e => by
    show (isiA (.ref j) s "list").map _ = _
    unfold isiA
    rw [if_pos (o e)]
    rfl
  refine al_seq (N := l.length) (v := true) (x := fun i => l.getD i .non) (y := fun i => l.getD i .non) hl (fun s p => ⟨o (g1 s p), o (g2 s p)⟩) rfl rfl (fun s p => i (g1 s p)) (fun s p => i (g2 s p)) (fun s p => len_ref (g1 s p)) (fun s p => len_ref (g2 s p))
    (fun i s hi p => ix_lst (g1 s p) (by rw [List.getD_eq_getElem?_getD, List.getElem?_eq_getElem hi]; rfl)) (fun i s hi p => ix_lst (g2 s p) (by rw [List.getD_eq_getElem?_getD, List.getElem?_eq_getElem hi]; rfl)) (fun i hi => h _ (getD_mem (d := A.non) hi))
theorem AlOk.pre {m : Nat} {x y : A} {s : Sto} (h : AlOk m x y st) (p : st <+: s) : AlOk m x y s := fun s2 p2 => h s2 (p.trans p2)
end
end Mx

/-! ### MkMA -/
set_option Elab.async false
set_option linter.all false
set_option maxRecDepth 100000
set_option maxHeartbeats 1000000
namespace Mx
open PySem PySem.Spec PyProof.Rows L2
section
variable {q : Qn} {r : Rd} {n c d : Nat} {b : Bool} {st : Sto} {ts : List Int} {E : Xc → Sto → Prop}
def dues (q : Qn) (ts : List Int) : List Nat := (pths ts).map fun w => q.due (led q 0 w)
theorem dues_len : (dues q ts).length = (pths ts).length := List.length_map ..
theorem wrg_dues : (List.range (dues q ts).length).filter (fun k => !decide (((dues q ts).getD k 0 : Int) = ((fnd r c ts).getD k 0 : Nat))) = wrg (erd q r c ts) := by
  unfold wrg
  rw [erd_len, dues_len]
  refine List.filter_congr fun k hk => ?_
  have hk := List.mem_range.mp hk
  have hk2 : k < (fnd r c ts).length := by rw [fnd_len]; exact hk
  unfold erd dues
  rw [List.getD_eq_getElem?_getD, List.getD_eq_getElem?_getD, List.getD_eq_getElem?_getD, List.getElem?_map, List.getElem?_zipWith, List.getElem?_eq_getElem hk, List.getElem?_eq_getElem hk2]
  show (!decide (((q.due (led q 0 (pths ts)[k]) : Nat) : Int) = ((fnd r c ts)[k] : Nat))) = decide ((fnd r c ts)[k] ≠ q.due (led q 0 (pths ts)[k]))
  rw [ne_cast]
  exact decide_eq_decide.mpr ⟨fun z => Ne.symm z, fun z => Ne.symm z⟩
theorem ix_aL {l : List Nat} {k i : Nat} {s : Sto} (h : s[k]? = some (.lst (aL l))) (hi : i < l.length) : fIx (.ref k) (.int (i : Nat)) s = some (.int (l.getD i 0 : Nat), s) := by
  refine ix_lst h ?_
  unfold aL
  rw [List.getElem?_map, List.getD_eq_getElem?_getD, List.getElem?_eq_getElem hi]
  rfl
theorem tup_ref {l : List A} {k : Nat} {s : Sto} (h : s[k]? = some (.lst l)) : fTuple [.ref k] s = some (.tup l, s) := by
  unfold fTuple
  dsimp only
  rw [h]
theorem stands_h (hq : QOk q n) (hr : ROk r n (ways n b)) (g : Gd n ts) (hl : ts.length ≤ 900) (h : DSt st d q b r (ways n b) ts) :
    (f__law_stands [.ref d, aQ q, aR r, aT ts] st).holds (fun y => y.1 = .bl true ∧ st <+: y.2) E := by
  have w : CW n (ways n b) := cw_ways hq.n1
  have hm2 := hr.m2
  have l1 := pths_len (ts := ts)
  have l2 := nms_len (ts := ts)
  have hrs : rst r (ways n b) ts ≤ 1000 := by have := rst_lt hr w g; omega
  have hT := gd_tg hq.n2 g
  have s0 : ((0 : Nat) ≤ sizeLine) = True := by simp
  have s1 : ((1 : Nat) ≤ sizeLine) = True := by rw [sizeLine_eq]; simp
  have s3 : ((3 : Nat) ≤ sizeLine) = True := by rw [sizeLine_eq]; simp
  unfold f__law_stands m__law_stands
  simp only [Mx.mDef, Mx.mSeq, Mx.mAsg, Mx.mRet, Mx.mDrop, Mx.mIfS, Mx.mNx, Mx.mAndV, Mx.mOrV, Mx.mNotV, Mx.mIf, Mx.mB, Mx.mAnd, Mx.mOr, Mx.mNot, Mx.mNil, Mx.mCons, Mx.mCB, Mx.mCall, Mx.m1, Mx.m2, Mx.mC, Mx.mVar, Mx.mChain, Mx.mTup, Mx.mLst, Mx.mPar, Mx.mPar3, Mx.gmName, Mx.gmTup, Mx.gmCons, Mx.gmNil, Mx.mFld, Mx.bind_ok, Mx.bind_fail, Mx.bind_exc, Mx.noX_ok, Mx.thenS_nx, Mx.thenS_rt, Mx.asB_bl, Mx.ofO_some, Mx.ofO_none, Mx.flow_nx, List.map_cons, List.map_nil, List.cons_append, List.nil_append, List.append_nil, List.getElem?_cons_zero, List.getElem?_cons_succ, List.set_cons_zero, List.set_cons_succ, List.replicate_succ, List.replicate_zero, List.length_cons, List.length_nil, Nat.zero_add, Nat.reduceAdd, if_true, if_false, reduceIte, reduceCtorEq, Bool.not_true, Bool.not_false, Bool.false_eq_true, Mx.fI2, Mx.fU, Option.map_some, Option.map_none, Nat.reduceEqDiff, Mx.isi_int, Mx.isi_int2, Mx.isi_tup, Mx.len_tup, decide_true, decide_false, Mx.holds_bind_iff, Mx.holds_ok, Mx.holds_exc]
  refine holds_mono (fun y hy => ?_) (fun _ _ z => z) (read_h hr w g (by omega))
  subst hy
  generalize hst1 : st ++ [.lst (aL (nms ts)), .lst (aL (fnd r (ways n b) ts))] = st1
  have p1 : st <+: st1 := hst1 ▸ List.prefix_append _ _
  have f1 : st1[st.length + 1]? = some (.lst (aL (fnd r (ways n b) ts))) := hst1 ▸ get_new1
  simp only [Mx.mDef, Mx.mSeq, Mx.mAsg, Mx.mRet, Mx.mDrop, Mx.mIfS, Mx.mNx, Mx.mAndV, Mx.mOrV, Mx.mNotV, Mx.mIf, Mx.mB, Mx.mAnd, Mx.mOr, Mx.mNot, Mx.mNil, Mx.mCons, Mx.mCB, Mx.mCall, Mx.m1, Mx.m2, Mx.mC, Mx.mVar, Mx.mChain, Mx.mTup, Mx.mLst, Mx.mPar, Mx.mPar3, Mx.gmName, Mx.gmTup, Mx.gmCons, Mx.gmNil, Mx.mFld, Mx.bind_ok, Mx.bind_fail, Mx.bind_exc, Mx.noX_ok, Mx.thenS_nx, Mx.thenS_rt, Mx.asB_bl, Mx.ofO_some, Mx.ofO_none, Mx.flow_nx, List.map_cons, List.map_nil, List.cons_append, List.nil_append, List.append_nil, List.getElem?_cons_zero, List.getElem?_cons_succ, List.set_cons_zero, List.set_cons_succ, List.replicate_succ, List.replicate_zero, List.length_cons, List.length_nil, Nat.zero_add, Nat.reduceAdd, if_true, if_false, reduceIte, reduceCtorEq, Bool.not_true, Bool.not_false, Bool.false_eq_true, Mx.fI2, Mx.fU, Option.map_some, Option.map_none, Nat.reduceEqDiff, Mx.isi_int, Mx.isi_int2, Mx.isi_tup, Mx.len_tup, decide_true, decide_false, Mx.holds_bind_iff, Mx.holds_ok, Mx.holds_exc, mLc, miLst]
  refine holds_mono (fun y hy => ?_) (fun _ _ z => z) (paths_h g (by omega))
  obtain ⟨y, st2⟩ := y
  obtain ⟨p2, k, h1, h2⟩ := hy
  dsimp only at p2 h1 h2
  subst h1
  have e0 : fIx (.tup [.ref k, aN (nms ts)]) (.int 0) st2 = some (.ref k, st2) := rfl
  simp only [Mx.mDef, Mx.mSeq, Mx.mAsg, Mx.mRet, Mx.mDrop, Mx.mIfS, Mx.mNx, Mx.mAndV, Mx.mOrV, Mx.mNotV, Mx.mIf, Mx.mB, Mx.mAnd, Mx.mOr, Mx.mNot, Mx.mNil, Mx.mCons, Mx.mCB, Mx.mCall, Mx.m1, Mx.m2, Mx.mC, Mx.mVar, Mx.mChain, Mx.mTup, Mx.mLst, Mx.mPar, Mx.mPar3, Mx.gmName, Mx.gmTup, Mx.gmCons, Mx.gmNil, Mx.mFld, Mx.bind_ok, Mx.bind_fail, Mx.bind_exc, Mx.noX_ok, Mx.thenS_nx, Mx.thenS_rt, Mx.asB_bl, Mx.ofO_some, Mx.ofO_none, Mx.flow_nx, List.map_cons, List.map_nil, List.cons_append, List.nil_append, List.append_nil, List.getElem?_cons_zero, List.getElem?_cons_succ, List.set_cons_zero, List.set_cons_succ, List.replicate_succ, List.replicate_zero, List.length_cons, List.length_nil, Nat.zero_add, Nat.reduceAdd, if_true, if_false, reduceIte, reduceCtorEq, Bool.not_true, Bool.not_false, Bool.false_eq_true, Mx.fI2, Mx.fU, Option.map_some, Option.map_none, Nat.reduceEqDiff, Mx.isi_int, Mx.isi_int2, Mx.isi_tup, Mx.len_tup, decide_true, decide_false, Mx.holds_bind_iff, Mx.holds_ok, Mx.holds_exc, e0, h2]
  refine holds_mono (fun y hy => ?_) (fun _ _ z => z) (lc_vals (ys := aL (dues q ts)) (L := (pths ts).map aN) (by rw [aL_len, dues_len, List.length_map]) (by rw [List.length_map]; omega) (fun i s p => itLst_eq h2 p) (fun i a y s ha hy p => ⟨_, rfl, ?_⟩))
  rotate_left
  · obtain ⟨x, hx, hm, rfl⟩ := get_map ha
    unfold aL dues at hy
    rw [List.getElem?_map, List.getElem?_map, hx] at hy
    cases hy
    have hlen : x.length ≤ 1000 := by
      have : ∀ {ts : List Int}, ∀ w ∈ pths ts, w.length ≤ ts.length := fun {ts} => by
        induction ts with
        | nil => intro w hw; cases hw
        | cons t ts ih =>
          intro w hw
          have l9 := nms_len (ts := t :: ts)
          by_cases ht : t < 0
          · rw [pths_neg ht] at hw
            exact Nat.le_succ_of_le (ih w hw)
          · rw [pths_pos ht] at hw
            rcases List.mem_append.mp hw with hw | hw
            · exact Nat.le_succ_of_le (ih w hw)
            · rw [List.mem_singleton.mp hw]
              exact l9
      have := this x hm
      omega
    simp only [Mx.mDef, Mx.mSeq, Mx.mAsg, Mx.mRet, Mx.mDrop, Mx.mIfS, Mx.mNx, Mx.mAndV, Mx.mOrV, Mx.mNotV, Mx.mIf, Mx.mB, Mx.mAnd, Mx.mOr, Mx.mNot, Mx.mNil, Mx.mCons, Mx.mCB, Mx.mCall, Mx.m1, Mx.m2, Mx.mC, Mx.mVar, Mx.mChain, Mx.mTup, Mx.mLst, Mx.mPar, Mx.mPar3, Mx.gmName, Mx.gmTup, Mx.gmCons, Mx.gmNil, Mx.mFld, Mx.bind_ok, Mx.bind_fail, Mx.bind_exc, Mx.noX_ok, Mx.thenS_nx, Mx.thenS_rt, Mx.asB_bl, Mx.ofO_some, Mx.ofO_none, Mx.flow_nx, List.map_cons, List.map_nil, List.cons_append, List.nil_append, List.append_nil, List.getElem?_cons_zero, List.getElem?_cons_succ, List.set_cons_zero, List.set_cons_succ, List.replicate_succ, List.replicate_zero, List.length_cons, List.length_nil, Nat.zero_add, Nat.reduceAdd, if_true, if_false, reduceIte, reduceCtorEq, Bool.not_true, Bool.not_false, Bool.false_eq_true, Mx.fI2, Mx.fU, Option.map_some, Option.map_none, Nat.reduceEqDiff, Mx.isi_int, Mx.isi_int2, Mx.isi_tup, Mx.len_tup, decide_true, decide_false, Mx.holds_bind_iff, Mx.holds_ok, Mx.holds_exc, wipeE]
    exact holds_mono (fun z hz => by subst hz; exact ⟨rfl, List.prefix_refl _⟩) (fun _ _ z => z) (ans_h (E := Fls) hq (pths_lt g x hm) hlen)
  · obtain ⟨y, st3⟩ := y
    obtain ⟨h3, p3, f3⟩ := hy
    dsimp only at h3 p3 f3
    subst h3
    have len3 := len_ref f3
    have hrg : (-(2 ^ 62 : Int) ≤ ((aL (dues q ts)).length : Int) ∧ ((aL (dues q ts)).length : Int) < 2 ^ 62) = True := eq_true ⟨by omega, by rw [aL_len, dues_len]; omega⟩
    have hto : ((aL (dues q ts)).length : Int).toNat = (dues q ts).length := by rw [aL_len]; rfl
    simp only [Mx.mDef, Mx.mSeq, Mx.mAsg, Mx.mRet, Mx.mDrop, Mx.mIfS, Mx.mNx, Mx.mAndV, Mx.mOrV, Mx.mNotV, Mx.mIf, Mx.mB, Mx.mAnd, Mx.mOr, Mx.mNot, Mx.mNil, Mx.mCons, Mx.mCB, Mx.mCall, Mx.m1, Mx.m2, Mx.mC, Mx.mVar, Mx.mChain, Mx.mTup, Mx.mLst, Mx.mPar, Mx.mPar3, Mx.gmName, Mx.gmTup, Mx.gmCons, Mx.gmNil, Mx.mFld, Mx.bind_ok, Mx.bind_fail, Mx.bind_exc, Mx.noX_ok, Mx.thenS_nx, Mx.thenS_rt, Mx.asB_bl, Mx.ofO_some, Mx.ofO_none, Mx.flow_nx, List.map_cons, List.map_nil, List.cons_append, List.nil_append, List.append_nil, List.getElem?_cons_zero, List.getElem?_cons_succ, List.set_cons_zero, List.set_cons_succ, List.replicate_succ, List.replicate_zero, List.length_cons, List.length_nil, Nat.zero_add, Nat.reduceAdd, if_true, if_false, reduceIte, reduceCtorEq, Bool.not_true, Bool.not_false, Bool.false_eq_true, Mx.fI2, Mx.fU, Option.map_some, Option.map_none, Nat.reduceEqDiff, Mx.isi_int, Mx.isi_int2, Mx.isi_tup, Mx.len_tup, decide_true, decide_false, Mx.holds_bind_iff, Mx.holds_ok, Mx.holds_exc, len3, miRng1, hrg, hto]
    refine holds_mono (fun y hy => ?_) (fun _ _ z => z) (lc_flt (g := fun k => !decide (((dues q ts).getD k 0 : Int) = ((fnd r (ways n b) ts).getD k 0 : Nat))) (by rw [dues_len]; omega) rfl (fun i s hi p => ⟨_, rfl, ?_⟩))
    rotate_left
    · have ea := ix_aL (pre_get p f3) hi
      have eb := ix_aL (i := i) (pre_get (p2.trans (p3.trans p)) f1) (by rw [fnd_len, ← dues_len (q := q)]; exact hi)
      simp only [Mx.mDef, Mx.mSeq, Mx.mAsg, Mx.mRet, Mx.mDrop, Mx.mIfS, Mx.mNx, Mx.mAndV, Mx.mOrV, Mx.mNotV, Mx.mIf, Mx.mB, Mx.mAnd, Mx.mOr, Mx.mNot, Mx.mNil, Mx.mCons, Mx.mCB, Mx.mCall, Mx.m1, Mx.m2, Mx.mC, Mx.mVar, Mx.mChain, Mx.mTup, Mx.mLst, Mx.mPar, Mx.mPar3, Mx.gmName, Mx.gmTup, Mx.gmCons, Mx.gmNil, Mx.mFld, Mx.bind_ok, Mx.bind_fail, Mx.bind_exc, Mx.noX_ok, Mx.thenS_nx, Mx.thenS_rt, Mx.asB_bl, Mx.ofO_some, Mx.ofO_none, Mx.flow_nx, List.map_cons, List.map_nil, List.cons_append, List.nil_append, List.append_nil, List.getElem?_cons_zero, List.getElem?_cons_succ, List.set_cons_zero, List.set_cons_succ, List.replicate_succ, List.replicate_zero, List.length_cons, List.length_nil, Nat.zero_add, Nat.reduceAdd, if_true, if_false, reduceIte, reduceCtorEq, Bool.not_true, Bool.not_false, Bool.false_eq_true, Mx.fI2, Mx.fU, Option.map_some, Option.map_none, Nat.reduceEqDiff, Mx.isi_int, Mx.isi_int2, Mx.isi_tup, Mx.len_tup, decide_true, decide_false, Mx.holds_bind_iff, Mx.holds_ok, Mx.holds_exc, wipeE, ea, eb, ne_int]
      exact ⟨trivial, List.prefix_refl _, trivial⟩
    · rw [wrg_dues] at hy
      obtain ⟨y, st4⟩ := y
      obtain ⟨h4, p4, f4⟩ := hy
      dsimp only at h4 p4 f4
      subst h4
      have pa4 : st <+: st4 := p1.trans (p2.trans (p3.trans p4))
      have D4 := h.pre pa4
      simp only [Mx.mDef, Mx.mSeq, Mx.mAsg, Mx.mRet, Mx.mDrop, Mx.mIfS, Mx.mNx, Mx.mAndV, Mx.mOrV, Mx.mNotV, Mx.mIf, Mx.mB, Mx.mAnd, Mx.mOr, Mx.mNot, Mx.mNil, Mx.mCons, Mx.mCB, Mx.mCall, Mx.m1, Mx.m2, Mx.mC, Mx.mVar, Mx.mChain, Mx.mTup, Mx.mLst, Mx.mPar, Mx.mPar3, Mx.gmName, Mx.gmTup, Mx.gmCons, Mx.gmNil, Mx.mFld, Mx.bind_ok, Mx.bind_fail, Mx.bind_exc, Mx.noX_ok, Mx.thenS_nx, Mx.thenS_rt, Mx.asB_bl, Mx.ofO_some, Mx.ofO_none, Mx.flow_nx, List.map_cons, List.map_nil, List.cons_append, List.nil_append, List.append_nil, List.getElem?_cons_zero, List.getElem?_cons_succ, List.set_cons_zero, List.set_cons_succ, List.replicate_succ, List.replicate_zero, List.length_cons, List.length_nil, Nat.zero_add, Nat.reduceAdd, if_true, if_false, reduceIte, reduceCtorEq, Bool.not_true, Bool.not_false, Bool.false_eq_true, Mx.fI2, Mx.fU, Option.map_some, Option.map_none, Nat.reduceEqDiff, Mx.isi_int, Mx.isi_int2, Mx.isi_tup, Mx.len_tup, decide_true, decide_false, Mx.holds_bind_iff, Mx.holds_ok, Mx.holds_exc, mProp, D4.o, row_t D4, state_t D4]
      refine noX_of (holds_mono (fun y hy => ?_) (fun _ _ z => z) (wrong_h (by omega) D4))
      obtain ⟨y, st5⟩ := y
      obtain ⟨h5, p5⟩ := hy
      dsimp only at h5 p5
      subst h5
      have f5 : (st5 ++ [Ob.lst [aT ts, .int (rst r (ways n b) ts : Nat), aN (wrg (erd q r (ways n b) ts))]])[st3.length]? = some (.lst (aL (wrg (erd q r (ways n b) ts)))) := pre_get (p5.trans (List.prefix_append _ _)) f4
      have et := tup_ref f5
      simp only [Mx.mDef, Mx.mSeq, Mx.mAsg, Mx.mRet, Mx.mDrop, Mx.mIfS, Mx.mNx, Mx.mAndV, Mx.mOrV, Mx.mNotV, Mx.mIf, Mx.mB, Mx.mAnd, Mx.mOr, Mx.mNot, Mx.mNil, Mx.mCons, Mx.mCB, Mx.mCall, Mx.m1, Mx.m2, Mx.mC, Mx.mVar, Mx.mChain, Mx.mTup, Mx.mLst, Mx.mPar, Mx.mPar3, Mx.gmName, Mx.gmTup, Mx.gmCons, Mx.gmNil, Mx.mFld, Mx.bind_ok, Mx.bind_fail, Mx.bind_exc, Mx.noX_ok, Mx.thenS_nx, Mx.thenS_rt, Mx.asB_bl, Mx.ofO_some, Mx.ofO_none, Mx.flow_nx, List.map_cons, List.map_nil, List.cons_append, List.nil_append, List.append_nil, List.getElem?_cons_zero, List.getElem?_cons_succ, List.set_cons_zero, List.set_cons_succ, List.replicate_succ, List.replicate_zero, List.length_cons, List.length_nil, Nat.zero_add, Nat.reduceAdd, if_true, if_false, reduceIte, reduceCtorEq, Bool.not_true, Bool.not_false, Bool.false_eq_true, Mx.fI2, Mx.fU, Option.map_some, Option.map_none, Nat.reduceEqDiff, Mx.isi_int, Mx.isi_int2, Mx.isi_tup, Mx.len_tup, decide_true, decide_false, Mx.holds_bind_iff, Mx.holds_ok, Mx.holds_exc, s3, et]
      generalize hL : [aT ts, .int (rst r (ways n b) ts : Nat), aN (wrg (erd q r (ways n b) ts))] = L at f5 et
      have hL2 : [aT ts, .int (rst r (ways n b) ts : Nat), A.tup (aL (wrg (erd q r (ways n b) ts)))] = L := hL
      rw [hL2]
      have wl := wrg_lt (bs := erd q r (ways n b) ts)
      rw [erd_len] at wl
      have al : AlOk 60 (.ref st5.length) (.ref (st5 ++ [Ob.lst L]).length) (st5 ++ [.lst L] ++ [.lst L]) := by
        refine al_lst (l := L) (by rw [← hL]; simp) (pre_get (List.prefix_append _ _) get_new) get_new fun a ha => ?_
        rw [← hL] at ha
        rcases List.mem_cons.mp ha with rfl | ha
        · exact al_ints (by rw [aI_len, List.length_reverse]; omega) (fun x hx => by obtain ⟨t, _, rfl⟩ := List.mem_map.mp hx; exact ⟨_, rfl⟩)
        rcases List.mem_cons.mp ha with rfl | ha
        · exact al_int
        rw [List.mem_singleton.mp ha]
        exact al_ints (by rw [List.length_map]; omega) (fun x hx => by obtain ⟨t, _, rfl⟩ := List.mem_map.mp hx; exact ⟨_, rfl⟩)
      refine holds_mono (fun y hy => ?_) (fun _ _ z => z.elim) (al _ (List.prefix_refl _))
      obtain ⟨y, st6⟩ := y
      obtain ⟨h6, p6⟩ := hy
      dsimp only at h6 p6
      subst h6
      have q6 : st4 <+: st6 := p5.trans ((List.prefix_append _ _).trans ((List.prefix_append _ _).trans p6))
      have pa6 := pa4.trans q6
      have D6' := h.pre pa6
      have lk := (lkp (d := d) (q := q) (b := b) (r := r)).2.2.2
      simp only [Mx.mDef, Mx.mSeq, Mx.mAsg, Mx.mRet, Mx.mDrop, Mx.mIfS, Mx.mNx, Mx.mAndV, Mx.mOrV, Mx.mNotV, Mx.mIf, Mx.mB, Mx.mAnd, Mx.mOr, Mx.mNot, Mx.mNil, Mx.mCons, Mx.mCB, Mx.mCall, Mx.m1, Mx.m2, Mx.mC, Mx.mVar, Mx.mChain, Mx.mTup, Mx.mLst, Mx.mPar, Mx.mPar3, Mx.gmName, Mx.gmTup, Mx.gmCons, Mx.gmNil, Mx.mFld, Mx.bind_ok, Mx.bind_fail, Mx.bind_exc, Mx.noX_ok, Mx.thenS_nx, Mx.thenS_rt, Mx.asB_bl, Mx.ofO_some, Mx.ofO_none, Mx.flow_nx, List.map_cons, List.map_nil, List.cons_append, List.nil_append, List.append_nil, List.getElem?_cons_zero, List.getElem?_cons_succ, List.set_cons_zero, List.set_cons_succ, List.replicate_succ, List.replicate_zero, List.length_cons, List.length_nil, Nat.zero_add, Nat.reduceAdd, if_true, if_false, reduceIte, reduceCtorEq, Bool.not_true, Bool.not_false, Bool.false_eq_true, Mx.fI2, Mx.fU, Option.map_some, Option.map_none, Nat.reduceEqDiff, Mx.isi_int, Mx.isi_int2, Mx.isi_tup, Mx.len_tup, decide_true, decide_false, Mx.holds_bind_iff, Mx.holds_ok, Mx.holds_exc, mMeth, D6'.o, lk, and_self]
      refine holds_mono (fun y hy => ?_) (fun _ _ z => z) (do_row hq.n2 g (by omega) D6')
      obtain ⟨y, st7⟩ := y
      obtain ⟨h7, p7⟩ := hy
      dsimp only at h7 p7
      subst h7
      simp only [Mx.mDef, Mx.mSeq, Mx.mAsg, Mx.mRet, Mx.mDrop, Mx.mIfS, Mx.mNx, Mx.mAndV, Mx.mOrV, Mx.mNotV, Mx.mIf, Mx.mB, Mx.mAnd, Mx.mOr, Mx.mNot, Mx.mNil, Mx.mCons, Mx.mCB, Mx.mCall, Mx.m1, Mx.m2, Mx.mC, Mx.mVar, Mx.mChain, Mx.mTup, Mx.mLst, Mx.mPar, Mx.mPar3, Mx.gmName, Mx.gmTup, Mx.gmCons, Mx.gmNil, Mx.mFld, Mx.bind_ok, Mx.bind_fail, Mx.bind_exc, Mx.noX_ok, Mx.thenS_nx, Mx.thenS_rt, Mx.asB_bl, Mx.ofO_some, Mx.ofO_none, Mx.flow_nx, List.map_cons, List.map_nil, List.cons_append, List.nil_append, List.append_nil, List.getElem?_cons_zero, List.getElem?_cons_succ, List.set_cons_zero, List.set_cons_succ, List.replicate_succ, List.replicate_zero, List.length_cons, List.length_nil, Nat.zero_add, Nat.reduceAdd, if_true, if_false, reduceIte, reduceCtorEq, Bool.not_true, Bool.not_false, Bool.false_eq_true, Mx.fI2, Mx.fU, Option.map_some, Option.map_none, Nat.reduceEqDiff, Mx.isi_int, Mx.isi_int2, Mx.isi_tup, Mx.len_tup, decide_true, decide_false, Mx.holds_bind_iff, Mx.holds_ok, Mx.holds_exc, mM1, mLc, miTup]
      rw [show (aT ts) = A.tup (aI ts.reverse) from rfl]
      simp only [Mx.mDef, Mx.mSeq, Mx.mAsg, Mx.mRet, Mx.mDrop, Mx.mIfS, Mx.mNx, Mx.mAndV, Mx.mOrV, Mx.mNotV, Mx.mIf, Mx.mB, Mx.mAnd, Mx.mOr, Mx.mNot, Mx.mNil, Mx.mCons, Mx.mCB, Mx.mCall, Mx.m1, Mx.m2, Mx.mC, Mx.mVar, Mx.mChain, Mx.mTup, Mx.mLst, Mx.mPar, Mx.mPar3, Mx.gmName, Mx.gmTup, Mx.gmCons, Mx.gmNil, Mx.mFld, Mx.bind_ok, Mx.bind_fail, Mx.bind_exc, Mx.noX_ok, Mx.thenS_nx, Mx.thenS_rt, Mx.asB_bl, Mx.ofO_some, Mx.ofO_none, Mx.flow_nx, List.map_cons, List.map_nil, List.cons_append, List.nil_append, List.append_nil, List.getElem?_cons_zero, List.getElem?_cons_succ, List.set_cons_zero, List.set_cons_succ, List.replicate_succ, List.replicate_zero, List.length_cons, List.length_nil, Nat.zero_add, Nat.reduceAdd, if_true, if_false, reduceIte, reduceCtorEq, Bool.not_true, Bool.not_false, Bool.false_eq_true, Mx.fI2, Mx.fU, Option.map_some, Option.map_none, Nat.reduceEqDiff, Mx.isi_int, Mx.isi_int2, Mx.isi_tup, Mx.len_tup, decide_true, decide_false, Mx.holds_bind_iff, Mx.holds_ok, Mx.holds_exc]
      refine holds_mono (fun y hy => ?_) (fun _ _ z => z) (lc_strs (ys := ts.reverse.map sgn) (L := aI ts.reverse) (by rw [aI_len, List.length_map]) (by rw [aI_len, List.length_reverse]; omega) (fun i s p => (rfl : itTup (aI ts.reverse) i s = ofL (aI ts.reverse) i s)) (fun y hy => by obtain ⟨t, _, rfl⟩ := List.mem_map.mp hy; exact sgn_len) (fun i a y s ha hy p => ?_))
      rotate_left
      · obtain ⟨t, hx1, hx2, rfl⟩ := get_map ha
        rw [List.getElem?_map, hx1] at hy
        cases hy
        have e := sgn_ix2 (st := s) (hT t (List.mem_reverse.mp hx2))
        refine ⟨_, rfl, ?_⟩
        simp only [Mx.mDef, Mx.mSeq, Mx.mAsg, Mx.mRet, Mx.mDrop, Mx.mIfS, Mx.mNx, Mx.mAndV, Mx.mOrV, Mx.mNotV, Mx.mIf, Mx.mB, Mx.mAnd, Mx.mOr, Mx.mNot, Mx.mNil, Mx.mCons, Mx.mCB, Mx.mCall, Mx.m1, Mx.m2, Mx.mC, Mx.mVar, Mx.mChain, Mx.mTup, Mx.mLst, Mx.mPar, Mx.mPar3, Mx.gmName, Mx.gmTup, Mx.gmCons, Mx.gmNil, Mx.mFld, Mx.bind_ok, Mx.bind_fail, Mx.bind_exc, Mx.noX_ok, Mx.thenS_nx, Mx.thenS_rt, Mx.asB_bl, Mx.ofO_some, Mx.ofO_none, Mx.flow_nx, List.map_cons, List.map_nil, List.cons_append, List.nil_append, List.append_nil, List.getElem?_cons_zero, List.getElem?_cons_succ, List.set_cons_zero, List.set_cons_succ, List.replicate_succ, List.replicate_zero, List.length_cons, List.length_nil, Nat.zero_add, Nat.reduceAdd, if_true, if_false, reduceIte, reduceCtorEq, Bool.not_true, Bool.not_false, Bool.false_eq_true, Mx.fI2, Mx.fU, Option.map_some, Option.map_none, Nat.reduceEqDiff, Mx.isi_int, Mx.isi_int2, Mx.isi_tup, Mx.len_tup, decide_true, decide_false, wipeE, e]
      · obtain ⟨y, st8⟩ := y
        obtain ⟨h8, p8, f8⟩ := hy
        dsimp only at h8 p8 f8
        subst h8
        have ej := join_l (s := "") f8 (by decide +kernel) (by rw [List.length_map, List.length_reverse]; omega) (fun y hy => by obtain ⟨t, _, rfl⟩ := List.mem_map.mp hy; exact sgn_len)
        have D8 := D6'.pre (p7.trans p8)
        have es := do_state hrs D8
        have en := str_n (st := st8) hrs
        simp only [Mx.mDef, Mx.mSeq, Mx.mAsg, Mx.mRet, Mx.mDrop, Mx.mIfS, Mx.mNx, Mx.mAndV, Mx.mOrV, Mx.mNotV, Mx.mIf, Mx.mB, Mx.mAnd, Mx.mOr, Mx.mNot, Mx.mNil, Mx.mCons, Mx.mCB, Mx.mCall, Mx.m1, Mx.m2, Mx.mC, Mx.mVar, Mx.mChain, Mx.mTup, Mx.mLst, Mx.mPar, Mx.mPar3, Mx.gmName, Mx.gmTup, Mx.gmCons, Mx.gmNil, Mx.mFld, Mx.bind_ok, Mx.bind_fail, Mx.bind_exc, Mx.noX_ok, Mx.thenS_nx, Mx.thenS_rt, Mx.asB_bl, Mx.ofO_some, Mx.ofO_none, Mx.flow_nx, List.map_cons, List.map_nil, List.cons_append, List.nil_append, List.append_nil, List.getElem?_cons_zero, List.getElem?_cons_succ, List.set_cons_zero, List.set_cons_succ, List.replicate_succ, List.replicate_zero, List.length_cons, List.length_nil, Nat.zero_add, Nat.reduceAdd, if_true, if_false, reduceIte, reduceCtorEq, Bool.not_true, Bool.not_false, Bool.false_eq_true, Mx.fI2, Mx.fU, Option.map_some, Option.map_none, Nat.reduceEqDiff, Mx.isi_int, Mx.isi_int2, Mx.isi_tup, Mx.len_tup, decide_true, decide_false, Mx.holds_bind_iff, Mx.holds_ok, Mx.holds_exc, ej, ne_str, mMeth, D8.o, lk, and_self, es, en]
        refine holds_mono (fun y hy => ?_) (fun _ _ z => z) (do_wrong (by omega) D8)
        obtain ⟨y, st9⟩ := y
        obtain ⟨h9, p9⟩ := hy
        dsimp only at h9 p9
        subst h9
        have q9 : st6 <+: st9 := p7.trans (p8.trans p9)
        have f9 := pre_get (q6.trans q9) f4
        simp only [Mx.mDef, Mx.mSeq, Mx.mAsg, Mx.mRet, Mx.mDrop, Mx.mIfS, Mx.mNx, Mx.mAndV, Mx.mOrV, Mx.mNotV, Mx.mIf, Mx.mB, Mx.mAnd, Mx.mOr, Mx.mNot, Mx.mNil, Mx.mCons, Mx.mCB, Mx.mCall, Mx.m1, Mx.m2, Mx.mC, Mx.mVar, Mx.mChain, Mx.mTup, Mx.mLst, Mx.mPar, Mx.mPar3, Mx.gmName, Mx.gmTup, Mx.gmCons, Mx.gmNil, Mx.mFld, Mx.bind_ok, Mx.bind_fail, Mx.bind_exc, Mx.noX_ok, Mx.thenS_nx, Mx.thenS_rt, Mx.asB_bl, Mx.ofO_some, Mx.ofO_none, Mx.flow_nx, List.map_cons, List.map_nil, List.cons_append, List.nil_append, List.append_nil, List.getElem?_cons_zero, List.getElem?_cons_succ, List.set_cons_zero, List.set_cons_succ, List.replicate_succ, List.replicate_zero, List.length_cons, List.length_nil, Nat.zero_add, Nat.reduceAdd, if_true, if_false, reduceIte, reduceCtorEq, Bool.not_true, Bool.not_false, Bool.false_eq_true, Mx.fI2, Mx.fU, Option.map_some, Option.map_none, Nat.reduceEqDiff, Mx.isi_int, Mx.isi_int2, Mx.isi_tup, Mx.len_tup, decide_true, decide_false, Mx.holds_bind_iff, Mx.holds_ok, Mx.holds_exc, mM1, mLc, miLst, f9]
        refine holds_mono (fun y hy => ?_) (fun _ _ z => z) (lc_strs (ys := (wrg (erd q r (ways n b) ts)).map tx) (L := aL (wrg (erd q r (ways n b) ts))) (by rw [aL_len, List.length_map]) (by rw [aL_len]; omega) (fun i s p => itLst_eq f9 p) (fun y hy => by obtain ⟨t, h, rfl⟩ := List.mem_map.mp hy; exact tx_len (by have := wl.2 t h; omega)) (fun i a y s ha hy p => ?_))
        rotate_left
        · obtain ⟨t, hx1, hx2, rfl⟩ := get_map ha
          rw [List.getElem?_map, hx1] at hy
          cases hy
          have e := str_n (st := s) (i := t) (by have := wl.2 t hx2; omega)
          refine ⟨_, rfl, ?_⟩
          simp only [Mx.mDef, Mx.mSeq, Mx.mAsg, Mx.mRet, Mx.mDrop, Mx.mIfS, Mx.mNx, Mx.mAndV, Mx.mOrV, Mx.mNotV, Mx.mIf, Mx.mB, Mx.mAnd, Mx.mOr, Mx.mNot, Mx.mNil, Mx.mCons, Mx.mCB, Mx.mCall, Mx.m1, Mx.m2, Mx.mC, Mx.mVar, Mx.mChain, Mx.mTup, Mx.mLst, Mx.mPar, Mx.mPar3, Mx.gmName, Mx.gmTup, Mx.gmCons, Mx.gmNil, Mx.mFld, Mx.bind_ok, Mx.bind_fail, Mx.bind_exc, Mx.noX_ok, Mx.thenS_nx, Mx.thenS_rt, Mx.asB_bl, Mx.ofO_some, Mx.ofO_none, Mx.flow_nx, List.map_cons, List.map_nil, List.cons_append, List.nil_append, List.append_nil, List.getElem?_cons_zero, List.getElem?_cons_succ, List.set_cons_zero, List.set_cons_succ, List.replicate_succ, List.replicate_zero, List.length_cons, List.length_nil, Nat.zero_add, Nat.reduceAdd, if_true, if_false, reduceIte, reduceCtorEq, Bool.not_true, Bool.not_false, Bool.false_eq_true, Mx.fI2, Mx.fU, Option.map_some, Option.map_none, Nat.reduceEqDiff, Mx.isi_int, Mx.isi_int2, Mx.isi_tup, Mx.len_tup, decide_true, decide_false, wipeE, e]
        · obtain ⟨y, st10⟩ := y
          obtain ⟨h10, p10, f10⟩ := hy
          dsimp only at h10 p10 f10
          subst h10
          have ej := join_l (s := " ") f10 (by decide +kernel) (by rw [List.length_map]; omega) (fun y hy => by obtain ⟨t, h, rfl⟩ := List.mem_map.mp hy; exact tx_len (by have := wl.2 t h; omega))
          simp only [Mx.mDef, Mx.mSeq, Mx.mAsg, Mx.mRet, Mx.mDrop, Mx.mIfS, Mx.mNx, Mx.mAndV, Mx.mOrV, Mx.mNotV, Mx.mIf, Mx.mB, Mx.mAnd, Mx.mOr, Mx.mNot, Mx.mNil, Mx.mCons, Mx.mCB, Mx.mCall, Mx.m1, Mx.m2, Mx.mC, Mx.mVar, Mx.mChain, Mx.mTup, Mx.mLst, Mx.mPar, Mx.mPar3, Mx.gmName, Mx.gmTup, Mx.gmCons, Mx.gmNil, Mx.mFld, Mx.bind_ok, Mx.bind_fail, Mx.bind_exc, Mx.noX_ok, Mx.thenS_nx, Mx.thenS_rt, Mx.asB_bl, Mx.ofO_some, Mx.ofO_none, Mx.flow_nx, List.map_cons, List.map_nil, List.cons_append, List.nil_append, List.append_nil, List.getElem?_cons_zero, List.getElem?_cons_succ, List.set_cons_zero, List.set_cons_succ, List.replicate_succ, List.replicate_zero, List.length_cons, List.length_nil, Nat.zero_add, Nat.reduceAdd, if_true, if_false, reduceIte, reduceCtorEq, Bool.not_true, Bool.not_false, Bool.false_eq_true, Mx.fI2, Mx.fU, Option.map_some, Option.map_none, Nat.reduceEqDiff, Mx.isi_int, Mx.isi_int2, Mx.isi_tup, Mx.len_tup, decide_true, decide_false, Mx.holds_bind_iff, Mx.holds_ok, Mx.holds_exc, ej, eq_str]
          exact ⟨trivial, pa6.trans (q9.trans p10)⟩
end
end Mx

/-! ### MkMB -/
set_option Elab.async false
set_option linter.all false
set_option maxRecDepth 100000
set_option maxHeartbeats 1000000
namespace Mx
open PySem PySem.Spec PyProof.Rows L2
section
variable {q : Qn} {r : Rd} {n c d : Nat} {b : Bool} {st : Sto} {ts : List Int} {E : Xc → Sto → Prop}
theorem kp_pre {s : Sto} (h : Kp st st.length s) : st <+: s := by
  rw [List.prefix_iff_getElem?]
  intro i hi
  rw [h i hi, List.getElem?_eq_getElem hi]
theorem kp_of {s : Sto} (h : st <+: s) : Kp st st.length s := fun i hi => by
  obtain ⟨g, rfl⟩ := h
  exact List.getElem?_append_left hi
theorem Kp.mono {s : Sto} {m : Nat} (h : Kp st d s) (hm : m ≤ d) : Kp st m s := fun i hi => h i (by omega)
theorem Kp.set' {k : Nat} {z : Ob} (h : d ≤ k) : Kp st d (st.set k z) := fun i hi => List.getElem?_set_ne (by omega)
theorem erase_map {α β : Type} (f : α → β) : ∀ (l : List α) (i : Nat), (l.map f).eraseIdx i = (l.eraseIdx i).map f
  | [], i => rfl
  | a :: l, 0 => rfl
  | a :: l, i + 1 => by
    show f a :: (l.map f).eraseIdx i = _
    rw [erase_map f l i]
    rfl
theorem popAt {s : Sto} {k i : Nat} {l : List Nat} (h : s[k]? = some (.lst (aL l))) (hi : i < l.length) (hl : l.length ≤ 1000) : fPopAt (.ref k) [.int (i : Nat)] s = some (.int (l.getD i 0 : Nat), s.set k (.lst (aL (l.eraseIdx i)))) := by
  unfold fPopAt
  dsimp only
  rw [h]
  dsimp only
  rw [if_pos (by omega), seqIndex_of (by omega) (by rw [aL_len]; omega)]
  show ((aL l)[((i : Nat) : Int).toNat]?).map _ = _
  rw [Int.toNat_natCast]
  unfold aL
  rw [List.getElem?_map, List.getElem?_eq_getElem hi, List.getD_eq_getElem?_getD, List.getElem?_eq_getElem hi]
  show some (A.int (l[i] : Nat), s.set k (.lst ((l.map fun k => A.int (k : Nat)).eraseIdx ((i : Nat) : Int).toNat))) = _
  rw [Int.toNat_natCast, erase_map]
  rfl
/-- [draw for .. in range(m)] -/
theorem lc_draw {m k : Nat} {f : Itm} {mg : GM} {me : EM} {wenv : Ev} (hm : m ≤ 1000) (hf : f = itRng 0 m)
    (step : ∀ (i : Nat) (s : Sto), i < m → st <+: s → ∃ e, mg (.int (i : Nat)) wenv s = .ok (e, s) ∧ (me e s).holds (fun z => ∃ x : Nat, z.1 = .int x ∧ x < k ∧ s <+: z.2) Fls) :
    (lcG f mg (fun _ st => .ok (true, st)) me wenv st.length fuel 0 (st ++ [.lst []])).holds (fun r => ∃ l : List Nat, r.1 = .ref st.length ∧ st <+: r.2 ∧ r.2[st.length]? = some (.lst (aL l)) ∧ l.length = m ∧ ∀ x ∈ l, x < k) E := by
  subst hf
  rw [itRng_eq]
  refine holds_mono (fun y hy2 => ?_) (fun _ _ z => z) (lc_run (L := (List.range m).map fun i => A.int (i : Nat)) (fun i acc => ∃ l : List Nat, acc = aL l ∧ l.length = i ∧ ∀ x ∈ l, x < k) (by simp; omega) (fun i s p => rfl) ⟨[], rfl, rfl, fun x hx => by cases hx⟩ (fun i a s acc ha p hP => ?_))
  · obtain ⟨acc, h1, h2, h3, h4, l, h5, h6, h7⟩ := hy2
    rw [List.length_map, List.length_range] at h6
    exact ⟨l, h1, h2, by rw [h3, h5], h6, h7⟩
  · obtain ⟨x, hx, _, rfl⟩ := get_map ha
    have hi := (List.getElem?_eq_some_iff.mp hx).1
    rw [List.length_range] at hi
    rw [List.getElem?_range hi] at hx
    cases hx
    obtain ⟨e, e1, e2⟩ := step i s hi p
    rw [e1]
    refine ⟨rfl, List.prefix_refl _, ?_⟩
    rw [if_pos rfl]
    refine holds_mono (fun z hz => ?_) (fun _ _ z => z) e2
    obtain ⟨x, h1, h2, h3⟩ := hz
    obtain ⟨l, rfl, h5, h6⟩ := hP
    refine ⟨h3, l ++ [x], by rw [h1, aL_append]; rfl, by rw [List.length_append, h5]; rfl, fun y hy => ?_⟩
    rcases List.mem_append.mp hy with hy | hy
    · exact h6 y hy
    · rw [List.mem_singleton.mp hy]
      exact h2
theorem for_rng {m : Nat} {mg : GM} {mb : SM} {Inv : Nat → Ev → Sto → Prop} {e : Ev} {s : Sto} (hL : m ≤ 1000) (h0 : Inv 0 e s)
    (step : ∀ (i : Nat) (e : Ev) (s : Sto), i < m → Inv i e s → (mg (.int (i : Nat)) e s).holds (fun e' => (mb e'.1 e'.2).holds (fun r => ∃ e2, r.1 = .nx e2 ∧ Inv (i + 1) e2 r.2) E) E) :
    (forG (itRng 0 m) mg mb fuel 0 e s).holds (fun r => ∃ e2, r.1 = .nx e2 ∧ Inv m e2 r.2) E := by
  rw [itRng_eq]
  have z := for_tup (L := (List.range m).map fun i => A.int (i : Nat)) (mg := mg) (mb := mb) (E := E) (Inv := Inv) (e := e) (s := s) (by simp; omega) h0 (fun i a e s ha hI => by
    obtain ⟨x, hx, _, rfl⟩ := get_map ha
    have hi := (List.getElem?_eq_some_iff.mp hx).1
    rw [List.length_range] at hi
    rw [List.getElem?_range hi] at hx
    cases hx
    exact step i e s hi hI)
  rw [List.length_map, List.length_range] at z
  exact z
/-- one column of steps: the body of the inner loop -/
theorem col_h {S many kind i : Nat} {s0 s : Sto} {left to : List Nat} {a1 a2 a4 a7 a8 a11 : Option A} (h0 : s[0]? = some .dr) (hz : 0 < s0.length) (hm1 : 1 ≤ many) (hm : many ≤ 4) (hi : i < many) (hl : s[s0.length]? = some (.lst (aL left))) (ht : s[s0.length + 1]? = some (.lst (aL to)))
    (ll : kind > 0 → left.length = many - i) (lx : ∀ x ∈ left, x < many) (tl : to.length = i) (tx : ∀ x ∈ to, x < many) :
    ((mDrop (mBM "list" fAppend (mVar 10) (mCons (mIf (mB (m2 (fI2 fun i j => .bl (decide (j < i))) (mVar 6) (mC (.int 0)))) (mBM "list" fPopAt (mVar 9) (mCons (mCall fTaken 2 [] (mCons (mVar 0) (mCons (mCB fLen (mCons (mVar 9) mNil)) mNil))) mNil)) (mCall fTaken 2 [] (mCons (mVar 0) (mCons (mVar 3) mNil)))) mNil)))
      [some (.ref 0), a1, a2, some (.int many), a4, some (.ref S), some (.int kind), a7, a8, some (.ref s0.length), some (.ref (s0.length + 1)), a11] s).holds
      (fun r => r.1 = .nx [some (.ref 0), a1, a2, some (.int many), a4, some (.ref S), some (.int kind), a7, a8, some (.ref s0.length), some (.ref (s0.length + 1)), a11] ∧ Kp s s0.length r.2 ∧ ∃ left to, r.2[s0.length]? = some (.lst (aL left)) ∧ r.2[s0.length + 1]? = some (.lst (aL to)) ∧
        (kind > 0 → left.length = many - (i + 1)) ∧ (∀ x ∈ left, x < many) ∧ to.length = i + 1 ∧ ∀ x ∈ to, x < many) E := by
  by_cases hk : kind > 0
  · have e1 : decide ((0 : Int) < (kind : Nat)) = true := decide_eq_true (by omega)
    have hll := ll hk
    simp only [Mx.mDef, Mx.mSeq, Mx.mAsg, Mx.mRet, Mx.mDrop, Mx.mIfS, Mx.mNx, Mx.mAndV, Mx.mOrV, Mx.mNotV, Mx.mIf, Mx.mB, Mx.mAnd, Mx.mOr, Mx.mNot, Mx.mNil, Mx.mCons, Mx.mCB, Mx.mCall, Mx.m1, Mx.m2, Mx.mC, Mx.mVar, Mx.mChain, Mx.mTup, Mx.mLst, Mx.mPar, Mx.mPar3, Mx.gmName, Mx.gmTup, Mx.gmCons, Mx.gmNil, Mx.mFld, Mx.bind_ok, Mx.bind_fail, Mx.bind_exc, Mx.noX_ok, Mx.thenS_nx, Mx.thenS_rt, Mx.asB_bl, Mx.ofO_some, Mx.ofO_none, Mx.flow_nx, List.map_cons, List.map_nil, List.cons_append, List.nil_append, List.append_nil, List.getElem?_cons_zero, List.getElem?_cons_succ, List.set_cons_zero, List.set_cons_succ, List.replicate_succ, List.replicate_zero, List.length_cons, List.length_nil, Nat.zero_add, Nat.reduceAdd, if_true, if_false, reduceIte, reduceCtorEq, Bool.not_true, Bool.not_false, Bool.false_eq_true, Mx.fI2, Mx.fU, Option.map_some, Option.map_none, Nat.reduceEqDiff, Mx.isi_int, Mx.isi_int2, Mx.isi_tup, Mx.len_tup, decide_true, decide_false, Mx.holds_bind_iff, Mx.holds_ok, Mx.holds_exc, mBM, isL ht, e1, isL hl, len_ref hl, aL_len]
    refine taken_holds h0 (by omega) (by omega) (fun k hk2 => ?_)
    have hkl : k < left.length := by omega
    have hin : left.getD k 0 ∈ left := getD_mem hkl
    have ea := popAt hl hkl (by omega)
    have ht1 : (s.set s0.length (.lst (aL (left.eraseIdx k))))[s0.length + 1]? = some (.lst (aL to)) := by rw [List.getElem?_set_ne (by omega)]; exact ht
    have eb := app_l (a := .int (left.getD k 0 : Nat)) ht1 (by rw [aL_len]; omega)
    simp only [Mx.mDef, Mx.mSeq, Mx.mAsg, Mx.mRet, Mx.mDrop, Mx.mIfS, Mx.mNx, Mx.mAndV, Mx.mOrV, Mx.mNotV, Mx.mIf, Mx.mB, Mx.mAnd, Mx.mOr, Mx.mNot, Mx.mNil, Mx.mCons, Mx.mCB, Mx.mCall, Mx.m1, Mx.m2, Mx.mC, Mx.mVar, Mx.mChain, Mx.mTup, Mx.mLst, Mx.mPar, Mx.mPar3, Mx.gmName, Mx.gmTup, Mx.gmCons, Mx.gmNil, Mx.mFld, Mx.bind_ok, Mx.bind_fail, Mx.bind_exc, Mx.noX_ok, Mx.thenS_nx, Mx.thenS_rt, Mx.asB_bl, Mx.ofO_some, Mx.ofO_none, Mx.flow_nx, List.map_cons, List.map_nil, List.cons_append, List.nil_append, List.append_nil, List.getElem?_cons_zero, List.getElem?_cons_succ, List.set_cons_zero, List.set_cons_succ, List.replicate_succ, List.replicate_zero, List.length_cons, List.length_nil, Nat.zero_add, Nat.reduceAdd, if_true, if_false, reduceIte, reduceCtorEq, Bool.not_true, Bool.not_false, Bool.false_eq_true, Mx.fI2, Mx.fU, Option.map_some, Option.map_none, Nat.reduceEqDiff, Mx.isi_int, Mx.isi_int2, Mx.isi_tup, Mx.len_tup, decide_true, decide_false, Mx.holds_bind_iff, Mx.holds_ok, Mx.holds_exc, ea, eb]
    refine ⟨trivial, fun j hj => ?_, left.eraseIdx k, to ++ [left.getD k 0], ?_, ?_, fun _ => ?_, fun x hx => lx x (List.mem_of_mem_eraseIdx hx), by rw [List.length_append, tl]; rfl, fun x hx => ?_⟩
    · rw [List.getElem?_set_ne (by omega), List.getElem?_set_ne (by omega)]
    · rw [List.getElem?_set_ne (by omega)]
      exact get_set hl
    · rw [get_set ht1, aL_append]
      rfl
    · rw [List.length_eraseIdx_of_lt hkl]; omega
    · rcases List.mem_append.mp hx with hx | hx
      · exact tx x hx
      · rw [List.mem_singleton.mp hx]; exact lx _ hin
  · have e1 : decide ((0 : Int) < (kind : Nat)) = false := decide_eq_false (by omega)
    simp only [Mx.mDef, Mx.mSeq, Mx.mAsg, Mx.mRet, Mx.mDrop, Mx.mIfS, Mx.mNx, Mx.mAndV, Mx.mOrV, Mx.mNotV, Mx.mIf, Mx.mB, Mx.mAnd, Mx.mOr, Mx.mNot, Mx.mNil, Mx.mCons, Mx.mCB, Mx.mCall, Mx.m1, Mx.m2, Mx.mC, Mx.mVar, Mx.mChain, Mx.mTup, Mx.mLst, Mx.mPar, Mx.mPar3, Mx.gmName, Mx.gmTup, Mx.gmCons, Mx.gmNil, Mx.mFld, Mx.bind_ok, Mx.bind_fail, Mx.bind_exc, Mx.noX_ok, Mx.thenS_nx, Mx.thenS_rt, Mx.asB_bl, Mx.ofO_some, Mx.ofO_none, Mx.flow_nx, List.map_cons, List.map_nil, List.cons_append, List.nil_append, List.append_nil, List.getElem?_cons_zero, List.getElem?_cons_succ, List.set_cons_zero, List.set_cons_succ, List.replicate_succ, List.replicate_zero, List.length_cons, List.length_nil, Nat.zero_add, Nat.reduceAdd, if_true, if_false, reduceIte, reduceCtorEq, Bool.not_true, Bool.not_false, Bool.false_eq_true, Mx.fI2, Mx.fU, Option.map_some, Option.map_none, Nat.reduceEqDiff, Mx.isi_int, Mx.isi_int2, Mx.isi_tup, Mx.len_tup, decide_true, decide_false, Mx.holds_bind_iff, Mx.holds_ok, Mx.holds_exc, mBM, isL ht, e1]
    refine taken_holds h0 (by omega) (by omega) (fun k hk2 => ?_)
    have eb := app_l (a := .int (k : Nat)) ht (by rw [aL_len]; omega)
    simp only [Mx.mDef, Mx.mSeq, Mx.mAsg, Mx.mRet, Mx.mDrop, Mx.mIfS, Mx.mNx, Mx.mAndV, Mx.mOrV, Mx.mNotV, Mx.mIf, Mx.mB, Mx.mAnd, Mx.mOr, Mx.mNot, Mx.mNil, Mx.mCons, Mx.mCB, Mx.mCall, Mx.m1, Mx.m2, Mx.mC, Mx.mVar, Mx.mChain, Mx.mTup, Mx.mLst, Mx.mPar, Mx.mPar3, Mx.gmName, Mx.gmTup, Mx.gmCons, Mx.gmNil, Mx.mFld, Mx.bind_ok, Mx.bind_fail, Mx.bind_exc, Mx.noX_ok, Mx.thenS_nx, Mx.thenS_rt, Mx.asB_bl, Mx.ofO_some, Mx.ofO_none, Mx.flow_nx, List.map_cons, List.map_nil, List.cons_append, List.nil_append, List.append_nil, List.getElem?_cons_zero, List.getElem?_cons_succ, List.set_cons_zero, List.set_cons_succ, List.replicate_succ, List.replicate_zero, List.length_cons, List.length_nil, Nat.zero_add, Nat.reduceAdd, if_true, if_false, reduceIte, reduceCtorEq, Bool.not_true, Bool.not_false, Bool.false_eq_true, Mx.fI2, Mx.fU, Option.map_some, Option.map_none, Nat.reduceEqDiff, Mx.isi_int, Mx.isi_int2, Mx.isi_tup, Mx.len_tup, decide_true, decide_false, Mx.holds_bind_iff, Mx.holds_ok, Mx.holds_exc, eb]
    refine ⟨trivial, fun j hj => ?_, left, to ++ [k], ?_, ?_, fun z => absurd z hk, lx, by rw [List.length_append, tl]; rfl, fun x hx => ?_⟩
    · rw [List.getElem?_set_ne (by omega)]
    · rw [List.getElem?_set_ne (by omega)]
      exact hl
    · rw [get_set ht, aL_append]
      rfl
    · rcases List.mem_append.mp hx with hx | hx
      · exact tx x hx
      · rw [List.mem_singleton.mp hx]; omega
theorem get_lt' {α : Type} {s : List α} {i : Nat} {o : α} (h : s[i]? = some o) : i < s.length := (List.getElem?_eq_some_iff.mp h).1
theorem ix_aL' {l : List Nat} {k i : Nat} {s : Sto} (h : s[k]? = some (.lst (aL l))) (hi : i < l.length) : fIx (.ref k) (.int (i : Nat)) s = some (.int (l.getD i 0 : Nat), s) := by
  refine ix_lst h ?_
  unfold aL
  rw [List.getElem?_map, List.getD_eq_getElem?_getD, List.getElem?_eq_getElem hi]
  rfl
theorem set_aL {l : List Nat} {j x : Nat} : (aL l).set j (.int (x : Nat)) = aL (l.set j x) := by unfold aL; rw [List.map_set]
theorem ixN_lt {m k : Nat} (h : k < m) : ixN m ((k : Nat) : Int) = some k := by
  unfold ixN
  rw [if_pos (by omega), if_pos (by omega), Int.toNat_natCast]
theorem rg_aL {m : Nat} : rgA (m : Nat) = aL (List.range m) := by
  unfold rgA aL
  rw [Int.toNat_natCast]
/-- a column is done: its end -/
theorem col_end {st s s2 : Sto} {m i : Nat} {ks : List Nat} {cols : List (List Nat)} {to : List Nat} (hst : Kp st st.length s) (hlt : st.length < s.length) (k : Kp s s.length s2) (ht : s2[s.length + 1]? = some (.lst (aL to))) (tl : to.length = m) (tx : ∀ x ∈ to, x < m) (h5 : s[st.length]? = some (.lst (ks.map .ref))) (h6 : ks.length = i) (h7 : cols.length = i)
    (h8 : ∀ j (h : j < i), st.length < ks.getD j 0 ∧ s[ks.getD j 0]? = some (.lst (aL (cols.getD j [])))) (h9 : ∀ l ∈ cols, l.length = m ∧ ∀ x ∈ l, x < m) :
    Kp st st.length (s2.set st.length (.lst (ks.map .ref ++ [.ref (s.length + 1)]))) ∧ (s2.set st.length (.lst (ks.map .ref ++ [.ref (s.length + 1)])))[st.length]? = some (.lst ((ks ++ [s.length + 1]).map .ref)) ∧ (ks ++ [s.length + 1]).length = i + 1 ∧ (cols ++ [to]).length = i + 1 ∧
    (∀ j (h : j < i + 1), st.length < (ks ++ [s.length + 1]).getD j 0 ∧ (s2.set st.length (.lst (ks.map .ref ++ [.ref (s.length + 1)])))[(ks ++ [s.length + 1]).getD j 0]? = some (.lst (aL ((cols ++ [to]).getD j [])))) ∧ ∀ l ∈ cols ++ [to], l.length = m ∧ ∀ x ∈ l, x < m := by
  have hS : s2[st.length]? = some (.lst (ks.map .ref)) := by rw [k _ hlt]; exact h5
  refine ⟨fun j hj => ?_, ?_, by rw [List.length_append, h6]; rfl, by rw [List.length_append, h7]; rfl, fun j hj => ?_, fun l hl => ?_⟩
  · rw [List.getElem?_set_ne (by omega), k j (by omega)]
    exact hst j hj
  · rw [get_set hS, List.map_append]
    rfl
  · by_cases hji : j < i
    · have h8j := h8 j hji
      have e1 : (ks ++ [s.length + 1]).getD j 0 = ks.getD j 0 := by rw [List.getD_eq_getElem?_getD, List.getD_eq_getElem?_getD, List.getElem?_append_left (by omega)]
      have e2 : (cols ++ [to]).getD j [] = cols.getD j [] := by rw [List.getD_eq_getElem?_getD, List.getD_eq_getElem?_getD, List.getElem?_append_left (by omega)]
      rw [e1, e2]
      refine ⟨h8j.1, ?_⟩
      rw [List.getElem?_set_ne (by omega), k _ (get_lt' h8j.2)]
      exact h8j.2
    · have hj2 : j = i := by omega
      subst hj2
      have e1 : (ks ++ [s.length + 1]).getD j 0 = s.length + 1 := by rw [List.getD_eq_getElem?_getD, List.getElem?_append_right (by omega), h6, Nat.sub_self]; rfl
      have e2 : (cols ++ [to]).getD j [] = to := by rw [List.getD_eq_getElem?_getD, List.getElem?_append_right (by omega), h7, Nat.sub_self]; rfl
      rw [e1, e2]
      refine ⟨by omega, ?_⟩
      rw [List.getElem?_set_ne (by omega)]
      exact ht
  · rcases List.mem_append.mp hl with hl | hl
    · exact h9 l hl
    · rw [List.mem_singleton.mp hl]
      exact ⟨tl, tx⟩
theorem kp_trans {a b c : Sto} {d : Nat} (h : Kp a d b) (g : Kp b d c) : Kp a d c := h.trans g
theorem get_lt {s : Sto} {i : Nat} {o : Ob} (h : s[i]? = some o) : i < s.length := (List.getElem?_eq_some_iff.mp h).1
theorem tup_refL {l : List A} {k : Nat} {s : Sto} (h : s[k]? = some (.lst l)) : fTuple [.ref k] s = some (.tup l, s) := by
  unfold fTuple
  dsimp only
  rw [h]
theorem question_h (h0 : st[0]? = some .dr) : (f__law_question [.ref 0, .int 4, .int 2] st).holds (fun y => ∃ q n, QOk q n ∧ y.1 = aQ q ∧ st <+: y.2) E := by
  have s0 : ((0 : Nat) ≤ sizeLine) = True := by simp
  have s2 : ((2 : Nat) ≤ sizeLine) = True := by rw [sizeLine_eq]; simp
  have s3 : ((3 : Nat) ≤ sizeLine) = True := by rw [sizeLine_eq]; simp
  have hst := get_lt h0
  unfold f__law_question m__law_question
  simp only [Mx.mDef, Mx.mSeq, Mx.mAsg, Mx.mRet, Mx.mDrop, Mx.mIfS, Mx.mNx, Mx.mAndV, Mx.mOrV, Mx.mNotV, Mx.mIf, Mx.mB, Mx.mAnd, Mx.mOr, Mx.mNot, Mx.mNil, Mx.mCons, Mx.mCB, Mx.mCall, Mx.m1, Mx.m2, Mx.mC, Mx.mVar, Mx.mChain, Mx.mTup, Mx.mLst, Mx.mPar, Mx.mPar3, Mx.gmName, Mx.gmTup, Mx.gmCons, Mx.gmNil, Mx.mFld, Mx.bind_ok, Mx.bind_fail, Mx.bind_exc, Mx.noX_ok, Mx.thenS_nx, Mx.thenS_rt, Mx.asB_bl, Mx.ofO_some, Mx.ofO_none, Mx.flow_nx, List.map_cons, List.map_nil, List.cons_append, List.nil_append, List.append_nil, List.getElem?_cons_zero, List.getElem?_cons_succ, List.set_cons_zero, List.set_cons_succ, List.replicate_succ, List.replicate_zero, List.length_cons, List.length_nil, Nat.zero_add, Nat.reduceAdd, if_true, if_false, reduceIte, reduceCtorEq, Bool.not_true, Bool.not_false, Bool.false_eq_true, Mx.fI2, Mx.fU, Option.map_some, Option.map_none, Nat.reduceEqDiff, Mx.isi_int, Mx.isi_int2, Mx.isi_tup, Mx.len_tup, decide_true, decide_false, Mx.holds_bind_iff, Mx.holds_ok, Mx.holds_exc]
  refine taken_holds h0 (by omega) (by omega) (fun k1 hk1 => ?_)
  simp only [Mx.mDef, Mx.mSeq, Mx.mAsg, Mx.mRet, Mx.mDrop, Mx.mIfS, Mx.mNx, Mx.mAndV, Mx.mOrV, Mx.mNotV, Mx.mIf, Mx.mB, Mx.mAnd, Mx.mOr, Mx.mNot, Mx.mNil, Mx.mCons, Mx.mCB, Mx.mCall, Mx.m1, Mx.m2, Mx.mC, Mx.mVar, Mx.mChain, Mx.mTup, Mx.mLst, Mx.mPar, Mx.mPar3, Mx.gmName, Mx.gmTup, Mx.gmCons, Mx.gmNil, Mx.mFld, Mx.bind_ok, Mx.bind_fail, Mx.bind_exc, Mx.noX_ok, Mx.thenS_nx, Mx.thenS_rt, Mx.asB_bl, Mx.ofO_some, Mx.ofO_none, Mx.flow_nx, List.map_cons, List.map_nil, List.cons_append, List.nil_append, List.append_nil, List.getElem?_cons_zero, List.getElem?_cons_succ, List.set_cons_zero, List.set_cons_succ, List.replicate_succ, List.replicate_zero, List.length_cons, List.length_nil, Nat.zero_add, Nat.reduceAdd, if_true, if_false, reduceIte, reduceCtorEq, Bool.not_true, Bool.not_false, Bool.false_eq_true, Mx.fI2, Mx.fU, Option.map_some, Option.map_none, Nat.reduceEqDiff, Mx.isi_int, Mx.isi_int2, Mx.isi_tup, Mx.len_tup, decide_true, decide_false, Mx.holds_bind_iff, Mx.holds_ok, Mx.holds_exc]
  refine taken_holds h0 (by omega) (by omega) (fun k2 hk2 => ?_)
  have c1 : (1 : Int) + (k1 : Nat) = ((1 + k1 : Nat) : Int) := by omega
  have c2 : (1 : Int) + (k2 : Nat) = ((1 + k2 : Nat) : Int) := by omega
  simp only [Mx.mDef, Mx.mSeq, Mx.mAsg, Mx.mRet, Mx.mDrop, Mx.mIfS, Mx.mNx, Mx.mAndV, Mx.mOrV, Mx.mNotV, Mx.mIf, Mx.mB, Mx.mAnd, Mx.mOr, Mx.mNot, Mx.mNil, Mx.mCons, Mx.mCB, Mx.mCall, Mx.m1, Mx.m2, Mx.mC, Mx.mVar, Mx.mChain, Mx.mTup, Mx.mLst, Mx.mPar, Mx.mPar3, Mx.gmName, Mx.gmTup, Mx.gmCons, Mx.gmNil, Mx.mFld, Mx.bind_ok, Mx.bind_fail, Mx.bind_exc, Mx.noX_ok, Mx.thenS_nx, Mx.thenS_rt, Mx.asB_bl, Mx.ofO_some, Mx.ofO_none, Mx.flow_nx, List.map_cons, List.map_nil, List.cons_append, List.nil_append, List.append_nil, List.getElem?_cons_zero, List.getElem?_cons_succ, List.set_cons_zero, List.set_cons_succ, List.replicate_succ, List.replicate_zero, List.length_cons, List.length_nil, Nat.zero_add, Nat.reduceAdd, if_true, if_false, reduceIte, reduceCtorEq, Bool.not_true, Bool.not_false, Bool.false_eq_true, Mx.fI2, Mx.fU, Option.map_some, Option.map_none, Nat.reduceEqDiff, Mx.isi_int, Mx.isi_int2, Mx.isi_tup, Mx.len_tup, decide_true, decide_false, Mx.holds_bind_iff, Mx.holds_ok, Mx.holds_exc, s0, s3, c1, c2]
  generalize hm : 1 + k1 = m
  generalize hn : 1 + k2 = n
  have m1 : 1 ≤ m := by omega
  have m4 : m ≤ 4 := by omega
  have n1 : 1 ≤ n := by omega
  have n2 : n ≤ 2 := by omega
  have h1 : (st ++ [Ob.lst []])[0]? = some .dr := pre_get (List.prefix_append _ _) h0
  refine taken_holds h1 (by omega) (by omega) (fun kind hkind => ?_)
  have hrn : (-(2 ^ 62 : Int) ≤ (n : Int) ∧ (n : Int) < 2 ^ 62) = True := eq_true ⟨by omega, by omega⟩
  have hrm : (-(2 ^ 62 : Int) ≤ (m : Int) ∧ (m : Int) < 2 ^ 62) = True := eq_true ⟨by omega, by omega⟩
  simp only [Mx.mDef, Mx.mSeq, Mx.mAsg, Mx.mRet, Mx.mDrop, Mx.mIfS, Mx.mNx, Mx.mAndV, Mx.mOrV, Mx.mNotV, Mx.mIf, Mx.mB, Mx.mAnd, Mx.mOr, Mx.mNot, Mx.mNil, Mx.mCons, Mx.mCB, Mx.mCall, Mx.m1, Mx.m2, Mx.mC, Mx.mVar, Mx.mChain, Mx.mTup, Mx.mLst, Mx.mPar, Mx.mPar3, Mx.gmName, Mx.gmTup, Mx.gmCons, Mx.gmNil, Mx.mFld, Mx.bind_ok, Mx.bind_fail, Mx.bind_exc, Mx.noX_ok, Mx.thenS_nx, Mx.thenS_rt, Mx.asB_bl, Mx.ofO_some, Mx.ofO_none, Mx.flow_nx, List.map_cons, List.map_nil, List.cons_append, List.nil_append, List.append_nil, List.getElem?_cons_zero, List.getElem?_cons_succ, List.set_cons_zero, List.set_cons_succ, List.replicate_succ, List.replicate_zero, List.length_cons, List.length_nil, Nat.zero_add, Nat.reduceAdd, if_true, if_false, reduceIte, reduceCtorEq, Bool.not_true, Bool.not_false, Bool.false_eq_true, Mx.fI2, Mx.fU, Option.map_some, Option.map_none, Nat.reduceEqDiff, Mx.isi_int, Mx.isi_int2, Mx.isi_tup, Mx.len_tup, decide_true, decide_false, Mx.holds_bind_iff, Mx.holds_ok, Mx.holds_exc, mFor, miRng1, hrn, Int.toNat_natCast]
  refine holds_mono (fun y hy => ?_) (fun _ _ z => z) (for_rng (Inv := fun i e s => ∃ (j7 j8 j9 j10 j11 : Option A) (ks : List Nat) (cols : List (List Nat)), e = [some (.ref 0), some (.int 4), some (.int 2), some (.int m), some (.int n), some (.ref st.length), some (.int kind), j7, j8, j9, j10, j11] ∧
    Kp st st.length s ∧ s[st.length]? = some (.lst (ks.map .ref)) ∧ ks.length = i ∧ cols.length = i ∧ (∀ j (h : j < i), st.length < ks.getD j 0 ∧ s[ks.getD j 0]? = some (.lst (aL (cols.getD j [])))) ∧ ∀ l ∈ cols, l.length = m ∧ ∀ x ∈ l, x < m) (by omega) ?_ (fun i e s hi hI => ?_))
  · obtain ⟨y, s⟩ := y
    obtain ⟨e2, h2, j7, j8, j9, j10, j11, ks, cols, h3, h4, h5, h6, h7, h8, h9⟩ := hy
    dsimp only at h2 h4 h5 h8
    subst h2 h3
    have hs0 : s[0]? = some .dr := by rw [h4 0 hst]; exact h0
    simp only [Mx.mDef, Mx.mSeq, Mx.mAsg, Mx.mRet, Mx.mDrop, Mx.mIfS, Mx.mNx, Mx.mAndV, Mx.mOrV, Mx.mNotV, Mx.mIf, Mx.mB, Mx.mAnd, Mx.mOr, Mx.mNot, Mx.mNil, Mx.mCons, Mx.mCB, Mx.mCall, Mx.m1, Mx.m2, Mx.mC, Mx.mVar, Mx.mChain, Mx.mTup, Mx.mLst, Mx.mPar, Mx.mPar3, Mx.gmName, Mx.gmTup, Mx.gmCons, Mx.gmNil, Mx.mFld, Mx.bind_ok, Mx.bind_fail, Mx.bind_exc, Mx.noX_ok, Mx.thenS_nx, Mx.thenS_rt, Mx.asB_bl, Mx.ofO_some, Mx.ofO_none, Mx.flow_nx, List.map_cons, List.map_nil, List.cons_append, List.nil_append, List.append_nil, List.getElem?_cons_zero, List.getElem?_cons_succ, List.set_cons_zero, List.set_cons_succ, List.replicate_succ, List.replicate_zero, List.length_cons, List.length_nil, Nat.zero_add, Nat.reduceAdd, if_true, if_false, reduceIte, reduceCtorEq, Bool.not_true, Bool.not_false, Bool.false_eq_true, Mx.fI2, Mx.fU, Option.map_some, Option.map_none, Nat.reduceEqDiff, Mx.isi_int, Mx.isi_int2, Mx.isi_tup, Mx.len_tup, decide_true, decide_false, Mx.holds_bind_iff, Mx.holds_ok, Mx.holds_exc, mLc, miRng1, hrm, Int.toNat_natCast]
    refine holds_mono (fun y hy => ?_) (fun _ _ z => z) (lc_draw (k := 2) (by omega) rfl (fun i s2 hi p => ⟨_, rfl, ?_⟩))
    rotate_left
    · simp only [Mx.mDef, Mx.mSeq, Mx.mAsg, Mx.mRet, Mx.mDrop, Mx.mIfS, Mx.mNx, Mx.mAndV, Mx.mOrV, Mx.mNotV, Mx.mIf, Mx.mB, Mx.mAnd, Mx.mOr, Mx.mNot, Mx.mNil, Mx.mCons, Mx.mCB, Mx.mCall, Mx.m1, Mx.m2, Mx.mC, Mx.mVar, Mx.mChain, Mx.mTup, Mx.mLst, Mx.mPar, Mx.mPar3, Mx.gmName, Mx.gmTup, Mx.gmCons, Mx.gmNil, Mx.mFld, Mx.bind_ok, Mx.bind_fail, Mx.bind_exc, Mx.noX_ok, Mx.thenS_nx, Mx.thenS_rt, Mx.asB_bl, Mx.ofO_some, Mx.ofO_none, Mx.flow_nx, List.map_cons, List.map_nil, List.cons_append, List.nil_append, List.append_nil, List.getElem?_cons_zero, List.getElem?_cons_succ, List.set_cons_zero, List.set_cons_succ, List.replicate_succ, List.replicate_zero, List.length_cons, List.length_nil, Nat.zero_add, Nat.reduceAdd, if_true, if_false, reduceIte, reduceCtorEq, Bool.not_true, Bool.not_false, Bool.false_eq_true, Mx.fI2, Mx.fU, Option.map_some, Option.map_none, Nat.reduceEqDiff, Mx.isi_int, Mx.isi_int2, Mx.isi_tup, Mx.len_tup, decide_true, decide_false, Mx.holds_bind_iff, Mx.holds_ok, Mx.holds_exc, wipeE]
      refine taken_holds (pre_get p hs0) (by omega) (by omega) (fun k hk => ?_)
      exact ⟨k, rfl, by omega, List.prefix_refl _⟩
    · obtain ⟨y, s5⟩ := y
      obtain ⟨ml, g1, p5, g2, g3, g4⟩ := hy
      dsimp only at g1 p5 g2
      subst g1
      simp only [Mx.mDef, Mx.mSeq, Mx.mAsg, Mx.mRet, Mx.mDrop, Mx.mIfS, Mx.mNx, Mx.mAndV, Mx.mOrV, Mx.mNotV, Mx.mIf, Mx.mB, Mx.mAnd, Mx.mOr, Mx.mNot, Mx.mNil, Mx.mCons, Mx.mCB, Mx.mCall, Mx.m1, Mx.m2, Mx.mC, Mx.mVar, Mx.mChain, Mx.mTup, Mx.mLst, Mx.mPar, Mx.mPar3, Mx.gmName, Mx.gmTup, Mx.gmCons, Mx.gmNil, Mx.mFld, Mx.bind_ok, Mx.bind_fail, Mx.bind_exc, Mx.noX_ok, Mx.thenS_nx, Mx.thenS_rt, Mx.asB_bl, Mx.ofO_some, Mx.ofO_none, Mx.flow_nx, List.map_cons, List.map_nil, List.cons_append, List.nil_append, List.append_nil, List.getElem?_cons_zero, List.getElem?_cons_succ, List.set_cons_zero, List.set_cons_succ, List.replicate_succ, List.replicate_zero, List.length_cons, List.length_nil, Nat.zero_add, Nat.reduceAdd, if_true, if_false, reduceIte, reduceCtorEq, Bool.not_true, Bool.not_false, Bool.false_eq_true, Mx.fI2, Mx.fU, Option.map_some, Option.map_none, Nat.reduceEqDiff, Mx.isi_int, Mx.isi_int2, Mx.isi_tup, Mx.len_tup, decide_true, decide_false, Mx.holds_bind_iff, Mx.holds_ok, Mx.holds_exc, tup_refL g2, mLc, miRng1, hrm, Int.toNat_natCast]
      generalize hrows : (List.range m).map (fun x => cols.map fun l => l.getD x 0) = rows
      refine holds_mono (fun y hy => ?_) (fun _ _ z => z) (lc_vals (ys := rows.map aN) (L := (List.range m).map fun i => A.int (i : Nat)) (by rw [← hrows]; simp) (by simp; omega) (fun i s p => by rw [itRng_eq]; rfl) (fun i a y s2 ha hy p => ⟨_, rfl, ?_⟩))
      rotate_left
      · obtain ⟨x, hx, _, rfl⟩ := get_map ha
        have hi := get_lt' hx
        rw [List.length_range] at hi
        rw [List.getElem?_range hi] at hx
        cases hx
        rw [← hrows, List.getElem?_map, List.getElem?_map, List.getElem?_range hi] at hy
        cases hy
        have h5' := pre_get (p5.trans p) h5
        simp only [Mx.mDef, Mx.mSeq, Mx.mAsg, Mx.mRet, Mx.mDrop, Mx.mIfS, Mx.mNx, Mx.mAndV, Mx.mOrV, Mx.mNotV, Mx.mIf, Mx.mB, Mx.mAnd, Mx.mOr, Mx.mNot, Mx.mNil, Mx.mCons, Mx.mCB, Mx.mCall, Mx.m1, Mx.m2, Mx.mC, Mx.mVar, Mx.mChain, Mx.mTup, Mx.mLst, Mx.mPar, Mx.mPar3, Mx.gmName, Mx.gmTup, Mx.gmCons, Mx.gmNil, Mx.mFld, Mx.bind_ok, Mx.bind_fail, Mx.bind_exc, Mx.noX_ok, Mx.thenS_nx, Mx.thenS_rt, Mx.asB_bl, Mx.ofO_some, Mx.ofO_none, Mx.flow_nx, List.map_cons, List.map_nil, List.cons_append, List.nil_append, List.append_nil, List.getElem?_cons_zero, List.getElem?_cons_succ, List.set_cons_zero, List.set_cons_succ, List.replicate_succ, List.replicate_zero, List.length_cons, List.length_nil, Nat.zero_add, Nat.reduceAdd, if_true, if_false, reduceIte, reduceCtorEq, Bool.not_true, Bool.not_false, Bool.false_eq_true, Mx.fI2, Mx.fU, Option.map_some, Option.map_none, Nat.reduceEqDiff, Mx.isi_int, Mx.isi_int2, Mx.isi_tup, Mx.len_tup, decide_true, decide_false, Mx.holds_bind_iff, Mx.holds_ok, Mx.holds_exc, wipeE, mLc, miLst, h5']
        refine holds_mono (fun y hy => ?_) (fun _ _ z => z) (lc_vals (ys := aL (cols.map fun l => l.getD i 0)) (L := ks.map .ref) (by rw [aL_len, List.length_map, List.length_map]; omega) (by rw [List.length_map]; omega) (fun i s p => itLst_eq h5' p) (fun j a y s3 ha hy p3 => ⟨_, rfl, ?_⟩))
        · obtain ⟨y, s4⟩ := y
          obtain ⟨f1, f2, f3⟩ := hy
          dsimp only at f1 f2 f3
          subst f1
          simp only [Mx.mDef, Mx.mSeq, Mx.mAsg, Mx.mRet, Mx.mDrop, Mx.mIfS, Mx.mNx, Mx.mAndV, Mx.mOrV, Mx.mNotV, Mx.mIf, Mx.mB, Mx.mAnd, Mx.mOr, Mx.mNot, Mx.mNil, Mx.mCons, Mx.mCB, Mx.mCall, Mx.m1, Mx.m2, Mx.mC, Mx.mVar, Mx.mChain, Mx.mTup, Mx.mLst, Mx.mPar, Mx.mPar3, Mx.gmName, Mx.gmTup, Mx.gmCons, Mx.gmNil, Mx.mFld, Mx.bind_ok, Mx.bind_fail, Mx.bind_exc, Mx.noX_ok, Mx.thenS_nx, Mx.thenS_rt, Mx.asB_bl, Mx.ofO_some, Mx.ofO_none, Mx.flow_nx, List.map_cons, List.map_nil, List.cons_append, List.nil_append, List.append_nil, List.getElem?_cons_zero, List.getElem?_cons_succ, List.set_cons_zero, List.set_cons_succ, List.replicate_succ, List.replicate_zero, List.length_cons, List.length_nil, Nat.zero_add, Nat.reduceAdd, if_true, if_false, reduceIte, reduceCtorEq, Bool.not_true, Bool.not_false, Bool.false_eq_true, Mx.fI2, Mx.fU, Option.map_some, Option.map_none, Nat.reduceEqDiff, Mx.isi_int, Mx.isi_int2, Mx.isi_tup, Mx.len_tup, decide_true, decide_false, Mx.holds_bind_iff, Mx.holds_ok, Mx.holds_exc, tup_refL f3]
          exact ⟨rfl, f2⟩
        · obtain ⟨x, hx, _, rfl⟩ := get_map ha
          have hj := get_lt' hx
          have h8j := h8 j (by omega)
          rw [List.getD_eq_getElem?_getD, hx, Option.getD_some] at h8j
          unfold aL at hy
          rw [List.getElem?_map, List.getElem?_map, List.getElem?_eq_getElem (by omega : j < cols.length)] at hy
          cases hy
          have hcl : cols.getD j [] = cols[j]'(by omega) := by rw [List.getD_eq_getElem?_getD, List.getElem?_eq_getElem (by omega : j < cols.length)]; rfl
          have hmem : cols[j]'(by omega) ∈ cols := List.getElem_mem _
          have e := ix_aL' (pre_get (p5.trans (p.trans p3)) h8j.2) (i := i) (by rw [hcl, (h9 _ hmem).1]; exact hi)
          rw [hcl] at e
          simp only [Mx.mDef, Mx.mSeq, Mx.mAsg, Mx.mRet, Mx.mDrop, Mx.mIfS, Mx.mNx, Mx.mAndV, Mx.mOrV, Mx.mNotV, Mx.mIf, Mx.mB, Mx.mAnd, Mx.mOr, Mx.mNot, Mx.mNil, Mx.mCons, Mx.mCB, Mx.mCall, Mx.m1, Mx.m2, Mx.mC, Mx.mVar, Mx.mChain, Mx.mTup, Mx.mLst, Mx.mPar, Mx.mPar3, Mx.gmName, Mx.gmTup, Mx.gmCons, Mx.gmNil, Mx.mFld, Mx.bind_ok, Mx.bind_fail, Mx.bind_exc, Mx.noX_ok, Mx.thenS_nx, Mx.thenS_rt, Mx.asB_bl, Mx.ofO_some, Mx.ofO_none, Mx.flow_nx, List.map_cons, List.map_nil, List.cons_append, List.nil_append, List.append_nil, List.getElem?_cons_zero, List.getElem?_cons_succ, List.set_cons_zero, List.set_cons_succ, List.replicate_succ, List.replicate_zero, List.length_cons, List.length_nil, Nat.zero_add, Nat.reduceAdd, if_true, if_false, reduceIte, reduceCtorEq, Bool.not_true, Bool.not_false, Bool.false_eq_true, Mx.fI2, Mx.fU, Option.map_some, Option.map_none, Nat.reduceEqDiff, Mx.isi_int, Mx.isi_int2, Mx.isi_tup, Mx.len_tup, decide_true, decide_false, Mx.holds_bind_iff, Mx.holds_ok, Mx.holds_exc, wipeE, e]
          exact ⟨trivial, List.prefix_refl _⟩
      · obtain ⟨y, s6⟩ := y
        obtain ⟨g5, p6, g6⟩ := hy
        dsimp only at g5 p6 g6
        subst g5
        simp only [Mx.mDef, Mx.mSeq, Mx.mAsg, Mx.mRet, Mx.mDrop, Mx.mIfS, Mx.mNx, Mx.mAndV, Mx.mOrV, Mx.mNotV, Mx.mIf, Mx.mB, Mx.mAnd, Mx.mOr, Mx.mNot, Mx.mNil, Mx.mCons, Mx.mCB, Mx.mCall, Mx.m1, Mx.m2, Mx.mC, Mx.mVar, Mx.mChain, Mx.mTup, Mx.mLst, Mx.mPar, Mx.mPar3, Mx.gmName, Mx.gmTup, Mx.gmCons, Mx.gmNil, Mx.mFld, Mx.bind_ok, Mx.bind_fail, Mx.bind_exc, Mx.noX_ok, Mx.thenS_nx, Mx.thenS_rt, Mx.asB_bl, Mx.ofO_some, Mx.ofO_none, Mx.flow_nx, List.map_cons, List.map_nil, List.cons_append, List.nil_append, List.append_nil, List.getElem?_cons_zero, List.getElem?_cons_succ, List.set_cons_zero, List.set_cons_succ, List.replicate_succ, List.replicate_zero, List.length_cons, List.length_nil, Nat.zero_add, Nat.reduceAdd, if_true, if_false, reduceIte, reduceCtorEq, Bool.not_true, Bool.not_false, Bool.false_eq_true, Mx.fI2, Mx.fU, Option.map_some, Option.map_none, Nat.reduceEqDiff, Mx.isi_int, Mx.isi_int2, Mx.isi_tup, Mx.len_tup, decide_true, decide_false, Mx.holds_bind_iff, Mx.holds_ok, Mx.holds_exc, tup_refL g6, s2]
        refine ⟨⟨rows, ml⟩, n, ⟨?_, ?_, n1, n2, ?_, ?_, ?_, g4⟩, rfl, (kp_pre h4).trans (p5.trans p6)⟩
        · rw [← hrows]; simpa using m1
        · rw [← hrows]; simpa using m4
        · intro row hrow
          rw [← hrows] at hrow
          obtain ⟨x, _, rfl⟩ := List.mem_map.mp hrow
          rw [List.length_map, h7]
        · intro row hrow x hx
          rw [← hrows] at hrow ⊢
          obtain ⟨z, hz, rfl⟩ := List.mem_map.mp hrow
          obtain ⟨l, hl, rfl⟩ := List.mem_map.mp hx
          have hz := List.mem_range.mp hz
          have h9l := h9 l hl
          show _ < ((List.range m).map _).length
          rw [List.length_map, List.length_range]
          exact h9l.2 _ (getD_mem (by rw [h9l.1]; exact hz))
        · rw [← hrows]
          show ml.length = ((List.range m).map _).length
          rw [List.length_map, List.length_range, g3]
  · exact ⟨none, none, none, none, none, [], [], rfl, kp_of (List.prefix_append _ _), get_new, rfl, rfl, fun j h => by omega, fun l hl => by cases hl⟩
  · obtain ⟨j7, j8, j9, j10, j11, ks, cols, rfl, h4, h5, h6, h7, h8, h9⟩ := hI
    have hs0 : s[0]? = some .dr := by rw [h4 0 hst]; exact h0
    have hlt := get_lt' h5
    have hrl : ((0 : Int) ≤ (m : Int) ∧ (m : Int) ≤ 16777216) = True := eq_true ⟨by omega, by omega⟩
    simp only [Mx.mDef, Mx.mSeq, Mx.mAsg, Mx.mRet, Mx.mDrop, Mx.mIfS, Mx.mNx, Mx.mAndV, Mx.mOrV, Mx.mNotV, Mx.mIf, Mx.mB, Mx.mAnd, Mx.mOr, Mx.mNot, Mx.mNil, Mx.mCons, Mx.mCB, Mx.mCall, Mx.m1, Mx.m2, Mx.mC, Mx.mVar, Mx.mChain, Mx.mTup, Mx.mLst, Mx.mPar, Mx.mPar3, Mx.gmName, Mx.gmTup, Mx.gmCons, Mx.gmNil, Mx.mFld, Mx.bind_ok, Mx.bind_fail, Mx.bind_exc, Mx.noX_ok, Mx.thenS_nx, Mx.thenS_rt, Mx.asB_bl, Mx.ofO_some, Mx.ofO_none, Mx.flow_nx, List.map_cons, List.map_nil, List.cons_append, List.nil_append, List.append_nil, List.getElem?_cons_zero, List.getElem?_cons_succ, List.set_cons_zero, List.set_cons_succ, List.replicate_succ, List.replicate_zero, List.length_cons, List.length_nil, Nat.zero_add, Nat.reduceAdd, if_true, if_false, reduceIte, reduceCtorEq, Bool.not_true, Bool.not_false, Bool.false_eq_true, Mx.fI2, Mx.fU, Option.map_some, Option.map_none, Nat.reduceEqDiff, Mx.isi_int, Mx.isi_int2, Mx.isi_tup, Mx.len_tup, decide_true, decide_false, Mx.holds_bind_iff, Mx.holds_ok, Mx.holds_exc, mListR, hrl, s0, rg_aL, mFor, miRng1, hrm, Int.toNat_natCast, List.append_assoc, List.length_append]
    refine holds_mono (fun y hy => ?_) (fun _ _ z => z) (for_rng (Inv := fun k e2 s2 => ∃ (j11 : Option A), e2 = [some (.ref 0), some (.int 4), some (.int 2), some (.int m), some (.int n), some (.ref st.length), some (.int kind), some (.int (i : Nat)), j8, some (.ref s.length), some (.ref (s.length + 1)), j11] ∧ Kp s s.length s2 ∧ ∃ left to, s2[s.length]? = some (.lst (aL left)) ∧ s2[s.length + 1]? = some (.lst (aL to)) ∧
        (kind > 0 → left.length = m - k) ∧ (∀ x ∈ left, x < m) ∧ to.length = k ∧ ∀ x ∈ to, x < m) (by omega) ?_ (fun k e2 s2 hk hI => ?_))
    · obtain ⟨y, s2⟩ := y
      obtain ⟨e2, g1, j11', g2, g3, left, to, g4, g5, g6, g7, g8, g9⟩ := hy
      dsimp only at g1 g3 g4 g5
      subst g1 g2
      have hS : s2[st.length]? = some (.lst (ks.map .ref)) := by rw [g3 _ hlt]; exact h5
      have hs20 : s2[0]? = some .dr := by rw [g3 0 (by omega)]; exact hs0
      have ce := fun (to' : List Nat) (s3 : Sto) (kk : Kp s s.length s3) (ht : s3[s.length + 1]? = some (.lst (aL to'))) (tl : to'.length = m) (tx : ∀ x ∈ to', x < m) => col_end (i := i) h4 hlt kk ht tl tx h5 h6 h7 h8 h9
      have fin : ∀ (to' : List Nat) (s3 : Sto), Kp s s.length s3 → s3[s.length + 1]? = some (.lst (aL to')) → to'.length = m → (∀ x ∈ to', x < m) → fAppend (.ref st.length) [.ref (s.length + 1)] s3 = some (.non, s3.set st.length (.lst (ks.map .ref ++ [.ref (s.length + 1)]))) ∧ isTyA "list" (.ref st.length) s3 = true := fun to' s3 kk ht tl tx => by
        have hS3 : s3[st.length]? = some (.lst (ks.map .ref)) := by rw [kk _ hlt]; exact h5
        exact ⟨app_l hS3 (by rw [List.length_map]; omega), isL hS3⟩
      by_cases hc : kind = 2 ∧ 1 < m
      · have d1 : decide ((kind : Int) = 2) = true := decide_eq_true (by omega)
        have d2 : decide ((1 : Int) < (m : Int)) = true := decide_eq_true (by omega)
        simp only [Mx.mDef, Mx.mSeq, Mx.mAsg, Mx.mRet, Mx.mDrop, Mx.mIfS, Mx.mNx, Mx.mAndV, Mx.mOrV, Mx.mNotV, Mx.mIf, Mx.mB, Mx.mAnd, Mx.mOr, Mx.mNot, Mx.mNil, Mx.mCons, Mx.mCB, Mx.mCall, Mx.m1, Mx.m2, Mx.mC, Mx.mVar, Mx.mChain, Mx.mTup, Mx.mLst, Mx.mPar, Mx.mPar3, Mx.gmName, Mx.gmTup, Mx.gmCons, Mx.gmNil, Mx.mFld, Mx.bind_ok, Mx.bind_fail, Mx.bind_exc, Mx.noX_ok, Mx.thenS_nx, Mx.thenS_rt, Mx.asB_bl, Mx.ofO_some, Mx.ofO_none, Mx.flow_nx, List.map_cons, List.map_nil, List.cons_append, List.nil_append, List.append_nil, List.getElem?_cons_zero, List.getElem?_cons_succ, List.set_cons_zero, List.set_cons_succ, List.replicate_succ, List.replicate_zero, List.length_cons, List.length_nil, Nat.zero_add, Nat.reduceAdd, if_true, if_false, reduceIte, reduceCtorEq, Bool.not_true, Bool.not_false, Bool.false_eq_true, Mx.fI2, Mx.fU, Option.map_some, Option.map_none, Nat.reduceEqDiff, Mx.isi_int, Mx.isi_int2, Mx.isi_tup, Mx.len_tup, decide_true, decide_false, Mx.holds_bind_iff, Mx.holds_ok, Mx.holds_exc, eq_int, d1, d2]
        refine taken_holds hs20 (by omega) (by omega) (fun v hv => ?_)
        simp only [Mx.mDef, Mx.mSeq, Mx.mAsg, Mx.mRet, Mx.mDrop, Mx.mIfS, Mx.mNx, Mx.mAndV, Mx.mOrV, Mx.mNotV, Mx.mIf, Mx.mB, Mx.mAnd, Mx.mOr, Mx.mNot, Mx.mNil, Mx.mCons, Mx.mCB, Mx.mCall, Mx.m1, Mx.m2, Mx.mC, Mx.mVar, Mx.mChain, Mx.mTup, Mx.mLst, Mx.mPar, Mx.mPar3, Mx.gmName, Mx.gmTup, Mx.gmCons, Mx.gmNil, Mx.mFld, Mx.bind_ok, Mx.bind_fail, Mx.bind_exc, Mx.noX_ok, Mx.thenS_nx, Mx.thenS_rt, Mx.asB_bl, Mx.ofO_some, Mx.ofO_none, Mx.flow_nx, List.map_cons, List.map_nil, List.cons_append, List.nil_append, List.append_nil, List.getElem?_cons_zero, List.getElem?_cons_succ, List.set_cons_zero, List.set_cons_succ, List.replicate_succ, List.replicate_zero, List.length_cons, List.length_nil, Nat.zero_add, Nat.reduceAdd, if_true, if_false, reduceIte, reduceCtorEq, Bool.not_true, Bool.not_false, Bool.false_eq_true, Mx.fI2, Mx.fU, Option.map_some, Option.map_none, Nat.reduceEqDiff, Mx.isi_int, Mx.isi_int2, Mx.isi_tup, Mx.len_tup, decide_true, decide_false, Mx.holds_bind_iff, Mx.holds_ok, Mx.holds_exc, gmSub]
        refine taken_holds hs20 (by omega) (by omega) (fun p hp => ?_)
        have ei : ixN (aL to).length ((p : Nat) : Int) = some p := ixN_lt (by rw [aL_len]; omega)
        simp only [Mx.mDef, Mx.mSeq, Mx.mAsg, Mx.mRet, Mx.mDrop, Mx.mIfS, Mx.mNx, Mx.mAndV, Mx.mOrV, Mx.mNotV, Mx.mIf, Mx.mB, Mx.mAnd, Mx.mOr, Mx.mNot, Mx.mNil, Mx.mCons, Mx.mCB, Mx.mCall, Mx.m1, Mx.m2, Mx.mC, Mx.mVar, Mx.mChain, Mx.mTup, Mx.mLst, Mx.mPar, Mx.mPar3, Mx.gmName, Mx.gmTup, Mx.gmCons, Mx.gmNil, Mx.mFld, Mx.bind_ok, Mx.bind_fail, Mx.bind_exc, Mx.noX_ok, Mx.thenS_nx, Mx.thenS_rt, Mx.asB_bl, Mx.ofO_some, Mx.ofO_none, Mx.flow_nx, List.map_cons, List.map_nil, List.cons_append, List.nil_append, List.append_nil, List.getElem?_cons_zero, List.getElem?_cons_succ, List.set_cons_zero, List.set_cons_succ, List.replicate_succ, List.replicate_zero, List.length_cons, List.length_nil, Nat.zero_add, Nat.reduceAdd, if_true, if_false, reduceIte, reduceCtorEq, Bool.not_true, Bool.not_false, Bool.false_eq_true, Mx.fI2, Mx.fU, Option.map_some, Option.map_none, Nat.reduceEqDiff, Mx.isi_int, Mx.isi_int2, Mx.isi_tup, Mx.len_tup, decide_true, decide_false, Mx.holds_bind_iff, Mx.holds_ok, Mx.holds_exc, g5, ei, set_aL]
        have kk : Kp s s.length (s2.set (s.length + 1) (.lst (aL (to.set p v)))) := g3.trans (Kp.set' (by omega))
        have ht := get_set (z := .lst (aL (to.set p v))) g5
        have tl : (to.set p v).length = m := by rw [List.length_set, g8]
        have tx : ∀ x ∈ to.set p v, x < m := fun x hx => by
          rcases List.mem_or_eq_of_mem_set hx with hx | rfl
          · exact g9 x hx
          · omega
        have fa := fin _ _ kk ht tl tx
        simp only [Mx.mDef, Mx.mSeq, Mx.mAsg, Mx.mRet, Mx.mDrop, Mx.mIfS, Mx.mNx, Mx.mAndV, Mx.mOrV, Mx.mNotV, Mx.mIf, Mx.mB, Mx.mAnd, Mx.mOr, Mx.mNot, Mx.mNil, Mx.mCons, Mx.mCB, Mx.mCall, Mx.m1, Mx.m2, Mx.mC, Mx.mVar, Mx.mChain, Mx.mTup, Mx.mLst, Mx.mPar, Mx.mPar3, Mx.gmName, Mx.gmTup, Mx.gmCons, Mx.gmNil, Mx.mFld, Mx.bind_ok, Mx.bind_fail, Mx.bind_exc, Mx.noX_ok, Mx.thenS_nx, Mx.thenS_rt, Mx.asB_bl, Mx.ofO_some, Mx.ofO_none, Mx.flow_nx, List.map_cons, List.map_nil, List.cons_append, List.nil_append, List.append_nil, List.getElem?_cons_zero, List.getElem?_cons_succ, List.set_cons_zero, List.set_cons_succ, List.replicate_succ, List.replicate_zero, List.length_cons, List.length_nil, Nat.zero_add, Nat.reduceAdd, if_true, if_false, reduceIte, reduceCtorEq, Bool.not_true, Bool.not_false, Bool.false_eq_true, Mx.fI2, Mx.fU, Option.map_some, Option.map_none, Nat.reduceEqDiff, Mx.isi_int, Mx.isi_int2, Mx.isi_tup, Mx.len_tup, decide_true, decide_false, Mx.holds_bind_iff, Mx.holds_ok, Mx.holds_exc, mBM, fa.2, fa.1]
        exact ⟨_, rfl, _, _, _, _, _, _, _, rfl, ce _ _ kk ht tl tx⟩
      · have dd : (decide ((kind : Int) = 2) = true → decide ((1 : Int) < (m : Int)) = false) := fun z => decide_eq_false (fun z2 => hc ⟨by have := of_decide_eq_true z; omega, by omega⟩)
        have fa := fin to s2 g3 g5 g8 g9
        cases d1 : decide ((kind : Int) = 2) with
        | false =>
          simp only [Mx.mDef, Mx.mSeq, Mx.mAsg, Mx.mRet, Mx.mDrop, Mx.mIfS, Mx.mNx, Mx.mAndV, Mx.mOrV, Mx.mNotV, Mx.mIf, Mx.mB, Mx.mAnd, Mx.mOr, Mx.mNot, Mx.mNil, Mx.mCons, Mx.mCB, Mx.mCall, Mx.m1, Mx.m2, Mx.mC, Mx.mVar, Mx.mChain, Mx.mTup, Mx.mLst, Mx.mPar, Mx.mPar3, Mx.gmName, Mx.gmTup, Mx.gmCons, Mx.gmNil, Mx.mFld, Mx.bind_ok, Mx.bind_fail, Mx.bind_exc, Mx.noX_ok, Mx.thenS_nx, Mx.thenS_rt, Mx.asB_bl, Mx.ofO_some, Mx.ofO_none, Mx.flow_nx, List.map_cons, List.map_nil, List.cons_append, List.nil_append, List.append_nil, List.getElem?_cons_zero, List.getElem?_cons_succ, List.set_cons_zero, List.set_cons_succ, List.replicate_succ, List.replicate_zero, List.length_cons, List.length_nil, Nat.zero_add, Nat.reduceAdd, if_true, if_false, reduceIte, reduceCtorEq, Bool.not_true, Bool.not_false, Bool.false_eq_true, Mx.fI2, Mx.fU, Option.map_some, Option.map_none, Nat.reduceEqDiff, Mx.isi_int, Mx.isi_int2, Mx.isi_tup, Mx.len_tup, decide_true, decide_false, Mx.holds_bind_iff, Mx.holds_ok, Mx.holds_exc, eq_int, d1, mBM, fa.2, fa.1]
          exact ⟨_, rfl, _, _, _, _, _, _, _, rfl, ce _ _ g3 g5 g8 g9⟩
        | true =>
          have d2 := dd d1
          simp only [Mx.mDef, Mx.mSeq, Mx.mAsg, Mx.mRet, Mx.mDrop, Mx.mIfS, Mx.mNx, Mx.mAndV, Mx.mOrV, Mx.mNotV, Mx.mIf, Mx.mB, Mx.mAnd, Mx.mOr, Mx.mNot, Mx.mNil, Mx.mCons, Mx.mCB, Mx.mCall, Mx.m1, Mx.m2, Mx.mC, Mx.mVar, Mx.mChain, Mx.mTup, Mx.mLst, Mx.mPar, Mx.mPar3, Mx.gmName, Mx.gmTup, Mx.gmCons, Mx.gmNil, Mx.mFld, Mx.bind_ok, Mx.bind_fail, Mx.bind_exc, Mx.noX_ok, Mx.thenS_nx, Mx.thenS_rt, Mx.asB_bl, Mx.ofO_some, Mx.ofO_none, Mx.flow_nx, List.map_cons, List.map_nil, List.cons_append, List.nil_append, List.append_nil, List.getElem?_cons_zero, List.getElem?_cons_succ, List.set_cons_zero, List.set_cons_succ, List.replicate_succ, List.replicate_zero, List.length_cons, List.length_nil, Nat.zero_add, Nat.reduceAdd, if_true, if_false, reduceIte, reduceCtorEq, Bool.not_true, Bool.not_false, Bool.false_eq_true, Mx.fI2, Mx.fU, Option.map_some, Option.map_none, Nat.reduceEqDiff, Mx.isi_int, Mx.isi_int2, Mx.isi_tup, Mx.len_tup, decide_true, decide_false, Mx.holds_bind_iff, Mx.holds_ok, Mx.holds_exc, eq_int, d1, d2, mBM, fa.2, fa.1]
          exact ⟨_, rfl, _, _, _, _, _, _, _, rfl, ce _ _ g3 g5 g8 g9⟩
    · refine ⟨j11, rfl, kp_of (List.prefix_append _ _), List.range m, [], get_new, get_new1, fun _ => by rw [List.length_range]; omega, fun x hx => List.mem_range.mp hx, rfl, fun x hx => by cases hx⟩
    · obtain ⟨j11', rfl, g3, left, to, g4, g5, g6, g7, g8, g9⟩ := hI
      have hs20 : s2[0]? = some .dr := by rw [g3 0 (by omega)]; exact hs0
      have z := col_h (E := E) (S := st.length) (a1 := some (.int 4)) (a2 := some (.int 2)) (a4 := some (.int n)) (a7 := some (.int (i : Nat))) (a8 := j8) (a11 := some (.int (k : Nat))) (s0 := s) hs20 (by omega) m1 m4 hk g4 g5 g6 g7 g8 g9
      show R.holds (mDrop _ _ _) _ _
      refine holds_mono (fun y hy => ?_) (fun _ _ z => z) z
      obtain ⟨y1, y2, left', to', y3⟩ := hy
      exact ⟨_, y1, _, rfl, g3.trans y2, left', to', y3⟩
end
end Mx

/-! ### MkMC -/
set_option Elab.async false
set_option linter.all false
set_option maxRecDepth 100000
set_option maxHeartbeats 1000000
namespace Mx
open PySem PySem.Spec PyProof.Rows L2
/-! ### rows of ints against the empty one -/
theorem toPs_aI {s : Sto} {m : Nat} : ∀ {l : List Int}, toPs s m (aI l) = some (l.map .int)
  | [] => by unfold aI; simp [toPs]
  | i :: l => by
    have ih := toPs_aI (s := s) (m := m) (l := l)
    unfold aI at ih ⊢
    rw [List.map_cons, List.map_cons, toPs, ih]
    simp [toP]
theorem shape_ints {l : List Int} : PyData.canLayAll0 (l.map .int) = true ∧ PyData.depthAll (l.map .int) = 0 := by
  induction l with
  | nil => exact ⟨by decide +kernel, by decide +kernel⟩
  | cons i l ih =>
    rw [List.map_cons, PyData.canLayAll0, PyData.depthAll, ih.1, ih.2]
    exact ⟨by simp [PyData.canLay0], by simp [PyData.depth]⟩
theorem shape_list {l : List Int} : SeqAt.shaped (.list (l.map .int)) = true ∧ SeqAt.shaped (.tuple (l.map .int)) = true := by
  have h := shape_ints (l := l)
  unfold SeqAt.shaped
  rw [PyData.canLay0, PyData.canLay0, PyData.depth, PyData.depth, h.1, h.2]
  decide
theorem eqv_nil {l : List Int} : PyData.eqvAll (l.map .int) [] = l.isEmpty := by
  cases l with
  | nil => rfl
  | cons i l => rfl
theorem ne_nilT {s : Sto} {l : List Int} : fNe (.tup (aI l)) (.tup []) s = some (.bl (!l.isEmpty), s) := by
  have e : eqA (.tup (aI l)) (.tup []) s = some l.isEmpty := by
    show eqDeep (.tup (aI l)) (.tup []) s = _
    unfold eqDeep
    have e1 : toP s 40 (.tup (aI l)) = some (.tuple (l.map .int)) := by rw [toP, toPs_aI]; rfl
    have e2 : toP s 40 (.tup []) = some (.tuple []) := by rw [toP, toPs]; rfl
    have e3 : SeqAt.shaped (.tuple []) = true := by decide +kernel
    rw [e1, e2]
    dsimp only
    rw [shape_list.2, e3]
    show (if True then some (PyData.eqvAll (l.map .int) []) else none) = _
    rw [if_pos trivial, eqv_nil]
  unfold fNe
  rw [e]
  rfl
theorem ne_nilL {s : Sto} {k k2 : Nat} {l : List Int} (h : s[k]? = some (.lst (aI l))) (h2 : s[k2]? = some (.lst [])) : fNe (.ref k) (.ref k2) s = some (.bl (!l.isEmpty), s) := by
  have e : eqA (.ref k) (.ref k2) s = some l.isEmpty := by
    show eqDeep (.ref k) (.ref k2) s = _
    unfold eqDeep
    have e1 : toP s 40 (.ref k) = some (.list (l.map .int)) := by
      rw [toP, h]
      dsimp only
      rw [toPs_aI]
      rfl
    rw [e1, toP_nil h2]
    have e3 : SeqAt.shaped (.list []) = true := by decide +kernel
    dsimp only
    rw [shape_list.1, e3]
    show (if True then some (PyData.eqvAll (l.map .int) []) else none) = _
    rw [if_pos trivial, eqv_nil]
  unfold fNe
  rw [e]
  rfl
theorem aL_aI {l : List Nat} : aL l = aI (l.map fun k => ((k : Nat) : Int)) := by unfold aL aI; rw [List.map_map]; rfl
section
variable {q : Qn} {r : Rd} {n c d : Nat} {b : Bool} {st : Sto} {ts : List Int} {E : Xc → Sto → Prop}
theorem lc_gen {α : Type} {m : Nat} {f : Itm} {mg : GM} {me : EM} {wenv : Ev} (gA : α → A) (Pr : α → Prop) (hm : m ≤ 1000) (hf : f = itRng 0 m)
    (step : ∀ (i : Nat) (s : Sto), i < m → st <+: s → ∃ e, mg (.int (i : Nat)) wenv s = .ok (e, s) ∧ (me e s).holds (fun z => ∃ x : α, z.1 = gA x ∧ Pr x ∧ s <+: z.2) Fls) :
    (lcG f mg (fun _ st => .ok (true, st)) me wenv st.length fuel 0 (st ++ [.lst []])).holds (fun r => ∃ l : List α, r.1 = .ref st.length ∧ st <+: r.2 ∧ r.2[st.length]? = some (.lst (l.map gA)) ∧ l.length = m ∧ ∀ x ∈ l, Pr x) E := by
  subst hf
  rw [itRng_eq]
  refine holds_mono (fun y hy2 => ?_) (fun _ _ z => z) (lc_run (L := (List.range m).map fun i => A.int (i : Nat)) (fun i acc => ∃ l : List α, acc = l.map gA ∧ l.length = i ∧ ∀ x ∈ l, Pr x) (by simp; omega) (fun i s p => rfl) ⟨[], rfl, rfl, fun x hx => by cases hx⟩ (fun i a s acc ha p hP => ?_))
  · obtain ⟨acc, h1, h2, h3, h4, l, h5, h6, h7⟩ := hy2
    rw [List.length_map, List.length_range] at h6
    exact ⟨l, h1, h2, by rw [h3, h5], h6, h7⟩
  · obtain ⟨x, hx, _, rfl⟩ := get_map ha
    have hi := get_lt' hx
    rw [List.length_range] at hi
    rw [List.getElem?_range hi] at hx
    cases hx
    obtain ⟨e, e1, e2⟩ := step i s hi p
    rw [e1]
    refine ⟨rfl, List.prefix_refl _, ?_⟩
    rw [if_pos rfl]
    refine holds_mono (fun z hz => ?_) (fun _ _ z => z) e2
    obtain ⟨x, h1, h2, h3⟩ := hz
    obtain ⟨l, rfl, h5, h6⟩ := hP
    refine ⟨h3, l ++ [x], by rw [h1, List.map_append]; rfl, by rw [List.length_append, h5]; rfl, fun y hy => ?_⟩
    rcases List.mem_append.mp hy with hy | hy
    · exact h6 y hy
    · rw [List.mem_singleton.mp hy]
      exact h2
theorem back_q (hq : QOk q n) {s0 t : Nat} (hs : s0 < q.st.length) (ht : t < n) : (f__law_back [aQ q, .int s0, .int t] st).holds (fun y => ∃ x : Nat, y.1 = .int x ∧ x < q.st.length ∧ st <+: y.2) E := by
  have hm2 := hq.m2
  have hr : (-(2 ^ 62 : Int) ≤ (q.st.length : Int) ∧ (q.st.length : Int) < 2 ^ 62) = True := eq_true ⟨by omega, by omega⟩
  unfold f__law_back m__law_back
  simp only [Mx.mDef, Mx.mSeq, Mx.mAsg, Mx.mRet, Mx.mDrop, Mx.mIfS, Mx.mNx, Mx.mAndV, Mx.mOrV, Mx.mNotV, Mx.mIf, Mx.mB, Mx.mAnd, Mx.mOr, Mx.mNot, Mx.mNil, Mx.mCons, Mx.mCB, Mx.mCall, Mx.m1, Mx.m2, Mx.mC, Mx.mVar, Mx.mChain, Mx.mTup, Mx.mLst, Mx.mPar, Mx.mPar3, Mx.gmName, Mx.gmTup, Mx.gmCons, Mx.gmNil, Mx.mFld, Mx.bind_ok, Mx.bind_fail, Mx.bind_exc, Mx.noX_ok, Mx.thenS_nx, Mx.thenS_rt, Mx.asB_bl, Mx.ofO_some, Mx.ofO_none, Mx.flow_nx, List.map_cons, List.map_nil, List.cons_append, List.nil_append, List.append_nil, List.getElem?_cons_zero, List.getElem?_cons_succ, List.set_cons_zero, List.set_cons_succ, List.replicate_succ, List.replicate_zero, List.length_cons, List.length_nil, Nat.zero_add, Nat.reduceAdd, if_true, if_false, reduceIte, reduceCtorEq, Bool.not_true, Bool.not_false, Bool.false_eq_true, Mx.fI2, Mx.fU, Option.map_some, Option.map_none, Nat.reduceEqDiff, Mx.isi_int, Mx.isi_int2, Mx.isi_tup, Mx.len_tup, decide_true, decide_false, Mx.holds_bind_iff, Mx.holds_ok, Mx.holds_exc, ix_q0, List.length_map, mLc, miRng1, hr, Int.toNat_natCast]
  refine holds_mono (fun y hy => ?_) (fun _ _ z => z) (lc_flt (g := fun k => decide ((q.to k t : Int) = (s0 : Nat))) (by omega) rfl (fun i s hi p => ⟨_, rfl, ?_⟩))
  rotate_left
  · have e1 := ix_mN (st := s) hi
    have e2 := ix_aN (st := s) (l := q.st.getD i []) (k := t) (by rw [hq.rlen hi]; exact ht)
    simp only [Mx.mDef, Mx.mSeq, Mx.mAsg, Mx.mRet, Mx.mDrop, Mx.mIfS, Mx.mNx, Mx.mAndV, Mx.mOrV, Mx.mNotV, Mx.mIf, Mx.mB, Mx.mAnd, Mx.mOr, Mx.mNot, Mx.mNil, Mx.mCons, Mx.mCB, Mx.mCall, Mx.m1, Mx.m2, Mx.mC, Mx.mVar, Mx.mChain, Mx.mTup, Mx.mLst, Mx.mPar, Mx.mPar3, Mx.gmName, Mx.gmTup, Mx.gmCons, Mx.gmNil, Mx.mFld, Mx.bind_ok, Mx.bind_fail, Mx.bind_exc, Mx.noX_ok, Mx.thenS_nx, Mx.thenS_rt, Mx.asB_bl, Mx.ofO_some, Mx.ofO_none, Mx.flow_nx, List.map_cons, List.map_nil, List.cons_append, List.nil_append, List.append_nil, List.getElem?_cons_zero, List.getElem?_cons_succ, List.set_cons_zero, List.set_cons_succ, List.replicate_succ, List.replicate_zero, List.length_cons, List.length_nil, Nat.zero_add, Nat.reduceAdd, if_true, if_false, reduceIte, reduceCtorEq, Bool.not_true, Bool.not_false, Bool.false_eq_true, Mx.fI2, Mx.fU, Option.map_some, Option.map_none, Nat.reduceEqDiff, Mx.isi_int, Mx.isi_int2, Mx.isi_tup, Mx.len_tup, decide_true, decide_false, Mx.holds_bind_iff, Mx.holds_ok, Mx.holds_exc, wipeE, ix_q0, e1, e2, eq_int]
    exact ⟨rfl, List.prefix_refl _, trivial⟩
  · obtain ⟨y, s⟩ := y
    obtain ⟨h1, h2, h3⟩ := hy
    dsimp only at h1 h2 h3
    subst h1
    generalize hl : (List.range q.st.length).filter (fun k => decide ((q.to k t : Int) = (s0 : Nat))) = l at h3
    have hx : ∀ x ∈ l, x < q.st.length := fun x hx => by rw [← hl] at hx; exact List.mem_range.mp (List.mem_filter.mp hx).1
    have h4 : (s ++ [Ob.lst []])[st.length]? = some (.lst (aL l)) := pre_get (List.prefix_append _ _) h3
    have e := ne_nilL (l := l.map fun k => ((k : Nat) : Int)) (by rw [← aL_aI]; exact h4) (get_new (s := s) (g := []))
    cases l with
    | nil =>
      have e' : (!(List.map (fun k => ((k : Nat) : Int)) ([] : List Nat)).isEmpty) = false := rfl
      rw [e'] at e
      simp only [Mx.mDef, Mx.mSeq, Mx.mAsg, Mx.mRet, Mx.mDrop, Mx.mIfS, Mx.mNx, Mx.mAndV, Mx.mOrV, Mx.mNotV, Mx.mIf, Mx.mB, Mx.mAnd, Mx.mOr, Mx.mNot, Mx.mNil, Mx.mCons, Mx.mCB, Mx.mCall, Mx.m1, Mx.m2, Mx.mC, Mx.mVar, Mx.mChain, Mx.mTup, Mx.mLst, Mx.mPar, Mx.mPar3, Mx.gmName, Mx.gmTup, Mx.gmCons, Mx.gmNil, Mx.mFld, Mx.bind_ok, Mx.bind_fail, Mx.bind_exc, Mx.noX_ok, Mx.thenS_nx, Mx.thenS_rt, Mx.asB_bl, Mx.ofO_some, Mx.ofO_none, Mx.flow_nx, List.map_cons, List.map_nil, List.cons_append, List.nil_append, List.append_nil, List.getElem?_cons_zero, List.getElem?_cons_succ, List.set_cons_zero, List.set_cons_succ, List.replicate_succ, List.replicate_zero, List.length_cons, List.length_nil, Nat.zero_add, Nat.reduceAdd, if_true, if_false, reduceIte, reduceCtorEq, Bool.not_true, Bool.not_false, Bool.false_eq_true, Mx.fI2, Mx.fU, Option.map_some, Option.map_none, Nat.reduceEqDiff, Mx.isi_int, Mx.isi_int2, Mx.isi_tup, Mx.len_tup, decide_true, decide_false, Mx.holds_bind_iff, Mx.holds_ok, Mx.holds_exc, show ((0 : Nat) ≤ sizeLine) = True by simp, e]
      exact ⟨s0, rfl, hs, pre_new h2⟩
    | cons x l =>
      have e' : (!(List.map (fun k => ((k : Nat) : Int)) (x :: l)).isEmpty) = true := rfl
      rw [e'] at e
      have e2 := ix_lst (k := 0) (a := .int (x : Nat)) h4 rfl
      rw [show ((0 : Nat) : Int) = 0 from rfl] at e2
      simp only [Mx.mDef, Mx.mSeq, Mx.mAsg, Mx.mRet, Mx.mDrop, Mx.mIfS, Mx.mNx, Mx.mAndV, Mx.mOrV, Mx.mNotV, Mx.mIf, Mx.mB, Mx.mAnd, Mx.mOr, Mx.mNot, Mx.mNil, Mx.mCons, Mx.mCB, Mx.mCall, Mx.m1, Mx.m2, Mx.mC, Mx.mVar, Mx.mChain, Mx.mTup, Mx.mLst, Mx.mPar, Mx.mPar3, Mx.gmName, Mx.gmTup, Mx.gmCons, Mx.gmNil, Mx.mFld, Mx.bind_ok, Mx.bind_fail, Mx.bind_exc, Mx.noX_ok, Mx.thenS_nx, Mx.thenS_rt, Mx.asB_bl, Mx.ofO_some, Mx.ofO_none, Mx.flow_nx, List.map_cons, List.map_nil, List.cons_append, List.nil_append, List.append_nil, List.getElem?_cons_zero, List.getElem?_cons_succ, List.set_cons_zero, List.set_cons_succ, List.replicate_succ, List.replicate_zero, List.length_cons, List.length_nil, Nat.zero_add, Nat.reduceAdd, if_true, if_false, reduceIte, reduceCtorEq, Bool.not_true, Bool.not_false, Bool.false_eq_true, Mx.fI2, Mx.fU, Option.map_some, Option.map_none, Nat.reduceEqDiff, Mx.isi_int, Mx.isi_int2, Mx.isi_tup, Mx.len_tup, decide_true, decide_false, Mx.holds_bind_iff, Mx.holds_ok, Mx.holds_exc, show ((0 : Nat) ≤ sizeLine) = True by simp, e, e2]
      exact ⟨x, rfl, hx x List.mem_cons_self, pre_new h2⟩
theorem cond_t {b : Bool} {s : Sto} : fEq (aM b) (.str "named") s = some (.bl b, s) := by cases b <;> rfl
/-- the loop that builds a reader: lists of opens and of closes -/
structure RB (st s : Sto) (m n c i : Nat) (op : List (List (Nat × Nat))) (cl : List (List Nat)) : Prop where
  rk : Kp st st.length s
  ro : s[st.length]? = some (.lst (op.map fun l => .tup (l.map aP)))
  rc : s[st.length + 1]? = some (.lst (cl.map aN))
  lo : op.length = i
  rl : cl.length = i
  xo : ∀ l ∈ op, l.length = n ∧ ∀ p ∈ l, p.1 < m ∧ p.2 < 2
  xc : ∀ l ∈ cl, l.length = c ∧ ∀ x ∈ l, x < m
theorem RB.opn {s : Sto} {m i : Nat} {op : List (List (Nat × Nat))} {cl : List (List Nat)} {l : List (Nat × Nat)} {l2 : List Nat} {s2 s3 : Sto} (R : RB st s m n c i op cl) (p : s <+: s2) (hl : l.length = n ∧ ∀ p ∈ l, p.1 < m ∧ p.2 < 2) (e2 : s2.set st.length (.lst ((op.map fun l => .tup (l.map aP)) ++ [.tup (l.map aP)])) <+: s3) (hl2 : l2.length = c ∧ ∀ x ∈ l2, x < m) :
    RB st (s3.set (st.length + 1) (.lst (cl.map aN ++ [.tup (aL l2)]))) m n c (i + 1) (op ++ [l]) (cl ++ [l2]) := by
  have o2 := pre_get p R.ro
  have c2 := pre_get p R.rc
  have o3 := pre_get e2 (get_set (z := .lst ((op.map fun l => .tup (l.map aP)) ++ [.tup (l.map aP)])) o2)
  have c3 : s3[st.length + 1]? = some (.lst (cl.map aN)) := pre_get e2 (by rw [List.getElem?_set_ne (by omega)]; exact c2)
  refine ⟨fun j hj => ?_, ?_, ?_, by rw [List.length_append, R.lo]; rfl, by rw [List.length_append, R.rl]; rfl, fun x hx => ?_, fun x hx => ?_⟩
  · rw [List.getElem?_set_ne (by omega)]
    have hlen := get_lt' o2
    have h1 : j < (s2.set st.length (.lst ((op.map fun l => .tup (l.map aP)) ++ [.tup (l.map aP)]))).length := by rw [List.length_set]; omega
    have h2 := kp_of e2 j h1
    rw [h2, List.getElem?_set_ne (by omega), kp_of p j (by have := get_lt' R.ro; omega)]
    exact R.rk j hj
  · rw [List.getElem?_set_ne (by omega), o3, List.map_append]
    rfl
  · rw [get_set c3, List.map_append]
    rfl
  · rcases List.mem_append.mp hx with hx | hx
    · exact R.xo x hx
    · rw [List.mem_singleton.mp hx]; exact hl
  · rcases List.mem_append.mp hx with hx | hx
    · exact R.xc x hx
    · rw [List.mem_singleton.mp hx]; exact hl2
end
end Mx

/-! ### MkMD -/
set_option Elab.async false
set_option linter.all false
set_option maxRecDepth 100000
set_option maxHeartbeats 1000000
namespace Mx
open PySem PySem.Spec PyProof.Rows L2
section
variable {q : Qn} {r : Rd} {n c d : Nat} {b : Bool} {st : Sto} {ts : List Int} {E : Xc → Sto → Prop}
theorem RB.ok {s : Sto} {m : Nat} {op : List (List (Nat × Nat))} {cl : List (List Nat)} (R : RB st s m n c m op cl) (h1 : 1 ≤ m) (h2 : m ≤ 4) : ROk ⟨op, cl⟩ n c := by
  have e : op.length = m := R.lo
  refine ⟨?_, ?_, fun l hl => (R.xo l hl).1, fun l hl p hp => ?_, fun l hl p hp => ((R.xo l hl).2 p hp).2, ?_, fun l hl => (R.xc l hl).1, fun l hl x hx => ?_⟩
  · show 1 ≤ op.length; omega
  · show op.length ≤ 4; omega
  · show _ < op.length; rw [e]; exact ((R.xo l hl).2 p hp).1
  · show cl.length = op.length; rw [e, R.rl]
  · show _ < op.length; rw [e]; exact (R.xc l hl).2 x hx
theorem reader_h (h0 : st[0]? = some .dr) (n1 : 1 ≤ n) (n2 : n ≤ 2) : (f__law_reader [.ref 0, .int n, aM b, .int 4] st).holds (fun y => ∃ r, ROk r n (ways n b) ∧ y.1 = aR r ∧ st <+: y.2) E := by
  have s0 : ((0 : Nat) ≤ sizeLine) = True := by simp
  have s2 : ((2 : Nat) ≤ sizeLine) = True := by rw [sizeLine_eq]; simp
  have s3 : ((3 : Nat) ≤ sizeLine) = True := by rw [sizeLine_eq]; simp
  have hst := get_lt' h0
  have hw : ways n b ≤ 2 := by unfold ways; split <;> omega
  unfold f__law_reader m__law_reader
  simp only [Mx.mDef, Mx.mSeq, Mx.mAsg, Mx.mRet, Mx.mDrop, Mx.mIfS, Mx.mNx, Mx.mAndV, Mx.mOrV, Mx.mNotV, Mx.mIf, Mx.mB, Mx.mAnd, Mx.mOr, Mx.mNot, Mx.mNil, Mx.mCons, Mx.mCB, Mx.mCall, Mx.m1, Mx.m2, Mx.mC, Mx.mVar, Mx.mChain, Mx.mTup, Mx.mLst, Mx.mPar, Mx.mPar3, Mx.gmName, Mx.gmTup, Mx.gmCons, Mx.gmNil, Mx.mFld, Mx.bind_ok, Mx.bind_fail, Mx.bind_exc, Mx.noX_ok, Mx.thenS_nx, Mx.thenS_rt, Mx.asB_bl, Mx.ofO_some, Mx.ofO_none, Mx.flow_nx, List.map_cons, List.map_nil, List.cons_append, List.nil_append, List.append_nil, List.getElem?_cons_zero, List.getElem?_cons_succ, List.set_cons_zero, List.set_cons_succ, List.replicate_succ, List.replicate_zero, List.length_cons, List.length_nil, Nat.zero_add, Nat.reduceAdd, if_true, if_false, reduceIte, reduceCtorEq, Bool.not_true, Bool.not_false, Bool.false_eq_true, Mx.fI2, Mx.fU, Option.map_some, Option.map_none, Nat.reduceEqDiff, Mx.isi_int, Mx.isi_int2, Mx.isi_tup, Mx.len_tup, decide_true, decide_false, Mx.holds_bind_iff, Mx.holds_ok, Mx.holds_exc]
  refine taken_holds h0 (by omega) (by omega) (fun k1 hk1 => ?_)
  have c1 : (1 : Int) + (k1 : Nat) = ((1 + k1 : Nat) : Int) := by omega
  simp only [Mx.mDef, Mx.mSeq, Mx.mAsg, Mx.mRet, Mx.mDrop, Mx.mIfS, Mx.mNx, Mx.mAndV, Mx.mOrV, Mx.mNotV, Mx.mIf, Mx.mB, Mx.mAnd, Mx.mOr, Mx.mNot, Mx.mNil, Mx.mCons, Mx.mCB, Mx.mCall, Mx.m1, Mx.m2, Mx.mC, Mx.mVar, Mx.mChain, Mx.mTup, Mx.mLst, Mx.mPar, Mx.mPar3, Mx.gmName, Mx.gmTup, Mx.gmCons, Mx.gmNil, Mx.mFld, Mx.bind_ok, Mx.bind_fail, Mx.bind_exc, Mx.noX_ok, Mx.thenS_nx, Mx.thenS_rt, Mx.asB_bl, Mx.ofO_some, Mx.ofO_none, Mx.flow_nx, List.map_cons, List.map_nil, List.cons_append, List.nil_append, List.append_nil, List.getElem?_cons_zero, List.getElem?_cons_succ, List.set_cons_zero, List.set_cons_succ, List.replicate_succ, List.replicate_zero, List.length_cons, List.length_nil, Nat.zero_add, Nat.reduceAdd, if_true, if_false, reduceIte, reduceCtorEq, Bool.not_true, Bool.not_false, Bool.false_eq_true, Mx.fI2, Mx.fU, Option.map_some, Option.map_none, Nat.reduceEqDiff, Mx.isi_int, Mx.isi_int2, Mx.isi_tup, Mx.len_tup, decide_true, decide_false, Mx.holds_bind_iff, Mx.holds_ok, Mx.holds_exc, s0, s3, c1]
  generalize hm : 1 + k1 = m
  have m1 : 1 ≤ m := by omega
  have m4 : m ≤ 4 := by omega
  have hrn : (-(2 ^ 62 : Int) ≤ (n : Int) ∧ (n : Int) < 2 ^ 62) = True := eq_true ⟨by omega, by omega⟩
  have hrm : (-(2 ^ 62 : Int) ≤ (m : Int) ∧ (m : Int) < 2 ^ 62) = True := eq_true ⟨by omega, by omega⟩
  have hrw : (-(2 ^ 62 : Int) ≤ ((ways n b : Nat) : Int) ∧ ((ways n b : Nat) : Int) < 2 ^ 62) = True := eq_true ⟨by omega, by omega⟩
  simp only [Mx.mDef, Mx.mSeq, Mx.mAsg, Mx.mRet, Mx.mDrop, Mx.mIfS, Mx.mNx, Mx.mAndV, Mx.mOrV, Mx.mNotV, Mx.mIf, Mx.mB, Mx.mAnd, Mx.mOr, Mx.mNot, Mx.mNil, Mx.mCons, Mx.mCB, Mx.mCall, Mx.m1, Mx.m2, Mx.mC, Mx.mVar, Mx.mChain, Mx.mTup, Mx.mLst, Mx.mPar, Mx.mPar3, Mx.gmName, Mx.gmTup, Mx.gmCons, Mx.gmNil, Mx.mFld, Mx.bind_ok, Mx.bind_fail, Mx.bind_exc, Mx.noX_ok, Mx.thenS_nx, Mx.thenS_rt, Mx.asB_bl, Mx.ofO_some, Mx.ofO_none, Mx.flow_nx, List.map_cons, List.map_nil, List.cons_append, List.nil_append, List.append_nil, List.getElem?_cons_zero, List.getElem?_cons_succ, List.set_cons_zero, List.set_cons_succ, List.replicate_succ, List.replicate_zero, List.length_cons, List.length_nil, Nat.zero_add, Nat.reduceAdd, if_true, if_false, reduceIte, reduceCtorEq, Bool.not_true, Bool.not_false, Bool.false_eq_true, Mx.fI2, Mx.fU, Option.map_some, Option.map_none, Nat.reduceEqDiff, Mx.isi_int, Mx.isi_int2, Mx.isi_tup, Mx.len_tup, decide_true, decide_false, Mx.holds_bind_iff, Mx.holds_ok, Mx.holds_exc, mFor, miRng1, hrm, Int.toNat_natCast]
  refine holds_mono (fun y hy => ?_) (fun _ _ z => z) (for_rng (Inv := fun i e s => ∃ (j7 j8 : Option A) (op : List (List (Nat × Nat))) (cl : List (List Nat)), e = [some (.ref 0), some (.int n), some (aM b), some (.int 4), some (.int m), some (.ref st.length), some (.ref (st.length + 1)), j7, j8] ∧ RB st s m n (ways n b) i op cl) (by omega) ?_ (fun i e s hi hI => ?_))
  · obtain ⟨y, s⟩ := y
    obtain ⟨e2, g1, j7, j8, op, cl, g2, R⟩ := hy
    dsimp only at g1 R
    subst g1 g2
    simp only [Mx.mDef, Mx.mSeq, Mx.mAsg, Mx.mRet, Mx.mDrop, Mx.mIfS, Mx.mNx, Mx.mAndV, Mx.mOrV, Mx.mNotV, Mx.mIf, Mx.mB, Mx.mAnd, Mx.mOr, Mx.mNot, Mx.mNil, Mx.mCons, Mx.mCB, Mx.mCall, Mx.m1, Mx.m2, Mx.mC, Mx.mVar, Mx.mChain, Mx.mTup, Mx.mLst, Mx.mPar, Mx.mPar3, Mx.gmName, Mx.gmTup, Mx.gmCons, Mx.gmNil, Mx.mFld, Mx.bind_ok, Mx.bind_fail, Mx.bind_exc, Mx.noX_ok, Mx.thenS_nx, Mx.thenS_rt, Mx.asB_bl, Mx.ofO_some, Mx.ofO_none, Mx.flow_nx, List.map_cons, List.map_nil, List.cons_append, List.nil_append, List.append_nil, List.getElem?_cons_zero, List.getElem?_cons_succ, List.set_cons_zero, List.set_cons_succ, List.replicate_succ, List.replicate_zero, List.length_cons, List.length_nil, Nat.zero_add, Nat.reduceAdd, if_true, if_false, reduceIte, reduceCtorEq, Bool.not_true, Bool.not_false, Bool.false_eq_true, Mx.fI2, Mx.fU, Option.map_some, Option.map_none, Nat.reduceEqDiff, Mx.isi_int, Mx.isi_int2, Mx.isi_tup, Mx.len_tup, decide_true, decide_false, Mx.holds_bind_iff, Mx.holds_ok, Mx.holds_exc, tup_refL R.ro, tup_refL R.rc, s2]
    exact ⟨⟨op, cl⟩, R.ok m1 m4, rfl, kp_pre R.rk⟩
  · refine ⟨none, none, [], [], (by simp), fun j hj => ?_, ?_, ?_, rfl, rfl, fun l hl => (by cases hl), fun l hl => (by cases hl)⟩
    · rw [List.append_assoc]
      exact List.getElem?_append_left hj
    · rw [List.append_assoc]
      exact get_new
    · rw [List.append_assoc]
      exact get_new1
  · obtain ⟨j7, j8, op, cl, rfl, R⟩ := hI
    have hlo := R.lo
    have hlc := R.rl
    have hs0 : s[0]? = some .dr := by rw [R.rk 0 hst]; exact h0
    simp only [Mx.mDef, Mx.mSeq, Mx.mAsg, Mx.mRet, Mx.mDrop, Mx.mIfS, Mx.mNx, Mx.mAndV, Mx.mOrV, Mx.mNotV, Mx.mIf, Mx.mB, Mx.mAnd, Mx.mOr, Mx.mNot, Mx.mNil, Mx.mCons, Mx.mCB, Mx.mCall, Mx.m1, Mx.m2, Mx.mC, Mx.mVar, Mx.mChain, Mx.mTup, Mx.mLst, Mx.mPar, Mx.mPar3, Mx.gmName, Mx.gmTup, Mx.gmCons, Mx.gmNil, Mx.mFld, Mx.bind_ok, Mx.bind_fail, Mx.bind_exc, Mx.noX_ok, Mx.thenS_nx, Mx.thenS_rt, Mx.asB_bl, Mx.ofO_some, Mx.ofO_none, Mx.flow_nx, List.map_cons, List.map_nil, List.cons_append, List.nil_append, List.append_nil, List.getElem?_cons_zero, List.getElem?_cons_succ, List.set_cons_zero, List.set_cons_succ, List.replicate_succ, List.replicate_zero, List.length_cons, List.length_nil, Nat.zero_add, Nat.reduceAdd, if_true, if_false, reduceIte, reduceCtorEq, Bool.not_true, Bool.not_false, Bool.false_eq_true, Mx.fI2, Mx.fU, Option.map_some, Option.map_none, Nat.reduceEqDiff, Mx.isi_int, Mx.isi_int2, Mx.isi_tup, Mx.len_tup, decide_true, decide_false, Mx.holds_bind_iff, Mx.holds_ok, Mx.holds_exc, mBM, isL R.ro, mLc, miRng1, hrn, Int.toNat_natCast]
    refine holds_mono (fun y hy => ?_) (fun _ _ z => z) (lc_gen (α := Nat × Nat) aP (fun p => p.1 < m ∧ p.2 < 2) (by omega) rfl (fun j s2' hj p => ⟨_, rfl, ?_⟩))
    rotate_left
    · simp only [Mx.mDef, Mx.mSeq, Mx.mAsg, Mx.mRet, Mx.mDrop, Mx.mIfS, Mx.mNx, Mx.mAndV, Mx.mOrV, Mx.mNotV, Mx.mIf, Mx.mB, Mx.mAnd, Mx.mOr, Mx.mNot, Mx.mNil, Mx.mCons, Mx.mCB, Mx.mCall, Mx.m1, Mx.m2, Mx.mC, Mx.mVar, Mx.mChain, Mx.mTup, Mx.mLst, Mx.mPar, Mx.mPar3, Mx.gmName, Mx.gmTup, Mx.gmCons, Mx.gmNil, Mx.mFld, Mx.bind_ok, Mx.bind_fail, Mx.bind_exc, Mx.noX_ok, Mx.thenS_nx, Mx.thenS_rt, Mx.asB_bl, Mx.ofO_some, Mx.ofO_none, Mx.flow_nx, List.map_cons, List.map_nil, List.cons_append, List.nil_append, List.append_nil, List.getElem?_cons_zero, List.getElem?_cons_succ, List.set_cons_zero, List.set_cons_succ, List.replicate_succ, List.replicate_zero, List.length_cons, List.length_nil, Nat.zero_add, Nat.reduceAdd, if_true, if_false, reduceIte, reduceCtorEq, Bool.not_true, Bool.not_false, Bool.false_eq_true, Mx.fI2, Mx.fU, Option.map_some, Option.map_none, Nat.reduceEqDiff, Mx.isi_int, Mx.isi_int2, Mx.isi_tup, Mx.len_tup, decide_true, decide_false, Mx.holds_bind_iff, Mx.holds_ok, Mx.holds_exc, wipeE]
      refine taken_holds (pre_get p hs0) (by omega) (by omega) (fun k hk => ?_)
      simp only [Mx.mDef, Mx.mSeq, Mx.mAsg, Mx.mRet, Mx.mDrop, Mx.mIfS, Mx.mNx, Mx.mAndV, Mx.mOrV, Mx.mNotV, Mx.mIf, Mx.mB, Mx.mAnd, Mx.mOr, Mx.mNot, Mx.mNil, Mx.mCons, Mx.mCB, Mx.mCall, Mx.m1, Mx.m2, Mx.mC, Mx.mVar, Mx.mChain, Mx.mTup, Mx.mLst, Mx.mPar, Mx.mPar3, Mx.gmName, Mx.gmTup, Mx.gmCons, Mx.gmNil, Mx.mFld, Mx.bind_ok, Mx.bind_fail, Mx.bind_exc, Mx.noX_ok, Mx.thenS_nx, Mx.thenS_rt, Mx.asB_bl, Mx.ofO_some, Mx.ofO_none, Mx.flow_nx, List.map_cons, List.map_nil, List.cons_append, List.nil_append, List.append_nil, List.getElem?_cons_zero, List.getElem?_cons_succ, List.set_cons_zero, List.set_cons_succ, List.replicate_succ, List.replicate_zero, List.length_cons, List.length_nil, Nat.zero_add, Nat.reduceAdd, if_true, if_false, reduceIte, reduceCtorEq, Bool.not_true, Bool.not_false, Bool.false_eq_true, Mx.fI2, Mx.fU, Option.map_some, Option.map_none, Nat.reduceEqDiff, Mx.isi_int, Mx.isi_int2, Mx.isi_tup, Mx.len_tup, decide_true, decide_false, Mx.holds_bind_iff, Mx.holds_ok, Mx.holds_exc]
      refine taken_holds (pre_get p hs0) (by omega) (by omega) (fun k' hk' => ?_)
      simp only [Mx.mDef, Mx.mSeq, Mx.mAsg, Mx.mRet, Mx.mDrop, Mx.mIfS, Mx.mNx, Mx.mAndV, Mx.mOrV, Mx.mNotV, Mx.mIf, Mx.mB, Mx.mAnd, Mx.mOr, Mx.mNot, Mx.mNil, Mx.mCons, Mx.mCB, Mx.mCall, Mx.m1, Mx.m2, Mx.mC, Mx.mVar, Mx.mChain, Mx.mTup, Mx.mLst, Mx.mPar, Mx.mPar3, Mx.gmName, Mx.gmTup, Mx.gmCons, Mx.gmNil, Mx.mFld, Mx.bind_ok, Mx.bind_fail, Mx.bind_exc, Mx.noX_ok, Mx.thenS_nx, Mx.thenS_rt, Mx.asB_bl, Mx.ofO_some, Mx.ofO_none, Mx.flow_nx, List.map_cons, List.map_nil, List.cons_append, List.nil_append, List.append_nil, List.getElem?_cons_zero, List.getElem?_cons_succ, List.set_cons_zero, List.set_cons_succ, List.replicate_succ, List.replicate_zero, List.length_cons, List.length_nil, Nat.zero_add, Nat.reduceAdd, if_true, if_false, reduceIte, reduceCtorEq, Bool.not_true, Bool.not_false, Bool.false_eq_true, Mx.fI2, Mx.fU, Option.map_some, Option.map_none, Nat.reduceEqDiff, Mx.isi_int, Mx.isi_int2, Mx.isi_tup, Mx.len_tup, decide_true, decide_false, Mx.holds_bind_iff, Mx.holds_ok, Mx.holds_exc, s2]
      exact ⟨(k, k'), rfl, ⟨by omega, by omega⟩, List.prefix_refl _⟩
    · obtain ⟨y, sa⟩ := y
      obtain ⟨l, g1, p1, g2, g3, g4⟩ := hy
      dsimp only at g1 p1 g2
      subst g1
      have oa := pre_get p1 R.ro
      have ca := pre_get p1 R.rc
      have ea := app_l (a := .tup (l.map aP)) oa (by rw [List.length_map]; omega)
      simp only [Mx.mDef, Mx.mSeq, Mx.mAsg, Mx.mRet, Mx.mDrop, Mx.mIfS, Mx.mNx, Mx.mAndV, Mx.mOrV, Mx.mNotV, Mx.mIf, Mx.mB, Mx.mAnd, Mx.mOr, Mx.mNot, Mx.mNil, Mx.mCons, Mx.mCB, Mx.mCall, Mx.m1, Mx.m2, Mx.mC, Mx.mVar, Mx.mChain, Mx.mTup, Mx.mLst, Mx.mPar, Mx.mPar3, Mx.gmName, Mx.gmTup, Mx.gmCons, Mx.gmNil, Mx.mFld, Mx.bind_ok, Mx.bind_fail, Mx.bind_exc, Mx.noX_ok, Mx.thenS_nx, Mx.thenS_rt, Mx.asB_bl, Mx.ofO_some, Mx.ofO_none, Mx.flow_nx, List.map_cons, List.map_nil, List.cons_append, List.nil_append, List.append_nil, List.getElem?_cons_zero, List.getElem?_cons_succ, List.set_cons_zero, List.set_cons_succ, List.replicate_succ, List.replicate_zero, List.length_cons, List.length_nil, Nat.zero_add, Nat.reduceAdd, if_true, if_false, reduceIte, reduceCtorEq, Bool.not_true, Bool.not_false, Bool.false_eq_true, Mx.fI2, Mx.fU, Option.map_some, Option.map_none, Nat.reduceEqDiff, Mx.isi_int, Mx.isi_int2, Mx.isi_tup, Mx.len_tup, decide_true, decide_false, Mx.holds_bind_iff, Mx.holds_ok, Mx.holds_exc, tup_refL g2, ea]
      have cb : (sa.set st.length (.lst ((op.map fun l => .tup (l.map aP)) ++ [.tup (l.map aP)])))[st.length + 1]? = some (.lst (cl.map aN)) := by rw [List.getElem?_set_ne (by omega)]; exact ca
      have hb0 : (sa.set st.length (.lst ((op.map fun l => .tup (l.map aP)) ++ [.tup (l.map aP)])))[0]? = some .dr := by rw [List.getElem?_set_ne (by omega)]; exact pre_get p1 hs0
      have ih : (mIf (mB (m2 fEq (mVar 2) (mC (.str "named")))) (mVar 1) (mC (.int 1))) [some (.ref 0), some (.int n), some (aM b), some (.int 4), some (.int m), some (.ref st.length), some (.ref (st.length + 1)), some (.int (i : Nat)), j8] (sa.set st.length (.lst ((op.map fun l => .tup (l.map aP)) ++ [.tup (l.map aP)]))) = .ok (.int (ways n b : Nat), sa.set st.length (.lst ((op.map fun l => .tup (l.map aP)) ++ [.tup (l.map aP)]))) := by
        cases b <;> simp only [Mx.mDef, Mx.mSeq, Mx.mAsg, Mx.mRet, Mx.mDrop, Mx.mIfS, Mx.mNx, Mx.mAndV, Mx.mOrV, Mx.mNotV, Mx.mIf, Mx.mB, Mx.mAnd, Mx.mOr, Mx.mNot, Mx.mNil, Mx.mCons, Mx.mCB, Mx.mCall, Mx.m1, Mx.m2, Mx.mC, Mx.mVar, Mx.mChain, Mx.mTup, Mx.mLst, Mx.mPar, Mx.mPar3, Mx.gmName, Mx.gmTup, Mx.gmCons, Mx.gmNil, Mx.mFld, Mx.bind_ok, Mx.bind_fail, Mx.bind_exc, Mx.noX_ok, Mx.thenS_nx, Mx.thenS_rt, Mx.asB_bl, Mx.ofO_some, Mx.ofO_none, Mx.flow_nx, List.map_cons, List.map_nil, List.cons_append, List.nil_append, List.append_nil, List.getElem?_cons_zero, List.getElem?_cons_succ, List.set_cons_zero, List.set_cons_succ, List.replicate_succ, List.replicate_zero, List.length_cons, List.length_nil, Nat.zero_add, Nat.reduceAdd, if_true, if_false, reduceIte, reduceCtorEq, Bool.not_true, Bool.not_false, Bool.false_eq_true, Mx.fI2, Mx.fU, Option.map_some, Option.map_none, Nat.reduceEqDiff, Mx.isi_int, Mx.isi_int2, Mx.isi_tup, Mx.len_tup, decide_true, decide_false, cond_t] <;> rfl
      cases b with
      | true =>
        simp only [Mx.mDef, Mx.mSeq, Mx.mAsg, Mx.mRet, Mx.mDrop, Mx.mIfS, Mx.mNx, Mx.mAndV, Mx.mOrV, Mx.mNotV, Mx.mIf, Mx.mB, Mx.mAnd, Mx.mOr, Mx.mNot, Mx.mNil, Mx.mCons, Mx.mCB, Mx.mCall, Mx.m1, Mx.m2, Mx.mC, Mx.mVar, Mx.mChain, Mx.mTup, Mx.mLst, Mx.mPar, Mx.mPar3, Mx.gmName, Mx.gmTup, Mx.gmCons, Mx.gmNil, Mx.mFld, Mx.bind_ok, Mx.bind_fail, Mx.bind_exc, Mx.noX_ok, Mx.thenS_nx, Mx.thenS_rt, Mx.asB_bl, Mx.ofO_some, Mx.ofO_none, Mx.flow_nx, List.map_cons, List.map_nil, List.cons_append, List.nil_append, List.append_nil, List.getElem?_cons_zero, List.getElem?_cons_succ, List.set_cons_zero, List.set_cons_succ, List.replicate_succ, List.replicate_zero, List.length_cons, List.length_nil, Nat.zero_add, Nat.reduceAdd, if_true, if_false, reduceIte, reduceCtorEq, Bool.not_true, Bool.not_false, Bool.false_eq_true, Mx.fI2, Mx.fU, Option.map_some, Option.map_none, Nat.reduceEqDiff, Mx.isi_int, Mx.isi_int2, Mx.isi_tup, Mx.len_tup, decide_true, decide_false, Mx.holds_bind_iff, Mx.holds_ok, Mx.holds_exc, mBM, isL cb, mLc, miRng1, cond_t, hrn, Int.toNat_natCast]
        refine holds_mono (fun y hy => ?_) (fun _ _ z => z) (lc_gen (α := Nat) (fun k => .int (k : Nat)) (fun x => x < m) (by omega) rfl (fun j s2' hj p => ⟨_, rfl, ?_⟩))
        rotate_left
        · simp only [Mx.mDef, Mx.mSeq, Mx.mAsg, Mx.mRet, Mx.mDrop, Mx.mIfS, Mx.mNx, Mx.mAndV, Mx.mOrV, Mx.mNotV, Mx.mIf, Mx.mB, Mx.mAnd, Mx.mOr, Mx.mNot, Mx.mNil, Mx.mCons, Mx.mCB, Mx.mCall, Mx.m1, Mx.m2, Mx.mC, Mx.mVar, Mx.mChain, Mx.mTup, Mx.mLst, Mx.mPar, Mx.mPar3, Mx.gmName, Mx.gmTup, Mx.gmCons, Mx.gmNil, Mx.mFld, Mx.bind_ok, Mx.bind_fail, Mx.bind_exc, Mx.noX_ok, Mx.thenS_nx, Mx.thenS_rt, Mx.asB_bl, Mx.ofO_some, Mx.ofO_none, Mx.flow_nx, List.map_cons, List.map_nil, List.cons_append, List.nil_append, List.append_nil, List.getElem?_cons_zero, List.getElem?_cons_succ, List.set_cons_zero, List.set_cons_succ, List.replicate_succ, List.replicate_zero, List.length_cons, List.length_nil, Nat.zero_add, Nat.reduceAdd, if_true, if_false, reduceIte, reduceCtorEq, Bool.not_true, Bool.not_false, Bool.false_eq_true, Mx.fI2, Mx.fU, Option.map_some, Option.map_none, Nat.reduceEqDiff, Mx.isi_int, Mx.isi_int2, Mx.isi_tup, Mx.len_tup, decide_true, decide_false, Mx.holds_bind_iff, Mx.holds_ok, Mx.holds_exc, wipeE]
          refine taken_holds (pre_get p hb0) (by omega) (by omega) (fun k hk => ?_)
          exact ⟨k, rfl, by omega, List.prefix_refl _⟩
        · obtain ⟨y, sb⟩ := y
          obtain ⟨l2, f1, p2, f2, f3, f4⟩ := hy
          dsimp only at f1 p2 f2
          subst f1
          have cc := pre_get p2 cb
          have eb := app_l (a := .tup (aL l2)) cc (by rw [List.length_map]; omega)
          have f2' : sb[(sa.set st.length (.lst ((op.map fun l => .tup (l.map aP)) ++ [.tup (l.map aP)]))).length]? = some (.lst (aL l2)) := f2
          simp only [Mx.mDef, Mx.mSeq, Mx.mAsg, Mx.mRet, Mx.mDrop, Mx.mIfS, Mx.mNx, Mx.mAndV, Mx.mOrV, Mx.mNotV, Mx.mIf, Mx.mB, Mx.mAnd, Mx.mOr, Mx.mNot, Mx.mNil, Mx.mCons, Mx.mCB, Mx.mCall, Mx.m1, Mx.m2, Mx.mC, Mx.mVar, Mx.mChain, Mx.mTup, Mx.mLst, Mx.mPar, Mx.mPar3, Mx.gmName, Mx.gmTup, Mx.gmCons, Mx.gmNil, Mx.mFld, Mx.bind_ok, Mx.bind_fail, Mx.bind_exc, Mx.noX_ok, Mx.thenS_nx, Mx.thenS_rt, Mx.asB_bl, Mx.ofO_some, Mx.ofO_none, Mx.flow_nx, List.map_cons, List.map_nil, List.cons_append, List.nil_append, List.append_nil, List.getElem?_cons_zero, List.getElem?_cons_succ, List.set_cons_zero, List.set_cons_succ, List.replicate_succ, List.replicate_zero, List.length_cons, List.length_nil, Nat.zero_add, Nat.reduceAdd, if_true, if_false, reduceIte, reduceCtorEq, Bool.not_true, Bool.not_false, Bool.false_eq_true, Mx.fI2, Mx.fU, Option.map_some, Option.map_none, Nat.reduceEqDiff, Mx.isi_int, Mx.isi_int2, Mx.isi_tup, Mx.len_tup, decide_true, decide_false, Mx.holds_bind_iff, Mx.holds_ok, Mx.holds_exc, tup_refL f2', eb]
          exact ⟨_, rfl, _, _, _, _, rfl, R.opn p1 ⟨g3, g4⟩ p2 ⟨f3, f4⟩⟩
      | false =>
        have hr1 : (-(2 ^ 62 : Int) ≤ (1 : Int) ∧ (1 : Int) < 2 ^ 62) = True := eq_true ⟨by omega, by omega⟩
        simp only [Mx.mDef, Mx.mSeq, Mx.mAsg, Mx.mRet, Mx.mDrop, Mx.mIfS, Mx.mNx, Mx.mAndV, Mx.mOrV, Mx.mNotV, Mx.mIf, Mx.mB, Mx.mAnd, Mx.mOr, Mx.mNot, Mx.mNil, Mx.mCons, Mx.mCB, Mx.mCall, Mx.m1, Mx.m2, Mx.mC, Mx.mVar, Mx.mChain, Mx.mTup, Mx.mLst, Mx.mPar, Mx.mPar3, Mx.gmName, Mx.gmTup, Mx.gmCons, Mx.gmNil, Mx.mFld, Mx.bind_ok, Mx.bind_fail, Mx.bind_exc, Mx.noX_ok, Mx.thenS_nx, Mx.thenS_rt, Mx.asB_bl, Mx.ofO_some, Mx.ofO_none, Mx.flow_nx, List.map_cons, List.map_nil, List.cons_append, List.nil_append, List.append_nil, List.getElem?_cons_zero, List.getElem?_cons_succ, List.set_cons_zero, List.set_cons_succ, List.replicate_succ, List.replicate_zero, List.length_cons, List.length_nil, Nat.zero_add, Nat.reduceAdd, if_true, if_false, reduceIte, reduceCtorEq, Bool.not_true, Bool.not_false, Bool.false_eq_true, Mx.fI2, Mx.fU, Option.map_some, Option.map_none, Nat.reduceEqDiff, Mx.isi_int, Mx.isi_int2, Mx.isi_tup, Mx.len_tup, decide_true, decide_false, Mx.holds_bind_iff, Mx.holds_ok, Mx.holds_exc, mBM, isL cb, mLc, miRng1, cond_t, hr1]
        refine holds_mono (fun y hy => ?_) (fun _ _ z => z) (lc_gen (m := 1) (α := Nat) (fun k => .int (k : Nat)) (fun x => x < m) (by omega) rfl (fun j s2' hj p => ⟨_, rfl, ?_⟩))
        rotate_left
        · simp only [Mx.mDef, Mx.mSeq, Mx.mAsg, Mx.mRet, Mx.mDrop, Mx.mIfS, Mx.mNx, Mx.mAndV, Mx.mOrV, Mx.mNotV, Mx.mIf, Mx.mB, Mx.mAnd, Mx.mOr, Mx.mNot, Mx.mNil, Mx.mCons, Mx.mCB, Mx.mCall, Mx.m1, Mx.m2, Mx.mC, Mx.mVar, Mx.mChain, Mx.mTup, Mx.mLst, Mx.mPar, Mx.mPar3, Mx.gmName, Mx.gmTup, Mx.gmCons, Mx.gmNil, Mx.mFld, Mx.bind_ok, Mx.bind_fail, Mx.bind_exc, Mx.noX_ok, Mx.thenS_nx, Mx.thenS_rt, Mx.asB_bl, Mx.ofO_some, Mx.ofO_none, Mx.flow_nx, List.map_cons, List.map_nil, List.cons_append, List.nil_append, List.append_nil, List.getElem?_cons_zero, List.getElem?_cons_succ, List.set_cons_zero, List.set_cons_succ, List.replicate_succ, List.replicate_zero, List.length_cons, List.length_nil, Nat.zero_add, Nat.reduceAdd, if_true, if_false, reduceIte, reduceCtorEq, Bool.not_true, Bool.not_false, Bool.false_eq_true, Mx.fI2, Mx.fU, Option.map_some, Option.map_none, Nat.reduceEqDiff, Mx.isi_int, Mx.isi_int2, Mx.isi_tup, Mx.len_tup, decide_true, decide_false, Mx.holds_bind_iff, Mx.holds_ok, Mx.holds_exc, wipeE]
          refine taken_holds (pre_get p hb0) (by omega) (by omega) (fun k hk => ?_)
          exact ⟨k, rfl, by omega, List.prefix_refl _⟩
        · obtain ⟨y, sb⟩ := y
          obtain ⟨l2, f1, p2, f2, f3, f4⟩ := hy
          dsimp only at f1 p2 f2
          subst f1
          have cc := pre_get p2 cb
          have eb := app_l (a := .tup (aL l2)) cc (by rw [List.length_map]; omega)
          have f2' : sb[(sa.set st.length (.lst ((op.map fun l => .tup (l.map aP)) ++ [.tup (l.map aP)]))).length]? = some (.lst (aL l2)) := f2
          simp only [Mx.mDef, Mx.mSeq, Mx.mAsg, Mx.mRet, Mx.mDrop, Mx.mIfS, Mx.mNx, Mx.mAndV, Mx.mOrV, Mx.mNotV, Mx.mIf, Mx.mB, Mx.mAnd, Mx.mOr, Mx.mNot, Mx.mNil, Mx.mCons, Mx.mCB, Mx.mCall, Mx.m1, Mx.m2, Mx.mC, Mx.mVar, Mx.mChain, Mx.mTup, Mx.mLst, Mx.mPar, Mx.mPar3, Mx.gmName, Mx.gmTup, Mx.gmCons, Mx.gmNil, Mx.mFld, Mx.bind_ok, Mx.bind_fail, Mx.bind_exc, Mx.noX_ok, Mx.thenS_nx, Mx.thenS_rt, Mx.asB_bl, Mx.ofO_some, Mx.ofO_none, Mx.flow_nx, List.map_cons, List.map_nil, List.cons_append, List.nil_append, List.append_nil, List.getElem?_cons_zero, List.getElem?_cons_succ, List.set_cons_zero, List.set_cons_succ, List.replicate_succ, List.replicate_zero, List.length_cons, List.length_nil, Nat.zero_add, Nat.reduceAdd, if_true, if_false, reduceIte, reduceCtorEq, Bool.not_true, Bool.not_false, Bool.false_eq_true, Mx.fI2, Mx.fU, Option.map_some, Option.map_none, Nat.reduceEqDiff, Mx.isi_int, Mx.isi_int2, Mx.isi_tup, Mx.len_tup, decide_true, decide_false, Mx.holds_bind_iff, Mx.holds_ok, Mx.holds_exc, tup_refL f2', eb]
          exact ⟨_, rfl, _, _, _, _, rfl, R.opn p1 ⟨g3, g4⟩ p2 ⟨f3, f4⟩⟩
end
end Mx

/-! ### MkME -/
set_option Elab.async false
set_option linter.all false
set_option maxRecDepth 100000
set_option maxHeartbeats 1000000
namespace Mx
open PySem PySem.Spec PyProof.Rows L2
section
variable {q : Qn} {r : Rd} {n c d : Nat} {b : Bool} {st : Sto} {ts : List Int} {E : Xc → Sto → Prop}
theorem lc_genT {α : Type} {L : List A} {mg : GM} {me : EM} {wenv : Ev} (gA : α → A) (Pr : α → Prop) (hm : L.length ≤ 1000)
    (step : ∀ (i : Nat) (a : A) (s : Sto), L[i]? = some a → st <+: s → ∃ e, mg a wenv s = .ok (e, s) ∧ (me e s).holds (fun z => ∃ x : α, z.1 = gA x ∧ Pr x ∧ s <+: z.2) Fls) :
    (lcG (itTup L) mg (fun _ st => .ok (true, st)) me wenv st.length fuel 0 (st ++ [.lst []])).holds (fun r => ∃ l : List α, r.1 = .ref st.length ∧ st <+: r.2 ∧ r.2[st.length]? = some (.lst (l.map gA)) ∧ l.length = L.length ∧ ∀ x ∈ l, Pr x) E := by
  refine holds_mono (fun y hy2 => ?_) (fun _ _ z => z) (lc_run (L := L) (fun i acc => ∃ l : List α, acc = l.map gA ∧ l.length = i ∧ ∀ x ∈ l, Pr x) (by omega) (fun i s p => (rfl : itTup L i s = ofL L i s)) ⟨[], rfl, rfl, fun x hx => by cases hx⟩ (fun i a s acc ha p hP => ?_))
  · obtain ⟨acc, h1, h2, h3, h4, l, h5, h6, h7⟩ := hy2
    exact ⟨l, h1, h2, by rw [h3, h5], h6, h7⟩
  · obtain ⟨e, e1, e2⟩ := step i a s ha p
    rw [e1]
    refine ⟨rfl, List.prefix_refl _, ?_⟩
    rw [if_pos rfl]
    refine holds_mono (fun z hz => ?_) (fun _ _ z => z) e2
    obtain ⟨x, h1, h2, h3⟩ := hz
    obtain ⟨l, rfl, h5, h6⟩ := hP
    refine ⟨h3, l ++ [x], by rw [h1, List.map_append]; rfl, by rw [List.length_append, h5]; rfl, fun y hy => ?_⟩
    rcases List.mem_append.mp hy with hy | hy
    · exact h6 y hy
    · rw [List.mem_singleton.mp hy]
      exact h2
theorem RB.setc {s s2 : Sto} {m i k : Nat} {op : List (List (Nat × Nat))} {cl : List (List Nat)} {l2 : List Nat} (R : RB st s m n c i op cl) (p : s <+: s2) (hl2 : l2.length = c ∧ ∀ x ∈ l2, x < m) :
    RB st (s2.set (st.length + 1) (.lst ((cl.map aN).set k (.tup (aL l2))))) m n c i op (cl.set k l2) := by
  have o2 := pre_get p R.ro
  have c2 := pre_get p R.rc
  refine ⟨fun j hj => ?_, ?_, ?_, R.lo, by rw [List.length_set, R.rl], R.xo, fun x hx => ?_⟩
  · rw [List.getElem?_set_ne (by omega), kp_of p j (by have := get_lt' R.ro; omega)]
    exact R.rk j hj
  · rw [List.getElem?_set_ne (by omega)]
    exact o2
  · rw [get_set c2, List.map_set]
    rfl
  · rcases List.mem_or_eq_of_mem_set hx with hx | rfl
    · exact R.xc x hx
    · exact hl2
theorem pick_h {k : Nat} {l : List A} {Q : A × Sto → Prop} (h0 : st[0]? = some .dr) (hk : st[k]? = some (.lst l)) (h1 : 1 ≤ l.length) (h2 : l.length ≤ 1000) (q : ∀ a ∈ l, Q (a, st)) : (f__law_pick [.ref 0, .ref k] st).holds Q E := by
  unfold f__law_pick m__law_pick
  simp only [Mx.mDef, Mx.mSeq, Mx.mAsg, Mx.mRet, Mx.mDrop, Mx.mIfS, Mx.mNx, Mx.mAndV, Mx.mOrV, Mx.mNotV, Mx.mIf, Mx.mB, Mx.mAnd, Mx.mOr, Mx.mNot, Mx.mNil, Mx.mCons, Mx.mCB, Mx.mCall, Mx.m1, Mx.m2, Mx.mC, Mx.mVar, Mx.mChain, Mx.mTup, Mx.mLst, Mx.mPar, Mx.mPar3, Mx.gmName, Mx.gmTup, Mx.gmCons, Mx.gmNil, Mx.mFld, Mx.bind_ok, Mx.bind_fail, Mx.bind_exc, Mx.noX_ok, Mx.thenS_nx, Mx.thenS_rt, Mx.asB_bl, Mx.ofO_some, Mx.ofO_none, Mx.flow_nx, List.map_cons, List.map_nil, List.cons_append, List.nil_append, List.append_nil, List.getElem?_cons_zero, List.getElem?_cons_succ, List.set_cons_zero, List.set_cons_succ, List.replicate_succ, List.replicate_zero, List.length_cons, List.length_nil, Nat.zero_add, Nat.reduceAdd, if_true, if_false, reduceIte, reduceCtorEq, Bool.not_true, Bool.not_false, Bool.false_eq_true, Mx.fI2, Mx.fU, Option.map_some, Option.map_none, Nat.reduceEqDiff, Mx.isi_int, Mx.isi_int2, Mx.isi_tup, Mx.len_tup, decide_true, decide_false, Mx.holds_bind_iff, Mx.holds_ok, Mx.holds_exc, len_ref hk]
  refine taken_holds h0 (by omega) (by omega) (fun i hi => ?_)
  have hi : i < l.length := by omega
  have e := ix_lst hk (List.getElem?_eq_getElem hi)
  simp only [Mx.mDef, Mx.mSeq, Mx.mAsg, Mx.mRet, Mx.mDrop, Mx.mIfS, Mx.mNx, Mx.mAndV, Mx.mOrV, Mx.mNotV, Mx.mIf, Mx.mB, Mx.mAnd, Mx.mOr, Mx.mNot, Mx.mNil, Mx.mCons, Mx.mCB, Mx.mCall, Mx.m1, Mx.m2, Mx.mC, Mx.mVar, Mx.mChain, Mx.mTup, Mx.mLst, Mx.mPar, Mx.mPar3, Mx.gmName, Mx.gmTup, Mx.gmCons, Mx.gmNil, Mx.mFld, Mx.bind_ok, Mx.bind_fail, Mx.bind_exc, Mx.noX_ok, Mx.thenS_nx, Mx.thenS_rt, Mx.asB_bl, Mx.ofO_some, Mx.ofO_none, Mx.flow_nx, List.map_cons, List.map_nil, List.cons_append, List.nil_append, List.append_nil, List.getElem?_cons_zero, List.getElem?_cons_succ, List.set_cons_zero, List.set_cons_succ, List.replicate_succ, List.replicate_zero, List.length_cons, List.length_nil, Nat.zero_add, Nat.reduceAdd, if_true, if_false, reduceIte, reduceCtorEq, Bool.not_true, Bool.not_false, Bool.false_eq_true, Mx.fI2, Mx.fU, Option.map_some, Option.map_none, Nat.reduceEqDiff, Mx.isi_int, Mx.isi_int2, Mx.isi_tup, Mx.len_tup, decide_true, decide_false, Mx.holds_bind_iff, Mx.holds_ok, Mx.holds_exc, e]
  exact q _ (List.getElem_mem hi)
theorem near_h (hq : QOk q n) (h0 : st[0]? = some .dr) : (f__law_near [.ref 0, aQ q, .int n, aM b] st).holds (fun y => ∃ r, ROk r n (ways n b) ∧ y.1 = aR r ∧ st <+: y.2) E := by
  have s0 : ((0 : Nat) ≤ sizeLine) = True := by simp
  have s2 : ((2 : Nat) ≤ sizeLine) = True := by rw [sizeLine_eq]; simp
  have hst := get_lt' h0
  have n1 := hq.n1
  have n2 := hq.n2
  have m1 := hq.m1
  have m2 := hq.m2
  have hw : ways n b ≤ 2 := by unfold ways; split <;> omega
  have hrn : (-(2 ^ 62 : Int) ≤ (n : Int) ∧ (n : Int) < 2 ^ 62) = True := eq_true ⟨by omega, by omega⟩
  have hrm : (-(2 ^ 62 : Int) ≤ (q.st.length : Int) ∧ (q.st.length : Int) < 2 ^ 62) = True := eq_true ⟨by omega, by omega⟩
  have hr1 : (-(2 ^ 62 : Int) ≤ (1 : Int) ∧ (1 : Int) < 2 ^ 62) = True := eq_true ⟨by omega, by omega⟩
  have bq := @back_q q n
  unfold f__law_near m__law_near
  generalize f__law_back = fb at bq ⊢
  simp only [Mx.mDef, Mx.mSeq, Mx.mAsg, Mx.mRet, Mx.mDrop, Mx.mIfS, Mx.mNx, Mx.mAndV, Mx.mOrV, Mx.mNotV, Mx.mIf, Mx.mB, Mx.mAnd, Mx.mOr, Mx.mNot, Mx.mNil, Mx.mCons, Mx.mCB, Mx.mCall, Mx.m1, Mx.m2, Mx.mC, Mx.mVar, Mx.mChain, Mx.mTup, Mx.mLst, Mx.mPar, Mx.mPar3, Mx.gmName, Mx.gmTup, Mx.gmCons, Mx.gmNil, Mx.mFld, Mx.bind_ok, Mx.bind_fail, Mx.bind_exc, Mx.noX_ok, Mx.thenS_nx, Mx.thenS_rt, Mx.asB_bl, Mx.ofO_some, Mx.ofO_none, Mx.flow_nx, List.map_cons, List.map_nil, List.cons_append, List.nil_append, List.append_nil, List.getElem?_cons_zero, List.getElem?_cons_succ, List.set_cons_zero, List.set_cons_succ, List.replicate_succ, List.replicate_zero, List.length_cons, List.length_nil, Nat.zero_add, Nat.reduceAdd, if_true, if_false, reduceIte, reduceCtorEq, Bool.not_true, Bool.not_false, Bool.false_eq_true, Mx.fI2, Mx.fU, Option.map_some, Option.map_none, Nat.reduceEqDiff, Mx.isi_int, Mx.isi_int2, Mx.isi_tup, Mx.len_tup, decide_true, decide_false, Mx.holds_bind_iff, Mx.holds_ok, Mx.holds_exc]
  refine taken_holds h0 (by omega) (by omega) (fun k1 hk1 => ?_)
  by_cases hk : k1 = 0
  · have d1 : decide ((k1 : Int) = 0) = true := decide_eq_true (by omega)
    simp only [Mx.mDef, Mx.mSeq, Mx.mAsg, Mx.mRet, Mx.mDrop, Mx.mIfS, Mx.mNx, Mx.mAndV, Mx.mOrV, Mx.mNotV, Mx.mIf, Mx.mB, Mx.mAnd, Mx.mOr, Mx.mNot, Mx.mNil, Mx.mCons, Mx.mCB, Mx.mCall, Mx.m1, Mx.m2, Mx.mC, Mx.mVar, Mx.mChain, Mx.mTup, Mx.mLst, Mx.mPar, Mx.mPar3, Mx.gmName, Mx.gmTup, Mx.gmCons, Mx.gmNil, Mx.mFld, Mx.bind_ok, Mx.bind_fail, Mx.bind_exc, Mx.noX_ok, Mx.thenS_nx, Mx.thenS_rt, Mx.asB_bl, Mx.ofO_some, Mx.ofO_none, Mx.flow_nx, List.map_cons, List.map_nil, List.cons_append, List.nil_append, List.append_nil, List.getElem?_cons_zero, List.getElem?_cons_succ, List.set_cons_zero, List.set_cons_succ, List.replicate_succ, List.replicate_zero, List.length_cons, List.length_nil, Nat.zero_add, Nat.reduceAdd, if_true, if_false, reduceIte, reduceCtorEq, Bool.not_true, Bool.not_false, Bool.false_eq_true, Mx.fI2, Mx.fU, Option.map_some, Option.map_none, Nat.reduceEqDiff, Mx.isi_int, Mx.isi_int2, Mx.isi_tup, Mx.len_tup, decide_true, decide_false, Mx.holds_bind_iff, Mx.holds_ok, Mx.holds_exc, eq_int, d1]
    exact holds_mono (fun y hy => hy) (fun _ _ z => z) (reader_h h0 n1 n2)
  · have d1 : decide ((k1 : Int) = 0) = false := decide_eq_false (by omega)
    simp only [Mx.mDef, Mx.mSeq, Mx.mAsg, Mx.mRet, Mx.mDrop, Mx.mIfS, Mx.mNx, Mx.mAndV, Mx.mOrV, Mx.mNotV, Mx.mIf, Mx.mB, Mx.mAnd, Mx.mOr, Mx.mNot, Mx.mNil, Mx.mCons, Mx.mCB, Mx.mCall, Mx.m1, Mx.m2, Mx.mC, Mx.mVar, Mx.mChain, Mx.mTup, Mx.mLst, Mx.mPar, Mx.mPar3, Mx.gmName, Mx.gmTup, Mx.gmCons, Mx.gmNil, Mx.mFld, Mx.bind_ok, Mx.bind_fail, Mx.bind_exc, Mx.noX_ok, Mx.thenS_nx, Mx.thenS_rt, Mx.asB_bl, Mx.ofO_some, Mx.ofO_none, Mx.flow_nx, List.map_cons, List.map_nil, List.cons_append, List.nil_append, List.append_nil, List.getElem?_cons_zero, List.getElem?_cons_succ, List.set_cons_zero, List.set_cons_succ, List.replicate_succ, List.replicate_zero, List.length_cons, List.length_nil, Nat.zero_add, Nat.reduceAdd, if_true, if_false, reduceIte, reduceCtorEq, Bool.not_true, Bool.not_false, Bool.false_eq_true, Mx.fI2, Mx.fU, Option.map_some, Option.map_none, Nat.reduceEqDiff, Mx.isi_int, Mx.isi_int2, Mx.isi_tup, Mx.len_tup, decide_true, decide_false, Mx.holds_bind_iff, Mx.holds_ok, Mx.holds_exc, eq_int, d1]
    unfold aQ
    simp only [Mx.mDef, Mx.mSeq, Mx.mAsg, Mx.mRet, Mx.mDrop, Mx.mIfS, Mx.mNx, Mx.mAndV, Mx.mOrV, Mx.mNotV, Mx.mIf, Mx.mB, Mx.mAnd, Mx.mOr, Mx.mNot, Mx.mNil, Mx.mCons, Mx.mCB, Mx.mCall, Mx.m1, Mx.m2, Mx.mC, Mx.mVar, Mx.mChain, Mx.mTup, Mx.mLst, Mx.mPar, Mx.mPar3, Mx.gmName, Mx.gmTup, Mx.gmCons, Mx.gmNil, Mx.mFld, Mx.bind_ok, Mx.bind_fail, Mx.bind_exc, Mx.noX_ok, Mx.thenS_nx, Mx.thenS_rt, Mx.asB_bl, Mx.ofO_some, Mx.ofO_none, Mx.flow_nx, List.map_cons, List.map_nil, List.cons_append, List.nil_append, List.append_nil, List.getElem?_cons_zero, List.getElem?_cons_succ, List.set_cons_zero, List.set_cons_succ, List.replicate_succ, List.replicate_zero, List.length_cons, List.length_nil, Nat.zero_add, Nat.reduceAdd, if_true, if_false, reduceIte, reduceCtorEq, Bool.not_true, Bool.not_false, Bool.false_eq_true, Mx.fI2, Mx.fU, Option.map_some, Option.map_none, Nat.reduceEqDiff, Mx.isi_int, Mx.isi_int2, Mx.isi_tup, Mx.len_tup, decide_true, decide_false, Mx.holds_bind_iff, Mx.holds_ok, Mx.holds_exc, s0, mFor, miRng1, List.length_map, hrm, Int.toNat_natCast]
    refine holds_mono (fun y hy => ?_) (fun _ _ z => z) (for_rng (Inv := fun i e s => ∃ (j8 j9 j10 j11 : Option A) (op : List (List (Nat × Nat))) (cl : List (List Nat)), e = [some (.ref 0), some (.tup [.tup (q.st.map aN), aN q.ms]), some (.int n), some (aM b), some (.tup (q.st.map aN)), some (aN q.ms), some (.ref st.length), some (.ref (st.length + 1)), j8, j9, j10, j11] ∧ RB st s q.st.length n (ways n b) i op cl) (by omega) ?_ (fun i e s hi hI => ?_))
    · obtain ⟨y, s⟩ := y
      obtain ⟨e2, g1, j8, j9, j10, j11, op, cl, g2, R⟩ := hy
      dsimp only at g1 R
      subst g1 g2
      have hs0 : s[0]? = some .dr := by rw [R.rk 0 hst]; exact h0
      have hlc := R.rl
      have emul : fMul (.int 2) (.int (q.st.length : Nat)) s = some (.int ((2 * q.st.length : Nat) : Int), s) := by
        unfold fMul
        dsimp only
        rw [if_pos ⟨by decide, by decide⟩]
        congr 3
      simp only [Mx.mDef, Mx.mSeq, Mx.mAsg, Mx.mRet, Mx.mDrop, Mx.mIfS, Mx.mNx, Mx.mAndV, Mx.mOrV, Mx.mNotV, Mx.mIf, Mx.mB, Mx.mAnd, Mx.mOr, Mx.mNot, Mx.mNil, Mx.mCons, Mx.mCB, Mx.mCall, Mx.m1, Mx.m2, Mx.mC, Mx.mVar, Mx.mChain, Mx.mTup, Mx.mLst, Mx.mPar, Mx.mPar3, Mx.gmName, Mx.gmTup, Mx.gmCons, Mx.gmNil, Mx.mFld, Mx.bind_ok, Mx.bind_fail, Mx.bind_exc, Mx.noX_ok, Mx.thenS_nx, Mx.thenS_rt, Mx.asB_bl, Mx.ofO_some, Mx.ofO_none, Mx.flow_nx, List.map_cons, List.map_nil, List.cons_append, List.nil_append, List.append_nil, List.getElem?_cons_zero, List.getElem?_cons_succ, List.set_cons_zero, List.set_cons_succ, List.replicate_succ, List.replicate_zero, List.length_cons, List.length_nil, Nat.zero_add, Nat.reduceAdd, if_true, if_false, reduceIte, reduceCtorEq, Bool.not_true, Bool.not_false, Bool.false_eq_true, Mx.fI2, Mx.fU, Option.map_some, Option.map_none, Nat.reduceEqDiff, Mx.isi_int, Mx.isi_int2, Mx.isi_tup, Mx.len_tup, decide_true, decide_false, Mx.holds_bind_iff, Mx.holds_ok, Mx.holds_exc, List.length_map, emul]
      refine taken_holds hs0 (by omega) (by omega) (fun at_ hat => ?_)
      have done : ∀ (s' : Sto) (cl' : List (List Nat)), RB st s' q.st.length n (ways n b) q.st.length op cl' → (∃ r, ROk r n (ways n b) ∧ A.tup [.tup (op.map fun l => .tup (l.map aP)), .tup (cl'.map aN)] = aR r ∧ st <+: s') := fun s' cl' R' => ⟨⟨op, cl'⟩, R'.ok m1 m2, rfl, kp_pre R'.rk⟩
      by_cases h1 : at_ < q.st.length
      · have d1 : decide ((at_ : Int) < (q.st.length : Nat)) = true := decide_eq_true (by omega)
        simp only [Mx.mDef, Mx.mSeq, Mx.mAsg, Mx.mRet, Mx.mDrop, Mx.mIfS, Mx.mNx, Mx.mAndV, Mx.mOrV, Mx.mNotV, Mx.mIf, Mx.mB, Mx.mAnd, Mx.mOr, Mx.mNot, Mx.mNil, Mx.mCons, Mx.mCB, Mx.mCall, Mx.m1, Mx.m2, Mx.mC, Mx.mVar, Mx.mChain, Mx.mTup, Mx.mLst, Mx.mPar, Mx.mPar3, Mx.gmName, Mx.gmTup, Mx.gmCons, Mx.gmNil, Mx.mFld, Mx.bind_ok, Mx.bind_fail, Mx.bind_exc, Mx.noX_ok, Mx.thenS_nx, Mx.thenS_rt, Mx.asB_bl, Mx.ofO_some, Mx.ofO_none, Mx.flow_nx, List.map_cons, List.map_nil, List.cons_append, List.nil_append, List.append_nil, List.getElem?_cons_zero, List.getElem?_cons_succ, List.set_cons_zero, List.set_cons_succ, List.replicate_succ, List.replicate_zero, List.length_cons, List.length_nil, Nat.zero_add, Nat.reduceAdd, if_true, if_false, reduceIte, reduceCtorEq, Bool.not_true, Bool.not_false, Bool.false_eq_true, Mx.fI2, Mx.fU, Option.map_some, Option.map_none, Nat.reduceEqDiff, Mx.isi_int, Mx.isi_int2, Mx.isi_tup, Mx.len_tup, decide_true, decide_false, Mx.holds_bind_iff, Mx.holds_ok, Mx.holds_exc, d1, List.length_map]
        refine taken_holds hs0 (by omega) (by omega) (fun k2 hk2 => ?_)
        cases d2 : decide ((k2 : Int) = 0) with
        | false =>
          simp only [Mx.mDef, Mx.mSeq, Mx.mAsg, Mx.mRet, Mx.mDrop, Mx.mIfS, Mx.mNx, Mx.mAndV, Mx.mOrV, Mx.mNotV, Mx.mIf, Mx.mB, Mx.mAnd, Mx.mOr, Mx.mNot, Mx.mNil, Mx.mCons, Mx.mCB, Mx.mCall, Mx.m1, Mx.m2, Mx.mC, Mx.mVar, Mx.mChain, Mx.mTup, Mx.mLst, Mx.mPar, Mx.mPar3, Mx.gmName, Mx.gmTup, Mx.gmCons, Mx.gmNil, Mx.mFld, Mx.bind_ok, Mx.bind_fail, Mx.bind_exc, Mx.noX_ok, Mx.thenS_nx, Mx.thenS_rt, Mx.asB_bl, Mx.ofO_some, Mx.ofO_none, Mx.flow_nx, List.map_cons, List.map_nil, List.cons_append, List.nil_append, List.append_nil, List.getElem?_cons_zero, List.getElem?_cons_succ, List.set_cons_zero, List.set_cons_succ, List.replicate_succ, List.replicate_zero, List.length_cons, List.length_nil, Nat.zero_add, Nat.reduceAdd, if_true, if_false, reduceIte, reduceCtorEq, Bool.not_true, Bool.not_false, Bool.false_eq_true, Mx.fI2, Mx.fU, Option.map_some, Option.map_none, Nat.reduceEqDiff, Mx.isi_int, Mx.isi_int2, Mx.isi_tup, Mx.len_tup, decide_true, decide_false, Mx.holds_bind_iff, Mx.holds_ok, Mx.holds_exc, eq_int, d2, tup_refL R.ro, tup_refL R.rc, s2]
          exact done s cl R
        | true =>
          have ha : at_ < cl.length := by omega
          have ec : fIx (.ref (st.length + 1)) (.int (at_ : Nat)) s = some (aN (cl.getD at_ []), s) := ix_lst R.rc (by rw [List.getElem?_map, List.getD_eq_getElem?_getD, List.getElem?_eq_getElem ha]; rfl)
          have hcl := (R.xc _ (getD_mem (d := []) ha)).1
          simp only [Mx.mDef, Mx.mSeq, Mx.mAsg, Mx.mRet, Mx.mDrop, Mx.mIfS, Mx.mNx, Mx.mAndV, Mx.mOrV, Mx.mNotV, Mx.mIf, Mx.mB, Mx.mAnd, Mx.mOr, Mx.mNot, Mx.mNil, Mx.mCons, Mx.mCB, Mx.mCall, Mx.m1, Mx.m2, Mx.mC, Mx.mVar, Mx.mChain, Mx.mTup, Mx.mLst, Mx.mPar, Mx.mPar3, Mx.gmName, Mx.gmTup, Mx.gmCons, Mx.gmNil, Mx.mFld, Mx.bind_ok, Mx.bind_fail, Mx.bind_exc, Mx.noX_ok, Mx.thenS_nx, Mx.thenS_rt, Mx.asB_bl, Mx.ofO_some, Mx.ofO_none, Mx.flow_nx, List.map_cons, List.map_nil, List.cons_append, List.nil_append, List.append_nil, List.getElem?_cons_zero, List.getElem?_cons_succ, List.set_cons_zero, List.set_cons_succ, List.replicate_succ, List.replicate_zero, List.length_cons, List.length_nil, Nat.zero_add, Nat.reduceAdd, if_true, if_false, reduceIte, reduceCtorEq, Bool.not_true, Bool.not_false, Bool.false_eq_true, Mx.fI2, Mx.fU, Option.map_some, Option.map_none, Nat.reduceEqDiff, Mx.isi_int, Mx.isi_int2, Mx.isi_tup, Mx.len_tup, decide_true, decide_false, Mx.holds_bind_iff, Mx.holds_ok, Mx.holds_exc, eq_int, d2, mLc, miTup, ec, List.length_map]
          rw [show aN (cl.getD at_ []) = .tup (aL (cl.getD at_ [])) from rfl]
          simp only [Mx.mDef, Mx.mSeq, Mx.mAsg, Mx.mRet, Mx.mDrop, Mx.mIfS, Mx.mNx, Mx.mAndV, Mx.mOrV, Mx.mNotV, Mx.mIf, Mx.mB, Mx.mAnd, Mx.mOr, Mx.mNot, Mx.mNil, Mx.mCons, Mx.mCB, Mx.mCall, Mx.m1, Mx.m2, Mx.mC, Mx.mVar, Mx.mChain, Mx.mTup, Mx.mLst, Mx.mPar, Mx.mPar3, Mx.gmName, Mx.gmTup, Mx.gmCons, Mx.gmNil, Mx.mFld, Mx.bind_ok, Mx.bind_fail, Mx.bind_exc, Mx.noX_ok, Mx.thenS_nx, Mx.thenS_rt, Mx.asB_bl, Mx.ofO_some, Mx.ofO_none, Mx.flow_nx, List.map_cons, List.map_nil, List.cons_append, List.nil_append, List.append_nil, List.getElem?_cons_zero, List.getElem?_cons_succ, List.set_cons_zero, List.set_cons_succ, List.replicate_succ, List.replicate_zero, List.length_cons, List.length_nil, Nat.zero_add, Nat.reduceAdd, if_true, if_false, reduceIte, reduceCtorEq, Bool.not_true, Bool.not_false, Bool.false_eq_true, Mx.fI2, Mx.fU, Option.map_some, Option.map_none, Nat.reduceEqDiff, Mx.isi_int, Mx.isi_int2, Mx.isi_tup, Mx.len_tup, decide_true, decide_false, Mx.holds_bind_iff, Mx.holds_ok, Mx.holds_exc]
          refine holds_mono (fun y hy => ?_) (fun _ _ z => z) (lc_genT (α := Nat) (fun k => .int (k : Nat)) (fun x => x < q.st.length) (by rw [aL_len]; omega) (fun j a s2' hj p => ⟨_, rfl, ?_⟩))
          rotate_left
          · simp only [Mx.mDef, Mx.mSeq, Mx.mAsg, Mx.mRet, Mx.mDrop, Mx.mIfS, Mx.mNx, Mx.mAndV, Mx.mOrV, Mx.mNotV, Mx.mIf, Mx.mB, Mx.mAnd, Mx.mOr, Mx.mNot, Mx.mNil, Mx.mCons, Mx.mCB, Mx.mCall, Mx.m1, Mx.m2, Mx.mC, Mx.mVar, Mx.mChain, Mx.mTup, Mx.mLst, Mx.mPar, Mx.mPar3, Mx.gmName, Mx.gmTup, Mx.gmCons, Mx.gmNil, Mx.mFld, Mx.bind_ok, Mx.bind_fail, Mx.bind_exc, Mx.noX_ok, Mx.thenS_nx, Mx.thenS_rt, Mx.asB_bl, Mx.ofO_some, Mx.ofO_none, Mx.flow_nx, List.map_cons, List.map_nil, List.cons_append, List.nil_append, List.append_nil, List.getElem?_cons_zero, List.getElem?_cons_succ, List.set_cons_zero, List.set_cons_succ, List.replicate_succ, List.replicate_zero, List.length_cons, List.length_nil, Nat.zero_add, Nat.reduceAdd, if_true, if_false, reduceIte, reduceCtorEq, Bool.not_true, Bool.not_false, Bool.false_eq_true, Mx.fI2, Mx.fU, Option.map_some, Option.map_none, Nat.reduceEqDiff, Mx.isi_int, Mx.isi_int2, Mx.isi_tup, Mx.len_tup, decide_true, decide_false, Mx.holds_bind_iff, Mx.holds_ok, Mx.holds_exc, wipeE, List.length_map]
            refine taken_holds (pre_get p hs0) (by omega) (by omega) (fun k hk => ?_)
            exact ⟨k, rfl, by omega, List.prefix_refl _⟩
          · obtain ⟨y, sb⟩ := y
            obtain ⟨l2, f1, p2, f2, f3, f4⟩ := hy
            dsimp only at f1 p2 f2
            subst f1
            rw [aL_len] at f3
            have f2' : sb[s.length]? = some (.lst (aL l2)) := f2
            have cc := pre_get p2 R.rc
            have ei : ixN (cl.map aN).length ((at_ : Nat) : Int) = some at_ := ixN_lt (by rw [List.length_map]; exact ha)
            have R2 := R.setc (k := at_) p2 (l2 := l2) ⟨by rw [f3, hcl], f4⟩
            simp only [Mx.mDef, Mx.mSeq, Mx.mAsg, Mx.mRet, Mx.mDrop, Mx.mIfS, Mx.mNx, Mx.mAndV, Mx.mOrV, Mx.mNotV, Mx.mIf, Mx.mB, Mx.mAnd, Mx.mOr, Mx.mNot, Mx.mNil, Mx.mCons, Mx.mCB, Mx.mCall, Mx.m1, Mx.m2, Mx.mC, Mx.mVar, Mx.mChain, Mx.mTup, Mx.mLst, Mx.mPar, Mx.mPar3, Mx.gmName, Mx.gmTup, Mx.gmCons, Mx.gmNil, Mx.mFld, Mx.bind_ok, Mx.bind_fail, Mx.bind_exc, Mx.noX_ok, Mx.thenS_nx, Mx.thenS_rt, Mx.asB_bl, Mx.ofO_some, Mx.ofO_none, Mx.flow_nx, List.map_cons, List.map_nil, List.cons_append, List.nil_append, List.append_nil, List.getElem?_cons_zero, List.getElem?_cons_succ, List.set_cons_zero, List.set_cons_succ, List.replicate_succ, List.replicate_zero, List.length_cons, List.length_nil, Nat.zero_add, Nat.reduceAdd, if_true, if_false, reduceIte, reduceCtorEq, Bool.not_true, Bool.not_false, Bool.false_eq_true, Mx.fI2, Mx.fU, Option.map_some, Option.map_none, Nat.reduceEqDiff, Mx.isi_int, Mx.isi_int2, Mx.isi_tup, Mx.len_tup, decide_true, decide_false, Mx.holds_bind_iff, Mx.holds_ok, Mx.holds_exc, tup_refL f2', gmSub, cc, ei, tup_refL R2.ro, tup_refL R2.rc, s2]
            exact done _ _ R2
      · have d1 : decide ((at_ : Int) < (q.st.length : Nat)) = false := decide_eq_false (by omega)
        simp only [Mx.mDef, Mx.mSeq, Mx.mAsg, Mx.mRet, Mx.mDrop, Mx.mIfS, Mx.mNx, Mx.mAndV, Mx.mOrV, Mx.mNotV, Mx.mIf, Mx.mB, Mx.mAnd, Mx.mOr, Mx.mNot, Mx.mNil, Mx.mCons, Mx.mCB, Mx.mCall, Mx.m1, Mx.m2, Mx.mC, Mx.mVar, Mx.mChain, Mx.mTup, Mx.mLst, Mx.mPar, Mx.mPar3, Mx.gmName, Mx.gmTup, Mx.gmCons, Mx.gmNil, Mx.mFld, Mx.bind_ok, Mx.bind_fail, Mx.bind_exc, Mx.noX_ok, Mx.thenS_nx, Mx.thenS_rt, Mx.asB_bl, Mx.ofO_some, Mx.ofO_none, Mx.flow_nx, List.map_cons, List.map_nil, List.cons_append, List.nil_append, List.append_nil, List.getElem?_cons_zero, List.getElem?_cons_succ, List.set_cons_zero, List.set_cons_succ, List.replicate_succ, List.replicate_zero, List.length_cons, List.length_nil, Nat.zero_add, Nat.reduceAdd, if_true, if_false, reduceIte, reduceCtorEq, Bool.not_true, Bool.not_false, Bool.false_eq_true, Mx.fI2, Mx.fU, Option.map_some, Option.map_none, Nat.reduceEqDiff, Mx.isi_int, Mx.isi_int2, Mx.isi_tup, Mx.len_tup, decide_true, decide_false, Mx.holds_bind_iff, Mx.holds_ok, Mx.holds_exc, d1, List.length_map, tup_refL R.ro, tup_refL R.rc, s2]
        exact done s cl R
    · refine ⟨none, none, none, none, [], [], (by simp), fun j hj => ?_, ?_, ?_, rfl, rfl, fun l hl => (by cases hl), fun l hl => (by cases hl)⟩
      · rw [List.append_assoc]
        exact List.getElem?_append_left hj
      · rw [List.append_assoc]
        exact get_new
      · rw [List.append_assoc]
        exact get_new1
    · obtain ⟨j8, j9, j10, j11, op, cl, rfl, R⟩ := hI
      have hlo := R.lo
      have hlc := R.rl
      have hrow := hq.rlen hi
      have e1 := ix_mN (st := s) hi
      simp only [Mx.mDef, Mx.mSeq, Mx.mAsg, Mx.mRet, Mx.mDrop, Mx.mIfS, Mx.mNx, Mx.mAndV, Mx.mOrV, Mx.mNotV, Mx.mIf, Mx.mB, Mx.mAnd, Mx.mOr, Mx.mNot, Mx.mNil, Mx.mCons, Mx.mCB, Mx.mCall, Mx.m1, Mx.m2, Mx.mC, Mx.mVar, Mx.mChain, Mx.mTup, Mx.mLst, Mx.mPar, Mx.mPar3, Mx.gmName, Mx.gmTup, Mx.gmCons, Mx.gmNil, Mx.mFld, Mx.bind_ok, Mx.bind_fail, Mx.bind_exc, Mx.noX_ok, Mx.thenS_nx, Mx.thenS_rt, Mx.asB_bl, Mx.ofO_some, Mx.ofO_none, Mx.flow_nx, List.map_cons, List.map_nil, List.cons_append, List.nil_append, List.append_nil, List.getElem?_cons_zero, List.getElem?_cons_succ, List.set_cons_zero, List.set_cons_succ, List.replicate_succ, List.replicate_zero, List.length_cons, List.length_nil, Nat.zero_add, Nat.reduceAdd, if_true, if_false, reduceIte, reduceCtorEq, Bool.not_true, Bool.not_false, Bool.false_eq_true, Mx.fI2, Mx.fU, Option.map_some, Option.map_none, Nat.reduceEqDiff, Mx.isi_int, Mx.isi_int2, Mx.isi_tup, Mx.len_tup, decide_true, decide_false, Mx.holds_bind_iff, Mx.holds_ok, Mx.holds_exc, mBM, isL R.ro, mLc, miTup, e1]
      rw [aN_eq]
      simp only [Mx.mDef, Mx.mSeq, Mx.mAsg, Mx.mRet, Mx.mDrop, Mx.mIfS, Mx.mNx, Mx.mAndV, Mx.mOrV, Mx.mNotV, Mx.mIf, Mx.mB, Mx.mAnd, Mx.mOr, Mx.mNot, Mx.mNil, Mx.mCons, Mx.mCB, Mx.mCall, Mx.m1, Mx.m2, Mx.mC, Mx.mVar, Mx.mChain, Mx.mTup, Mx.mLst, Mx.mPar, Mx.mPar3, Mx.gmName, Mx.gmTup, Mx.gmCons, Mx.gmNil, Mx.mFld, Mx.bind_ok, Mx.bind_fail, Mx.bind_exc, Mx.noX_ok, Mx.thenS_nx, Mx.thenS_rt, Mx.asB_bl, Mx.ofO_some, Mx.ofO_none, Mx.flow_nx, List.map_cons, List.map_nil, List.cons_append, List.nil_append, List.append_nil, List.getElem?_cons_zero, List.getElem?_cons_succ, List.set_cons_zero, List.set_cons_succ, List.replicate_succ, List.replicate_zero, List.length_cons, List.length_nil, Nat.zero_add, Nat.reduceAdd, if_true, if_false, reduceIte, reduceCtorEq, Bool.not_true, Bool.not_false, Bool.false_eq_true, Mx.fI2, Mx.fU, Option.map_some, Option.map_none, Nat.reduceEqDiff, Mx.isi_int, Mx.isi_int2, Mx.isi_tup, Mx.len_tup, decide_true, decide_false, Mx.holds_bind_iff, Mx.holds_ok, Mx.holds_exc]
      refine holds_mono (fun y hy => ?_) (fun _ _ z => z) (lc_vals (ys := (q.st.getD i []).map fun x => aP (x, q.due x)) (L := aL (q.st.getD i [])) (by rw [aL_len, List.length_map]) (by rw [aL_len, hrow]; omega) (fun i s p => rfl) (fun j a y s2' ha hy p => ⟨_, rfl, ?_⟩))
      rotate_left
      · obtain ⟨x, hx, hm, rfl⟩ := get_map ha
        rw [List.getElem?_map, hx] at hy
        cases hy
        have e := ix_aN (st := s2') (l := q.ms) (k := x) (by rw [hq.ml]; exact hq.rx _ (getD_mem hi) x hm)
        simp only [Mx.mDef, Mx.mSeq, Mx.mAsg, Mx.mRet, Mx.mDrop, Mx.mIfS, Mx.mNx, Mx.mAndV, Mx.mOrV, Mx.mNotV, Mx.mIf, Mx.mB, Mx.mAnd, Mx.mOr, Mx.mNot, Mx.mNil, Mx.mCons, Mx.mCB, Mx.mCall, Mx.m1, Mx.m2, Mx.mC, Mx.mVar, Mx.mChain, Mx.mTup, Mx.mLst, Mx.mPar, Mx.mPar3, Mx.gmName, Mx.gmTup, Mx.gmCons, Mx.gmNil, Mx.mFld, Mx.bind_ok, Mx.bind_fail, Mx.bind_exc, Mx.noX_ok, Mx.thenS_nx, Mx.thenS_rt, Mx.asB_bl, Mx.ofO_some, Mx.ofO_none, Mx.flow_nx, List.map_cons, List.map_nil, List.cons_append, List.nil_append, List.append_nil, List.getElem?_cons_zero, List.getElem?_cons_succ, List.set_cons_zero, List.set_cons_succ, List.replicate_succ, List.replicate_zero, List.length_cons, List.length_nil, Nat.zero_add, Nat.reduceAdd, if_true, if_false, reduceIte, reduceCtorEq, Bool.not_true, Bool.not_false, Bool.false_eq_true, Mx.fI2, Mx.fU, Option.map_some, Option.map_none, Nat.reduceEqDiff, Mx.isi_int, Mx.isi_int2, Mx.isi_tup, Mx.len_tup, decide_true, decide_false, Mx.holds_bind_iff, Mx.holds_ok, Mx.holds_exc, wipeE, e, s2]
        exact ⟨rfl, List.prefix_refl _⟩
      · obtain ⟨y, sa⟩ := y
        obtain ⟨g1, p1, g2⟩ := hy
        dsimp only at g1 p1 g2
        subst g1
        have eP : (q.st.getD i []).map (fun x => aP (x, q.due x)) = ((q.st.getD i []).map fun x => (x, q.due x)).map aP := by rw [List.map_map]; rfl
        rw [eP] at g2
        generalize hl : (q.st.getD i []).map (fun x => (x, q.due x)) = l at g2
        have hl1 : l.length = n ∧ ∀ p ∈ l, p.1 < q.st.length ∧ p.2 < 2 := by
          rw [← hl]
          refine ⟨by rw [List.length_map, hrow], fun p hp => ?_⟩
          obtain ⟨x, hx, rfl⟩ := List.mem_map.mp hp
          have hxl := hq.rx _ (getD_mem hi) x hx
          exact ⟨hxl, hq.mx _ (getD_mem (by rw [hq.ml]; exact hxl))⟩
        have oa := pre_get p1 R.ro
        have ca := pre_get p1 R.rc
        have ea := app_l (a := .tup (l.map aP)) oa (by rw [List.length_map]; omega)
        simp only [Mx.mDef, Mx.mSeq, Mx.mAsg, Mx.mRet, Mx.mDrop, Mx.mIfS, Mx.mNx, Mx.mAndV, Mx.mOrV, Mx.mNotV, Mx.mIf, Mx.mB, Mx.mAnd, Mx.mOr, Mx.mNot, Mx.mNil, Mx.mCons, Mx.mCB, Mx.mCall, Mx.m1, Mx.m2, Mx.mC, Mx.mVar, Mx.mChain, Mx.mTup, Mx.mLst, Mx.mPar, Mx.mPar3, Mx.gmName, Mx.gmTup, Mx.gmCons, Mx.gmNil, Mx.mFld, Mx.bind_ok, Mx.bind_fail, Mx.bind_exc, Mx.noX_ok, Mx.thenS_nx, Mx.thenS_rt, Mx.asB_bl, Mx.ofO_some, Mx.ofO_none, Mx.flow_nx, List.map_cons, List.map_nil, List.cons_append, List.nil_append, List.append_nil, List.getElem?_cons_zero, List.getElem?_cons_succ, List.set_cons_zero, List.set_cons_succ, List.replicate_succ, List.replicate_zero, List.length_cons, List.length_nil, Nat.zero_add, Nat.reduceAdd, if_true, if_false, reduceIte, reduceCtorEq, Bool.not_true, Bool.not_false, Bool.false_eq_true, Mx.fI2, Mx.fU, Option.map_some, Option.map_none, Nat.reduceEqDiff, Mx.isi_int, Mx.isi_int2, Mx.isi_tup, Mx.len_tup, decide_true, decide_false, Mx.holds_bind_iff, Mx.holds_ok, Mx.holds_exc, tup_refL g2, ea]
        have cb : (sa.set st.length (.lst ((op.map fun l => .tup (l.map aP)) ++ [.tup (l.map aP)])))[st.length + 1]? = some (.lst (cl.map aN)) := by rw [List.getElem?_set_ne (by omega)]; exact ca
        have hQ : A.tup [.tup (q.st.map aN), .tup (aL q.ms)] = aQ q := rfl
        cases b with
        | true =>
          simp only [Mx.mDef, Mx.mSeq, Mx.mAsg, Mx.mRet, Mx.mDrop, Mx.mIfS, Mx.mNx, Mx.mAndV, Mx.mOrV, Mx.mNotV, Mx.mIf, Mx.mB, Mx.mAnd, Mx.mOr, Mx.mNot, Mx.mNil, Mx.mCons, Mx.mCB, Mx.mCall, Mx.m1, Mx.m2, Mx.mC, Mx.mVar, Mx.mChain, Mx.mTup, Mx.mLst, Mx.mPar, Mx.mPar3, Mx.gmName, Mx.gmTup, Mx.gmCons, Mx.gmNil, Mx.mFld, Mx.bind_ok, Mx.bind_fail, Mx.bind_exc, Mx.noX_ok, Mx.thenS_nx, Mx.thenS_rt, Mx.asB_bl, Mx.ofO_some, Mx.ofO_none, Mx.flow_nx, List.map_cons, List.map_nil, List.cons_append, List.nil_append, List.append_nil, List.getElem?_cons_zero, List.getElem?_cons_succ, List.set_cons_zero, List.set_cons_succ, List.replicate_succ, List.replicate_zero, List.length_cons, List.length_nil, Nat.zero_add, Nat.reduceAdd, if_true, if_false, reduceIte, reduceCtorEq, Bool.not_true, Bool.not_false, Bool.false_eq_true, Mx.fI2, Mx.fU, Option.map_some, Option.map_none, Nat.reduceEqDiff, Mx.isi_int, Mx.isi_int2, Mx.isi_tup, Mx.len_tup, decide_true, decide_false, Mx.holds_bind_iff, Mx.holds_ok, Mx.holds_exc, mBM, isL cb, mLc, miRng1, cond_t, hrn, Int.toNat_natCast]
          refine holds_mono (fun y hy => ?_) (fun _ _ z => z) (lc_gen (α := Nat) (fun k => .int (k : Nat)) (fun x => x < q.st.length) (by omega) rfl (fun j s2' hj p => ⟨_, rfl, ?_⟩))
          rotate_left
          · simp only [Mx.mDef, Mx.mSeq, Mx.mAsg, Mx.mRet, Mx.mDrop, Mx.mIfS, Mx.mNx, Mx.mAndV, Mx.mOrV, Mx.mNotV, Mx.mIf, Mx.mB, Mx.mAnd, Mx.mOr, Mx.mNot, Mx.mNil, Mx.mCons, Mx.mCB, Mx.mCall, Mx.m1, Mx.m2, Mx.mC, Mx.mVar, Mx.mChain, Mx.mTup, Mx.mLst, Mx.mPar, Mx.mPar3, Mx.gmName, Mx.gmTup, Mx.gmCons, Mx.gmNil, Mx.mFld, Mx.bind_ok, Mx.bind_fail, Mx.bind_exc, Mx.noX_ok, Mx.thenS_nx, Mx.thenS_rt, Mx.asB_bl, Mx.ofO_some, Mx.ofO_none, Mx.flow_nx, List.map_cons, List.map_nil, List.cons_append, List.nil_append, List.append_nil, List.getElem?_cons_zero, List.getElem?_cons_succ, List.set_cons_zero, List.set_cons_succ, List.replicate_succ, List.replicate_zero, List.length_cons, List.length_nil, Nat.zero_add, Nat.reduceAdd, if_true, if_false, reduceIte, reduceCtorEq, Bool.not_true, Bool.not_false, Bool.false_eq_true, Mx.fI2, Mx.fU, Option.map_some, Option.map_none, Nat.reduceEqDiff, Mx.isi_int, Mx.isi_int2, Mx.isi_tup, Mx.len_tup, decide_true, decide_false, Mx.holds_bind_iff, Mx.holds_ok, Mx.holds_exc, wipeE]
            have z := bq (E := Fls) (st := s2') (s0 := i) (t := j) hq hi hj
            unfold aQ at z
            exact z
          · obtain ⟨y, sb⟩ := y
            obtain ⟨l2, f1, p2, f2, f3, f4⟩ := hy
            dsimp only at f1 p2 f2
            subst f1
            have cc := pre_get p2 cb
            have eb := app_l (a := .tup (aL l2)) cc (by rw [List.length_map]; omega)
            have f2' : sb[(sa.set st.length (.lst ((op.map fun l => .tup (l.map aP)) ++ [.tup (l.map aP)]))).length]? = some (.lst (aL l2)) := f2
            simp only [Mx.mDef, Mx.mSeq, Mx.mAsg, Mx.mRet, Mx.mDrop, Mx.mIfS, Mx.mNx, Mx.mAndV, Mx.mOrV, Mx.mNotV, Mx.mIf, Mx.mB, Mx.mAnd, Mx.mOr, Mx.mNot, Mx.mNil, Mx.mCons, Mx.mCB, Mx.mCall, Mx.m1, Mx.m2, Mx.mC, Mx.mVar, Mx.mChain, Mx.mTup, Mx.mLst, Mx.mPar, Mx.mPar3, Mx.gmName, Mx.gmTup, Mx.gmCons, Mx.gmNil, Mx.mFld, Mx.bind_ok, Mx.bind_fail, Mx.bind_exc, Mx.noX_ok, Mx.thenS_nx, Mx.thenS_rt, Mx.asB_bl, Mx.ofO_some, Mx.ofO_none, Mx.flow_nx, List.map_cons, List.map_nil, List.cons_append, List.nil_append, List.append_nil, List.getElem?_cons_zero, List.getElem?_cons_succ, List.set_cons_zero, List.set_cons_succ, List.replicate_succ, List.replicate_zero, List.length_cons, List.length_nil, Nat.zero_add, Nat.reduceAdd, if_true, if_false, reduceIte, reduceCtorEq, Bool.not_true, Bool.not_false, Bool.false_eq_true, Mx.fI2, Mx.fU, Option.map_some, Option.map_none, Nat.reduceEqDiff, Mx.isi_int, Mx.isi_int2, Mx.isi_tup, Mx.len_tup, decide_true, decide_false, Mx.holds_bind_iff, Mx.holds_ok, Mx.holds_exc, tup_refL f2', eb]
            exact ⟨_, rfl, _, _, _, _, _, _, rfl, R.opn p1 hl1 p2 ⟨f3, f4⟩⟩
        | false =>
          simp only [Mx.mDef, Mx.mSeq, Mx.mAsg, Mx.mRet, Mx.mDrop, Mx.mIfS, Mx.mNx, Mx.mAndV, Mx.mOrV, Mx.mNotV, Mx.mIf, Mx.mB, Mx.mAnd, Mx.mOr, Mx.mNot, Mx.mNil, Mx.mCons, Mx.mCB, Mx.mCall, Mx.m1, Mx.m2, Mx.mC, Mx.mVar, Mx.mChain, Mx.mTup, Mx.mLst, Mx.mPar, Mx.mPar3, Mx.gmName, Mx.gmTup, Mx.gmCons, Mx.gmNil, Mx.mFld, Mx.bind_ok, Mx.bind_fail, Mx.bind_exc, Mx.noX_ok, Mx.thenS_nx, Mx.thenS_rt, Mx.asB_bl, Mx.ofO_some, Mx.ofO_none, Mx.flow_nx, List.map_cons, List.map_nil, List.cons_append, List.nil_append, List.append_nil, List.getElem?_cons_zero, List.getElem?_cons_succ, List.set_cons_zero, List.set_cons_succ, List.replicate_succ, List.replicate_zero, List.length_cons, List.length_nil, Nat.zero_add, Nat.reduceAdd, if_true, if_false, reduceIte, reduceCtorEq, Bool.not_true, Bool.not_false, Bool.false_eq_true, Mx.fI2, Mx.fU, Option.map_some, Option.map_none, Nat.reduceEqDiff, Mx.isi_int, Mx.isi_int2, Mx.isi_tup, Mx.len_tup, decide_true, decide_false, Mx.holds_bind_iff, Mx.holds_ok, Mx.holds_exc, mBM, isL cb, mLc, miRng1, cond_t, hr1]
          refine holds_mono (fun y hy => ?_) (fun _ _ z => z) (lc_gen (m := 1) (α := Nat) (fun k => .int (k : Nat)) (fun x => x < q.st.length) (by omega) rfl (fun j s2' hj p => ⟨_, rfl, ?_⟩))
          rotate_left
          · simp only [Mx.mDef, Mx.mSeq, Mx.mAsg, Mx.mRet, Mx.mDrop, Mx.mIfS, Mx.mNx, Mx.mAndV, Mx.mOrV, Mx.mNotV, Mx.mIf, Mx.mB, Mx.mAnd, Mx.mOr, Mx.mNot, Mx.mNil, Mx.mCons, Mx.mCB, Mx.mCall, Mx.m1, Mx.m2, Mx.mC, Mx.mVar, Mx.mChain, Mx.mTup, Mx.mLst, Mx.mPar, Mx.mPar3, Mx.gmName, Mx.gmTup, Mx.gmCons, Mx.gmNil, Mx.mFld, Mx.bind_ok, Mx.bind_fail, Mx.bind_exc, Mx.noX_ok, Mx.thenS_nx, Mx.thenS_rt, Mx.asB_bl, Mx.ofO_some, Mx.ofO_none, Mx.flow_nx, List.map_cons, List.map_nil, List.cons_append, List.nil_append, List.append_nil, List.getElem?_cons_zero, List.getElem?_cons_succ, List.set_cons_zero, List.set_cons_succ, List.replicate_succ, List.replicate_zero, List.length_cons, List.length_nil, Nat.zero_add, Nat.reduceAdd, if_true, if_false, reduceIte, reduceCtorEq, Bool.not_true, Bool.not_false, Bool.false_eq_true, Mx.fI2, Mx.fU, Option.map_some, Option.map_none, Nat.reduceEqDiff, Mx.isi_int, Mx.isi_int2, Mx.isi_tup, Mx.len_tup, decide_true, decide_false, Mx.holds_bind_iff, Mx.holds_ok, Mx.holds_exc, wipeE]
            have z := bq (E := Fls) (st := s2') (s0 := i) (t := j) hq hi (by omega)
            unfold aQ at z
            exact z
          · obtain ⟨y, sb⟩ := y
            obtain ⟨l2, f1, p2, f2, f3, f4⟩ := hy
            dsimp only at f1 p2 f2
            subst f1
            have cc := pre_get p2 cb
            have eb := app_l (a := .tup (aL l2)) cc (by rw [List.length_map]; omega)
            have f2' : sb[(sa.set st.length (.lst ((op.map fun l => .tup (l.map aP)) ++ [.tup (l.map aP)]))).length]? = some (.lst (aL l2)) := f2
            simp only [Mx.mDef, Mx.mSeq, Mx.mAsg, Mx.mRet, Mx.mDrop, Mx.mIfS, Mx.mNx, Mx.mAndV, Mx.mOrV, Mx.mNotV, Mx.mIf, Mx.mB, Mx.mAnd, Mx.mOr, Mx.mNot, Mx.mNil, Mx.mCons, Mx.mCB, Mx.mCall, Mx.m1, Mx.m2, Mx.mC, Mx.mVar, Mx.mChain, Mx.mTup, Mx.mLst, Mx.mPar, Mx.mPar3, Mx.gmName, Mx.gmTup, Mx.gmCons, Mx.gmNil, Mx.mFld, Mx.bind_ok, Mx.bind_fail, Mx.bind_exc, Mx.noX_ok, Mx.thenS_nx, Mx.thenS_rt, Mx.asB_bl, Mx.ofO_some, Mx.ofO_none, Mx.flow_nx, List.map_cons, List.map_nil, List.cons_append, List.nil_append, List.append_nil, List.getElem?_cons_zero, List.getElem?_cons_succ, List.set_cons_zero, List.set_cons_succ, List.replicate_succ, List.replicate_zero, List.length_cons, List.length_nil, Nat.zero_add, Nat.reduceAdd, if_true, if_false, reduceIte, reduceCtorEq, Bool.not_true, Bool.not_false, Bool.false_eq_true, Mx.fI2, Mx.fU, Option.map_some, Option.map_none, Nat.reduceEqDiff, Mx.isi_int, Mx.isi_int2, Mx.isi_tup, Mx.len_tup, decide_true, decide_false, Mx.holds_bind_iff, Mx.holds_ok, Mx.holds_exc, tup_refL f2', eb]
            exact ⟨_, rfl, _, _, _, _, _, _, rfl, R.opn p1 hl1 p2 ⟨f3, f4⟩⟩
end
end Mx

/-! ### MkMF -/
set_option Elab.async false
set_option linter.all false
set_option maxRecDepth 100000
set_option maxHeartbeats 2000000
namespace Mx
open PySem PySem.Spec PyProof.Rows L2
def mTurn : SM := (mIfS (mB (m2 fEq (mVar 9) (mC (.int 0)))) (mSeq (mIfS (mB (m2 fNe (mWord (mIf (mB (m2 fEq (mCall fTaken 2 [] (mCons (mVar 1) (mCons (mC (.int 2)) mNil))) (mC (.int 0)))) (mMeth 0 "back" f_Desk_back 1 (mVar 6) mNil) (mMeth 0 "do" f_Desk_do 2 (mVar 6) (mCons (mC (.str "back")) mNil)))) (mIf (mB (m2 fNe (mVar 7) (mTup mNil))) (mC (.str "")) (mC (.str "step"))))) (mRet (mC (.bl false))) mNx)
    (mAsg (mSl fSlT (mVar 7) moNone (moSome (m1 (fU fun i => .int (-i)) (mC (.int 1))))) (gmName 7))) (mIfS (mB (m2 fEq (mVar 9) (mC (.int 1)))) (mSeq (mAsg (mCall f__law_pick 2 [] (mCons (mVar 1) (mCons (mLst (mCons (mC .non) (mCons (mVar 4) (mCons (mC (.bl true)) (mCons (mC (.str "a")) (mCons (m2 (fI2 fun i j => .int (i - j)) (mC (.int 0)) (mC (.int 2))) mNil)))))) mNil))) (gmName 12))
    (mIfS (mB (m2 fNe (mWord (mMeth 0 "tag" f_Desk_tag 2 (mVar 6) (mCons (mVar 12) mNil))) (mC (.str "step")))) (mRet (mC (.bl false))) mNx)) (mIfS (mB (m2 fEq (mVar 9) (mC (.int 2)))) (mSeq (mAsg (mCall f__law_pick 2 [] (mCons (mVar 1) (mCons (mLst (mCons (mC (.str "")) (mCons (mC (.str "d")) (mCons (mC (.str "A")) (mCons (mC .non) (mCons (mC (.int 5)) (mCons (mC (.str "aa")) (mCons (mC (.str " a")) (mCons (mC (.str "rows")) (mCons (m2 fIx (mC (.str "abc")) (mVar 4)) mNil)))))))))) mNil))) (gmName 12))
    (mIfS (mB (m2 fNe (mWord (mMeth 0 "do" f_Desk_do 2 (mVar 6) (mCons (mVar 12) mNil))) (mC (.str "line")))) (mRet (mC (.bl false))) mNx)) (mIfS (mNot (mB (mVar 11))) (mIfS (mB (m2 fNe (mLst (mCons (mWord (mMeth 0 "tag" f_Desk_tag 2 (mVar 6) (mCons (mVar 10) mNil))) (mCons (mWord (mMeth 0 "do" f_Desk_do 2 (mVar 6) (mCons (mC (.str ")")) mNil))) mNil))) (m2 fRepL (mLst (mCons (mC (.str "step")) mNil)) (mC (.int 2))))) (mRet (mC (.bl false))) mNx) (mSeq (mAsg (m2 fCatT (mVar 7) (mTup (mCons (mVar 10) mNil))) (gmName 7))
    (mSeq (mAsg (mC .non) (gmName 13))
    (mSeq (mIfS (mB (m2 (fI2 fun i j => .bl (decide (j ≤ i))) (mVar 10) (mC (.int 0)))) (mAsg (mTup (mCons (mCall f__law_answer 2 [] (mCons (mVar 2) (mCons (m2 fIx (mCall f__law_paths 1 [] (mCons (mVar 7) mNil)) (mC (.int 1))) mNil))) (mCons (m2 fIx (m2 fIx (mCall f__law_read 2 [] (mCons (mVar 5) (mCons (mVar 7) mNil))) (mC (.int 0))) (m1 (fU fun i => .int (-i)) (mC (.int 1)))) mNil))) (gmName 13)) mNx)
    (mSeq (mIfS (mAnd (mB (m2 (fI2 fun i j => .bl (decide (i < j))) (mVar 9) (mC (.int 6)))) (mNot (mB (mCall (f__law_alike 60) 2 [] (mCons (mMeth 0 "tag" f_Desk_tag 2 (mVar 6) (mCons (mVar 10) mNil)) (mCons (mVar 13) mNil)))))) (mRet (mC (.bl false))) mNx)
    (mIfS (mAnd (mB (m2 (fI2 fun i j => .bl (decide (j < i))) (mVar 9) (mC (.int 5)))) (mB (m2 fNe (mMeth 0 "do" f_Desk_do 2 (mVar 6) (mCons (m2 fIx (mC (.str ")abc")) (m2 (fI2 fun i j => .int (i + j)) (mVar 10) (mC (.int 1)))) mNil)) (mIf (mB (m2 fIsN (mVar 13) (mC .non))) (mC (.str "done")) (m2 fCatS (m2 fCatS (mCB fStrI (mCons (m2 fIx (mVar 13) (mC (.int 0))) mNil)) (mC (.str " "))) (mCB fStrI (mCons (m2 fIx (mVar 13) (mC (.int 1))) mNil))))))) (mRet (mC (.bl false))) mNx)))))))))
theorem word_h {me : EM} {env : Ev} {st : Sto} {Q : A × Sto → Prop} {E : Xc → Sto → Prop} (h : (me env st).holds (fun y => Q (.str "", y.2)) (fun x s => ∃ w, wordOf x.1 = some w ∧ Q (.str w, s))) : (mWord me env st).holds Q E := by
  unfold mWord
  generalize me env st = r at h
  induction r with
  | ok a => exact h
  | exc x s =>
    obtain ⟨w, e, q⟩ := h
    unfold wordR
    rw [e]
    exact q
  | fail => exact h
  | draw m k ih => exact fun i hi => ih i (h i hi)
theorem cut_T {ts : List Int} {s : Sto} : fSlT (aT ts) none (some (-1)) s = some (aT ts.tail, s) := by
  show fSlT (.tup (aI ts.reverse)) none (some (-1)) s = _
  rw [sl_last]
  cases ts with
  | nil => rfl
  | cons t ts =>
    have e : (aI (t :: ts).reverse).dropLast = aI ts.reverse := by unfold aI; simp
    rw [e]
    rfl
theorem ne_T {ts : List Int} {s : Sto} : fNe (aT ts) (.tup []) s = some (.bl (!ts.isEmpty), s) := by
  have e := ne_nilT (s := s) (l := ts.reverse)
  rw [List.isEmpty_reverse] at e
  exact e
section
variable {q : Qn} {r : Rd} {n c d : Nat} {b : Bool} {st : Sto} {ts : List Int} {E : Xc → Sto → Prop}
/-- the slots of the law while turns pass -/
def ev14 (q : Qn) (b : Bool) (n : Nat) (r : Rd) (d : Nat) (ts : List Int) (j8 j9 j10 j11 j12 j13 : Option A) : Ev := [none, some (.ref 0), some (aQ q), some (aM b), some (.int (n : Nat)), some (aR r), some (.ref d), some (aT ts), j8, j9, j10, j11, j12, j13]
structure Tn (s : Sto) (q : Qn) (b : Bool) (r : Rd) (n d : Nat) (ts : List Int) : Prop where
  d0 : s[0]? = some .dr
  ds : DSt s d q b r (ways n b) ts
  g : Gd n ts
def Don (q : Qn) (b : Bool) (n : Nat) (r : Rd) (d : Nat) (ts : List Int) (j8 j9 j10 j11 : Option A) (y : Fl × Sto) : Prop := ∃ ts2 j12 j13, y.1 = .nx (ev14 q b n r d ts2 j8 j9 j10 j11 j12 j13) ∧ Tn y.2 q b r n d ts2 ∧ ts2.length ≤ ts.length + 1
variable {j8 j12 j13 : Option A} {fine : Bool} {t : Int}
theorem turn0 (hl : ts.length ≤ 900) (hd0 : 0 < d) (T : Tn st q b r n d ts) : (mTurn (ev14 q b n r d ts j8 (some (.int 0)) (some (.int t)) (some (.bl fine)) j12 j13) st).holds (Don q b n r d ts j8 (some (.int 0)) (some (.int t)) (some (.bl fine))) E := by
  have hd := T.ds.o
  have lk := (lkp (d := d) (q := q) (b := b) (r := r)).2.2.1
  have lk2 := (lkp (d := d) (q := q) (b := b) (r := r)).2.2.2
  have d1 : decide ((0 : Int) = 0) = true := rfl
  have s0 : ((0 : Nat) ≤ sizeLine) = True := by simp
  have w1 : decide (("" : Str) = "") = true := by decide +kernel
  have w2 : decide (("step" : Str) = "step") = true := by decide +kernel
  unfold mTurn ev14
  simp only [Mx.mDef, Mx.mSeq, Mx.mAsg, Mx.mRet, Mx.mDrop, Mx.mIfS, Mx.mNx, Mx.mAndV, Mx.mOrV, Mx.mNotV, Mx.mIf, Mx.mB, Mx.mAnd, Mx.mOr, Mx.mNot, Mx.mNil, Mx.mCons, Mx.mCB, Mx.mCall, Mx.m1, Mx.m2, Mx.mC, Mx.mVar, Mx.mChain, Mx.mTup, Mx.mLst, Mx.mPar, Mx.mPar3, Mx.gmName, Mx.gmTup, Mx.gmCons, Mx.gmNil, Mx.mFld, Mx.bind_ok, Mx.bind_fail, Mx.bind_exc, Mx.noX_ok, Mx.thenS_nx, Mx.thenS_rt, Mx.asB_bl, Mx.ofO_some, Mx.ofO_none, Mx.flow_nx, List.map_cons, List.map_nil, List.cons_append, List.nil_append, List.append_nil, List.getElem?_cons_zero, List.getElem?_cons_succ, List.set_cons_zero, List.set_cons_succ, List.replicate_succ, List.replicate_zero, List.length_cons, List.length_nil, Nat.zero_add, Nat.reduceAdd, if_true, if_false, reduceIte, reduceCtorEq, Bool.not_true, Bool.not_false, Bool.false_eq_true, Mx.fI2, Mx.fU, Option.map_some, Option.map_none, Nat.reduceEqDiff, Mx.isi_int, Mx.isi_int2, Mx.isi_tup, Mx.len_tup, decide_true, decide_false, Mx.holds_bind_iff, Mx.holds_ok, Mx.holds_exc, eq_int, d1]
  refine word_h ?_
  simp only [Mx.mDef, Mx.mSeq, Mx.mAsg, Mx.mRet, Mx.mDrop, Mx.mIfS, Mx.mNx, Mx.mAndV, Mx.mOrV, Mx.mNotV, Mx.mIf, Mx.mB, Mx.mAnd, Mx.mOr, Mx.mNot, Mx.mNil, Mx.mCons, Mx.mCB, Mx.mCall, Mx.m1, Mx.m2, Mx.mC, Mx.mVar, Mx.mChain, Mx.mTup, Mx.mLst, Mx.mPar, Mx.mPar3, Mx.gmName, Mx.gmTup, Mx.gmCons, Mx.gmNil, Mx.mFld, Mx.bind_ok, Mx.bind_fail, Mx.bind_exc, Mx.noX_ok, Mx.thenS_nx, Mx.thenS_rt, Mx.asB_bl, Mx.ofO_some, Mx.ofO_none, Mx.flow_nx, List.map_cons, List.map_nil, List.cons_append, List.nil_append, List.append_nil, List.getElem?_cons_zero, List.getElem?_cons_succ, List.set_cons_zero, List.set_cons_succ, List.replicate_succ, List.replicate_zero, List.length_cons, List.length_nil, Nat.zero_add, Nat.reduceAdd, if_true, if_false, reduceIte, reduceCtorEq, Bool.not_true, Bool.not_false, Bool.false_eq_true, Mx.fI2, Mx.fU, Option.map_some, Option.map_none, Nat.reduceEqDiff, Mx.isi_int, Mx.isi_int2, Mx.isi_tup, Mx.len_tup, decide_true, decide_false, Mx.holds_bind_iff, Mx.holds_ok, Mx.holds_exc]
  refine taken_holds T.d0 (by omega) (by omega) (fun k hk => ?_)
  cases ts with
  | nil =>
    have e1 := back_none T.ds
    have e2 := do_back0 T.ds
    have eT := ne_T (ts := []) (s := st)
    have eC := cut_T (ts := []) (s := st)
    have eb : (!([] : List Int).isEmpty) = false := rfl
    rw [eb] at eT
    cases dk : decide ((k : Int) = 0) with
    | true =>
      simp only [Mx.mDef, Mx.mSeq, Mx.mAsg, Mx.mRet, Mx.mDrop, Mx.mIfS, Mx.mNx, Mx.mAndV, Mx.mOrV, Mx.mNotV, Mx.mIf, Mx.mB, Mx.mAnd, Mx.mOr, Mx.mNot, Mx.mNil, Mx.mCons, Mx.mCB, Mx.mCall, Mx.m1, Mx.m2, Mx.mC, Mx.mVar, Mx.mChain, Mx.mTup, Mx.mLst, Mx.mPar, Mx.mPar3, Mx.gmName, Mx.gmTup, Mx.gmCons, Mx.gmNil, Mx.mFld, Mx.bind_ok, Mx.bind_fail, Mx.bind_exc, Mx.noX_ok, Mx.thenS_nx, Mx.thenS_rt, Mx.asB_bl, Mx.ofO_some, Mx.ofO_none, Mx.flow_nx, List.map_cons, List.map_nil, List.cons_append, List.nil_append, List.append_nil, List.getElem?_cons_zero, List.getElem?_cons_succ, List.set_cons_zero, List.set_cons_succ, List.replicate_succ, List.replicate_zero, List.length_cons, List.length_nil, Nat.zero_add, Nat.reduceAdd, if_true, if_false, reduceIte, reduceCtorEq, Bool.not_true, Bool.not_false, Bool.false_eq_true, Mx.fI2, Mx.fU, Option.map_some, Option.map_none, Nat.reduceEqDiff, Mx.isi_int, Mx.isi_int2, Mx.isi_tup, Mx.len_tup, decide_true, decide_false, Mx.holds_bind_iff, Mx.holds_ok, Mx.holds_exc, eq_int, dk, mMeth, hd, lk, and_self, e1]
      refine ⟨"step", rfl, ?_⟩
      simp only [Mx.mDef, Mx.mSeq, Mx.mAsg, Mx.mRet, Mx.mDrop, Mx.mIfS, Mx.mNx, Mx.mAndV, Mx.mOrV, Mx.mNotV, Mx.mIf, Mx.mB, Mx.mAnd, Mx.mOr, Mx.mNot, Mx.mNil, Mx.mCons, Mx.mCB, Mx.mCall, Mx.m1, Mx.m2, Mx.mC, Mx.mVar, Mx.mChain, Mx.mTup, Mx.mLst, Mx.mPar, Mx.mPar3, Mx.gmName, Mx.gmTup, Mx.gmCons, Mx.gmNil, Mx.mFld, Mx.bind_ok, Mx.bind_fail, Mx.bind_exc, Mx.noX_ok, Mx.thenS_nx, Mx.thenS_rt, Mx.asB_bl, Mx.ofO_some, Mx.ofO_none, Mx.flow_nx, List.map_cons, List.map_nil, List.cons_append, List.nil_append, List.append_nil, List.getElem?_cons_zero, List.getElem?_cons_succ, List.set_cons_zero, List.set_cons_succ, List.replicate_succ, List.replicate_zero, List.length_cons, List.length_nil, Nat.zero_add, Nat.reduceAdd, if_true, if_false, reduceIte, reduceCtorEq, Bool.not_true, Bool.not_false, Bool.false_eq_true, Mx.fI2, Mx.fU, Option.map_some, Option.map_none, Nat.reduceEqDiff, Mx.isi_int, Mx.isi_int2, Mx.isi_tup, Mx.len_tup, decide_true, decide_false, Mx.holds_bind_iff, Mx.holds_ok, Mx.holds_exc, s0, eT, ne_str, w2, mSl, moNone, moSome, eC]
      exact ⟨[], j12, j13, rfl, T, by simp⟩
    | false =>
      simp only [Mx.mDef, Mx.mSeq, Mx.mAsg, Mx.mRet, Mx.mDrop, Mx.mIfS, Mx.mNx, Mx.mAndV, Mx.mOrV, Mx.mNotV, Mx.mIf, Mx.mB, Mx.mAnd, Mx.mOr, Mx.mNot, Mx.mNil, Mx.mCons, Mx.mCB, Mx.mCall, Mx.m1, Mx.m2, Mx.mC, Mx.mVar, Mx.mChain, Mx.mTup, Mx.mLst, Mx.mPar, Mx.mPar3, Mx.gmName, Mx.gmTup, Mx.gmCons, Mx.gmNil, Mx.mFld, Mx.bind_ok, Mx.bind_fail, Mx.bind_exc, Mx.noX_ok, Mx.thenS_nx, Mx.thenS_rt, Mx.asB_bl, Mx.ofO_some, Mx.ofO_none, Mx.flow_nx, List.map_cons, List.map_nil, List.cons_append, List.nil_append, List.append_nil, List.getElem?_cons_zero, List.getElem?_cons_succ, List.set_cons_zero, List.set_cons_succ, List.replicate_succ, List.replicate_zero, List.length_cons, List.length_nil, Nat.zero_add, Nat.reduceAdd, if_true, if_false, reduceIte, reduceCtorEq, Bool.not_true, Bool.not_false, Bool.false_eq_true, Mx.fI2, Mx.fU, Option.map_some, Option.map_none, Nat.reduceEqDiff, Mx.isi_int, Mx.isi_int2, Mx.isi_tup, Mx.len_tup, decide_true, decide_false, Mx.holds_bind_iff, Mx.holds_ok, Mx.holds_exc, eq_int, dk, mMeth, hd, lk2, and_self, e2]
      refine ⟨"step", rfl, ?_⟩
      simp only [Mx.mDef, Mx.mSeq, Mx.mAsg, Mx.mRet, Mx.mDrop, Mx.mIfS, Mx.mNx, Mx.mAndV, Mx.mOrV, Mx.mNotV, Mx.mIf, Mx.mB, Mx.mAnd, Mx.mOr, Mx.mNot, Mx.mNil, Mx.mCons, Mx.mCB, Mx.mCall, Mx.m1, Mx.m2, Mx.mC, Mx.mVar, Mx.mChain, Mx.mTup, Mx.mLst, Mx.mPar, Mx.mPar3, Mx.gmName, Mx.gmTup, Mx.gmCons, Mx.gmNil, Mx.mFld, Mx.bind_ok, Mx.bind_fail, Mx.bind_exc, Mx.noX_ok, Mx.thenS_nx, Mx.thenS_rt, Mx.asB_bl, Mx.ofO_some, Mx.ofO_none, Mx.flow_nx, List.map_cons, List.map_nil, List.cons_append, List.nil_append, List.append_nil, List.getElem?_cons_zero, List.getElem?_cons_succ, List.set_cons_zero, List.set_cons_succ, List.replicate_succ, List.replicate_zero, List.length_cons, List.length_nil, Nat.zero_add, Nat.reduceAdd, if_true, if_false, reduceIte, reduceCtorEq, Bool.not_true, Bool.not_false, Bool.false_eq_true, Mx.fI2, Mx.fU, Option.map_some, Option.map_none, Nat.reduceEqDiff, Mx.isi_int, Mx.isi_int2, Mx.isi_tup, Mx.len_tup, decide_true, decide_false, Mx.holds_bind_iff, Mx.holds_ok, Mx.holds_exc, s0, eT, ne_str, w2, mSl, moNone, moSome, eC]
      exact ⟨[], j12, j13, rfl, T, by simp⟩
  | cons u us =>
    have fin : ∀ s : Sto, DSt s d q b r (ways n b) us → Kp st d s → Tn s q b r n d us := fun s h k => ⟨by rw [k 0 hd0]; exact T.d0, h, T.g.1⟩
    have eb : (!(u :: us).isEmpty) = true := rfl
    cases dk : decide ((k : Int) = 0) with
    | true =>
      simp only [Mx.mDef, Mx.mSeq, Mx.mAsg, Mx.mRet, Mx.mDrop, Mx.mIfS, Mx.mNx, Mx.mAndV, Mx.mOrV, Mx.mNotV, Mx.mIf, Mx.mB, Mx.mAnd, Mx.mOr, Mx.mNot, Mx.mNil, Mx.mCons, Mx.mCB, Mx.mCall, Mx.m1, Mx.m2, Mx.mC, Mx.mVar, Mx.mChain, Mx.mTup, Mx.mLst, Mx.mPar, Mx.mPar3, Mx.gmName, Mx.gmTup, Mx.gmCons, Mx.gmNil, Mx.mFld, Mx.bind_ok, Mx.bind_fail, Mx.bind_exc, Mx.noX_ok, Mx.thenS_nx, Mx.thenS_rt, Mx.asB_bl, Mx.ofO_some, Mx.ofO_none, Mx.flow_nx, List.map_cons, List.map_nil, List.cons_append, List.nil_append, List.append_nil, List.getElem?_cons_zero, List.getElem?_cons_succ, List.set_cons_zero, List.set_cons_succ, List.replicate_succ, List.replicate_zero, List.length_cons, List.length_nil, Nat.zero_add, Nat.reduceAdd, if_true, if_false, reduceIte, reduceCtorEq, Bool.not_true, Bool.not_false, Bool.false_eq_true, Mx.fI2, Mx.fU, Option.map_some, Option.map_none, Nat.reduceEqDiff, Mx.isi_int, Mx.isi_int2, Mx.isi_tup, Mx.len_tup, decide_true, decide_false, Mx.holds_bind_iff, Mx.holds_ok, Mx.holds_exc, eq_int, dk, mMeth, hd, lk, and_self]
      refine holds_mono (fun y hy => ?_) (fun _ _ z => z) (back_h T.g (by simp at hl; omega) T.ds)
      have eT := ne_T (ts := u :: us) (s := y.2)
      have eC := cut_T (ts := u :: us) (s := y.2)
      rw [eb] at eT
      simp only [Mx.mDef, Mx.mSeq, Mx.mAsg, Mx.mRet, Mx.mDrop, Mx.mIfS, Mx.mNx, Mx.mAndV, Mx.mOrV, Mx.mNotV, Mx.mIf, Mx.mB, Mx.mAnd, Mx.mOr, Mx.mNot, Mx.mNil, Mx.mCons, Mx.mCB, Mx.mCall, Mx.m1, Mx.m2, Mx.mC, Mx.mVar, Mx.mChain, Mx.mTup, Mx.mLst, Mx.mPar, Mx.mPar3, Mx.gmName, Mx.gmTup, Mx.gmCons, Mx.gmNil, Mx.mFld, Mx.bind_ok, Mx.bind_fail, Mx.bind_exc, Mx.noX_ok, Mx.thenS_nx, Mx.thenS_rt, Mx.asB_bl, Mx.ofO_some, Mx.ofO_none, Mx.flow_nx, List.map_cons, List.map_nil, List.cons_append, List.nil_append, List.append_nil, List.getElem?_cons_zero, List.getElem?_cons_succ, List.set_cons_zero, List.set_cons_succ, List.replicate_succ, List.replicate_zero, List.length_cons, List.length_nil, Nat.zero_add, Nat.reduceAdd, if_true, if_false, reduceIte, reduceCtorEq, Bool.not_true, Bool.not_false, Bool.false_eq_true, Mx.fI2, Mx.fU, Option.map_some, Option.map_none, Nat.reduceEqDiff, Mx.isi_int, Mx.isi_int2, Mx.isi_tup, Mx.len_tup, decide_true, decide_false, Mx.holds_bind_iff, Mx.holds_ok, Mx.holds_exc, s0, eT, ne_str, w1, mSl, moNone, moSome, eC]
      exact ⟨us, j12, j13, rfl, fin _ hy.2.1 hy.2.2, by simp; omega⟩
    | false =>
      simp only [Mx.mDef, Mx.mSeq, Mx.mAsg, Mx.mRet, Mx.mDrop, Mx.mIfS, Mx.mNx, Mx.mAndV, Mx.mOrV, Mx.mNotV, Mx.mIf, Mx.mB, Mx.mAnd, Mx.mOr, Mx.mNot, Mx.mNil, Mx.mCons, Mx.mCB, Mx.mCall, Mx.m1, Mx.m2, Mx.mC, Mx.mVar, Mx.mChain, Mx.mTup, Mx.mLst, Mx.mPar, Mx.mPar3, Mx.gmName, Mx.gmTup, Mx.gmCons, Mx.gmNil, Mx.mFld, Mx.bind_ok, Mx.bind_fail, Mx.bind_exc, Mx.noX_ok, Mx.thenS_nx, Mx.thenS_rt, Mx.asB_bl, Mx.ofO_some, Mx.ofO_none, Mx.flow_nx, List.map_cons, List.map_nil, List.cons_append, List.nil_append, List.append_nil, List.getElem?_cons_zero, List.getElem?_cons_succ, List.set_cons_zero, List.set_cons_succ, List.replicate_succ, List.replicate_zero, List.length_cons, List.length_nil, Nat.zero_add, Nat.reduceAdd, if_true, if_false, reduceIte, reduceCtorEq, Bool.not_true, Bool.not_false, Bool.false_eq_true, Mx.fI2, Mx.fU, Option.map_some, Option.map_none, Nat.reduceEqDiff, Mx.isi_int, Mx.isi_int2, Mx.isi_tup, Mx.len_tup, decide_true, decide_false, Mx.holds_bind_iff, Mx.holds_ok, Mx.holds_exc, eq_int, dk, mMeth, hd, lk2, and_self]
      refine holds_mono (fun y hy => ?_) (fun _ _ z => z) (do_back T.g (by simp at hl; omega) T.ds)
      have eT := ne_T (ts := u :: us) (s := y.2)
      have eC := cut_T (ts := u :: us) (s := y.2)
      rw [eb] at eT
      simp only [Mx.mDef, Mx.mSeq, Mx.mAsg, Mx.mRet, Mx.mDrop, Mx.mIfS, Mx.mNx, Mx.mAndV, Mx.mOrV, Mx.mNotV, Mx.mIf, Mx.mB, Mx.mAnd, Mx.mOr, Mx.mNot, Mx.mNil, Mx.mCons, Mx.mCB, Mx.mCall, Mx.m1, Mx.m2, Mx.mC, Mx.mVar, Mx.mChain, Mx.mTup, Mx.mLst, Mx.mPar, Mx.mPar3, Mx.gmName, Mx.gmTup, Mx.gmCons, Mx.gmNil, Mx.mFld, Mx.bind_ok, Mx.bind_fail, Mx.bind_exc, Mx.noX_ok, Mx.thenS_nx, Mx.thenS_rt, Mx.asB_bl, Mx.ofO_some, Mx.ofO_none, Mx.flow_nx, List.map_cons, List.map_nil, List.cons_append, List.nil_append, List.append_nil, List.getElem?_cons_zero, List.getElem?_cons_succ, List.set_cons_zero, List.set_cons_succ, List.replicate_succ, List.replicate_zero, List.length_cons, List.length_nil, Nat.zero_add, Nat.reduceAdd, if_true, if_false, reduceIte, reduceCtorEq, Bool.not_true, Bool.not_false, Bool.false_eq_true, Mx.fI2, Mx.fU, Option.map_some, Option.map_none, Nat.reduceEqDiff, Mx.isi_int, Mx.isi_int2, Mx.isi_tup, Mx.len_tup, decide_true, decide_false, Mx.holds_bind_iff, Mx.holds_ok, Mx.holds_exc, s0, eT, ne_str, w1, mSl, moNone, moSome, eC]
      exact ⟨us, j12, j13, rfl, fin _ hy.2.1 hy.2.2, by simp; omega⟩
theorem Tn.pre {s : Sto} (T : Tn st q b r n d ts) (p : st <+: s) : Tn s q b r n d ts := ⟨pre_get p T.d0, T.ds.pre p, T.g⟩
theorem turn1 (hq : QOk q n) (T : Tn st q b r n d ts) : (mTurn (ev14 q b n r d ts j8 (some (.int 1)) (some (.int t)) (some (.bl fine)) j12 j13) st).holds (Don q b n r d ts j8 (some (.int 1)) (some (.int t)) (some (.bl fine))) E := by
  have d1 : decide ((1 : Int) = 0) = false := rfl
  have d2 : decide ((1 : Int) = 1) = true := rfl
  have w2 : decide (("step" : Str) = "step") = true := by decide +kernel
  have s5 : ((5 : Nat) ≤ sizeLine) = True := by rw [sizeLine_eq]; simp
  have hn := hq.n1
  unfold mTurn ev14
  simp only [Mx.mDef, Mx.mSeq, Mx.mAsg, Mx.mRet, Mx.mDrop, Mx.mIfS, Mx.mNx, Mx.mAndV, Mx.mOrV, Mx.mNotV, Mx.mIf, Mx.mB, Mx.mAnd, Mx.mOr, Mx.mNot, Mx.mNil, Mx.mCons, Mx.mCB, Mx.mCall, Mx.m1, Mx.m2, Mx.mC, Mx.mVar, Mx.mChain, Mx.mTup, Mx.mLst, Mx.mPar, Mx.mPar3, Mx.gmName, Mx.gmTup, Mx.gmCons, Mx.gmNil, Mx.mFld, Mx.bind_ok, Mx.bind_fail, Mx.bind_exc, Mx.noX_ok, Mx.thenS_nx, Mx.thenS_rt, Mx.asB_bl, Mx.ofO_some, Mx.ofO_none, Mx.flow_nx, List.map_cons, List.map_nil, List.cons_append, List.nil_append, List.append_nil, List.getElem?_cons_zero, List.getElem?_cons_succ, List.set_cons_zero, List.set_cons_succ, List.replicate_succ, List.replicate_zero, List.length_cons, List.length_nil, Nat.zero_add, Nat.reduceAdd, if_true, if_false, reduceIte, reduceCtorEq, Bool.not_true, Bool.not_false, Bool.false_eq_true, Mx.fI2, Mx.fU, Option.map_some, Option.map_none, Nat.reduceEqDiff, Mx.isi_int, Mx.isi_int2, Mx.isi_tup, Mx.len_tup, decide_true, decide_false, Mx.holds_bind_iff, Mx.holds_ok, Mx.holds_exc, eq_int, d1, d2, s5]
  have p : st <+: st ++ [Ob.lst [.non, .int (n : Nat), .bl true, .str "a", .int (0 - 2)]] := List.prefix_append _ _
  refine pick_h (pre_get p T.d0) get_new (by simp) (by simp) (fun a ha => ?_)
  have T2 := T.pre p
  generalize st ++ [Ob.lst [.non, .int (n : Nat), .bl true, .str "a", .int (0 - 2)]] = s at *
  have hb : f_is_number [a, .int (-1), .int ((n : Int) - 1)] s = .ok (.bl false, s) := by
    rcases List.mem_cons.mp ha with rfl | ha
    · exact num_non
    rcases List.mem_cons.mp ha with rfl | ha
    · exact num_f (by omega)
    rcases List.mem_cons.mp ha with rfl | ha
    · exact num_bl
    rcases List.mem_cons.mp ha with rfl | ha
    · exact num_str
    rw [List.mem_singleton.mp ha]
    exact num_f (by omega)
  have e := tag_bad hq hb T2.ds
  have hd := T2.ds.o
  have lk := (lkp (d := d) (q := q) (b := b) (r := r)).2.1
  simp only [Mx.mDef, Mx.mSeq, Mx.mAsg, Mx.mRet, Mx.mDrop, Mx.mIfS, Mx.mNx, Mx.mAndV, Mx.mOrV, Mx.mNotV, Mx.mIf, Mx.mB, Mx.mAnd, Mx.mOr, Mx.mNot, Mx.mNil, Mx.mCons, Mx.mCB, Mx.mCall, Mx.m1, Mx.m2, Mx.mC, Mx.mVar, Mx.mChain, Mx.mTup, Mx.mLst, Mx.mPar, Mx.mPar3, Mx.gmName, Mx.gmTup, Mx.gmCons, Mx.gmNil, Mx.mFld, Mx.bind_ok, Mx.bind_fail, Mx.bind_exc, Mx.noX_ok, Mx.thenS_nx, Mx.thenS_rt, Mx.asB_bl, Mx.ofO_some, Mx.ofO_none, Mx.flow_nx, List.map_cons, List.map_nil, List.cons_append, List.nil_append, List.append_nil, List.getElem?_cons_zero, List.getElem?_cons_succ, List.set_cons_zero, List.set_cons_succ, List.replicate_succ, List.replicate_zero, List.length_cons, List.length_nil, Nat.zero_add, Nat.reduceAdd, if_true, if_false, reduceIte, reduceCtorEq, Bool.not_true, Bool.not_false, Bool.false_eq_true, Mx.fI2, Mx.fU, Option.map_some, Option.map_none, Nat.reduceEqDiff, Mx.isi_int, Mx.isi_int2, Mx.isi_tup, Mx.len_tup, decide_true, decide_false, Mx.holds_bind_iff, Mx.holds_ok, Mx.holds_exc]
  refine word_h ?_
  simp only [Mx.mDef, Mx.mSeq, Mx.mAsg, Mx.mRet, Mx.mDrop, Mx.mIfS, Mx.mNx, Mx.mAndV, Mx.mOrV, Mx.mNotV, Mx.mIf, Mx.mB, Mx.mAnd, Mx.mOr, Mx.mNot, Mx.mNil, Mx.mCons, Mx.mCB, Mx.mCall, Mx.m1, Mx.m2, Mx.mC, Mx.mVar, Mx.mChain, Mx.mTup, Mx.mLst, Mx.mPar, Mx.mPar3, Mx.gmName, Mx.gmTup, Mx.gmCons, Mx.gmNil, Mx.mFld, Mx.bind_ok, Mx.bind_fail, Mx.bind_exc, Mx.noX_ok, Mx.thenS_nx, Mx.thenS_rt, Mx.asB_bl, Mx.ofO_some, Mx.ofO_none, Mx.flow_nx, List.map_cons, List.map_nil, List.cons_append, List.nil_append, List.append_nil, List.getElem?_cons_zero, List.getElem?_cons_succ, List.set_cons_zero, List.set_cons_succ, List.replicate_succ, List.replicate_zero, List.length_cons, List.length_nil, Nat.zero_add, Nat.reduceAdd, if_true, if_false, reduceIte, reduceCtorEq, Bool.not_true, Bool.not_false, Bool.false_eq_true, Mx.fI2, Mx.fU, Option.map_some, Option.map_none, Nat.reduceEqDiff, Mx.isi_int, Mx.isi_int2, Mx.isi_tup, Mx.len_tup, decide_true, decide_false, Mx.holds_bind_iff, Mx.holds_ok, Mx.holds_exc, mMeth, hd, lk, and_self, e]
  refine ⟨"step", rfl, ?_⟩
  simp only [Mx.mDef, Mx.mSeq, Mx.mAsg, Mx.mRet, Mx.mDrop, Mx.mIfS, Mx.mNx, Mx.mAndV, Mx.mOrV, Mx.mNotV, Mx.mIf, Mx.mB, Mx.mAnd, Mx.mOr, Mx.mNot, Mx.mNil, Mx.mCons, Mx.mCB, Mx.mCall, Mx.m1, Mx.m2, Mx.mC, Mx.mVar, Mx.mChain, Mx.mTup, Mx.mLst, Mx.mPar, Mx.mPar3, Mx.gmName, Mx.gmTup, Mx.gmCons, Mx.gmNil, Mx.mFld, Mx.bind_ok, Mx.bind_fail, Mx.bind_exc, Mx.noX_ok, Mx.thenS_nx, Mx.thenS_rt, Mx.asB_bl, Mx.ofO_some, Mx.ofO_none, Mx.flow_nx, List.map_cons, List.map_nil, List.cons_append, List.nil_append, List.append_nil, List.getElem?_cons_zero, List.getElem?_cons_succ, List.set_cons_zero, List.set_cons_succ, List.replicate_succ, List.replicate_zero, List.length_cons, List.length_nil, Nat.zero_add, Nat.reduceAdd, if_true, if_false, reduceIte, reduceCtorEq, Bool.not_true, Bool.not_false, Bool.false_eq_true, Mx.fI2, Mx.fU, Option.map_some, Option.map_none, Nat.reduceEqDiff, Mx.isi_int, Mx.isi_int2, Mx.isi_tup, Mx.len_tup, decide_true, decide_false, Mx.holds_bind_iff, Mx.holds_ok, Mx.holds_exc, ne_str, w2]
  exact ⟨ts, some a, j13, rfl, T2, by omega⟩
end
end Mx

/-! ### MkMG -/
set_option Elab.async false
set_option linter.all false
set_option maxRecDepth 100000
set_option maxHeartbeats 2000000
namespace Mx
open PySem PySem.Spec PyProof.Rows L2
section
variable {q : Qn} {r : Rd} {n c d : Nat} {b : Bool} {st : Sto} {ts : List Int} {E : Xc → Sto → Prop}
variable {j8 j12 j13 : Option A} {fine : Bool} {t : Int}
theorem turn2 (hq : QOk q n) (T : Tn st q b r n d ts) (mt : SM) (hmt : mt = mTurn) : (mt (ev14 q b n r d ts j8 (some (.int 2)) (some (.int t)) (some (.bl fine)) j12 j13) st).holds (Don q b n r d ts j8 (some (.int 2)) (some (.int t)) (some (.bl fine))) E := by
  have d1 : decide ((2 : Int) = 0) = false := rfl
  have d2 : decide ((2 : Int) = 1) = false := rfl
  have d3 : decide ((2 : Int) = 2) = true := rfl
  have w2 : decide (("line" : Str) = "line") = true := by decide +kernel
  have s9 : ((9 : Nat) ≤ sizeLine) = True := by rw [sizeLine_eq]; simp
  have hn := hq.n1
  have hn2 := hq.n2
  have lk := (lkp (d := d) (q := q) (b := b) (r := r)).2.2.2
  obtain ⟨z, ez, hz⟩ : ∃ z : Str, fIx (.str "abc") (.int (n : Nat)) st = some (.str z, st) ∧ ((n = 1 ∧ z = "b") ∨ (n = 2 ∧ z = "c")) := by
    have : n = 1 ∨ n = 2 := by omega
    rcases this with rfl | rfl
    · exact ⟨"b", rfl, .inl ⟨rfl, rfl⟩⟩
    · exact ⟨"c", rfl, .inr ⟨rfl, rfl⟩⟩
  subst hmt
  unfold mTurn ev14
  simp only [Mx.mDef, Mx.mSeq, Mx.mAsg, Mx.mRet, Mx.mDrop, Mx.mIfS, Mx.mNx, Mx.mAndV, Mx.mOrV, Mx.mNotV, Mx.mIf, Mx.mB, Mx.mAnd, Mx.mOr, Mx.mNot, Mx.mNil, Mx.mCons, Mx.mCB, Mx.mCall, Mx.m1, Mx.m2, Mx.mC, Mx.mVar, Mx.mChain, Mx.mTup, Mx.mLst, Mx.mPar, Mx.mPar3, Mx.gmName, Mx.gmTup, Mx.gmCons, Mx.gmNil, Mx.mFld, Mx.bind_ok, Mx.bind_fail, Mx.bind_exc, Mx.noX_ok, Mx.thenS_nx, Mx.thenS_rt, Mx.asB_bl, Mx.ofO_some, Mx.ofO_none, Mx.flow_nx, List.map_cons, List.map_nil, List.cons_append, List.nil_append, List.append_nil, List.getElem?_cons_zero, List.getElem?_cons_succ, List.set_cons_zero, List.set_cons_succ, List.replicate_succ, List.replicate_zero, List.length_cons, List.length_nil, Nat.zero_add, Nat.reduceAdd, if_true, if_false, reduceIte, reduceCtorEq, Bool.not_true, Bool.not_false, Bool.false_eq_true, Mx.fI2, Mx.fU, Option.map_some, Option.map_none, Nat.reduceEqDiff, Mx.isi_int, Mx.isi_int2, Mx.isi_tup, Mx.len_tup, decide_true, decide_false, Mx.holds_bind_iff, Mx.holds_ok, Mx.holds_exc, eq_int, d1, d2, d3, ez, s9]
  have p : st <+: st ++ [Ob.lst [.str "", .str "d", .str "A", .non, .int 5, .str "aa", .str " a", .str "rows", .str z]] := List.prefix_append _ _
  refine pick_h (pre_get p T.d0) get_new (by simp) (by simp) (fun a ha => ?_)
  have T2 := T.pre p
  generalize st ++ [Ob.lst [.str "", .str "d", .str "A", .non, .int 5, .str "aa", .str " a", .str "rows", .str z]] = s at *
  have hd := T2.ds.o
  have hf : fldOk (.int 0) = true := by decide +kernel
  -- what `do` says of a, as a word that is not unfolded
  obtain ⟨W, hW⟩ : ∃ W : A → Prop, ∀ x, W x ↔ ∀ {Q : A × Sto → Prop} {E : Xc → Sto → Prop}, E (11, some ("line", .int 0)) s → (f_Desk_do [.ref d, x] s).holds Q E := ⟨_, fun _ => Iff.rfl⟩
  have key : W a := by
    have bad : ∀ {x : Str}, Plain x → ((∃ m, x.length = m ∧ m ≤ 1000 ∧ m ≠ 1) ∨ (x.length = 1 ∧ f_tag_of [.int n, .str x] s = .ok (.non, s))) → W (.str x) := fun p h => (hW _).mpr fun hE => do_else p T2.ds (bad_tag hq T2.ds h hE)
    have tn : ∀ {x : Str} {k : Int}, decide (x = ")") = false → Txt.find "abc)" x = k → ¬ (0 ≤ k ∧ k < n) → f_tag_of [.int n, .str x] s = .ok (.non, s) := fun h hk h2 => by rw [tag_find h hk, if_neg h2]
    rcases List.mem_cons.mp ha with rfl | ha
    · exact bad ⟨by decide +kernel, by decide +kernel, by decide +kernel, by decide +kernel⟩ (.inl ⟨0, by decide +kernel, by omega, by omega⟩)
    rcases List.mem_cons.mp ha with rfl | ha
    · exact bad ⟨by decide +kernel, by decide +kernel, by decide +kernel, by decide +kernel⟩ (.inr ⟨by decide +kernel, tn (k := -1) (by decide +kernel) (by decide +kernel) (by omega)⟩)
    rcases List.mem_cons.mp ha with rfl | ha
    · exact bad ⟨by decide +kernel, by decide +kernel, by decide +kernel, by decide +kernel⟩ (.inr ⟨by decide +kernel, tn (k := -1) (by decide +kernel) (by decide +kernel) (by omega)⟩)
    rcases List.mem_cons.mp ha with rfl | ha
    · apply (hW _).mpr
      intro Q E hE
      unfold f_Desk_do m_Desk_do
      simp only [Mx.mDef, Mx.mSeq, Mx.mAsg, Mx.mRet, Mx.mDrop, Mx.mIfS, Mx.mNx, Mx.mAndV, Mx.mOrV, Mx.mNotV, Mx.mIf, Mx.mB, Mx.mAnd, Mx.mOr, Mx.mNot, Mx.mNil, Mx.mCons, Mx.mCB, Mx.mCall, Mx.m1, Mx.m2, Mx.mC, Mx.mVar, Mx.mChain, Mx.mTup, Mx.mLst, Mx.mPar, Mx.mPar3, Mx.gmName, Mx.gmTup, Mx.gmCons, Mx.gmNil, Mx.mFld, Mx.bind_ok, Mx.bind_fail, Mx.bind_exc, Mx.noX_ok, Mx.thenS_nx, Mx.thenS_rt, Mx.asB_bl, Mx.ofO_some, Mx.ofO_none, Mx.flow_nx, List.map_cons, List.map_nil, List.cons_append, List.nil_append, List.append_nil, List.getElem?_cons_zero, List.getElem?_cons_succ, List.set_cons_zero, List.set_cons_succ, List.replicate_succ, List.replicate_zero, List.length_cons, List.length_nil, Nat.zero_add, Nat.reduceAdd, if_true, if_false, reduceIte, reduceCtorEq, Bool.not_true, Bool.not_false, Bool.false_eq_true, Mx.fI2, Mx.fU, Option.map_some, Option.map_none, Nat.reduceEqDiff, Mx.isi_int, Mx.isi_int2, Mx.isi_tup, Mx.len_tup, decide_true, decide_false, Mx.holds_bind_iff, Mx.holds_ok, Mx.holds_exc, isi_strn, mRz1, hf]
      exact hE
    rcases List.mem_cons.mp ha with rfl | ha
    · apply (hW _).mpr
      intro Q E hE
      unfold f_Desk_do m_Desk_do
      simp only [Mx.mDef, Mx.mSeq, Mx.mAsg, Mx.mRet, Mx.mDrop, Mx.mIfS, Mx.mNx, Mx.mAndV, Mx.mOrV, Mx.mNotV, Mx.mIf, Mx.mB, Mx.mAnd, Mx.mOr, Mx.mNot, Mx.mNil, Mx.mCons, Mx.mCB, Mx.mCall, Mx.m1, Mx.m2, Mx.mC, Mx.mVar, Mx.mChain, Mx.mTup, Mx.mLst, Mx.mPar, Mx.mPar3, Mx.gmName, Mx.gmTup, Mx.gmCons, Mx.gmNil, Mx.mFld, Mx.bind_ok, Mx.bind_fail, Mx.bind_exc, Mx.noX_ok, Mx.thenS_nx, Mx.thenS_rt, Mx.asB_bl, Mx.ofO_some, Mx.ofO_none, Mx.flow_nx, List.map_cons, List.map_nil, List.cons_append, List.nil_append, List.append_nil, List.getElem?_cons_zero, List.getElem?_cons_succ, List.set_cons_zero, List.set_cons_succ, List.replicate_succ, List.replicate_zero, List.length_cons, List.length_nil, Nat.zero_add, Nat.reduceAdd, if_true, if_false, reduceIte, reduceCtorEq, Bool.not_true, Bool.not_false, Bool.false_eq_true, Mx.fI2, Mx.fU, Option.map_some, Option.map_none, Nat.reduceEqDiff, Mx.isi_int, Mx.isi_int2, Mx.isi_tup, Mx.len_tup, decide_true, decide_false, Mx.holds_bind_iff, Mx.holds_ok, Mx.holds_exc, isi_stri, mRz1, hf]
      exact hE
    rcases List.mem_cons.mp ha with rfl | ha
    · exact bad ⟨by decide +kernel, by decide +kernel, by decide +kernel, by decide +kernel⟩ (.inl ⟨2, by decide +kernel, by omega, by omega⟩)
    rcases List.mem_cons.mp ha with rfl | ha
    · exact bad ⟨by decide +kernel, by decide +kernel, by decide +kernel, by decide +kernel⟩ (.inl ⟨2, by decide +kernel, by omega, by omega⟩)
    rcases List.mem_cons.mp ha with rfl | ha
    · exact bad ⟨by decide +kernel, by decide +kernel, by decide +kernel, by decide +kernel⟩ (.inl ⟨4, by decide +kernel, by omega, by omega⟩)
    rw [List.mem_singleton.mp ha]
    rcases hz with ⟨e, rfl⟩ | ⟨e, rfl⟩
    · exact bad ⟨by decide +kernel, by decide +kernel, by decide +kernel, by decide +kernel⟩ (.inr ⟨by decide +kernel, tn (k := 1) (by decide +kernel) (by decide +kernel) (by omega)⟩)
    · exact bad ⟨by decide +kernel, by decide +kernel, by decide +kernel, by decide +kernel⟩ (.inr ⟨by decide +kernel, tn (k := 2) (by decide +kernel) (by decide +kernel) (by omega)⟩)
  simp only [Mx.mDef, Mx.mSeq, Mx.mAsg, Mx.mRet, Mx.mDrop, Mx.mIfS, Mx.mNx, Mx.mAndV, Mx.mOrV, Mx.mNotV, Mx.mIf, Mx.mB, Mx.mAnd, Mx.mOr, Mx.mNot, Mx.mNil, Mx.mCons, Mx.mCB, Mx.mCall, Mx.m1, Mx.m2, Mx.mC, Mx.mVar, Mx.mChain, Mx.mTup, Mx.mLst, Mx.mPar, Mx.mPar3, Mx.gmName, Mx.gmTup, Mx.gmCons, Mx.gmNil, Mx.mFld, Mx.bind_ok, Mx.bind_fail, Mx.bind_exc, Mx.noX_ok, Mx.thenS_nx, Mx.thenS_rt, Mx.asB_bl, Mx.ofO_some, Mx.ofO_none, Mx.flow_nx, List.map_cons, List.map_nil, List.cons_append, List.nil_append, List.append_nil, List.getElem?_cons_zero, List.getElem?_cons_succ, List.set_cons_zero, List.set_cons_succ, List.replicate_succ, List.replicate_zero, List.length_cons, List.length_nil, Nat.zero_add, Nat.reduceAdd, if_true, if_false, reduceIte, reduceCtorEq, Bool.not_true, Bool.not_false, Bool.false_eq_true, Mx.fI2, Mx.fU, Option.map_some, Option.map_none, Nat.reduceEqDiff, Mx.isi_int, Mx.isi_int2, Mx.isi_tup, Mx.len_tup, decide_true, decide_false, Mx.holds_bind_iff, Mx.holds_ok, Mx.holds_exc]
  refine word_h ?_
  simp only [Mx.mDef, Mx.mSeq, Mx.mAsg, Mx.mRet, Mx.mDrop, Mx.mIfS, Mx.mNx, Mx.mAndV, Mx.mOrV, Mx.mNotV, Mx.mIf, Mx.mB, Mx.mAnd, Mx.mOr, Mx.mNot, Mx.mNil, Mx.mCons, Mx.mCB, Mx.mCall, Mx.m1, Mx.m2, Mx.mC, Mx.mVar, Mx.mChain, Mx.mTup, Mx.mLst, Mx.mPar, Mx.mPar3, Mx.gmName, Mx.gmTup, Mx.gmCons, Mx.gmNil, Mx.mFld, Mx.bind_ok, Mx.bind_fail, Mx.bind_exc, Mx.noX_ok, Mx.thenS_nx, Mx.thenS_rt, Mx.asB_bl, Mx.ofO_some, Mx.ofO_none, Mx.flow_nx, List.map_cons, List.map_nil, List.cons_append, List.nil_append, List.append_nil, List.getElem?_cons_zero, List.getElem?_cons_succ, List.set_cons_zero, List.set_cons_succ, List.replicate_succ, List.replicate_zero, List.length_cons, List.length_nil, Nat.zero_add, Nat.reduceAdd, if_true, if_false, reduceIte, reduceCtorEq, Bool.not_true, Bool.not_false, Bool.false_eq_true, Mx.fI2, Mx.fU, Option.map_some, Option.map_none, Nat.reduceEqDiff, Mx.isi_int, Mx.isi_int2, Mx.isi_tup, Mx.len_tup, decide_true, decide_false, Mx.holds_bind_iff, Mx.holds_ok, Mx.holds_exc, mMeth, hd, lk, and_self]
  refine (hW _).mp key ⟨"line", rfl, ?_⟩
  simp only [Mx.mDef, Mx.mSeq, Mx.mAsg, Mx.mRet, Mx.mDrop, Mx.mIfS, Mx.mNx, Mx.mAndV, Mx.mOrV, Mx.mNotV, Mx.mIf, Mx.mB, Mx.mAnd, Mx.mOr, Mx.mNot, Mx.mNil, Mx.mCons, Mx.mCB, Mx.mCall, Mx.m1, Mx.m2, Mx.mC, Mx.mVar, Mx.mChain, Mx.mTup, Mx.mLst, Mx.mPar, Mx.mPar3, Mx.gmName, Mx.gmTup, Mx.gmCons, Mx.gmNil, Mx.mFld, Mx.bind_ok, Mx.bind_fail, Mx.bind_exc, Mx.noX_ok, Mx.thenS_nx, Mx.thenS_rt, Mx.asB_bl, Mx.ofO_some, Mx.ofO_none, Mx.flow_nx, List.map_cons, List.map_nil, List.cons_append, List.nil_append, List.append_nil, List.getElem?_cons_zero, List.getElem?_cons_succ, List.set_cons_zero, List.set_cons_succ, List.replicate_succ, List.replicate_zero, List.length_cons, List.length_nil, Nat.zero_add, Nat.reduceAdd, if_true, if_false, reduceIte, reduceCtorEq, Bool.not_true, Bool.not_false, Bool.false_eq_true, Mx.fI2, Mx.fU, Option.map_some, Option.map_none, Nat.reduceEqDiff, Mx.isi_int, Mx.isi_int2, Mx.isi_tup, Mx.len_tup, decide_true, decide_false, Mx.holds_bind_iff, Mx.holds_ok, Mx.holds_exc, ne_str, w2]
  exact ⟨ts, some a, j13, rfl, T2, by omega⟩
end
end Mx

/-! ### MkMH -/
set_option Elab.async false
set_option linter.all false
set_option maxRecDepth 100000
set_option maxHeartbeats 2000000
namespace Mx
open PySem PySem.Spec PyProof.Rows L2
section
variable {q : Qn} {r : Rd} {n c d : Nat} {b : Bool} {st : Sto} {ts : List Int} {E : Xc → Sto → Prop}
variable {j8 j12 j13 : Option A} {fine : Bool} {t : Int} {way : Nat}
theorem two_eq {s : Sto} {k k2 : Nat} (h : s[k]? = some (.lst [.str "step", .str "step"])) (h2 : s[k2]? = some (.lst [.str "step", .str "step"])) : fNe (.ref k) (.ref k2) s = some (.bl false, s) := by
  have e1 : ∀ {j : Nat}, s[j]? = some (.lst [.str "step", .str "step"]) → toP s 40 (.ref j) = some (.list [.str "step", .str "step"]) := fun {j} h => by
    rw [toP, h]
    simp [toPs, toP]
  have e : eqA (.ref k) (.ref k2) s = some true := by
    show eqDeep (.ref k) (.ref k2) s = _
    unfold eqDeep
    rw [e1 h, e1 h2]
    decide +kernel
  unfold fNe
  rw [e]
  rfl
theorem turn3 (hq : QOk q n) (hw : 3 ≤ way) (hn : nms ts = []) (T : Tn st q b r n d ts) (mt : SM) (hmt : mt = mTurn) : (mt (ev14 q b n r d ts j8 (some (.int (way : Nat))) (some (.int (-1))) (some (.bl false)) j12 j13) st).holds (Don q b n r d ts j8 (some (.int (way : Nat))) (some (.int (-1))) (some (.bl false))) E := by
  have d1 : decide ((way : Int) = 0) = false := decide_eq_false (by omega)
  have d2 : decide ((way : Int) = 1) = false := decide_eq_false (by omega)
  have d3 : decide ((way : Int) = 2) = false := decide_eq_false (by omega)
  have s1 : ((1 : Nat) ≤ sizeLine) = True := by rw [sizeLine_eq]; simp
  have s2 : ((2 : Nat) ≤ sizeLine) = True := by rw [sizeLine_eq]; simp
  have hd := T.ds.o
  have lk1 := (lkp (d := d) (q := q) (b := b) (r := r)).2.1
  have lk2 := (lkp (d := d) (q := q) (b := b) (r := r)).2.2.2
  have e1 := tag_none hq hn T.ds
  have e2 := sign_none hq hn T.ds
  subst hmt
  unfold mTurn ev14
  simp only [Mx.mDef, Mx.mSeq, Mx.mAsg, Mx.mRet, Mx.mDrop, Mx.mIfS, Mx.mNx, Mx.mAndV, Mx.mOrV, Mx.mNotV, Mx.mIf, Mx.mB, Mx.mAnd, Mx.mOr, Mx.mNot, Mx.mNil, Mx.mCons, Mx.mCB, Mx.mCall, Mx.m1, Mx.m2, Mx.mC, Mx.mVar, Mx.mChain, Mx.mTup, Mx.mLst, Mx.mPar, Mx.mPar3, Mx.gmName, Mx.gmTup, Mx.gmCons, Mx.gmNil, Mx.mFld, Mx.bind_ok, Mx.bind_fail, Mx.bind_exc, Mx.noX_ok, Mx.thenS_nx, Mx.thenS_rt, Mx.asB_bl, Mx.ofO_some, Mx.ofO_none, Mx.flow_nx, List.map_cons, List.map_nil, List.cons_append, List.nil_append, List.append_nil, List.getElem?_cons_zero, List.getElem?_cons_succ, List.set_cons_zero, List.set_cons_succ, List.replicate_succ, List.replicate_zero, List.length_cons, List.length_nil, Nat.zero_add, Nat.reduceAdd, if_true, if_false, reduceIte, reduceCtorEq, Bool.not_true, Bool.not_false, Bool.false_eq_true, Mx.fI2, Mx.fU, Option.map_some, Option.map_none, Nat.reduceEqDiff, Mx.isi_int, Mx.isi_int2, Mx.isi_tup, Mx.len_tup, decide_true, decide_false, Mx.holds_bind_iff, Mx.holds_ok, Mx.holds_exc, eq_int, d1, d2, d3]
  refine word_h ?_
  simp only [Mx.mDef, Mx.mSeq, Mx.mAsg, Mx.mRet, Mx.mDrop, Mx.mIfS, Mx.mNx, Mx.mAndV, Mx.mOrV, Mx.mNotV, Mx.mIf, Mx.mB, Mx.mAnd, Mx.mOr, Mx.mNot, Mx.mNil, Mx.mCons, Mx.mCB, Mx.mCall, Mx.m1, Mx.m2, Mx.mC, Mx.mVar, Mx.mChain, Mx.mTup, Mx.mLst, Mx.mPar, Mx.mPar3, Mx.gmName, Mx.gmTup, Mx.gmCons, Mx.gmNil, Mx.mFld, Mx.bind_ok, Mx.bind_fail, Mx.bind_exc, Mx.noX_ok, Mx.thenS_nx, Mx.thenS_rt, Mx.asB_bl, Mx.ofO_some, Mx.ofO_none, Mx.flow_nx, List.map_cons, List.map_nil, List.cons_append, List.nil_append, List.append_nil, List.getElem?_cons_zero, List.getElem?_cons_succ, List.set_cons_zero, List.set_cons_succ, List.replicate_succ, List.replicate_zero, List.length_cons, List.length_nil, Nat.zero_add, Nat.reduceAdd, if_true, if_false, reduceIte, reduceCtorEq, Bool.not_true, Bool.not_false, Bool.false_eq_true, Mx.fI2, Mx.fU, Option.map_some, Option.map_none, Nat.reduceEqDiff, Mx.isi_int, Mx.isi_int2, Mx.isi_tup, Mx.len_tup, decide_true, decide_false, Mx.holds_bind_iff, Mx.holds_ok, Mx.holds_exc, mMeth, hd, lk1, and_self, e1]
  refine ⟨"step", rfl, ?_⟩
  refine word_h ?_
  simp only [Mx.mDef, Mx.mSeq, Mx.mAsg, Mx.mRet, Mx.mDrop, Mx.mIfS, Mx.mNx, Mx.mAndV, Mx.mOrV, Mx.mNotV, Mx.mIf, Mx.mB, Mx.mAnd, Mx.mOr, Mx.mNot, Mx.mNil, Mx.mCons, Mx.mCB, Mx.mCall, Mx.m1, Mx.m2, Mx.mC, Mx.mVar, Mx.mChain, Mx.mTup, Mx.mLst, Mx.mPar, Mx.mPar3, Mx.gmName, Mx.gmTup, Mx.gmCons, Mx.gmNil, Mx.mFld, Mx.bind_ok, Mx.bind_fail, Mx.bind_exc, Mx.noX_ok, Mx.thenS_nx, Mx.thenS_rt, Mx.asB_bl, Mx.ofO_some, Mx.ofO_none, Mx.flow_nx, List.map_cons, List.map_nil, List.cons_append, List.nil_append, List.append_nil, List.getElem?_cons_zero, List.getElem?_cons_succ, List.set_cons_zero, List.set_cons_succ, List.replicate_succ, List.replicate_zero, List.length_cons, List.length_nil, Nat.zero_add, Nat.reduceAdd, if_true, if_false, reduceIte, reduceCtorEq, Bool.not_true, Bool.not_false, Bool.false_eq_true, Mx.fI2, Mx.fU, Option.map_some, Option.map_none, Nat.reduceEqDiff, Mx.isi_int, Mx.isi_int2, Mx.isi_tup, Mx.len_tup, decide_true, decide_false, Mx.holds_bind_iff, Mx.holds_ok, Mx.holds_exc, mMeth, hd, lk2, and_self, e2]
  refine ⟨"step", rfl, ?_⟩
  have g1 : (st ++ [Ob.lst [.str "step", .str "step"]] ++ [Ob.lst [.str "step"]])[(st ++ [Ob.lst [.str "step", .str "step"]]).length]? = some (.lst [.str "step"]) := get_new
  have er : fRepL (.ref (st ++ [Ob.lst [A.str "step", .str "step"]]).length) (.int 2) (st ++ [Ob.lst [.str "step", .str "step"]] ++ [Ob.lst [.str "step"]]) = some (.ref (st ++ [Ob.lst [A.str "step", .str "step"]] ++ [Ob.lst [.str "step"]]).length, st ++ [Ob.lst [.str "step", .str "step"]] ++ [Ob.lst [.str "step"]] ++ [.lst [.str "step", .str "step"]]) := by
    unfold fRepL
    dsimp only
    rw [g1]
    dsimp only
    rw [if_pos ⟨by decide, by rw [sizeLine_eq]; decide⟩]
    rfl
  have en := two_eq (s := st ++ [Ob.lst [.str "step", .str "step"]] ++ [Ob.lst [.str "step"]] ++ [.lst [.str "step", .str "step"]]) (k := st.length) (k2 := (st ++ [Ob.lst [A.str "step", .str "step"]] ++ [Ob.lst [.str "step"]]).length) (pre_get (List.prefix_append _ _) (pre_get (List.prefix_append _ _) get_new)) get_new
  simp only [Mx.mDef, Mx.mSeq, Mx.mAsg, Mx.mRet, Mx.mDrop, Mx.mIfS, Mx.mNx, Mx.mAndV, Mx.mOrV, Mx.mNotV, Mx.mIf, Mx.mB, Mx.mAnd, Mx.mOr, Mx.mNot, Mx.mNil, Mx.mCons, Mx.mCB, Mx.mCall, Mx.m1, Mx.m2, Mx.mC, Mx.mVar, Mx.mChain, Mx.mTup, Mx.mLst, Mx.mPar, Mx.mPar3, Mx.gmName, Mx.gmTup, Mx.gmCons, Mx.gmNil, Mx.mFld, Mx.bind_ok, Mx.bind_fail, Mx.bind_exc, Mx.noX_ok, Mx.thenS_nx, Mx.thenS_rt, Mx.asB_bl, Mx.ofO_some, Mx.ofO_none, Mx.flow_nx, List.map_cons, List.map_nil, List.cons_append, List.nil_append, List.append_nil, List.getElem?_cons_zero, List.getElem?_cons_succ, List.set_cons_zero, List.set_cons_succ, List.replicate_succ, List.replicate_zero, List.length_cons, List.length_nil, Nat.zero_add, Nat.reduceAdd, if_true, if_false, reduceIte, reduceCtorEq, Bool.not_true, Bool.not_false, Bool.false_eq_true, Mx.fI2, Mx.fU, Option.map_some, Option.map_none, Nat.reduceEqDiff, Mx.isi_int, Mx.isi_int2, Mx.isi_tup, Mx.len_tup, decide_true, decide_false, Mx.holds_bind_iff, Mx.holds_ok, Mx.holds_exc, s1, s2, er, en]
  exact ⟨ts, j12, j13, rfl, T.pre (pre_new (pre_new (List.prefix_append _ _))), by omega⟩
theorem turn4 (hq : QOk q n) (hr : ROk r n (ways n b)) (hw : 3 ≤ way) (hl : ts.length ≤ 900) (hd0 : 0 < d) (g : Gd n (t :: ts)) (T : Tn st q b r n d ts) (mt : SM) (hmt : mt = mTurn) : (mt (ev14 q b n r d ts j8 (some (.int (way : Nat))) (some (.int t)) (some (.bl true)) j12 j13) st).holds (Don q b n r d ts j8 (some (.int (way : Nat))) (some (.int t)) (some (.bl true))) E := by
  have w : CW n (ways n b) := cw_ways hq.n1
  have an := @al_non
  have ai := @al_ints
  unfold AlOk at an ai
  have d1 : decide ((way : Int) = 0) = false := decide_eq_false (by omega)
  have d2 : decide ((way : Int) = 1) = false := decide_eq_false (by omega)
  have d3 : decide ((way : Int) = 2) = false := decide_eq_false (by omega)
  have s1 : ((1 : Nat) ≤ sizeLine) = True := by rw [sizeLine_eq]; simp
  have s2 : ((2 : Nat) ≤ sizeLine) = True := by rw [sizeLine_eq]; simp
  have lk1 := (lkp (d := d) (q := q) (b := b) (r := r)).2.1
  have lk2 := (lkp (d := d) (q := q) (b := b) (r := r)).2.2.2
  have hm1 := hq.m1
  have hm2 := hr.m2
  have hT := gd_tg hq.n2 g t List.mem_cons_self
  have ec : fCatT (aT ts) (.tup [.int t]) st = some (aT (t :: ts), st) := by
    have hlen : (aI ts.reverse).length + ([A.int t] : List A).length ≤ sizeLine := by rw [sizeLine_eq, aI_len, List.length_reverse]; simp; omega
    show (if (aI ts.reverse).length + ([A.int t] : List A).length ≤ sizeLine then some (A.tup (aI ts.reverse ++ [.int t]), st) else none) = _
    rw [if_pos hlen]
    have e : aI ts.reverse ++ [.int t] = aI (t :: ts).reverse := by unfold aI; simp
    rw [e]
    rfl
  have e36 : decide ((way : Int) < 6) = !decide ((5 : Int) < (way : Nat)) := by rw [← decide_not]; exact decide_eq_decide.mpr (by omega)
  by_cases ht : t < 0
  · have d4 : decide ((0 : Int) ≤ t) = false := decide_eq_false (by omega)
    have hd := T.ds.o
    subst hmt
    unfold mTurn ev14
    generalize f__law_alike = fa at an ai ⊢
    simp only [Mx.mDef, Mx.mSeq, Mx.mAsg, Mx.mRet, Mx.mDrop, Mx.mIfS, Mx.mNx, Mx.mAndV, Mx.mOrV, Mx.mNotV, Mx.mIf, Mx.mB, Mx.mAnd, Mx.mOr, Mx.mNot, Mx.mNil, Mx.mCons, Mx.mCB, Mx.mCall, Mx.m1, Mx.m2, Mx.mC, Mx.mVar, Mx.mChain, Mx.mTup, Mx.mLst, Mx.mPar, Mx.mPar3, Mx.gmName, Mx.gmTup, Mx.gmCons, Mx.gmNil, Mx.mFld, Mx.bind_ok, Mx.bind_fail, Mx.bind_exc, Mx.noX_ok, Mx.thenS_nx, Mx.thenS_rt, Mx.asB_bl, Mx.ofO_some, Mx.ofO_none, Mx.flow_nx, List.map_cons, List.map_nil, List.cons_append, List.nil_append, List.append_nil, List.getElem?_cons_zero, List.getElem?_cons_succ, List.set_cons_zero, List.set_cons_succ, List.replicate_succ, List.replicate_zero, List.length_cons, List.length_nil, Nat.zero_add, Nat.reduceAdd, if_true, if_false, reduceIte, reduceCtorEq, Bool.not_true, Bool.not_false, Bool.false_eq_true, Mx.fI2, Mx.fU, Option.map_some, Option.map_none, Nat.reduceEqDiff, Mx.isi_int, Mx.isi_int2, Mx.isi_tup, Mx.len_tup, decide_true, decide_false, Mx.holds_bind_iff, Mx.holds_ok, Mx.holds_exc, eq_int, d1, d2, d3, s1, ec, d4, e36]
    cases d5 : decide ((5 : Int) < (way : Nat)) with
    | false =>
      simp only [Mx.mDef, Mx.mSeq, Mx.mAsg, Mx.mRet, Mx.mDrop, Mx.mIfS, Mx.mNx, Mx.mAndV, Mx.mOrV, Mx.mNotV, Mx.mIf, Mx.mB, Mx.mAnd, Mx.mOr, Mx.mNot, Mx.mNil, Mx.mCons, Mx.mCB, Mx.mCall, Mx.m1, Mx.m2, Mx.mC, Mx.mVar, Mx.mChain, Mx.mTup, Mx.mLst, Mx.mPar, Mx.mPar3, Mx.gmName, Mx.gmTup, Mx.gmCons, Mx.gmNil, Mx.mFld, Mx.bind_ok, Mx.bind_fail, Mx.bind_exc, Mx.noX_ok, Mx.thenS_nx, Mx.thenS_rt, Mx.asB_bl, Mx.ofO_some, Mx.ofO_none, Mx.flow_nx, List.map_cons, List.map_nil, List.cons_append, List.nil_append, List.append_nil, List.getElem?_cons_zero, List.getElem?_cons_succ, List.set_cons_zero, List.set_cons_succ, List.replicate_succ, List.replicate_zero, List.length_cons, List.length_nil, Nat.zero_add, Nat.reduceAdd, if_true, if_false, reduceIte, reduceCtorEq, Bool.not_true, Bool.not_false, Bool.false_eq_true, Mx.fI2, Mx.fU, Option.map_some, Option.map_none, Nat.reduceEqDiff, Mx.isi_int, Mx.isi_int2, Mx.isi_tup, Mx.len_tup, decide_true, decide_false, Mx.holds_bind_iff, Mx.holds_ok, Mx.holds_exc, mMeth, hd, lk1, and_self]
      refine holds_mono (fun y hy => ?_) (fun _ _ z => z) (tag_h hq hr g (by omega) T.ds)
      obtain ⟨y, s⟩ := y
      obtain ⟨h1, h2, h3⟩ := hy
      dsimp only at h1 h2 h3
      rw [if_pos ht] at h1
      subst h1
      refine holds_mono (fun y hy => ?_) (fun _ _ z => z.elim) (an (m := 59) (st := s) s (List.prefix_refl _))
      obtain ⟨y, s'⟩ := y
      obtain ⟨h4, h5⟩ := hy
      dsimp only at h4 h5
      subst h4
      simp only [Mx.mDef, Mx.mSeq, Mx.mAsg, Mx.mRet, Mx.mDrop, Mx.mIfS, Mx.mNx, Mx.mAndV, Mx.mOrV, Mx.mNotV, Mx.mIf, Mx.mB, Mx.mAnd, Mx.mOr, Mx.mNot, Mx.mNil, Mx.mCons, Mx.mCB, Mx.mCall, Mx.m1, Mx.m2, Mx.mC, Mx.mVar, Mx.mChain, Mx.mTup, Mx.mLst, Mx.mPar, Mx.mPar3, Mx.gmName, Mx.gmTup, Mx.gmCons, Mx.gmNil, Mx.mFld, Mx.bind_ok, Mx.bind_fail, Mx.bind_exc, Mx.noX_ok, Mx.thenS_nx, Mx.thenS_rt, Mx.asB_bl, Mx.ofO_some, Mx.ofO_none, Mx.flow_nx, List.map_cons, List.map_nil, List.cons_append, List.nil_append, List.append_nil, List.getElem?_cons_zero, List.getElem?_cons_succ, List.set_cons_zero, List.set_cons_succ, List.replicate_succ, List.replicate_zero, List.length_cons, List.length_nil, Nat.zero_add, Nat.reduceAdd, if_true, if_false, reduceIte, reduceCtorEq, Bool.not_true, Bool.not_false, Bool.false_eq_true, Mx.fI2, Mx.fU, Option.map_some, Option.map_none, Nat.reduceEqDiff, Mx.isi_int, Mx.isi_int2, Mx.isi_tup, Mx.len_tup, decide_true, decide_false, Mx.holds_bind_iff, Mx.holds_ok, Mx.holds_exc, d5]
      exact ⟨t :: ts, j12, some .non, rfl, ⟨pre_get h5 (by rw [h3 0 hd0]; exact T.d0), h2.pre h5, g⟩, by simp⟩
    | true =>
      have ex := sgn_ix2 hT (st := st)
      simp only [Mx.mDef, Mx.mSeq, Mx.mAsg, Mx.mRet, Mx.mDrop, Mx.mIfS, Mx.mNx, Mx.mAndV, Mx.mOrV, Mx.mNotV, Mx.mIf, Mx.mB, Mx.mAnd, Mx.mOr, Mx.mNot, Mx.mNil, Mx.mCons, Mx.mCB, Mx.mCall, Mx.m1, Mx.m2, Mx.mC, Mx.mVar, Mx.mChain, Mx.mTup, Mx.mLst, Mx.mPar, Mx.mPar3, Mx.gmName, Mx.gmTup, Mx.gmCons, Mx.gmNil, Mx.mFld, Mx.bind_ok, Mx.bind_fail, Mx.bind_exc, Mx.noX_ok, Mx.thenS_nx, Mx.thenS_rt, Mx.asB_bl, Mx.ofO_some, Mx.ofO_none, Mx.flow_nx, List.map_cons, List.map_nil, List.cons_append, List.nil_append, List.append_nil, List.getElem?_cons_zero, List.getElem?_cons_succ, List.set_cons_zero, List.set_cons_succ, List.replicate_succ, List.replicate_zero, List.length_cons, List.length_nil, Nat.zero_add, Nat.reduceAdd, if_true, if_false, reduceIte, reduceCtorEq, Bool.not_true, Bool.not_false, Bool.false_eq_true, Mx.fI2, Mx.fU, Option.map_some, Option.map_none, Nat.reduceEqDiff, Mx.isi_int, Mx.isi_int2, Mx.isi_tup, Mx.len_tup, decide_true, decide_false, Mx.holds_bind_iff, Mx.holds_ok, Mx.holds_exc, d5, mMeth, hd, lk2, and_self, ex]
      refine holds_mono (fun y hy => ?_) (fun _ _ z => z) (sign_h hq hr g (by omega) T.ds)
      obtain ⟨y, s⟩ := y
      obtain ⟨h1, h2, h3⟩ := hy
      dsimp only at h1 h2 h3
      rw [if_pos ht] at h1
      subst h1
      have w1 : decide (("done" : Str) = "done") = true := by decide +kernel
      simp only [Mx.mDef, Mx.mSeq, Mx.mAsg, Mx.mRet, Mx.mDrop, Mx.mIfS, Mx.mNx, Mx.mAndV, Mx.mOrV, Mx.mNotV, Mx.mIf, Mx.mB, Mx.mAnd, Mx.mOr, Mx.mNot, Mx.mNil, Mx.mCons, Mx.mCB, Mx.mCall, Mx.m1, Mx.m2, Mx.mC, Mx.mVar, Mx.mChain, Mx.mTup, Mx.mLst, Mx.mPar, Mx.mPar3, Mx.gmName, Mx.gmTup, Mx.gmCons, Mx.gmNil, Mx.mFld, Mx.bind_ok, Mx.bind_fail, Mx.bind_exc, Mx.noX_ok, Mx.thenS_nx, Mx.thenS_rt, Mx.asB_bl, Mx.ofO_some, Mx.ofO_none, Mx.flow_nx, List.map_cons, List.map_nil, List.cons_append, List.nil_append, List.append_nil, List.getElem?_cons_zero, List.getElem?_cons_succ, List.set_cons_zero, List.set_cons_succ, List.replicate_succ, List.replicate_zero, List.length_cons, List.length_nil, Nat.zero_add, Nat.reduceAdd, if_true, if_false, reduceIte, reduceCtorEq, Bool.not_true, Bool.not_false, Bool.false_eq_true, Mx.fI2, Mx.fU, Option.map_some, Option.map_none, Nat.reduceEqDiff, Mx.isi_int, Mx.isi_int2, Mx.isi_tup, Mx.len_tup, decide_true, decide_false, Mx.holds_bind_iff, Mx.holds_ok, Mx.holds_exc, fIsN, isNon, ne_str, w1]
      exact ⟨t :: ts, j12, some .non, rfl, ⟨by rw [h3 hd0]; exact T.d0, h2, g⟩, by simp⟩
  · have d4 : decide ((0 : Int) ≤ t) = true := decide_eq_true (by omega)
    have l2 := nms_len (ts := t :: ts)
    rw [List.length_cons] at l2
    subst hmt
    unfold mTurn ev14
    generalize f__law_alike = fa at an ai ⊢
    simp only [Mx.mDef, Mx.mSeq, Mx.mAsg, Mx.mRet, Mx.mDrop, Mx.mIfS, Mx.mNx, Mx.mAndV, Mx.mOrV, Mx.mNotV, Mx.mIf, Mx.mB, Mx.mAnd, Mx.mOr, Mx.mNot, Mx.mNil, Mx.mCons, Mx.mCB, Mx.mCall, Mx.m1, Mx.m2, Mx.mC, Mx.mVar, Mx.mChain, Mx.mTup, Mx.mLst, Mx.mPar, Mx.mPar3, Mx.gmName, Mx.gmTup, Mx.gmCons, Mx.gmNil, Mx.mFld, Mx.bind_ok, Mx.bind_fail, Mx.bind_exc, Mx.noX_ok, Mx.thenS_nx, Mx.thenS_rt, Mx.asB_bl, Mx.ofO_some, Mx.ofO_none, Mx.flow_nx, List.map_cons, List.map_nil, List.cons_append, List.nil_append, List.append_nil, List.getElem?_cons_zero, List.getElem?_cons_succ, List.set_cons_zero, List.set_cons_succ, List.replicate_succ, List.replicate_zero, List.length_cons, List.length_nil, Nat.zero_add, Nat.reduceAdd, if_true, if_false, reduceIte, reduceCtorEq, Bool.not_true, Bool.not_false, Bool.false_eq_true, Mx.fI2, Mx.fU, Option.map_some, Option.map_none, Nat.reduceEqDiff, Mx.isi_int, Mx.isi_int2, Mx.isi_tup, Mx.len_tup, decide_true, decide_false, Mx.holds_bind_iff, Mx.holds_ok, Mx.holds_exc, eq_int, d1, d2, d3, s1, ec, d4, e36]
    refine holds_mono (fun y hy => ?_) (fun _ _ z => z) (paths_h g (by simp; omega))
    obtain ⟨y, sa⟩ := y
    obtain ⟨p1, k, h1, h2⟩ := hy
    dsimp only at p1 h1 h2
    subst h1
    have ep : fIx (.tup [.ref k, aN (nms (t :: ts))]) (.int 1) sa = some (aN (nms (t :: ts)), sa) := rfl
    simp only [Mx.mDef, Mx.mSeq, Mx.mAsg, Mx.mRet, Mx.mDrop, Mx.mIfS, Mx.mNx, Mx.mAndV, Mx.mOrV, Mx.mNotV, Mx.mIf, Mx.mB, Mx.mAnd, Mx.mOr, Mx.mNot, Mx.mNil, Mx.mCons, Mx.mCB, Mx.mCall, Mx.m1, Mx.m2, Mx.mC, Mx.mVar, Mx.mChain, Mx.mTup, Mx.mLst, Mx.mPar, Mx.mPar3, Mx.gmName, Mx.gmTup, Mx.gmCons, Mx.gmNil, Mx.mFld, Mx.bind_ok, Mx.bind_fail, Mx.bind_exc, Mx.noX_ok, Mx.thenS_nx, Mx.thenS_rt, Mx.asB_bl, Mx.ofO_some, Mx.ofO_none, Mx.flow_nx, List.map_cons, List.map_nil, List.cons_append, List.nil_append, List.append_nil, List.getElem?_cons_zero, List.getElem?_cons_succ, List.set_cons_zero, List.set_cons_succ, List.replicate_succ, List.replicate_zero, List.length_cons, List.length_nil, Nat.zero_add, Nat.reduceAdd, if_true, if_false, reduceIte, reduceCtorEq, Bool.not_true, Bool.not_false, Bool.false_eq_true, Mx.fI2, Mx.fU, Option.map_some, Option.map_none, Nat.reduceEqDiff, Mx.isi_int, Mx.isi_int2, Mx.isi_tup, Mx.len_tup, decide_true, decide_false, Mx.holds_bind_iff, Mx.holds_ok, Mx.holds_exc, ep]
    refine holds_mono (fun y hy => ?_) (fun _ _ z => z) (ans_h hq (nms_lt g) (by omega))
    subst hy
    simp only [Mx.mDef, Mx.mSeq, Mx.mAsg, Mx.mRet, Mx.mDrop, Mx.mIfS, Mx.mNx, Mx.mAndV, Mx.mOrV, Mx.mNotV, Mx.mIf, Mx.mB, Mx.mAnd, Mx.mOr, Mx.mNot, Mx.mNil, Mx.mCons, Mx.mCB, Mx.mCall, Mx.m1, Mx.m2, Mx.mC, Mx.mVar, Mx.mChain, Mx.mTup, Mx.mLst, Mx.mPar, Mx.mPar3, Mx.gmName, Mx.gmTup, Mx.gmCons, Mx.gmNil, Mx.mFld, Mx.bind_ok, Mx.bind_fail, Mx.bind_exc, Mx.noX_ok, Mx.thenS_nx, Mx.thenS_rt, Mx.asB_bl, Mx.ofO_some, Mx.ofO_none, Mx.flow_nx, List.map_cons, List.map_nil, List.cons_append, List.nil_append, List.append_nil, List.getElem?_cons_zero, List.getElem?_cons_succ, List.set_cons_zero, List.set_cons_succ, List.replicate_succ, List.replicate_zero, List.length_cons, List.length_nil, Nat.zero_add, Nat.reduceAdd, if_true, if_false, reduceIte, reduceCtorEq, Bool.not_true, Bool.not_false, Bool.false_eq_true, Mx.fI2, Mx.fU, Option.map_some, Option.map_none, Nat.reduceEqDiff, Mx.isi_int, Mx.isi_int2, Mx.isi_tup, Mx.len_tup, decide_true, decide_false, Mx.holds_bind_iff, Mx.holds_ok, Mx.holds_exc]
    refine holds_mono (fun y hy => ?_) (fun _ _ z => z) (read_h hr w g (by simp; omega))
    subst hy
    have er0 : ∀ s : Sto, fIx (.tup [.ref (sa.length + 1), .int (rst r (ways n b) (t :: ts) : Nat)]) (.int 0) s = some (.ref (sa.length + 1), s) := fun _ => rfl
    have hf : (sa ++ [Ob.lst (aL (nms (t :: ts))), Ob.lst (aL (fnd r (ways n b) (t :: ts)))])[sa.length + 1]? = some (.lst (aL (fnd r (ways n b) ts) ++ [.int ((r.on (rst r (ways n b) ts) t.toNat).2 : Nat)])) := by
      rw [get_new1, fnd_pos ht, aL_append]
      rfl
    have el := ix_last hf
    have p2 : st <+: sa ++ [Ob.lst (aL (nms (t :: ts))), Ob.lst (aL (fnd r (ways n b) (t :: ts)))] := pre_new p1
    have T2 := T.pre p2
    have hd := T2.ds.o
    generalize hsb : sa ++ [Ob.lst (aL (nms (t :: ts))), Ob.lst (aL (fnd r (ways n b) (t :: ts)))] = sb at *
    have ex := sgn_ix2 hT (st := sb)
    have hto : led q 0 (nms (t :: ts)) < q.st.length := led_lt hq (by omega) (nms_lt g)
    have q1 : q.due (led q 0 (nms (t :: ts))) < 2 := hq.mx _ (getD_mem (by rw [hq.ml]; exact hto))
    have q2 : (r.on (rst r (ways n b) ts) t.toNat).2 < 2 := (hr.on_lt (rst_lt hr w g.1) (by rcases g.2 with ⟨x, y⟩ | ⟨x, y⟩ <;> omega)).2
    simp only [Mx.mDef, Mx.mSeq, Mx.mAsg, Mx.mRet, Mx.mDrop, Mx.mIfS, Mx.mNx, Mx.mAndV, Mx.mOrV, Mx.mNotV, Mx.mIf, Mx.mB, Mx.mAnd, Mx.mOr, Mx.mNot, Mx.mNil, Mx.mCons, Mx.mCB, Mx.mCall, Mx.m1, Mx.m2, Mx.mC, Mx.mVar, Mx.mChain, Mx.mTup, Mx.mLst, Mx.mPar, Mx.mPar3, Mx.gmName, Mx.gmTup, Mx.gmCons, Mx.gmNil, Mx.mFld, Mx.bind_ok, Mx.bind_fail, Mx.bind_exc, Mx.noX_ok, Mx.thenS_nx, Mx.thenS_rt, Mx.asB_bl, Mx.ofO_some, Mx.ofO_none, Mx.flow_nx, List.map_cons, List.map_nil, List.cons_append, List.nil_append, List.append_nil, List.getElem?_cons_zero, List.getElem?_cons_succ, List.set_cons_zero, List.set_cons_succ, List.replicate_succ, List.replicate_zero, List.length_cons, List.length_nil, Nat.zero_add, Nat.reduceAdd, if_true, if_false, reduceIte, reduceCtorEq, Bool.not_true, Bool.not_false, Bool.false_eq_true, Mx.fI2, Mx.fU, Option.map_some, Option.map_none, Nat.reduceEqDiff, Mx.isi_int, Mx.isi_int2, Mx.isi_tup, Mx.len_tup, decide_true, decide_false, Mx.holds_bind_iff, Mx.holds_ok, Mx.holds_exc, er0, el, s2]
    cases d5 : decide ((5 : Int) < (way : Nat)) with
    | false =>
      simp only [Mx.mDef, Mx.mSeq, Mx.mAsg, Mx.mRet, Mx.mDrop, Mx.mIfS, Mx.mNx, Mx.mAndV, Mx.mOrV, Mx.mNotV, Mx.mIf, Mx.mB, Mx.mAnd, Mx.mOr, Mx.mNot, Mx.mNil, Mx.mCons, Mx.mCB, Mx.mCall, Mx.m1, Mx.m2, Mx.mC, Mx.mVar, Mx.mChain, Mx.mTup, Mx.mLst, Mx.mPar, Mx.mPar3, Mx.gmName, Mx.gmTup, Mx.gmCons, Mx.gmNil, Mx.mFld, Mx.bind_ok, Mx.bind_fail, Mx.bind_exc, Mx.noX_ok, Mx.thenS_nx, Mx.thenS_rt, Mx.asB_bl, Mx.ofO_some, Mx.ofO_none, Mx.flow_nx, List.map_cons, List.map_nil, List.cons_append, List.nil_append, List.append_nil, List.getElem?_cons_zero, List.getElem?_cons_succ, List.set_cons_zero, List.set_cons_succ, List.replicate_succ, List.replicate_zero, List.length_cons, List.length_nil, Nat.zero_add, Nat.reduceAdd, if_true, if_false, reduceIte, reduceCtorEq, Bool.not_true, Bool.not_false, Bool.false_eq_true, Mx.fI2, Mx.fU, Option.map_some, Option.map_none, Nat.reduceEqDiff, Mx.isi_int, Mx.isi_int2, Mx.isi_tup, Mx.len_tup, decide_true, decide_false, Mx.holds_bind_iff, Mx.holds_ok, Mx.holds_exc, mMeth, hd, lk1, and_self]
      refine holds_mono (fun y hy => ?_) (fun _ _ z => z) (tag_h hq hr g (by omega) T2.ds)
      obtain ⟨y, s⟩ := y
      obtain ⟨h1, h2, h3⟩ := hy
      dsimp only at h1 h2 h3
      rw [if_neg ht] at h1
      subst h1
      generalize hL : ([.int (q.due (led q 0 (nms (t :: ts))) : Nat), .int ((r.on (rst r (ways n b) ts) t.toNat).2 : Nat)] : List A) = L at *
      have al := ai (m := 58) (l := L) (st := s) (by rw [← hL]; simp) (fun a ha => by
        rw [← hL] at ha
        rcases List.mem_cons.mp ha with rfl | ha
        · exact ⟨_, rfl⟩
        · rw [List.mem_singleton.mp ha]; exact ⟨_, rfl⟩)
      refine holds_mono (fun y hy => ?_) (fun _ _ z => z.elim) (al s (List.prefix_refl _))
      obtain ⟨y, s'⟩ := y
      obtain ⟨h4, h5⟩ := hy
      dsimp only at h4 h5
      subst h4
      simp only [Mx.mDef, Mx.mSeq, Mx.mAsg, Mx.mRet, Mx.mDrop, Mx.mIfS, Mx.mNx, Mx.mAndV, Mx.mOrV, Mx.mNotV, Mx.mIf, Mx.mB, Mx.mAnd, Mx.mOr, Mx.mNot, Mx.mNil, Mx.mCons, Mx.mCB, Mx.mCall, Mx.m1, Mx.m2, Mx.mC, Mx.mVar, Mx.mChain, Mx.mTup, Mx.mLst, Mx.mPar, Mx.mPar3, Mx.gmName, Mx.gmTup, Mx.gmCons, Mx.gmNil, Mx.mFld, Mx.bind_ok, Mx.bind_fail, Mx.bind_exc, Mx.noX_ok, Mx.thenS_nx, Mx.thenS_rt, Mx.asB_bl, Mx.ofO_some, Mx.ofO_none, Mx.flow_nx, List.map_cons, List.map_nil, List.cons_append, List.nil_append, List.append_nil, List.getElem?_cons_zero, List.getElem?_cons_succ, List.set_cons_zero, List.set_cons_succ, List.replicate_succ, List.replicate_zero, List.length_cons, List.length_nil, Nat.zero_add, Nat.reduceAdd, if_true, if_false, reduceIte, reduceCtorEq, Bool.not_true, Bool.not_false, Bool.false_eq_true, Mx.fI2, Mx.fU, Option.map_some, Option.map_none, Nat.reduceEqDiff, Mx.isi_int, Mx.isi_int2, Mx.isi_tup, Mx.len_tup, decide_true, decide_false, Mx.holds_bind_iff, Mx.holds_ok, Mx.holds_exc, d5]
      exact ⟨t :: ts, j12, _, rfl, ⟨pre_get h5 (by rw [h3 0 hd0]; exact T2.d0), h2.pre h5, g⟩, by simp⟩
    | true =>
      simp only [Mx.mDef, Mx.mSeq, Mx.mAsg, Mx.mRet, Mx.mDrop, Mx.mIfS, Mx.mNx, Mx.mAndV, Mx.mOrV, Mx.mNotV, Mx.mIf, Mx.mB, Mx.mAnd, Mx.mOr, Mx.mNot, Mx.mNil, Mx.mCons, Mx.mCB, Mx.mCall, Mx.m1, Mx.m2, Mx.mC, Mx.mVar, Mx.mChain, Mx.mTup, Mx.mLst, Mx.mPar, Mx.mPar3, Mx.gmName, Mx.gmTup, Mx.gmCons, Mx.gmNil, Mx.mFld, Mx.bind_ok, Mx.bind_fail, Mx.bind_exc, Mx.noX_ok, Mx.thenS_nx, Mx.thenS_rt, Mx.asB_bl, Mx.ofO_some, Mx.ofO_none, Mx.flow_nx, List.map_cons, List.map_nil, List.cons_append, List.nil_append, List.append_nil, List.getElem?_cons_zero, List.getElem?_cons_succ, List.set_cons_zero, List.set_cons_succ, List.replicate_succ, List.replicate_zero, List.length_cons, List.length_nil, Nat.zero_add, Nat.reduceAdd, if_true, if_false, reduceIte, reduceCtorEq, Bool.not_true, Bool.not_false, Bool.false_eq_true, Mx.fI2, Mx.fU, Option.map_some, Option.map_none, Nat.reduceEqDiff, Mx.isi_int, Mx.isi_int2, Mx.isi_tup, Mx.len_tup, decide_true, decide_false, Mx.holds_bind_iff, Mx.holds_ok, Mx.holds_exc, d5, mMeth, hd, lk2, and_self, ex]
      refine holds_mono (fun y hy => ?_) (fun _ _ z => z) (sign_h hq hr g (by omega) T2.ds)
      obtain ⟨y, s⟩ := y
      obtain ⟨h1, h2, h3⟩ := hy
      dsimp only at h1 h2 h3
      rw [if_neg ht] at h1
      subst h1
      have ei0 : ∀ (x y : A) (s : Sto), fIx (.tup [x, y]) (.int 0) s = some (x, s) := fun _ _ _ => rfl
      have ei1 : ∀ (x y : A) (s : Sto), fIx (.tup [x, y]) (.int 1) s = some (y, s) := fun _ _ _ => rfl
      generalize q.due (led q 0 (nms (t :: ts))) = u1 at *
      generalize (r.on (rst r (ways n b) ts) t.toNat).2 = u2 at *
      have t1 := str_n (i := u1) (st := s) (by omega)
      have t2 := str_n (i := u2) (st := s) (by omega)
      have a1 : ∀ s, fCatS (.str (tx u1)) (.str " ") s = some (.str (tx u1 ++ " "), s) := fun s => by
        have : u1 = 0 ∨ u1 = 1 := by omega
        unfold fCatS
        dsimp only
        rw [if_pos]
        rcases this with rfl | rfl <;> (rw [sizeLine_eq]; decide +kernel)
      have a2 : ∀ s, fCatS (.str (tx u1 ++ " ")) (.str (tx u2)) s = some (.str (tx u1 ++ " " ++ tx u2), s) := fun s => by
        have h1 : u1 = 0 ∨ u1 = 1 := by omega
        have h2 : u2 = 0 ∨ u2 = 1 := by omega
        unfold fCatS
        dsimp only
        rw [if_pos]
        rcases h1 with rfl | rfl <;> rcases h2 with rfl | rfl <;> (rw [sizeLine_eq]; decide +kernel)
      have a3 : decide (Txt.join " " [tx u1, tx u2] = tx u1 ++ " " ++ tx u2) = true := by
        have h1 : u1 = 0 ∨ u1 = 1 := by omega
        have h2 : u2 = 0 ∨ u2 = 1 := by omega
        rcases h1 with rfl | rfl <;> rcases h2 with rfl | rfl <;> decide +kernel
      simp only [Mx.mDef, Mx.mSeq, Mx.mAsg, Mx.mRet, Mx.mDrop, Mx.mIfS, Mx.mNx, Mx.mAndV, Mx.mOrV, Mx.mNotV, Mx.mIf, Mx.mB, Mx.mAnd, Mx.mOr, Mx.mNot, Mx.mNil, Mx.mCons, Mx.mCB, Mx.mCall, Mx.m1, Mx.m2, Mx.mC, Mx.mVar, Mx.mChain, Mx.mTup, Mx.mLst, Mx.mPar, Mx.mPar3, Mx.gmName, Mx.gmTup, Mx.gmCons, Mx.gmNil, Mx.mFld, Mx.bind_ok, Mx.bind_fail, Mx.bind_exc, Mx.noX_ok, Mx.thenS_nx, Mx.thenS_rt, Mx.asB_bl, Mx.ofO_some, Mx.ofO_none, Mx.flow_nx, List.map_cons, List.map_nil, List.cons_append, List.nil_append, List.append_nil, List.getElem?_cons_zero, List.getElem?_cons_succ, List.set_cons_zero, List.set_cons_succ, List.replicate_succ, List.replicate_zero, List.length_cons, List.length_nil, Nat.zero_add, Nat.reduceAdd, if_true, if_false, reduceIte, reduceCtorEq, Bool.not_true, Bool.not_false, Bool.false_eq_true, Mx.fI2, Mx.fU, Option.map_some, Option.map_none, Nat.reduceEqDiff, Mx.isi_int, Mx.isi_int2, Mx.isi_tup, Mx.len_tup, decide_true, decide_false, Mx.holds_bind_iff, Mx.holds_ok, Mx.holds_exc, fIsN, isNon, ei0, ei1, t1, t2, a1, a2, ne_str, a3]
      exact ⟨t :: ts, j12, _, rfl, ⟨by rw [h3 hd0]; exact T2.d0, h2, g⟩, by simp⟩
end
end Mx

/-! ### MkHold -/
set_option Elab.async false
set_option linter.all false
set_option maxRecDepth 100000
set_option maxHeartbeats 2000000
namespace Mx
open PySem PySem.Spec PyProof.Rows L2
theorem hold : (m_law (env0 14 1) [.dr]).holds True9 fun _ _ => False := by
  have s0 : ((0 : Nat) ≤ sizeLine) = True := by simp
  have s2 : ((2 : Nat) ≤ sizeLine) = True := by rw [sizeLine_eq]; simp
  have h0 : ([Ob.dr] : Sto)[0]? = some .dr := rfl
  have kQ := @question_h
  have kP := @pick_h
  have kN := @near_h
  have kS := @stands_h
  have kT := @paths_h
  have t0 := @turn0
  have t1 := @turn1
  have t2 := @turn2
  have t3 := @turn3
  have t4 := @turn4
  show (m_law [none, some (.ref 0), none, none, none, none, none, none, none, none, none, none, none, none] [.dr]).holds True9 _
  show (mSeq _ (mSeq _ (mSeq _ (mSeq _ (mSeq (mFor _ _ (mSeq _ (mSeq _ (mSeq mTurn _)))) _)))) _ _).holds True9 _
  generalize mTurn = mT at t0 t1 t2 t3 t4 ⊢
  generalize f__law_question = fq at kQ ⊢
  generalize f__law_pick = fp at kP ⊢
  generalize f__law_near = fn at kN ⊢
  generalize f__law_stands = fs at kS ⊢
  generalize f__law_paths = ft at kT ⊢
  simp only [Mx.mDef, Mx.mSeq, Mx.mAsg, Mx.mRet, Mx.mDrop, Mx.mIfS, Mx.mNx, Mx.mAndV, Mx.mOrV, Mx.mNotV, Mx.mIf, Mx.mB, Mx.mAnd, Mx.mOr, Mx.mNot, Mx.mNil, Mx.mCons, Mx.mCB, Mx.mCall, Mx.m1, Mx.m2, Mx.mC, Mx.mVar, Mx.mChain, Mx.mTup, Mx.mLst, Mx.mPar, Mx.mPar3, Mx.gmName, Mx.gmTup, Mx.gmCons, Mx.gmNil, Mx.mFld, Mx.bind_ok, Mx.bind_fail, Mx.bind_exc, Mx.noX_ok, Mx.thenS_nx, Mx.thenS_rt, Mx.asB_bl, Mx.ofO_some, Mx.ofO_none, Mx.flow_nx, List.map_cons, List.map_nil, List.cons_append, List.nil_append, List.append_nil, List.getElem?_cons_zero, List.getElem?_cons_succ, List.set_cons_zero, List.set_cons_succ, List.replicate_succ, List.replicate_zero, List.length_cons, List.length_nil, Nat.zero_add, Nat.reduceAdd, if_true, if_false, reduceIte, reduceCtorEq, Bool.not_true, Bool.not_false, Bool.false_eq_true, Mx.fI2, Mx.fU, Option.map_some, Option.map_none, Nat.reduceEqDiff, Mx.isi_int, Mx.isi_int2, Mx.isi_tup, Mx.len_tup, decide_true, decide_false, Mx.holds_bind_iff, Mx.holds_ok, Mx.holds_exc]
  refine holds_mono ?_ (fun _ _ z => z) (kQ h0)
  intro y hy
  obtain ⟨y, st1⟩ := y
  obtain ⟨q, n, hq, h1, p1⟩ := hy
  dsimp only at h1 p1
  subst h1
  have g1 := pre_get p1 h0
  have n1 := hq.n1
  have n2 := hq.n2
  simp only [Mx.mDef, Mx.mSeq, Mx.mAsg, Mx.mRet, Mx.mDrop, Mx.mIfS, Mx.mNx, Mx.mAndV, Mx.mOrV, Mx.mNotV, Mx.mIf, Mx.mB, Mx.mAnd, Mx.mOr, Mx.mNot, Mx.mNil, Mx.mCons, Mx.mCB, Mx.mCall, Mx.m1, Mx.m2, Mx.mC, Mx.mVar, Mx.mChain, Mx.mTup, Mx.mLst, Mx.mPar, Mx.mPar3, Mx.gmName, Mx.gmTup, Mx.gmCons, Mx.gmNil, Mx.mFld, Mx.bind_ok, Mx.bind_fail, Mx.bind_exc, Mx.noX_ok, Mx.thenS_nx, Mx.thenS_rt, Mx.asB_bl, Mx.ofO_some, Mx.ofO_none, Mx.flow_nx, List.map_cons, List.map_nil, List.cons_append, List.nil_append, List.append_nil, List.getElem?_cons_zero, List.getElem?_cons_succ, List.set_cons_zero, List.set_cons_succ, List.replicate_succ, List.replicate_zero, List.length_cons, List.length_nil, Nat.zero_add, Nat.reduceAdd, if_true, if_false, reduceIte, reduceCtorEq, Bool.not_true, Bool.not_false, Bool.false_eq_true, Mx.fI2, Mx.fU, Option.map_some, Option.map_none, Nat.reduceEqDiff, Mx.isi_int, Mx.isi_int2, Mx.isi_tup, Mx.len_tup, decide_true, decide_false, Mx.holds_bind_iff, Mx.holds_ok, Mx.holds_exc, s2]
  have p2 : st1 <+: st1 ++ [Ob.lst [.str "named", .str "blind"]] := List.prefix_append _ _
  refine kP (pre_get p2 g1) get_new (by simp) (by simp) ?_
  intro a ha
  have g2 := pre_get p2 g1
  generalize st1 ++ [Ob.lst [.str "named", .str "blind"]] = st2 at *
  obtain ⟨b, rfl⟩ : ∃ b, a = aM b := by
    rcases List.mem_cons.mp ha with rfl | ha
    · exact ⟨true, rfl⟩
    · exact ⟨false, List.mem_singleton.mp ha⟩
  have l0 : (q.st.getD 0 []).length = n := hq.rlen (by have := hq.m1; omega)
  have e0 : fIx (.tup (q.st.map aN)) (.int 0) st2 = some (aN (q.st.getD 0 []), st2) := ix_mN (k := 0) (by have := hq.m1; omega)
  simp only [Mx.mDef, Mx.mSeq, Mx.mAsg, Mx.mRet, Mx.mDrop, Mx.mIfS, Mx.mNx, Mx.mAndV, Mx.mOrV, Mx.mNotV, Mx.mIf, Mx.mB, Mx.mAnd, Mx.mOr, Mx.mNot, Mx.mNil, Mx.mCons, Mx.mCB, Mx.mCall, Mx.m1, Mx.m2, Mx.mC, Mx.mVar, Mx.mChain, Mx.mTup, Mx.mLst, Mx.mPar, Mx.mPar3, Mx.gmName, Mx.gmTup, Mx.gmCons, Mx.gmNil, Mx.mFld, Mx.bind_ok, Mx.bind_fail, Mx.bind_exc, Mx.noX_ok, Mx.thenS_nx, Mx.thenS_rt, Mx.asB_bl, Mx.ofO_some, Mx.ofO_none, Mx.flow_nx, List.map_cons, List.map_nil, List.cons_append, List.nil_append, List.append_nil, List.getElem?_cons_zero, List.getElem?_cons_succ, List.set_cons_zero, List.set_cons_succ, List.replicate_succ, List.replicate_zero, List.length_cons, List.length_nil, Nat.zero_add, Nat.reduceAdd, if_true, if_false, reduceIte, reduceCtorEq, Bool.not_true, Bool.not_false, Bool.false_eq_true, Mx.fI2, Mx.fU, Option.map_some, Option.map_none, Nat.reduceEqDiff, Mx.isi_int, Mx.isi_int2, Mx.isi_tup, Mx.len_tup, decide_true, decide_false, Mx.holds_bind_iff, Mx.holds_ok, Mx.holds_exc, ix_q0, e0, len_aN, l0]
  have zn : ∀ Q' : A × Sto → Prop, (∀ r s, ROk r n (ways n b) → st2 <+: s → Q' (aR r, s)) → (fn [.ref 0, aQ q, .int (n : Nat), aM b] st2).holds Q' (fun _ _ => False) := fun Q' h => by
    refine holds_mono ?_ (fun _ _ z => z) (kN (b := b) (E := fun _ _ => False) hq g2)
    intro y hy
    obtain ⟨y, s⟩ := y
    obtain ⟨r, hr, h3, p3⟩ := hy
    dsimp only at h3 p3
    rw [h3]
    exact h r s hr p3
  refine zn _ ?_
  intro r st3 hr p3
  have g3 := pre_get p3 g2
  have hd0 := get_lt' g3
  have ei := init_h (st := st3) hq hr
  simp only [Mx.mDef, Mx.mSeq, Mx.mAsg, Mx.mRet, Mx.mDrop, Mx.mIfS, Mx.mNx, Mx.mAndV, Mx.mOrV, Mx.mNotV, Mx.mIf, Mx.mB, Mx.mAnd, Mx.mOr, Mx.mNot, Mx.mNil, Mx.mCons, Mx.mCB, Mx.mCall, Mx.m1, Mx.m2, Mx.mC, Mx.mVar, Mx.mChain, Mx.mTup, Mx.mLst, Mx.mPar, Mx.mPar3, Mx.gmName, Mx.gmTup, Mx.gmCons, Mx.gmNil, Mx.mFld, Mx.bind_ok, Mx.bind_fail, Mx.bind_exc, Mx.noX_ok, Mx.thenS_nx, Mx.thenS_rt, Mx.asB_bl, Mx.ofO_some, Mx.ofO_none, Mx.flow_nx, List.map_cons, List.map_nil, List.cons_append, List.nil_append, List.append_nil, List.getElem?_cons_zero, List.getElem?_cons_succ, List.set_cons_zero, List.set_cons_succ, List.replicate_succ, List.replicate_zero, List.length_cons, List.length_nil, Nat.zero_add, Nat.reduceAdd, if_true, if_false, reduceIte, reduceCtorEq, Bool.not_true, Bool.not_false, Bool.false_eq_true, Mx.fI2, Mx.fU, Option.map_some, Option.map_none, Nat.reduceEqDiff, Mx.isi_int, Mx.isi_int2, Mx.isi_tup, Mx.len_tup, decide_true, decide_false, Mx.holds_bind_iff, Mx.holds_ok, Mx.holds_exc, mMake, ei, s0, s2]
  generalize hst4 : st3 ++ [.ins 0 (flds st3.length q b r), .lst [], .lst [.int 0], .lst [], .lst [], .lst []] = st4
  have T4 : Tn st4 q b r n st3.length [] := by
    subst hst4
    refine ⟨pre_get (List.prefix_append _ _) g3, ⟨by simp, ?_, ?_, ?_, ?_, ?_⟩, trivial⟩ <;> (rw [List.getElem?_append_right (by omega), Nat.add_sub_cancel_left]; rfl)
  simp only [Mx.mDef, Mx.mSeq, Mx.mAsg, Mx.mRet, Mx.mDrop, Mx.mIfS, Mx.mNx, Mx.mAndV, Mx.mOrV, Mx.mNotV, Mx.mIf, Mx.mB, Mx.mAnd, Mx.mOr, Mx.mNot, Mx.mNil, Mx.mCons, Mx.mCB, Mx.mCall, Mx.m1, Mx.m2, Mx.mC, Mx.mVar, Mx.mChain, Mx.mTup, Mx.mLst, Mx.mPar, Mx.mPar3, Mx.gmName, Mx.gmTup, Mx.gmCons, Mx.gmNil, Mx.mFld, Mx.bind_ok, Mx.bind_fail, Mx.bind_exc, Mx.noX_ok, Mx.thenS_nx, Mx.thenS_rt, Mx.asB_bl, Mx.ofO_some, Mx.ofO_none, Mx.flow_nx, List.map_cons, List.map_nil, List.cons_append, List.nil_append, List.append_nil, List.getElem?_cons_zero, List.getElem?_cons_succ, List.set_cons_zero, List.set_cons_succ, List.replicate_succ, List.replicate_zero, List.length_cons, List.length_nil, Nat.zero_add, Nat.reduceAdd, if_true, if_false, reduceIte, reduceCtorEq, Bool.not_true, Bool.not_false, Bool.false_eq_true, Mx.fI2, Mx.fU, Option.map_some, Option.map_none, Nat.reduceEqDiff, Mx.isi_int, Mx.isi_int2, Mx.isi_tup, Mx.len_tup, decide_true, decide_false, Mx.holds_bind_iff, Mx.holds_ok, Mx.holds_exc, mFor, miRng1]
  refine taken_holds T4.d0 (by omega) (by omega) ?_
  intro m hm
  have hrm : (-(2 ^ 62 : Int) ≤ (m : Int) ∧ (m : Int) < 2 ^ 62) = True := eq_true ⟨by omega, by omega⟩
  simp only [Mx.mDef, Mx.mSeq, Mx.mAsg, Mx.mRet, Mx.mDrop, Mx.mIfS, Mx.mNx, Mx.mAndV, Mx.mOrV, Mx.mNotV, Mx.mIf, Mx.mB, Mx.mAnd, Mx.mOr, Mx.mNot, Mx.mNil, Mx.mCons, Mx.mCB, Mx.mCall, Mx.m1, Mx.m2, Mx.mC, Mx.mVar, Mx.mChain, Mx.mTup, Mx.mLst, Mx.mPar, Mx.mPar3, Mx.gmName, Mx.gmTup, Mx.gmCons, Mx.gmNil, Mx.mFld, Mx.bind_ok, Mx.bind_fail, Mx.bind_exc, Mx.noX_ok, Mx.thenS_nx, Mx.thenS_rt, Mx.asB_bl, Mx.ofO_some, Mx.ofO_none, Mx.flow_nx, List.map_cons, List.map_nil, List.cons_append, List.nil_append, List.append_nil, List.getElem?_cons_zero, List.getElem?_cons_succ, List.set_cons_zero, List.set_cons_succ, List.replicate_succ, List.replicate_zero, List.length_cons, List.length_nil, Nat.zero_add, Nat.reduceAdd, if_true, if_false, reduceIte, reduceCtorEq, Bool.not_true, Bool.not_false, Bool.false_eq_true, Mx.fI2, Mx.fU, Option.map_some, Option.map_none, Nat.reduceEqDiff, Mx.isi_int, Mx.isi_int2, Mx.isi_tup, Mx.len_tup, decide_true, decide_false, Mx.holds_bind_iff, Mx.holds_ok, Mx.holds_exc, hrm, Int.toNat_natCast]
  generalize hd : st3.length = d at *
  refine holds_mono ?_ (fun _ _ z => z) (for_rng (Inv := fun i e s => ∃ ts j8 j9 j10 j11 j12 j13, e = ev14 q b n r d ts j8 j9 j10 j11 j12 j13 ∧ Tn s q b r n d ts ∧ ts.length ≤ i) (by omega) ?_ (fun i e s hi hI => ?_))
  intro y hy
  · obtain ⟨y, s⟩ := y
    obtain ⟨e2, h5, ts, j8, j9, j10, j11, j12, j13, h6, T, hl⟩ := hy
    dsimp only at h5
    subst h5 h6
    simp only [Mx.mDef, Mx.mSeq, Mx.mAsg, Mx.mRet, Mx.mDrop, Mx.mIfS, Mx.mNx, Mx.mAndV, Mx.mOrV, Mx.mNotV, Mx.mIf, Mx.mB, Mx.mAnd, Mx.mOr, Mx.mNot, Mx.mNil, Mx.mCons, Mx.mCB, Mx.mCall, Mx.m1, Mx.m2, Mx.mC, Mx.mVar, Mx.mChain, Mx.mTup, Mx.mLst, Mx.mPar, Mx.mPar3, Mx.gmName, Mx.gmTup, Mx.gmCons, Mx.gmNil, Mx.mFld, Mx.bind_ok, Mx.bind_fail, Mx.bind_exc, Mx.noX_ok, Mx.thenS_nx, Mx.thenS_rt, Mx.asB_bl, Mx.ofO_some, Mx.ofO_none, Mx.flow_nx, List.map_cons, List.map_nil, List.cons_append, List.nil_append, List.append_nil, List.getElem?_cons_zero, List.getElem?_cons_succ, List.set_cons_zero, List.set_cons_succ, List.replicate_succ, List.replicate_zero, List.length_cons, List.length_nil, Nat.zero_add, Nat.reduceAdd, if_true, if_false, reduceIte, reduceCtorEq, Bool.not_true, Bool.not_false, Bool.false_eq_true, Mx.fI2, Mx.fU, Option.map_some, Option.map_none, Nat.reduceEqDiff, Mx.isi_int, Mx.isi_int2, Mx.isi_tup, Mx.len_tup, decide_true, decide_false, Mx.holds_bind_iff, Mx.holds_ok, Mx.holds_exc]
    exact rfl
  · exact ⟨[], none, none, none, none, none, none, rfl, T4, Nat.le_refl _⟩
  · obtain ⟨ts, j8, j9, j10, j11, j12, j13, rfl, T, hl⟩ := hI
    unfold ev14
    simp only [Mx.mDef, Mx.mSeq, Mx.mAsg, Mx.mRet, Mx.mDrop, Mx.mIfS, Mx.mNx, Mx.mAndV, Mx.mOrV, Mx.mNotV, Mx.mIf, Mx.mB, Mx.mAnd, Mx.mOr, Mx.mNot, Mx.mNil, Mx.mCons, Mx.mCB, Mx.mCall, Mx.m1, Mx.m2, Mx.mC, Mx.mVar, Mx.mChain, Mx.mTup, Mx.mLst, Mx.mPar, Mx.mPar3, Mx.gmName, Mx.gmTup, Mx.gmCons, Mx.gmNil, Mx.mFld, Mx.bind_ok, Mx.bind_fail, Mx.bind_exc, Mx.noX_ok, Mx.thenS_nx, Mx.thenS_rt, Mx.asB_bl, Mx.ofO_some, Mx.ofO_none, Mx.flow_nx, List.map_cons, List.map_nil, List.cons_append, List.nil_append, List.append_nil, List.getElem?_cons_zero, List.getElem?_cons_succ, List.set_cons_zero, List.set_cons_succ, List.replicate_succ, List.replicate_zero, List.length_cons, List.length_nil, Nat.zero_add, Nat.reduceAdd, if_true, if_false, reduceIte, reduceCtorEq, Bool.not_true, Bool.not_false, Bool.false_eq_true, Mx.fI2, Mx.fU, Option.map_some, Option.map_none, Nat.reduceEqDiff, Mx.isi_int, Mx.isi_int2, Mx.isi_tup, Mx.len_tup, decide_true, decide_false, Mx.holds_bind_iff, Mx.holds_ok, Mx.holds_exc]
    refine taken_holds T.d0 (by omega) (by omega) ?_
    intro way hway
    simp only [Mx.mDef, Mx.mSeq, Mx.mAsg, Mx.mRet, Mx.mDrop, Mx.mIfS, Mx.mNx, Mx.mAndV, Mx.mOrV, Mx.mNotV, Mx.mIf, Mx.mB, Mx.mAnd, Mx.mOr, Mx.mNot, Mx.mNil, Mx.mCons, Mx.mCB, Mx.mCall, Mx.m1, Mx.m2, Mx.mC, Mx.mVar, Mx.mChain, Mx.mTup, Mx.mLst, Mx.mPar, Mx.mPar3, Mx.gmName, Mx.gmTup, Mx.gmCons, Mx.gmNil, Mx.mFld, Mx.bind_ok, Mx.bind_fail, Mx.bind_exc, Mx.noX_ok, Mx.thenS_nx, Mx.thenS_rt, Mx.asB_bl, Mx.ofO_some, Mx.ofO_none, Mx.flow_nx, List.map_cons, List.map_nil, List.cons_append, List.nil_append, List.append_nil, List.getElem?_cons_zero, List.getElem?_cons_succ, List.set_cons_zero, List.set_cons_succ, List.replicate_succ, List.replicate_zero, List.length_cons, List.length_nil, Nat.zero_add, Nat.reduceAdd, if_true, if_false, reduceIte, reduceCtorEq, Bool.not_true, Bool.not_false, Bool.false_eq_true, Mx.fI2, Mx.fU, Option.map_some, Option.map_none, Nat.reduceEqDiff, Mx.isi_int, Mx.isi_int2, Mx.isi_tup, Mx.len_tup, decide_true, decide_false, Mx.holds_bind_iff, Mx.holds_ok, Mx.holds_exc]
    refine taken_holds T.d0 (by omega) (by omega) ?_
    intro k hk
    generalize ht : (k : Int) - 1 = t
    simp only [Mx.mDef, Mx.mSeq, Mx.mAsg, Mx.mRet, Mx.mDrop, Mx.mIfS, Mx.mNx, Mx.mAndV, Mx.mOrV, Mx.mNotV, Mx.mIf, Mx.mB, Mx.mAnd, Mx.mOr, Mx.mNot, Mx.mNil, Mx.mCons, Mx.mCB, Mx.mCall, Mx.m1, Mx.m2, Mx.mC, Mx.mVar, Mx.mChain, Mx.mTup, Mx.mLst, Mx.mPar, Mx.mPar3, Mx.gmName, Mx.gmTup, Mx.gmCons, Mx.gmNil, Mx.mFld, Mx.bind_ok, Mx.bind_fail, Mx.bind_exc, Mx.noX_ok, Mx.thenS_nx, Mx.thenS_rt, Mx.asB_bl, Mx.ofO_some, Mx.ofO_none, Mx.flow_nx, List.map_cons, List.map_nil, List.cons_append, List.nil_append, List.append_nil, List.getElem?_cons_zero, List.getElem?_cons_succ, List.set_cons_zero, List.set_cons_succ, List.replicate_succ, List.replicate_zero, List.length_cons, List.length_nil, Nat.zero_add, Nat.reduceAdd, if_true, if_false, reduceIte, reduceCtorEq, Bool.not_true, Bool.not_false, Bool.false_eq_true, Mx.fI2, Mx.fU, Option.map_some, Option.map_none, Nat.reduceEqDiff, Mx.isi_int, Mx.isi_int2, Mx.isi_tup, Mx.len_tup, decide_true, decide_false, Mx.holds_bind_iff, Mx.holds_ok, Mx.holds_exc, s2, ht]
    -- may it stand
    have rest : ∀ (fine : Bool) (s1 : Sto), Tn s1 q b r n d ts → (fine = true → Gd n (t :: ts)) → (fine = false → t = -1 ∧ nms ts = []) → (mT (ev14 q b n r d ts (some (.int (i : Nat))) (some (.int (way : Nat))) (some (.int t)) (some (.bl fine)) j12 j13) s1).holds (Don q b n r d ts (some (.int (i : Nat))) (some (.int (way : Nat))) (some (.int t)) (some (.bl fine))) (fun _ _ => False) := fun fine s1 T1 f1 f2 => by
      by_cases w0 : way = 0
      · subst w0
        exact t0 (by omega) hd0 T1
      by_cases w1 : way = 1
      · subst w1
        exact t1 hq T1
      by_cases w2 : way = 2
      · subst w2
        exact t2 hq T1 _ rfl
      cases fine with
      | false =>
        obtain ⟨e, hn⟩ := f2 rfl
        rw [e]
        exact t3 hq (by omega) hn T1 _ rfl
      | true => exact t4 hq hr (by omega) (by omega) hd0 (f1 rfl) T1 _ rfl
    have tail : ∀ (fine : Bool) (y : Fl × Sto), Don q b n r d ts (some (.int (i : Nat))) (some (.int (way : Nat))) (some (.int t)) (some (.bl fine)) y → (thenS y (mIfS (mNot (mB (mCall fs 4 [] (mCons (mVar 6) (mCons (mVar 2) (mCons (mVar 5) (mCons (mVar 7) mNil))))))) (mRet (mC (.bl false))) mNx)).holds (fun r2 => ∃ e2, r2.1 = .nx e2 ∧ ∃ ts j8 j9 j10 j11 j12 j13, e2 = ev14 q b n r d ts j8 j9 j10 j11 j12 j13 ∧ Tn r2.2 q b r n d ts ∧ ts.length ≤ i + 1) (fun _ _ => False) := fun fine y hy => by
      obtain ⟨y, s2'⟩ := y
      obtain ⟨ts2, k12, k13, e, T2, hl2⟩ := hy
      dsimp only at e T2
      subst e
      unfold ev14
      simp only [Mx.mDef, Mx.mSeq, Mx.mAsg, Mx.mRet, Mx.mDrop, Mx.mIfS, Mx.mNx, Mx.mAndV, Mx.mOrV, Mx.mNotV, Mx.mIf, Mx.mB, Mx.mAnd, Mx.mOr, Mx.mNot, Mx.mNil, Mx.mCons, Mx.mCB, Mx.mCall, Mx.m1, Mx.m2, Mx.mC, Mx.mVar, Mx.mChain, Mx.mTup, Mx.mLst, Mx.mPar, Mx.mPar3, Mx.gmName, Mx.gmTup, Mx.gmCons, Mx.gmNil, Mx.mFld, Mx.bind_ok, Mx.bind_fail, Mx.bind_exc, Mx.noX_ok, Mx.thenS_nx, Mx.thenS_rt, Mx.asB_bl, Mx.ofO_some, Mx.ofO_none, Mx.flow_nx, List.map_cons, List.map_nil, List.cons_append, List.nil_append, List.append_nil, List.getElem?_cons_zero, List.getElem?_cons_succ, List.set_cons_zero, List.set_cons_succ, List.replicate_succ, List.replicate_zero, List.length_cons, List.length_nil, Nat.zero_add, Nat.reduceAdd, if_true, if_false, reduceIte, reduceCtorEq, Bool.not_true, Bool.not_false, Bool.false_eq_true, Mx.fI2, Mx.fU, Option.map_some, Option.map_none, Nat.reduceEqDiff, Mx.isi_int, Mx.isi_int2, Mx.isi_tup, Mx.len_tup, decide_true, decide_false, Mx.holds_bind_iff, Mx.holds_ok, Mx.holds_exc]
      refine holds_mono ?_ (fun _ _ z => z) (kS hq hr T2.g (by omega) T2.ds)
      intro y hy
      obtain ⟨y, s3'⟩ := y
      obtain ⟨h7, p7⟩ := hy
      dsimp only at h7 p7
      subst h7
      simp only [Mx.mDef, Mx.mSeq, Mx.mAsg, Mx.mRet, Mx.mDrop, Mx.mIfS, Mx.mNx, Mx.mAndV, Mx.mOrV, Mx.mNotV, Mx.mIf, Mx.mB, Mx.mAnd, Mx.mOr, Mx.mNot, Mx.mNil, Mx.mCons, Mx.mCB, Mx.mCall, Mx.m1, Mx.m2, Mx.mC, Mx.mVar, Mx.mChain, Mx.mTup, Mx.mLst, Mx.mPar, Mx.mPar3, Mx.gmName, Mx.gmTup, Mx.gmCons, Mx.gmNil, Mx.mFld, Mx.bind_ok, Mx.bind_fail, Mx.bind_exc, Mx.noX_ok, Mx.thenS_nx, Mx.thenS_rt, Mx.asB_bl, Mx.ofO_some, Mx.ofO_none, Mx.flow_nx, List.map_cons, List.map_nil, List.cons_append, List.nil_append, List.append_nil, List.getElem?_cons_zero, List.getElem?_cons_succ, List.set_cons_zero, List.set_cons_succ, List.replicate_succ, List.replicate_zero, List.length_cons, List.length_nil, Nat.zero_add, Nat.reduceAdd, if_true, if_false, reduceIte, reduceCtorEq, Bool.not_true, Bool.not_false, Bool.false_eq_true, Mx.fI2, Mx.fU, Option.map_some, Option.map_none, Nat.reduceEqDiff, Mx.isi_int, Mx.isi_int2, Mx.isi_tup, Mx.len_tup, decide_true, decide_false, Mx.holds_bind_iff, Mx.holds_ok, Mx.holds_exc]
      exact ⟨_, rfl, ts2, _, _, _, _, _, _, rfl, T2.pre p7, by omega⟩
    by_cases h8 : 0 ≤ t
    · have d1 : decide ((0 : Int) ≤ t) = true := decide_eq_true h8
      simp only [Mx.mDef, Mx.mSeq, Mx.mAsg, Mx.mRet, Mx.mDrop, Mx.mIfS, Mx.mNx, Mx.mAndV, Mx.mOrV, Mx.mNotV, Mx.mIf, Mx.mB, Mx.mAnd, Mx.mOr, Mx.mNot, Mx.mNil, Mx.mCons, Mx.mCB, Mx.mCall, Mx.m1, Mx.m2, Mx.mC, Mx.mVar, Mx.mChain, Mx.mTup, Mx.mLst, Mx.mPar, Mx.mPar3, Mx.gmName, Mx.gmTup, Mx.gmCons, Mx.gmNil, Mx.mFld, Mx.bind_ok, Mx.bind_fail, Mx.bind_exc, Mx.noX_ok, Mx.thenS_nx, Mx.thenS_rt, Mx.asB_bl, Mx.ofO_some, Mx.ofO_none, Mx.flow_nx, List.map_cons, List.map_nil, List.cons_append, List.nil_append, List.append_nil, List.getElem?_cons_zero, List.getElem?_cons_succ, List.set_cons_zero, List.set_cons_succ, List.replicate_succ, List.replicate_zero, List.length_cons, List.length_nil, Nat.zero_add, Nat.reduceAdd, if_true, if_false, reduceIte, reduceCtorEq, Bool.not_true, Bool.not_false, Bool.false_eq_true, Mx.fI2, Mx.fU, Option.map_some, Option.map_none, Nat.reduceEqDiff, Mx.isi_int, Mx.isi_int2, Mx.isi_tup, Mx.len_tup, decide_true, decide_false, Mx.holds_bind_iff, Mx.holds_ok, Mx.holds_exc, d1]
      exact holds_mono (fun y hy => tail true y hy) (fun _ _ z => z) (rest true s T (fun _ => ⟨T.g, .inl ⟨h8, by omega⟩⟩) (fun z => by cases z))
    · have d1 : decide ((0 : Int) ≤ t) = false := decide_eq_false h8
      have tm : t = -1 := by omega
      simp only [Mx.mDef, Mx.mSeq, Mx.mAsg, Mx.mRet, Mx.mDrop, Mx.mIfS, Mx.mNx, Mx.mAndV, Mx.mOrV, Mx.mNotV, Mx.mIf, Mx.mB, Mx.mAnd, Mx.mOr, Mx.mNot, Mx.mNil, Mx.mCons, Mx.mCB, Mx.mCall, Mx.m1, Mx.m2, Mx.mC, Mx.mVar, Mx.mChain, Mx.mTup, Mx.mLst, Mx.mPar, Mx.mPar3, Mx.gmName, Mx.gmTup, Mx.gmCons, Mx.gmNil, Mx.mFld, Mx.bind_ok, Mx.bind_fail, Mx.bind_exc, Mx.noX_ok, Mx.thenS_nx, Mx.thenS_rt, Mx.asB_bl, Mx.ofO_some, Mx.ofO_none, Mx.flow_nx, List.map_cons, List.map_nil, List.cons_append, List.nil_append, List.append_nil, List.getElem?_cons_zero, List.getElem?_cons_succ, List.set_cons_zero, List.set_cons_succ, List.replicate_succ, List.replicate_zero, List.length_cons, List.length_nil, Nat.zero_add, Nat.reduceAdd, if_true, if_false, reduceIte, reduceCtorEq, Bool.not_true, Bool.not_false, Bool.false_eq_true, Mx.fI2, Mx.fU, Option.map_some, Option.map_none, Nat.reduceEqDiff, Mx.isi_int, Mx.isi_int2, Mx.isi_tup, Mx.len_tup, decide_true, decide_false, Mx.holds_bind_iff, Mx.holds_ok, Mx.holds_exc, d1]
      refine holds_mono ?_ (fun _ _ z => z) (kT T.g (by omega))
      intro y hy
      obtain ⟨y, s1⟩ := y
      obtain ⟨p9, k9, h9, h10⟩ := hy
      dsimp only at p9 h9 h10
      subst h9
      have ep : fIx (.tup [.ref k9, aN (nms ts)]) (.int 1) s1 = some (aN (nms ts), s1) := rfl
      have en := ne_nilT (s := s1) (l := (nms ts).map fun k => ((k : Nat) : Int))
      rw [← aL_aI, ← aN_eq] at en
      simp only [Mx.mDef, Mx.mSeq, Mx.mAsg, Mx.mRet, Mx.mDrop, Mx.mIfS, Mx.mNx, Mx.mAndV, Mx.mOrV, Mx.mNotV, Mx.mIf, Mx.mB, Mx.mAnd, Mx.mOr, Mx.mNot, Mx.mNil, Mx.mCons, Mx.mCB, Mx.mCall, Mx.m1, Mx.m2, Mx.mC, Mx.mVar, Mx.mChain, Mx.mTup, Mx.mLst, Mx.mPar, Mx.mPar3, Mx.gmName, Mx.gmTup, Mx.gmCons, Mx.gmNil, Mx.mFld, Mx.bind_ok, Mx.bind_fail, Mx.bind_exc, Mx.noX_ok, Mx.thenS_nx, Mx.thenS_rt, Mx.asB_bl, Mx.ofO_some, Mx.ofO_none, Mx.flow_nx, List.map_cons, List.map_nil, List.cons_append, List.nil_append, List.append_nil, List.getElem?_cons_zero, List.getElem?_cons_succ, List.set_cons_zero, List.set_cons_succ, List.replicate_succ, List.replicate_zero, List.length_cons, List.length_nil, Nat.zero_add, Nat.reduceAdd, if_true, if_false, reduceIte, reduceCtorEq, Bool.not_true, Bool.not_false, Bool.false_eq_true, Mx.fI2, Mx.fU, Option.map_some, Option.map_none, Nat.reduceEqDiff, Mx.isi_int, Mx.isi_int2, Mx.isi_tup, Mx.len_tup, decide_true, decide_false, Mx.holds_bind_iff, Mx.holds_ok, Mx.holds_exc, ep, s0, en]
      refine holds_mono (fun y hy => tail _ y hy) (fun _ _ z => z) (rest _ s1 (T.pre p9) (fun z => ⟨T.g, .inr ⟨tm, fun z2 => ?_⟩⟩) (fun z => ⟨tm, ?_⟩))
      · rw [z2] at z
        cases z
      · cases hn : nms ts with
        | nil => rfl
        | cons a l => rw [hn] at z; cases z
end Mx

/-! ### MkFE -/
set_option Elab.async false
set_option linter.all false
set_option maxRecDepth 100000
set_option maxHeartbeats 8000000
namespace Mx
open PySem PySem.Spec PyProof.Rows L2
end Mx
open PySem PySem.W PySem.Calls PyProof.Rows
set_option maxRecDepth 100000 in
set_option maxHeartbeats 8000000 in
theorem PySem.Challenge.cw_markspass_k09_whole_desks_holds : PySem.Challenge.rw_markspass_k09_whole_desks.Holds := by
  w_on; o_law
  refine HandSHeadRun.head_any (r := Mx.RR) (q := view Mx.RR.prog [62]) (H := Mx.hkX Mx.HDl) (ob := Mx.obX Mx.HDl) (M := 20000) (loose := Mx.looseN) (d := HandSHeadRun.topDef Mx.RR.prog 62) (kwd := []) (Mx.obX_eq Mx.HDl)
    (by kernel_rfl) (fun s => by kernel_rfl) Mx.run (by kernel_rfl) (by kernel_rfl) (by kernel_rfl) (by rfl) (by first | assumption | decide +kernel) (by decide +kernel) ⟨rfl, rfl, rfl, rfl, rfl, by decide +kernel⟩ ?hw ?hc
  case hw => w_witness2
  case hc =>
    refine LamX.walk_ofTsE (l := PySem.Challenge.rw_markspass_k09_whole_desks) (n := 63) (k := 62) (x := "script") (CX := fun w => L2.CX PySem.Challenge.rw_markspass_k09_whole_desks.prog w) rfl (by decide) (by kernel_rfl) Mx.room1 ?F (fun _ _ _ _ _ z => by obtain ⟨_, _, _, _, _, _, _, _, _, _, _, _, z⟩ := z; exact z)
    intro w mg fa h Y G hmg0
    have hmg : mg ("law" : PySem.Str) = some (.ref fa) := by
      have e : (HandSHeadRun.topDef Mx.RR.prog 62).name = ("law" : PySem.Str) := by kernel_rfl
      rw [← e]
      exact hmg0
    exact Mx.at_law (by with_reducible exact Mx.hold) w mg fa h Y G hmg

