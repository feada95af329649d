import PyProof.Rows.All
import Wide.All
import OpenK.AllK
import Wide.FinOn
import HandS.AnyAll
import HandS.GenCall
import HandS.Lambda
import HandS.ForMost
import HandS.ForExc
import HandS.IsInst
import HandS.Evl
import HandS.SetKeys
import HandS.Iter
import HandS.Conv
import KE.KDictKeyed
import HandS.TupAny
import HandS.TupLe
import HandS.Property
import HandS.Deep
import HandS.TupMul
import KE.GoesEnum
import KE.GoesMore
import HandS.ExcInit
import HandS.ExcField
import HandS.ExcIs
import HandS.ClsMeth
import HandS.FStr
import PyProof.FString2
import HandS.Style
import HandS.Defaults
import KE.KLam
import KE.KExcIs
import PyProof.Rows.CountFlat
import HandS.Wide
import HandS.DictComp
import HandS.SortRule
import HandS.More
import HandS.Zip
import HandS.Star
import PyProof.StrOps2
import KE.SortData
import KE.DataMinMax
import KE.DataMinKey
import HandS.SortKw
import HandS.Gcd
import HandS.HeadHook1
import KE.KRevSl
import PyProof.SumWalkG
import KE.KDictWalk
import HandS.Head2
import HandS.HeadHook4
import HandS.HeadWalk
import HandS.Keys
import KE.KDictZip
import PySem.Challenge.RW_markspass_k16_known_rings
import HandS.Head3
import HandS.MakeKw
/-! ### MkGen -/
set_option Elab.async false
set_option linter.all false
set_option maxRecDepth 100000
set_option maxHeartbeats 4000000
namespace Mk
open PySem PySem.Spec PyProof.Rows L2

theorem over_gen {A : Around} {elt target iter : Expr} {ifs : List Expr} {scope : Scope} {pos : Pos} {it acc : Value} {env : Env} :
    A.over (.compLoop (.GeneratorExp elt [⟨target, iter, ifs, 0⟩] scope pos) 0 it acc env) [] = A.deeper env := by
  first
  | rfl
  | (obtain ⟨hd, d, fr, gs, u⟩ := A; simp [Around.over, Around.deeper, marksOver, frameCount, unitsOf, envsOf, guardsOf, pushEnvs, pushGuards, Code.envs, Code.env?, Code.isFrame, Code.guards, Code.isGuard, Code.weight, Code.frames, Code.isCreation, Code.isCaller, Code.cUnits])
theorem over_genS {A : Around} {elt target iter : Expr} {ifs : List Expr} {scope : Scope} {pos : Pos} {it acc : Value} {env : Env} :
    A.over (.compStart (.GeneratorExp elt [⟨target, iter, ifs, 0⟩] scope pos) 0 it acc env) [] = A.deeper env := by
  first
  | rfl
  | (obtain ⟨hd, d, fr, gs, u⟩ := A; simp [Around.over, Around.deeper, marksOver, frameCount, unitsOf, envsOf, guardsOf, pushEnvs, pushGuards, Code.envs, Code.env?, Code.isFrame, Code.guards, Code.isGuard, Code.weight, Code.frames, Code.isCreation, Code.isCaller, Code.cUnits])

theorem wipe_get_out {σ : L2.St} {i : Nat} : ∀ {vs : List Nat}, i ∉ vs → (wipe σ vs)[i]? = σ[i]?
  | [], _ => rfl
  | v :: vs, h => by
    unfold wipe
    have h1 : v ≠ i := fun e => h (by rw [e]; exact List.mem_cons_self)
    rw [List.getElem?_set_ne h1]
    exact wipe_get_out fun z => h (List.mem_cons_of_mem _ z)
theorem wipe_get_in {σ : L2.St} {i : Nat} : ∀ {vs : List Nat}, i ∈ vs → i < σ.length → (wipe σ vs)[i]? = some none
  | [], h, _ => by cases h
  | v :: vs, h, hl => by
    unfold wipe
    by_cases e : v = i
    · subst e
      rw [List.getElem?_set_self (by rw [wipe_length]; exact hl)]
    · rw [List.getElem?_set_ne e]
      rcases List.mem_cons.mp h with z | z
      · exact absurd z.symm e
      · exact wipe_get_in z hl
theorem wipe_wipe (σ : L2.St) (vs : List Nat) : wipe (wipe σ vs) vs = wipe σ vs := by
  apply List.ext_getElem?
  intro i
  by_cases hi : i ∈ vs
  · by_cases hl : i < σ.length
    · rw [wipe_get_in hi (by rw [wipe_length]; exact hl), wipe_get_in hi hl]
    · rw [List.getElem?_eq_none (by rw [wipe_length, wipe_length]; omega), List.getElem?_eq_none (by rw [wipe_length]; omega)]
  · rw [wipe_get_out hi]

/-- the context of a generator expression's frame: entered at s -/
abbrev gblk (X : Cx) (s : Shared) (H : Hp) (cenv : Env) (fp : List Addr) (pn : List (Addr × Obj)) : Cx :=
  { X with A := X.A.in1.in1.deeper cenv, s_0 := s, H_0 := H, env := cenv, outer := X.stack, stack := cenv :: X.stack, ex := fp, fn := fun _ => false, calm := true, pn := pn, xe := fun _ _ => False }

/-- what the generator's own scope must be -/
structure GOk (N : List Str) (sc scope : Scope) (own : List (Str × Nat)) : Prop where
  blk : BlkOk N sc scope own
  co : scope.isCoroutine = false
  cell : ∀ y ∈ scope.names, y.2 ≠ .cell
  dot : scope.names.lookup (".0" : Str) = some NameKind.local

section
variable {X : Cx} {pins : List (Addr × Obj)} {σ : L2.St} {H : Hp} {s : Shared}

theorem gen_start {scope : Scope} {own : List (Str × Nat)} {fp : List Addr} {a : Addr} {o : Obj} {code : Value} {it : Value} {h' : Heap} {g' : Array GenState} {t' : Nat}
    (I : Inv X pins σ H s) (ok : GOk X.N X.env.scope scope own) (hN : X.N.Nodup) (hd : X.A.handled = none) (hfp : ∀ b ∈ fp, FpOk X pins H b ∧ b < s.heap.objs.size)
    (hn : h'.Ns s.heap.objs.size (fun y => if y = ".0" then some it else none)) (kp : ∀ b u, s.heap.get? b = some u → h'.get? b = some u) (ha : h'.get? a = some o) (hsa : s.heap.objs.size < a) (hoc : ∀ v, o.data ≠ .cell v) (hg : AllBare g') :
    Inv (gblk X s H (genEnv scope (cloFrom X.env.cells scope.names []) s.heap.objs.size code builtinsNs X.env) fp [(a, o)]) [] (wipe σ (own.map (·.2))) H { s with heap := h', gens := g', toks := t' } := by
  have hfree : ∀ y ∈ scope.names, y.2 = .free → ∃ c, X.env.cells.lookup y.1 = some c := fun y hy e => by
    rcases ok.blk.free y hy e with k | k
    · exact I.ok.has _ (.inl k)
    · exact I.ok.has _ (.inr k)
  have cm : ∀ {y c}, (cloFrom X.env.cells scope.names []).lookup y = some c → X.env.cells.lookup y = some c := fun {y c} e => by
    rcases cloFrom_mem (PySem.mem_of_lookup e) with hm | ⟨h1, h2⟩
    · cases hm
    · obtain ⟨c1, hc⟩ := hfree _ h1 rfl
      have hc : X.env.cells.lookup y = some c1 := hc
      have e2 : c = c1 := by
        rw [h2, hc] <;> rfl
      rw [e2]
      exact hc
  have look : ∀ {y}, scope.names.lookup y = some .free → ∃ c, (cloFrom X.env.cells scope.names []).lookup y = some c := fun {y} hl => by
    have hy : (y, NameKind.free) ∈ scope.names := PySem.mem_of_lookup hl
    exact mem_lookup (cloFrom_has (cells := X.env.cells) (acc := []) hy)
  have clt : ∀ {y c}, X.env.cells.lookup y = some c → c < s.heap.objs.size := fun {y c} e => by
    obtain ⟨v, z⟩ := I.cell y c e
    exact z.lt
  generalize hce : genEnv scope (cloFrom X.env.cells scope.names []) s.heap.objs.size code builtinsNs X.env = ce
  have cL : ce.locals = s.heap.objs.size := by rw [← hce]; rfl
  have cC : ce.cells = cloFrom X.env.cells scope.names [] := by rw [← hce]; rfl
  have cS : ce.scope = scope := by rw [← hce]; rfl
  have cF : ce.frame = some ce.locals := by rw [← hce]; rfl
  have okB : (gblk X s H ce fp [(a, o)]).Ok := by
    refine ⟨I.ok.mod, by show ce.scope.kind = _; rw [cS]; exact ok.blk.kind, by show ce.globals = _; rw [← hce]; exact I.ok.glob, by show ce.builtins = _; rw [← hce]; rfl, by show s.heap.objs.size ≤ ce.locals; rw [cL]; exact Nat.le_refl _,
      fun y z c e1 e2 => ?_, fun y hy => ?_, fun y c z e => ?_, fun _ => hd, Around.frames_deeper (show X.A.in1.in1.frames = some X.stack from I.ok.frames), .inr ⟨rfl, cF⟩, fun b hb => ⟨?_, fun y c e z => ?_⟩, I.bs, Nat.le_trans I.ok.bsz I.sz, fun b ob e hb => ?_, fun b hb z => ?_, I.stack, I.stkFree⟩
    · have e1 : ce.cells.lookup y = some c := e1
      have e2 : ce.cells.lookup z = some c := e2
      rw [cC] at e1 e2
      exact I.ok.inj y z c (cm e1) (cm e2)
    · have hy : ce.scope.names.lookup y = some .cell ∨ ce.scope.names.lookup y = some .free := hy
      show ∃ c, ce.cells.lookup y = some c
      rw [cS] at hy
      rw [cC]
      rcases hy with hy | hy
      · exact absurd rfl (ok.cell _ (PySem.mem_of_lookup hy))
      · exact look hy
    · cases (show false = true from z)
    · show b ≠ ce.locals
      rw [cL]; exact Nat.ne_of_lt (hfp b hb).2
    · have e : ce.cells.lookup y = some c := e
      rw [cC] at e
      exact (hfp b hb).1.2.2.2.2.1 y c (cm e) z
    · rcases (hfp b hb).1.2.2.2.1 with z | z
      · exact I.ok.noex b ob e z
      · exact absurd (Nat.lt_of_lt_of_le (Heap.lt_size e) (Nat.le_trans I.ok.bsz z)) (Nat.lt_irrefl _)
    · rcases List.mem_cons.mp (I.stkSub b z) with z | z
      · exact (hfp b hb).1.2.1 z
      · exact (hfp b hb).1.2.2.1 z
  refine ⟨okB, rfl, hg, Un.kept kp, ⟨(fun y : Str => if y = ".0" then some it else none), ?_, fun i y v e1 e2 e3 => ?_⟩, fun y c e => ?_, ?_, fun y c e => ?_, fun p hp => ?_, I.hok.kept kp, by rw [wipe_length]; exact I.len⟩
  · show Heap.Ns _ ce.locals _
    rw [cL]
    exact hn
  · obtain ⟨e2, hne⟩ := wipe_some e2
    have e3 : Vis ce.scope y := e3
    rw [cS] at e3
    have nown : ¬ (scope.names.lookup y = some .local ∨ scope.names.lookup y = some .cell) := fun hh => by
      have hm : ∃ k, (y, k) ∈ scope.names ∧ (k = .local ∨ k = .cell) := by
        rcases hh with hh | hh
        · exact ⟨_, PySem.mem_of_lookup hh, .inl rfl⟩
        · exact ⟨_, PySem.mem_of_lookup hh, .inr rfl⟩
      obtain ⟨k, hm, hk⟩ := hm
      rcases ok.blk.own _ hm hk with e' | e'
      · obtain ⟨p, hp, hpy⟩ := List.mem_map.mp e'
        have e3 := ok.blk.ix p hp
        have : p.1 = y := hpy
        rw [this] at e3
        exact hne (List.mem_map.mpr ⟨p, hp, nodup_ix hN e3 e1⟩)
      · exact e' (List.mem_of_getElem? e1)
    have hfr : scope.names.lookup y = some .free := by
      rcases e3 with k | k | k
      · exact absurd (.inl k) nown
      · exact absurd (.inr k) nown
      · exact k
    obtain ⟨m, hn', hl⟩ := I.loc
    have hvis : Vis X.env.scope y := (ok.blk.free _ (PySem.mem_of_lookup hfr) rfl).elim (fun k => .inr (.inl k)) (fun k => .inr (.inr k))
    obtain ⟨u, r, q⟩ := hl i y v e1 e2 hvis
    obtain ⟨c2, h2⟩ := look hfr
    refine ⟨u, r, .inr ⟨.inr (show ce.scope.names.lookup y = some .free by rw [cS]; exact hfr), c2, by show ce.cells.lookup y = some c2; rw [cC]; exact h2, ?_⟩⟩
    have c1 := cm h2
    rcases q with ⟨k', _⟩ | ⟨_, c3, e', z⟩
    · have k' : X.env.scope.names.lookup y = some .local := k'
      rcases ok.blk.free _ (PySem.mem_of_lookup hfr) rfl with k2 | k2 <;> rw [show X.env.scope.names.lookup y = _ from k2] at k' <;> cases k'
    · rw [c1] at e'
      cases e'
      exact z.keeps kp
  · have e : ce.cells.lookup y = some c := e
    rw [cC] at e
    obtain ⟨v, z⟩ := I.cell y c (cm e)
    exact ⟨v, z.keeps kp⟩
  · show H ce.locals = none
    rw [cL]; exact I.hok.fresh (Nat.le_refl _)
  · have e : ce.cells.lookup y = some c := e
    rw [cC] at e
    exact I.freeC y c (cm e)
  · have hp' : p = (a, o) := by simpa using hp
    subst hp'
    refine ⟨ha, I.hok.fresh (Nat.le_of_lt hsa), ?_, fun z => ?_, hoc⟩
    · show a ≠ ce.locals
      rw [cL]; exact Nat.ne_of_gt hsa
    · have z : a ∈ frs X.stack := z
      rcases List.mem_cons.mp (I.stkSub a z) with z | z
      · have h1 := I.lt
        rw [← z] at h1
        exact Nat.lt_irrefl _ (Nat.lt_trans hsa h1)
      · exact I.nofs (Nat.le_of_lt hsa) z
end

theorem Inv_gens {X : Cx} {pins : List (Addr × Obj)} {σ : L2.St} {H : Hp} {s : Shared} {g' : Array GenState} (I : Inv X pins σ H s) (hb : AllBare g') : Inv X pins σ H { s with gens := g' } :=
  ⟨I.ok, I.os, hb, I.base, I.loc, I.cell, I.free, I.freeC, I.pin, I.hok, I.len⟩
theorem bare_set {s : Shared} {g : Nat} {x : GenState} (hb : AllBare s.gens) (hx : x.bare = true) : AllBare (s.setGen g x).gens := by
  intro y hy
  have hy : y ∈ s.gens.setIfInBounds g x := hy
  obtain ⟨i, hi, e⟩ := Array.mem_iff_getElem.mp hy
  rw [Array.size_setIfInBounds] at hi
  rw [Array.getElem_setIfInBounds (by simpa using hi)] at e
  split at e
  · rw [← e]; exact hx
  · rw [← e]; exact hb _ (Array.getElem_mem hi)
/-- resumed: only the generators' states have moved -/
structure Rs (s s' : Shared) : Prop where
  heap : s'.heap = s.heap
  os : s'.os = s.os
  bare : AllBare s'.gens
theorem Rs.inv {X : Cx} {pins : List (Addr × Obj)} {σ : L2.St} {H : Hp} {s s' : Shared} (r : Rs s s') (I : Inv X pins σ H s) : Inv X pins σ H s' := by
  obtain ⟨h, g, d, t, o⟩ := s'
  obtain ⟨r1, r2, r3⟩ := r
  have r1 : h = s.heap := r1
  have r2 : o = s.os := r2
  subst r1
  subst r2
  exact ⟨I.ok, I.os, r3, I.base, I.loc, I.cell, I.free, I.freeC, I.pin, I.hok, I.len⟩
/-- what a turn hands out: False, and all is done; or True -/
def AProto (Y : Cx) (FF : Shared → Prop) : Protocol := fun _ _ v s kap =>
  (v = .bool false ∧ FF s) ∨ (v = .bool true ∧ (∃ σ H, Inv Y [] σ H s) ∧ ∀ s'', Rs s s'' → kap (.send .none) s'')
abbrev AEnd (FT : Shared → Prop) : GenEnd := fun n s₀ r s₁ => r = .ok .next ∧ (fun (_ : Nat) (_ s₁ : Shared) => FT s₁) n s₀ s₁

section
variable {X : Cx}
theorem gseg_loop {s4 : Shared} {H2 : Hp} {ce : Env} {fp : List Addr} {pn : List (Addr × Obj)} {σw : L2.St} {vs : List Nat} {tg elt iter : Expr} {scope : Scope} {pos : Pos} {J : It} {it : Addr} {tn : Nat → Heap → Prop} {g : TG} {te : TE} {Q : VK} {W : Nat → Nat → Hp → Prop}
    (T : Turn X.prog X.w X.K tg J fp it tn) (hco : ce.scope.isCoroutine = false) (hw : wipe σw vs = σw)
    (pg : PG (gblk X s4 H2 ce fp pn) tg g) (pe : PE (gblk X s4 H2 ce fp pn) elt te) (hpn : ∀ p ∈ pn, p.1 ∉ fp)
    (turn : ∀ i m H, W i m H → (J.stop i H ∧ Q (.bl true) H) ∨ (J.go i H ∧ ∃ Nx : Hp → Prop, (∀ H', Nx H' → ∃ m', m' < m ∧ W (i + 1) m' H') ∧ ∀ x H', J.yld i H x H' → g x σw H' fun σ2 H3 => wipe σ2 vs = σw ∧ te σ2 H3 fun y H4 => ∃ b, y = .bl b ∧ if b = true then Nx H4 else Q (.bl false) H4)) :
    ∀ (N i m : Nat) (H' : Hp) (s₀ s : Shared), m < N → Inv (gblk X s4 H2 ce fp pn) [] σw H' s → tn i s.heap → (∀ b ∈ fp, H' b = none) → W i m H' →
      Seg (model X.prog X.w) X.A.in1.in1 (AEnd fun s₁ => ∃ σ' H', Inv (gblk X s4 H2 ce fp pn) [] σ' H' s₁ ∧ Q (.bl true) H') (AProto (gblk X s4 H2 ce fp pn) fun s₁ => ∃ σ' H', Inv (gblk X s4 H2 ce fp pn) [] σ' H' s₁ ∧ Q (.bl false) H') N s₀
        (.compLoop (.GeneratorExp elt [⟨tg, iter, [], 0⟩] scope pos) 0 (.ref it) .none ce)
        ((model X.prog X.w).den (.compLoop (.GeneratorExp elt [⟨tg, iter, [], 0⟩] scope pos) 0 (.ref it) .none ce)) [] s := by
  have stat : ∀ {σ' : L2.St} {H' : Hp} {s' : Shared}, Inv (gblk X s4 H2 ce fp pn) [] σ' H' s' → (∀ b ∈ fp, H' b = none) → ∀ b ∈ fp, FpOk (gblk X s4 H2 ce fp pn) [] H' b := fun {σ' H' s'} I' hn b hb =>
    ⟨hn b hb, (I'.ok.exf b hb).1, I'.ok.exfs b hb, .inl hb, fun x c e => (I'.ok.exf b hb).2 x c e, fun p hp z => by
      have hp' : p ∈ pn := by simpa using hp
      exact hpn p hp' (by rw [z]; exact hb)⟩
  intro N
  induction N with
  | zero => intro i m H' s₀ s hm; exact absurd hm (Nat.not_lt_zero _)
  | succ N ih =>
    intro i m H' s₀ s hm I st nf w
    show Seg _ _ _ _ _ s₀ _ ((compTurn (.GeneratorExp elt [⟨tg, iter, [], 0⟩] scope pos) 0 (.ref it) .none ce).onRaise (leaving ce)) [] s
    rw [compTurn_gen, Sem.onRaise_eq_wrap]
    refine seg_bind_wrap (wpAny_standAt ?_)
    rcases turn i m H' w with ⟨stop, qq⟩ | ⟨go, Nx, hNx, step⟩
    · have td := T.done (gblk X s4 H2 ce fp pn) rfl rfl rfl rfl i [] s _ H' (fun _ _ => False) I (stat I nf) st stop
      refine seg_bind_wrap ?_
      rw [over_gen]
      refine thnF td fun r s6 ⟨hr, I6⟩ => ?_
      subst hr
      exact seg_end (.ok .next) ⟨rfl, _, _, I6, qq⟩
    · have ti := T.item (gblk X s4 H2 ce fp pn) rfl rfl rfl rfl i [] s _ H' (fun _ _ => False) I (stat I nf) st go
      refine seg_bind_wrap ?_
      rw [over_gen]
      refine thnF ti fun r s6 ⟨u, hr, h6⟩ => ?_
      subst hr
      refine seg_bind_wrap ?_
      rw [over_gen]
      refine thnF h6 fun _ s7 ⟨x, H7, I7, r7, y7, st7, n7⟩ => ?_
      have I7' := I7.pinned (stat I7 n7) (T.obj _ _ st7)
      refine seg_bind_wrap ?_
      rw [over_gen]
      refine thnF (pg.run _ s7 _ H7 x u _ I7' r7 (step x H7 y7)) fun _ s8 ⟨σ8, H8, I8, hw8, q8⟩ => ?_
      refine seg_bind_wrap (m := forIn ([] : List Expr) true _) ?_
      simp only [List.forIn_nil]
      refine wpAny_pure ?_
      simp only [if_true]
      have hy : ∀ v, yieldOut ce v = yieldValue v := fun v => by simp only [yieldOut, hco, Bool.false_eq_true, if_false]
      simp only [hy]
      rw [Sem.bind_eq_wrap', Sem.bind_eq_wrap', Sem.wrap_wrap, Sem.wrap_wrap]
      refine seg_wrap ?_
      rw [over_gen]
      refine thnF (pe.run _ s8 σ8 H8 _ I8 q8) fun z s10 ⟨yv, H10, I10, r10, b, eb, nx⟩ => ?_
      subst eb
      have r10 : z = .bool b := r10
      subst r10
      have I11 : Inv (gblk X s4 H2 ce fp pn) [] σw H10 s10 := (I10.unpinned (pins := [])).weak (by rw [← hw8, wipe_length]) (fun j v e => by
        rw [← hw8] at e
        exact (wipe_some e).1)
      cases b with
      | false =>
        refine seg_at (seg_yield rfl rfl rfl (.inl ⟨rfl, _, _, I11, ?_⟩))
        simpa using nx
      | true =>
        simp only [if_true] at nx
        obtain ⟨m', hm', w'⟩ := hNx _ nx
        have pin' : ∀ b ∈ fp, ∀ o, s7.heap.get? b = some o → s10.heap.get? b = some o ∧ H10 b = none := fun b hb o e =>
          let z := I10.pin (b, o) (List.mem_append_right _ (List.mem_append_right _ (mem_pinsAt hb e)))
          ⟨z.1, z.2.1⟩
        refine seg_at (seg_yield rfl rfl rfl (.inr ⟨rfl, ⟨_, _, I11⟩, fun s'' rs => ?_⟩))
        refine seg_again rfl (ih (i + 1) m' H10 s'' s'' (by omega) (rs.inv I11) ?_ (fun b hb => ?_) w')
        · rw [rs.heap]
          exact T.keep _ _ _ st7 fun b hb o e => (pin' b hb o e).1
        · obtain ⟨o, e, _⟩ := T.obj _ _ st7 b hb
          exact (pin' b hb o e).2
end

section
variable {X : Cx} {a : Addr} {g : Nat} {gob : Obj}
/-- asleep, with at most N more turns -/
def Sus (X Y : Cx) (a : Addr) (g : Nat) (FT FF : Shared → Prop) (N : Nat) (s : Shared) : Prop :=
  (∃ σ H, Inv Y [] σ H s) ∧ ∃ gs, s.gens[g]? = some gs ∧ ∀ s'', Rs s s'' → gs.Goes (model X.prog X.w) X.A.in1.in1 (AEnd FT) (AProto Y FF) N (.send .none) s''
theorem all_loop {Y : Cx} {FT FF : Shared → Prop} {R : Result → Shared → Prop} (hh : X.A.handled = none) (hroom : X.A.depth < recursionLimit) (hgen : ∀ {σ H s}, Inv Y [] σ H s → s.heap.IsGen a g)
    (hT : ∀ s1 h' gs', FT s1 → (∀ b o, s1.heap.get? b = some o → h'.get? b = some o) → gs'.bare = true → R (.ok (.ret (.bool true))) { s1.setGen g gs' with heap := h' })
    (hF : ∀ s1 gs', FF s1 → gs'.bare = true → R (.ok (.ret (.bool false))) (s1.setGen g gs')) :
    ∀ (N : Nat) (s : Shared), Sus X Y a g FT FF N s → codeAny (model X.prog X.w) X.A (.builtin "all.loop" ⟨[.ref a], []⟩) R s := by
  intro N
  induction N with
  | zero =>
    intro s hs
    obtain ⟨⟨σ, H, I⟩, gs, hgs, hgo⟩ := hs
    have hlt : g < s.gens.size := by
      rcases Nat.lt_or_ge g s.gens.size with h | h
      · exact h
      · rw [Array.getElem?_eq_none h] at hgs; cases hgs
    refine codeAny_builtin F.entry_all_loop ?_
    rw [Around.under_plainId F.plain_all_loop _]
    show wpAny _ X.A.in1 (pyNext (.ref a) >>= _) _ _ s
    refine wpAny_bind (wpAny_pyNext_genexpQ (A := X.A.in1) (P := fun _ _ s₁ => FT s₁) (Y := AProto Y FF) hh I.nolimit hroom (hgen I) hgs (hgo _ ⟨rfl, rfl, bare_set I.bare rfl⟩) (fun v s₁ gs' hb hv => ?_) (fun s₁ hp h' hk => ?_))
    · rcases hv with ⟨rfl, hv⟩ | ⟨rfl, ⟨σ1, H1, I1⟩, hv⟩
      · refine wpAny_bind (wpAny_holding (wpAny_truthy_bool ?_))
        refine wpAny_bind (wpAny_letGo ?_)
        simp only [Bool.false_eq_true, if_false]
        exact wpAny_bind (wpAny_rule (wpAny_pure (hF _ _ hv hb)))
      · exact (hv s₁ ⟨rfl, rfl, I1.bare⟩).elim
    · exact wpAny_bind (wpAny_rule (wpAny_pure (hT s₁ h' .finished hp hk rfl)))
  | succ N ih =>
    intro s hs
    obtain ⟨⟨σ, H, I⟩, gs, hgs, hgo⟩ := hs
    have hlt : g < s.gens.size := by
      rcases Nat.lt_or_ge g s.gens.size with h | h
      · exact h
      · rw [Array.getElem?_eq_none h] at hgs; cases hgs
    refine codeAny_builtin F.entry_all_loop ?_
    rw [Around.under_plainId F.plain_all_loop _]
    show wpAny _ X.A.in1 (pyNext (.ref a) >>= _) _ _ s
    refine wpAny_bind (GenW.wpAny_gsz (n := g + 1) hlt (wpAny_pyNext_genexpQ (A := X.A.in1) (P := fun _ _ s₁ => FT s₁) (Y := AProto Y FF) hh I.nolimit hroom (hgen I) hgs (hgo _ ⟨rfl, rfl, bare_set I.bare rfl⟩) (fun v s₁ gs' hb hv => ?_) (fun s₁ hp h' hk => ?_)))
    · intro hsz
      rcases hv with ⟨rfl, hv⟩ | ⟨rfl, ⟨σ1, H1, I1⟩, hv⟩
      · refine wpAny_bind (wpAny_holding (wpAny_truthy_bool ?_))
        refine wpAny_bind (wpAny_letGo ?_)
        simp only [Bool.false_eq_true, if_false]
        exact wpAny_bind (wpAny_rule (wpAny_pure (hF _ _ hv hb)))
      · refine wpAny_bind (wpAny_holding (wpAny_truthy_bool ?_))
        refine wpAny_bind (wpAny_letGo ?_)
        simp only [if_true]
        refine wpAny_pure ⟨plainId_quiet F.plain_all_loop _, ih _ ⟨⟨σ1, H1, Inv_gens I1 (bare_set I1.bare hb)⟩, gs', ?_, fun s'' rs => hv s'' ⟨rs.heap, rs.os, rs.bare⟩⟩⟩
        have hsz' : g < s₁.gens.size := by
          have e : (s₁.setGen g gs').gens.size = s₁.gens.size := by simp [Shared.setGen]
          rw [e] at hsz
          exact hsz
        simp [Shared.setGen, hsz']
    · intro _
      exact wpAny_bind (wpAny_rule (wpAny_pure (hT s₁ h' .finished hp hk rfl)))
end

theorem gseg_start {X : Cx} {ce : Env} {fp : List Addr} {tg elt iter : Expr} {scope : Scope} {pos : Pos} {J : It} {it : Addr} {tn : Nat → Heap → Prop} {R : GenEnd} {Yp : Protocol} {N : Nat} {s₀ s : Shared}
    (T : Turn X.prog X.w X.K tg J fp it tn) (st : tn 0 s.heap)
    (loop : Seg (model X.prog X.w) X.A.in1.in1 R Yp N s₀ (.compLoop (.GeneratorExp elt [⟨tg, iter, [], 0⟩] scope pos) 0 (.ref it) .none ce) ((model X.prog X.w).den (.compLoop (.GeneratorExp elt [⟨tg, iter, [], 0⟩] scope pos) 0 (.ref it) .none ce)) [] s) :
    Seg (model X.prog X.w) X.A.in1.in1 R Yp N s₀ (.compStart (.GeneratorExp elt [⟨tg, iter, [], 0⟩] scope pos) 0 (.ref it) .none ce) ((model X.prog X.w).den (.compStart (.GeneratorExp elt [⟨tg, iter, [], 0⟩] scope pos) 0 (.ref it) .none ce)) [] s := by
  show Seg _ _ _ _ _ s₀ _ ((compStart (.GeneratorExp elt [⟨tg, iter, [], 0⟩] scope pos) 0 (.ref it) .none ce).onRaise (leaving ce)) [] s
  unfold compStart
  rw [Sem.onRaise_eq_wrap]
  show Seg _ _ _ _ _ s₀ _ ((ask >>= _).wrap _ _ _ _) [] s
  refine seg_bind_wrap (wpAny_askSetting ?_)
  split
  · exact seg_again rfl loop
  · first
      | exact seg_bind_wrap (wpAny_rule (seg_bind_wrap (wpAny_standAt (seg_bind_wrap (T.self _ 0 s _ _ st (seg_again rfl loop))))))
      | (refine seg_bind_wrap (wpAny_rule ?_); show Seg _ _ _ _ _ s₀ _ ((standAt iter.pos >>= _).wrap _ _ _ _) [] s; exact seg_bind_wrap (wpAny_standAt (seg_bind_wrap (T.self _ 0 s _ _ st (seg_again rfl loop)))))

theorem boot_all : bootBuiltins "all" = some (.builtin "all") := by decide +kernel

/-- all(elt for target in iter): W by the turn and a measure -/
def tAllG (P : Addr) (wi : TI) (g : TG) (te : TE) (vs : List Nat) : TE := fun σ H Q => wi σ H fun J H1 => GxR.TabG H1 P ∧ ∀ H2, GxR.Tabbed P H1 H2 → ∃ W : Nat → Nat → Hp → Prop, (∃ m, W 0 m H2) ∧ ∀ i m H, W i m H →
  (J.stop i H ∧ Q (.bl true) H) ∨ (J.go i H ∧ ∃ Nx : Hp → Prop, (∀ H', Nx H' → ∃ m', m' < m ∧ W (i + 1) m' H') ∧ ∀ x H', J.yld i H x H' → g x (wipe σ vs) H' fun σ2 H3 => wipe σ2 vs = wipe σ vs ∧ te σ2 H3 fun y H4 => ∃ b, y = .bl b ∧ if b = true then Nx H4 else Q (.bl false) H4)
theorem pe_all {X : Cx} {k : Nat} {c P : Addr} {elt tg iter : Expr} {scope : Scope} {own : List (Str × Nat)} {p pos gpos : Pos} {wi : TI} {g : TG} {te : TE}
    (hr : Room k X.A) (hg : Gl X "all") (hm : X.mg "all" = none) (TB : GxR.TabB X.base X.mg c P) (hcode : X.env.code = .ref c) (ok : GOk X.N X.env.scope scope own) (hN : X.N.Nodup) (hi : PI X tg iter wi)
    (hpg : ∀ (s : Shared) (H : Hp) (C : Addr) (cl : List (Str × Addr)) (code : Value) (fp : List Addr) (pn : List (Addr × Obj)), PG (gblk X s H (genEnv scope cl C code builtinsNs X.env) fp pn) tg g)
    (hpe : ∀ (s : Shared) (H : Hp) (C : Addr) (cl : List (Str × Addr)) (code : Value) (fp : List Addr) (pn : List (Addr × Obj)), PE (gblk X s H (genEnv scope cl C code builtinsNs X.env) fp pn) elt te)
    (hs : ∀ v, genFold iter X.env v = pure v := by intro _; rfl)
    (he : starEach [.GeneratorExp elt [⟨tg, iter, [], 0⟩] scope gpos] X.env = (false, eval (.GeneratorExp elt [⟨tg, iter, [], 0⟩] scope gpos) X.env) :: starEach [] X.env := by rfl) :
    PE X (.Call (.Name "all" p) [.GeneratorExp elt [⟨tg, iter, [], 0⟩] scope gpos] [] pos) (tAllG P wi g te (own.map (·.2))) := by
  refine ⟨fun pins s σ H Q I h => ?_⟩
  have hfree : ∀ y ∈ scope.names, y.2 = .free → ∃ c, X.env.cells.lookup y.1 = some c := fun y hy e => by
    rcases ok.blk.free y hy e with k | k
    · exact I.ok.has _ (.inl k)
    · exact I.ok.has _ (.inr k)
  have hdp : X.A.depth < recursionLimit := by have := hr.dp; omega
  refine wpAny_Call_Name_kw (ld_blt I hg hm boot_all ?_)
  refine PyProof.Rows.callWith_builtin1 ?_ he (by rfl)
  rw [he]
  show wpAny _ _ (spliced ((false, eval (.GeneratorExp elt [⟨tg, iter, [], 0⟩] scope gpos) X.env) :: backTo pos (starEach [] X.env))) _ _ s
  refine Calls.spliced_cons (wpAny_GeneratorExp_make ok.co (closure_ok hfree) ok.cell ok.dot ok.blk.kind hdp ?_ hs)
  refine thn (hi.run pins s σ H _ I h) fun xv s1 hx => thn hx fun itv s2 h2 => ?_
  obtain ⟨it, fp, tn, J, H1, e, I2, T, st2, f2, ⟨ps, hP, ht⟩, q⟩ := h2
  subst e
  refine ⟨I2.nolimit, ?_⟩
  have hPs : s2.heap.get? P = some { cls := .none, data := .fields ps } := I2.hok P _ hP
  have cd : PySem.W.CodeHd s2.heap c P := TB.code.keeps fun b u e => I2.bk b u e
  have sz : ∀ b ∈ fp, b < s2.heap.objs.size := fun b hb => by
    obtain ⟨o, e, _⟩ := T.obj _ _ st2 b hb
    exact Heap.lt_size e
  have nfP : ∀ b ∈ fp, b ≠ P := fun b hb z => by
    have n := (f2 b hb).1
    rw [z, hP] at n
    cases n
  refine wpAny_mono (Q := fun code s3 => ∃ h3 tk ps', s3 = { s2 with heap := h3, toks := tk } ∧ Heap.ExtBut P s2.heap h3 ∧ s2.heap.objs.size ≤ h3.objs.size ∧ h3.get? P = some { cls := .none, data := .fields ps' } ∧ (∃ more, ps' = ps ++ more) ∧ TriplesOk ps'.toList) (E := X.xe) ?_ (fun code s3 h3 => ?_) fun _ _ z => z
  · cases hf : codeAmong gpos ps.toList with
    | none =>
      refine wpAny_genexprCodeX hcode (cd.code hPs ht) (cd.tab hPs) hf fun c' h' tk hx hge hlt hco' _ htab' _ => ?_
      obtain ⟨o1, vs, f1, tf, fl, tg, inF, tx, tt, op, _, _, _, _, _, _, _, _, _, htr, _⟩ := hco'
      exact ⟨h', tk, _, rfl, hx, Nat.le_trans hge (Nat.le_of_lt hlt), htab'.2, ⟨_, rfl⟩, htr⟩
    | some cv =>
      refine wpAny_genexprCode_hit hcode (cd.code hPs ht) hf ?_
      exact ⟨s2.heap, s2.toks, ps, rfl, Heap.ExtBut.refl _ _, Nat.le_refl _, hPs, ⟨#[], by simp⟩, ht⟩
  obtain ⟨h3, tk, ps', rfl, hx3, hsz3, hP3, ⟨more, em⟩, ht3⟩ := h3
  have J0 : Inv X pins σ (upd H1 P (.tbl (ps ++ more))) { s2 with heap := h3, toks := tk } :=
    GxR.inv_tab (more := more) (h' := h3) (g' := s2.gens) (d' := s2.drawn) (t' := tk) I2 hP (fun b u hb e => hx3 b u hb e) (by rw [← em]; exact hP3) I2.bare
  have tabd : GxR.Tabbed P H1 (upd H1 P (.tbl (ps ++ more))) := ⟨⟨ps ++ more, upd_same, by rw [← em]; exact ht3⟩, fun b hb => upd_ne hb⟩
  obtain ⟨W, ⟨m0, w0⟩, turn⟩ := q _ tabd
  generalize hH2 : upd H1 P (.tbl (ps ++ more)) = H2 at J0 tabd w0
  have f4 : ∀ b ∈ fp, FpOk X pins H2 b ∧ b < h3.objs.size := fun b hb => by
    refine ⟨⟨?_, (f2 b hb).2⟩, Nat.lt_of_lt_of_le (sz b hb) hsz3⟩
    rw [← hH2, upd_ne (nfP b hb)]
    exact (f2 b hb).1
  have st3 : tn 0 h3 := T.keep _ _ _ st2 fun b hb o e => hx3 b o (nfP b hb) e
  obtain ⟨bm, ob, e1, e2, e3, e4, e5, e6, e7, e8⟩ := TB.bm
  refine wpAny_builtinsFor (m := X.mg) (by rw [I2.ok.glob]; exact (I2.mod.glob.keeps I2.bk).extBut hx3 TB.gP) e1 e2 (hx3 _ _ e4 (I2.bk _ _ e5)) e6 e7 e8 ?_
  intro h' hn hs'
  have hsz : h'.objs.size = h3.objs.size + 1 := by rw [hs'.1, Heap.size_push]
  have keep' : ∀ b o, h3.get? b = some o → h'.get? b = some o := fun b o e => hs'.extBut b o (Nat.ne_of_lt (Heap.lt_size e)) (Heap.get?_push_of_some _ e)
  refine Calls.spliced_nil ?_
  generalize hgo : ({ cls := .type "generator", data := .fields #[.int s2.gens.size 0, .str "<genexpr>" (tk + 1), .str (X.env.qual ++ "<genexpr>") (tk + 1 + 1)] } : Obj) = gob
  have hgd : ∀ v, gob.data ≠ .cell v := fun v z => by rw [← hgo] at z; cases z
  have hfr : gob.isFreed = false := by rw [← hgo]; rfl
  have k5 : ∀ b o, h3.get? b = some o → (h'.push gob).get? b = some o := fun b o e => Heap.get?_push_of_some _ (keep' b o e)
  have ha5 : (h'.push gob).get? h'.objs.size = some gob := Heap.get?_push_size _ hfr
  have hgb : ∀ cc, AllBare (s2.gens.push (.fresh cc)) := fun cc y hy => by
    rcases Array.mem_push.mp hy with z | z
    · exact I2.bare y z
    · rw [z]; rfl
  have I5 := fun cc => gen_start (code := code) (it := .ref it) (g' := s2.gens.push (.fresh cc)) (t' := tk + 1 + 1 + 1) J0 ok hN hr.hd f4 (hn.push gob) k5 ha5 (by show h3.objs.size < h'.objs.size; omega) hgd (hgb cc)
  generalize hce : genEnv scope (cloFrom X.env.cells scope.names []) h3.objs.size code builtinsNs X.env = ce
  have hce' : genEnv scope (cloFrom X.env.cells scope.names []) ({ s2 with heap := h3, toks := tk } : Shared).heap.objs.size code builtinsNs X.env = ce := hce
  rw [hce'] at I5
  have I5' := I5 (.compStart (.GeneratorExp elt [⟨tg, iter, [], 0⟩] scope gpos) 0 (.ref it) .none ce)
  have pg := hpg { s2 with heap := h3, toks := tk } H2 h3.objs.size (cloFrom X.env.cells scope.names []) code fp [(h'.objs.size, gob)]
  have pe := hpe { s2 with heap := h3, toks := tk } H2 h3.objs.size (cloFrom X.env.cells scope.names []) code fp [(h'.objs.size, gob)]
  rw [hce] at pg pe
  have st5 : tn 0 (h'.push gob) := T.keep _ _ _ st3 fun b _ o e => k5 b o e
  have hco : ce.scope.isCoroutine = false := by rw [← hce]; exact ok.co
  have hpn : ∀ p ∈ [(h'.objs.size, gob)], p.1 ∉ fp := fun p hp hb => by
    have hp' : p = (h'.objs.size, gob) := by simpa using hp
    rw [hp'] at hb
    have h9 : (h'.objs.size : Nat) < h3.objs.size := (f4 _ hb).2
    omega
  have back : ∀ {σ' : L2.St} {H' : Hp} {s' : Shared}, Inv (gblk X { s2 with heap := h3, toks := tk } H2 ce fp [(h'.objs.size, gob)]) [] σ' H' s' → Inv X pins σ H' s' := fun {σ' H' s'} I6 =>
    J0.call' (ch := fp) I6.os I6.base I6.hok I6.bare fun b hb => ⟨(f4 b hb).1.2.2.2.1, (f4 b hb).1.2.1, (f4 b hb).1.2.2.2.2.1, (f4 b hb).1.2.2.2.2.2⟩
  have isg : ∀ {σ' : L2.St} {H' : Hp} {s' : Shared}, Inv (gblk X { s2 with heap := h3, toks := tk } H2 ce fp [(h'.objs.size, gob)]) [] σ' H' s' → s'.heap.IsGen h'.objs.size s2.gens.size := fun {σ' H' s'} I6 => by
    have z := (I6.pin (h'.objs.size, gob) (List.mem_append_left _ List.mem_cons_self)).1
    exact ⟨gob, _, _, z, by rw [← hgo], by rw [← hgo], by rw [← hgo]⟩
  have hww : wipe (wipe σ (own.map (·.2))) (own.map (·.2)) = wipe σ (own.map (·.2)) := wipe_wipe σ _
  refine call_function_tree F.kind_all F.plain_all F.entry_all (F.args_all1 _) ?_
  unfold Builtin.«all»
  refine wpAny_bind (m := oneArg "all" _) (wpAny_pure ?_)
  refine wpAny_bind (wpAny_pyIter_gen (isg I5') ?_)
  refine wpAny_pure ⟨plainId_quiet F.plain_all_loop _, all_loop (Y := gblk X { s2 with heap := h3, toks := tk } H2 ce fp [(h'.objs.size, gob)]) (g := s2.gens.size)
    (FT := fun s₁ => ∃ σ' H', Inv (gblk X { s2 with heap := h3, toks := tk } H2 ce fp [(h'.objs.size, gob)]) [] σ' H' s₁ ∧ Q (.bl true) H') (FF := fun s₁ => ∃ σ' H', Inv (gblk X { s2 with heap := h3, toks := tk } H2 ce fp [(h'.objs.size, gob)]) [] σ' H' s₁ ∧ Q (.bl false) H')
    hr.hd hdp isg (fun s1 h9 gs' ⟨σ', H', I6, q6⟩ hk hb => ?_) (fun s1 gs' ⟨σ', H', I6, q6⟩ hb => ?_) (m0 + 1) _ ⟨⟨_, _, I5'⟩, .fresh (.compStart (.GeneratorExp elt [⟨tg, iter, [], 0⟩] scope gpos) 0 (.ref it) .none ce), by simp, fun s'' rs => ⟨rfl, ?_⟩⟩⟩
  · refine gseg_start T (by rw [rs.heap]; exact st5) ?_
    refine gseg_loop (σw := wipe σ (own.map (·.2))) (vs := own.map (·.2)) (W := W) T hco hww pg pe hpn turn (m0 + 1) 0 m0 H2 s'' s'' (Nat.lt_succ_self _) (rs.inv I5') (by rw [rs.heap]; exact st5) (fun b hb => (f4 b hb).1.1) w0
  · have I7 := (Inv_gens I6 (bare_set (g := s2.gens.size) (x := gs') I6.bare hb)).kept (t' := s1.toks) (h' := h9) hk
    exact ⟨.bl true, H', back I7, rfl, q6⟩
  · exact ⟨.bl false, H', back (Inv_gens I6 (bare_set (g := s2.gens.size) (x := gs') I6.bare hb)), rfl, q6⟩
end Mk

/-! ### MkData -/
set_option Elab.async false
set_option linter.all false
set_option maxRecDepth 100000
set_option maxHeartbeats 4000000
namespace Mk
open PySem PySem.Spec PyProof.Rows L2

/-- data -/
inductive D where
  | non | bl (b : Bool) | int (i : Int) | str (s : Str) | tup (l : List D) | lst (l : List D)

mutual
def Im (K : PySem.W.Frag) (H : Hp) : D → V → Prop
  | .non, v => v = .non
  | .bl b, v => v = .bl b
  | .int i, v => v = .int i
  | .str s, v => v = .str s
  | .tup ds, v => ∃ a xs, v = .ref a ∧ SqT K H a xs ∧ ImL K H ds xs
  | .lst ds, v => ∃ a xs, v = .ref a ∧ SqL K H a xs ∧ ImL K H ds xs
def ImL (K : PySem.W.Frag) (H : Hp) : List D → List V → Prop
  | [], xs => xs = []
  | d :: ds, xs => ∃ v vs, xs = v :: vs ∧ Im K H d v ∧ ImL K H ds vs
end
/-- all but tables stays -/
abbrev ExtN := LamX.ExtN
/-- what is read stays so -/
structure EE (K : PySem.W.Frag) (H H' : Hp) : Prop where
  t : ∀ a xs, SqT K H a xs → SqT K H' a xs
  l : ∀ a xs, SqL K H a xs → SqL K H' a xs
theorem ExtN.ee {K : PySem.W.Frag} {H H' : Hp} (e : ExtN H H') : EE K H H' := by
  refine ⟨fun a xs h => ?_, fun a xs h => ?_⟩
  · rcases h with (h | ⟨o, h⟩) | h
    · exact .inl (.inl (e _ _ h fun ps z => by cases z))
    · exact .inl (.inr ⟨o, e _ _ h fun ps z => by cases z⟩)
    · exact .inr h
  · rcases h with (h | ⟨o, h⟩) | h
    · exact .inl (.inl (e _ _ h fun ps z => by cases z))
    · exact .inl (.inr ⟨o, e _ _ h fun ps z => by cases z⟩)
    · exact .inr h
mutual
theorem Im.mono {K : PySem.W.Frag} {H H' : Hp} (e : EE K H H') : ∀ {d : D} {v : V}, Im K H d v → Im K H' d v
  | .non, _, h => h
  | .bl _, _, h => h
  | .int _, _, h => h
  | .str _, _, h => h
  | .tup ds, _, h => by
    unfold Im at h ⊢
    obtain ⟨a, xs, h1, h2, h3⟩ := h
    exact ⟨a, xs, h1, e.t _ _ h2, ImL.mono e h3⟩
  | .lst ds, _, h => by
    unfold Im at h ⊢
    obtain ⟨a, xs, h1, h2, h3⟩ := h
    exact ⟨a, xs, h1, e.l _ _ h2, ImL.mono e h3⟩
theorem ImL.mono {K : PySem.W.Frag} {H H' : Hp} (e : EE K H H') : ∀ {ds : List D} {vs : List V}, ImL K H ds vs → ImL K H' ds vs
  | [], _, h => h
  | d :: ds, _, h => by
    unfold ImL at h ⊢
    obtain ⟨v, vs, h1, h2, h3⟩ := h
    exact ⟨v, vs, h1, Im.mono e h2, ImL.mono e h3⟩
end
/-! no list within -/
mutual
def NoL : D → Prop
  | .tup ds => NoLs ds
  | .lst _ => False
  | _ => True
def NoLs : List D → Prop
  | [] => True
  | d :: ds => NoL d ∧ NoLs ds
end
abbrev TSt (K : PySem.W.Frag) (H H' : Hp) : Prop := ∀ a xs, SqT K H a xs → SqT K H' a xs
mutual
theorem Im.tt {K : PySem.W.Frag} {H H' : Hp} (e : TSt K H H') : ∀ {d : D} {v : V}, NoL d → Im K H d v → Im K H' d v
  | .non, _, _, h => h
  | .bl _, _, _, h => h
  | .int _, _, _, h => h
  | .str _, _, _, h => h
  | .tup ds, _, n, h => by
    unfold Im at h ⊢
    unfold NoL at n
    obtain ⟨a, xs, h1, h2, h3⟩ := h
    exact ⟨a, xs, h1, e _ _ h2, ImL.tt e n h3⟩
  | .lst ds, _, n, h => by unfold NoL at n; exact n.elim
theorem ImL.tt {K : PySem.W.Frag} {H H' : Hp} (e : TSt K H H') : ∀ {ds : List D} {vs : List V}, NoLs ds → ImL K H ds vs → ImL K H' ds vs
  | [], _, _, h => h
  | d :: ds, _, n, h => by
    unfold ImL at h ⊢
    unfold NoLs at n
    obtain ⟨v, vs, h1, h2, h3⟩ := h
    exact ⟨v, vs, h1, Im.tt e n.1 h2, ImL.tt e n.2 h3⟩
end
theorem TSt.upd_new {K : PySem.W.Frag} {H : Hp} {p : Addr} {o : HO} (h : H p = none) : TSt K H (upd H p o) := fun a xs q => by
  rcases q with (q | ⟨ob, q⟩) | q
  · exact .inl (.inl (by rw [upd_ne (ne_of_none q h)]; exact q))
  · exact .inl (.inr ⟨ob, by rw [upd_ne (ne_of_none q h)]; exact q⟩)
  · exact .inr q
theorem TSt.upd_lst {K : PySem.W.Frag} {H : Hp} {p : Addr} {xs : List V} {o : HO} (h : H p = some (.lst xs)) : TSt K H (upd H p o) := fun a ys q => by
  rcases q with (q | ⟨ob, q⟩) | q
  · exact .inl (.inl (by rw [upd_ne (ne_of q h (by intro z; cases z))]; exact q))
  · exact .inl (.inr ⟨ob, by rw [upd_ne (ne_of q h (by intro z; cases z))]; exact q⟩)
  · exact .inr q
theorem TSt.refl {K : PySem.W.Frag} (H : Hp) : TSt K H H := fun _ _ h => h
theorem TSt.trans {K : PySem.W.Frag} {H H1 H2 : Hp} (a : TSt K H H1) (b : TSt K H1 H2) : TSt K H H2 := fun x y h => b x y (a x y h)
theorem ExtN.new {H : Hp} {p : Addr} {o : HO} (h : H p = none) : ExtN H (upd H p o) := fun a u e _ => by
  rw [upd_ne (ne_of_none e h)]; exact e
/-- an object that H does not know may change -/
theorem ExtN.mut {H H' : Hp} {p : Addr} {o : HO} (e : ExtN H H') (h : H p = none) : ExtN H (upd H' p o) := fun a u ha n => by
  rw [upd_ne (ne_of_none ha h)]; exact e a u ha n
theorem ImL.length {K : PySem.W.Frag} {H : Hp} : ∀ {ds : List D} {vs : List V}, ImL K H ds vs → vs.length = ds.length
  | [], _, h => by unfold ImL at h; rw [h]; rfl
  | d :: ds, _, h => by
    unfold ImL at h
    obtain ⟨v, vs, rfl, _, h3⟩ := h
    rw [List.length_cons, List.length_cons, ImL.length h3]
theorem ImL.get {K : PySem.W.Frag} {H : Hp} : ∀ {ds : List D} {vs : List V} {i : Nat} {v : V}, ImL K H ds vs → vs[i]? = some v → ∃ d, ds[i]? = some d ∧ Im K H d v
  | [], _, i, v, h, e => by unfold ImL at h; rw [h] at e; cases e
  | d :: ds, _, 0, v, h, e => by
    unfold ImL at h
    obtain ⟨w, vs, rfl, h2, _⟩ := h
    cases e
    exact ⟨d, rfl, h2⟩
  | d :: ds, _, i + 1, v, h, e => by
    unfold ImL at h
    obtain ⟨w, vs, rfl, _, h3⟩ := h
    exact ImL.get (i := i) h3 e
theorem ImL.get' {K : PySem.W.Frag} {H : Hp} : ∀ {ds : List D} {vs : List V} {i : Nat} {d : D}, ImL K H ds vs → ds[i]? = some d → ∃ v, vs[i]? = some v ∧ Im K H d v
  | [], _, i, d, h, e => by cases e
  | d :: ds, _, 0, v, h, e => by
    unfold ImL at h
    obtain ⟨w, vs, rfl, h2, _⟩ := h
    cases e
    exact ⟨w, rfl, h2⟩
  | d :: ds, _, i + 1, v, h, e => by
    unfold ImL at h
    obtain ⟨w, vs, rfl, _, h3⟩ := h
    exact ImL.get' (i := i) h3 e
theorem ImL.append {K : PySem.W.Frag} {H : Hp} : ∀ {ds es : List D} {vs ws : List V}, ImL K H ds vs → ImL K H es ws → ImL K H (ds ++ es) (vs ++ ws)
  | [], _, _, _, h, k => by unfold ImL at h; rw [h]; exact k
  | d :: ds, _, _, _, h, k => by
    unfold ImL at h
    obtain ⟨v, vs, rfl, h2, h3⟩ := h
    show ImL K H (d :: (ds ++ _)) (v :: (vs ++ _))
    unfold ImL
    exact ⟨v, _, rfl, h2, ImL.append h3 k⟩
theorem imL_nil {K : PySem.W.Frag} {H : Hp} : ImL K H [] [] := by unfold ImL; rfl
theorem imL_cons {K : PySem.W.Frag} {H : Hp} {d : D} {v : V} {ds : List D} {vs : List V} (h : Im K H d v) (k : ImL K H ds vs) : ImL K H (d :: ds) (v :: vs) := by unfold ImL; exact ⟨v, vs, rfl, h, k⟩
theorem im_tup {K : PySem.W.Frag} {H : Hp} {a : Addr} {ds : List D} {xs : List V} (h : SqT K H a xs) (k : ImL K H ds xs) : Im K H (.tup ds) (.ref a) := by unfold Im; exact ⟨a, xs, rfl, h, k⟩
theorem im_tup' {K : PySem.W.Frag} {H : Hp} {v : V} {ds : List D} (h : Im K H (.tup ds) v) : ∃ a xs, v = .ref a ∧ SqT K H a xs ∧ ImL K H ds xs := by unfold Im at h; exact h
theorem im_int {K : PySem.W.Frag} {H : Hp} {i : Int} : Im K H (.int i) (.int i) := by unfold Im; rfl
theorem im_int' {K : PySem.W.Frag} {H : Hp} {i : Int} {v : V} (h : Im K H (.int i) v) : v = .int i := by unfold Im at h; exact h
theorem im_non {K : PySem.W.Frag} {H : Hp} : Im K H .non .non := by unfold Im; rfl

/-! ### isinstance -/
def tyD : D → String
  | .non => "NoneType" | .bl _ => "bool" | .int _ => "int" | .str _ => "str" | .tup _ => "tuple" | .lst _ => "list"
theorem Im.ty {K : PySem.W.Frag} {H : Hp} : ∀ {d : D} {v : V}, Im K H d v → TyX K H v (.type (tyD d))
  | .non, v, h => by unfold Im at h; subst h; exact .base .non
  | .bl b, v, h => by unfold Im at h; subst h; exact .base (.bl b)
  | .int i, v, h => by unfold Im at h; subst h; exact .base (.int i)
  | .str s, v, h => by unfold Im at h; subst h; exact .base (.str s)
  | .tup ds, v, h => by
    unfold Im at h
    obtain ⟨a, xs, rfl, h2, _⟩ := h
    rcases h2 with (h | ⟨o, h⟩) | ⟨o, its, n, h, c, _⟩
    · exact .base (.tup h)
    · exact .fTuple h
    · exact .kTuple h c
  | .lst ds, v, h => by
    unfold Im at h
    obtain ⟨a, xs, rfl, h2, _⟩ := h
    rcases h2 with (h | ⟨o, h⟩) | ⟨o, its, n, h, c, _⟩
    · exact .base (.lst h)
    · exact .base (.frz h)
    · exact .kList h c
def isInt : D → Bool | .int _ => true | .bl _ => true | _ => false
def isBool : D → Bool | .bl _ => true | _ => false
def isTup : D → Bool | .tup _ => true | _ => false
def isLst : D → Bool | .lst _ => true | _ => false
def isStr : D → Bool | .str _ => true | _ => false
theorem kit_int : ∀ d : D, kitB (tyD d) "int" = some (isInt d)
  | .non => (by decide +kernel : kitB "NoneType" "int" = some false)
  | .bl _ => (by decide +kernel : kitB "bool" "int" = some true)
  | .int _ => (by decide +kernel : kitB "int" "int" = some true)
  | .str _ => (by decide +kernel : kitB "str" "int" = some false)
  | .tup _ => (by decide +kernel : kitB "tuple" "int" = some false)
  | .lst _ => (by decide +kernel : kitB "list" "int" = some false)
theorem kit_bool : ∀ d : D, kitB (tyD d) "bool" = some (isBool d)
  | .non => (by decide +kernel : kitB "NoneType" "bool" = some false)
  | .bl _ => (by decide +kernel : kitB "bool" "bool" = some true)
  | .int _ => (by decide +kernel : kitB "int" "bool" = some false)
  | .str _ => (by decide +kernel : kitB "str" "bool" = some false)
  | .tup _ => (by decide +kernel : kitB "tuple" "bool" = some false)
  | .lst _ => (by decide +kernel : kitB "list" "bool" = some false)
theorem kit_tuple : ∀ d : D, kitB (tyD d) "tuple" = some (isTup d)
  | .non => (by decide +kernel : kitB "NoneType" "tuple" = some false)
  | .bl _ => (by decide +kernel : kitB "bool" "tuple" = some false)
  | .int _ => (by decide +kernel : kitB "int" "tuple" = some false)
  | .str _ => (by decide +kernel : kitB "str" "tuple" = some false)
  | .tup _ => (by decide +kernel : kitB "tuple" "tuple" = some true)
  | .lst _ => (by decide +kernel : kitB "list" "tuple" = some false)
theorem kit_list : ∀ d : D, kitB (tyD d) "list" = some (isLst d)
  | .non => (by decide +kernel : kitB "NoneType" "list" = some false)
  | .bl _ => (by decide +kernel : kitB "bool" "list" = some false)
  | .int _ => (by decide +kernel : kitB "int" "list" = some false)
  | .str _ => (by decide +kernel : kitB "str" "list" = some false)
  | .tup _ => (by decide +kernel : kitB "tuple" "list" = some false)
  | .lst _ => (by decide +kernel : kitB "list" "list" = some true)
theorem kit_str : ∀ d : D, kitB (tyD d) "str" = some (isStr d)
  | .non => (by decide +kernel : kitB "NoneType" "str" = some false)
  | .bl _ => (by decide +kernel : kitB "bool" "str" = some false)
  | .int _ => (by decide +kernel : kitB "int" "str" = some false)
  | .str _ => (by decide +kernel : kitB "str" "str" = some true)
  | .tup _ => (by decide +kernel : kitB "tuple" "str" = some false)
  | .lst _ => (by decide +kernel : kitB "list" "str" = some false)
theorem rd_int {K : PySem.W.Frag} {H : Hp} {d : D} {v : V} {Q : VK} (h : Im K H d v) (q : Q (.bl (isInt d)) H) : rIsi K [v, .ty "int"] H Q :=
  ⟨v, .ty "int", _, _, _, rfl, .ty _, h.ty, kit_ty (kit_int d), q⟩
theorem rd_bool {K : PySem.W.Frag} {H : Hp} {d : D} {v : V} {Q : VK} (h : Im K H d v) (q : Q (.bl (isBool d)) H) : rIsi K [v, .ty "bool"] H Q :=
  ⟨v, .ty "bool", _, _, _, rfl, .ty _, h.ty, kit_ty (kit_bool d), q⟩
theorem rd_tuple {K : PySem.W.Frag} {H : Hp} {d : D} {v : V} {Q : VK} (h : Im K H d v) (q : Q (.bl (isTup d)) H) : rIsi K [v, .ty "tuple"] H Q :=
  ⟨v, .ty "tuple", _, _, _, rfl, .ty _, h.ty, kit_ty (kit_tuple d), q⟩
theorem rd_list {K : PySem.W.Frag} {H : Hp} {d : D} {v : V} {Q : VK} (h : Im K H d v) (q : Q (.bl (isLst d)) H) : rIsi K [v, .ty "list"] H Q :=
  ⟨v, .ty "list", _, _, _, rfl, .ty _, h.ty, kit_ty (kit_list d), q⟩
theorem rd_str {K : PySem.W.Frag} {H : Hp} {d : D} {v : V} {Q : VK} (h : Im K H d v) (q : Q (.bl (isStr d)) H) : rIsi K [v, .ty "str"] H Q :=
  ⟨v, .ty "str", _, _, _, rfl, .ty _, h.ty, kit_ty (kit_str d), q⟩
end Mk

/-! ### MkC -/
set_option Elab.async false
set_option linter.all false
set_option maxRecDepth 100000
set_option maxHeartbeats 4000000
namespace Mk
open PySem PySem.Spec PyProof.Rows L2
section
variable {K : PySem.W.Frag} {D' : Ends} {σ : L2.St} {H : Hp} {Q : VK} {QB : Bool → Hp → Prop} {te ta tb tc : TE} {t u : TT} {ts tz : TS} {i : Nat} {v : V}
theorem c_ret (h : te σ H D'.rt) : tRet te D' σ H := h
theorem c_retN (h : D'.rt .non H) : tRetN D' σ H := h
theorem c_seq (h : ts { D' with nx := tz D' } σ H) : tSeq ts tz D' σ H := h
theorem c_set (h : te σ H fun x H1 => D'.nx (σ.set i (some x)) H1) : tAsg te (gName i) D' σ H := h
theorem c_asg {g : TG} (h : te σ H fun x H1 => g x σ H1 D'.nx) : tAsg te g D' σ H := h
theorem c_aug {ti : TIp} {x : V} (e : σ[i]? = some (some x)) (h : te σ H fun y H1 => ti x y H1 fun z H2 => D'.nx (σ.set i (some z)) H2) : tAug i te ti D' σ H := ⟨x, e, h⟩
theorem v_un {g : Int → V} {a : Int} (ha : ∀ Q : VK, Q (.int a) H → ta σ H Q) : ∀ Q : VK, Q (g a) H → tUn (rU g) ta σ H Q := fun Q q => ha _ ⟨a, rfl, q⟩
theorem c_drop (h : te σ H fun _ H1 => D'.nx σ H1) : tDrop te D' σ H := h
theorem c_if (h : t σ H fun b H1 => if b = true then ts D' σ H1 else tz D' σ H1) : tIfS t ts tz D' σ H := h
theorem c_next (h : D'.nx σ H) : tNext D' σ H := h
theorem c_var (h : σ[i]? = some (some v)) (q : Q v H) : tVar i σ H Q := ⟨v, h, q⟩
theorem c_c (q : Q v H) : tC v σ H Q := q
theorem c_not (h : t σ H fun c H1 => QB (!c) H1) : tNot t σ H QB := h
theorem c_or (h : t σ H fun c H1 => if c = true then QB true H1 else u σ H1 QB) : tOr t u σ H QB := h
theorem c_and (h : t σ H fun c H1 => if c = true then u σ H1 QB else QB false H1) : tAnd t u σ H QB := h
theorem c_B (h : te σ H fun x H1 => ∃ c, x = .bl c ∧ QB c H1) : tB te σ H QB := h
theorem c_test (h : te σ H fun x H1 => ∃ c, x = .bl c ∧ QB c H1) : tTest te σ H QB := h
theorem c_op {r : R2} (h : ta σ H fun x H1 => tb σ H1 fun y H2 => r x y H2 Q) : tOp r ta tb σ H Q := h
theorem c_call {sp : Sp} {dvs : List V} {E : XK} {tl : TA} (h : tl σ H fun vs H1 => sp (vs ++ dvs) H1 Q E) : tCall sp dvs E tl σ H Q := h
theorem c_cons {tr : TA} {QL : List V → Hp → Prop} (h : ta σ H fun x H1 => tr σ H1 fun xs H2 => QL (x :: xs) H2) : tCons ta tr σ H QL := h
theorem c_nil {QL : List V → Hp → Prop} (h : QL [] H) : tNil σ H QL := h
theorem c_andV (h : ta σ H fun x H1 => ∃ c, x = .bl c ∧ if c = true then tb σ H1 Q else Q (.bl false) H1) : tAndV ta tb σ H Q := h
theorem c_orV (h : ta σ H fun x H1 => ∃ c, x = .bl c ∧ if c = true then Q (.bl true) H1 else tb σ H1 Q) : tOrV ta tb σ H Q := h
theorem c_notV (h : ta σ H fun x H1 => ∃ c, x = .bl c ∧ Q (.bl (!c)) H1) : tNotV ta σ H Q := h
theorem c_ifE (h : t σ H fun c H1 => if c = true then ta σ H1 Q else tb σ H1 Q) : tIf t ta tb σ H Q := h
/-! ### whole forms -/
theorem c_isInt {d : D} (e : σ[i]? = some (some v)) (hd : Im K H d v) (q : Q (.bl (isInt d)) H) : tCB (rIsi K) (tCons (tVar i) (tCons (tC (.ty "int")) tNil)) σ H Q := ⟨v, e, (rd_int hd q : rIsi K [v, .ty "int"] H Q)⟩
theorem c_isBool {d : D} (e : σ[i]? = some (some v)) (hd : Im K H d v) (q : Q (.bl (isBool d)) H) : tCB (rIsi K) (tCons (tVar i) (tCons (tC (.ty "bool")) tNil)) σ H Q := ⟨v, e, (rd_bool hd q : rIsi K [v, .ty "bool"] H Q)⟩
theorem c_isTup {d : D} (e : σ[i]? = some (some v)) (hd : Im K H d v) (q : Q (.bl (isTup d)) H) : tCB (rIsi K) (tCons (tVar i) (tCons (tC (.ty "tuple")) tNil)) σ H Q := ⟨v, e, (rd_tuple hd q : rIsi K [v, .ty "tuple"] H Q)⟩
theorem c_isLst {d : D} (e : σ[i]? = some (some v)) (hd : Im K H d v) (q : Q (.bl (isLst d)) H) : tCB (rIsi K) (tCons (tVar i) (tCons (tC (.ty "list")) tNil)) σ H Q := ⟨v, e, (rd_list hd q : rIsi K [v, .ty "list"] H Q)⟩
theorem c_isStr {d : D} (e : σ[i]? = some (some v)) (hd : Im K H d v) (q : Q (.bl (isStr d)) H) : tCB (rIsi K) (tCons (tVar i) (tCons (tC (.ty "str")) tNil)) σ H Q := ⟨v, e, (rd_str hd q : rIsi K [v, .ty "str"] H Q)⟩
/-- a <= b <= c, of ints that are known -/
theorem c_chain {a b c : Int} (ha : ∀ Q : VK, Q (.int a) H → ta σ H Q) (hb : ∀ Q : VK, Q (.int b) H → tb σ H Q) (hc : ∀ Q : VK, Q (.int c) H → tc σ H Q) (q : Q (.bl (decide (a ≤ b) && decide (b ≤ c))) H) :
    tChain (rI0 fun i j => .bl (decide (i ≤ j))) (rI0 fun i j => .bl (decide (i ≤ j))) ta tb tc σ H Q := by
  refine ha _ (hb _ ⟨a, b, rfl, rfl, _, rfl, ?_⟩)
  cases h1 : decide (a ≤ b) with
  | true =>
    refine iteT (hc _ ⟨b, c, rfl, rfl, ?_⟩)
    rw [h1] at q
    exact q
  | false =>
    refine iteF ?_
    rw [h1] at q
    exact q
theorem v_var {v : V} (e : σ[i]? = some (some v)) : ∀ Q : VK, Q v H → tVar i σ H Q := fun _ q => ⟨v, e, q⟩
theorem v_c {v : V} : ∀ Q : VK, Q v H → tC v σ H Q := fun _ q => q
/-- len of a list or a tuple -/
abbrev rLenQ (K : PySem.W.Frag) : List V → Hp → VK → Prop := fun xs H Q => ∃ p ys, xs = [.ref p] ∧ (SqL K H p ys ∨ SqT K H p ys) ∧ Q (.int ys.length) H
theorem v_len {a : Addr} {xs : List V} (ha : ∀ Q : VK, Q (.ref a) H → ta σ H Q) (h : SqL K H a xs ∨ SqT K H a xs) : ∀ Q : VK, Q (.int xs.length) H → tCB (rLenQ K) (tCons ta tNil) σ H Q := fun Q q => ha _ (show rLenQ K [.ref a] H Q from ⟨a, xs, rfl, h, q⟩)
/-- e[i] -/
theorem v_ixT {a : Addr} {xs : List V} {j : Int} {v : V} (ha : ∀ Q : VK, Q (.ref a) H → ta σ H Q) (hb : ∀ Q : VK, Q (.int j) H → tb σ H Q) (h : SqT K H a xs) (e : atI xs j = some v) : ∀ Q : VK, Q v H → tOp (rIxT K) ta tb σ H Q := fun Q q =>
  ha _ (hb _ ⟨a, xs, j, v, rfl, rfl, h, e, q⟩)
theorem v_ixL {a : Addr} {xs : List V} {j : Int} {v : V} (ha : ∀ Q : VK, Q (.ref a) H → ta σ H Q) (hb : ∀ Q : VK, Q (.int j) H → tb σ H Q) (h : SqL K H a xs) (e : atI xs j = some v) : ∀ Q : VK, Q v H → tOp (rIxL K) ta tb σ H Q := fun Q q =>
  ha _ (hb _ ⟨a, xs, j, v, rfl, rfl, h, e, q⟩)
theorem v_op0 {g : Int → Int → V} {a b : Int} (ha : ∀ Q : VK, Q (.int a) H → ta σ H Q) (hb : ∀ Q : VK, Q (.int b) H → tb σ H Q) : ∀ Q : VK, Q (g a b) H → tOp (rI0 g) ta tb σ H Q := fun Q q =>
  ha _ (hb _ ⟨a, b, rfl, rfl, q⟩)
theorem v_opb {g : Int → Int → Bool} {a b : Int} (ha : ∀ Q : VK, Q (.int a) H → ta σ H Q) (hb : ∀ Q : VK, Q (.int b) H → tb σ H Q) : ∀ Q : VK, Q (.bl (g a b)) H → tOp (rI0 fun i j => .bl (g i j)) ta tb σ H Q := fun Q q =>
  ha _ (hb _ ⟨a, b, rfl, rfl, q⟩)
theorem v_eq {x y : V} (ha : ∀ Q : VK, Q x H → ta σ H Q) (hb : ∀ Q : VK, Q y H → tb σ H Q) (hs : scal x y = true) : ∀ Q : VK, Q (.bl (decide (x = y))) H → tOp rEq ta tb σ H Q := fun Q q =>
  ha _ (hb _ ⟨hs, q⟩)
theorem v_ne {x y : V} (ha : ∀ Q : VK, Q x H → ta σ H Q) (hb : ∀ Q : VK, Q y H → tb σ H Q) (hs : scal x y = true) : ∀ Q : VK, Q (.bl (!decide (x = y))) H → tOp rNe ta tb σ H Q := fun Q q =>
  ha _ (hb _ ⟨hs, q⟩)
/-- the argument list -/
theorem va_cons {tr : TA} {x : V} {xs : List V} (ha : ∀ Q : VK, Q x H → ta σ H Q) (hr : ∀ Q : List V → Hp → Prop, Q xs H → tr σ H Q) : ∀ Q : List V → Hp → Prop, Q (x :: xs) H → tCons ta tr σ H Q := fun Q q => ha _ (hr _ q)
theorem va_nil : ∀ Q : List V → Hp → Prop, Q [] H → tNil σ H Q := fun Q q => q
theorem c_callv {sp : Sp} {dvs : List V} {E : XK} {tl : TA} {xs : List V} (h : ∀ Q : List V → Hp → Prop, Q xs H → tl σ H Q) (q : sp (xs ++ dvs) H Q E) : tCall sp dvs E tl σ H Q := h _ q
theorem c_v {x : V} (h : ∀ Q : VK, Q x H → te σ H Q) (q : Q x H) : te σ H Q := h Q q
/-- a test of a known bool -/
theorem c_testv {b : Bool} (h : ∀ Q : VK, Q (.bl b) H → te σ H Q) (q : QB b H) : tTest te σ H QB := h _ ⟨b, rfl, q⟩
theorem c_Bv {b : Bool} (h : ∀ Q : VK, Q (.bl b) H → te σ H Q) (q : QB b H) : tB te σ H QB := h _ ⟨b, rfl, q⟩
end
end Mk

/-! ### MkDa -/
set_option Elab.async false
set_option linter.all false
set_option maxRecDepth 100000
set_option maxHeartbeats 4000000
/-! dicts whose keys are tuples of ints, bools, None, tuples of these (no texts), of any depth up to 8 -/
namespace Mk
open PySem PySem.Spec PyProof.Rows L2
mutual
/-- the value v is the key k -/
inductive NkV (K : PySem.W.Frag) (H : Hp) : NestedKey → V → Prop
  | non : NkV K H .none .non
  | num (i : Int) : NkV K H (.num i) (.int i)
  | bl (b : Bool) : NkV K H (.num (if b = true then 1 else 0)) (.bl b)
  | text (x : Str) : NkV K H (.text x) (.str x)
  | tup {a : Addr} {vs : List V} {ks : List NestedKey} : SqT K H a vs → NkA K H ks vs → NkV K H (.tup ks) (.ref a)
inductive NkA (K : PySem.W.Frag) (H : Hp) : List NestedKey → List V → Prop
  | nil : NkA K H [] []
  | cons {k : NestedKey} {v : V} {ks : List NestedKey} {vs : List V} : NkV K H k v → NkA K H ks vs → NkA K H (k :: ks) (v :: vs)
end
mutual
theorem NkV.mono {K : PySem.W.Frag} {H H' : Hp} (t : ∀ a xs, SqT K H a xs → SqT K H' a xs) : ∀ {k : NestedKey} {v : V}, NkV K H k v → NkV K H' k v
  | _, _, .non => .non
  | _, _, .num i => .num i
  | _, _, .bl b => .bl b
  | _, _, .text x => .text x
  | _, _, .tup q h => .tup (t _ _ q) (NkA.mono t h)
theorem NkA.mono {K : PySem.W.Frag} {H H' : Hp} (t : ∀ a xs, SqT K H a xs → SqT K H' a xs) : ∀ {k : List NestedKey} {v : List V}, NkA K H k v → NkA K H' k v
  | _, _, .nil => .nil
  | _, _, .cons h r => .cons (NkV.mono t h) (NkA.mono t r)
end
section
variable {X : Cx} {pins : List (Addr × Obj)} {σ : L2.St} {H : Hp} {s : Shared}
mutual
theorem nk_is (I : Inv X pins σ H s) : ∀ {k : NestedKey} {v : V} {u : Value}, NkV X.K H k v → RelV v u → NestedIs s.heap k u
  | _, _, u, .non, r => by
    have e : u = .none := r
    subst e
    exact .none
  | _, _, u, .num i, r => by
    obtain ⟨t, rfl⟩ := (show ∃ t, u = .int i t from r)
    exact .int i t
  | _, _, u, .bl b, r => by
    have e : u = .bool b := r
    subst e
    exact .bool rfl
  | _, _, u, .text x, r => by
    obtain ⟨t, rfl⟩ := (show ∃ t, u = .str x t from r)
    exact .text x t
  | _, _, u, .tup q h, r => by
    cases r
    obtain ⟨its, rv, ⟨o, ho, hc, n, hd⟩, _⟩ := I.tuple q
    exact .tup ho hc hd (nk_all I h rv)
theorem nk_all (I : Inv X pins σ H s) : ∀ {ks : List NestedKey} {vs : List V} {us : List Value}, NkA X.K H ks vs → Vals vs us → NestedAll s.heap ks us
  | _, _, _, .nil, r => by
    cases r
    exact .nil
  | _, _, _, .cons h t, r => by
    cases r with
    | cons r1 r2 => exact .cons (nk_is I h r1) (nk_all I t r2)
end
end
/-! ### the object -/
abbrev NdX := List (NestedKey × Addr × V)
abbrev NdR : NdX → List (NestedKey × Addr × Value) → Prop := Paired fun p q => p.1 = q.1 ∧ p.2.1 = q.2.1 ∧ RelV p.2.2 q.2.2
def NdF (w : World) (a : Addr) (xs : NdX) (h : Heap) : Prop := xs.length ≤ sizeLine ∧ (a == sysModules) = false ∧ ∃ ys : List (NestedKey × Addr × Value), NdR xs ys ∧ ∃ o es ep, h.get? a = some o ∧ o.ExactDict ∧ o.data = .dict es ep ∧
  (∀ P, es.toList = ys.map (entryOfKey (nestedKind P w))) ∧ (ys.map (·.1)).Nodup
def NdO (w : World) (a : Addr) (xs : NdX) : HO := .ext (NdF w a xs)
theorem nd_ok {P : Program} {w w2 : World} {H : Hp} {h : Heap} {a : Addr} {xs : NdX} (x : NdF w2 a xs h) : ObjOk P w H h a (NdO w2 a xs) := by
  refine ⟨x, ?_, fun h1 h2 y k => ?_⟩
  · obtain ⟨_, _, _, _, o, _, _, e, _⟩ := x
    exact ⟨o, e⟩
  · obtain ⟨z, hs, ys, r, o, es, ep, e, q⟩ := y
    exact ⟨z, hs, ys, r, o, es, ep, k _ e, q⟩
def ndAt (xs : NdX) (k : NestedKey) : Option V := (xs.find? fun x => decide (x.1 = k)).map (·.2.2)
def ndPutAt (k : NestedKey) (v : V) (x : NestedKey × Addr × V) : NestedKey × Addr × V := if x.1 = k then (x.1, x.2.1, v) else x
def ndPut (xs : NdX) (k : NestedKey) (a : Addr) (v : V) : NdX := if (ndAt xs k).isSome = true then xs.map (ndPutAt k v) else xs ++ [(k, a, v)]
theorem ndPut_len {xs : NdX} {k : NestedKey} {a : Addr} {v : V} : (ndPut xs k a v).length ≤ xs.length + 1 := by
  unfold ndPut
  split
  · rw [List.length_map]; omega
  · rw [List.length_append]; exact Nat.le_refl _
theorem ndPut_mem {xs : NdX} {k : NestedKey} {a : Addr} {v : V} {P : NestedKey → Addr → Prop} (h : ∀ x ∈ xs, P x.1 x.2.1) (hk : P k a) : ∀ x ∈ ndPut xs k a v, P x.1 x.2.1 := by
  unfold ndPut
  split
  · intro x hx
    obtain ⟨y, hy, rfl⟩ := List.mem_map.mp hx
    have := h y hy
    unfold ndPutAt
    split <;> exact this
  · intro x hx
    rcases List.mem_append.mp hx with hx | hx
    · exact h x hx
    · rw [List.mem_singleton.mp hx]; exact hk
theorem ndR_at : ∀ {xs : NdX} {ys : List (NestedKey × Addr × Value)}, NdR xs ys → ∀ k, RelO (ndAt xs k) ((atKey ys k).map (·.2))
  | _, _, .nil, k => trivial
  | _, _, .cons (a := p) (b := q) (l₁ := l) (l₂ := l2) h r, k => by
    have ih := ndR_at r k
    unfold ndAt atKey at ih ⊢
    rw [List.find?_cons, List.find?_cons, h.1]
    by_cases e : q.1 = k
    · rw [decide_eq_true e]
      exact h.2.2
    · rw [decide_eq_false e]
      exact ih
theorem ndR_map {k : NestedKey} {v : V} {u : Value} (hv : RelV v u) : ∀ {xs : NdX} {ys : List (NestedKey × Addr × Value)}, NdR xs ys → NdR (xs.map (ndPutAt k v)) (ys.map (putAt k u))
  | _, _, .nil => .nil
  | _, _, .cons (a := p) (b := q) h r => by
    refine .cons ?_ (ndR_map hv r)
    unfold ndPutAt putAt
    rw [h.1]
    by_cases e : q.1 = k
    · rw [if_pos e, if_pos e]; exact ⟨rfl, h.2.1, hv⟩
    · rw [if_neg e, if_neg e]; exact h
theorem ndR_app {v : V} {u : Value} {k : NestedKey} {a : Addr} (hv : RelV v u) : ∀ {xs : NdX} {ys : List (NestedKey × Addr × Value)}, NdR xs ys → NdR (xs ++ [(k, a, v)]) (ys ++ [(k, a, u)])
  | _, _, .nil => .cons ⟨rfl, rfl, hv⟩ .nil
  | _, _, .cons h r => .cons h (ndR_app hv r)
theorem ndR_put {xs : NdX} {ys : List (NestedKey × Addr × Value)} {k : NestedKey} {a : Addr} {v : V} {u : Value} (r : NdR xs ys) (hv : RelV v u) : NdR (ndPut xs k a v) (storedH ys k a u) := by
  have e := (ndR_at r k).isSome_eq
  rw [Option.isSome_map] at e
  unfold ndPut storedH
  rw [e]
  split
  · exact ndR_map hv r
  · exact ndR_app hv r
section
variable {X : Cx} {pins : List (Addr × Obj)} {σ : L2.St} {H : Hp} {s : Shared} {a : Addr} {xs : NdX}
/-- the keys are what they say -/
def NdK (K : PySem.W.Frag) (H : Hp) (xs : NdX) : Prop := ∀ x ∈ xs, NkV K H x.1 (.ref x.2.1) ∧ x.1.depth ≤ 8
/-- at a such a dict, or an empty one -/
def NdAt (w : World) (H : Hp) (a : Addr) (xs : NdX) : Prop := Rd H a (NdO w a xs) ∨ (xs = [] ∧ Rd H a (.dK []))
theorem nd_raw {w : World} (I : Inv X pins σ H s) (e : Rd H a (NdO w a xs)) : NdF w a xs s.heap := (rd_of I.hok e).1
theorem nd_dict (I : Inv X pins σ H s) (e : NdAt X.w H a xs) (hk : NdK X.K H xs) : xs.length ≤ sizeLine ∧ (a == sysModules) = false ∧ ∃ ys, NdR xs ys ∧ s.heap.DictOfH (nestedKind X.prog X.w) a ys := by
  rcases e with e | ⟨rfl, e⟩
  · obtain ⟨z, hs, ys, r, o, es, ep, ho, hx, hd, he, hn⟩ := nd_raw I e
    refine ⟨z, hs, ys, r, o, es, ep, ho, hx, hd, he _, fun y hy => ?_, hn⟩
    obtain ⟨i, hi⟩ := List.getElem?_of_mem hy
    have hlen : xs.length = ys.length := Paired.length r
    have hil : i < xs.length := by rw [hlen]; exact (List.getElem?_eq_some_iff.mp hi).1
    obtain ⟨b, hb, e1, e2, _⟩ := paired_get r (List.getElem?_eq_getElem hil)
    rw [hi] at hb
    cases hb
    have := hk _ (List.getElem_mem hil)
    rw [e1, e2] at this
    exact ⟨nk_is I this.1 rfl, this.2⟩
  · obtain ⟨z, hs, vs, rel, o, es, ep, ho, hx, hd, _, r⟩ := dk_rd I.hok e
    cases rel
    have l1 : es.toList.length = 0 := by have := r.1.length; simpa using this
    have e0 : es.toList = [] := List.length_eq_zero_iff.mp l1
    exact ⟨z, hs, [], .nil, o, es, ep, ho, hx, hd, e0, fun _ q => (nomatch q), List.nodup_nil⟩
end
end Mk

/-! ### MkDb -/
set_option Elab.async false
set_option linter.all false
set_option maxRecDepth 100000
set_option maxHeartbeats 4000000
namespace Mk
open PySem PySem.Spec PyProof.Rows L2
/-! ### looked up, put -/
def XGet (K : PySem.W.Frag) (w : World) (H : Hp) (a : Addr) (y : V) (r : Option V) : Prop :=
  DGet H a y r ∨ ∃ xs k b, NdAt w H a xs ∧ NdK K H xs ∧ y = .ref b ∧ NkV K H k (.ref b) ∧ k.depth ≤ 8 ∧ r = ndAt xs k
/-- there is such a dict, and it may be written -/
def NdW (w : World) (H : Hp) (a : Addr) (xs : NdX) : Prop := H a = some (NdO w a xs) ∨ (xs = [] ∧ H a = some (.dK []))
def XPut (K : PySem.W.Frag) (w : World) (H : Hp) (a : Addr) (y v : V) (H' : Hp) : Prop :=
  DPut H a y v H' ∨ ∃ xs k b, NdW w H a xs ∧ NdK K H xs ∧ y = .ref b ∧ NkV K H k (.ref b) ∧ k.depth ≤ 8 ∧ xs.length < sizeLine ∧ H' = upd H a (NdO w a (ndPut xs k b v))
theorem NdW.at {w : World} {H : Hp} {a : Addr} {xs : NdX} (x : NdW w H a xs) : NdAt w H a xs := x.elim (fun e => .inl (.inl e)) fun e => .inr ⟨e.1, .inl e.2⟩
theorem NdW.mut {w : World} {H : Hp} {a : Addr} {xs : NdX} (x : NdW w H a xs) : Mut (H a) := by
  rcases x with e | ⟨_, e⟩ <;> rw [e] <;> exact True.intro
section
variable {X : Cx} {pins : List (Addr × Obj)} {σ : L2.St} {H H' : Hp} {s : Shared} {a : Addr} {y v : V} {o : Option V} {u r : Value} {A : Around} {E : Value → Shared → Prop}
theorem nroom {P : Program} {w : World} (hu : A.units + 64 < cLine) : (nestedKind P w).room A.in1 := by
  show A.units + 1 + 8 < cLine
  omega
theorem x_getItem {Q : Value → Shared → Prop} (hu : A.units + 64 < cLine) (I : Inv X pins σ H s) (g : XGet X.K X.w H a y (some v)) (ry : RelV y u) (h : ∀ w' s', Inv X pins σ H s' → RelV v w' → Q w' s') :
    wpAny (model X.prog X.w) A (getItem (.ref a) u) Q E s := by
  rcases g with g | ⟨xs, k, b, e, hk, ey, nk, dp, l⟩
  · exact d_getItem (by omega) I g ry h
  · subst ey
    cases (show u = Value.ref b from ry)
    obtain ⟨z, hs, ys, rel, dd⟩ := nd_dict I e hk
    obtain ⟨w', hw, rw'⟩ := RelO.some_of (v := v) (o := (atKey ys k).map (·.2)) (by rw [l]; exact ndR_at rel k)
    obtain ⟨p, hp, hp2⟩ := Option.map_eq_some_iff.mp hw
    refine wpAny_getItem_heap (nroom hu) ⟨nk_is I nk rfl, dp⟩ dd hp ?_
    rw [hp2]
    exact h w' _ (I.tok _) rw'
theorem x_in {Q : Value → Shared → Prop} (hu : A.units + 64 < cLine) (I : Inv X pins σ H s) (g : XGet X.K X.w H a y o) (ry : RelV y u) (h : ∀ s', Inv X pins σ H s' → Q (.bool o.isSome) s') :
    wpAny (model X.prog X.w) A (compareOp .In u (.ref a)) Q E s := by
  rcases g with g | ⟨xs, k, b, e, hk, ey, nk, dp, l⟩
  · exact d_in (by omega) I g ry h
  · subst ey
    cases (show u = Value.ref b from ry)
    obtain ⟨z, hs, ys, rel, dd⟩ := nd_dict I e hk
    refine wpAny_in_heap (nroom hu) ⟨nk_is I nk rfl, dp⟩ hs dd ?_
    have q := (ndR_at rel k).isSome_eq
    rw [Option.isSome_map] at q
    rw [← q, ← l]
    exact h _ (I.tok _)
theorem x_notIn {Q : Value → Shared → Prop} (hu : A.units + 64 < cLine) (I : Inv X pins σ H s) (g : XGet X.K X.w H a y o) (ry : RelV y u) (h : ∀ s', Inv X pins σ H s' → Q (.bool (!o.isSome)) s') :
    wpAny (model X.prog X.w) A (compareOp .NotIn u (.ref a)) Q E s := by
  rcases g with g | ⟨xs, k, b, e, hk, ey, nk, dp, l⟩
  · exact d_notIn (by omega) I g ry h
  · subst ey
    cases (show u = Value.ref b from ry)
    obtain ⟨z, hs, ys, rel, dd⟩ := nd_dict I e hk
    refine wpAny_notIn_heap (nroom hu) ⟨nk_is I nk rfl, dp⟩ hs dd ?_
    have q := (ndR_at rel k).isSome_eq
    rw [Option.isSome_map] at q
    rw [← q, ← l]
    exact h _ (I.tok _)
/-- a put key: what the object is then -/
theorem nd_new {xs : NdX} {ys : List (NestedKey × Addr × Value)} {k : NestedKey} {b : Addr} {h' : Heap} (hz : xs.length < sizeLine) (hs : (a == sysModules) = false) (rel : NdR xs ys) (rv : RelV v r)
    (dd : h'.DictOfH (nestedKind X.prog X.w) a (storedH ys k b r)) : ObjOk X.prog X.w H' h' a (NdO X.w a (ndPut xs k b v)) := by
  obtain ⟨q, es, ep, hq, h2, h3, h4, _, h5⟩ := dd
  have rp := ndR_put (k := k) (a := b) rel rv
  exact nd_ok ⟨by have := ndPut_len (xs := xs) (k := k) (a := b) (v := v); omega, hs, _, rp, q, es, ep, hq, h2, h3, fun P => h4, h5⟩
theorem x_setItem {Q : Unit → Shared → Prop} (hu : A.units + 64 < cLine) (I : Inv X pins σ H s) (g : XPut X.K X.w H a y v H') (ry : RelV y u) (rv : RelV v r) (h : ∀ s', Inv X pins σ H' s' → Q () s') :
    wpAny (model X.prog X.w) A (setItem (.ref a) u r) Q E s := by
  rcases g with g | ⟨xs, k, b, e, hk, ey, nk, dp, hl, eH⟩
  · exact d_setItem (by omega) I g ry rv h
  · subst ey eH
    cases (show u = Value.ref b from ry)
    obtain ⟨z, hs, ys, rel, dd⟩ := nd_dict I e.at hk
    have hz : ys.length ≤ sizeLine := by rw [← Paired.length rel]; exact z
    refine wpAny_setItem_heap (hsz := hz) (nroom hu) ⟨nk_is I nk rfl, dp⟩ dd fun h' dd' hsb => h _ ?_
    have he : ∃ q, h'.get? a = some q := let ⟨q, _, _, hq, _⟩ := dd'; ⟨q, hq⟩
    exact d_write I e.mut hsb he (nd_new hl hs rel rv dd')
theorem x_setd {xs : NdX} {k : NestedKey} {b : Addr} {d : V} {Q : Value → Shared → Prop} (hu : A.units + 64 < cLine) (I : Inv X pins σ H s) (e : NdW X.w H a xs) (hk : NdK X.K H xs) (nk : NkV X.K H k (.ref b)) (dp : k.depth ≤ 8) (hl : xs.length < sizeLine) (rd : RelV d r)
    (h1 : ∀ v, ndAt xs k = some v → ∀ (w' : Value) (s' : Shared), Inv X pins σ H s' → RelV v w' → Q w' s') (h2 : ndAt xs k = none → ∀ (w' : Value) (s' : Shared), Inv X pins σ (upd H a (NdO X.w a (ndPut xs k b d))) s' → RelV d w' → Q w' s') :
    wpAny (model X.prog X.w) A (call (.builtin "dict.setdefault") [.ref a, .ref b, r]) Q E s := by
  obtain ⟨z, hs, ys, rel, dd⟩ := nd_dict I e.at hk
  have hz : ys.length ≤ sizeLine := by rw [← Paired.length rel]; exact z
  have q := ndR_at rel k
  refine call_setdefault_heap (hsz := hz) (nroom hu) ⟨nk_is I nk rfl, dp⟩ hs dd (fun p hp => ?_) (fun hn h' dd' hsb => ?_)
  · rw [hp] at q
    cases q0 : ndAt xs k with
    | none =>
      rw [q0] at q
      exact (show False from q).elim
    | some v0 =>
      rw [q0] at q
      exact h1 v0 q0 _ _ (I.tok _) q
  · rw [hn] at q
    cases q0 : ndAt xs k with
    | some v0 =>
      rw [q0] at q
      exact (show False from q).elim
    | none =>
      have he : ∃ q, h'.get? a = some q := let ⟨q, _, _, hq, _⟩ := dd'; ⟨q, hq⟩
      exact h2 q0 _ _ (d_write I e.mut hsb he (nd_new hl hs rel rd dd')) rd
/-- len(d) -/
theorem x_len {w : World} {xs : NdX} {Q : Value → Shared → Prop} (I : Inv X pins σ H s) (e : Rd H a (NdO w a xs)) (h : ∀ t s', Inv X pins σ H s' → Q (.int xs.length t) s') : wpAny (model X.prog X.w) A (call (.builtin "len") [.ref a]) Q E s := by
  obtain ⟨z, hs, ys, r, ob, es, ep, ho, hx, hd, he, hn⟩ := nd_raw I e
  have hr : s.heap.DictRaw a es ep := ⟨ob, ho, hx, hd⟩
  have l1 : es.size = xs.length := by rw [size_of_entries (he X.prog), Paired.length r]
  refine PyProof.Rows.call_len_slot (n := es.size) hr.typeIs PySem.F.slot_dict_len (fun Q' hq => call_len_raw hs hr hq) (by rw [l1]; omega) (by rw [l1]; rw [sizeLine_eq] at z; omega) ?_
  rw [l1]
  exact h _ _ (I.tok _)
end
end Mk

/-! ### MkDc -/
set_option Elab.async false
set_option linter.all false
set_option maxRecDepth 100000
set_option maxHeartbeats 4000000
namespace Mk
open PySem PySem.Spec PyProof.Rows L2
/-! ### readings of d[k], k in d, d[k] = v, d.setdefault(k, v), len(d) -/
def XIs (H : Hp) (a : Addr) : Prop := IsD H a ∨ ∃ w xs, Rd H a (NdO w a xs)
theorem xis_at {X : Cx} {pins : List (Addr × Obj)} {σ : L2.St} {H : Hp} {s : Shared} {a : Addr} (I : Inv X pins σ H s) (d : XIs H a) :
    s.TypeIs (.ref a) "dict" ∧ ∀ b, Value.ref a = .ref b → ∃ ob, s.heap.get? b = some ob ∧ ob.dict = none := by
  rcases d with d | ⟨w, xs, e⟩
  · exact ⟨(isD_at I d).1, (isD_at I d).2.1⟩
  · obtain ⟨_, _, _, _, o, _, _, ho, hx, _⟩ := nd_raw I e
    exact ⟨⟨o, ho, hx.1⟩, fun b q => by cases q; exact ⟨o, ho, hx.2.1⟩⟩
theorem XGet.is {K : PySem.W.Frag} {w : World} {H : Hp} {a : Addr} {y : V} {o : Option V} (g : XGet K w H a y o) : XIs H a := by
  rcases g with (⟨kvs, k, e, _⟩ | ⟨kvs, k, b, e, _⟩) | ⟨xs, k, b, e | ⟨_, e⟩, _⟩
  · exact .inl (.inl ⟨kvs, e⟩)
  · exact .inl (.inr ⟨kvs, e⟩)
  · exact .inr ⟨w, xs, e⟩
  · exact .inl (.inl ⟨_, e⟩)
def tXGet (K : PySem.W.Frag) (w : World) (td ty : TE) : TE := fun σ H Q => td σ H fun x H1 => ty σ H1 fun y H2 => ∃ a v, x = .ref a ∧ XGet K w H2 a y (some v) ∧ Q v H2
def tXIn (K : PySem.W.Frag) (w : World) (ty td : TE) : TE := fun σ H Q => ty σ H fun y H1 => td σ H1 fun x H2 => ∃ a o, x = .ref a ∧ XGet K w H2 a y o ∧ Q (.bl o.isSome) H2
def tXNotIn (K : PySem.W.Frag) (w : World) (ty td : TE) : TE := fun σ H Q => ty σ H fun y H1 => td σ H1 fun x H2 => ∃ a o, x = .ref a ∧ XGet K w H2 a y o ∧ Q (.bl (!o.isSome)) H2
def sXPut (K : PySem.W.Frag) (w : World) (td ty tv : TE) : TS := fun D σ H => tv σ H fun v H1 => td σ H1 fun x H2 => ty σ H2 fun y H3 => ∃ a H4, x = .ref a ∧ XPut K w H3 a y v H4 ∧ D.nx σ H4
def tXSetd (K : PySem.W.Frag) (w : World) (td ty tx : TE) : TE := fun σ H Q => td σ H fun x H1 => ∃ a, x = .ref a ∧ XIs H1 a ∧ ty σ H1 fun y H2 => tx σ H2 fun z H3 =>
  (∃ (kvs : List (Key × V)) (k : Key), H3 a = some (.dK kvs) ∧ y = kV k ∧ kvs.length < sizeLine ∧ (∀ v, valV kvs k = some v → Q v H3) ∧ (valV kvs k = none → Q z (upd H3 a (.dK (putK kvs k z))))) ∨
  ∃ xs k b, NdW w H3 a xs ∧ NdK K H3 xs ∧ y = .ref b ∧ NkV K H3 k (.ref b) ∧ k.depth ≤ 8 ∧ xs.length < sizeLine ∧ (∀ v, ndAt xs k = some v → Q v H3) ∧ (ndAt xs k = none → Q z (upd H3 a (NdO w a (ndPut xs k b z))))
def rLenX : List V → Hp → VK → Prop := fun xs H Q => ∃ a, xs = [.ref a] ∧ ((∃ kvs, Rd H a (.dK kvs) ∧ Q (.int kvs.length) H) ∨ ∃ w ys, Rd H a (NdO w a ys) ∧ Q (.int ys.length) H)
section
variable {X : Cx} {o i e f value : Expr} {pos pos' tpos apos cpos : Pos} {td ty tv tx : TE}
theorem pe_xget (hu : X.A.units + 64 < cLine) (ho : PE X o td) (hi : PE X i ty) (hs : NoSl i) : PE X (.Subscript o i pos) (tXGet X.K X.w td ty) := by
  refine ⟨fun pins s σ H Q I h => ?_⟩
  refine subD_of PySem.F.slot_dict_getitem.lookup hs (thn (ho.run pins s σ H _ I h) fun u s1 ⟨x, H1, I1, rx, q1⟩ => thn (hi.run pins s1 σ H1 _ I1 q1) fun iv s2 ⟨y, H2, I2, ry, a, v, ex, g, q2⟩ => ?_)
  subst ex
  obtain rfl : u = Value.ref a := rx
  exact ⟨(xis_at I2 g.is).1, x_getItem hu I2 g ry fun w' s3 I3 rw' => ⟨v, H2, I3, rw', q2⟩⟩
theorem pc_xin (hu : X.A.units + 64 < cLine) (hi : PE X i ty) (ho : PE X o td) : PC X .In i o (tXIn X.K X.w ty td) := by
  refine ⟨fun pins s σ H Q I h => ?_⟩
  refine thn (hi.run pins s σ H _ I h) fun iv s1 ⟨y, H1, I1, ry, q1⟩ => thn (ho.run pins s1 σ H1 _ I1 q1) fun u s2 ⟨x, H2, I2, rx, a, ov, ex, g, q2⟩ => ?_
  subst ex
  obtain rfl : u = Value.ref a := rx
  exact x_in hu I2 g ry fun s3 I3 => ⟨.bl ov.isSome, H2, I3, rfl, q2⟩
theorem pc_xnotin (hu : X.A.units + 64 < cLine) (hi : PE X i ty) (ho : PE X o td) : PC X .NotIn i o (tXNotIn X.K X.w ty td) := by
  refine ⟨fun pins s σ H Q I h => ?_⟩
  refine thn (hi.run pins s σ H _ I h) fun iv s1 ⟨y, H1, I1, ry, q1⟩ => thn (ho.run pins s1 σ H1 _ I1 q1) fun u s2 ⟨x, H2, I2, rx, a, ov, ex, g, q2⟩ => ?_
  subst ex
  obtain rfl : u = Value.ref a := rx
  exact x_notIn hu I2 g ry fun s3 I3 => ⟨.bl (!ov.isSome), H2, I3, rfl, q2⟩
theorem ps_xput (hu : X.A.units + 64 < cLine) (ho : PE X o td) (hi : PE X i ty) (hv : PE X value tv) (hs : swapsWith value (some (.Subscript o i pos')) pos.line X.env = pure false) :
    PS X (.Assign [.Subscript o i pos'] value pos) (sXPut X.K X.w td ty tv) := by
  refine ⟨fun pins s σ H D I h => ?_⟩
  refine wpAny_Assign_Subscript (thn (hv.run pins s σ H _ I h) fun r s1 ⟨v, H1, I1, rv, q1⟩ => thn (ho.run pins s1 σ H1 _ I1 q1) fun u s2 ⟨x, H2, I2, rx, q2⟩ => thn (hi.run pins s2 σ H2 _ I2 q2) fun iv s3 ⟨y, H3, I3, ry, a, H4, ex, g, q3⟩ => ?_) hs
  subst ex
  obtain rfl : u = Value.ref a := rx
  exact x_setItem hu I3 g ry rv fun s4 I4 => ⟨σ, H4, I4, q3⟩
theorem pe_xsetd (hu : X.A.units + 64 < cLine) (ho : PE X o td) (he : PE X e ty) (hf : PE X f tx) (m : M2 X o "setdefault" apos e f cpos) : PE X (.Call (.Attribute o "setdefault" apos) [e, f] [] cpos) (tXSetd X.K X.w td ty tx) := by
  refine ⟨fun pins s σ H Q I h => ?_⟩
  refine wpAny_Call_method m.base m.few m.line PySem.F.plainAttrs_dict PySem.F.slot_dict_setdefault PySem.F.type_dict_setdefault (thn (ho.run pins s σ H _ I h) fun u s1 ⟨x, H1, I1, rx, a, ex, d, q1⟩ => ?_)
  subst ex
  obtain rfl : u = Value.ref a := rx
  refine ⟨(xis_at I1 d).1, (xis_at I1 d).2, ?_⟩
  rw [m.trees]
  refine Calls.callWith_builtin rfl (Calls.evalArgs_plain (Calls.spliced_cons (thn (he.run pins s1 σ H1 _ I1 q1) fun iv s2 ⟨y, H2, I2, ry, q2⟩ =>
    Calls.spliced_cons (thn (hf.run pins s2 σ H2 _ I2 q2) fun fv s3 ⟨z, H3, I3, rz, q3⟩ => Calls.spliced_nil ?_))))
  rcases q3 with ⟨kvs, k, ea, ey, hl, q3, q4⟩ | ⟨xs, k, b, w, hk, ey, nk, dp, hl, q3, q4⟩
  · subst ey
    exact d_setd I3 ea ry rz hl (fun v hv w' s4 I4 rw' => ⟨v, _, I4, rw', q3 v hv⟩) fun hn w' s4 I4 rw' => ⟨z, _, I4, rw', q4 hn⟩
  · subst ey
    cases (show iv = Value.ref b from ry)
    exact x_setd hu I3 w hk nk dp hl rz (fun v hv w' s4 I4 rw' => ⟨v, _, I4, rw', q3 v hv⟩) fun hn w' s4 I4 rw' => ⟨z, _, I4, rw', q4 hn⟩
theorem call_lenX : CallR X (.builtin "len") rLenX := by
  intro pins s σ H xs us Q I r h
  obtain ⟨a, rfl, h⟩ := h
  obtain ⟨u, rfl, ru⟩ := r.one
  cases ru
  rcases h with ⟨kvs, e, q⟩ | ⟨w, ys, e, q⟩
  · exact d_len I e fun t s' I' => ⟨.int kvs.length, H, I', ⟨t, rfl⟩, q⟩
  · exact x_len I e fun t s' I' => ⟨.int ys.length, H, I', ⟨t, rfl⟩, q⟩
end
/-! ### for k in d: the dict is locked -/
theorem frzN {X : Cx} {w : World} {pins : List (Addr × Obj)} {σ : L2.St} {H : Hp} {s : Shared} {d : Addr} {o : Obj} {xs : NdX} (I : Inv X pins σ H s) (h : H d = some (.frz o (NdO w d xs))) :
    (d == sysModules) = false ∧ s.heap.get? d = some o ∧ o.ExactDict ∧ ∃ (es : Array DictEntry) (ep : Nat), o.data = .dict es ep ∧ es.size = xs.length ∧
      ∀ (i : Nat) (x : NestedKey × Addr × V), xs[i]? = some x → ∃ en : DictEntry, es[i]? = some en ∧ en.key = .ref x.2.1 := by
  obtain ⟨hd, x⟩ := I.hok d _ h
  obtain ⟨z, hs, ys, r, ob, es, ep, ho, hx, hdt, he, hn⟩ : NdF w d xs s.heap := x.1
  rw [hd] at ho
  cases ho
  have l1 : es.size = ys.length := size_of_entries (he X.prog)
  refine ⟨hs, hd, hx, es, ep, hdt, l1.trans (Paired.length r).symm, fun i x e => ?_⟩
  obtain ⟨b, hb, _, e2, _⟩ := paired_get r e
  have q := entry_at (he X.prog) i
  rw [hb] at q
  exact ⟨_, q, by rw [e2]; rfl⟩
def Itn (w : World) (d : Addr) (o : Obj) (xs : NdX) : It :=
  ⟨fun i H => H d = some (.frz o (NdO w d xs)) ∧ i < xs.length, fun i H x H' => H' = H ∧ ∃ y, xs[i]? = some y ∧ x = .ref y.2.1, fun i H => H d = some (.frz o (NdO w d xs)) ∧ xs.length ≤ i⟩
theorem turn_keysN {P : Program} {w w2 : World} {K : PySem.W.Frag} {tg : Expr} {d : Addr} {o : Obj} {es : Array DictEntry} {ep : Nat} {xs : NdX} (it : Addr) (hod : o.data = .dict es ep) :
    Turn P w K tg (Itn w2 d o xs) [it] it (fun i h => h.IsKeyIter it d i xs.length ep) where
  mem := List.mem_singleton.mpr rfl
  obj := fun i h st b hb => by
    obtain ⟨oi, e, c, dd⟩ := st
    rw [List.mem_singleton.mp hb]
    exact ⟨oi, e, fun v z => by rw [dd] at z; cases z⟩
  keep := fun i h h' st k => st.at fun oi e => k it (List.mem_singleton.mpr rfl) oi e
  item := by
    intro X hP hw hK hc i pins s σ H E I hf st hg
    subst hP hw hK
    obtain ⟨f0, f1, f2, f3, f4, f5⟩ := hf it (List.mem_singleton.mpr rfl)
    obtain ⟨hs, hgd, hx, es', ep', hdt, hsz, ent⟩ := frzN I hg.1
    obtain ⟨rfl, rfl⟩ := dict_ep hod hdt
    obtain ⟨en, hen, hkey⟩ := ent i _ (List.getElem?_eq_getElem hg.2)
    refine next_key_item st hgd hdt hsz hen fun h' st' sb => ?_
    have I1 : Inv X pins σ H { s with heap := h' } := I.turned (t' := s.toks) (fun b ob hb e => (sb.2 b hb).trans e) f0 f1 f3 f4 f5
    obtain ⟨oi, e, c, dd⟩ := id st'
    exact ⟨en.key, rfl, go_of (s := { s with heap := h' }) e c dd (by decide) ⟨.ref (xs[i]'hg.2).2.1, H, I1, hkey, ⟨rfl, _, List.getElem?_eq_getElem hg.2, rfl⟩, st', fun b hb => (hf b hb).1⟩⟩
  done := by
    intro X hP hw hK hc i pins s σ H E I hf st hg
    subst hP hw hK
    obtain ⟨f0, f1, f2, f3, f4, f5⟩ := hf it (List.mem_singleton.mpr rfl)
    obtain ⟨hs, hgd, hx, es', ep', hdt, hsz, ent⟩ := frzN I hg.1
    obtain ⟨rfl, rfl⟩ := dict_ep hod hdt
    exact next_key_end (I.ok.hd hc) st hgd hdt hsz hg.2 fun h' eb => ⟨rfl, I.turned (t' := s.toks) (fun b ob hb e => eb b ob hb e) f0 f1 f3 f4 f5⟩
  self := fun A i s Q E st h => wpAny_pyIter_keyiter st h
def iKeysX (td : TE) : TI := fun σ H R => td σ H fun x H1 => ∃ d o, x = .ref d ∧ ((∃ kvs, H1 d = some (.frz o (.dK kvs)) ∧ R (Itk d o kvs) H1) ∨ ∃ w xs, H1 d = some (.frz o (NdO w d xs)) ∧ R (Itn w d o xs) H1)
theorem pi_keysX {X : Cx} {tg e : Expr} {td : TE} (he : PE X e td) : PI X tg e (iKeysX td) := by
  refine ⟨fun pins s σ H R I h => ?_⟩
  refine thn (he.run pins s σ H _ I h) fun u s1 ⟨x, H1, I1, rx, d, o, ex, q⟩ => ?_
  subst ex
  obtain rfl : u = Value.ref d := rx
  rcases q with ⟨kvs, hd, q⟩ | ⟨w, xs, hd, q⟩
  · obtain ⟨hs, hgd, hx, es, ep, vs, hdt, hsz, kv, hm⟩ := I1.frzK hd
    refine iter_keys hs hgd hx hdt (pi_one (tk := s1.toks) I1 _ (turn_keys _ hdt) ⟨_, Heap.get?_push_size _ rfl, rfl, ?_⟩ q)
    rw [hsz]
    rfl
  · obtain ⟨hs, hgd, hx, es, ep, hdt, hsz, ent⟩ := frzN I1 hd
    refine iter_keys hs hgd hx hdt (pi_one (tk := s1.toks) I1 _ (turn_keysN _ hdt) ⟨_, Heap.get?_push_size _ rfl, rfl, ?_⟩ q)
    rw [hsz]
    rfl
end Mk

/-! ### MkX1 -/
set_option Elab.async false
set_option linter.all false
set_option maxRecDepth 100000
set_option maxHeartbeats 4000000
namespace Mx
open PySem PySem.Spec PyProof.Rows L2
open GxR (TabG Tabbed)
/-! ### values, objects, outcomes -/
/-- a value: plain, a tuple, or the n-th object -/
inductive A where
  | non | bl (b : Bool) | int (i : Int) | str (s : Str) | ty (n : String) | tup (l : List A) | ref (n : Nat)
/-- an object that may change; dr: the row of the draws -/
inductive Ob where
  | lst (l : List A) | ins (c : Nat) (fs : List (Str × A)) | dr
  /-- a dict, locked or not (while it is walked); a range -/
  | dct (lk : Bool) (kvs : List (A × A)) | rng (lo hi : Int)
abbrev Sto := List Ob
abbrev Ev := List (Option A)
/-- an error: its class's number, its field -/
abbrev Xc := Nat × Option (Str × A)
inductive R (α : Type) where
  | ok (a : α) | exc (x : Xc) (s : Sto) | fail | draw (n : Nat) (k : Nat → R α)
variable {α β : Type}
def R.bind : R α → (α → R β) → R β
  | .ok a, f => f a
  | .exc x s, _ => .exc x s
  | .fail, _ => .fail
  | .draw n k, f => .draw n fun i => (k i).bind f
def R.holds : R α → (α → Prop) → (Xc → Sto → Prop) → Prop
  | .ok a, Q, _ => Q a
  | .exc x s, _, E => E x s
  | .fail, _, _ => False
  | .draw n k, Q, E => ∀ i, i < n → (k i).holds Q E
theorem holds_bind {f : α → R β} {Q : β → Prop} {E : Xc → Sto → Prop} : ∀ {r : R α}, (r.bind f).holds Q E → r.holds (fun a => (f a).holds Q E) E
  | .ok a, h => h
  | .exc x s, h => h
  | .fail, h => h
  | .draw n k, h => fun i hi => holds_bind (h i hi)
theorem holds_mono {Q Q' : α → Prop} {E E' : Xc → Sto → Prop} (q : ∀ a, Q a → Q' a) (e : ∀ x s, E x s → E' x s) : ∀ {r : R α}, r.holds Q E → r.holds Q' E'
  | .ok a, h => q a h
  | .exc x s, h => e x s h
  | .fail, h => h
  | .draw n k, h => fun i hi => holds_mono q e (h i hi)

/-! ### the context -/
structure Gx where
  w : World
  K : PySem.W.Frag
  Am : Hp → Prop
  /-- the classes: of errors, of objects -/
  xc : Nat → Addr
  cl : Nat → Addr

mutual
def Im (K : PySem.W.Frag) (H : Hp) (ι : List Addr) : A → V → Prop
  | .non, v => v = .non
  | .bl b, v => v = .bl b
  | .int i, v => v = .int i
  | .str s, v => v = .str s
  | .ty n, v => v = .ty n
  | .ref n, v => ∃ a, ι[n]? = some a ∧ v = .ref a
  | .tup ds, v => ∃ a xs, v = .ref a ∧ SqT K H a xs ∧ ImL K H ι ds xs
def ImL (K : PySem.W.Frag) (H : Hp) (ι : List Addr) : List A → List V → Prop
  | [], xs => xs = []
  | d :: ds, xs => ∃ v vs, xs = v :: vs ∧ Im K H ι d v ∧ ImL K H ι ds vs
end
def ImF (K : PySem.W.Frag) (H : Hp) (ι : List Addr) : List (Str × A) → List (Str × V) → Prop
  | [], xs => xs = []
  | (f, d) :: ds, xs => ∃ v vs, xs = (f, v) :: vs ∧ Im K H ι d v ∧ ImF K H ι ds vs
/-- the script: never written -/
def ScrAt (K : PySem.W.Frag) (H : Hp) (ι : List Addr) (a : Addr) (xs : List V) : Prop :=
  (Rd H a (.lst xs) ∧ a ∉ ι) ∨ ∃ (o : Obj) (its : Array Value) (n : Nat), K.lookup a = some o ∧ o.cls = .type "list" ∧ o.dict = none ∧ o.data = .seq its n ∧ its.size ≤ sizeLine ∧ Vals xs its.toList
/-- the row of the draws at r -/
def RowX (K : PySem.W.Frag) (H : Hp) (ι : List Addr) (r : Addr) : Prop := ∃ (sa : Addr) (ns : List Int) (i x y : Int), H r = some (.lst [.ref sa, .int i, .int x, .int y]) ∧ ScrAt K H ι sa (ns.map .int) ∧ 0 ≤ i
/-- a key: an int or a text; a tuple of ints, bools, None and such tuples -/
def aK : A → Option Key
  | .int i => some (.inl i)
  | .str s => some (.inr s)
  | _ => none
mutual
def kA : A → Option NestedKey
  | .non => some .none
  | .int i => some (.num i)
  | .bl b => some (.num (if b = true then 1 else 0))
  | .str x => some (.text x)
  | .tup l => (kAs l).map .tup
  | _ => none
def kAs : List A → Option (List NestedKey)
  | [] => some []
  | a :: l => match kA a, kAs l with
    | some k, some ks => some (k :: ks)
    | _, _ => none
end
def kT (a : A) : Option NestedKey := match a with
  | .tup l => match kA (.tup l) with
    | some k => if k.depth ≤ 8 then some k else none
    | none => none
  | _ => none
abbrev ImKs (K : PySem.W.Frag) (H : Hp) (ι : List Addr) : List (A × A) → List (Key × V) → Prop := Paired fun p q => aK p.1 = some q.1 ∧ Im K H ι p.2 q.2
abbrev ImXs (K : PySem.W.Frag) (H : Hp) (ι : List Addr) : List (A × A) → Mk.NdX → Prop := Paired fun p q => kT p.1 = some q.1 ∧ Im K H ι p.1 (.ref q.2.1) ∧ Im K H ι p.2 q.2.2
def DIs (K : PySem.W.Frag) (w : World) (H : Hp) (ι : List Addr) (kvs : List (A × A)) (a : Addr) (u : HO) : Prop := (∃ ks, u = .dK ks ∧ ImKs K H ι kvs ks) ∨ kvs ≠ [] ∧ ∃ xs, u = Mk.NdO w a xs ∧ ImXs K H ι kvs xs
def ImO (G : Gx) (H : Hp) (ι : List Addr) : Ob → Addr → Prop
  | .lst l, a => ∃ xs, H a = some (.lst xs) ∧ ImL G.K H ι l xs
  | .ins c fs, a => ∃ dx vs, H a = some (.ins (G.cl c) dx vs) ∧ ImF G.K H ι fs vs
  | .dr, a => RowX G.K H ι a
  | .dct lk kvs, a => ∃ u, DIs G.K G.w H ι kvs a u ∧ if lk = true then ∃ o, H a = some (.frz o u) else H a = some u
  | .rng lo hi, a => H a = some (.rng lo hi)
/-- how the objects lie -/
structure Rl (G : Gx) (ι : List Addr) (H : Hp) (st : Sto) : Prop where
  am : G.Am H
  len : ι.length = st.length
  nd : ι.Nodup
  ob : ∀ (n : Nat) (o : Ob) (a : Addr), st[n]? = some o → ι[n]? = some a → ImO G H ι o a
/-- the slots -/
structure EnvR (G : Gx) (ι : List Addr) (H : Hp) (env : Ev) (σ : L2.St) : Prop where
  len : σ.length = env.length
  at_ : ∀ (i : Nat) (a : A), env[i]? = some (some a) → ∃ v, σ[i]? = some (some v) ∧ Im G.K H ι a v
/-- what stays -/
structure Fr (ι : List Addr) (H : Hp) (ι' : List Addr) (H' : Hp) : Prop where
  pre : ι <+: ι'
  fresh : ∀ b ∈ ι', b ∈ ι ∨ H b = none
  keep : ∀ a o, H a = some o → a ∉ ι → (∀ ps, o ≠ .tbl ps) → H' a = some o
  some : ∀ a, H a ≠ none → H' a ≠ none
  frz : ∀ (a : Addr) (o : Obj) (u : HO), H a = Option.some (HO.frz o u) → H' a = Option.some (HO.frz o u)
theorem Fr.refl (ι : List Addr) (H : Hp) : Fr ι H ι H := ⟨List.prefix_refl _, fun _ h => .inl h, fun _ _ h _ _ => h, fun _ h => h, fun _ _ _ h => h⟩
theorem Fr.trans {ι ι1 ι2 : List Addr} {H H1 H2 : Hp} (a : Fr ι H ι1 H1) (b : Fr ι1 H1 ι2 H2) : Fr ι H ι2 H2 := by
  have fr : ∀ x ∈ ι1, x ∈ ι ∨ H x = none := a.fresh
  refine ⟨a.pre.trans b.pre, fun x h => ?_, fun x o h n t => ?_, fun x h => b.some x (a.some x h), fun x o u h => b.frz x o u (a.frz x o u h)⟩
  · rcases b.fresh x h with q | q
    · exact fr x q
    · cases e : H x with
      | none => exact .inr rfl
      | some o => exact absurd q (a.some x (by rw [e]; simp))
  · refine b.keep x o (a.keep x o h n t) (fun q => ?_) t
    rcases fr x q with z | z
    · exact n z
    · rw [h] at z; cases z
/-- the kinds of objects -/
theorem nd_ne_code {w : World} {a : Addr} {xs : Mk.NdX} {c : Addr} {q : Str} : Mk.NdO w a xs ≠ LamX.CodeO c q := fun z => by
  have z' : Mk.NdF w a xs = fun h => ∃ (oc : Obj) (vs : Array Value) (t : Tok), h.get? c = some oc ∧ oc.data = .fields vs ∧ vs[1]? = some (.str q t) := HO.ext.inj z
  have g : ∀ i, i < a + c + 1 → (⟨Array.replicate (a + c + 1) { cls := .none, data := .fields #[.none, .str q 0] }, {}⟩ : Heap).get? i = some { cls := .none, data := .fields #[.none, .str q 0] } := fun i hi => by
    unfold Heap.get?
    simp [hi]
  have p : Mk.NdF w a xs ⟨Array.replicate (a + c + 1) { cls := .none, data := .fields #[.none, .str q 0] }, {}⟩ := by
    rw [z']
    exact ⟨_, _, 0, g c (Nat.lt_succ_of_le (Nat.le_add_left c a)), rfl, rfl⟩
  obtain ⟨_, _, _, _, o', es, ep, e, _, d, _⟩ := p
  rw [g a (Nat.lt_succ_of_le (Nat.le_add_right a c))] at e
  cases e
  cases d
def Mv (o : HO) : Prop := (∀ xs, o ≠ .tup xs) ∧ (∀ ps, o ≠ .tbl ps) ∧ (∀ ob xs, o ≠ .frz ob (.tup xs)) ∧ ∀ c q, o ≠ LamX.CodeO c q
theorem mv_lst {xs : List V} : Mv (.lst xs) := ⟨(fun _ z => nomatch z), (fun _ z => nomatch z), (fun _ _ z => nomatch z), fun c q z => by unfold LamX.CodeO at z; cases z⟩
theorem mv_ins {C dx : Addr} {fs : List (Str × V)} : Mv (.ins C dx fs) := ⟨(fun _ z => nomatch z), (fun _ z => nomatch z), (fun _ _ z => nomatch z), fun c q z => by unfold LamX.CodeO at z; cases z⟩
theorem mv_rng {lo hi : Int} : Mv (.rng lo hi) := ⟨(fun _ z => nomatch z), (fun _ z => nomatch z), (fun _ _ z => nomatch z), fun c q z => by unfold LamX.CodeO at z; cases z⟩
theorem mv_dK {ks : List (Key × V)} : Mv (.dK ks) := ⟨(fun _ z => nomatch z), (fun _ z => nomatch z), (fun _ _ z => nomatch z), fun c q z => by unfold LamX.CodeO at z; cases z⟩
theorem mv_nd {w : World} {a : Addr} {xs : Mk.NdX} : Mv (Mk.NdO w a xs) := ⟨(fun _ z => nomatch z), (fun _ z => nomatch z), (fun _ _ z => nomatch z), fun _ _ => nd_ne_code⟩
theorem mv_frz {ob : Obj} {u : HO} (h : ∀ xs, u ≠ .tup xs) : Mv (.frz ob u) := ⟨(fun _ z => nomatch z), (fun _ z => nomatch z), (fun _ _ z => by cases z; exact h _ rfl), fun c q z => by unfold LamX.CodeO at z; cases z⟩
theorem Rl.kind {G : Gx} {ι : List Addr} {H : Hp} {st : Sto} (R : Rl G ι H st) {a : Addr} (h : a ∈ ι) : ∃ o, H a = some o ∧ Mv o := by
  obtain ⟨n, hn⟩ := List.getElem?_of_mem h
  have hl : n < ι.length := (List.getElem?_eq_some_iff.mp hn).1
  have q := R.ob n (st[n]'(by rw [← R.len]; exact hl)) a (List.getElem?_eq_getElem _) hn
  revert q
  generalize st[n]'(by rw [← R.len]; exact hl) = o
  intro q
  cases o with
  | lst l => obtain ⟨xs, e, _⟩ := q; exact ⟨_, e, mv_lst⟩
  | ins c fs => obtain ⟨dx, vs, e, _⟩ := q; exact ⟨_, e, mv_ins⟩
  | dr => obtain ⟨sa, ns, i, x, y, e, _⟩ := q; exact ⟨_, e, mv_lst⟩
  | rng lo hi => exact ⟨_, q, mv_rng⟩
  | dct lk kvs =>
    obtain ⟨u, d, e⟩ := q
    cases lk with
    | true =>
      obtain ⟨ob, e⟩ := (show ∃ o, H a = some (.frz o u) from e)
      rcases d with ⟨ks, rfl, _⟩ | ⟨_, xs, rfl, _⟩ <;> exact ⟨_, e, mv_frz fun _ z => by cases z⟩
    | false =>
      have e : H a = some u := e
      rcases d with ⟨ks, rfl, _⟩ | ⟨_, xs, rfl, _⟩
      · exact ⟨_, e, mv_dK⟩
      · exact ⟨_, e, mv_nd⟩
theorem Rl.seq {G : Gx} {ι ι' : List Addr} {H H' : Hp} {st : Sto} (R : Rl G ι H st) (f : Fr ι H ι' H') {a : Addr} {xs : List V} (h : SqT G.K H a xs) : SqT G.K H' a xs := by
  have nk : ∀ o, H a = some o → ¬ Mv o → a ∉ ι := fun o e n z => by
    obtain ⟨o', q, m⟩ := R.kind z
    rw [e] at q
    cases q
    exact n m
  rcases h with (h | ⟨o, h⟩) | h
  · exact .inl (.inl (f.keep _ _ h (nk _ h fun m => m.1 _ rfl) fun ps z => by cases z))
  · exact .inl (.inr ⟨o, f.keep _ _ h (nk _ h fun m => m.2.2.1 _ _ rfl) fun ps z => by cases z⟩)
  · exact .inr h
mutual
theorem Im.mono {K : PySem.W.Frag} {H H' : Hp} {ι ι' : List Addr} (p : ι <+: ι') (t : ∀ a xs, SqT K H a xs → SqT K H' a xs) : ∀ {d : A} {v : V}, Im K H ι d v → Im K H' ι' d v
  | .non, _, h => h
  | .bl _, _, h => h
  | .int _, _, h => h
  | .str _, _, h => h
  | .ty _, _, h => h
  | .ref n, _, h => by
    unfold Im at h ⊢
    obtain ⟨a, e, h⟩ := h
    obtain ⟨r, rfl⟩ := p
    exact ⟨a, by rw [List.getElem?_append_left (List.getElem?_eq_some_iff.mp e).1]; exact e, h⟩
  | .tup ds, _, h => by
    unfold Im at h ⊢
    obtain ⟨a, xs, h1, h2, h3⟩ := h
    exact ⟨a, xs, h1, t _ _ h2, ImL.mono p t h3⟩
theorem ImL.mono {K : PySem.W.Frag} {H H' : Hp} {ι ι' : List Addr} (p : ι <+: ι') (t : ∀ a xs, SqT K H a xs → SqT K H' a xs) : ∀ {ds : List A} {vs : List V}, ImL K H ι ds vs → ImL K H' ι' ds vs
  | [], _, h => h
  | d :: ds, _, h => by
    unfold ImL at h ⊢
    obtain ⟨v, vs, h1, h2, h3⟩ := h
    exact ⟨v, vs, h1, Im.mono p t h2, ImL.mono p t h3⟩
end
theorem ImF.mono {K : PySem.W.Frag} {H H' : Hp} {ι ι' : List Addr} (p : ι <+: ι') (t : ∀ a xs, SqT K H a xs → SqT K H' a xs) : ∀ {ds : List (Str × A)} {vs : List (Str × V)}, ImF K H ι ds vs → ImF K H' ι' ds vs
  | [], _, h => h
  | (f, d) :: ds, _, h => by
    unfold ImF at h ⊢
    obtain ⟨v, vs, h1, h2, h3⟩ := h
    exact ⟨v, vs, h1, Im.mono p t h2, ImF.mono p t h3⟩
section
variable {G : Gx} {ι ι' : List Addr} {H H' : Hp} {st : Sto}
theorem Rl.im (R : Rl G ι H st) (f : Fr ι H ι' H') {d : A} {v : V} (h : Im G.K H ι d v) : Im G.K H' ι' d v := Im.mono f.pre (fun _ _ => R.seq f) h
theorem Rl.imL (R : Rl G ι H st) (f : Fr ι H ι' H') {d : List A} {v : List V} (h : ImL G.K H ι d v) : ImL G.K H' ι' d v := ImL.mono f.pre (fun _ _ => R.seq f) h
theorem Rl.imF (R : Rl G ι H st) (f : Fr ι H ι' H') {d : List (Str × A)} {v : List (Str × V)} (h : ImF G.K H ι d v) : ImF G.K H' ι' d v := ImF.mono f.pre (fun _ _ => R.seq f) h
theorem Rl.env (R : Rl G ι H st) (f : Fr ι H ι' H') {env : Ev} {σ : L2.St} (h : EnvR G ι H env σ) : EnvR G ι' H' env σ := ⟨h.len, fun i a e => by
  obtain ⟨v, h1, h2⟩ := h.at_ i a e
  exact ⟨v, h1, R.im f h2⟩⟩
theorem RowX.mono (R : Rl G ι H st) (f : Fr ι H ι' H') {r : Addr} (e : H' r = H r) (h : RowX G.K H ι r) : RowX G.K H' ι' r := by
  obtain ⟨sa, ns, i, x, y, h1, h2, h3⟩ := h
  refine ⟨sa, ns, i, x, y, e.trans h1, ?_, h3⟩
  rcases h2 with ⟨h, n⟩ | h
  · have h5 : sa ∉ ι' := fun z => by
      rcases f.fresh _ z with z | z
      · exact n z
      · rcases h with h | ⟨o, h⟩ <;> (rw [h] at z; cases z)
    rcases h with h | ⟨o, h⟩
    · exact .inl ⟨.inl (f.keep _ _ h n fun ps z => by cases z), h5⟩
    · exact .inl ⟨.inr ⟨o, f.keep _ _ h n fun ps z => by cases z⟩, h5⟩
  · exact .inr h
/-- an object of the store, seen later, itself unchanged -/
theorem ImO.mono (R : Rl G ι H st) (f : Fr ι H ι' H') {o : Ob} {a : Addr} (e : H' a = H a) (h : ImO G H ι o a) : ImO G H' ι' o a := by
  cases o with
  | lst l =>
    obtain ⟨xs, h1, h2⟩ := h
    exact ⟨xs, e.trans h1, R.imL f h2⟩
  | ins c fs =>
    obtain ⟨dx, vs, h1, h2⟩ := h
    exact ⟨dx, vs, e.trans h1, R.imF f h2⟩
  | dr => exact RowX.mono R f e h
  | rng lo hi => exact e.trans h
  | dct lk kvs =>
    obtain ⟨u, d, q⟩ := h
    refine ⟨u, ?_, ?_⟩
    · rcases d with ⟨ks, rfl, d⟩ | ⟨ne, xs, rfl, d⟩
      · exact .inl ⟨ks, rfl, Paired.mapP d fun _ _ z => ⟨z.1, R.im f z.2⟩⟩
      · exact .inr ⟨ne, xs, rfl, Paired.mapP d fun _ _ z => ⟨z.1, R.im f z.2.1, R.im f z.2.2⟩⟩
    · cases lk with
      | true =>
        obtain ⟨o, q⟩ := (show ∃ o, H a = some (.frz o u) from q)
        exact ⟨o, e.trans q⟩
      | false => exact e.trans q
end
end Mx

/-! ### MkX2 -/
set_option Elab.async false
set_option linter.all false
set_option maxRecDepth 100000
set_option maxHeartbeats 4000000
namespace Mx
open PySem PySem.Spec PyProof.Rows L2
open GxR (TabG Tabbed)
/-! ### what is promised -/
def XOk (G : Gx) (E : XK) (x : Xc) (ι : List Addr) (H : Hp) : Prop := match x.2 with
  | none => E (.ref (G.xc x.1)) none H
  | some p => ∀ d v, H d = some (.xd [(p.1, v)]) → Im G.K H ι p.2 v → E (.ref (G.xc x.1)) (some d) H
def PE1 (G : Gx) (ι : List Addr) (H : Hp) (Q : VK) (r : A × Sto) : Prop := ∀ ι' H' v, Fr ι H ι' H' → Rl G ι' H' r.2 → Im G.K H' ι' r.1 v → Q v H'
def PXx (G : Gx) (ι : List Addr) (H : Hp) (E : XK) (x : Xc) (s : Sto) : Prop := ∀ ι' H', Fr ι H ι' H' → Rl G ι' H' s → XOk G E x ι' H'
def PB1 (G : Gx) (ι : List Addr) (H : Hp) (Q : Bool → Hp → Prop) (r : Bool × Sto) : Prop := ∀ ι' H', Fr ι H ι' H' → Rl G ι' H' r.2 → Q r.1 H'
def PL1 (G : Gx) (ι : List Addr) (H : Hp) (Q : List V → Hp → Prop) (r : List A × Sto) : Prop := ∀ ι' H' v, Fr ι H ι' H' → Rl G ι' H' r.2 → ImL G.K H' ι' r.1 v → Q v H'
inductive Fl where
  | nx (e : Ev) | rt (a : A) | bk (e : Ev) | ct (e : Ev)
def PS1 (G : Gx) (ι : List Addr) (H : Hp) (D : Ends) (r : Fl × Sto) : Prop := ∀ ι' H', Fr ι H ι' H' → Rl G ι' H' r.2 → match r.1 with
  | .nx e => ∀ σ, EnvR G ι' H' e σ → D.nx σ H'
  | .rt a => ∀ v, Im G.K H' ι' a v → D.rt v H'
  | .bk e => ∀ σ, EnvR G ι' H' e σ → D.bk σ H'
  | .ct e => ∀ σ, EnvR G ι' H' e σ → D.ct σ H'
abbrev EM := Ev → Sto → R (A × Sto)
abbrev BM := Ev → Sto → R (Bool × Sto)
abbrev LM := Ev → Sto → R (List A × Sto)
abbrev SM := Ev → Sto → R (Fl × Sto)
def Ex (G : Gx) (E : XK) (t : TE) (m : EM) : Prop := ∀ (ι : List Addr) (env : Ev) (st : Sto) (σ : L2.St) (H : Hp) (Q : VK), Rl G ι H st → EnvR G ι H env σ → (m env st).holds (PE1 G ι H Q) (PXx G ι H E) → t σ H Q
def ExB (G : Gx) (E : XK) (t : TT) (m : BM) : Prop := ∀ (ι : List Addr) (env : Ev) (st : Sto) (σ : L2.St) (H : Hp) (Q : Bool → Hp → Prop), Rl G ι H st → EnvR G ι H env σ → (m env st).holds (PB1 G ι H Q) (PXx G ι H E) → t σ H Q
def ExL (G : Gx) (E : XK) (t : TA) (m : LM) : Prop := ∀ (ι : List Addr) (env : Ev) (st : Sto) (σ : L2.St) (H : Hp) (Q : List V → Hp → Prop), Rl G ι H st → EnvR G ι H env σ → (m env st).holds (PL1 G ι H Q) (PXx G ι H E) → t σ H Q
def ExS (G : Gx) (E : XK) (t : TS) (m : SM) : Prop := ∀ (ι : List Addr) (env : Ev) (st : Sto) (σ : L2.St) (H : Hp) (D : Ends), Rl G ι H st → EnvR G ι H env σ → (m env st).holds (PS1 G ι H D) (PXx G ι H E) → t D σ H
section
variable {G : Gx} {E : XK} {ι ι1 : List Addr} {H H1 : Hp}
theorem PE1.sh {Q : VK} {r : A × Sto} (f : Fr ι H ι1 H1) (h : PE1 G ι H Q r) : PE1 G ι1 H1 Q r := fun ι' H' v f' => h ι' H' v (f.trans f')
theorem PXx.sh {x : Xc} {s : Sto} (f : Fr ι H ι1 H1) (h : PXx G ι H E x s) : PXx G ι1 H1 E x s := fun ι' H' f' => h ι' H' (f.trans f')
theorem PB1.sh {Q : Bool → Hp → Prop} {r : Bool × Sto} (f : Fr ι H ι1 H1) (h : PB1 G ι H Q r) : PB1 G ι1 H1 Q r := fun ι' H' f' => h ι' H' (f.trans f')
theorem PL1.sh {Q : List V → Hp → Prop} {r : List A × Sto} (f : Fr ι H ι1 H1) (h : PL1 G ι H Q r) : PL1 G ι1 H1 Q r := fun ι' H' v f' => h ι' H' v (f.trans f')
theorem PS1.sh {D : Ends} {r : Fl × Sto} (f : Fr ι H ι1 H1) (h : PS1 G ι H D r) : PS1 G ι1 H1 D r := fun ι' H' f' => h ι' H' (f.trans f')
theorem PE1.at {Q : VK} {a : A} {st : Sto} {v : V} (h : PE1 G ι H Q (a, st)) (R : Rl G ι H st) (im : Im G.K H ι a v) : Q v H := h ι H v (Fr.refl ι H) R im
theorem PB1.at {Q : Bool → Hp → Prop} {b : Bool} {st : Sto} (h : PB1 G ι H Q (b, st)) (R : Rl G ι H st) : Q b H := h ι H (Fr.refl ι H) R
theorem PL1.at {Q : List V → Hp → Prop} {a : List A} {st : Sto} {v : List V} (h : PL1 G ι H Q (a, st)) (R : Rl G ι H st) (im : ImL G.K H ι a v) : Q v H := h ι H v (Fr.refl ι H) R im
/-- the next step -/
theorem go {α β : Type} {r : R α} {f : α → R β} {Q : β → Prop} {X : Xc → Sto → Prop} {Q' : α → Prop} (h : (r.bind f).holds Q X) (q : ∀ a, (f a).holds Q X → Q' a) : r.holds Q' X := holds_mono q (fun _ _ x => x) (holds_bind h)
theorem sh {α : Type} {r : R α} {Q Q' : α → Prop} (f : Fr ι H ι1 H1) (h : r.holds Q (PXx G ι H E)) (q : ∀ a, Q a → Q' a) : r.holds Q' (PXx G ι1 H1 E) := holds_mono q (fun _ _ x => PXx.sh f x) h
variable {env : Ev} {st : Sto} {σ : L2.St}
theorem Ex.run {Q : VK} {ta : TE} {ma : EM} {β : Type} {f : A × Sto → R β} {Qb : β → Prop} (ha : Ex G E ta ma) (R : Rl G ι H st) (Ev : EnvR G ι H env σ) (h : ((ma env st).bind f).holds Qb (PXx G ι H E))
    (q : ∀ ι1 H1 a s1 v, Fr ι H ι1 H1 → Rl G ι1 H1 s1 → EnvR G ι1 H1 env σ → Im G.K H1 ι1 a v → (f (a, s1)).holds Qb (PXx G ι1 H1 E) → Q v H1) : ta σ H Q :=
  ha ι env st σ H Q R Ev (go h fun r h1 ι1 H1 v f1 R1 im1 => q ι1 H1 r.1 r.2 v f1 R1 (R.env f1 Ev) im1 (sh f1 h1 fun _ q => q))
theorem ExB.run {Q : Bool → Hp → Prop} {ta : TT} {ma : BM} {β : Type} {f : Bool × Sto → R β} {Qb : β → Prop} (ha : ExB G E ta ma) (R : Rl G ι H st) (Ev : EnvR G ι H env σ) (h : ((ma env st).bind f).holds Qb (PXx G ι H E))
    (q : ∀ ι1 H1 b s1, Fr ι H ι1 H1 → Rl G ι1 H1 s1 → EnvR G ι1 H1 env σ → (f (b, s1)).holds Qb (PXx G ι1 H1 E) → Q b H1) : ta σ H Q :=
  ha ι env st σ H Q R Ev (go h fun r h1 ι1 H1 f1 R1 => q ι1 H1 r.1 r.2 f1 R1 (R.env f1 Ev) (sh f1 h1 fun _ q => q))
theorem ExL.run {Q : List V → Hp → Prop} {ta : TA} {ma : LM} {β : Type} {f : List A × Sto → R β} {Qb : β → Prop} (ha : ExL G E ta ma) (R : Rl G ι H st) (Ev : EnvR G ι H env σ) (h : ((ma env st).bind f).holds Qb (PXx G ι H E))
    (q : ∀ ι1 H1 a s1 v, Fr ι H ι1 H1 → Rl G ι1 H1 s1 → EnvR G ι1 H1 env σ → ImL G.K H1 ι1 a v → (f (a, s1)).holds Qb (PXx G ι1 H1 E) → Q v H1) : ta σ H Q :=
  ha ι env st σ H Q R Ev (go h fun r h1 ι1 H1 v f1 R1 im1 => q ι1 H1 r.1 r.2 v f1 R1 (R.env f1 Ev) im1 (sh f1 h1 fun _ q => q))
end
/-! ### steps that can't raise -/
def ofO {α : Type} : Option α → R α
  | some a => .ok a
  | none => .fail
theorem ofO_holds {α : Type} {o : Option α} {Q : α → Prop} {X : Xc → Sto → Prop} (h : (ofO o).holds Q X) : ∃ a, o = some a ∧ Q a := by
  cases o with
  | some a => exact ⟨a, rfl, h⟩
  | none => exact h.elim
abbrev F1 := A → Sto → Option (A × Sto)
abbrev F2 := A → A → Sto → Option (A × Sto)
abbrev FL := List A → Sto → Option (A × Sto)
def Ok1 (G : Gx) (r : V → Hp → VK → Prop) (f : F1) : Prop := ∀ ι st H a x b Q, Rl G ι H st → Im G.K H ι a x → f a st = some b → PE1 G ι H Q b → r x H Q
def Ok2 (G : Gx) (r : R2) (f : F2) : Prop := ∀ ι st H a b x y c Q, Rl G ι H st → Im G.K H ι a x → Im G.K H ι b y → f a b st = some c → PE1 G ι H Q c → r x y H Q
def OkL (G : Gx) (r : List V → Hp → VK → Prop) (f : FL) : Prop := ∀ ι st H as xs c Q, Rl G ι H st → ImL G.K H ι as xs → f as st = some c → PE1 G ι H Q c → r xs H Q
def asB : A × Sto → R (Bool × Sto)
  | (.bl b, st) => .ok (b, st)
  | _ => .fail
section
variable {G : Gx} {E : XK} {ta tb tc : TE} {ma mb mc : EM} {t u : TT} {mt mu : BM} {tl tr : TA} {ml mr : LM}
theorem asB_run {r : A × Sto} {v : V} {ι : List Addr} {H : Hp} {Q : Bool × Sto → Prop} {X : Xc → Sto → Prop} (h : (asB r).holds Q X) (im : Im G.K H ι r.1 v) : ∃ b, r.1 = .bl b ∧ v = .bl b ∧ Q (b, r.2) := by
  obtain ⟨a, st⟩ := r
  cases a with
  | bl b => exact ⟨b, rfl, by unfold Im at im; exact im, h⟩
  | _ => exact h.elim
/-! ### expressions -/
def mVar (i : Nat) : EM := fun env st => match env[i]? with
  | some (some a) => .ok (a, st)
  | _ => .fail
theorem ex_var {i : Nat} : Ex G E (tVar i) (mVar i) := fun ι env st σ H Q R Ev h => by
  unfold mVar at h
  split at h
  · rename_i a e
    obtain ⟨v, e2, im⟩ := Ev.at_ i a e
    exact ⟨v, e2, PE1.at h R im⟩
  · exact h.elim
def mC (a : A) : EM := fun _ st => .ok (a, st)
theorem ex_c {a : A} {v : V} (im : ∀ H ι, Im G.K H ι a v) : Ex G E (tC v) (mC a) := fun ι env st σ H Q R Ev h => PE1.at h R (im H ι)
theorem ex_int {i : Int} : Ex G E (tC (.int i)) (mC (.int i)) := ex_c fun _ _ => by unfold Im; rfl
theorem ex_str {i : Str} : Ex G E (tC (.str i)) (mC (.str i)) := ex_c fun _ _ => by unfold Im; rfl
theorem ex_bl {i : Bool} : Ex G E (tC (.bl i)) (mC (.bl i)) := ex_c fun _ _ => by unfold Im; rfl
theorem ex_non : Ex G E (tC .non) (mC .non) := ex_c fun _ _ => by unfold Im; rfl
def m1 (f : F1) (ma : EM) : EM := fun env st => (ma env st).bind fun a => ofO (f a.1 a.2)
theorem ex_1 {r : V → Hp → VK → Prop} {f : F1} (hf : Ok1 G r f) (ha : Ex G E ta ma) : Ex G E (tUn r ta) (m1 f ma) := fun ι env st σ H Q R Ev h => by
  refine ha.run R Ev (sh (Fr.refl ι H) h fun _ q => q) fun ι1 H1 a s1 v f1 R1 _ im h1 => ?_
  obtain ⟨c, e, q⟩ := ofO_holds h1
  exact hf _ _ _ _ _ _ _ R1 im e (PE1.sh f1 q)
def m2 (f : F2) (ma mb : EM) : EM := fun env st => (ma env st).bind fun a => (mb env a.2).bind fun b => ofO (f a.1 b.1 b.2)
theorem ex_2 {r : R2} {f : F2} (hf : Ok2 G r f) (ha : Ex G E ta ma) (hb : Ex G E tb mb) : Ex G E (tOp r ta tb) (m2 f ma mb) := fun ι env st σ H Q R Ev h => by
  refine ha.run R Ev h fun ι1 H1 a s1 v f1 R1 Ev1 im h1 => ?_
  refine hb.run R1 Ev1 h1 fun ι2 H2 b s2 w f2 R2 Ev2 im2 h2 => ?_
  obtain ⟨c, e, q⟩ := ofO_holds h2
  exact hf _ _ _ _ _ _ _ _ _ R2 (R1.im f2 im) im2 e (PE1.sh (f1.trans f2) q)
def mAndV (ma mb : EM) : EM := fun env st => (ma env st).bind fun a => (asB a).bind fun b => if b.1 = true then mb env b.2 else .ok (.bl false, b.2)
def mOrV (ma mb : EM) : EM := fun env st => (ma env st).bind fun a => (asB a).bind fun b => if b.1 = true then .ok (.bl true, b.2) else mb env b.2
theorem im_bl {H : Hp} {ι : List Addr} {b : Bool} : Im G.K H ι (.bl b) (.bl b) := by unfold Im; rfl
theorem ex_andV (ha : Ex G E ta ma) (hb : Ex G E tb mb) : Ex G E (tAndV ta tb) (mAndV ma mb) := fun ι env st σ H Q R Ev h => by
  refine ha.run R Ev h fun ι1 H1 a s1 v f1 R1 Ev1 im h1 => ?_
  obtain ⟨b, e1, e2, q⟩ := asB_run (holds_bind h1) im
  refine ⟨b, e2, ?_⟩
  cases b with
  | true => exact iteT (hb _ _ _ _ _ _ R1 Ev1 (sh (Fr.refl _ _) q fun _ q => PE1.sh f1 q))
  | false => exact iteF ((show PE1 G ι H Q (.bl false, s1) from q) _ _ _ f1 R1 im_bl)
theorem ex_orV (ha : Ex G E ta ma) (hb : Ex G E tb mb) : Ex G E (tOrV ta tb) (mOrV ma mb) := fun ι env st σ H Q R Ev h => by
  refine ha.run R Ev h fun ι1 H1 a s1 v f1 R1 Ev1 im h1 => ?_
  obtain ⟨b, e1, e2, q⟩ := asB_run (holds_bind h1) im
  refine ⟨b, e2, ?_⟩
  cases b with
  | false => exact iteF (hb _ _ _ _ _ _ R1 Ev1 (sh (Fr.refl _ _) q fun _ q => PE1.sh f1 q))
  | true => exact iteT ((show PE1 G ι H Q (.bl true, s1) from q) _ _ _ f1 R1 im_bl)
def mNotV (ma : EM) : EM := fun env st => (ma env st).bind fun a => (asB a).bind fun b => .ok (.bl (!b.1), b.2)
theorem ex_notV (ha : Ex G E ta ma) : Ex G E (tNotV ta) (mNotV ma) := fun ι env st σ H Q R Ev h => by
  refine ha.run R Ev h fun ι1 H1 a s1 v f1 R1 Ev1 im h1 => ?_
  obtain ⟨b, e1, e2, q⟩ := asB_run (holds_bind h1) im
  exact ⟨b, e2, (show PE1 G ι H Q (.bl (!b), s1) from q) _ _ _ f1 R1 im_bl⟩
def mIf (mt : BM) (ma mb : EM) : EM := fun env st => (mt env st).bind fun b => if b.1 = true then ma env b.2 else mb env b.2
theorem ex_if (ht : ExB G E t mt) (ha : Ex G E ta ma) (hb : Ex G E tb mb) : Ex G E (tIf t ta tb) (mIf mt ma mb) := fun ι env st σ H Q R Ev h => by
  refine ht.run R Ev h fun ι1 H1 b s1 f1 R1 Ev1 h1 => ?_
  cases b with
  | true => exact iteT (ha _ _ _ _ _ _ R1 Ev1 (sh (Fr.refl _ _) h1 fun _ q => PE1.sh f1 q))
  | false => exact iteF (hb _ _ _ _ _ _ R1 Ev1 (sh (Fr.refl _ _) h1 fun _ q => PE1.sh f1 q))
/-! ### tests -/
def mB (ma : EM) : BM := fun env st => (ma env st).bind asB
theorem ext_B (ha : Ex G E ta ma) : ExB G E (tB ta) (mB ma) := fun ι env st σ H Q R Ev h => by
  refine ha.run R Ev h fun ι1 H1 a s1 v f1 R1 Ev1 im h1 => ?_
  obtain ⟨b, e1, e2, q⟩ := asB_run h1 im
  exact ⟨b, e2, q _ _ f1 R1⟩
theorem ext_test (ha : Ex G E ta ma) : ExB G E (tTest ta) (mB ma) := ext_B ha
def mAnd (mt mu : BM) : BM := fun env st => (mt env st).bind fun b => if b.1 = true then mu env b.2 else .ok (false, b.2)
def mOr (mt mu : BM) : BM := fun env st => (mt env st).bind fun b => if b.1 = true then .ok (true, b.2) else mu env b.2
def mNot (mt : BM) : BM := fun env st => (mt env st).bind fun b => .ok (!b.1, b.2)
theorem ext_and (ht : ExB G E t mt) (hu : ExB G E u mu) : ExB G E (tAnd t u) (mAnd mt mu) := fun ι env st σ H Q R Ev h => by
  refine ht.run R Ev h fun ι1 H1 b s1 f1 R1 Ev1 h1 => ?_
  cases b with
  | true => exact iteT (hu _ _ _ _ _ _ R1 Ev1 (sh (Fr.refl _ _) h1 fun _ q => PB1.sh f1 q))
  | false => exact iteF ((show PB1 G ι H Q (false, s1) from h1) _ _ f1 R1)
theorem ext_or (ht : ExB G E t mt) (hu : ExB G E u mu) : ExB G E (tOr t u) (mOr mt mu) := fun ι env st σ H Q R Ev h => by
  refine ht.run R Ev h fun ι1 H1 b s1 f1 R1 Ev1 h1 => ?_
  cases b with
  | false => exact iteF (hu _ _ _ _ _ _ R1 Ev1 (sh (Fr.refl _ _) h1 fun _ q => PB1.sh f1 q))
  | true => exact iteT ((show PB1 G ι H Q (true, s1) from h1) _ _ f1 R1)
theorem ext_not (ht : ExB G E t mt) : ExB G E (tNot t) (mNot mt) := fun ι env st σ H Q R Ev h => by
  refine ht.run R Ev h fun ι1 H1 b s1 f1 R1 Ev1 h1 => ?_
  exact (show PB1 G ι H Q (!b, s1) from h1) _ _ f1 R1
theorem ext_yes : ExB G E tYes (fun _ st => .ok (true, st)) := fun ι env st σ H Q R Ev h => PB1.at h R
/-! ### arguments -/
def mNil : LM := fun _ st => .ok ([], st)
def mCons (ma : EM) (ml : LM) : LM := fun env st => (ma env st).bind fun a => (ml env a.2).bind fun l => .ok (a.1 :: l.1, l.2)
theorem exa_nil : ExL G E tNil mNil := fun ι env st σ H Q R Ev h => PL1.at h R (by unfold ImL; rfl)
theorem exa_cons (ha : Ex G E ta ma) (hl : ExL G E tl ml) : ExL G E (tCons ta tl) (mCons ma ml) := fun ι env st σ H Q R Ev h => by
  refine ha.run R Ev h fun ι1 H1 a s1 v f1 R1 Ev1 im h1 => ?_
  refine hl.run R1 Ev1 h1 fun ι2 H2 b s2 w f2 R2 Ev2 im2 h2 => ?_
  exact (show PL1 G ι H Q (a :: b, s2) from h2) _ _ _ (f1.trans f2) R2 (by unfold ImL; exact ⟨v, w, rfl, R1.im f2 im, im2⟩)
/-- a builtin's call -/
def mCB (f : FL) (ml : LM) : EM := fun env st => (ml env st).bind fun l => ofO (f l.1 l.2)
theorem ex_cb {r : List V → Hp → VK → Prop} {f : FL} (hf : OkL G r f) (hl : ExL G E tl ml) : Ex G E (tCB r tl) (mCB f ml) := fun ι env st σ H Q R Ev h => by
  refine hl.run R Ev h fun ι1 H1 a s1 v f1 R1 Ev1 im h1 => ?_
  obtain ⟨c, e, q⟩ := ofO_holds h1
  exact hf _ _ _ _ _ _ _ R1 im e (PE1.sh f1 q)
/-! ### calls -/
abbrev FM := List A → Sto → R (A × Sto)
def spX (G : Gx) (n : Nat) (f : FM) : Sp := fun vs H Q E => vs.length = n ∧ ∃ ι st as, Rl G ι H st ∧ ImL G.K H ι as vs ∧ (f as st).holds (PE1 G ι H Q) (PXx G ι H E)
def mCall (f : FM) (n : Nat) (ds : List A) (ml : LM) : EM := fun env st => (ml env st).bind fun l => if (l.1 ++ ds).length = n then f (l.1 ++ ds) l.2 else .fail
theorem ImL.length {K : PySem.W.Frag} {H : Hp} {ι : List Addr} : ∀ {ds : List A} {vs : List V}, ImL K H ι ds vs → vs.length = ds.length
  | [], _, h => by unfold ImL at h; rw [h]; rfl
  | d :: ds, _, h => by
    unfold ImL at h
    obtain ⟨v, vs, rfl, _, h3⟩ := h
    rw [List.length_cons, List.length_cons, ImL.length h3]
theorem ImL.append {K : PySem.W.Frag} {H : Hp} {ι : List Addr} : ∀ {ds es : List A} {vs ws : List V}, ImL K H ι ds vs → ImL K H ι es ws → ImL K H ι (ds ++ es) (vs ++ ws)
  | [], _, _, _, h, k => by unfold ImL at h; rw [h]; exact k
  | d :: ds, _, _, _, h, k => by
    unfold ImL at h
    obtain ⟨v, vs, rfl, h2, h3⟩ := h
    show ImL K H ι (d :: (ds ++ _)) (v :: (vs ++ _))
    unfold ImL
    exact ⟨v, _, rfl, h2, ImL.append h3 k⟩
theorem ex_call {f : FM} {n : Nat} {ds : List A} {dvs : List V} (hd : ∀ H ι, ImL G.K H ι ds dvs) (hl : ExL G E tl ml) : Ex G E (tCall (spX G n f) dvs E tl) (mCall f n ds ml) := fun ι env st σ H Q R Ev h => by
  refine hl.run R Ev h fun ι1 H1 a s1 v f1 R1 Ev1 im h1 => ?_
  have im2 := ImL.append im (hd H1 ι1)
  dsimp only at h1
  split at h1
  · rename_i e
    exact ⟨by rw [im2.length]; exact e, ι1, s1, _, R1, im2, sh (Fr.refl _ _) h1 fun _ q => PE1.sh f1 q⟩
  · exact h1.elim
/-! ### statements -/
def mNx : SM := fun env st => .ok (.nx env, st)
theorem exs_next : ExS G E tNext mNx := fun ι env st σ H D R Ev h => (show PS1 G ι H D (.nx env, st) from h) ι H (Fr.refl _ _) R σ Ev
theorem exs_break : ExS G E tBreak (fun env st => .ok (.bk env, st)) := fun ι env st σ H D R Ev h => (show PS1 G ι H D (.bk env, st) from h) ι H (Fr.refl _ _) R σ Ev
theorem exs_cont : ExS G E tCont (fun env st => .ok (.ct env, st)) := fun ι env st σ H D R Ev h => (show PS1 G ι H D (.ct env, st) from h) ι H (Fr.refl _ _) R σ Ev
def thenS (r : Fl × Sto) (m : SM) : R (Fl × Sto) := match r.1 with
  | .nx env => m env r.2
  | f => .ok (f, r.2)
def mSeq (ms mz : SM) : SM := fun env st => (ms env st).bind fun r => thenS r mz
theorem exs_seq {ts tz : TS} {ms mz : SM} (hs : ExS G E ts ms) (hz : ExS G E tz mz) : ExS G E (tSeq ts tz) (mSeq ms mz) := fun ι env st σ H D R Ev h => by
  refine hs ι env st σ H _ R Ev (go h fun r h1 ι1 H1 f1 R1 => ?_)
  obtain ⟨f, s1⟩ := r
  cases f with
  | nx e => exact fun σ1 Ev1 => hz _ _ _ _ _ _ R1 Ev1 (sh f1 h1 fun _ q => PS1.sh f1 q)
  | rt a => exact fun v im => (show PS1 G ι H D (.rt a, s1) from h1) _ _ f1 R1 v im
  | bk e => exact fun σ1 Ev1 => (show PS1 G ι H D (.bk e, s1) from h1) _ _ f1 R1 σ1 Ev1
  | ct e => exact fun σ1 Ev1 => (show PS1 G ι H D (.ct e, s1) from h1) _ _ f1 R1 σ1 Ev1
def mRet (ma : EM) : SM := fun env st => (ma env st).bind fun a => .ok (.rt a.1, a.2)
theorem exs_ret (ha : Ex G E ta ma) : ExS G E (tRet ta) (mRet ma) := fun ι env st σ H D R Ev h => by
  refine ha.run R Ev h fun ι1 H1 a s1 v f1 R1 Ev1 im h1 => ?_
  exact (show PS1 G ι H D (.rt a, s1) from h1) _ _ f1 R1 v im
theorem exs_retN : ExS G E tRetN (fun _ st => .ok (.rt .non, st)) := fun ι env st σ H D R Ev h => (show PS1 G ι H D (.rt .non, st) from h) ι H (Fr.refl _ _) R .non (by unfold Im; rfl)
def mDrop (ma : EM) : SM := fun env st => (ma env st).bind fun a => .ok (.nx env, a.2)
theorem exs_drop (ha : Ex G E ta ma) : ExS G E (tDrop ta) (mDrop ma) := fun ι env st σ H D R Ev h => by
  refine ha.run R Ev h fun ι1 H1 a s1 v f1 R1 Ev1 im h1 => ?_
  exact (show PS1 G ι H D (.nx env, s1) from h1) _ _ f1 R1 σ Ev1
def mIfS (mt : BM) (ms mz : SM) : SM := fun env st => (mt env st).bind fun b => if b.1 = true then ms env b.2 else mz env b.2
theorem exs_if {ts tz : TS} {ms mz : SM} (ht : ExB G E t mt) (hs : ExS G E ts ms) (hz : ExS G E tz mz) : ExS G E (tIfS t ts tz) (mIfS mt ms mz) := fun ι env st σ H D R Ev h => by
  refine ht.run R Ev h fun ι1 H1 b s1 f1 R1 Ev1 h1 => ?_
  cases b with
  | true => exact iteT (hs _ _ _ _ _ _ R1 Ev1 (sh (Fr.refl _ _) h1 fun _ q => PS1.sh f1 q))
  | false => exact iteF (hz _ _ _ _ _ _ R1 Ev1 (sh (Fr.refl _ _) h1 fun _ q => PS1.sh f1 q))
/-! targets -/
abbrev GM := A → Ev → Sto → R (Ev × Sto)
abbrev GsM := List A → Ev → Sto → R (Ev × Sto)
def PG1 (G : Gx) (ι : List Addr) (H : Hp) (Q : L2.St → Hp → Prop) (r : Ev × Sto) : Prop := ∀ ι' H', Fr ι H ι' H' → Rl G ι' H' r.2 → ∀ σ, EnvR G ι' H' r.1 σ → Q σ H'
theorem PG1.sh {ι ι1 : List Addr} {H H1 : Hp} {Q : L2.St → Hp → Prop} {r : Ev × Sto} (f : Fr ι H ι1 H1) (h : PG1 G ι H Q r) : PG1 G ι1 H1 Q r := fun ι' H' f' => h ι' H' (f.trans f')
def ExG (G : Gx) (E : XK) (g : TG) (m : GM) : Prop := ∀ ι env st σ H a v Q, Rl G ι H st → EnvR G ι H env σ → Im G.K H ι a v → (m a env st).holds (PG1 G ι H Q) (PXx G ι H E) → g v σ H Q
def ExGs (G : Gx) (E : XK) (g : TGs) (m : GsM) : Prop := ∀ ι env st σ H a v Q, Rl G ι H st → EnvR G ι H env σ → ImL G.K H ι a v → (m a env st).holds (PG1 G ι H Q) (PXx G ι H E) → g v σ H Q
theorem EnvR.set {ι : List Addr} {H : Hp} {env : Ev} {σ : L2.St} {a : A} {v : V} (h : EnvR G ι H env σ) (i : Nat) (im : Im G.K H ι a v) : EnvR G ι H (env.set i (some a)) (σ.set i (some v)) := by
  refine ⟨by simp [h.len], fun j b e => ?_⟩
  by_cases z : i = j
  · subst z
    by_cases hl : i < env.length
    · rw [List.getElem?_set_self hl] at e
      cases e
      exact ⟨v, List.getElem?_set_self (by rw [h.len]; exact hl), im⟩
    · rw [List.getElem?_eq_none (by simp; omega)] at e
      cases e
  · rw [List.getElem?_set_ne z] at e ⊢
    exact h.at_ j b e
def gmName (i : Nat) : GM := fun a env st => .ok (env.set i (some a), st)
theorem exg_name {i : Nat} : ExG G E (gName i) (gmName i) := fun ι env st σ H a v Q R Ev im h => (show PG1 G ι H Q (env.set i (some a), st) from h) ι H (Fr.refl _ _) R _ (Ev.set i im)
def gmNil : GsM := fun l env st => match l with
  | [] => .ok (env, st)
  | _ => .fail
def gmCons (m : GM) (ms : GsM) : GsM := fun l env st => match l with
  | a :: r => (m a env st).bind fun e => ms r e.1 e.2
  | _ => .fail
theorem exgs_nil : ExGs G E gNil gmNil := fun ι env st σ H a v Q R Ev im h => by
  cases a with
  | nil => unfold ImL at im; exact ⟨im, (show PG1 G ι H Q (env, st) from h) ι H (Fr.refl _ _) R _ Ev⟩
  | cons => exact h.elim
theorem exgs_cons {g : TG} {m : GM} {gs : TGs} {ms : GsM} (hg : ExG G E g m) (hs : ExGs G E gs ms) : ExGs G E (gCons g gs) (gmCons m ms) := fun ι env st σ H a v Q R Ev im h => by
  cases a with
  | nil => exact h.elim
  | cons b bs =>
    unfold ImL at im
    obtain ⟨w, ws, rfl, i1, i2⟩ := im
    refine ⟨w, ws, rfl, hg _ _ _ _ _ _ _ _ R Ev i1 (go h fun r h1 ι1 H1 f1 R1 σ1 Ev1 => ?_)⟩
    exact hs _ _ _ _ _ _ _ _ R1 Ev1 (R.imL f1 i2) (sh f1 h1 fun _ q => PG1.sh f1 q)
def mAsg (ma : EM) (mg : GM) : SM := fun env st => (ma env st).bind fun a => (mg a.1 env a.2).bind fun r => .ok (.nx r.1, r.2)
theorem exs_asg {g : TG} {mg : GM} (ha : Ex G E ta ma) (hg : ExG G E g mg) : ExS G E (tAsg ta g) (mAsg ma mg) := fun ι env st σ H D R Ev h => by
  refine ha.run R Ev h fun ι1 H1 a s1 v f1 R1 Ev1 im h1 => ?_
  refine hg _ _ _ _ _ _ _ _ R1 Ev1 im (go h1 fun r h2 ι2 H2 f2 R2 σ2 Ev2 => ?_)
  exact (show PS1 G ι H D (.nx r.1, r.2) from h2) _ _ (f1.trans f2) R2 σ2 Ev2
end
end Mx

/-! ### MkX3 -/
set_option Elab.async false
set_option linter.all false
set_option maxRecDepth 100000
set_option maxHeartbeats 4000000
namespace Mx
open PySem PySem.Spec PyProof.Rows L2
open GxR (TabG Tabbed)
/-- what the context's tables and classes stand -/
structure AmX (G : Gx) (T : List Addr) : Prop where
  tab : ∀ {t H}, t ∈ T → G.Am H → TabG H t
  tabbed : ∀ {t H H'}, t ∈ T → G.Am H → Tabbed t H H' → G.Am H'
  same : ∀ {H H'}, G.Am H → (∀ b o, H b = some o → ¬ Mv o → H' b = some o) → G.Am H'
section
variable {G : Gx} {T : List Addr} {ι : List Addr} {H : Hp} {st : Sto}
/-- a new thing that is no object of the store -/
theorem Fr.new {o : HO} {p : Addr} (hp : H p = none) : Fr ι H ι (upd H p o) := ⟨List.prefix_refl _, fun _ h => .inl h, fun a u h _ _ => by rw [upd_ne (ne_of_none h hp)]; exact h, fun a h z => h (by
  by_cases e : a = p
  · rw [e]; exact hp
  · rw [upd_ne e] at z; exact z), fun a o u h => by rw [upd_ne (ne_of_none h hp)]; exact h⟩
theorem Rl.new (M : AmX G T) (R : Rl G ι H st) {o : HO} {p : Addr} (hp : H p = none) : Rl G ι (upd H p o) st := by
  refine ⟨M.same R.am fun b u h _ => by rw [upd_ne (ne_of_none h hp)]; exact h, R.len, R.nd, fun n ob a h1 h2 => ?_⟩
  refine ImO.mono R (Fr.new hp) ?_ (R.ob n ob a h1 h2)
  refine upd_ne fun e => ?_
  subst e
  obtain ⟨_, q, _⟩ := R.kind (List.mem_of_getElem? h2)
  rw [hp] at q
  cases q
theorem im_tup {p : Addr} {as : List A} {xs : List V} (im : ImL G.K H ι as xs) (e : H p = some (.tup xs)) : Im G.K H ι (.tup as) (.ref p) := by
  unfold Im
  exact ⟨p, xs, rfl, .inl (.inl e), im⟩
/-- a new tuple -/
theorem PE1.tup (M : AmX G T) {Q : VK} {as : List A} {xs : List V} (R : Rl G ι H st) (im : ImL G.K H ι as xs) (h : PE1 G ι H Q (.tup as, st)) {p : Addr} (hp : H p = none) : Q (.ref p) (upd H p (.tup xs)) :=
  h ι _ _ (Fr.new hp) (R.new M hp) (im_tup (R.imL (Fr.new hp) im) upd_same)
/-- a new object of the store -/
theorem Fr.obj {o : HO} {p : Addr} (hp : H p = none) : Fr ι H (ι ++ [p]) (upd H p o) := ⟨List.prefix_append _ _, fun b h => by
  rcases List.mem_append.mp h with h | h
  · exact .inl h
  · rw [List.mem_singleton.mp h]; exact .inr hp, fun a u h _ _ => by rw [upd_ne (ne_of_none h hp)]; exact h, fun a h z => h (by
  by_cases e : a = p
  · rw [e]; exact hp
  · rw [upd_ne e] at z; exact z), fun a o u h => by rw [upd_ne (ne_of_none h hp)]; exact h⟩
theorem Rl.fresh (R : Rl G ι H st) {p : Addr} (hp : H p = none) : p ∉ ι := fun h => by
  obtain ⟨_, q, _⟩ := R.kind h
  rw [hp] at q
  cases q
theorem Rl.obj (M : AmX G T) (R : Rl G ι H st) {o : HO} {p : Addr} {ob : Ob} (hp : H p = none) (io : ImO G (upd H p o) (ι ++ [p]) ob p) : Rl G (ι ++ [p]) (upd H p o) (st ++ [ob]) := by
  refine ⟨M.same R.am fun b u h _ => by rw [upd_ne (ne_of_none h hp)]; exact h, by simp [R.len], ?_, fun n o2 a h1 h2 => ?_⟩
  · refine List.nodup_append.mpr ⟨R.nd, by simp, fun a ha b hb e => ?_⟩
    rw [List.mem_singleton.mp hb] at e
    exact R.fresh hp (e ▸ ha)
  · by_cases hl : n < st.length
    · rw [List.getElem?_append_left hl] at h1
      rw [List.getElem?_append_left (by rw [R.len]; exact hl)] at h2
      refine ImO.mono R (Fr.obj hp) ?_ (R.ob n o2 a h1 h2)
      exact upd_ne fun e => R.fresh hp (e ▸ List.mem_of_getElem? h2)
    · have hn : n = st.length := by
        have := (List.getElem?_eq_some_iff.mp h1).1
        simp only [List.length_append, List.length_singleton] at this
        omega
      subst hn
      rw [List.getElem?_append_right (Nat.le_refl _), Nat.sub_self] at h1
      rw [← R.len, List.getElem?_append_right (Nat.le_refl _), Nat.sub_self] at h2
      cases h1
      cases h2
      exact io
/-- a new list -/
theorem PE1.lst (M : AmX G T) {Q : VK} {as : List A} {xs : List V} (R : Rl G ι H st) (im : ImL G.K H ι as xs) (h : PE1 G ι H Q (.ref st.length, st ++ [.lst as])) {p : Addr} (hp : H p = none) : Q (.ref p) (upd H p (.lst xs)) :=
  h _ _ _ (Fr.obj hp) (R.obj M hp ⟨xs, upd_same, R.imL (Fr.obj hp) im⟩) (by unfold Im; exact ⟨p, by rw [← R.len, List.getElem?_append_right (Nat.le_refl _), Nat.sub_self]; rfl, rfl⟩)
/-- an object of the store is written -/
theorem Fr.set {o : HO} {a : Addr} (ha : a ∈ ι) (nf : ∀ (ob : Obj) (u : HO), H a ≠ Option.some (HO.frz ob u)) : Fr ι H ι (upd H a o) := ⟨List.prefix_refl _, fun _ h => .inl h, fun b u h n _ => by rw [upd_ne (fun e => n (by rw [e]; exact ha))]; exact h, fun b h z => by
  by_cases e : b = a
  · rw [e, upd_same] at z; cases z
  · rw [upd_ne e] at z; exact h z, fun b ob u h => by rw [upd_ne (fun e => nf ob u (by rw [← e]; exact h))]; exact h⟩
theorem Rl.set (M : AmX G T) (R : Rl G ι H st) {o : HO} {a : Addr} {n : Nat} {ob : Ob} (hn : ι[n]? = some a) (nf : ∀ ob u, H a ≠ some (.frz ob u)) (io : ImO G (upd H a o) ι ob a) : Rl G ι (upd H a o) (st.set n ob) := by
  have ha := List.mem_of_getElem? hn
  refine ⟨M.same R.am fun b u h n1 => ?_, by simp [R.len], R.nd, fun m o2 b h1 h2 => ?_⟩
  · rw [upd_ne fun e => ?_]
    · exact h
    · subst e
      obtain ⟨_, q, m⟩ := R.kind ha
      rw [h] at q
      cases q
      exact n1 m
  · by_cases e : n = m
    · subst e
      have hl : n < st.length := by have := (List.getElem?_eq_some_iff.mp hn).1; rw [R.len] at this; exact this
      rw [List.getElem?_set_self hl] at h1
      cases h1
      rw [hn] at h2
      cases h2
      exact io
    · rw [List.getElem?_set_ne e] at h1
      refine ImO.mono R (Fr.set ha nf) ?_ (R.ob m o2 b h1 h2)
      refine upd_ne fun z => e ?_
      subst z
      exact (List.getElem?_inj (List.getElem?_eq_some_iff.mp hn).1 R.nd).mp (hn.trans h2.symm)
theorem Rl.lst (R : Rl G ι H st) {n : Nat} {l : List A} {v : V} (h : st[n]? = some (.lst l)) (im : Im G.K H ι (.ref n) v) : ∃ a xs, v = .ref a ∧ ι[n]? = some a ∧ H a = some (.lst xs) ∧ ImL G.K H ι l xs := by
  unfold Im at im
  obtain ⟨a, e, rfl⟩ := im
  obtain ⟨xs, h1, h2⟩ := R.ob n _ a h e
  exact ⟨a, xs, rfl, e, h1, h2⟩
/-- a list of the store is written -/
theorem Rl.setL (M : AmX G T) (R : Rl G ι H st) {n : Nat} {a : Addr} {l : List A} {xs : List V} (hn : ι[n]? = some a) (he : ∃ ys, H a = some (.lst ys)) (im : ImL G.K H ι l xs) : Fr ι H ι (upd H a (.lst xs)) ∧ Rl G ι (upd H a (.lst xs)) (st.set n (.lst l)) := by
  have nf : ∀ ob u, H a ≠ some (.frz ob u) := fun ob u z => by
    obtain ⟨ys, e⟩ := he
    rw [e] at z
    cases z
  have f : Fr ι H ι (upd H a (.lst xs)) := Fr.set (List.mem_of_getElem? hn) nf
  exact ⟨f, R.set M hn nf ⟨xs, upd_same, R.imL f im⟩⟩
theorem PE1.mut (M : AmX G T) {Q : VK} (R : Rl G ι H st) {n : Nat} {a : Addr} {l : List A} {xs : List V} {r : A} {v : V} (hn : ι[n]? = some a) (he : ∃ ys, H a = some (.lst ys)) (im : ImL G.K H ι l xs) (ir : Im G.K H ι r v) (h : PE1 G ι H Q (r, st.set n (.lst l))) : Q v (upd H a (.lst xs)) := by
  obtain ⟨f, R2⟩ := R.setL M hn he im
  exact h _ _ _ f R2 (R.im f ir)
theorem imL_nil : ImL G.K H ι [] [] := by unfold ImL; rfl
theorem imL_cons {d : A} {v : V} {ds : List A} {vs : List V} (h : Im G.K H ι d v) (k : ImL G.K H ι ds vs) : ImL G.K H ι (d :: ds) (v :: vs) := by unfold ImL; exact ⟨v, vs, rfl, h, k⟩
theorem imL_nil' {xs : List V} (h : ImL G.K H ι [] xs) : xs = [] := by unfold ImL at h; exact h
theorem imL_cons' {d : A} {ds : List A} {xs : List V} (h : ImL G.K H ι (d :: ds) xs) : ∃ v vs, xs = v :: vs ∧ Im G.K H ι d v ∧ ImL G.K H ι ds vs := by unfold ImL at h; exact h
theorem imL_1 {d : A} {xs : List V} (h : ImL G.K H ι [d] xs) : ∃ v, xs = [v] ∧ Im G.K H ι d v := by
  obtain ⟨v, vs, rfl, h1, h2⟩ := imL_cons' h
  rw [imL_nil' h2]
  exact ⟨v, rfl, h1⟩
theorem imL_2 {d e : A} {xs : List V} (h : ImL G.K H ι [d, e] xs) : ∃ v w, xs = [v, w] ∧ Im G.K H ι d v ∧ Im G.K H ι e w := by
  obtain ⟨v, vs, rfl, h1, h2⟩ := imL_cons' h
  obtain ⟨w, rfl, h3⟩ := imL_1 h2
  exact ⟨v, w, rfl, h1, h3⟩
theorem im_int {i : Int} : Im G.K H ι (.int i) (.int i) := by unfold Im; rfl
theorem im_int' {i : Int} {v : V} (h : Im G.K H ι (.int i) v) : v = .int i := by unfold Im at h; exact h
theorem im_str {i : Str} : Im G.K H ι (.str i) (.str i) := by unfold Im; rfl
theorem im_str' {i : Str} {v : V} (h : Im G.K H ι (.str i) v) : v = .str i := by unfold Im at h; exact h
theorem im_non : Im G.K H ι .non .non := by unfold Im; rfl
theorem im_non' {v : V} (h : Im G.K H ι .non v) : v = .non := by unfold Im at h; exact h
theorem im_bl' {b : Bool} {v : V} (h : Im G.K H ι (.bl b) v) : v = .bl b := by unfold Im at h; exact h
theorem im_ty' {b : String} {v : V} (h : Im G.K H ι (.ty b) v) : v = .ty b := by unfold Im at h; exact h
theorem im_ref {n : Nat} {a : Addr} (h : ι[n]? = some a) : Im G.K H ι (.ref n) (.ref a) := by unfold Im; exact ⟨a, h, rfl⟩
theorem im_ref' {n : Nat} {v : V} (h : Im G.K H ι (.ref n) v) : ∃ a, ι[n]? = some a ∧ v = .ref a := by unfold Im at h; exact h
theorem im_tup' {l : List A} {v : V} (h : Im G.K H ι (.tup l) v) : ∃ a xs, v = .ref a ∧ SqT G.K H a xs ∧ ImL G.K H ι l xs := by unfold Im at h; exact h
theorem imL_get {ds : List A} {vs : List V} : ∀ {i : Nat} {d : A}, ImL G.K H ι ds vs → ds[i]? = some d → ∃ v, vs[i]? = some v ∧ Im G.K H ι d v := by
  induction ds generalizing vs with
  | nil => intro i d _ e; cases e
  | cons a ds ih =>
    intro i d h e
    obtain ⟨w, ws, rfl, h2, h3⟩ := imL_cons' h
    cases i with
    | zero => cases e; exact ⟨w, rfl, h2⟩
    | succ i => exact ih (i := i) h3 e
theorem imL_dropLast {ds : List A} {vs : List V} (h : ImL G.K H ι ds vs) : ImL G.K H ι ds.dropLast vs.dropLast := by
  induction ds generalizing vs with
  | nil => rw [imL_nil' h]; exact imL_nil
  | cons a ds ih =>
    obtain ⟨w, ws, rfl, h2, h3⟩ := imL_cons' h
    cases ds with
    | nil => rw [imL_nil' h3]; exact imL_nil
    | cons b ds =>
      obtain ⟨u, us, rfl, _, _⟩ := imL_cons' h3
      exact imL_cons h2 (ih h3)
theorem imL_drop {ds : List A} {vs : List V} (h : ImL G.K H ι ds vs) : ∀ n, ImL G.K H ι (ds.drop n) (vs.drop n) := by
  induction ds generalizing vs with
  | nil => intro n; rw [imL_nil' h]; simp only [List.drop_nil]; exact imL_nil
  | cons a ds ih =>
    intro n
    obtain ⟨w, ws, rfl, h2, h3⟩ := imL_cons' h
    cases n with
    | zero => exact imL_cons h2 h3
    | succ n => exact ih h3 n
theorem imL_take {ds : List A} {vs : List V} (h : ImL G.K H ι ds vs) : ∀ n, ImL G.K H ι (ds.take n) (vs.take n) := by
  induction ds generalizing vs with
  | nil => intro n; rw [imL_nil' h]; simp only [List.take_nil]; exact imL_nil
  | cons a ds ih =>
    intro n
    obtain ⟨w, ws, rfl, h2, h3⟩ := imL_cons' h
    cases n with
    | zero => exact imL_nil
    | succ n => exact imL_cons h2 (ih h3 n)
theorem imL_set {ds : List A} {vs : List V} {d : A} {v : V} (h : ImL G.K H ι ds vs) (hd : Im G.K H ι d v) : ∀ n, ImL G.K H ι (ds.set n d) (vs.set n v) := by
  induction ds generalizing vs with
  | nil => intro n; rw [imL_nil' h]; exact imL_nil
  | cons a ds ih =>
    intro n
    obtain ⟨w, ws, rfl, h2, h3⟩ := imL_cons' h
    cases n with
    | zero => exact imL_cons hd h3
    | succ n => exact imL_cons h2 (ih h3 n)
end
end Mx

/-! ### MkTupMul -/
set_option Elab.async false
set_option linter.all false
set_option maxRecDepth 100000
set_option maxHeartbeats 4000000
namespace L2
open PySem PySem.Spec PyProof.Rows
theorem mk_tuple_mul0 (l : Addr) (items : Array Value) (n : Nat) (dd : Option Addr) (sl : Array (Option Value)) (u : Tok) (c1 : (items.isEmpty || (0 : Int) == 1) = false) :
    Meets (Builtin.«tuple.__mul__» ⟨[.ref l, .int 0 u], []⟩) (fun _ R s => s.heap.get? l = some { cls := .type "tuple", dict := dd, data := .seq items n, slots := sl } ∧
      R (.ok (.ret (Value.ref s.heap.objs.size))) { s with heap := s.heap.push { cls := Value.type "tuple", data := Data.seq #[] }, toks := s.toks }) :=
  .of_wp fun prog w A R s h => by
    obtain ⟨hp, g, d, tk, os⟩ := s
    obtain ⟨hl, h⟩ := h
    have f1 := AutoSeq1.idx_int
    wp_walk using wpAny_loadPart' hl
    repeat (first
      | (refine wpAny_ite_false (decide_eq_false (by rw [c1]; exact Bool.false_ne_true)) ?_; wp_walk using wpAny_loadPart' hl)
      | (refine wpAny_ite_false (decide_eq_false (by decide)) ?_; wp_walk using wpAny_loadPart' hl)
      | (refine wpAny_ite_true (decide_eq_true (by decide)) ?_; wp_walk using wpAny_loadPart' hl))
    all_goals exact ⟨_, rfl, h⟩
theorem mk_tuple_mul1 (l : Addr) (items : Array Value) (n : Nat) (sl : Array (Option Value)) (u : Tok) (dd : Option Addr) :
    Meets (Builtin.«tuple.__mul__» ⟨[.ref l, .int 1 u], []⟩) (fun _ R s => s.heap.get? l = some { cls := .type "tuple", dict := dd, data := .seq items n, slots := sl } ∧ R (.ok (.ret (Value.ref l))) s) :=
  .of_wp fun prog w A R s h => by
    obtain ⟨hp, g, d, tk, os⟩ := s
    obtain ⟨hl, h⟩ := h
    have f1 := AutoSeq1.idx_int
    have c1 : (items.isEmpty || (1 : Int) == 1) = true := by rw [show ((1 : Int) == 1) = true by decide, Bool.or_true]
    wp_walk using wpAny_loadPart' hl
    exact ⟨_, rfl, h⟩
/-- t * k, t not empty, any small k -/
def rRepA (K : PySem.W.Frag) : R2 := fun x y H Q => ∃ l k xs, x = .ref l ∧ y = .int k ∧ SqT K H l xs ∧ xs ≠ [] ∧ 0 ≤ k ∧ k ≤ 5000 ∧ xs.length ≤ 100 ∧ (k = 1 → Q (.ref l) H) ∧ (k ≠ 1 → ∀ p, H p = none → Q (.ref p) (upd H p (.tup (List.replicate k.toNat xs).flatten)))
theorem op_repA {X : Cx} : OpR X (binaryOp .Mult) (rRepA X.K) := by
  intro pins s σ H x y v u Q I rx ry h
  obtain ⟨l, k, xs, rfl, rfl, hT, hne, h1, h2, hz, q1, q⟩ := h
  cases rx
  obtain ⟨t, rfl⟩ := ry
  obtain ⟨its, r, ⟨⟨cls, dd, data, sl⟩, ho, hc, n, hd⟩, hs⟩ := I.tuple hT
  simp only at hc hd
  subst hc hd
  have hle : its.length = xs.length := r.length.symm
  have hi : its.toArray.isEmpty = false := by
    cases its with
    | nil => exact absurd (List.eq_nil_of_length_eq_zero hle.symm) hne
    | cons a b => rfl
  have go : ∀ {P : Result → Shared → Prop}, codeAny (model X.prog X.w) X.A (.call (.builtin "tuple.__mul__") ⟨[.ref l, .int k t], []⟩) P s → True := fun _ => True.intro
  by_cases k1 : k = 1
  · subst k1
    refine wpAny_binaryOp_repeat_ref (T := "tuple") (U := "int") (by decide) ⟨_, ho, rfl⟩ (fun s' => typeIs_int s' 1 t) noFill_tuple_mul F.fills_int_mul F.slot_int_rmul repeat_tuple F.slot_int_index.lookup
      (call_meets F.slot_int_rmul (typeIs_int s 1 t) F.entry_int_rmul (F.args_int_rmul_2 _ _) (int_rmul_tuple 1 t l its.toArray n dd sl)
        ⟨ho, rfl, ⟨_, ho, rfl⟩, call_meets F.slot_tuple_mul ⟨_, ho, rfl⟩ F.entry_tuple_mul (F.args_tuple_mul_2 _ _) (mk_tuple_mul1 l its.toArray n sl t dd) ⟨ho, ⟨.ref l, H, I, rfl, q1 rfl⟩⟩⟩)
  · have lay : EP X pins σ Q (.ref s.heap.objs.size) { s with heap := s.heap.push { cls := Value.type "tuple", data := Data.seq (List.replicate k.toNat its).flatten.toArray }, toks := s.toks } := by
      refine ⟨.ref s.heap.objs.size, _, I.laid (t' := s.toks) (o := .tup (List.replicate k.toNat xs).flatten) (fun b ob q => Heap.get?_push_of_some _ q) (Nat.le_refl _) ?_, rfl, q k1 _ (I.hok.fresh (Nat.le_refl _))⟩
      exact ⟨by rw [PyProof.Rows.lm_len_rep_flat, sizeLine_eq]; have a1 : k.toNat * xs.length ≤ 5000 * 100 := Nat.mul_le_mul (by omega) hz; omega, _, r.rep k.toNat, IsTup.new _ _⟩
    by_cases k0 : k = 0
    · subst k0
      refine wpAny_binaryOp_repeat_ref (T := "tuple") (U := "int") (by decide) ⟨_, ho, rfl⟩ (fun s' => typeIs_int s' 0 t) noFill_tuple_mul F.fills_int_mul F.slot_int_rmul repeat_tuple F.slot_int_index.lookup
        (call_meets F.slot_int_rmul (typeIs_int s 0 t) F.entry_int_rmul (F.args_int_rmul_2 _ _) (int_rmul_tuple 0 t l its.toArray n dd sl)
          ⟨ho, rfl, ⟨_, ho, rfl⟩, call_meets F.slot_tuple_mul ⟨_, ho, rfl⟩ F.entry_tuple_mul (F.args_tuple_mul_2 _ _) (mk_tuple_mul0 l its.toArray n dd sl t (by rw [hi]; rfl)) ⟨ho, lay⟩⟩)
    · have hsz0 : its.toArray.size = xs.length := by rw [List.size_toArray, hle]
      have hm : ((its.toArray.size : Nat) : Int) * k ≤ 1000000 := by
        rw [hsz0]
        have a1 : ((xs.length : Nat) : Int) * k ≤ 100 * k := Int.mul_le_mul_of_nonneg_right (by omega) (by omega)
        omega
      have flen : (List.replicate k.toNat its).flatten.length ≤ sizeLine := by
        rw [PyProof.Rows.lm_len_rep_flat, hle, sizeLine_eq]
        have a1 : k.toNat * xs.length ≤ 5000 * 100 := Nat.mul_le_mul (by omega) hz
        omega
      have c0 : (decide (k < -(2 ^ 63)) || decide (k ≥ 2 ^ 63)) = false := by rw [decide_eq_false (by omega), decide_eq_false (by omega)] <;> rfl
      have c1 : (its.toArray.isEmpty || k == 1) = false := by rw [hi, Bool.false_or]; exact beq_eq_false_iff_ne.mpr k1
      have c2 : (decide (k ≤ 0) || its.toArray.isEmpty) = false := by rw [hi, Bool.or_false]; exact decide_eq_false (by omega)
      have c4 : Builtin.Tuple.tupleTooMany (((its.toArray.size : Nat) : Int) * k) = false := by
        unfold Builtin.Tuple.tupleTooMany
        rw [sizeLine_eq]
        exact decide_eq_false (by omega)
      refine wpAny_binaryOp_repeat_ref (T := "tuple") (U := "int") (by decide) ⟨_, ho, rfl⟩ (fun s' => typeIs_int s' k t) noFill_tuple_mul F.fills_int_mul F.slot_int_rmul repeat_tuple F.slot_int_index.lookup
        (call_meets F.slot_int_rmul (typeIs_int s k t) F.entry_int_rmul (F.args_int_rmul_2 _ _) (int_rmul_tuple k t l its.toArray n dd sl)
          ⟨ho, rfl, ⟨_, ho, rfl⟩, call_meets F.slot_tuple_mul ⟨_, ho, rfl⟩ F.entry_tuple_mul (F.args_tuple_mul_2 _ _) (tuple_mulW l its.toArray n dd sl k t c0 c1 c2 (by omega) c4 (by rw [size_rep, List.size_toArray]; exact flen)) ⟨ho, ?_⟩⟩)
      rw [size_rep]
      exact lay
end L2

/-! ### MkX4 -/
set_option Elab.async false
set_option linter.all false
set_option maxRecDepth 100000
set_option maxHeartbeats 4000000
namespace Mx
open PySem PySem.Spec PyProof.Rows L2
open GxR (TabG Tabbed)
theorem opR_or {X : Cx} {f : Value → Value → Sem Value} {r r' : R2} (h : OpR X f r) (h' : OpR X f r') : OpR X f (fun x y H Q => r x y H Q ∨ r' x y H Q) := by
  intro pins s σ H x y v u Q I rx ry q
  rcases q with q | q
  · exact h pins s σ H x y v u Q I rx ry q
  · exact h' pins s σ H x y v u Q I rx ry q
theorem callR_or {X : Cx} {f : Value} {r r' : List V → Hp → VK → Prop} (h : CallR X f r) (h' : CallR X f r') : CallR X f (fun xs H Q => r xs H Q ∨ r' xs H Q) := by
  intro pins s σ H xs us Q I rx q
  rcases q with q | q
  · exact h pins s σ H xs us Q I rx q
  · exact h' pins s σ H xs us Q I rx q
section
variable {G : Gx} {T : List Addr} {E : XK}
/-! ### ints -/
def fI2 (g : Int → Int → A) : F2 := fun a b st => match a, b with
  | .int i, .int j => some (g i j, st)
  | _, _ => none
theorem ok_I0 {g : Int → Int → V} {gA : Int → Int → A} (hg : ∀ i j H ι, Im G.K H ι (gA i j) (g i j)) : Ok2 G (rI0 g) (fI2 gA) := fun ι st H a b x y c Q R ia ib e q => by
  unfold fI2 at e
  split at e
  · cases e
    rw [im_int' ia, im_int' ib]
    exact ⟨_, _, rfl, rfl, PE1.at q R (hg _ _ _ _)⟩
  · cases e
theorem ok_lt : Ok2 G (rI0 fun i j => .bl (decide (i < j))) (fI2 fun i j => .bl (decide (i < j))) := ok_I0 fun _ _ _ _ => im_bl
theorem ok_le : Ok2 G (rI0 fun i j => .bl (decide (i ≤ j))) (fI2 fun i j => .bl (decide (i ≤ j))) := ok_I0 fun _ _ _ _ => im_bl
theorem ok_gt : Ok2 G (rI0 fun i j => .bl (decide (j < i))) (fI2 fun i j => .bl (decide (j < i))) := ok_I0 fun _ _ _ _ => im_bl
theorem ok_ge : Ok2 G (rI0 fun i j => .bl (decide (j ≤ i))) (fI2 fun i j => .bl (decide (j ≤ i))) := ok_I0 fun _ _ _ _ => im_bl
theorem ok_add : Ok2 G (rI0 fun i j => .int (i + j)) (fI2 fun i j => .int (i + j)) := ok_I0 fun _ _ _ _ => im_int
theorem ok_sub : Ok2 G (rI0 fun i j => .int (i - j)) (fI2 fun i j => .int (i - j)) := ok_I0 fun _ _ _ _ => im_int
def fMul : F2 := fun a b st => match a, b with
  | .int i, .int j => if -(2 ^ 64) < i ∧ i < 2 ^ 64 then some (.int (i * j), st) else none
  | _, _ => none
def fU (g : Int → A) : F1 := fun a st => match a with
  | .int i => some (g i, st)
  | _ => none
theorem ok_neg : Ok1 G (rU fun i => .int (-i)) (fU fun i => .int (-i)) := fun ι st H a x c Q R ia e q => by
  unfold fU at e
  split at e
  · cases e
    rw [im_int' ia]
    exact ⟨_, rfl, PE1.at q R im_int⟩
  · cases e
/-- a op b op c -/
def mChain (f f' : F2) (ma mb mc : EM) : EM := fun env st => (ma env st).bind fun a => (mb env a.2).bind fun b => (ofO (f a.1 b.1 b.2)).bind fun z => (asB z).bind fun k => if k.1 = true then (mc env k.2).bind fun c => ofO (f' b.1 c.1 c.2) else .ok (.bl false, k.2)
theorem ex_chain {r r' : R2} {f f' : F2} {ta tb tc : TE} {ma mb mc : EM} (hf : Ok2 G r f) (hf' : Ok2 G r' f') (ha : Ex G E ta ma) (hb : Ex G E tb mb) (hc : Ex G E tc mc) : Ex G E (tChain r r' ta tb tc) (mChain f f' ma mb mc) := fun ι env st σ H Q R Ev h => by
  refine ha.run R Ev h fun ι1 H1 a s1 v f1 R1 Ev1 im h1 => ?_
  refine hb.run R1 Ev1 h1 fun ι2 H2 b s2 w f2 R2 Ev2 im2 h2 => ?_
  obtain ⟨z, e, q⟩ := ofO_holds (holds_bind h2)
  refine hf _ _ _ _ _ _ _ _ _ R2 (R1.im f2 im) im2 e (fun ι3 H3 x f3 R3 im3 => ?_)
  obtain ⟨k, e1, e2, q⟩ := asB_run (holds_bind q) im3
  refine ⟨k, e2, ?_⟩
  cases k with
  | true =>
    refine iteT (hc.run R3 (R2.env f3 Ev2) (sh f3 (show Mx.R.holds _ _ _ from q) fun _ q => q) fun ι4 H4 c s4 u f4 R4 Ev4 im4 h4 => ?_)
    obtain ⟨z2, e3, q3⟩ := ofO_holds h4
    exact hf' _ _ _ _ _ _ _ _ _ R4 (R3.im f4 (R2.im f3 im2)) im4 e3 (PE1.sh (((f1.trans f2).trans f3).trans f4) q3)
  | false => exact iteF ((show PE1 G ι H Q (.bl false, z.2) from q) _ _ _ ((f1.trans f2).trans f3) R3 im_bl)
/-! ### isinstance -/
def toD : A → Mk.D
  | .non => .non | .bl b => .bl b | .int i => .int i | .str s => .str s | .tup _ => .tup [] | .ref _ => .lst [] | .ty _ => .non
def okIs (a : A) (st : Sto) : Bool := match a with
  | .ty _ => false
  | .ref k => match st[k]? with
    | some (.lst _) => true
    | _ => false
  | _ => true
def isiA (a : A) (st : Sto) (n : String) : Option Bool := if okIs a st = true then (match n with
  | "int" => some (Mk.isInt (toD a))
  | "bool" => some (Mk.isBool (toD a))
  | "str" => some (Mk.isStr (toD a))
  | "tuple" => some (Mk.isTup (toD a))
  | "list" => some (Mk.isLst (toD a))
  | _ => none) else none
theorem ty_of {ι : List Addr} {H : Hp} {st : Sto} (R : Rl G ι H st) {a : A} {v : V} (im : Im G.K H ι a v) (h1 : ∀ n, a ≠ .ty n) (h2 : ∀ k, a = .ref k → ∃ l, st[k]? = some (.lst l)) : TyX G.K H v (.type (Mk.tyD (toD a))) := by
  cases a with
  | non => rw [im_non' im]; exact .base .non
  | bl b => rw [im_bl' im]; exact .base (.bl b)
  | int i => rw [im_int' im]; exact .base (.int i)
  | str s => rw [im_str' im]; exact .base (.str s)
  | ty n => exact absurd rfl (h1 n)
  | tup l =>
    obtain ⟨a, xs, rfl, h2, _⟩ := im_tup' im
    rcases h2 with (h | ⟨o, h⟩) | ⟨o, its, n, h, c, _⟩
    · exact .base (.tup h)
    · exact .fTuple h
    · exact .kTuple h c
  | ref k =>
    obtain ⟨l, e⟩ := h2 k rfl
    obtain ⟨a, xs, rfl, _, h, _⟩ := R.lst e im
    exact .base (.lst h)
def fIsi : FL := fun l st => match l with
  | [a, .ty n] => (isiA a st n).map fun b => (.bl b, st)
  | _ => none
theorem ok_isi : OkL G (rIsi G.K) fIsi := fun ι st H as xs c Q R im e q => by
  unfold fIsi at e
  split at e
  · rename_i a n
    obtain ⟨v, w, rfl, i1, i2⟩ := imL_2 im
    rw [im_ty' i2]
    cases hb : isiA a st n with
    | none => rw [hb] at e; cases e
    | some b =>
      rw [hb] at e
      cases e
      have key : (∀ n, a ≠ .ty n) ∧ (∀ k, a = .ref k → ∃ l, st[k]? = some (.lst l)) ∧ kitB (Mk.tyD (toD a)) n = some b := by
        unfold isiA at hb
        split at hb
        · rename_i ho
          refine ⟨fun m z => (by subst z; cases ho), fun k z => ?_, ?_⟩
          · subst z
            unfold okIs at ho
            dsimp only at ho
            split at ho
            · rename_i l hl; exact ⟨l, hl⟩
            · cases ho
          · split at hb
            · cases hb; exact Mk.kit_int _
            · cases hb; exact Mk.kit_bool _
            · cases hb; exact Mk.kit_str _
            · cases hb; exact Mk.kit_tuple _
            · cases hb; exact Mk.kit_list _
            · cases hb
        · cases hb
      exact ⟨v, .ty n, _, _, _, rfl, .ty _, ty_of R i1 key.1 key.2.1, kit_ty key.2.2, PE1.at q R im_bl⟩
  · cases e
/-! ### equal -/
def mapP (f : A → Option PyData) : List A → Option (List PyData)
  | [] => some []
  | a :: l => match f a, mapP f l with
    | some d, some ds => some (d :: ds)
    | _, _ => none
def toP (st : Sto) : Nat → A → Option PyData
  | 0, a => match a with
    | .non => some .none
    | .bl b => some (.bool b)
    | .int i => some (.int i)
    | .str s => some (.str s)
    | _ => none
  | k + 1, a => match a with
    | .non => some .none
    | .bl b => some (.bool b)
    | .int i => some (.int i)
    | .str s => some (.str s)
    | .ty _ => none
    | .ref n => match st[n]? with
      | some (.lst l) => (mapP (toP st k) l).map .list
      | _ => none
    | .tup l => (mapP (toP st k) l).map .tuple
def toPs (st : Sto) (k : Nat) (l : List A) : Option (List PyData) := mapP (toP st k) l
mutual
theorem dp_of {ι : List Addr} {H : Hp} {st : Sto} (R : Rl G ι H st) : ∀ {k : Nat} {a : A} {v : V} {d : PyData}, Im G.K H ι a v → toP st k a = some d → Dp G.K H v d
  | 0, a, v, d, im, e => by
    cases a with
    | non => cases e; rw [im_non' im]; exact .non
    | bl b => cases e; rw [im_bl' im]; exact .bl b
    | int i => cases e; rw [im_int' im]; exact .int i
    | str s => cases e; rw [im_str' im]; exact .str s
    | ty n => cases e
    | ref n => cases e
    | tup l => cases e
  | k + 1, a, v, d, im, e => by
    cases a with
    | non => cases e; rw [im_non' im]; exact .non
    | bl b => cases e; rw [im_bl' im]; exact .bl b
    | int i => cases e; rw [im_int' im]; exact .int i
    | str s => cases e; rw [im_str' im]; exact .str s
    | ty n => cases e
    | ref n =>
      have e : (match st[n]? with
        | some (.lst l) => (mapP (toP st k) l).map .list
        | _ => none) = some d := e
      split at e
      · rename_i l hl
        cases hd : mapP (toP st k) l with
        | none => rw [hd] at e; cases e
        | some ds =>
          rw [hd] at e
          cases e
          obtain ⟨a, xs, rfl, _, h, il⟩ := R.lst hl im
          exact .lst (.inl (.inl h)) (dpk_of R k l il hd)
      · cases e
    | tup l =>
      have e : (mapP (toP st k) l).map .tuple = some d := e
      cases hd : mapP (toP st k) l with
      | none => rw [hd] at e; cases e
      | some ds =>
        rw [hd] at e
        cases e
        obtain ⟨a, xs, rfl, h, il⟩ := im_tup' im
        exact .tup h (dpk_of R k l il hd)
termination_by k => (k, 0)
theorem dpk_of {ι : List Addr} {H : Hp} {st : Sto} (R : Rl G ι H st) : ∀ (k : Nat) (l : List A) {vs : List V} {ds : List PyData}, ImL G.K H ι l vs → mapP (toP st k) l = some ds → DpAll G.K H vs ds
  | k, [], vs, ds, im, e => by cases e; rw [imL_nil' im]; exact .nil
  | k, a :: l, vs, ds, im, e => by
    have e : (match toP st k a, mapP (toP st k) l with
      | some d, some ds => some (d :: ds)
      | _, _ => none) = some ds := e
    split at e
    · rename_i d ds' h1 h2
      cases e
      obtain ⟨v, vs, rfl, i1, i2⟩ := imL_cons' im
      exact .cons (dp_of R i1 h1) (dpk_of R k l i2 h2)
    · cases e
termination_by k l => (k, l.length + 1)
end
theorem dps_of {ι : List Addr} {H : Hp} {st : Sto} (R : Rl G ι H st) {k : Nat} {l : List A} {vs : List V} {ds : List PyData} (im : ImL G.K H ι l vs) (e : toPs st k l = some ds) : DpAll G.K H vs ds := dpk_of R k l im e
def eqDeep (a b : A) (st : Sto) : Option Bool := match toP st 40 a, toP st 40 b with
  | some d, some e => if (SeqAt.shaped d && SeqAt.shaped e) = true then some (PyData.eqv d e) else none
  | _, _ => none
def eqA (a b : A) (st : Sto) : Option Bool := match a, b with
  | .int i, .int j => some (decide (i = j))
  | .str s, .str t => some (decide (s = t))
  | .non, .non => some true
  | .non, .int _ => some false
  | .int _, .non => some false
  | .non, .str _ => some false
  | .str _, .non => some false
  | .bl b, .bl c => some (decide (b = c))
  | .int _, .str _ => some false
  | .str _, .int _ => some false
  | a, b => eqDeep a b st
def rEqA (K : PySem.W.Frag) : R2 := fun x y H Q => rEq x y H Q ∨ rEqD K x y H Q
def rNeA (K : PySem.W.Frag) : R2 := fun x y H Q => rNe x y H Q ∨ rNeD K x y H Q
theorem op_eqA {X : Cx} (hu : X.A.units + 64 < cLine) : OpR X (compareOp .Eq) (rEqA X.K) := opR_or op_eq (op_eqD hu)
theorem op_neA {X : Cx} (hu : X.A.units + 64 < cLine) : OpR X (compareOp .NotEq) (rNeA X.K) := opR_or op_ne (op_neD hu)
theorem eqA_ok {ι : List Addr} {H : Hp} {st : Sto} (R : Rl G ι H st) {a b : A} {x y : V} {c : Bool} (ia : Im G.K H ι a x) (ib : Im G.K H ι b y) (e : eqA a b st = some c) :
    (scal x y = true ∧ decide (x = y) = c) ∨ ∃ d e', Dp G.K H x d ∧ Dp G.K H y e' ∧ SeqAt.shaped d = true ∧ SeqAt.shaped e' = true ∧ PyData.eqv d e' = c := by
  unfold eqA at e
  split at e
  · cases e; rw [im_int' ia, im_int' ib]; exact .inl ⟨rfl, by simp⟩
  · cases e; rw [im_str' ia, im_str' ib]; exact .inl ⟨rfl, by simp⟩
  · cases e; rw [im_non' ia, im_non' ib]; exact .inl ⟨rfl, by simp⟩
  · cases e; rw [im_non' ia, im_int' ib]; exact .inl ⟨rfl, by simp⟩
  · cases e; rw [im_int' ia, im_non' ib]; exact .inl ⟨rfl, by simp⟩
  · cases e; rw [im_non' ia, im_str' ib]; exact .inl ⟨rfl, by simp⟩
  · cases e; rw [im_str' ia, im_non' ib]; exact .inl ⟨rfl, by simp⟩
  · cases e; rw [im_bl' ia, im_bl' ib]; exact .inl ⟨rfl, by simp⟩
  · cases e; rw [im_int' ia, im_str' ib]; exact .inl ⟨rfl, by simp⟩
  · cases e; rw [im_str' ia, im_int' ib]; exact .inl ⟨rfl, by simp⟩
  · unfold eqDeep at e
    split at e
    · rename_i d e' h1 h2
      split at e
      · rename_i hs
        cases e
        rw [Bool.and_eq_true] at hs
        exact .inr ⟨d, e', dp_of R ia h1, dp_of R ib h2, hs.1, hs.2, rfl⟩
      · cases e
    · cases e
def fEq : F2 := fun a b st => (eqA a b st).map fun c => (.bl c, st)
def fNe : F2 := fun a b st => (eqA a b st).map fun c => (.bl (!c), st)
theorem ok_eq : Ok2 G (rEqA G.K) fEq := fun ι st H a b x y c Q R ia ib e q => by
  unfold fEq at e
  cases h : eqA a b st with
  | none => rw [h] at e; cases e
  | some c' =>
    rw [h] at e
    cases e
    rcases eqA_ok R ia ib h with ⟨s, z⟩ | ⟨d, e', h1, h2, h3, h4, z⟩
    · exact .inl ⟨s, by rw [z]; exact PE1.at q R im_bl⟩
    · exact .inr ⟨d, e', h1, h2, h3, h4, by rw [z]; exact PE1.at q R im_bl⟩
theorem ok_ne : Ok2 G (rNeA G.K) fNe := fun ι st H a b x y c Q R ia ib e q => by
  unfold fNe at e
  cases h : eqA a b st with
  | none => rw [h] at e; cases e
  | some c' =>
    rw [h] at e
    cases e
    rcases eqA_ok R ia ib h with ⟨s, z⟩ | ⟨d, e', h1, h2, h3, h4, z⟩
    · exact .inl ⟨s, by rw [z]; exact PE1.at q R im_bl⟩
    · exact .inr ⟨d, e', h1, h2, h3, h4, by rw [z]; exact PE1.at q R im_bl⟩
/-! ### is None, is True -/
def isNon : A → Bool
  | .non => true
  | _ => false
theorem isNon_ok {ι : List Addr} {H : Hp} {a : A} {x : V} (im : Im G.K H ι a x) : decide (x = .non) = isNon a := by
  cases a with
  | non => rw [im_non' im]; rfl
  | bl b => rw [im_bl' im]; rfl
  | int i => rw [im_int' im]; rfl
  | str s => rw [im_str' im]; rfl
  | ty n => rw [im_ty' im]; rfl
  | tup l => obtain ⟨a, xs, rfl, _⟩ := im_tup' im; rfl
  | ref k => obtain ⟨a, _, rfl⟩ := im_ref' im; rfl
def fIsN : F2 := fun a b st => match b with
  | .non => some (.bl (isNon a), st)
  | _ => none
def fNotN : F2 := fun a b st => match b with
  | .non => some (.bl (!isNon a), st)
  | _ => none
theorem ok_isN : Ok2 G (fun x y H Q => y = .non ∧ Q (.bl (decide (x = .non))) H) fIsN := fun ι st H a b x y c Q R ia ib e q => by
  unfold fIsN at e
  split at e
  · cases e
    exact ⟨im_non' ib, by rw [isNon_ok ia]; exact PE1.at q R im_bl⟩
  · cases e
theorem ok_notN : Ok2 G (fun x y H Q => y = .non ∧ Q (.bl (!decide (x = .non))) H) fNotN := fun ι st H a b x y c Q R ia ib e q => by
  unfold fNotN at e
  split at e
  · cases e
    exact ⟨im_non' ib, by rw [isNon_ok ia]; exact PE1.at q R im_bl⟩
  · cases e
/-! ### x[i] -/
def ixA (a b : A) (st : Sto) : Option A := match a, b with
  | .tup l, .int i => atI l i
  | .ref n, .int i => match st[n]? with
    | some (.lst l) => atI l i
    | _ => none
  | .str z, .int i => if z.length ≤ sizeLine then (atI z.cps.toList i).map fun c => .str ⟨#[c]⟩ else none
  | _, _ => none
def fIx : F2 := fun a b st => (ixA a b st).map fun c => (c, st)
theorem atI_im {ι : List Addr} {H : Hp} {l : List A} {xs : List V} {i : Int} {c : A} (il : ImL G.K H ι l xs) (e : atI l i = some c) : ∃ v, atI xs i = some v ∧ Im G.K H ι c v := by
  unfold atI at e ⊢
  rw [il.length]
  cases h : ixN l.length i with
  | none => rw [h] at e; cases e
  | some j =>
    rw [h] at e
    exact imL_get il e
theorem ok_ix : Ok2 G (rIx G.K) fIx := fun ι st H a b x y c Q R ia ib e q => by
  unfold fIx at e
  cases h : ixA a b st with
  | none => rw [h] at e; cases e
  | some c' =>
    rw [h] at e
    cases e
    unfold ixA at h
    split at h
    · obtain ⟨p, xs, rfl, hx, il⟩ := im_tup' ia
      obtain ⟨v, e2, iv⟩ := atI_im il h
      exact .inr (.inl ⟨p, xs, _, v, rfl, im_int' ib, hx, e2, PE1.at q R iv⟩)
    · split at h
      · rename_i l hl
        obtain ⟨p, xs, rfl, _, hx, il⟩ := R.lst hl ia
        obtain ⟨v, e2, iv⟩ := atI_im il h
        exact .inl ⟨p, xs, _, v, rfl, im_int' ib, .inl (.inl hx), e2, PE1.at q R iv⟩
      · cases h
    · split at h
      · rename_i hz
        rename_i z i
        cases hc : atI z.cps.toList i with
        | none => rw [hc] at h; cases h
        | some ch =>
          rw [hc] at h
          cases h
          exact .inr (.inr ⟨z, i, ch, im_str' ia, im_int' ib, hz, hc, PE1.at q R im_str⟩)
      · cases h
    · cases h
/-! ### len, tuple, list, str -/
def fLen : FL := fun l st => match l with
  | [.tup l] => some (.int l.length, st)
  | [.ref n] => match st[n]? with
    | some (.lst l) => some (.int l.length, st)
    | _ => none
  | [.str z] => if z.length ≤ sizeLine then some (.int z.length, st) else none
  | _ => none
def rLenA (K : PySem.W.Frag) : List V → Hp → VK → Prop := fun xs H Q => (∃ p ys, xs = [.ref p] ∧ (SqL K H p ys ∨ SqT K H p ys) ∧ Q (.int ys.length) H) ∨ (∃ z : Str, xs = [.str z] ∧ z.length ≤ sizeLine ∧ Q (.int z.length) H)
theorem call_lenA {X : Cx} : CallR X (.builtin "len") (rLenA X.K) := callR_or call_len_seq call_len_str
theorem ok_len : OkL G (rLenA G.K) fLen := fun ι st H as xs c Q R im e q => by
  unfold fLen at e
  split at e
  · cases e
    obtain ⟨v, rfl, i1⟩ := imL_1 im
    obtain ⟨p, ys, rfl, hx, il⟩ := im_tup' i1
    exact .inl ⟨p, ys, rfl, .inr hx, by rw [il.length]; exact PE1.at q R im_int⟩
  · split at e
    · rename_i l hl
      cases e
      obtain ⟨v, rfl, i1⟩ := imL_1 im
      obtain ⟨p, ys, rfl, _, hx, il⟩ := R.lst hl i1
      exact .inl ⟨p, ys, rfl, .inl (.inl (.inl hx)), by rw [il.length]; exact PE1.at q R im_int⟩
    · cases e
  · split at e
    · rename_i hz
      cases e
      obtain ⟨v, rfl, i1⟩ := imL_1 im
      rw [im_str' i1]
      exact .inr ⟨_, rfl, hz, PE1.at q R im_int⟩
    · cases e
  · cases e
def fTuple : FL := fun l st => match l with
  | [.tup l] => some (.tup l, st)
  | [.ref n] => match st[n]? with
    | some (.lst l) => some (.tup l, st)
    | _ => none
  | _ => none
theorem ok_tuple (M : AmX G T) : OkL G (fun xs H Q => ∃ p ys, xs = [.ref p] ∧ ((SqL G.K H p ys ∧ ∀ l, H l = none → Q (.ref l) (upd H l (.tup ys))) ∨ (SqT G.K H p ys ∧ Q (.ref p) H))) fTuple := fun ι st H as xs c Q R im e q => by
  unfold fTuple at e
  split at e
  · cases e
    obtain ⟨v, rfl, i1⟩ := imL_1 im
    obtain ⟨p, ys, rfl, hx, il⟩ := im_tup' i1
    exact ⟨p, ys, rfl, .inr ⟨hx, PE1.at q R i1⟩⟩
  · split at e
    · rename_i l hl
      cases e
      obtain ⟨v, rfl, i1⟩ := imL_1 im
      obtain ⟨p, ys, rfl, _, hx, il⟩ := R.lst hl i1
      exact ⟨p, ys, rfl, .inl ⟨.inl (.inl hx), fun l hl => PE1.tup M R il q hl⟩⟩
    · cases e
  · cases e
def fList : FL := fun l st => match l with
  | [.tup l] => some (.ref st.length, st ++ [.lst l])
  | [.ref n] => match st[n]? with
    | some (.lst l) => some (.ref st.length, st ++ [.lst l])
    | _ => none
  | _ => none
theorem ok_list (M : AmX G T) : OkL G (fun xs H Q => ∃ p ys, xs = [.ref p] ∧ (SqL G.K H p ys ∨ SqT G.K H p ys) ∧ ∀ l, H l = none → Q (.ref l) (upd H l (.lst ys))) fList := fun ι st H as xs c Q R im e q => by
  unfold fList at e
  split at e
  · cases e
    obtain ⟨v, rfl, i1⟩ := imL_1 im
    obtain ⟨p, ys, rfl, hx, il⟩ := im_tup' i1
    exact ⟨p, ys, rfl, .inr hx, fun l hl => PE1.lst M R il q hl⟩
  · split at e
    · rename_i l hl
      cases e
      obtain ⟨v, rfl, i1⟩ := imL_1 im
      obtain ⟨p, ys, rfl, _, hx, il⟩ := R.lst hl i1
      exact ⟨p, ys, rfl, .inl (.inl (.inl hx)), fun l hl => PE1.lst M R il q hl⟩
    · cases e
  · cases e
def fStrI : FL := fun l st => match l with
  | [.int i] => if i.natAbs.log2 < 1920 then some (.str (toString i), st) else none
  | _ => none
theorem ok_strI : OkL G (fun xs H Q => ∃ i : Int, xs = [.int i] ∧ i.natAbs.log2 < 1920 ∧ Q (.str (toString i)) H) fStrI := fun ι st H as xs c Q R im e q => by
  unfold fStrI at e
  split at e
  · split at e
    · rename_i hi
      cases e
      obtain ⟨v, rfl, i1⟩ := imL_1 im
      exact ⟨_, by rw [im_int' i1], hi, PE1.at q R im_str⟩
    · cases e
  · cases e
/-! ### displays -/
theorem pe1_len {n : Nat} : True := trivial
def mTup (ml : LM) : EM := fun env st => (ml env st).bind fun l => if l.1.length ≤ sizeLine then .ok (.tup l.1, l.2) else .fail
def mLst (ml : LM) : EM := fun env st => (ml env st).bind fun l => if l.1.length ≤ sizeLine then .ok (.ref l.2.length, l.2 ++ [.lst l.1]) else .fail
theorem ex_tup (M : AmX G T) {tl : TA} {ml : LM} (hl : ExL G E tl ml) : Ex G E (tTup tl) (mTup ml) := fun ι env st σ H Q R Ev h => by
  refine hl.run R Ev h fun ι1 H1 a s1 v f1 R1 Ev1 im h1 => ?_
  dsimp only at h1
  split at h1
  · rename_i e
    exact ⟨by rw [im.length]; exact e, fun p hp => PE1.tup M R1 im (PE1.sh f1 h1) hp⟩
  · exact h1.elim
theorem ex_lst (M : AmX G T) {tl : TA} {ml : LM} (hl : ExL G E tl ml) : Ex G E (tLst tl) (mLst ml) := fun ι env st σ H Q R Ev h => by
  refine hl.run R Ev h fun ι1 H1 a s1 v f1 R1 Ev1 im h1 => ?_
  dsimp only at h1
  split at h1
  · rename_i e
    exact ⟨by rw [im.length]; exact e, fun p hp => PE1.lst M R1 im (PE1.sh f1 h1) hp⟩
  · exact h1.elim
end
end Mx

/-! ### MkEnum -/
set_option Elab.async false
set_option linter.all false
set_option maxRecDepth 100000
set_option maxHeartbeats 4000000
namespace PySem
open Sem (wp)
open AutoSeq1 (wpAny_loadPart')
theorem mk_meets_enumerate_newT (l : Addr) (items : Array Value) (n : Nat) (dct : Option Addr) (sl : Array (Option Value)) :
    Meets (Builtin.«enumerate.__new__» ⟨[.type "enumerate", .ref l], []⟩) (fun _ R s => s.heap.get? l = some { cls := .type "tuple", dict := dct, data := .seq items n, slots := sl } ∧
      R (.ok (.ret (.ref (s.heap.push { cls := .type "tuple_iterator", data := .fields #[.ref l, .int 0 0] }).objs.size)))
        { s with heap := (s.heap.push { cls := .type "tuple_iterator", data := .fields #[.ref l, .int 0 0] }).push { cls := .type "enumerate", data := .fields #[.none, .bool false, .ref s.heap.objs.size, rawInt 0, .none, .none] } }) :=
  .of_wp fun prog w A R s h => by
    obtain ⟨hp, g, d, tk, os⟩ := s; obtain ⟨hl, h⟩ := h
    have hsub := sub_enumerate
    have hL : Heap.IsTuple (Shared.heap ⟨hp, g, d, tk, os⟩) l items := ⟨_, hl, rfl, n, rfl⟩
    wp_walk using wpAny_loadPart' hl
    refine wpAny_stack_any fun st => wpAny_pure ?_
    split
    · rename_i c _ _ _ _ _
      cases (c == Value.type "enumerate")
      · wp_walk using wpAny_loadPart' hl, wpAny_pyIter_tuple hL
        exact ⟨_, rfl, h⟩
      · wp_walk using wpAny_loadPart' hl, wpAny_pyIter_tuple hL
        exact ⟨_, rfl, h⟩
    · wp_walk using wpAny_loadPart' hl, wpAny_pyIter_tuple hL
      exact ⟨_, rfl, h⟩
section
variable {prog : Program} {w : World} {A : Around} {E : Value → Shared → Prop} {s : Shared}
theorem mk_call_enumerate_tuple {l : Addr} {items : Array Value} {Q : Value → Shared → Prop} (hL : s.heap.IsTuple l items)
    (h : ∀ h', IsEnum h' (s.heap.objs.size + 1) s.heap.objs.size 0 .none → h'.IsTupleIter s.heap.objs.size l 0 → h'.objs.size = s.heap.objs.size + 2 →
      (∀ b o, s.heap.get? b = some o → h'.get? b = some o) → Q (.ref (s.heap.objs.size + 1)) { s with heap := h' }) :
    wpAny (model prog w) A (call (.type "enumerate") [.ref l]) Q E s := by
  obtain ⟨⟨c, dct, dt, sl⟩, hl, hc, n, hd⟩ := hL
  replace hc : c = .type "tuple" := hc
  replace hd : dt = .seq items n := hd
  subst hc hd
  refine callType_new F.called_enumerate (by decide) (F.typeCall_enumerate_1 _) (F.newCall_enumerate_1 _) (fun obj => F.args_object_init_2 obj _) F.entry_enumerate_new
    (mk_meets_enumerate_newT l items n dct sl) ⟨hl, ?_⟩
  have hz : (s.heap.push { cls := .type "tuple_iterator", data := .fields #[.ref l, .int 0 0] }).objs.size = s.heap.objs.size + 1 := Heap.size_push ..
  show _ ∧ _
  rw [hz]
  have he : IsEnum ((s.heap.push { cls := .type "tuple_iterator", data := .fields #[.ref l, .int 0 0] }).push
      { cls := .type "enumerate", data := .fields #[.none, .bool false, .ref s.heap.objs.size, rawInt 0, .none, .none] }) (s.heap.objs.size + 1) s.heap.objs.size 0 .none := by
    have := Heap.get?_push_size (s.heap.push { cls := .type "tuple_iterator", data := .fields #[.ref l, .int 0 0] })
      (o := { cls := .type "enumerate", data := .fields #[.none, .bool false, .ref s.heap.objs.size, rawInt 0, .none, .none] }) rfl
    rw [hz] at this; exact this
  refine ⟨⟨_, he, rfl⟩, h _ he ⟨_, Heap.get?_push_of_some _ (Heap.get?_push_size _ rfl), rfl, rfl⟩ (by rw [Heap.size_push, hz]) fun b o x => Heap.get?_push_of_some _ (Heap.get?_push_of_some _ x)⟩
end
end PySem
namespace Mk
open PySem PySem.Spec PyProof.Rows L2
/-- the tuple at a at each turn, each item in a new pair -/
def Itet (K : PySem.W.Frag) (a : Addr) : It :=
  ⟨fun i H => ∃ (xs : List V) (x : V), SqT K H a xs ∧ xs[i]? = some x, fun i H v H' => ∃ T x, v = .ref T ∧ H T = none ∧ H' = upd H T (.tup [.int (i : Nat), x]) ∧ ∀ xs, SqT K H a xs → xs[i]? = some x, fun i H => ∃ xs : List V, SqT K H a xs ∧ xs.length ≤ i⟩
theorem wpAny_pyNext_enum_endD' {prog : Program} {w : World} {A : Around} {E : Value → Shared → Prop} {s : Shared} {e it a : Addr} {i : Nat} {j : Int} {old : Value} {items : Array Value} {Q : Option Value → Shared → Prop} (he : IsEnum s.heap e it j old) (hit : s.heap.IsTupleIter it a i) (p : s.heap.IsTuple a items) (hh : A.handled = none) (hx : items[i]? = none)
    (hQ : ∀ h', Heap.ExtBut it s.heap h' → Q none { s with heap := h' }) : wpAny (model prog w) A (pyNext (.ref e)) Q E s := by
  have hT : s.TypeIs (.ref e) "enumerate" := ⟨_, he, rfl⟩
  unfold pyNext
  refine wpAny_bind (wpAny_attempt (wpAny_callSpecial?_slot (name := Str.ofString "__next__") hT F.slot_enumerate_next
    (wpAny_call_entry F.slot_enumerate_next hT F.entry_enumerate_next ?_ (F.args_enumerate_next_1 _))))
  show wpAny _ _ (field (.ref e) 2 >>= _) _ _ _
  refine wpAny_bind (wpAny_field he rfl (x := .ref it) rfl ?_)
  refine wpAny_bind (wpAny_nextOf_tuple_end hh hit p hx fun h' x he' hx' => ?_)
  obtain ⟨o, ho, hc⟩ := hx'
  refine wpAny_bind (wpAny_isInstance (T := "StopIteration") (b := true) ⟨o, ho, hc⟩ isSubtype_stop ?_)
  exact wpAny_pure (hQ _ he')
theorem turn_enumT {P : Program} {w : World} {K : PySem.W.Frag} {elts : List Expr} {kk : Nat} {tpos : Pos} (a e it : Addr) :
    Turn P w K (.Tuple elts kk tpos) (Itet K a) [e, it] e (fun i h => (∃ old, IsEnum h e it ((i : Nat) : Int) old) ∧ h.IsTupleIter it a i ∧ e ≠ it) where
  mem := by simp
  obj := fun i h st b hb => by
    obtain ⟨⟨old, he⟩, ⟨o, ho, hc, hd⟩, _⟩ := st
    have e' : b = e ∨ b = it := by simpa using hb
    rcases e' with z | z
    · rw [z]; exact ⟨_, he, fun v q => nomatch q⟩
    · rw [z]; exact ⟨o, ho, fun v q => by rw [hd] at q; cases q⟩
  keep := fun i h h' st k => let ⟨⟨old, he⟩, hi, hne⟩ := st; ⟨⟨old, k e (by simp) _ he⟩, hi.at fun o q => k it (by simp) o q, hne⟩
  item := by
    intro X hP hw hK hc i pins s σ H E I hf st hg
    subst hP hw hK
    obtain ⟨⟨old, he⟩, hit, hne⟩ := st
    obtain ⟨xs, x, hq, hx⟩ := hg
    obtain ⟨its, rv, p, hz⟩ := I.tuple hq
    obtain ⟨u, hu, ru⟩ := rv.get hx
    have p : s.heap.IsTuple a its.toArray := p
    have hel : e < s.heap.objs.size := Heap.lt_size he
    have hil : it < s.heap.objs.size := by obtain ⟨_, q, _⟩ := hit; exact Heap.lt_size q
    have hai : a ≠ it := fun z => by
      obtain ⟨o, ho, hoc, _⟩ := hit
      obtain ⟨o2, ho2, hoc2, _⟩ := p
      rw [z, ho] at ho2
      cases ho2
      rw [hoc] at hoc2
      exact absurd hoc2 (by decide)
    have hea : e ≠ a := fun z => by
      obtain ⟨o2, ho2, hoc2, _⟩ := p
      rw [← z, he] at ho2
      cases ho2
      exact absurd (show Value.type "enumerate" = Value.type "tuple" from hoc2) (by decide)
    have D := Draws.tuple (prog := X.prog) (w := X.w) (A := X.A.in1) (I.ok.hd hc) it a hai its.toArray
    have hlt : i < its.toArray.size := by
      have := (List.getElem?_eq_some_iff.mp hu).1
      simpa using this
    refine wpAny_pyNext_enum_itemD D he ⟨hit, p⟩ hlt hne (by simp [hne, hea]) fun y h' tk hy ho hst hT hsz hk => ?_
    obtain ⟨hit', hp'⟩ := hst
    have ey : y = u := by
      have hy' : its[i]? = some y := by simpa using hy
      rw [hu] at hy'
      exact (Option.some.inj hy').symm
    subst ey
    refine ⟨_, rfl, wpAny_letOwnedTupleGo_enum (s := { s with heap := h', toks := tk + 1 }) ho fun h'' he' sb => ?_⟩
    have hT2 : h''.get? s.heap.objs.size = some { cls := .type "tuple", data := .seq #[.int i tk, y] } := (sb.2 _ (Nat.ne_of_gt hel)).trans hT
    have new : ObjOk X.prog X.w (upd H s.heap.objs.size (.tup [.int (i : Nat), x])) h'' s.heap.objs.size (.tup [.int (i : Nat), x]) :=
      ⟨by show 2 ≤ sizeLine; decide, [.int i tk, y], .cons ⟨_, rfl⟩ (.cons ru .nil), ⟨_, hT2, rfl, _, rfl⟩⟩
    have I1 : Inv X pins σ (upd H s.heap.objs.size (.tup [.int (i : Nat), x])) { s with heap := h'', toks := tk + 1 } :=
      I.turnedNew (ch := [e, it]) (fun b ob hb q => (sb.2 b (fun z => hb (by simp [z]))).trans (hk b ob (fun z => hb (by simp [z])) (fun z => hb (by simp [z])) q)) hf (Nat.le_refl _) new
    refine ⟨.ref s.heap.objs.size, _, I1, rfl, ⟨_, x, rfl, I.hok.fresh (Nat.le_refl _), rfl, fun ys hy => by rw [I.tuple_inj hy hq]; exact hx⟩, ⟨⟨y, ?_⟩, hit'.at fun o q => (sb.2 it (Ne.symm hne)).trans q, hne⟩, fun b hb => ?_⟩
    · have e1 : ((i + 1 : Nat) : Int) = (i : Int) + 1 := by omega
      rw [e1]; exact he'
    · have hb' : b < s.heap.objs.size := by
        have e' : b = e ∨ b = it := by simpa using hb
        rcases e' with z | z
        · rw [z]; exact hel
        · rw [z]; exact hil
      rw [upd_ne (Nat.ne_of_lt hb')]
      exact (hf b hb).1
  done := by
    intro X hP hw hK hc i pins s σ H E I hf st hg
    subst hP hw hK
    obtain ⟨⟨old, he⟩, hit, hne⟩ := st
    obtain ⟨xs, hq, hx⟩ := hg
    obtain ⟨its, rv, p, hz⟩ := I.tuple hq
    have p : s.heap.IsTuple a its.toArray := p
    obtain ⟨f0, f1, f2, f3, f4, f5⟩ := hf it (by simp)
    have hl := rv.length
    have hai : a ≠ it := fun z => by
      obtain ⟨o, ho, hoc, _⟩ := hit
      obtain ⟨o2, ho2, hoc2, _⟩ := p
      rw [z, ho] at ho2
      cases ho2
      rw [hoc] at hoc2
      exact absurd hoc2 (by decide)
    refine wpAny_pyNext_enum_endD' he hit p (I.ok.hd hc) (by simp; omega) fun h' eb => ⟨rfl, I.turned (t' := s.toks) (fun b o hb q => eb b o hb q) f0 f1 f3 f4 f5⟩
  self := fun A i s Q E st h => let ⟨⟨_, he⟩, _⟩ := st; wpAny_pyIter_enum he h
def iEnumT (K : PySem.W.Frag) (ta : TA) : TI := fun σ H R => ta σ H fun vs H1 => ∃ a xs, vs = [.ref a] ∧ SqT K H1 a xs ∧ R (Itet K a) H1
theorem pi_enumT {X : Cx} {e : Expr} {ta : TA} {p pos tpos : Pos} {elts : List Expr} {kk : Nat} (hg : Gl X "enumerate") (hm : X.mg "enumerate" = none) (ha : PA X [e] ta) (hs : starEach [e] X.env = [(false, eval e X.env)] := by rfl) :
    PI X (.Tuple elts kk tpos) (.Call (.Name "enumerate" p) [e] [] pos) (iEnumT X.K ta) := by
  refine ⟨fun pins s σ H R I h => ?_⟩
  refine Call_ (ld_blt I hg hm boot_enumerate (PyProof.Rows.callWith_type1 (thn (ha.run pos pins s σ H _ I h) fun us s1 ⟨vs, H1, I1, r1, q1⟩ => ?_) hs rfl))
  obtain ⟨a, xs, ex, hq, q⟩ := q1
  subst ex
  cases r1 with
  | cons r rr =>
    cases rr
    cases r
    obtain ⟨its, rv, p', hz⟩ := I1.tuple hq
    refine mk_call_enumerate_tuple (show s1.heap.IsTuple a its.toArray from p') fun h' he hit hsz hk => wpAny_pyIter_enum he ?_
    have I2 : Inv X pins σ H1 { s1 with heap := h' } := I1.kept (t' := s1.toks) hk
    refine ⟨s1.heap.objs.size + 1, [s1.heap.objs.size + 1, s1.heap.objs.size], _, _, H1, rfl, I2, turn_enumT a (s1.heap.objs.size + 1) s1.heap.objs.size, ⟨⟨.none, he⟩, hit, Nat.succ_ne_self _⟩, fun b hb => ?_, q⟩
    have e' : b = s1.heap.objs.size + 1 ∨ b = s1.heap.objs.size := by simpa using hb
    have hle : s1.heap.objs.size ≤ b := by
      rcases e' with z | z
      · rw [z]; exact Nat.le_add_right _ _
      · rw [z]; exact Nat.le_refl _
    exact I1.fpOk hle (I1.hok.fresh hle)
end Mk

/-! ### MkX5 -/
set_option Elab.async false
set_option linter.all false
set_option maxRecDepth 100000
set_option maxHeartbeats 4000000
namespace Mx
open PySem PySem.Spec PyProof.Rows L2
open GxR (TabG Tabbed)
/-! ### walks -/
/-- the i-th thing: fail; no more; the thing -/
inductive Nx where
  | no | stop | item (a : A) (s : Sto)
abbrev Itm := Nat → Sto → Nx
def ItOk (G : Gx) (J : It) (ι0 : List Addr) (H0 : Hp) (f : Itm) : Prop := ∀ ι H st, Fr ι0 H0 ι H → Rl G ι H st → ∀ i, match f i st with
  | .no => True
  | .stop => J.stop i H
  | .item a s => J.go i H ∧ ∀ x H', J.yld i H x H' → ∃ ι', Fr ι H ι' H' ∧ Rl G ι' H' s ∧ Im G.K H' ι' a x
abbrev IM := Ev → Sto → R (Itm × Sto)
def ExI (G : Gx) (E : XK) (wi : TI) (m : IM) : Prop := ∀ (ι : List Addr) (env : Ev) (st : Sto) (σ : L2.St) (H : Hp) (R0 : It → Hp → Prop), Rl G ι H st → EnvR G ι H env σ →
  (m env st).holds (fun r => ∀ ι' H' J, Fr ι H ι' H' → Rl G ι' H' r.2 → ItOk G J ι' H' r.1 → R0 J H') (PXx G ι H E) → wi σ H R0
def ofL (l : List A) (i : Nat) (s : Sto) : Nx := match l[i]? with
  | some a => .item a s
  | none => .stop
def itTup (l : List A) : Itm := fun i s => ofL l i s
def itLst (n : Nat) : Itm := fun i s => match s[n]? with
  | some (.lst l) => ofL l i s
  | _ => .no
def itRng (lo : Int) (n : Nat) : Itm := fun i s => if i < n then .item (.int (lo + i)) s else .stop
def ofE (l : List A) (i : Nat) (s : Sto) : Nx := match l[i]? with
  | some a => .item (.tup [.int i, a]) s
  | none => .stop
def itEnT (l : List A) : Itm := fun i s => ofE l i s
def itEnL (n : Nat) : Itm := fun i s => match s[n]? with
  | some (.lst l) => ofE l i s
  | _ => .no
def miTup (ma : EM) : IM := fun env st => (ma env st).bind fun a => match a.1 with
  | .tup l => .ok (itTup l, a.2)
  | _ => .fail
def miLst (ma : EM) : IM := fun env st => (ma env st).bind fun a => match a.1 with
  | .ref n => match a.2[n]? with
    | some (.lst _) => .ok (itLst n, a.2)
    | _ => .fail
  | _ => .fail
def miRng1 (ml : LM) : IM := fun env st => (ml env st).bind fun l => match l.1 with
  | [.int j] => if -(2 ^ 62) ≤ j ∧ j < 2 ^ 62 then .ok (itRng 0 j.toNat, l.2) else .fail
  | _ => .fail
def miRng2 (ml : LM) : IM := fun env st => (ml env st).bind fun l => match l.1 with
  | [.int i, .int j] => if (-(2 ^ 62) ≤ i ∧ i < 2 ^ 62) ∧ -(2 ^ 62) ≤ j ∧ j < 2 ^ 62 then .ok (itRng i (j - i).toNat, l.2) else .fail
  | _ => .fail
def miEnT (ml : LM) : IM := fun env st => (ml env st).bind fun l => match l.1 with
  | [.tup k] => .ok (itEnT k, l.2)
  | _ => .fail
def miEnL (ml : LM) : IM := fun env st => (ml env st).bind fun l => match l.1 with
  | [.ref n] => match l.2[n]? with
    | some (.lst _) => .ok (itEnL n, l.2)
    | _ => .fail
  | _ => .fail
section
variable {G : Gx} {T : List Addr} {E : XK} {ta : TE} {ma : EM} {tl : TA} {ml : LM}
theorem im_at {ι : List Addr} {H : Hp} {l : List A} {xs : List V} {i : Nat} (il : ImL G.K H ι l xs) : (l[i]? = none → xs[i]? = none) ∧ ∀ a, l[i]? = some a → ∃ v, xs[i]? = some v ∧ Im G.K H ι a v :=
  ⟨fun h => List.getElem?_eq_none (by rw [il.length]; exact List.getElem?_eq_none_iff.mp h), fun a h => imL_get il h⟩
theorem exi_tup (ha : Ex G E ta ma) : ExI G E (iTup G.K ta) (miTup ma) := fun ι env st σ H R0 R Ev h => by
  refine ha.run R Ev h fun ι1 H1 a s1 v f1 R1 Ev1 im h1 => ?_
  cases a with
  | tup l =>
    obtain ⟨p, xs, rfl, hx, il⟩ := im_tup' im
    refine ⟨p, rfl, ⟨xs, hx⟩, h1 _ _ _ f1 R1 fun ι2 H2 st2 f2 R2 i => ?_⟩
    have il2 := R1.imL f2 il
    have hx2 := R1.seq f2 hx
    show match ofL l i st2 with | .no => True | .stop => _ | .item a s => _
    unfold ofL
    cases e : l[i]? with
    | none => exact ⟨xs, hx2, List.getElem?_eq_none_iff.mp ((im_at il2).1 e)⟩
    | some b =>
      obtain ⟨w, hw, iw⟩ := (im_at il2).2 b e
      refine ⟨⟨xs, w, hx2, hw⟩, fun x H' y => ?_⟩
      obtain ⟨rfl, y⟩ := y
      have := y xs hx2
      rw [hw] at this
      cases this
      exact ⟨ι2, Fr.refl _ _, R2, iw⟩
  | _ => exact h1.elim
theorem exi_lst (ha : Ex G E ta ma) : ExI G E (iList G.K ta) (miLst ma) := fun ι env st σ H R0 R Ev h => by
  refine ha.run R Ev h fun ι1 H1 a s1 v f1 R1 Ev1 im h1 => ?_
  cases a with
  | ref n =>
    dsimp only at h1
    split at h1
    · rename_i l0 hl0
      obtain ⟨p, xs, rfl, hp, hx, il⟩ := R1.lst hl0 im
      refine ⟨p, rfl, ⟨xs, .inl (.inl hx)⟩, h1 _ _ _ f1 R1 fun ι2 H2 st2 f2 R2 i => ?_⟩
      show match (match st2[n]? with | some (.lst l) => ofL l i st2 | _ => Nx.no) with | .no => True | .stop => _ | .item a s => _
      cases hl : st2[n]? with
      | none => exact True.intro
      | some o =>
        cases o with
        | lst l =>
          obtain ⟨p2, ys, e2, hp2, hy, jl⟩ := R2.lst hl (R1.im f2 im)
          cases e2
          show match ofL l i st2 with | .no => True | .stop => _ | .item a s => _
          unfold ofL
          cases e : l[i]? with
          | none => exact ⟨ys, .inl (.inl hy), List.getElem?_eq_none_iff.mp ((im_at jl).1 e)⟩
          | some b =>
            obtain ⟨w, hw, iw⟩ := (im_at jl).2 b e
            refine ⟨⟨ys, w, .inl (.inl hy), hw⟩, fun x H' y => ?_⟩
            obtain ⟨rfl, y⟩ := y
            have := y ys (.inl (.inl hy))
            rw [hw] at this
            cases this
            exact ⟨ι2, Fr.refl _ _, R2, iw⟩
        | _ => exact True.intro
    · exact h1.elim
  | _ => exact h1.elim
theorem it_rng {lo : Int} {n : Nat} {ι1 : List Addr} {H1 : Hp} : ItOk G (Itr lo n) ι1 H1 (itRng lo n) := fun ι2 H2 st2 f2 R2 i => by
  unfold itRng
  by_cases hi : i < n
  · rw [if_pos hi]
    refine ⟨hi, fun x H' y => ?_⟩
    obtain ⟨rfl, rfl⟩ := y
    exact ⟨ι2, Fr.refl _ _, R2, im_int⟩
  · rw [if_neg hi]
    exact Nat.le_of_not_lt hi
theorem exi_rng1 (hl : ExL G E tl ml) : ExI G E (iRng1 tl) (miRng1 ml) := fun ι env st σ H R0 R Ev h => by
  refine hl.run R Ev h fun ι1 H1 a s1 v f1 R1 Ev1 im h1 => ?_
  dsimp only at h1
  split at h1
  · split at h1
    · rename_i j hj
      obtain ⟨w, rfl, iw⟩ := imL_1 im
      exact ⟨_, by rw [im_int' iw], hj.1, hj.2, h1 _ _ _ f1 R1 it_rng⟩
    · exact h1.elim
  · exact h1.elim
theorem exi_rng2 (hl : ExL G E tl ml) : ExI G E (iRng2 tl) (miRng2 ml) := fun ι env st σ H R0 R Ev h => by
  refine hl.run R Ev h fun ι1 H1 a s1 v f1 R1 Ev1 im h1 => ?_
  dsimp only at h1
  split at h1
  · split at h1
    · rename_i j hj
      obtain ⟨w, u, rfl, iw, iu⟩ := imL_2 im
      exact ⟨_, _, by rw [im_int' iw, im_int' iu], ⟨hj.1.1, hj.1.2, hj.2.1, hj.2.2⟩, h1 _ _ _ f1 R1 it_rng⟩
    · exact h1.elim
  · exact h1.elim
theorem exi_enT (M : AmX G T) (hl : ExL G E tl ml) : ExI G E (Mk.iEnumT G.K tl) (miEnT ml) := fun ι env st σ H R0 R Ev h => by
  refine hl.run R Ev h fun ι1 H1 a s1 v f1 R1 Ev1 im h1 => ?_
  dsimp only at h1
  split at h1
  · rename_i k
    obtain ⟨w, rfl, iw⟩ := imL_1 im
    obtain ⟨p, xs, rfl, hx, il⟩ := im_tup' iw
    refine ⟨p, xs, rfl, hx, h1 _ _ _ f1 R1 fun ι2 H2 st2 f2 R2 i => ?_⟩
    have il2 := R1.imL f2 il
    have hx2 := R1.seq f2 hx
    show match ofE k i st2 with | .no => True | .stop => _ | .item a s => _
    unfold ofE
    cases e : k[i]? with
    | none => exact ⟨xs, hx2, List.getElem?_eq_none_iff.mp ((im_at il2).1 e)⟩
    | some b =>
      obtain ⟨w, hw, iw⟩ := (im_at il2).2 b e
      refine ⟨⟨xs, w, hx2, hw⟩, fun x H' y => ?_⟩
      obtain ⟨T, z, rfl, hT, rfl, y⟩ := y
      have := y xs hx2
      rw [hw] at this
      cases this
      exact ⟨ι2, Fr.new hT, R2.new M hT, im_tup (R2.imL (Fr.new hT) (imL_cons im_int (imL_cons iw imL_nil))) upd_same⟩
  · exact h1.elim
theorem exi_enL (M : AmX G T) (hl : ExL G E tl ml) : ExI G E (iEnum G.K tl) (miEnL ml) := fun ι env st σ H R0 R Ev h => by
  refine hl.run R Ev h fun ι1 H1 a s1 v f1 R1 Ev1 im h1 => ?_
  dsimp only at h1
  split at h1
  · split at h1
    · rename_i n _ l0 hl0
      obtain ⟨w, rfl, iw⟩ := imL_1 im
      obtain ⟨p, xs, rfl, hp, hx, il⟩ := R1.lst hl0 iw
      refine ⟨p, xs, rfl, .inl (.inl hx), h1 _ _ _ f1 R1 fun ι2 H2 st2 f2 R2 i => ?_⟩
      show match (match st2[n]? with | some (Ob.lst l) => ofE l i st2 | _ => Nx.no) with | .no => True | .stop => _ | .item a s => _
      cases hl : st2[n]? with
      | none => exact True.intro
      | some o =>
        cases o with
        | lst l =>
          obtain ⟨p2, ys, e2, hp2, hy, jl⟩ := R2.lst hl (R1.im f2 iw)
          cases e2
          show match ofE l i st2 with | .no => True | .stop => _ | .item a s => _
          unfold ofE
          cases e : l[i]? with
          | none => exact ⟨ys, .inl (.inl hy), List.getElem?_eq_none_iff.mp ((im_at jl).1 e)⟩
          | some b =>
            obtain ⟨w, hw, iw⟩ := (im_at jl).2 b e
            refine ⟨⟨ys, w, .inl (.inl hy), hw⟩, fun x H' y => ?_⟩
            obtain ⟨T, z, rfl, hT, rfl, y⟩ := y
            have := y ys (.inl (.inl hy))
            rw [hw] at this
            cases this
            exact ⟨ι2, Fr.new hT, R2.new M hT, im_tup (R2.imL (Fr.new hT) (imL_cons im_int (imL_cons iw imL_nil))) upd_same⟩
        | _ => exact True.intro
    · exact h1.elim
  · exact h1.elim
/-! ### for -/
def fuel : Nat := 1000000
def flow (r : Fl × Sto) (k : Ev → Sto → R (Fl × Sto)) : R (Fl × Sto) := match r.1 with
  | .nx e => k e r.2
  | .ct e => k e r.2
  | .bk e => .ok (.nx e, r.2)
  | .rt a => .ok (.rt a, r.2)
def forG (f : Itm) (mg : GM) (mb : SM) : Nat → Nat → Ev → Sto → R (Fl × Sto)
  | 0, _, _, _ => .fail
  | k + 1, i, env, st => match f i st with
    | .no => .fail
    | .stop => .ok (.nx env, st)
    | .item a s => (mg a env s).bind fun e => (mb e.1 e.2).bind fun r => flow r (forG f mg mb k (i + 1))
def mFor (mi : IM) (mg : GM) (mb : SM) : SM := fun env st => (mi env st).bind fun r => forG r.1 mg mb fuel 0 env r.2
theorem exs_for {wi : TI} {mi : IM} {g : TG} {mg : GM} {tb : TS} {mb : SM} (hi : ExI G E wi mi) (hg : ExG G E g mg) (hb : ExS G E tb mb) : ExS G E (tFor wi g tb) (mFor mi mg mb) := fun ι env st σ H D R Ev h => by
  refine hi ι env st σ H _ R Ev (go h fun r h1 ι1 H1 J f1 R1 IO => ?_)
  generalize fuel = fu at h1
  refine ⟨fun i m σ2 H2 => ∃ ι2 env2 st2, Fr ι1 H1 ι2 H2 ∧ Rl G ι2 H2 st2 ∧ EnvR G ι2 H2 env2 σ2 ∧ (forG r.1 mg mb m i env2 st2).holds (PS1 G ι H D) (PXx G ι H E), ⟨fu, ι1, env, r.2, Fr.refl _ _, R1, R.env f1 Ev, h1⟩, ?_⟩
  rintro i m σ2 H2 ⟨ι2, env2, st2, f2, R2, Ev2, h2⟩
  cases m with
  | zero => exact h2.elim
  | succ k =>
    have io := IO ι2 H2 st2 f2 R2 i
    unfold forG at h2
    cases e : r.1 i st2 with
    | no => rw [e] at h2; exact h2.elim
    | stop =>
      rw [e] at h2 io
      exact .inl ⟨io, (show PS1 G ι H D (.nx env2, st2) from h2) _ _ (f1.trans f2) R2 _ Ev2⟩
    | item a s =>
      rw [e] at h2 io
      dsimp only at h2 io
      refine .inr ⟨io.1, fun σ3 H3 => ∃ ι3 env3 st3, Fr ι1 H1 ι3 H3 ∧ Rl G ι3 H3 st3 ∧ EnvR G ι3 H3 env3 σ3 ∧ (forG r.1 mg mb k (i + 1) env3 st3).holds (PS1 G ι H D) (PXx G ι H E), fun σ3 H3 w => ⟨k, Nat.lt_succ_self k, w⟩, fun x H3 y => ?_⟩
      obtain ⟨ι3, f3, R3, ix⟩ := io.2 x H3 y
      have g3 : Fr ι H ι3 H3 := (f1.trans f2).trans f3
      refine hg ι3 env2 s σ2 H3 a x _ R3 (R2.env f3 Ev2) ix (holds_mono (fun e' h4 => ?_) (fun _ _ q => PXx.sh g3 q) (holds_bind h2))
      intro ι4 H4 f4 R4 σ4 Ev4
      refine hb ι4 e'.1 e'.2 σ4 H4 _ R4 Ev4 (holds_mono (fun r' h5 => ?_) (fun _ _ q => PXx.sh (g3.trans f4) q) (holds_bind h4))
      intro ι5 H5 f5 R5
      have g5 : Fr ι1 H1 ι5 H5 := ((f2.trans f3).trans f4).trans f5
      obtain ⟨fl, s5⟩ := r'
      cases fl with
      | nx e6 => exact fun σ5 Ev5 => ⟨ι5, e6, s5, g5, R5, Ev5, h5⟩
      | ct e6 => exact fun σ5 Ev5 => ⟨ι5, e6, s5, g5, R5, Ev5, h5⟩
      | bk e6 => exact fun σ5 Ev5 => (show PS1 G ι H D (.nx e6, s5) from h5) _ _ (f1.trans g5) R5 σ5 Ev5
      | rt a6 => exact fun v iv => (show PS1 G ι H D (.rt a6, s5) from h5) _ _ (f1.trans g5) R5 v iv
/-! ### while -/
def whlG (mt : BM) (mb : SM) : Nat → Ev → Sto → R (Fl × Sto)
  | 0, _, _ => .fail
  | k + 1, env, st => (mt env st).bind fun b => if b.1 = true then (mb env b.2).bind fun r => flow r (whlG mt mb k) else .ok (.nx env, b.2)
def mWhl (mt : BM) (mb : SM) : SM := fun env st => whlG mt mb fuel env st
theorem exs_while {t : TT} {mt : BM} {tb : TS} {mb : SM} (ht : ExB G E t mt) (hb : ExS G E tb mb) : ExS G E (tWhile t tb) (mWhl mt mb) := fun ι env st σ H D R Ev h => by
  have h1 : (whlG mt mb fuel env st).holds (PS1 G ι H D) (PXx G ι H E) := h
  generalize fuel = fu at h1
  refine ⟨fun m σ2 H2 => ∃ ι2 env2 st2, Fr ι H ι2 H2 ∧ Rl G ι2 H2 st2 ∧ EnvR G ι2 H2 env2 σ2 ∧ (whlG mt mb m env2 st2).holds (PS1 G ι H D) (PXx G ι H E), ⟨fu, ι, env, st, Fr.refl _ _, R, Ev, h1⟩, ?_⟩
  rintro m σ2 H2 ⟨ι2, env2, st2, f2, R2, Ev2, h2⟩
  cases m with
  | zero => exact h2.elim
  | succ k =>
    unfold whlG at h2
    refine ht ι2 env2 st2 σ2 H2 _ R2 Ev2 (holds_mono (fun b h3 => ?_) (fun _ _ q => PXx.sh f2 q) (holds_bind h2))
    intro ι3 H3 f3 R3
    obtain ⟨b, s3⟩ := b
    cases b with
    | false => exact iteF ((show PS1 G ι H D (.nx env2, s3) from h3) _ _ (f2.trans f3) R3 σ2 (R2.env f3 Ev2))
    | true =>
      refine iteT ⟨fun σ3 H3 => ∃ ι3 env3 st3, Fr ι H ι3 H3 ∧ Rl G ι3 H3 st3 ∧ EnvR G ι3 H3 env3 σ3 ∧ (whlG mt mb k env3 st3).holds (PS1 G ι H D) (PXx G ι H E), fun σ3 H3 w => ⟨k, Nat.lt_succ_self k, w⟩, ?_⟩
      refine hb ι3 env2 s3 σ2 H3 _ R3 (R2.env f3 Ev2) (holds_mono (fun r' h5 => ?_) (fun _ _ q => PXx.sh (f2.trans f3) q) (holds_bind (show (Mx.R.bind _ _).holds _ _ from h3)))
      intro ι5 H5 f5 R5
      have g5 : Fr ι H ι5 H5 := (f2.trans f3).trans f5
      obtain ⟨fl, s5⟩ := r'
      cases fl with
      | nx e6 => exact fun σ5 Ev5 => ⟨ι5, e6, s5, g5, R5, Ev5, h5⟩
      | ct e6 => exact fun σ5 Ev5 => ⟨ι5, e6, s5, g5, R5, Ev5, h5⟩
      | bk e6 => exact fun σ5 Ev5 => (show PS1 G ι H D (.nx e6, s5) from h5) _ _ g5 R5 σ5 Ev5
      | rt a6 => exact fun v iv => (show PS1 G ι H D (.rt a6, s5) from h5) _ _ g5 R5 v iv
/-! ### comprehensions -/
def EF : XK := fun _ _ _ => False
def noX {α : Type} : R α → R α
  | .ok a => .ok a
  | .exc _ _ => .fail
  | .fail => .fail
  | .draw n k => .draw n fun i => noX (k i)
theorem noX_holds {α : Type} {Q : α → Prop} {X X' : Xc → Sto → Prop} : ∀ {r : R α}, (noX r).holds Q X → r.holds Q X'
  | .ok a, h => h
  | .exc _ _, h => False.elim h
  | .fail, h => h
  | .draw n k, h => fun i hi => noX_holds (h i hi)
theorem noX_bind {α β : Type} {r : R α} {f : α → R β} {Q : β → Prop} {X X' : Xc → Sto → Prop} (h : ((noX r).bind f).holds Q X) : r.holds (fun a => (f a).holds Q X) X' := noX_holds (holds_bind h)
/-- a target that stores to the slots vs alone -/
def SmO (vs : List Nat) (σ σ' : L2.St) : Prop := σ'.length = σ.length ∧ ∀ i, i ∉ vs → σ'[i]? = σ[i]?
def ExW (G : Gx) (vs : List Nat) (g : TG) (m : GM) : Prop := ∀ ι env st σ H a v Q X, Rl G ι H st → EnvR G ι H env σ → Im G.K H ι a v → (m a env st).holds (fun r => ∀ ι' H', Fr ι H ι' H' → Rl G ι' H' r.2 → ∀ σ', EnvR G ι' H' r.1 σ' → SmO vs σ σ' → Q σ' H') X → g v σ H Q
def ExWs (G : Gx) (vs : List Nat) (g : TGs) (m : GsM) : Prop := ∀ ι env st σ H a v Q X, Rl G ι H st → EnvR G ι H env σ → ImL G.K H ι a v → (m a env st).holds (fun r => ∀ ι' H', Fr ι H ι' H' → Rl G ι' H' r.2 → ∀ σ', EnvR G ι' H' r.1 σ' → SmO vs σ σ' → Q σ' H') X → g v σ H Q
theorem exw_name {vs : List Nat} {i : Nat} (hi : i ∈ vs) : ExW G vs (gName i) (gmName i) := fun ι env st σ H a v Q X R Ev im h => by
  have h' : ∀ ι' H', Fr ι H ι' H' → Rl G ι' H' st → ∀ σ', EnvR G ι' H' (env.set i (some a)) σ' → SmO vs σ σ' → Q σ' H' := h
  exact h' ι H (Fr.refl _ _) R _ (Ev.set i im) ⟨List.length_set, fun j hj => List.getElem?_set_ne fun e => hj (by rw [← e]; exact hi)⟩
theorem exws_nil {vs : List Nat} : ExWs G vs gNil gmNil := fun ι env st σ H a v Q X R Ev im h => by
  cases a with
  | nil =>
    have h' : ∀ ι' H', Fr ι H ι' H' → Rl G ι' H' st → ∀ σ', EnvR G ι' H' env σ' → SmO vs σ σ' → Q σ' H' := h
    exact ⟨imL_nil' im, h' ι H (Fr.refl _ _) R _ Ev ⟨rfl, fun _ _ => rfl⟩⟩
  | cons => exact h.elim
theorem exws_cons {vs : List Nat} {g : TG} {m : GM} {gs : TGs} {ms : GsM} (hg : ExW G vs g m) (hs : ExWs G vs gs ms) : ExWs G vs (gCons g gs) (gmCons m ms) := fun ι env st σ H a v Q X R Ev im h => by
  cases a with
  | nil => exact h.elim
  | cons b bs =>
    obtain ⟨w, ws, rfl, i1, i2⟩ := imL_cons' im
    refine ⟨w, ws, rfl, hg _ _ _ _ _ _ _ _ X R Ev i1 (holds_mono (fun r h1 => ?_) (fun _ _ x => x) (holds_bind h))⟩
    intro ι1 H1 f1 R1 σ1 Ev1 o1
    refine hs _ _ _ _ _ _ _ _ X R1 Ev1 (R.imL f1 i2) (holds_mono (fun r2 h2 => ?_) (fun _ _ x => x) h1)
    exact fun ι2 H2 f2 R2 σ2 Ev2 o2 => h2 ι2 H2 (f1.trans f2) R2 σ2 Ev2 ⟨o2.1.trans o1.1, fun i hi => (o2.2 i hi).trans (o1.2 i hi)⟩
def gmTup (n : Nat) (ms : GsM) : GM := fun a env st => match a with
  | .tup l => if l.length = n then ms l env st else .fail
  | _ => .fail
theorem exg_tup {n : Nat} {gs : TGs} {ms : GsM} (hs : ExGs G E gs ms) : ExG G E (gTup G.K n gs) (gmTup n ms) := fun ι env st σ H a v Q R Ev im h => by
  cases a with
  | tup l =>
    obtain ⟨p, xs, rfl, hx, il⟩ := im_tup' im
    dsimp only [gmTup] at h
    split at h
    · rename_i e
      exact ⟨p, xs, rfl, hx, by rw [il.length]; exact e, hs _ _ _ _ _ _ _ _ R Ev il h⟩
    · exact h.elim
  | _ => exact h.elim
theorem exw_tup {vs : List Nat} {n : Nat} {gs : TGs} {ms : GsM} (hs : ExWs G vs gs ms) : ExW G vs (gTup G.K n gs) (gmTup n ms) := fun ι env st σ H a v Q X R Ev im h => by
  cases a with
  | tup l =>
    obtain ⟨p, xs, rfl, hx, il⟩ := im_tup' im
    dsimp only [gmTup] at h
    split at h
    · rename_i e
      exact ⟨p, xs, rfl, hx, by rw [il.length]; exact e, hs _ _ _ _ _ _ _ _ X R Ev il h⟩
    · exact h.elim
  | _ => exact h.elim
theorem wipe_out {vs : List Nat} {σ σ' : L2.St} (h : SmO vs σ σ') : wipe σ' vs = wipe σ vs := by
  apply List.ext_getElem?
  intro i
  by_cases hi : i ∈ vs
  · by_cases hl : i < σ.length
    · rw [Mk.wipe_get_in hi (by rw [h.1]; exact hl), Mk.wipe_get_in hi hl]
    · rw [List.getElem?_eq_none (by rw [wipe_length, h.1]; omega), List.getElem?_eq_none (by rw [wipe_length]; omega)]
  · rw [Mk.wipe_get_out hi, Mk.wipe_get_out hi, h.2 i hi]
def wipeE (env : Ev) : List Nat → Ev
  | [] => env
  | v :: vs => (wipeE env vs).set v none
theorem EnvR.unset {ι : List Addr} {H : Hp} {env : Ev} {σ : L2.St} (h : EnvR G ι H env σ) (i : Nat) : EnvR G ι H (env.set i none) (σ.set i none) := by
  refine ⟨by simp [h.len], fun j b e => ?_⟩
  by_cases z : i = j
  · subst z
    by_cases hl : i < env.length
    · rw [List.getElem?_set_self hl] at e
      cases e
    · rw [List.getElem?_eq_none (by simp; omega)] at e
      cases e
  · rw [List.getElem?_set_ne z] at e ⊢
    exact h.at_ j b e
theorem EnvR.wipe {ι : List Addr} {H : Hp} {env : Ev} {σ : L2.St} (h : EnvR G ι H env σ) : ∀ vs, EnvR G ι H (wipeE env vs) (wipe σ vs)
  | [] => h
  | v :: vs => EnvR.unset (EnvR.wipe h vs) v
theorem wipe_wipe' {vs : List Nat} {σ σ' : L2.St} (h : SmO vs (wipe σ vs) σ') : wipe σ' vs = wipe σ vs := (wipe_out h).trans (Mk.wipe_wipe σ vs)
def lcG (f : Itm) (mg : GM) (mt : BM) (me : EM) (wenv : Ev) (n : Nat) : Nat → Nat → Sto → R (A × Sto)
  | 0, _, _ => .fail
  | k + 1, i, st => match f i st with
    | .no => .fail
    | .stop => .ok (.ref n, st)
    | .item a s => (noX (mg a wenv s)).bind fun e => (noX (mt e.1 e.2)).bind fun b => if b.1 = true then
        (noX (me e.1 b.2)).bind fun y => match y.2[n]? with
          | some (.lst acc) => if acc.length < sizeLine then lcG f mg mt me wenv n k (i + 1) (y.2.set n (.lst (acc ++ [y.1]))) else .fail
          | _ => .fail
      else lcG f mg mt me wenv n k (i + 1) b.2
def mLc (mi : IM) (mg : GM) (mt : BM) (me : EM) (vs : List Nat) : EM := fun env st => (mi env st).bind fun r => lcG r.1 mg mt me (wipeE env vs) r.2.length fuel 0 (r.2 ++ [.lst []])
theorem ex_lc (M : AmX G T) {wi : TI} {mi : IM} {g : TG} {mg : GM} {tt : TT} {mt : BM} {te : TE} {me : EM} {vs : List Nat} (hi : ExI G E wi mi) (hg : ExW G vs g mg) (ht : ExB G EF tt mt) (he : Ex G EF te me) : Ex G E (tLc wi g tt te vs) (mLc mi mg mt me vs) := fun ι env st σ H Q R Ev h => by
  refine hi ι env st σ H _ R Ev (go h fun r h1 ι1 H1 J f1 R1 IO => ?_)
  generalize fuel = fu at h1
  intro Dd hD
  have f1' : Fr ι1 H1 (ι1 ++ [Dd]) (upd H1 Dd (.lst [])) := Fr.obj hD
  have R1' : Rl G (ι1 ++ [Dd]) (upd H1 Dd (.lst [])) (r.2 ++ [.lst []]) := R1.obj M hD ⟨[], upd_same, imL_nil⟩
  have hn : (ι1 ++ [Dd])[r.2.length]? = some Dd := by rw [← R1.len, List.getElem?_append_right (Nat.le_refl _), Nat.sub_self]; rfl
  refine ⟨fun i m H2 => ∃ ι2 st2, Fr (ι1 ++ [Dd]) (upd H1 Dd (.lst [])) ι2 H2 ∧ Rl G ι2 H2 st2 ∧ (lcG r.1 mg mt me (wipeE env vs) r.2.length m i st2).holds (PE1 G ι H Q) (PXx G ι H E), ⟨fu, ι1 ++ [Dd], r.2 ++ [.lst []], Fr.refl _ _, R1', h1⟩, ?_⟩
  rintro i m H2 ⟨ι2, st2, f2, R2, h2⟩
  have hn2 : ι2[r.2.length]? = some Dd := by
    obtain ⟨z, rfl⟩ := f2.pre
    rw [List.getElem?_append_left (List.getElem?_eq_some_iff.mp hn).1]
    exact hn
  cases m with
  | zero => exact h2.elim
  | succ k =>
    have io := IO ι2 H2 st2 (f1'.trans f2) R2 i
    unfold lcG at h2
    cases e : r.1 i st2 with
    | no => rw [e] at h2; exact h2.elim
    | stop =>
      rw [e] at h2 io
      exact .inl ⟨io, (show PE1 G ι H Q (.ref r.2.length, st2) from h2) _ _ _ ((f1.trans f1').trans f2) R2 (im_ref hn2)⟩
    | item a s =>
      rw [e] at h2 io
      dsimp only at h2 io
      refine .inr ⟨io.1, fun H3 => ∃ ι3 st3, Fr (ι1 ++ [Dd]) (upd H1 Dd (.lst [])) ι3 H3 ∧ Rl G ι3 H3 st3 ∧ (lcG r.1 mg mt me (wipeE env vs) r.2.length k (i + 1) st3).holds (PE1 G ι H Q) (PXx G ι H E), fun H3 w => ⟨k, Nat.lt_succ_self k, w⟩, fun x H3 y => ?_⟩
      obtain ⟨ι3, f3, R3, ix⟩ := io.2 x H3 y
      have g3 : Fr ι H ι3 H3 := ((f1.trans f1').trans f2).trans f3
      refine hg ι3 (wipeE env vs) s (wipe σ vs) H3 a x _ (fun _ _ => False) R3 (EnvR.wipe (R.env g3 Ev) vs) ix (holds_mono (fun e' h4 => ?_) (fun _ _ q => q) (noX_bind h2))
      intro ι4 H4 f4 R4 σ4 Ev4 o4
      refine ⟨wipe_wipe' o4, ht ι4 e'.1 e'.2 σ4 H4 _ R4 Ev4 (holds_mono (fun b h5 => ?_) (fun _ _ q => q) (noX_bind h4))⟩
      intro ι5 H5 f5 R5
      obtain ⟨b, s5⟩ := b
      have p5 : Fr (ι1 ++ [Dd]) (upd H1 Dd (.lst [])) ι5 H5 := ((f2.trans f3).trans f4).trans f5
      cases b with
      | false => exact iteF ⟨ι5, s5, p5, R5, h5⟩
      | true =>
        refine iteT (he ι5 e'.1 s5 σ4 H5 _ R5 (R4.env f5 Ev4) (holds_mono (fun yy h6 => ?_) (fun _ _ q => q) (noX_bind (show (Mx.R.bind _ _).holds _ _ from h5))))
        intro ι6 H6 w f6 R6 iw
        obtain ⟨ya, s6⟩ := yy
        dsimp only at h6 R6 iw
        have p6 : Fr (ι1 ++ [Dd]) (upd H1 Dd (.lst [])) ι6 H6 := p5.trans f6
        have hn6 : ι6[r.2.length]? = some Dd := by
          obtain ⟨z, rfl⟩ := p6.pre
          rw [List.getElem?_append_left (List.getElem?_eq_some_iff.mp hn).1]
          exact hn
        split at h6
        · rename_i acc hacc
          split at h6
          · rename_i hz
            obtain ⟨p, xs, e7, hp, hx, il⟩ := R6.lst hacc (im_ref hn6)
            cases e7
            refine ⟨xs, hx, by rw [il.length]; exact hz, ?_⟩
            obtain ⟨f7, R7⟩ := R6.setL M hn6 ⟨_, hx⟩ (l := acc ++ [ya]) (xs := xs ++ [w]) (ImL.append il (imL_cons iw imL_nil))
            exact ⟨ι6, _, p6.trans f7, R7, h6⟩
          · exact h6.elim
        · exact h6.elim
end
end Mx

/-! ### MkExc -/
set_option Elab.async false
set_option linter.all false
set_option maxRecDepth 100000
set_option maxHeartbeats 4000000
namespace Mk
open PySem PySem.Spec PyProof.Rows L2
section
variable {X : Cx}
/-- {x}: a text, an int or None, as a text -/
def tFmtN (te : TE) : TE := fun σ H Q => te σ H fun x H1 => (∃ y : Str, x = .str y ∧ y.length ≤ sizeLine ∧ Q (.str y) H1) ∨ (∃ i : Int, x = .int i ∧ i.natAbs.log2 < 1920 ∧ Q (.str (toString i)) H1) ∨ (x = .non ∧ Q (.str "None") H1)
theorem pe_fmtN {e : Expr} {te : TE} {pos : Pos} (he : PE X e te) : PE X (.FormattedValue e (-1) none pos) (tFmtN te) := by
  refine ⟨fun pins s σ H Q I h => ?_⟩
  refine wpAny_FormattedValue_plain (thn (he.run pins s σ H _ I h) fun v s1 hv => ?_)
  obtain ⟨x, H1, I1, r1, q⟩ := hv
  rcases q with ⟨y, rfl, hz, q⟩ | ⟨i, rfl, hz, q⟩ | ⟨rfl, q⟩
  · obtain ⟨t, rfl⟩ := r1
    exact wpAny_formatField_str ⟨.str y, H1, I1, ⟨t, rfl⟩, q⟩ ⟨.str y, H1, I1.tok _, ⟨_, rfl⟩, q⟩ hz
  · obtain ⟨t, rfl⟩ := r1
    exact wpAny_formatField_int hz ⟨.str (toString i), H1, I1.tok _, ⟨_, rfl⟩, q⟩
  · obtain rfl : v = Value.none := r1
    exact wpAny_formatField_none ⟨.str "None", H1, I1.tok _, ⟨_, rfl⟩, q⟩
/-- the base class B (at CB), whose __init__ is ValueError's -/
structure BaseT (K : PySem.W.Frag) (mg : Str → Option Value) (x : Str) (CB : Addr) (mc : Value) : Prop where
  g : mg x = some (.ref CB)
  rd : ClX.CRead K CB mc
  at_ : PySem.W.findCls K (.ref CB) mc "__init__" = some (.val (.builtin "ValueError.__init__"))
theorem pe_meinit {x : Str} {CB : Addr} {mc : Value} {e : Expr} {es : List Expr} {ta : TA} {p1 p2 pos : Pos} {pl : Sem Bool} (T : BaseT X.K X.mg x CB mc) (hg : Gl X x) (ha : PA X (e :: es) ta) (hdb : (x == ("__debug__" : Str)) = false := by decide)
    (hc : eval (.Call (.Attribute (.Name x p1) "__init__" p2) (e :: es) [] pos) X.env = (do
      let ov ← eval (.Name x p1) X.env
      standAt p2.atName
      let (f, first) ← holding [ov] (getMethod ov "__init__" pl)
      callWith pos f first (backTo pos (starEach (e :: es) X.env)) (backToKw pos (keywordEach [] X.env))) := by rfl)
    (he : starEach (e :: es) X.env = (false, eval e X.env) :: starEach es X.env := by rfl) (hpl : (backTo pos (starEach es X.env)).any (·.1) = false := by rfl) :
    PE X (.Call (.Attribute (.Name x p1) "__init__" p2) (e :: es) [] pos) (tVeI X.K ta) := by
  refine ⟨fun pins s σ H Q I h => ?_⟩
  refine PySem.W.methodCall_KW (ld_glob I hg T.g ?_ hdb) hc
  refine PySem.W.method_cls I.kIn T.rd.ga (PySem.W.cls_value I.kIn T.rd.rd T.at_ rfl ?_)
  show wpAny _ _ (callWith pos (Value.builtin "ValueError.__init__") [] (backTo pos (starEach (e :: es) X.env)) []) _ _ _
  refine PyProof.Rows.callWith_method1 (thn (ha.run pos pins _ σ H _ (I.tok _) h) fun us s1 ⟨vs, H1, I1, r1, a, C, ws, ev, hl, T, ea, q⟩ => ?_) he hpl
  subst ev
  cases r1 with
  | @cons _ u0 _ ur ra rw' =>
    obtain rfl : u0 = Value.ref a := ra
    have hlen : ur.length ≤ sizeLine := by
      rw [← Paired.length rw', sizeLine_eq]
      omega
    exact oinit_ok T I1 ea hlen fun s' J => ⟨.non, H1, J, rfl, q⟩
end
/-- an own error's promise: its own dict holds the field -/
def spInit (K : PySem.W.Frag) (C : Addr) (f : Str) : Sp := fun vs H Q _ => ∃ (a : Addr) (v : V), vs = [.ref a, v] ∧ ((∃ y : Str, v = .str y ∧ y.length ≤ 100) ∨ (∃ i : Int, v = .int i ∧ i.natAbs.log2 < 1000) ∨ v = .non) ∧ OexC K C ∧ PySem.W.findIn K (.ref C) f = some none ∧ H a = some (exo a C none) ∧
  ∀ dx, H dx = none → dx ≠ a → Q .non (upd (upd H dx (exd dx [(f, v)])) a (exo a C (some dx)))
end Mk

/-! ### MkX6 -/
set_option Elab.async false
set_option linter.all false
set_option maxRecDepth 100000
set_option maxHeartbeats 4000000
namespace Mx
open PySem PySem.Spec PyProof.Rows L2
open GxR (TabG Tabbed)
theorem passF {X : Cx} {P : Program} {w : World} : Passes (L2.CX P w) X EF := fun _ _ _ _ _ _ _ ⟨_, _, _, _, _, _, _, _, _, _, _, _, h⟩ => h.elim
section
variable {G : Gx} {T : List Addr} {E : XK} {ta tb : TE} {ma mb : EM} {tl : TA} {ml : LM}
/-! ### all(..) -/
def allG (f : Itm) (mg : GM) (me : EM) (wenv : Ev) : Nat → Nat → Sto → R (A × Sto)
  | 0, _, _ => .fail
  | k + 1, i, st => match f i st with
    | .no => .fail
    | .stop => .ok (.bl true, st)
    | .item a s => (noX (mg a wenv s)).bind fun e => (noX (me e.1 e.2)).bind fun y => (asB y).bind fun b => if b.1 = true then allG f mg me wenv k (i + 1) b.2 else .ok (.bl false, b.2)
def mAll (mi : IM) (mg : GM) (me : EM) (vs : List Nat) : EM := fun env st => (mi env st).bind fun r => allG r.1 mg me (wipeE env vs) fuel 0 r.2
theorem Fr.tab {P : Addr} {ι : List Addr} {H H2 : Hp} (h : TabG H P) (t : Tabbed P H H2) : Fr ι H ι H2 := by
  obtain ⟨ps, hp, _⟩ := h
  obtain ⟨⟨ps2, hp2, _⟩, o⟩ := t
  refine ⟨List.prefix_refl _, fun _ h => .inl h, fun a u e _ n => ?_, fun a e => ?_, fun a ob u e => by rw [o a fun z => by rw [z, hp] at e; cases e]; exact e⟩
  · rw [o a fun z => ?_]
    · exact e
    · rw [z, hp] at e; exact n _ (Option.some.inj e).symm
  · by_cases z : a = P
    · rw [z, hp2]; simp
    · rw [o a z]; exact e
theorem Rl.tab (M : AmX G T) {P : Addr} {ι : List Addr} {H H2 : Hp} {st : Sto} (R : Rl G ι H st) (hP : P ∈ T) (t : Tabbed P H H2) : Rl G ι H2 st := by
  have hT := M.tab hP R.am
  refine ⟨M.tabbed hP R.am t, R.len, R.nd, fun n o a h1 h2 => ImO.mono R (Fr.tab hT t) (t.2 a fun e => ?_) (R.ob n o a h1 h2)⟩
  obtain ⟨ps, hp, _⟩ := hT
  rw [← e] at hp
  obtain ⟨_, q, m⟩ := R.kind (List.mem_of_getElem? h2)
  rw [hp] at q
  cases q
  exact m.2.1 _ rfl
theorem ex_all (M : AmX G T) {P : Addr} (hP : P ∈ T) {wi : TI} {mi : IM} {g : TG} {mg : GM} {te : TE} {me : EM} {vs : List Nat} (hi : ExI G E wi mi) (hg : ExW G vs g mg) (he : Ex G EF te me) : Ex G E (Mk.tAllG P wi g te vs) (mAll mi mg me vs) := fun ι env st σ H Q R Ev h => by
  refine hi ι env st σ H _ R Ev (go h fun r h1 ι1 H1 J f1 R1 IO => ?_)
  generalize fuel = fu at h1
  refine ⟨M.tab hP R1.am, fun H2 t2 => ?_⟩
  have f2 : Fr ι1 H1 ι1 H2 := Fr.tab (M.tab hP R1.am) t2
  have R2 := R1.tab M hP t2
  refine ⟨fun i m H3 => ∃ ι3 st3, Fr ι1 H1 ι3 H3 ∧ Rl G ι3 H3 st3 ∧ (allG r.1 mg me (wipeE env vs) m i st3).holds (PE1 G ι H Q) (PXx G ι H E), ⟨fu, ι1, r.2, f2, R2, h1⟩, ?_⟩
  rintro i m H3 ⟨ι3, st3, f3, R3, h3⟩
  cases m with
  | zero => exact h3.elim
  | succ k =>
    have io := IO ι3 H3 st3 f3 R3 i
    unfold allG at h3
    cases e : r.1 i st3 with
    | no => rw [e] at h3; exact h3.elim
    | stop =>
      rw [e] at h3 io
      exact .inl ⟨io, (show PE1 G ι H Q (.bl true, st3) from h3) _ _ _ (f1.trans f3) R3 im_bl⟩
    | item a s =>
      rw [e] at h3 io
      dsimp only at h3 io
      refine .inr ⟨io.1, fun H4 => ∃ ι4 st4, Fr ι1 H1 ι4 H4 ∧ Rl G ι4 H4 st4 ∧ (allG r.1 mg me (wipeE env vs) k (i + 1) st4).holds (PE1 G ι H Q) (PXx G ι H E), fun H4 w => ⟨k, Nat.lt_succ_self k, w⟩, fun x H4 y => ?_⟩
      obtain ⟨ι4, f4, R4, ix⟩ := io.2 x H4 y
      have g4 : Fr ι H ι4 H4 := (f1.trans f3).trans f4
      refine hg ι4 (wipeE env vs) s (wipe σ vs) H4 a x _ (fun _ _ => False) R4 (EnvR.wipe (R.env g4 Ev) vs) ix (holds_mono (fun e' h5 => ?_) (fun _ _ q => q) (noX_bind h3))
      intro ι5 H5 f5 R5 σ5 Ev5 o5
      refine ⟨wipe_wipe' o5, he ι5 e'.1 e'.2 σ5 H5 _ R5 Ev5 (holds_mono (fun yy h6 => ?_) (fun _ _ q => q) (noX_bind h5))⟩
      intro ι6 H6 w f6 R6 iw
      obtain ⟨b, e1, e2, q⟩ := asB_run (holds_bind h6) iw
      refine ⟨b, e2, ?_⟩
      have p6 : Fr ι1 H1 ι6 H6 := ((f3.trans f4).trans f5).trans f6
      cases b with
      | true => exact iteT ⟨ι6, _, p6, R6, q⟩
      | false => exact iteF ((show PE1 G ι H Q (.bl false, yy.2) from q) _ _ _ (f1.trans p6) R6 im_bl)
/-! ### x += e -/
def mAug (i : Nat) (ma : EM) (g : Int → Int → Int) : SM := fun env st => match env[i]? with
  | some (some (.int x)) => (ma env st).bind fun a => match a.1 with
    | .int y => .ok (.nx (env.set i (some (.int (g x y)))), a.2)
    | _ => .fail
  | _ => .fail
theorem exs_aug {i : Nat} {g : Int → Int → Int} (ha : Ex G E ta ma) : ExS G E (tAug i ta (ipI g)) (mAug i ma g) := fun ι env st σ H D R Ev h => by
  unfold mAug at h
  split at h
  · rename_i x hx
    obtain ⟨v, hv, iv⟩ := Ev.at_ i _ hx
    rw [im_int' iv] at hv
    refine ⟨_, hv, ha.run R Ev h fun ι1 H1 a s1 w f1 R1 Ev1 im h1 => ?_⟩
    cases a with
    | int y => exact ⟨x, y, rfl, im_int' im, (show PS1 G ι H D (.nx (env.set i (some (.int (g x y)))), s1) from h1) _ _ f1 R1 _ (Ev1.set i im_int)⟩
    | _ => exact h1.elim
  · exact h.elim
/-! ### slices -/
abbrev OM := Ev → Sto → R (Option Int × Sto)
def ExO (G : Gx) (E : XK) (t : TO) (m : OM) : Prop := ∀ (ι : List Addr) (env : Ev) (st : Sto) (σ : L2.St) (H : Hp) (Q : Option Int → Hp → Prop), Rl G ι H st → EnvR G ι H env σ → (m env st).holds (fun r => ∀ ι' H', Fr ι H ι' H' → Rl G ι' H' r.2 → Q r.1 H') (PXx G ι H E) → t σ H Q
def moNone : OM := fun _ st => .ok (none, st)
def moSome (ma : EM) : OM := fun env st => (ma env st).bind fun a => match a.1 with
  | .int i => .ok (some i, a.2)
  | _ => .fail
theorem exo_none : ExO G E tNoPart moNone := fun ι env st σ H Q R Ev h => (show ∀ ι' H', Fr ι H ι' H' → Rl G ι' H' st → Q none H' from h) ι H (Fr.refl _ _) R
theorem exo_some (ha : Ex G E ta ma) : ExO G E (tPart ta) (moSome ma) := fun ι env st σ H Q R Ev h => by
  refine ha.run R Ev h fun ι1 H1 a s1 w f1 R1 Ev1 im h1 => ?_
  cases a with
  | int y => exact ⟨y, im_int' im, (show ∀ ι' H', Fr ι H ι' H' → Rl G ι' H' s1 → Q (some y) H' from h1) _ _ f1 R1⟩
  | _ => exact h1.elim
def cutA (xs : List A) (lo hi : Option Int) : List A := (xs.drop (HT.sIx xs.length 0 lo)).take (HT.sIx xs.length xs.length hi - HT.sIx xs.length 0 lo)
abbrev FS := A → Option Int → Option Int → Sto → Option (A × Sto)
def OkS (G : Gx) (r : V → Option Int → Option Int → Hp → VK → Prop) (f : FS) : Prop := ∀ ι st H a x lo hi c Q, Rl G ι H st → Im G.K H ι a x → f a lo hi st = some c → PE1 G ι H Q c → r x lo hi H Q
def mSl (f : FS) (ma : EM) (ml mh : OM) : EM := fun env st => (ma env st).bind fun a => (ml env a.2).bind fun l => (mh env l.2).bind fun h => ofO (f a.1 l.1 h.1 h.2)
theorem ex_sl {r : V → Option Int → Option Int → Hp → VK → Prop} {f : FS} {t1 t2 : TO} {m1 m2 : OM} (hf : OkS G r f) (ha : Ex G E ta ma) (h1 : ExO G E t1 m1) (h2 : ExO G E t2 m2) : Ex G E (tSl r ta t1 t2) (mSl f ma m1 m2) := fun ι env st σ H Q R Ev h => by
  refine ha.run R Ev h fun ι1 H1 a s1 v f1 R1 Ev1 im q1 => ?_
  refine h1 ι1 env s1 σ H1 _ R1 Ev1 (go q1 fun l q2 ι2 H2 f2 R2 => ?_)
  refine h2 ι2 env l.2 σ H2 _ R2 (R1.env f2 Ev1) (go (sh f2 q2 fun _ q => q) fun u q3 ι3 H3 f3 R3 => ?_)
  obtain ⟨c, e, q⟩ := ofO_holds q3
  exact hf _ _ _ _ _ _ _ _ _ R3 (R2.im f3 (R1.im f2 im)) e (PE1.sh ((f1.trans f2).trans f3) q)
def fSlT : FS := fun a lo hi st => match a with
  | .tup l => some (.tup (cutA l lo hi), st)
  | _ => none
theorem cutA_im {ι : List Addr} {H : Hp} {l : List A} {xs : List V} {lo hi : Option Int} (il : ImL G.K H ι l xs) : ImL G.K H ι (cutA l lo hi) (cutV xs lo hi) := by
  unfold cutA cutV
  rw [il.length]
  exact imL_take (imL_drop il _) _
theorem ok_slT (M : AmX G T) : OkS G (rSlA G.K) fSlT := fun ι st H a x lo hi c Q R ia e q => by
  unfold fSlT at e
  split at e
  · cases e
    rename_i l
    obtain ⟨p, xs, rfl, hx, il⟩ := im_tup' ia
    refine ⟨p, xs, rfl, hx, fun z => ?_, fun _ p hp => PE1.tup M R (cutA_im il) q hp⟩
    have e2 : cutA l lo hi = l := by
      unfold cutA
      rw [← il.length, z.1, z.2, Nat.sub_zero, il.length, List.drop_zero, List.take_length]
    rw [e2] at q
    exact PE1.at q R ia
  · cases e
def fSlL : FS := fun a lo hi st => match a with
  | .ref n => match st[n]? with
    | some (.lst l) => some (.ref st.length, st ++ [.lst (cutA l lo hi)])
    | _ => none
  | _ => none
theorem ok_slL (M : AmX G T) : OkS G (rSlL G.K) fSlL := fun ι st H a x lo hi c Q R ia e q => by
  unfold fSlL at e
  split at e
  · split at e
    · rename_i l hl
      cases e
      obtain ⟨p, xs, rfl, _, hx, il⟩ := R.lst hl ia
      exact ⟨p, xs, rfl, .inl (.inl hx), fun p hp => PE1.lst M R (cutA_im il) q hp⟩
    · cases e
  · cases e
def fSlS : FS := fun a lo hi st => match a with
  | .str z => if z.length ≤ sizeLine then some (.str (cutS z lo hi), st) else none
  | _ => none
theorem ok_slS : OkS G rSlS fSlS := fun ι st H a x lo hi c Q R ia e q => by
  unfold fSlS at e
  split at e
  · split at e
    · rename_i hz
      cases e
      exact ⟨_, im_str' ia, hz, PE1.at q R im_str⟩
    · cases e
  · cases e
/-! ### a + b, a * n of tuples, lists, texts -/
def fCatT : F2 := fun a b st => match a, b with
  | .tup l, .tup k => if l.length + k.length ≤ sizeLine then some (.tup (l ++ k), st) else none
  | _, _ => none
theorem ok_catT (M : AmX G T) : Ok2 G (rCatA G.K) fCatT := fun ι st H a b x y c Q R ia ib e q => by
  unfold fCatT at e
  split at e
  · split at e
    · rename_i l k hz
      cases e
      obtain ⟨p, xs, rfl, hx, il⟩ := im_tup' ia
      obtain ⟨p2, ys, rfl, hy, jl⟩ := im_tup' ib
      refine ⟨p, p2, xs, ys, rfl, rfl, hx, hy, by rw [il.length, jl.length]; exact hz, fun z => ?_, fun _ z => ?_, fun _ _ r hr => PE1.tup M R (ImL.append il jl) q hr⟩
      · subst z
        have : l = [] := by
          have := il.length
          cases l with
          | nil => rfl
          | cons _ _ => simp at this
        subst this
        exact PE1.at q R ib
      · subst z
        have : k = [] := by
          have := jl.length
          cases k with
          | nil => rfl
          | cons _ _ => simp at this
        subst this
        rw [List.append_nil] at q
        exact PE1.at q R ia
    · cases e
  · cases e
def fCatL : F2 := fun a b st => match a, b with
  | .ref n, .ref m => match st[n]?, st[m]? with
    | some (.lst l), some (.lst k) => if l.length + k.length ≤ sizeLine then some (.ref st.length, st ++ [.lst (l ++ k)]) else none
    | _, _ => none
  | _, _ => none
theorem ok_catL (M : AmX G T) : Ok2 G rCat fCatL := fun ι st H a b x y c Q R ia ib e q => by
  unfold fCatL at e
  split at e
  · split at e
    · rename_i l k hl hk
      split at e
      · rename_i hz
        cases e
        obtain ⟨p, xs, rfl, _, hx, il⟩ := R.lst hl ia
        obtain ⟨p2, ys, rfl, _, hy, jl⟩ := R.lst hk ib
        exact ⟨p, p2, xs, ys, rfl, rfl, hx, hy, by rw [il.length, jl.length]; exact hz, fun r hr => PE1.lst M R (ImL.append il jl) q hr⟩
      · cases e
    · cases e
  · cases e
def fCatS : F2 := fun a b st => match a, b with
  | .str l, .str k => if l.length + k.length ≤ sizeLine then some (.str (l ++ k), st) else none
  | _, _ => none
theorem ok_catS : Ok2 G (fun x y H Q => ∃ i j : Str, x = .str i ∧ y = .str j ∧ i.length + j.length ≤ sizeLine ∧ Q (.str (i ++ j)) H) fCatS := fun ι st H a b x y c Q R ia ib e q => by
  unfold fCatS at e
  split at e
  · split at e
    · rename_i hz
      cases e
      exact ⟨_, _, im_str' ia, im_str' ib, hz, PE1.at q R im_str⟩
    · cases e
  · cases e
theorem imL_rep {ι : List Addr} {H : Hp} {l : List A} {xs : List V} (il : ImL G.K H ι l xs) : ∀ k, ImL G.K H ι (List.replicate k l).flatten (List.replicate k xs).flatten
  | 0 => imL_nil
  | k + 1 => by
    rw [List.replicate_succ, List.replicate_succ, List.flatten_cons, List.flatten_cons]
    exact ImL.append il (imL_rep il k)
def fRepT : F2 := fun a b st => match a, b with
  | .tup l, .int k => if (l ≠ [] ∧ l.length ≤ 100) ∧ 0 ≤ k ∧ k ≤ 5000 then some (.tup (List.replicate k.toNat l).flatten, st) else none
  | _, _ => none
theorem ok_repT (M : AmX G T) : Ok2 G (rRepA G.K) fRepT := fun ι st H a b x y c Q R ia ib e q => by
  unfold fRepT at e
  split at e
  · split at e
    · rename_i l k hz
      cases e
      obtain ⟨p, xs, rfl, hx, il⟩ := im_tup' ia
      refine ⟨p, k, xs, rfl, im_int' ib, hx, fun z => ?_, hz.2.1, hz.2.2, by rw [il.length]; exact hz.1.2, fun z => ?_, fun _ r hr => PE1.tup M R (imL_rep il _) q hr⟩
      · have := il.length
        rw [z] at this
        exact hz.1.1 (List.eq_nil_of_length_eq_zero this.symm)
      · subst z
        have e2 : (List.replicate (1 : Int).toNat l).flatten = l := by
          show (List.replicate 1 l).flatten = l
          simp
        rw [e2] at q
        exact PE1.at q R ia
    · cases e
  · cases e
/-! ### methods of lists and texts -/
abbrev FB := A → List A → Sto → Option (A × Sto)
def OkM (G : Gx) (r : V → List V → Hp → VK → Prop) (f : FB) : Prop := ∀ ι st H a x as xs c Q, Rl G ι H st → Im G.K H ι a x → ImL G.K H ι as xs → f a as st = some c → PE1 G ι H Q c → r x xs H Q
/-- the receiver's type -/
def isTyA (Tn : String) (a : A) (st : Sto) : Bool := match a with
  | .str _ => decide (Tn = "str")
  | .ref n => match st[n]? with
    | some (.lst _) => decide (Tn = "list")
    | _ => false
  | _ => false
theorem tyV_of {ι : List Addr} {H : Hp} {st : Sto} {a : A} {x : V} {Tn : String} (R : Rl G ι H st) (im : Im G.K H ι a x) (h : isTyA Tn a st = true) : tyV G.K Tn x H := by
  unfold isTyA at h
  split at h
  · rw [im_str' im]; show Tn = "str"; exact of_decide_eq_true h
  · split at h
    · rename_i l hl
      obtain ⟨p, xs, rfl, _, hx, il⟩ := R.lst hl im
      exact .inl ⟨of_decide_eq_true h, xs, .inl (.inl hx)⟩
    · cases h
  · cases h
def mBM (Tn : String) (f : FB) (ma : EM) (ml : LM) : EM := fun env st => (ma env st).bind fun a => if isTyA Tn a.1 a.2 = true then (ml env a.2).bind fun l => ofO (f a.1 l.1 l.2) else .fail
theorem ex_bm {Tn : String} {r : V → List V → Hp → VK → Prop} {f : FB} (hf : OkM G r f) (ha : Ex G E ta ma) (hl : ExL G E tl ml) : Ex G E (tBM G.K Tn r ta tl) (mBM Tn f ma ml) := fun ι env st σ H Q R Ev h => by
  refine ha.run R Ev h fun ι1 H1 a s1 v f1 R1 Ev1 im q1 => ?_
  dsimp only at q1
  split at q1
  · rename_i ht
    refine ⟨tyV_of R1 im ht, hl.run R1 Ev1 q1 fun ι2 H2 as s2 w f2 R2 Ev2 im2 q2 => ?_⟩
    obtain ⟨c, e, q⟩ := ofO_holds q2
    exact hf _ _ _ _ _ _ _ _ _ R2 (R1.im f2 im) im2 e (PE1.sh (f1.trans f2) q)
  · exact q1.elim
def mBM0 (Tn : String) (f : FB) (ma : EM) : EM := fun env st => (ma env st).bind fun a => if isTyA Tn a.1 a.2 = true then ofO (f a.1 [] a.2) else .fail
theorem ex_bm0 {Tn : String} {r : V → List V → Hp → VK → Prop} {f : FB} (hf : OkM G r f) (ha : Ex G E ta ma) : Ex G E (tBM0 G.K Tn r ta) (mBM0 Tn f ma) := fun ι env st σ H Q R Ev h => by
  refine ha.run R Ev h fun ι1 H1 a s1 v f1 R1 Ev1 im q1 => ?_
  dsimp only at q1
  split at q1
  · rename_i ht
    refine ⟨tyV_of R1 im ht, ?_⟩
    obtain ⟨c, e, q⟩ := ofO_holds q1
    exact hf _ _ _ _ _ _ _ _ _ R1 im imL_nil e (PE1.sh f1 q)
  · exact q1.elim
def mM1 (f : FB) (ma mb : EM) : EM := fun env st => (ma env st).bind fun a => match a.1 with
  | .str z => (mb env a.2).bind fun b => ofO (f (.str z) [b.1] b.2)
  | _ => .fail
theorem ex_m1 {r : V → List V → Hp → VK → Prop} {f : FB} (hf : OkM G r f) (ha : Ex G E ta ma) (hb : Ex G E tb mb) : Ex G E (tM1 r ta tb) (mM1 f ma mb) := fun ι env st σ H Q R Ev h => by
  refine ha.run R Ev h fun ι1 H1 a s1 v f1 R1 Ev1 im q1 => ?_
  cases a with
  | str z =>
    refine ⟨⟨z, im_str' im⟩, hb.run R1 Ev1 q1 fun ι2 H2 as s2 w f2 R2 Ev2 im2 q2 => ?_⟩
    obtain ⟨c, e, q⟩ := ofO_holds q2
    exact hf _ _ _ _ _ _ _ _ _ R2 (R1.im f2 im) (imL_cons im2 imL_nil) e (PE1.sh (f1.trans f2) q)
  | _ => exact q1.elim
def fAppend : FB := fun a as st => match a, as with
  | .ref n, [y] => match st[n]? with
    | some (.lst l) => if l.length < sizeLine then some (.non, st.set n (.lst (l ++ [y]))) else none
    | _ => none
  | _, _ => none
theorem ok_append (M : AmX G T) : OkM G rAppend fAppend := fun ι st H a x as xs c Q R ia il e q => by
  unfold fAppend at e
  split at e
  · split at e
    · rename_i l hl
      split at e
      · rename_i hz
        cases e
        obtain ⟨y, rfl, iy⟩ := imL_1 il
        obtain ⟨p, xs, rfl, hp, hx, jl⟩ := R.lst hl ia
        exact ⟨p, xs, y, rfl, rfl, hx, by rw [jl.length]; exact hz, PE1.mut M R hp ⟨_, hx⟩ (ImL.append jl (imL_cons iy imL_nil)) im_non q⟩
      · cases e
    · cases e
  · cases e
def fPop : FB := fun a as st => match a, as with
  | .ref n, [] => match st[n]? with
    | some (.lst l) => (l[l.length - 1]?).map fun y => (y, st.set n (.lst l.dropLast))
    | _ => none
  | _, _ => none
theorem ok_pop (M : AmX G T) : OkM G rPop fPop := fun ι st H a x as xs c Q R ia il e q => by
  unfold fPop at e
  split at e
  · split at e
    · rename_i l hl
      cases hy : l[l.length - 1]? with
      | none => rw [hy] at e; cases e
      | some y =>
        rw [hy] at e
        cases e
        obtain ⟨p, xs, rfl, hp, hx, jl⟩ := R.lst hl ia
        obtain ⟨v, hv, iv⟩ := imL_get jl hy
        exact ⟨p, xs, v, rfl, imL_nil' il, hx, by rw [jl.length]; exact hv, PE1.mut M R hp ⟨_, hx⟩ (imL_dropLast jl) iv q⟩
    · cases e
  · cases e
def fExtend : FB := fun a as st => match a, as with
  | .ref n, [.ref m] => match st[n]?, st[m]? with
    | some (.lst l), some (.lst k) => if l.length + k.length ≤ sizeLine then some (.non, st.set n (.lst (l ++ k))) else none
    | _, _ => none
  | _, _ => none
theorem ok_extend (M : AmX G T) : OkM G rExtend fExtend := fun ι st H a x as xs c Q R ia il e q => by
  unfold fExtend at e
  split at e
  · split at e
    · rename_i l k hl hk
      split at e
      · rename_i hz
        cases e
        obtain ⟨y, rfl, iy⟩ := imL_1 il
        obtain ⟨p, xs, rfl, hp, hx, jl⟩ := R.lst hl ia
        obtain ⟨p2, ys, rfl, _, hy, kl⟩ := R.lst hk iy
        exact ⟨p, p2, xs, ys, rfl, rfl, hx, hy, by rw [jl.length, kl.length]; exact hz, PE1.mut M R hp ⟨_, hx⟩ (ImL.append jl kl) im_non q⟩
      · cases e
    · cases e
  · cases e
def strsOf : List A → Option (List Str)
  | [] => some []
  | .str s :: l => (strsOf l).map fun r => s :: r
  | _ => none
theorem strsOf_im {ι : List Addr} {H : Hp} : ∀ {l : List A} {xs : List V} {ys : List Str}, ImL G.K H ι l xs → strsOf l = some ys → xs = ys.map V.str
  | [], xs, ys, il, e => by cases e; rw [imL_nil' il]; rfl
  | .str s :: l, xs, ys, il, e => by
    obtain ⟨v, vs, rfl, i1, i2⟩ := imL_cons' il
    unfold strsOf at e
    cases hr : strsOf l with
    | none => rw [hr] at e; cases e
    | some r =>
      rw [hr] at e
      cases e
      rw [im_str' i1, strsOf_im i2 hr]
      rfl
  | .non :: l, xs, ys, il, e => by cases e
  | .bl _ :: l, xs, ys, il, e => by cases e
  | .int _ :: l, xs, ys, il, e => by cases e
  | .ty _ :: l, xs, ys, il, e => by cases e
  | .tup _ :: l, xs, ys, il, e => by cases e
  | .ref _ :: l, xs, ys, il, e => by cases e
def fJoin : FB := fun a as st => match a, as with
  | .str s, [.ref n] => match st[n]? with
    | some (.lst l) => match strsOf l with
      | some ys => if (ys.map (·.length)).sum + ys.length * s.length ≤ 16777216 then some (.str (Txt.join s ys), st) else none
      | none => none
    | _ => none
  | _, _ => none
theorem ok_join : OkM G (fun x xs H Q => ∃ a p, ∃ ys : List Str, x = .str a ∧ xs = [.ref p] ∧ (SqL G.K H p (ys.map V.str) ∨ SqT G.K H p (ys.map V.str)) ∧
    (ys.map (·.length)).sum + ys.length * a.length ≤ 16777216 ∧ Q (.str (Txt.join a ys)) H) fJoin := fun ι st H a x as xs c Q R ia il e q => by
  unfold fJoin at e
  split at e
  · split at e
    · rename_i l hl
      split at e
      · rename_i ys hys
        split at e
        · rename_i hz
          cases e
          obtain ⟨y, rfl, iy⟩ := imL_1 il
          obtain ⟨p, xs, rfl, hp, hx, jl⟩ := R.lst hl iy
          rw [strsOf_im jl hys] at hx
          exact ⟨_, p, ys, im_str' ia, rfl, .inl (.inl (.inl hx)), hz, PE1.at q R im_str⟩
        · cases e
      · cases e
    · cases e
  · cases e
def fFind : FB := fun a as st => match a, as with
  | .str s, [.str t] => some (.int (Txt.find s t), st)
  | _, _ => none
theorem ok_find : OkM G (fun x xs H Q => ∃ a b : Str, x = .str a ∧ xs = [.str b] ∧ Q (.int (Txt.find a b)) H) fFind := fun ι st H a x as xs c Q R ia il e q => by
  unfold fFind at e
  split at e
  · cases e
    obtain ⟨y, rfl, iy⟩ := imL_1 il
    exact ⟨_, _, im_str' ia, by rw [im_str' iy], PE1.at q R im_int⟩
  · cases e
/-! ### raise -/
def fldOk : A → Bool
  | .str y => decide (y.length ≤ 100)
  | .int i => decide (i.natAbs.log2 < 1000)
  | .non => true
  | _ => false
def mRz0 (c : Nat) : SM := fun _ st => .exc (c, none) st
def mRz1 (c : Nat) (f : Str) (ml : LM) : SM := fun env st => (ml env st).bind fun l => match l.1 with
  | [a] => if fldOk a = true then .exc (c, some (f, a)) l.2 else .fail
  | _ => .fail
theorem exs_rz0 {c : Nat} : ExS G E (fun _ _ H => E (.ref (G.xc c)) none H) (mRz0 c) := fun ι env st σ H D R Ev h => (show PXx G ι H E (c, none) st from h) ι H (Fr.refl _ _) R
theorem fr_raise {ι : List Addr} {H : Hp} {a dx : Addr} {u v o o' : HO} (R : (∀ b ∈ ι, H b ≠ none)) (na : H a = none) (nd : H dx = none) : Fr ι H ι (upd (del (upd (upd (upd H a u) dx v) a o) a) dx o') := by
  have st : ∀ b w, H b = some w → (upd (del (upd (upd (upd H a u) dx v) a o) a) dx o') b = some w := fun b w e => by
    have h1 : b ≠ a := ne_of_none e na
    have h2 : b ≠ dx := ne_of_none e nd
    rw [upd_ne h2, del_ne h1, upd_ne h1, upd_ne h2, upd_ne h1]
    exact e
  refine ⟨List.prefix_refl _, fun _ h => .inl h, fun b w e _ _ => st b w e, fun b e => ?_, fun b _ _ e => st b _ e⟩
  cases hb : H b with
  | none => exact absurd hb e
  | some w => rw [st b w hb]; simp
theorem exs_rz1 (M : AmX G T) {c : Nat} {f : Str} (ho : OexC G.K (G.xc c)) (hno : PySem.W.findIn G.K (.ref (G.xc c)) f = some none) (hl : ExL G E tl ml) : ExS G E (fun _ σ H => tMkO (G.xc c) (Mk.spInit G.K (G.xc c) f) [] tl σ H fun cls d H' => E cls d H') (mRz1 c f ml) := fun ι env st σ H D R Ev h => by
  refine hl.run R Ev h fun ι1 H1 as s1 vs f1 R1 Ev1 im q1 => ?_
  dsimp only at q1
  split at q1
  · split at q1
    · rename_i y hk
      obtain ⟨v, rfl, iv⟩ := imL_1 im
      have hv : (∃ y : Str, v = .str y ∧ y.length ≤ 100) ∨ (∃ i : Int, v = .int i ∧ i.natAbs.log2 < 1000) ∨ v = .non := by
        unfold fldOk at hk
        split at hk
        · exact .inl ⟨_, im_str' iv, of_decide_eq_true hk⟩
        · exact .inr (.inl ⟨_, im_int' iv, of_decide_eq_true hk⟩)
        · exact .inr (.inr (im_non' iv))
        · cases hk
      refine ⟨by show 1 ≤ 1000; decide, fun a na => ⟨a, v, rfl, hv, ho, hno, upd_same, fun dx nd ne => ⟨rfl, dx, [(f, v)], upd_same, by rw [upd_ne ne, upd_same], by rw [upd_ne ne] at nd; exact nd, ?_⟩⟩⟩
      have hd : H1 dx = none := by rw [upd_ne ne] at nd; exact nd
      have fr := fr_raise (ι := ι1) (u := exo a (G.xc c) none) (v := exd dx [(f, v)]) (o := exo a (G.xc c) (some dx)) (o' := .xd [(f, v)]) (fun b hb => by obtain ⟨_, q, _⟩ := R1.kind hb; rw [q]; simp) na hd
      have same : ∀ b o, H1 b = some o → (upd (del (upd (upd (upd H1 a (exo a (G.xc c) none)) dx (exd dx [(f, v)])) a (exo a (G.xc c) (some dx))) a) dx (.xd [(f, v)])) b = some o := fun b o e => by
        have h1 : b ≠ a := ne_of_none e na
        have h2 : b ≠ dx := ne_of_none e hd
        rw [upd_ne h2, del_ne h1, upd_ne h1, upd_ne h2, upd_ne h1]
        exact e
      have R2 : Rl G ι1 (upd (del (upd (upd (upd H1 a (exo a (G.xc c) none)) dx (exd dx [(f, v)])) a (exo a (G.xc c) (some dx))) a) dx (.xd [(f, v)])) s1 :=
        ⟨M.same R1.am fun b o e _ => same b o e, R1.len, R1.nd, fun n o b h1 h2 => ImO.mono R1 fr (by
          obtain ⟨_, q, _⟩ := R1.kind (List.mem_of_getElem? h2)
          rw [q]
          exact same _ _ q) (R1.ob n o b h1 h2)⟩
      exact (show PXx G ι1 H1 E (c, some (f, y)) s1 from q1) _ _ fr R2 dx v upd_same (R1.im fr iv)
    · exact q1.elim
  · exact q1.elim
end
end Mx

/-! ### MkX7 -/
set_option Elab.async false
set_option linter.all false
set_option maxRecDepth 100000
set_option maxHeartbeats 4000000
namespace Mx
open PySem PySem.Spec PyProof.Rows L2
open GxR (TabG Tabbed)
/-! ### in -/
def rInB (K : PySem.W.Frag) : R2 := fun x y H Q => ∃ d ds, Dp K H x d ∧ (Dp K H y (.list ds) ∨ Dp K H y (.tuple ds)) ∧ SeqAt.shaped d = true ∧ SeqAt.shaped (.list ds) = true ∧ Q (.bl (ds.any fun z => PyData.eqv z d)) H
def rNotInB (K : PySem.W.Frag) : R2 := fun x y H Q => ∃ d ds, Dp K H x d ∧ (Dp K H y (.list ds) ∨ Dp K H y (.tuple ds)) ∧ SeqAt.shaped d = true ∧ SeqAt.shaped (.list ds) = true ∧ Q (.bl (!ds.any fun z => PyData.eqv z d)) H
theorem op_inB {X : Cx} (hu : X.A.units + 65 < cLine) : OpR X (compareOp .In) (rInB X.K) := by
  intro pins s σ H x y v u Q I rx ry h
  obtain ⟨d, ds, hd, he, sd, se, q⟩ := h
  obtain ⟨as, r1⟩ := Dp.reads I d x v hd rx
  rcases he with he | he
  · obtain ⟨bs, r2⟩ := Dp.reads I (.list ds) y u he ry
    exact SeqAt.in_list_reads r2 r1 (SeqAt.canLay_of_shaped se) (SeqAt.canLay_of_shaped sd) (room_in_shaped sd hu) ⟨.bl _, H, I, rfl, q⟩
  · obtain ⟨bs, r2⟩ := Dp.reads I (.tuple ds) y u he ry
    exact SeqAt.in_tuple_reads r2 r1 (SeqAt.canLay_of_shaped se) (SeqAt.canLay_of_shaped sd) (room_in_shaped sd hu) ⟨.bl _, H, I, rfl, q⟩
theorem op_notInB {X : Cx} (hu : X.A.units + 65 < cLine) : OpR X (compareOp .NotIn) (rNotInB X.K) := by
  intro pins s σ H x y v u Q I rx ry h
  obtain ⟨d, ds, hd, he, sd, se, q⟩ := h
  obtain ⟨as, r1⟩ := Dp.reads I d x v hd rx
  rcases he with he | he
  · obtain ⟨bs, r2⟩ := Dp.reads I (.list ds) y u he ry
    exact SeqAt.notIn_list_reads r2 r1 (SeqAt.canLay_of_shaped se) (SeqAt.canLay_of_shaped sd) (room_in_shaped sd hu) ⟨.bl _, H, I, rfl, q⟩
  · obtain ⟨bs, r2⟩ := Dp.reads I (.tuple ds) y u he ry
    exact SeqAt.notIn_tuple_reads r2 r1 (SeqAt.canLay_of_shaped se) (SeqAt.canLay_of_shaped sd) (room_in_shaped sd hu) ⟨.bl _, H, I, rfl, q⟩
section
variable {G : Gx} {T : List Addr} {E : XK} {ta tb : TE} {ma mb : EM} {tl : TA} {ml : LM}
/-- x in the items, by values: quick where all are plain -/
def inPlain (a : A) : List A → Option Bool
  | [] => some false
  | b :: l => match b, a with
    | .str s, .str t => if s = t then some true else inPlain a l
    | .int i, .int j => if i = j then some true else inPlain a l
    | _, _ => none
def inDeep (a : A) (l : List A) (st : Sto) : Option Bool := match toP st 40 a, toPs st 40 l with
  | some d, some ds => if (SeqAt.shaped d && SeqAt.shaped (.list ds)) = true then some (ds.any fun z => PyData.eqv z d) else none
  | _, _ => none
def seqOf (b : A) (st : Sto) : Option (List A) := match b with
  | .tup l => some l
  | .ref n => match st[n]? with
    | some (.lst l) => some l
    | _ => none
  | _ => none
def inA (a b : A) (st : Sto) : Option Bool := (seqOf b st).bind fun l => inDeep a l st
def fIn : F2 := fun a b st => (inA a b st).map fun c => (.bl c, st)
def fNotIn : F2 := fun a b st => (inA a b st).map fun c => (.bl (!c), st)
theorem inA_ok {ι : List Addr} {H : Hp} {st : Sto} (R : Rl G ι H st) {a b : A} {x y : V} {c : Bool} (ia : Im G.K H ι a x) (ib : Im G.K H ι b y) (e : inA a b st = some c) :
    ∃ d ds, Dp G.K H x d ∧ (Dp G.K H y (.list ds) ∨ Dp G.K H y (.tuple ds)) ∧ SeqAt.shaped d = true ∧ SeqAt.shaped (.list ds) = true ∧ (ds.any fun z => PyData.eqv z d) = c := by
  unfold inA at e
  cases hl : seqOf b st with
  | none => rw [hl] at e; cases e
  | some l =>
    rw [hl] at e
    replace e : inDeep a l st = some c := e
    unfold inDeep at e
    split at e
    · rename_i d ds h1 h2
      split at e
      · rename_i hs
        cases e
        rw [Bool.and_eq_true] at hs
        refine ⟨d, ds, dp_of R ia h1, ?_, hs.1, hs.2, rfl⟩
        unfold seqOf at hl
        split at hl
        · cases hl
          obtain ⟨p, xs, rfl, hx, il⟩ := im_tup' ib
          exact .inr (.tup hx (dps_of R il h2))
        · split at hl
          · rename_i l2 hl2
            cases hl
            obtain ⟨p, xs, rfl, _, hx, il⟩ := R.lst hl2 ib
            exact .inl (.lst (.inl (.inl hx)) (dps_of R il h2))
          · cases hl
        · cases hl
      · cases e
    · cases e
theorem ok_in : Ok2 G (rInB G.K) fIn := fun ι st H a b x y c Q R ia ib e q => by
  unfold fIn at e
  cases h : inA a b st with
  | none => rw [h] at e; cases e
  | some c' =>
    rw [h] at e
    cases e
    obtain ⟨d, ds, h1, h2, h3, h4, z⟩ := inA_ok R ia ib h
    exact ⟨d, ds, h1, h2, h3, h4, by rw [z]; exact PE1.at q R im_bl⟩
theorem ok_notIn : Ok2 G (rNotInB G.K) fNotIn := fun ι st H a b x y c Q R ia ib e q => by
  unfold fNotIn at e
  cases h : inA a b st with
  | none => rw [h] at e; cases e
  | some c' =>
    rw [h] at e
    cases e
    obtain ⟨d, ds, h1, h2, h3, h4, z⟩ := inA_ok R ia ib h
    exact ⟨d, ds, h1, h2, h3, h4, by rw [z]; exact PE1.at q R im_bl⟩
/-! ### f-strings -/
def mFmt (ma : EM) : EM := fun env st => (ma env st).bind fun a => match a.1 with
  | .str y => if y.length ≤ sizeLine then .ok (.str y, a.2) else .fail
  | .int i => if i.natAbs.log2 < 1920 then .ok (.str (toString i), a.2) else .fail
  | _ => .fail
theorem ex_fmt (ha : Ex G E ta ma) : Ex G E (tFmt ta) (mFmt ma) := fun ι env st σ H Q R Ev h => by
  refine ha.run R Ev h fun ι1 H1 a s1 v f1 R1 Ev1 im q1 => ?_
  dsimp only at q1
  split at q1
  · split at q1
    · rename_i hz
      exact .inl ⟨_, im_str' im, hz, (show PE1 G ι H Q (.str _, s1) from q1) _ _ _ f1 R1 im_str⟩
    · exact q1.elim
  · split at q1
    · rename_i hz
      exact .inr ⟨_, im_int' im, hz, (show PE1 G ι H Q (.str _, s1) from q1) _ _ _ f1 R1 im_str⟩
    · exact q1.elim
  · exact q1.elim
inductive ExJ (G : Gx) (E : XK) : List TE → List EM → Prop where
  | nil : ExJ G E [] []
  | cons {t : TE} {m : EM} {ts : List TE} {ms : List EM} (h : Ex G E t m) (r : ExJ G E ts ms) : ExJ G E (t :: ts) (m :: ms)
def jsG : List EM → Str → Ev → Sto → R (A × Sto)
  | [], acc, _, st => .ok (.str acc, st)
  | m :: ms, acc, env, st => (m env st).bind fun a => match a.1 with
    | .str y => if (acc ++ y).length ≤ sizeLine then jsG ms (acc ++ y) env a.2 else .fail
    | _ => .fail
def mJs (ms : List EM) : EM := fun env st => jsG ms Str.empty env st
theorem js_run {ts : List TE} {ms : List EM} (h : ExJ G E ts ms) : ∀ (acc : Str) (ι : List Addr) (env : Ev) (st : Sto) (σ : L2.St) (H : Hp) (Q : VK), Rl G ι H st → EnvR G ι H env σ → (jsG ms acc env st).holds (PE1 G ι H Q) (PXx G ι H E) → tJs ts acc σ H fun out H1 => Q (.str out) H1 := by
  induction h with
  | nil => exact fun acc ι env st σ H Q R Ev h => (show PE1 G ι H Q (.str acc, st) from h) ι H _ (Fr.refl _ _) R im_str
  | cons ha _ ih =>
    intro acc ι env st σ H Q R Ev h
    refine ha.run R Ev h fun ι1 H1 a s1 v f1 R1 Ev1 im q1 => ?_
    dsimp only at q1
    split at q1
    · split at q1
      · rename_i y hz
        exact ⟨y, im_str' im, hz, ih _ ι1 env s1 σ H1 Q R1 Ev1 (sh (Fr.refl _ _) q1 fun _ q => PE1.sh f1 q)⟩
      · exact q1.elim
    · exact q1.elim
theorem ex_js {ts : List TE} {ms : List EM} (h : ExJ G E ts ms) : Ex G E (fun σ H Q => tJs ts Str.empty σ H fun out H1 => Q (.str out) H1) (mJs ms) := fun ι env st σ H Q R Ev q => js_run h Str.empty ι env st σ H Q R Ev q
/-! ### fields -/
theorem ImF.look {ι : List Addr} {H : Hp} {f : Str} : ∀ {fs : List (Str × A)} {vs : List (Str × V)}, ImF G.K H ι fs vs → (fs.lookup f = none → vs.lookup f = none) ∧ ∀ a, fs.lookup f = some a → ∃ v, vs.lookup f = some v ∧ Im G.K H ι a v
  | [], vs, h => by unfold ImF at h; subst h; exact ⟨fun _ => rfl, fun a z => by cases z⟩
  | (g, d) :: fs, vs, h => by
    unfold ImF at h
    obtain ⟨v, vs, rfl, h1, h2⟩ := h
    rw [List.lookup_cons, List.lookup_cons]
    split
    · refine ⟨fun z => ?_, fun a z => ?_⟩
      · cases z
      · cases z; exact ⟨v, rfl, h1⟩
    · exact ImF.look h2
theorem Rl.ins {ι : List Addr} {H : Hp} {st : Sto} (R : Rl G ι H st) {n c : Nat} {fs : List (Str × A)} {v : V} (h : st[n]? = some (.ins c fs)) (im : Im G.K H ι (.ref n) v) : ∃ a dx vs, v = .ref a ∧ ι[n]? = some a ∧ H a = some (.ins (G.cl c) dx vs) ∧ ImF G.K H ι fs vs := by
  obtain ⟨a, e, rfl⟩ := im_ref' im
  obtain ⟨dx, vs, h1, h2⟩ := R.ob n _ a h e
  exact ⟨a, dx, vs, rfl, e, h1, h2⟩
def mFld (c : Nat) (f : Str) (ma : EM) : EM := fun env st => (ma env st).bind fun a => match a.1 with
  | .ref n => match a.2[n]? with
    | some (.ins c' fs) => if c' = c then (match fs.lookup f with | some x => .ok (x, a.2) | none => .fail) else .fail
    | _ => .fail
  | _ => .fail
theorem ex_fld {c : Nat} {f : Str} (hc : Cls G.K (G.cl c)) (hn : NoAttr G.K (G.cl c) f) (ha : Ex G E ta ma) : Ex G E (tFld G.K ta f) (mFld c f ma) := fun ι env st σ H Q R Ev h => by
  refine ha.run R Ev h fun ι1 H1 a s1 v f1 R1 Ev1 im q1 => ?_
  dsimp only at q1
  split at q1
  · split at q1
    · rename_i c' fs hfs
      split at q1
      · rename_i hcc
        subst hcc
        split at q1
        · rename_i x hx
          obtain ⟨p, dx, vs, rfl, _, hp, il⟩ := R1.ins hfs im
          obtain ⟨w, hw, iw⟩ := (ImF.look il).2 x hx
          exact ⟨p, _, dx, vs, w, rfl, hp, hc, hn, hw, (show PE1 G ι H Q (x, s1) from q1) _ _ _ f1 R1 iw⟩
        · exact q1.elim
      · exact q1.elim
    · exact q1.elim
  · exact q1.elim
def putA (f : Str) (v : A) : List (Str × A) → List (Str × A)
  | [] => [(f, v)]
  | (g, x) :: r => if g = f then (g, v) :: r else (g, x) :: putA f v r
theorem ImF.put {ι : List Addr} {H : Hp} {f : Str} {a : A} {v : V} (ia : Im G.K H ι a v) : ∀ {fs : List (Str × A)} {vs : List (Str × V)}, ImF G.K H ι fs vs → ImF G.K H ι (putA f a fs) (putF f v vs)
  | [], vs, h => by unfold ImF at h; subst h; unfold putA putF ImF; exact ⟨v, [], rfl, ia, by unfold ImF; rfl⟩
  | (g, d) :: fs, vs, h => by
    unfold ImF at h
    obtain ⟨w, ws, rfl, h1, h2⟩ := h
    unfold putA putF
    split
    · unfold ImF; exact ⟨v, ws, rfl, ia, h2⟩
    · unfold ImF; exact ⟨w, _, rfl, h1, ImF.put ia h2⟩
theorem ImF.length {ι : List Addr} {H : Hp} : ∀ {fs : List (Str × A)} {vs : List (Str × V)}, ImF G.K H ι fs vs → vs.length = fs.length
  | [], vs, h => by unfold ImF at h; subst h; rfl
  | (g, d) :: fs, vs, h => by
    unfold ImF at h
    obtain ⟨w, ws, rfl, h1, h2⟩ := h
    rw [List.length_cons, List.length_cons, ImF.length h2]
def mSetF (c : Nat) (f : Str) (ma mv : EM) : SM := fun env st => (mv env st).bind fun y => (ma env y.2).bind fun a => match a.1 with
  | .ref n => match a.2[n]? with
    | some (.ins c' fs) => if c' = c ∧ fs.length < 1000 then .ok (.nx env, a.2.set n (.ins c' (putA f y.1 fs))) else .fail
    | _ => .fail
  | _ => .fail
theorem exs_setF (M : AmX G T) {c : Nat} {f : Str} (hc : Cls G.K (G.cl c)) (hn : NoAttr G.K (G.cl c) f) {tv : TE} {mv : EM} (ha : Ex G E ta ma) (hv : Ex G E tv mv) : ExS G E (sFld G.K ta tv f) (mSetF c f ma mv) := fun ι env st σ H D R Ev h => by
  refine hv.run R Ev h fun ι1 H1 y s1 w f1 R1 Ev1 iw q1 => ?_
  refine ha.run R1 Ev1 q1 fun ι2 H2 a s2 v f2 R2 Ev2 im q2 => ?_
  dsimp only at q2
  split at q2
  · split at q2
    · rename_i c' fs hfs
      split at q2
      · rename_i hcc
        obtain ⟨rfl, hlen⟩ := hcc
        obtain ⟨p, dx, vs, rfl, hp, hx, il⟩ := R2.ins hfs im
        refine ⟨p, _, dx, vs, rfl, hx, hc, hn, by rw [ImF.length il]; exact hlen, ?_⟩
        have nf3 : ∀ ob u, H2 p ≠ some (.frz ob u) := fun ob u z => by rw [hx] at z; cases z
        have fs3 : Fr ι2 H2 ι2 (upd H2 p (.ins (G.cl c') dx (putF f w vs))) := Fr.set (List.mem_of_getElem? hp) nf3
        have R3 : Rl G ι2 (upd H2 p (.ins (G.cl c') dx (putF f w vs))) (s2.set _ (.ins c' (putA f y fs))) := R2.set M hp nf3 ⟨dx, _, upd_same, R2.imF fs3 (ImF.put (R1.im f2 iw) il)⟩
        exact (show PS1 G ι H D (.nx env, s2.set _ (.ins c' (putA f y fs))) from q2) _ _ ((f1.trans f2).trans fs3) R3 σ (R2.env fs3 Ev2)
      · exact q2.elim
    · exact q2.elim
  · exact q2.elim
/-! ### methods, making, properties -/
def mMeth (c : Nat) (m : Str) (f : FM) (n : Nat) (ma : EM) (ml : LM) : EM := fun env st => (ma env st).bind fun a => match a.1 with
  | .ref k => match a.2[k]? with
    | some (.ins c' fs) => if c' = c ∧ fs.lookup m = none then (ml env a.2).bind fun l => if l.1.length + 1 = n then f (.ref k :: l.1) l.2 else .fail else .fail
    | _ => .fail
  | _ => .fail
theorem ex_meth {c n : Nat} {m : Str} {f : FM} (ha : Ex G E ta ma) (hl : ExL G E tl ml) : Ex G E (tMeth (G.cl c) m (spX G n f) [] E ta tl) (mMeth c m f n ma ml) := fun ι env st σ H Q R Ev h => by
  refine ha.run R Ev h fun ι1 H1 a s1 v f1 R1 Ev1 im q1 => ?_
  dsimp only at q1
  split at q1
  · split at q1
    · rename_i c' fs hfs
      split at q1
      · rename_i hcc
        obtain ⟨rfl, hm⟩ := hcc
        obtain ⟨p, dx, vs, rfl, hp, hx, il⟩ := R1.ins hfs im
        refine ⟨p, dx, vs, rfl, hx, (ImF.look il).1 hm, hl.run R1 Ev1 q1 fun ι2 H2 as s2 w f2 R2 Ev2 im2 q2 => ?_⟩
        dsimp only at q2
        split at q2
        · rename_i hn
          refine ⟨?_, ι2, s2, _, R2, imL_cons (R1.im f2 im) (by rw [List.append_nil]; exact im2), sh (Fr.refl _ _) q2 fun _ q => PE1.sh (f1.trans f2) q⟩
          rw [List.append_nil, List.length_cons, im2.length]
          exact hn
        · exact q2.elim
      · exact q1.elim
    · exact q1.elim
  · exact q1.elim
def mMake (c : Nat) (f : FM) (n : Nat) (ml : LM) : EM := fun env st => (ml env st).bind fun l => if l.1.length + 1 = n then
    (f (.ref l.2.length :: l.1) (l.2 ++ [.ins c []])).bind fun r => match r.1 with
      | .non => .ok (.ref l.2.length, r.2)
      | _ => .fail
  else .fail
theorem Fr.make {ι : List Addr} {H : Hp} {x dx : Addr} {o u : HO} (hx : H x = none) (hd : H dx = none) : Fr ι H (ι ++ [x]) (upd (upd H dx u) x o) := ⟨List.prefix_append _ _, fun b h => by
  rcases List.mem_append.mp h with h | h
  · exact .inl h
  · rw [List.mem_singleton.mp h]; exact .inr hx, fun a w h _ _ => by rw [upd_ne (ne_of_none h hx), upd_ne (ne_of_none h hd)]; exact h, fun a h z => h (by
  by_cases e : a = x
  · rw [e]; exact hx
  · rw [upd_ne e] at z
    by_cases e2 : a = dx
    · rw [e2]; exact hd
    · rw [upd_ne e2] at z; exact z), fun a ob w h => by rw [upd_ne (ne_of_none h hx), upd_ne (ne_of_none h hd)]; exact h⟩
theorem ex_make (M : AmX G T) {c n : Nat} {f : FM} (hl : ExL G E tl ml) : Ex G E (tMake (G.cl c) (spX G n f) [] E tl) (mMake c f n ml) := fun ι env st σ H Q R Ev h => by
  refine hl.run R Ev h fun ι1 H1 as s1 vs f1 R1 Ev1 im q1 => ?_
  dsimp only at q1
  split at q1
  · rename_i hn
    intro x dx hx hd hne
    have f2 : Fr ι1 H1 (ι1 ++ [x]) (upd (upd H1 dx (.own x)) x (.ins (G.cl c) dx [])) := Fr.make hx hd
    have hx2 : (upd H1 dx (.own x)) x = none := by rw [upd_ne (Ne.symm hne)]; exact hx
    have R2 : Rl G (ι1 ++ [x]) (upd (upd H1 dx (.own x)) x (.ins (G.cl c) dx [])) (s1 ++ [.ins c []]) := (R1.new M hd).obj M hx2 ⟨dx, [], upd_same, by unfold ImF; rfl⟩
    have hk : (ι1 ++ [x])[s1.length]? = some x := by rw [← R1.len, List.getElem?_append_right (Nat.le_refl _), Nat.sub_self]; rfl
    refine ⟨by rw [List.append_nil, List.length_cons, im.length]; exact hn, ι1 ++ [x], s1 ++ [.ins c []], _, R2, imL_cons (im_ref hk) (by rw [List.append_nil]; exact R1.imL f2 im), ?_⟩
    refine holds_mono (fun r q2 => ?_) (fun _ _ q => PXx.sh f2 q) (holds_bind q1)
    intro ι3 H3 v f3 R3 iv
    obtain ⟨rv, rs⟩ := r
    cases rv with
    | non =>
      refine ⟨im_non' iv, (show PE1 G ι H Q (.ref s1.length, rs) from q2) _ _ _ ((f1.trans f2).trans f3) R3 (im_ref ?_)⟩
      obtain ⟨z, rfl⟩ := f3.pre
      rw [List.getElem?_append_left (List.getElem?_eq_some_iff.mp hk).1]
      exact hk
    | _ => exact q2.elim
  · exact q1.elim
def mProp (c : Nat) (f : FM) (ma : EM) : EM := fun env st => (ma env st).bind fun a => match a.1 with
  | .ref k => match a.2[k]? with
    | some (.ins c' _) => if c' = c then noX (f [.ref k] a.2) else .fail
    | _ => .fail
  | _ => .fail
theorem ex_prop {c : Nat} {f : FM} (ha : Ex G E ta ma) : Ex G E (tProp (G.cl c) (spX G 1 f) [] EF ta) (mProp c f ma) := fun ι env st σ H Q R Ev h => by
  refine ha.run R Ev h fun ι1 H1 a s1 v f1 R1 Ev1 im q1 => ?_
  dsimp only at q1
  split at q1
  · split at q1
    · rename_i c' fs hfs
      split at q1
      · rename_i hcc
        subst hcc
        obtain ⟨p, dx, vs, rfl, hp, hx, il⟩ := R1.ins hfs im
        exact ⟨p, dx, vs, rfl, hx, rfl, ι1, s1, [.ref _], R1, imL_cons im imL_nil, holds_mono (fun _ q => PE1.sh f1 q) (fun _ _ q => q) (noX_holds q1)⟩
      · exact q1.elim
    · exact q1.elim
  · exact q1.elim
/-! ### x[i] = e -/
def gmSub (mo mi : EM) : GM := fun v env st => (mo env st).bind fun o => (mi env o.2).bind fun i => match o.1, i.1 with
  | .ref n, .int k => match i.2[n]? with
    | some (.lst l) => match ixN l.length k with
      | some j => .ok (env, i.2.set n (.lst (l.set j v)))
      | none => .fail
    | _ => .fail
  | _, _ => .fail
theorem exg_subL (M : AmX G T) {to ti : TE} {mo mi : EM} (ho : Ex G E to mo) (hi : Ex G E ti mi) : ExG G E (gSub to ti rSetL) (gmSub mo mi) := fun ι env st σ H a v Q R Ev im h => by
  refine ho.run R Ev h fun ι1 H1 o s1 ov f1 R1 Ev1 io q1 => ?_
  refine hi.run R1 Ev1 q1 fun ι2 H2 i s2 iv f2 R2 Ev2 ii q2 => ?_
  dsimp only at q2
  split at q2
  · split at q2
    · rename_i l hl
      split at q2
      · rename_i j hj
        obtain ⟨p, xs, rfl, hp, hx, il⟩ := R2.lst hl (R1.im f2 io)
        refine ⟨p, xs, _, j, rfl, im_int' ii, hx, by rw [il.length]; exact hj, ?_⟩
        have ia : Im G.K H2 ι2 a v := R1.im f2 (R.im f1 im)
        obtain ⟨f3, R3⟩ := R2.setL M hp ⟨_, hx⟩ (l := l.set j a) (xs := xs.set j v) (imL_set il ia j)
        exact (show PG1 G ι H Q (env, s2.set _ (.lst (l.set j a))) from q2) _ _ ((f1.trans f2).trans f3) R3 σ (R2.env f3 Ev2)
      · exact q2.elim
    · exact q2.elim
  · exact q2.elim
/-! ### a def -/
def mDef (ms : SM) (pad : Nat) : FM := fun as st => (ms (as.map some ++ List.replicate pad none) st).bind fun r => match r.1 with
  | .nx _ => .ok (.non, r.2)
  | .rt a => .ok (a, r.2)
  | _ => .fail
theorem start_env {ι : List Addr} {H : Hp} {as : List A} {vs : List V} {N : List Str} {pad : Nat} (il : ImL G.K H ι as vs) (hp : N.length - vs.length = pad) : EnvR G ι H (as.map some ++ List.replicate pad none) (L2.start N vs) := by
  unfold L2.start
  rw [hp]
  refine ⟨by simp [il.length], fun i a e => ?_⟩
  by_cases hi : i < as.length
  · rw [List.getElem?_append_left (by simpa using hi), List.getElem?_map] at e
    cases h : as[i]? with
    | none => rw [h] at e; cases e
    | some b =>
      rw [h] at e
      cases e
      obtain ⟨v, hv, iv⟩ := imL_get il h
      exact ⟨v, by rw [List.getElem?_append_left (by rw [List.length_map, il.length]; exact hi), List.getElem?_map, hv]; rfl, iv⟩
  · rw [List.getElem?_append_right (by simpa using hi)] at e
    rw [List.getElem?_replicate] at e
    split at e <;> cases e
theorem fn_of_ex {ms : SM} {t : TS} {N : List Str} {n pad : Nat} {vs : List V} {H : Hp} {Q : VK} (hN : N.length - n = pad) (hm : ExS G E t ms) (h : spX G n (mDef ms pad) vs H Q E) : t { nx := fun _ H' => Q .non H', rt := Q } (L2.start N vs) H := by
  obtain ⟨hl, ι, st, as, R, il, q⟩ := h
  refine hm ι _ st _ H _ R (start_env il (by rw [hl]; exact hN)) (go q fun r q1 => ?_)
  obtain ⟨fl, s1⟩ := r
  intro ι1 H1 f1 R1
  cases fl with
  | nx e => exact fun σ Ev => (show PE1 G ι H Q (.non, s1) from q1) _ _ _ f1 R1 im_non
  | rt a => exact fun v iv => (show PE1 G ι H Q (a, s1) from q1) _ _ _ f1 R1 iv
  | bk e => exact q1.elim
  | ct e => exact q1.elim
end
end Mx

/-! ### MkX8 -/
set_option Elab.async false
set_option linter.all false
set_option maxRecDepth 100000
set_option maxHeartbeats 4000000
namespace Mx
open PySem PySem.Spec PyProof.Rows L2
open GxR (TabG Tabbed)
theorem hu64 {k : Nat} {A : Around} (hr : Room k A) : A.units + 64 < cLine := by
  have := hr.un
  omega
theorem hu65 {k : Nat} {A : Around} (hr : Room k A) : A.units + 65 < cLine := by
  have := hr.un
  omega
theorem boot_isi : bootBuiltins "isinstance" = some (.builtin "isinstance") := by decide +kernel
theorem boot_int' : bootBuiltins "int" = some (.type "int") := by decide +kernel
theorem boot_bool' : bootBuiltins "bool" = some (.type "bool") := by decide +kernel
theorem boot_tuple' : bootBuiltins "tuple" = some (.type "tuple") := by decide +kernel
theorem boot_list' : bootBuiltins "list" = some (.type "list") := by decide +kernel
theorem boot_str' : bootBuiltins "str" = some (.type "str") := by decide +kernel
theorem room_gen {k : Nat} {A : Around} {env : Env} (hr : Room (k + 1) A) : Room k (A.in1.in1.deeper env) := by
  have h1 := hr.hd
  have h2 := hr.dp
  have h3 := hr.un
  refine ⟨h1, ?_, ?_⟩
  · show A.depth + 1 + 3 * k + 5 < recursionLimit
    omega
  · have e : (A.in1.in1.deeper env).units = A.units + 1 + 1 + 3 := rfl
    rw [e]
    omega
section
variable {G : Gx} {T : List Addr} {E : XK} {ta tb : TE} {ma mb : EM} {tl : TA} {ml : LM}
def mPar (i j : Nat) (ml : LM) : SM := fun env st => (ml env st).bind fun l => match l.1 with
  | [a, b] => .ok (.nx ((env.set i (some a)).set j (some b)), l.2)
  | _ => .fail
theorem exs_par {i j : Nat} (hl : ExL G E tl ml) : ExS G E (tPar i j tl) (mPar i j ml) := fun ι env st σ H D R Ev h => by
  refine hl.run R Ev h fun ι1 H1 as s1 vs f1 R1 Ev1 im q1 => ?_
  dsimp only at q1
  split at q1
  · rename_i a b
    obtain ⟨v, w, rfl, i1, i2⟩ := imL_2 im
    exact ⟨v, w, rfl, (show PS1 G ι1 H1 D (.nx ((env.set i (some a)).set j (some b)), s1) from fun ι' H' f' => (show PS1 G ι H D (.nx ((env.set i (some a)).set j (some b)), s1) from q1) ι' H' (f1.trans f')) _ _ (Fr.refl _ _) R1 _ ((Ev1.set i i1).set j i2)⟩
  · exact q1.elim
def mPar3 (i j k : Nat) (ml : LM) : SM := fun env st => (ml env st).bind fun l => match l.1 with
  | [a, b, c] => .ok (.nx (((env.set i (some a)).set j (some b)).set k (some c)), l.2)
  | _ => .fail
theorem exs_par3 {i j k : Nat} (hl : ExL G E tl ml) : ExS G E (tPar3 i j k tl) (mPar3 i j k ml) := fun ι env st σ H D R Ev h => by
  refine hl.run R Ev h fun ι1 H1 as s1 vs f1 R1 Ev1 im q1 => ?_
  dsimp only at q1
  split at q1
  · rename_i a b c
    obtain ⟨v, vs, rfl, i1, h2⟩ := imL_cons' im
    obtain ⟨w, x, rfl, i2, i3⟩ := imL_2 h2
    exact ⟨v, w, x, rfl, (show PS1 G ι H D (.nx (((env.set i (some a)).set j (some b)).set k (some c)), s1) from q1) _ _ f1 R1 _ (((Ev1.set i i1).set j i2).set k i3)⟩
  · exact q1.elim
/-- int(x) of an int -/
def fIntI : FL := fun l st => match l with
  | [.int i] => some (.int i, st)
  | [.bl b] => some (.int (if b = true then 1 else 0), st)
  | _ => none
/-- the draws -/
def fTaken : FM := fun as st => match as with
  | [.ref r, .int many] => match st[r]? with
    | some .dr => if 1 ≤ many ∧ many < 1073741824 then .draw many.toNat fun k => .ok (.int k, st) else .fail
    | _ => .fail
  | _ => .fail
end
/-- a def of the text under its name -/
structure DefX (P : Program) (w : World) (G : Gx) (mg : Str → Option Value) (base : Heap) (k : Nat) (x : Str) (f : Addr) (fd : FuncData) (ps : List Str) (dvs : List V) (n : Nat) (fm : FM) : Prop where
  ok : FnOk P w G.K mg base (L2.CX P w) k f fd ps (spX G n fm)
  kp : PySem.W.keepIn G.K (.ref f) = true
  b : Binds G.K fd ps []
  g : mg x = some (.ref f)
  bd : ∃ ds, Vals dvs ds ∧ Binds G.K fd ps ds
/-- a method of the class at C -/
structure MethX (P : Program) (w : World) (G : Gx) (mg : Str → Option Value) (base : Heap) (k : Nat) (C : Addr) (x : Str) (f : Addr) (fd : FuncData) (ps : List Str) (n : Nat) (fm : FM) : Prop where
  ok : FnOk P w G.K mg base (L2.CX P w) k f fd ps (spX G n fm)
  b : Binds G.K fd ps []
  m : Meth G.K C x f
/-- a property of the class at C -/
structure PropX (P : Program) (w : World) (G : Gx) (mg : Str → Option Value) (base : Heap) (k : Nat) (C : Addr) (x : Str) (p f : Addr) (fd : FuncData) (fm : FM) : Prop where
  ok : FnOk P w G.K mg base (L2.CX P w) k f fd ["self"] (spX G 1 fm)
  b : Binds G.K fd ["self"] []
  p : PropOf G.K C x p f
/-- an own error without fields -/
structure Er0 (G : Gx) (mg : Str → Option Value) (x : Str) (c : Nat) : Prop where
  ex : PySem.W.excIn G.K (G.xc c) [Value.type "ValueError", Value.type "Exception", Value.type "BaseException", Value.type "object"] "ValueError.__new__" = true
  kp : PySem.W.keepIn G.K (.ref (G.xc c)) = true
  g : mg x = some (.ref (G.xc c))
  sub : PySem.W.subIn G.K (.ref (G.xc c)) (.type "BaseException") = some true
  ty : PySem.W.typeIn G.K (.ref (G.xc c)) = some (.type "type")
/-- an own error with the field f -/
structure Er1 (P : Program) (w : World) (G : Gx) (mg : Str → Option Value) (base : Heap) (x f : Str) (c : Nat) (fI : Addr) (fd : FuncData) : Prop where
  oex : OexC G.K (G.xc c)
  iC : PySem.W.findIn G.K (.ref (G.xc c)) "__init__" = some (some (.ref fI))
  tI : PySem.W.typeIn G.K (.ref fI) = some (.type "function")
  g : mg x = some (.ref (G.xc c))
  no : PySem.W.findIn G.K (.ref (G.xc c)) f = some none
  ok : FnOk P w G.K mg base CX0 2 fI fd ["self", f] (Mk.spInit G.K (G.xc c) f)
  b : Binds G.K fd ["self", f] []
/-- fd's code object and its table -/
structure OwnX (mg : Str → Option Value) (base : Heap) (fd : FuncData) (c T : Addr) : Prop where
  code : fd.code = .ref c
  tb : GxR.TabB base mg c T
def gC (N : List Str) (sc scope : Scope) (own : List (Str × Nat)) : Bool :=
  blkC N sc scope own && (!scope.isCoroutine && ((scope.names.all fun y => !decide (y.2 = .cell)) && decide (scope.names.lookup (".0" : Str) = some NameKind.local)))
theorem gOk_by {N : List Str} {sc scope : Scope} {own : List (Str × Nat)} (h : gC N sc scope own = true) : Mk.GOk N sc scope own := by
  unfold gC at h
  simp only [Bool.and_eq_true, List.all_eq_true, decide_eq_true_eq, Bool.not_eq_true', decide_eq_false_iff_not] at h
  obtain ⟨h1, h2, h3, h4⟩ := h
  exact ⟨blkOk_by h1, h2, fun y hy => h3 y hy, h4⟩
section
variable {P : Program} {w : World} {K : PySem.W.Frag} {mg : Str → Option Value} {base : Heap} {x qual : Str} {st : Stmt} {f : Addr} {fd : FuncData} {N ps : List Str} {k : Nat} {sp : Sp}
theorem okXC (F : Fun K x qual st f fd) (S : FnScope N ps (defScope st)) (len : ∀ vs H Q E, sp vs H Q E → vs.length = ps.length)
    (hbody : ∀ (A : Around) (outer : List Env) (s : Shared) (H : Hp) (vs : List V) (Q : VK) (E : XK), Room k (A.deeper (envOfC qual (defScope st) s.heap.objs.size f fd.code)) → sp vs H Q E →
      ∃ t, PSs (cxOf (L2.CX P w) P w K mg base N qual (defScope st) f fd.code A outer s H E) (defBody st) t ∧ t { nx := fun _ H' => Q .non H', rt := Q } (L2.start N vs) H) : FnOk P w K mg base (L2.CX P w) (k + 1) f fd ps sp := by
  obtain ⟨oc, od, kV, doc, pm, an, cdv, ct, osl, rfl, lk, hcd⟩ := F.ex
  exact fn_of lk hcd S len fun A outer s H vs Q E hr hsp => hbody A outer s H vs Q E hr hsp
theorem okXD {dvs : List V} {kws : List (Str × V)} (F : FunD K x qual (defArgs st) (defBody st) (defScope st) dvs kws f fd) (S : FnScope N ps (defScope st)) (len : ∀ vs H Q E, sp vs H Q E → vs.length = ps.length)
    (hbody : ∀ (A : Around) (outer : List Env) (s : Shared) (H : Hp) (vs : List V) (Q : VK) (E : XK), Room k (A.deeper (envOfC qual (defScope st) s.heap.objs.size f fd.code)) → sp vs H Q E →
      ∃ t, PSs (cxOf (L2.CX P w) P w K mg base N qual (defScope st) f fd.code A outer s H E) (defBody st) t ∧ t { nx := fun _ H' => Q .non H', rt := Q } (L2.start N vs) H) : FnOk P w K mg base (L2.CX P w) (k + 1) f fd ps sp := by
  obtain ⟨oc, od, dV, kV, doc, pm, an, cdv, ct, osl, rfl, lk, hcd, _, _⟩ := F.ex
  exact fn_of lk hcd S len fun A outer s H vs Q E hr hsp => hbody A outer s H vs Q E hr hsp
end
end Mx

/-! ### MkX9 -/
set_option Elab.async false
set_option linter.all false
set_option maxRecDepth 100000
set_option maxHeartbeats 4000000
namespace Mx
open PySem PySem.Spec PyProof.Rows L2
open GxR (TabG Tabbed)
section
variable {G : Gx} {T : List Addr} {E : XK} {ta tb : TE} {ma mb : EM} {tl : TA} {ml : LM}
theorem ex_ty {n : String} : Ex G E (tC (.ty n)) (mC (.ty n)) := ex_c fun _ _ => by unfold Im; rfl
theorem ok_mul : Ok2 G (rI CMul fun i j => .int (i * j)) fMul := fun ι st H a b x y c Q R ia ib e q => by
  unfold fMul at e
  split at e
  · split at e
    · rename_i h
      cases e
      rw [im_int' ia, im_int' ib]
      exact ⟨_, _, rfl, rfl, .inl h, PE1.at q R im_int⟩
    · cases e
  · cases e
theorem ok_intI : OkL G (fun xs H Q => (∃ i : Int, xs = [.int i] ∧ Q (.int i) H) ∨ ∃ k : Bool, xs = [.bl k] ∧ Q (.int (if k then 1 else 0)) H) fIntI := fun ι st H as xs c Q R im e q => by
  unfold fIntI at e
  split at e
  · cases e
    obtain ⟨v, rfl, i1⟩ := imL_1 im
    exact .inl ⟨_, by rw [im_int' i1], PE1.at q R im_int⟩
  · cases e
    obtain ⟨v, rfl, i1⟩ := imL_1 im
    exact .inr ⟨_, by rw [im_bl' i1], PE1.at q R im_int⟩
  · cases e
/-- isinstance(x, (tuple, list)) -/
def mIsTL (ma : EM) : EM := fun env st => (ma env st).bind fun a => if okIs a.1 a.2 = true then .ok (.bl (Mk.isTup (toD a.1) || Mk.isLst (toD a.1)), a.2) else .fail
theorem kit_tl (K : PySem.W.Frag) (d : Mk.D) : PySem.W.kitAny K (.type (Mk.tyD d)) [.type "tuple", .type "list"] = some (Mk.isTup d || Mk.isLst d) := by
  show (match PySem.W.kitOne K (.type (Mk.tyD d)) (.type "tuple") with | some true => some true | some false => PySem.W.kitAny K (.type (Mk.tyD d)) [.type "list"] | none => none) = _
  rw [kit_ty (Mk.kit_tuple d)]
  cases Mk.isTup d with
  | true => rfl
  | false =>
    show (match PySem.W.kitOne K (.type (Mk.tyD d)) (.type "list") with | some true => some true | some false => some false | none => none) = _
    rw [kit_ty (Mk.kit_list d)]
    cases Mk.isLst d <;> rfl
theorem okIs_key {a : A} {st : Sto} (ho : okIs a st = true) : (∀ n, a ≠ .ty n) ∧ ∀ k, a = .ref k → ∃ l, st[k]? = some (.lst l) := by
  refine ⟨fun m z => (by subst z; cases ho), fun k z => ?_⟩
  subst z
  unfold okIs at ho
  dsimp only at ho
  split at ho
  · rename_i l hl; exact ⟨l, hl⟩
  · cases ho
theorem ex_isTL (M : AmX G T) (ha : Ex G E ta ma) : Ex G E (tCB (rIsiT G.K) (tCons ta (tCons (tTup (tCons (tC (.ty "tuple")) (tCons (tC (.ty "list")) tNil))) tNil))) (mIsTL ma) := fun ι env st σ H Q R Ev h => by
  refine ha.run R Ev h fun ι1 H1 a s1 v f1 R1 Ev1 im h1 => ?_
  dsimp only at h1
  split at h1
  · rename_i ho
    refine ⟨by show 2 ≤ sizeLine; decide, fun p hp => ?_⟩
    have k := okIs_key ho
    have fr : Fr ι1 H1 ι1 (upd H1 p (.tup [.ty "tuple", .ty "list"])) := Fr.new hp
    have R2 := R1.new M (o := .tup [.ty "tuple", .ty "list"]) hp
    exact ⟨v, p, [.ty "tuple", .ty "list"], _, _, _, rfl, upd_same, .cons (.ty _) (.cons (.ty _) .nil), ty_of R2 (R1.im fr im) k.1 k.2, kit_tl _ _, (show PE1 G ι H Q (.bl _, s1) from h1) _ _ _ (f1.trans fr) R2 im_bl⟩
  · exact h1.elim
/-- a % b, a // b -/
def fMod : F2 := fun a b st => match a, b with
  | .int i, .int j => if 0 < j then some (.int (i % j), st) else none
  | _, _ => none
theorem ok_mod : Ok2 G (rI (fun _ j => 0 < j) fun i j => .int (i % j)) fMod := fun ι st H a b x y c Q R ia ib e q => by
  unfold fMod at e
  split at e
  · split at e
    · rename_i h
      cases e
      rw [im_int' ia, im_int' ib]
      exact ⟨_, _, rfl, rfl, h, PE1.at q R im_int⟩
    · cases e
  · cases e
end
end Mx

/-! ### MkXK -/
set_option Elab.async false
set_option linter.all false
set_option maxRecDepth 100000
set_option maxHeartbeats 4000000
/-! rules whose reading names K itself -/
namespace Mx
open PySem PySem.Spec PyProof.Rows L2
section
variable {X : Cx} {K : PySem.W.Frag}
theorem call_lenK (h : X.K = K) : CallR X (.builtin "len") (rLenA K) := h ▸ call_lenA
theorem call_isiK' (h : X.K = K) : CallR X (.builtin "isinstance") (rIsi K) := h ▸ call_isi
theorem call_isiTK (h : X.K = K) : CallR X (.builtin "isinstance") (rIsiT K) := h ▸ call_isiT
theorem call_tupK (h : X.K = K) : CallR X (.type "tuple") (fun xs H Q => ∃ p ys, xs = [.ref p] ∧ ((SqL K H p ys ∧ ∀ l, H l = none → Q (.ref l) (upd H l (.tup ys))) ∨ (SqT K H p ys ∧ Q (.ref p) H))) := h ▸ call_tuple_of
theorem call_listK (h : X.K = K) : CallR X (.type "list") (fun xs H Q => ∃ p ys, xs = [.ref p] ∧ (SqL K H p ys ∨ SqT K H p ys) ∧ ∀ l, H l = none → Q (.ref l) (upd H l (.lst ys))) := h ▸ call_list_of
theorem ix_K (h : X.K = K) : IxR X (rIx K) := h ▸ ix_seq
theorem sl_tupK (h : X.K = K) : L2.SlR X (rSlA K) := h ▸ sl_tupA
theorem sl_lstK (h : X.K = K) : L2.SlR X (rSlL K) := h ▸ sl_list
theorem op_eqK (h : X.K = K) (hu : X.A.units + 64 < cLine) : OpR X (compareOp .Eq) (rEqA K) := h ▸ op_eqA hu
theorem op_neK (h : X.K = K) (hu : X.A.units + 64 < cLine) : OpR X (compareOp .NotEq) (rNeA K) := h ▸ op_neA hu
theorem op_inK (h : X.K = K) (hu : X.A.units + 65 < cLine) : OpR X (compareOp .In) (rInB K) := h ▸ op_inB hu
theorem op_notInK (h : X.K = K) (hu : X.A.units + 65 < cLine) : OpR X (compareOp .NotIn) (rNotInB K) := h ▸ op_notInB hu
theorem op_catK (h : X.K = K) : OpR X (binaryOp .Add) (rCatA K) := h ▸ op_catA
theorem op_repK (h : X.K = K) : OpR X (binaryOp .Mult) (rRepA K) := h ▸ op_repA
theorem mt_joinK (h : X.K = K) : MtR X "str.join" (fun x xs H Q => ∃ a p, ∃ ys : List Str, x = .str a ∧ xs = [.ref p] ∧ (SqL K H p (ys.map V.str) ∨ SqT K H p (ys.map V.str)) ∧
    (ys.map (·.length)).sum + ys.length * a.length ≤ 16777216 ∧ Q (.str (Txt.join a ys)) H) := h ▸ mt_join
theorem pi_tupK (h : X.K = K) {tg l : Expr} {tl : TE} (hl : PE X l tl) : PI X tg l (iTup K tl) := h ▸ pi_tup hl
theorem pi_lstK (h : X.K = K) {tg l : Expr} {tl : TE} (hl : PE X l tl) : PI X tg l (iList K tl) := h ▸ pi_list hl
theorem pi_enLK (h : X.K = K) {e : Expr} {ta : TA} {p pos tpos : Pos} {elts : List Expr} {kk : Nat} (hg : Gl X "enumerate") (hm : X.mg "enumerate" = none) (ha : PA X [e] ta) (hs : starEach [e] X.env = [(false, eval e X.env)] := by rfl) :
    PI X (.Tuple elts kk tpos) (.Call (.Name "enumerate" p) [e] [] pos) (iEnum K ta) := h ▸ pi_enum hg hm ha hs
theorem pi_enTK (h : X.K = K) {e : Expr} {ta : TA} {p pos tpos : Pos} {elts : List Expr} {kk : Nat} (hg : Gl X "enumerate") (hm : X.mg "enumerate" = none) (ha : PA X [e] ta) (hs : starEach [e] X.env = [(false, eval e X.env)] := by rfl) :
    PI X (.Tuple elts kk tpos) (.Call (.Name "enumerate" p) [e] [] pos) (Mk.iEnumT K ta) := h ▸ Mk.pi_enumT hg hm ha hs
theorem pg_tupK (hK : X.K = K) {pos : Pos} {es : List Expr} {k : Nat} {t : TGs} {n : Nat} (hc : X.calm = true) (h : PGs X es t)
    (hn : (assignEach es X.env).length = n := by rfl) (hst : (assignEach es X.env).findIdx? (·.1) = none := by rfl) : PG X (.Tuple es k pos) (gTup K n t) := hK ▸ pg_tup hc h hn hst
theorem pe_fldK (hK : X.K = K) {e : Expr} {f : Str} {ta : TE} {pos : Pos} (he : PE X e ta) (hb : attributeBase e f X.env (eval e X.env) = eval e X.env) : PE X (.Attribute e f pos) (tFld K ta f) := hK ▸ pe_fld he hb
theorem pe_bm0K' (hK : X.K = K) {o : Expr} {name : Str} {T id : String} {r : V → List V → Hp → VK → Prop} {to : TE} {apos cpos : Pos} (pa : PlainAttrs T) (slot : Slot T name id) (hty : typeOf (.builtin id) = pure (.type "method_descriptor")) (hm : MtR X id r) (ho : PE X o to)
    (hbase : attributeBase o name X.env (eval o X.env) = eval o X.env := by rfl) (hline : (apos.endLine == cpos.line) = true := by rfl) : PE X (.Call (.Attribute o name apos) [] [] cpos) (tBM0 K T r to) := hK ▸ pe_bm0 pa slot hty hm ho hbase hline
theorem pe_bmK (hK : X.K = K) {o e : Expr} {es : List Expr} {t : TA} {name : Str} {T id : String} {r : V → List V → Hp → VK → Prop} {to : TE} {apos cpos : Pos} (pa : PlainAttrs T) (slot : Slot T name id) (hty : typeOf (.builtin id) = pure (.type "method_descriptor")) (hm : MtR X id r) (ho : PE X o to) (ha : PA X (e :: es) t)
    (hbase : attributeBase o name X.env (eval o X.env) = eval o X.env := by rfl)
    (hfew : ((backTo cpos (starEach (e :: es) X.env)).all (fun x => !x.1) && (backToKw cpos (keywordEach [] X.env)).all (fun x => x.1.isSome)
      && decide ((e :: es).length + ([] : List Keyword).length + (if ([] : List Keyword).isEmpty then 0 else 1) < 30)) = true := by rfl)
    (hline : (apos.endLine == cpos.line) = true := by rfl) (hs : starEach (e :: es) X.env = (false, eval e X.env) :: starEach es X.env := by rfl) (hplain : (backTo cpos (starEach es X.env)).any (·.1) = false := by rfl) :
    PE X (.Call (.Attribute o name apos) (e :: es) [] cpos) (tBM K T r to t) := hK ▸ pe_bm pa slot hty hm ho ha hbase hfew hline hs hplain
end
end Mx

/-! ### MkXL -/
set_option Elab.async false
set_option linter.all false
set_option maxRecDepth 100000
set_option maxHeartbeats 4000000
namespace Mx
open PySem PySem.Spec PyProof.Rows L2
section
variable {G : Gx} {T : List Addr} {E : XK} {ta tb : TE} {ma mb : EM} {tl : TA} {ml : LM}
/-- list(range(n)) -/
def rgA (n : Int) : List A := (List.range n.toNat).map fun i => A.int (i : Nat)
theorem rg_im {H : Hp} {ι : List Addr} {n : Int} : ImL G.K H ι (rgA n) (rgV 0 n) := by
  unfold rgA rgV
  rw [Int.sub_zero]
  generalize List.range n.toNat = l
  induction l with
  | nil => exact imL_nil
  | cons a l ih =>
    refine imL_cons ?_ ih
    show Im G.K H ι (.int (a : Int)) (.int (0 + (a : Int)))
    rw [Int.zero_add]
    exact im_int
def mListR (ma : EM) : EM := fun env st => (ma env st).bind fun a => match a.1 with
  | .int n => if 0 ≤ n ∧ n ≤ 16777216 then .ok (.ref a.2.length, a.2 ++ [.lst (rgA n)]) else .fail
  | _ => .fail
theorem ex_listR (M : AmX G T) (ha : Ex G E ta ma) : Ex G E (tLstRg (tRg1 ta)) (mListR ma) := fun ι env st σ H Q R Ev h => by
  refine ha.run R Ev h fun ι1 H1 a s1 v f1 R1 Ev1 im h1 => ?_
  dsimp only at h1
  split at h1
  · split at h1
    · rename_i n hn
      exact ⟨n, im_int' im, RgOk.of_le (Int.le_refl 0) hn.2 (by decide) hn.1, fun q hq => PE1.lst M R1 rg_im (PE1.sh f1 h1) hq⟩
    · exact h1.elim
  · exact h1.elim
theorem imL_erase {ι : List Addr} {H : Hp} {ds : List A} {vs : List V} (h : ImL G.K H ι ds vs) : ∀ n, ImL G.K H ι (ds.eraseIdx n) (vs.eraseIdx n) := by
  induction ds generalizing vs with
  | nil => intro n; rw [imL_nil' h]; exact imL_nil
  | cons a ds ih =>
    intro n
    obtain ⟨w, ws, rfl, h2, h3⟩ := imL_cons' h
    cases n with
    | zero => exact h3
    | succ n => exact imL_cons h2 (ih h3 n)
def fPopAt : FB := fun a as st => match a, as with
  | .ref n, [.int i] => match st[n]? with
    | some (.lst l) => if -(2 ^ 63) ≤ i ∧ i < 2 ^ 63 then (seqIndex? i l.length).bind fun k => (l[k]?).map fun y => (y, st.set n (.lst (l.eraseIdx k))) else none
    | _ => none
  | _, _ => none
theorem ok_popAt (M : AmX G T) : OkM G rPopAt fPopAt := fun ι st H a x as xs c Q R ia il e q => by
  unfold fPopAt at e
  split at e
  · rename_i n i
    split at e
    · rename_i l hl
      split at e
      · rename_i hi
        cases hk : seqIndex? i l.length with
        | none => rw [hk] at e; cases e
        | some k =>
          rw [hk] at e
          cases hy : l[k]? with
          | none => replace e : (l[k]?).map _ = some c := e; rw [hy] at e; cases e
          | some y =>
            replace e : (l[k]?).map _ = some c := e
            rw [hy] at e
            cases e
            obtain ⟨w, rfl, iw⟩ := imL_1 il
            obtain ⟨p, xs, rfl, hp, hx, jl⟩ := R.lst hl ia
            obtain ⟨v, hv, iv⟩ := imL_get jl hy
            exact ⟨p, xs, i, k, v, rfl, by rw [im_int' iw], hx, hi.1, hi.2, by rw [jl.length]; exact hk, hv, PE1.mut M R hp ⟨_, hx⟩ (imL_erase jl k) iv q⟩
      · cases e
    · cases e
  · cases e
/-- '..'[i] of what stands written; d * n of lists -/
def fRepL : F2 := fun a b st => match a, b with
  | .ref n, .int k => match st[n]? with
    | some (.lst l) => if (-(2 ^ 63) ≤ k ∧ k < 2 ^ 63) ∧ l.length * k.toNat ≤ sizeLine then some (.ref st.length, st ++ [.lst (List.replicate k.toNat l).flatten]) else none
    | _ => none
  | _, _ => none
theorem ok_repL (M : AmX G T) : Ok2 G rRep fRepL := fun ι st H a b x y c Q R ia ib e q => by
  unfold fRepL at e
  split at e
  · split at e
    · rename_i l hl
      split at e
      · rename_i hz
        cases e
        obtain ⟨p, xs, rfl, _, hx, il⟩ := R.lst hl ia
        exact ⟨p, _, xs, rfl, im_int' ib, hx, hz.1.1, hz.1.2, by rw [il.length]; exact hz.2, fun r hr => PE1.lst M R (imL_rep il _) q hr⟩
      · cases e
    · cases e
  · cases e
end
end Mx

/-! ### MkLam -/
set_option Elab.async false
set_option linter.all false
set_option maxRecDepth 100000
set_option maxHeartbeats 4000000
namespace Mk
open PySem PySem.Spec PyProof.Rows L2
open GxR (TabG Tabbed)
open LamX (CodeO TabS codeO_ne among_app inv_table TabB)
/-- the function object of a lambda, its defaults at dV -/
abbrev lamFn (qual : Str) (params : Arguments) (body : Expr) (scope : Scope) (cl : List (Str × Addr)) (pm cdv ct dV : Value) : FuncData :=
  { PySem.W.kla_fn "<lambda>" qual params body scope cl pm cdv ct with defaults := dV }
abbrev lamObj (qual : Str) (params : Arguments) (body : Expr) (scope : Scope) (cl : List (Str × Addr)) (pm : Value) (c' : Addr) (ct dV : Value) : Obj :=
  { cls := .type "function", data := .func (lamFn qual params body scope cl pm (.ref c') ct dV) }
/-- how the heap has grown once the code object at c' is at hand -/
def Got (P : Addr) (ps : Array Value) (pos : Pos) (qual : Str) (h h' : Heap) (c' : Addr) : Prop :=
  (codeAmong pos ps.toList = none ∧ Heap.ExtBut P h h' ∧ h.objs.size ≤ c' ∧ c' < h'.objs.size ∧ h'.CodeRec (.ref c') qual ∧ h'.get? P = some { cls := .none, data := .fields (ps ++ #[rawInt pos.line, rawInt pos.col, .ref c']) }) ∨
  (codeAmong pos ps.toList = some (.ref c') ∧ (∀ b o, h.get? b = some o → h'.get? b = some o) ∧ h.objs.size ≤ h'.objs.size)
section
variable {M : Model} {A : Around} {E : Value → Shared → Prop} {s : Shared} {qual : Str} {params : Arguments} {body : Expr} {scope : Scope} {env : Env} {c P : Addr} {ps : Array Value} {pos : Pos} {firstLine : Nat} {mg : Str → Option Value} {clos : List (Str × Addr)} {Q : Value → Shared → Prop}
theorem mk_tail {dV : Value} (hcl : closureFor scope env = pure clos) (hne : clos.isEmpty = false) (hge : env.globals = mainGlobals) (hg : s.heap.Ns mainGlobals mg) (hcode : env.code = .ref c) (C : PySem.W.CodeHd s.heap c P) (hP : s.heap.get? P = some { cls := .none, data := .fields ps })
    (ht : TriplesOk ps.toList) (hall : ∀ cv, codeAmong pos ps.toList = some cv → ∃ c', cv = .ref c') (hgP : mainGlobals ≠ P) (hb : s.heap.BuiltinsAt mg P)
    (h : ∀ (c' : Addr) (ct : Value) (h' : Heap) (tk : Tok), Got P ps pos qual s.heap h' c' → Q (.ref h'.objs.size) { s with heap := h'.push (lamObj qual params body scope clos ((mg "__name__").getD .none) c' ct dV), toks := tk }) :
    wpAny M A (makeTail "<lambda>" qual params (.expr body) scope env dV .none none pos firstLine) Q E s := by
  obtain ⟨bm, ob, b1, b2, _, b3, b4, b5, b6, b7⟩ := hb
  unfold makeTail
  rw [hcl, hge]
  refine wpAny_bind (wpAny_pure ?_)
  rw [hne]
  simp only [Bool.false_eq_true, if_false]
  refine wpAny_bind (wpAny_newTextTuple ?_)
  have kp : ∀ (oT : Obj) (b : Addr) (o : Obj), s.heap.get? b = some o → (s.heap.push oT).get? b = some o := fun _ _ _ e => Heap.get?_push_of_some _ e
  have sz1 : ∀ oT : Obj, s.heap.objs.size ≤ (s.heap.push oT).objs.size := fun oT => by rw [Heap.size_push]; exact Nat.le_succ _
  have C2 := fun oT => C.keeps (kp oT)
  cases hc : codeAmong pos ps.toList with
  | none =>
    refine wpAny_bind (wpAny_functionCodeX hcode ((C2 _).code (kp _ _ _ hP) ht) ((C2 _).tab (kp _ _ _ hP)) hc fun c' h' tk hx h1 h2 _ h3 h4 _ => ?_)
    refine wpAny_bind (wpAny_builtinsFor ((hg.push _).extBut hx hgP) b1 b2 (hx _ _ b3 (kp _ _ _ b4)) b5 b6 b7 (wpAny_bind (wpAny_nsGet ((hg.push _).extBut hx hgP) (wpAny_bind (wpAny_pure (wpAny_newObj_type (h c' _ h' tk (.inl ⟨hc, fun b o n e => hx b o n (kp _ _ _ e), Nat.le_trans (sz1 _) h1, h2, h3, h4.2⟩)) (by size_fits)))))))
  | some cv =>
    obtain ⟨c', rfl⟩ := hall cv hc
    refine wpAny_bind (wpAny_functionCode_hit hcode ((C2 _).code (kp _ _ _ hP) ht) hc ?_)
    exact wpAny_bind (wpAny_builtinsFor (hg.push _) b1 b2 (kp _ _ _ b4) b5 b6 b7 (wpAny_bind (wpAny_nsGet (hg.push _) (wpAny_bind (wpAny_pure (wpAny_newObj_type (h c' _ _ s.toks (.inr ⟨hc, kp _, sz1 _⟩)) (by size_fits)))))))
end
/-- the defaults of a lambda at dV -/
def Dfl (X : Cx) (dvs : List Value) (dV : Value) (s : Shared) (H : Hp) : Prop := (dvs = [] ∧ dV = .none) ∨ ∃ t, dV = .ref t ∧ s.heap.get? t = some { cls := .type "tuple", data := .seq dvs.toArray } ∧ H t = none ∧ t ∉ frs X.stack
/-- all but P stays -/
def GrowT (P : Addr) (H H1 : Hp) : Prop := ∀ b o, b ≠ P → H b = some o → H1 b = some o
section
variable {X : Cx} {pins : List (Addr × Obj)} {σ : L2.St} {H : Hp} {s : Shared}
theorem nofr_of (I : Inv X pins σ H s) {f : Addr} (hf : s.heap.objs.size ≤ f) : f ∉ frs X.stack := fun z => by
  rcases List.mem_cons.mp (I.stkSub _ z) with e | e
  · have h1 := I.lt
    rw [← e] at h1
    exact absurd hf (Nat.not_le.mpr h1)
  · exact I.nofs hf e
theorem mk_core {c P : Addr} {q : Str} {params : Arguments} {body : Expr} {scope : Scope} {pos : Pos} {E : Value → Shared → Prop} {Q : Value → Shared → Prop} {dV : Value} (I : Inv X pins σ H s) (TB : TabB X.base X.mg c P) (hcode : X.env.code = .ref c) (hT : TabS H P q)
    (hfree : ∀ y ∈ scope.names, y.2 = .free → ∃ c, X.env.cells.lookup y.1 = some c) (hne : (cloFrom X.env.cells scope.names []).isEmpty = false)
    (h : ∀ (f c' : Addr) (pm ct : Value) (H1 : Hp) (s' : Shared), Inv X pins σ H1 s' → GrowT P H H1 → TabS H1 P q → (∀ b o, b ≠ P → s.heap.get? b = some o → s'.heap.get? b = some o) → (∀ b, b < s.heap.objs.size → H b = none → H1 b = none) →
      s'.heap.get? f = some (lamObj q params body scope (cloFrom X.env.cells scope.names []) pm c' ct dV) → H1 f = none → f ∉ frs X.stack → H1 c' = some (CodeO c' q) → Q (.ref f) s') :
    wpAny (model X.prog X.w) X.A (makeTail "<lambda>" q params (.expr body) scope X.env dV .none none pos pos.line) Q E s := by
  obtain ⟨ps, hP, ht, ha⟩ := hT
  have hP' : s.heap.get? P = some { cls := .none, data := .fields ps } := I.hok P _ hP
  refine mk_tail (mg := X.mg) (c := c) (P := P) (ps := ps) (closure_ok hfree) hne I.ok.glob (I.mod.glob.keeps I.bk) hcode (TB.code.keeps I.bk) hP' ht (fun cv hc => let ⟨c', e, _⟩ := ha pos cv hc; ⟨c', e⟩) TB.gP (TB.bm.keeps I.bk) fun c' ct h' tk got => ?_
  rcases got with ⟨hc, hx, h1, h2, ⟨c2, oc, vs, t, e2, hoc, hd, hv⟩, htb⟩ | ⟨hc, hx, hsz⟩
  · cases e2
    have nC : H c' = none := I.hok.fresh h1
    have hsz : s.heap.objs.size ≤ h'.objs.size := Nat.le_trans h1 (Nat.le_of_lt h2)
    have hPl := Heap.lt_size hP'
    have I1 := inv_table (t' := tk) (more := #[rawInt pos.line, rawInt pos.col, .ref c']) (h' := h'.push (lamObj q params body scope (cloFrom X.env.cells scope.names []) ((X.mg "__name__").getD .none) c' ct dV)) I hP
      (fun b o hb e => Heap.get?_push_of_some _ (hx b o hb e)) (Heap.get?_push_of_some _ htb) h1 ⟨oc, vs, t, Heap.get?_push_of_some _ hoc, hd, hv⟩
    have gr : GrowT P H (upd (upd H P (.tbl (ps ++ #[rawInt pos.line, rawInt pos.col, .ref c']))) c' (CodeO c' q)) := fun b o n e => by
      rw [upd_ne (ne_of_none e nC), upd_ne n]
      exact e
    have eL : (ps ++ #[rawInt pos.line, rawInt pos.col, .ref c']).toList = ps.toList ++ [rawInt pos.line, rawInt pos.col, .ref c'] := by simp
    refine h h'.objs.size c' _ ct _ _ I1 gr ⟨_, by rw [upd_ne (ne_of_none hP nC), upd_same], by rw [eL]; exact PySem.TriplesOk_snoc _ _ _ _ ht, fun p' cv hcv => ?_⟩ (fun b o n e => Heap.get?_push_of_some _ (hx b o n e)) (fun b hb n => ?_) (Heap.get?_push_size _ rfl) ?_ (nofr_of I hsz) upd_same
    · rw [eL] at hcv
      rcases among_app _ ht hcv with z | z
      · obtain ⟨c0, e1, e2⟩ := ha p' cv z
        exact ⟨c0, e1, gr _ _ (fun w => codeO_ne ps (by rw [w, hP] at e2; exact (Option.some.inj e2).symm)) e2⟩
      · exact ⟨c', z, upd_same⟩
    · rw [upd_ne (Nat.ne_of_lt (Nat.lt_of_lt_of_le hb h1)), upd_ne (fun z => by rw [z, hP] at n; cases n)]
      exact n
    · rw [upd_ne (Nat.ne_of_gt h2), upd_ne (Nat.ne_of_gt (Nat.lt_of_lt_of_le hPl hsz))]
      exact I.hok.fresh hsz
  · obtain ⟨c0, e, hco⟩ := ha pos _ hc
    cases e
    have I1 : Inv X pins σ H { s with heap := h'.push (lamObj q params body scope (cloFrom X.env.cells scope.names []) ((X.mg "__name__").getD .none) c' ct dV), toks := tk } := I.kept fun b o e => Heap.get?_push_of_some _ (hx b o e)
    exact h h'.objs.size c' _ ct H _ I1 (fun b o _ e => e) ⟨ps, hP, ht, ha⟩ (fun b o _ e => Heap.get?_push_of_some _ (hx b o e)) (fun b _ n => n) (Heap.get?_push_size _ rfl) (I.hok.fresh hsz) (nofr_of I hsz) hco
theorem mk_fn {c P : Addr} {q : Str} {params : Arguments} {body : Expr} {scope : Scope} {pos : Pos} {E : Value → Shared → Prop} {Q : Value → Shared → Prop} {dvs : List Value} (I : Inv X pins σ H s) (TB : TabB X.base X.mg c P) (hcode : X.env.code = .ref c) (hT : TabS H P q)
    (hfree : ∀ y ∈ scope.names, y.2 = .free → ∃ c, X.env.cells.lookup y.1 = some c) (hne : (cloFrom X.env.cells scope.names []).isEmpty = false)
    (h : ∀ (f c' : Addr) (pm ct dV : Value) (H1 : Hp) (s' : Shared), Inv X pins σ H1 s' → GrowT P H H1 → TabS H1 P q → Dfl X dvs dV s' H1 →
      s'.heap.get? f = some (lamObj q params body scope (cloFrom X.env.cells scope.names []) pm c' ct dV) → H1 f = none → f ∉ frs X.stack → H1 c' = some (CodeO c' q) → Q (.ref f) s') :
    wpAny (model X.prog X.w) X.A (makeFunction "<lambda>" q params (.expr body) scope X.env dvs [] [] pos pos.line) Q E s := by
  rw [makeFunction_eq]
  simp only [List.zip_nil_right, List.filterMap_nil, List.isEmpty_nil, if_true, pure_bind]
  cases dvs with
  | nil =>
    simp only [List.isEmpty_nil, if_true, pure_bind]
    exact mk_core I TB hcode hT hfree hne fun f c' pm ct H1 s' J g t _ _ e1 e2 e3 e4 => h f c' pm ct .none H1 s' J g t (.inl ⟨rfl, rfl⟩) e1 e2 e3 e4
  | cons v r =>
    simp only [List.isEmpty_cons, Bool.false_eq_true, if_false]
    refine wpAny_bind (wpAny_newTextTuple ?_)
    have I1 : Inv X pins σ H { s with heap := s.heap.push { cls := .type "tuple", data := .seq (v :: r).toArray } } := I.kept (t' := s.toks) fun b o e => Heap.get?_push_of_some _ e
    have hP := hT
    obtain ⟨ps, hP, _, _⟩ := hP
    have hPl := Heap.lt_size (I.hok P _ hP : s.heap.get? P = some { cls := .none, data := .fields ps })
    refine mk_core I1 TB hcode hT hfree hne fun f c' pm ct H1 s' J g t kp kn e1 e2 e3 e4 => h f c' pm ct _ H1 s' J g t (.inr ⟨_, rfl, kp _ _ (Nat.ne_of_gt hPl) (Heap.get?_push_size _ rfl), ?_, nofr_of I (Nat.le_refl _)⟩) e1 e2 e3 e4
    exact kn _ (by rw [Heap.size_push]; exact Nat.lt_succ_self _) (I.hok.fresh (Nat.le_refl _))
end
end Mk

/-! ### MkLam2 -/
set_option Elab.async false
set_option linter.all false
set_option maxRecDepth 100000
set_option maxHeartbeats 4000000
namespace Mk
open PySem PySem.Spec PyProof.Rows L2
open GxR (TabG Tabbed)
open LamX (CodeO TabS codeO_ne TabB lamEnv lamCx)
abbrev pars0 : Arguments := { posonlyargs := [], args := [], vararg := none, kwonlyargs := [], kw_defaults := [], kwarg := none, defaults := [] }
abbrev pars1 (a : Str) (p : Pos) (d : Expr) : Arguments := { posonlyargs := [], args := [{ arg := a, annotation := none, pos := p }], vararg := none, kwonlyargs := [], kw_defaults := [], kwarg := none, defaults := [d] }
section
variable {M : Model} {A : Around} {E : Value → Shared → Prop} {s : Shared}
theorem bind_0 {q : Str} {body : Expr} {scope : Scope} {cl : List (Str × Addr)} {pm cdv ct dV : Value} {Q : List (Str × Value) → Shared → Prop} (hd : dV = .none) (h : Q [] s) : wpAny M A (bindArgs (lamFn q pars0 body scope cl pm cdv ct dV) ⟨[], []⟩) Q E s := by
  subst hd
  exact wpAny_pure h
theorem bind_1 {q a : Str} {p : Pos} {d body : Expr} {scope : Scope} {cl : List (Str × Addr)} {pm cdv ct dV v : Value} {t : Addr} {Q : List (Str × Value) → Shared → Prop} (hd : dV = .ref t) (ho : s.heap.get? t = some { cls := .type "tuple", data := .seq #[v] }) (h : Q [(a, v)] s) :
    wpAny M A (bindArgs (lamFn q (pars1 a p d) body scope cl pm cdv ct dV) ⟨[], []⟩) Q E s := by
  subst hd
  unfold bindArgs
  refine wpAny_bind (wpAny_pure ?_)
  refine wpAny_bind (wpAny_seqItems ho rfl ?_)
  have e : ((Array.toList (#[v] : Array Value)).drop ((Array.toList (#[v] : Array Value)).length - 1)) = [v] := rfl
  have ok : ∀ {l : List (Str × Value)}, l = [(a, v)] → Q l s := fun z => z ▸ h
  refine wpAny_pure (ok ?_)
  simp [List.lookup]
end
/-- a lambda's names: its parameters pn, which are no names of the maker, captured ones and globals -/
structure LamP (N pn : List Str) (sc scope : Scope) : Prop where
  kind : scope.kind = .function
  co : scope.isCoroutine = false
  gen : scope.isGenerator = false
  cell : ∀ y ∈ scope.names, y.2 ≠ .cell
  loc : ∀ y ∈ scope.names, y.2 = .local → y.1 ∉ N
  free : ∀ y ∈ scope.names, y.2 = .free → sc.names.lookup y.1 = some .cell ∨ sc.names.lookup y.1 = some .free
  par : ∀ a ∈ pn, scope.names.lookup a = some .local
def lamPB (N pn : List Str) (sc scope : Scope) : Bool :=
  decide (scope.kind = .function) && (!scope.isCoroutine && (!scope.isGenerator && ((scope.names.all fun y => !decide (y.2 = .cell) && ((!decide (y.2 = .local) || decide (y.1 ∉ N)) && (!decide (y.2 = .free) || (decide (sc.names.lookup y.1 = some .cell) || decide (sc.names.lookup y.1 = some .free))))) && pn.all fun a => decide (scope.names.lookup a = some .local))))
theorem lamP_by {N pn : List Str} {sc scope : Scope} (h : lamPB N pn sc scope = true) : LamP N pn sc scope := by
  unfold lamPB at h
  simp only [Bool.and_eq_true, Bool.or_eq_true, Bool.not_eq_true', decide_eq_true_eq, decide_eq_false_iff_not, List.all_eq_true] at h
  obtain ⟨h1, h2, h3, h4, h5⟩ := h
  exact ⟨h1, h2, h3, fun y hy => (h4 y hy).1, fun y hy e => ((h4 y hy).2.1).resolve_left fun z => z e, fun y hy e => ((h4 y hy).2.2).resolve_left fun z => z e, h5⟩
theorem LamP.has {X : Cx} {pn : List Str} {scope : Scope} (L : LamP X.N pn X.env.scope scope) (ok : X.Ok) : ∀ y ∈ scope.names, y.2 = .free → ∃ c, X.env.cells.lookup y.1 = some c := fun y hy e => (L.free y hy e).elim (fun k => ok.has _ (.inl k)) (fun k => ok.has _ (.inr k))
section
variable {X : Cx} {pins : List (Addr × Obj)} {σ : L2.St} {H HZ : Hp} {s s1 : Shared}
theorem mk_start {A : Around} {outer : List Env} {E : XK} {scope : Scope} {pn : List Str} {binds : List (Str × Value)} {f c' : Addr} {h₁ : Heap} {tk : Nat} (I : Inv X pins σ H s) (L : LamP X.N pn X.env.scope scope) (e0 : Env0 X.prog X.w X.K X.mg X.base A outer s1 HZ) (hd : A.handled = none)
    (un : Un (frs X.stack) [] H HZ s.heap s1.heap) (hns : h₁.Ns s1.heap.objs.size fun y => binds.reverse.lookup y) (kp : ∀ b o, s1.heap.get? b = some o → h₁.get? b = some o) :
    Inv (lamCx X A outer s1 HZ E scope f c') [] σ HZ { s1 with heap := h₁, toks := tk } := by
  have hfree := L.has I.ok
  -- a captured cell is the maker's own
  have cm : ∀ {y c}, (cloFrom X.env.cells scope.names []).lookup y = some c → X.env.cells.lookup y = some c := fun {y c} e => by
    rcases cloFrom_mem (PySem.mem_of_lookup e) with hm | ⟨h1, h2⟩
    · cases hm
    · obtain ⟨c1, hc⟩ := hfree _ h1 rfl
      have hc : X.env.cells.lookup y = some c1 := hc
      have e2 : c = c1 := by rw [h2, hc] <;> rfl
      rw [e2]; exact hc
  have look : ∀ {y}, scope.names.lookup y = some .free → ∃ c, (cloFrom X.env.cells scope.names []).lookup y = some c := fun {y} hl => mem_lookup (cloFrom_has (cells := X.env.cells) (acc := []) (PySem.mem_of_lookup hl : (y, NameKind.free) ∈ scope.names))
  have cellK : ∀ {c : Addr} {v : Option Value}, H c = none → s.heap.IsCell c v → h₁.IsCell c v := fun {c v} n ⟨o, ho, hd⟩ => by
    obtain ⟨sl, q⟩ := un.any ho n (by simp)
    exact ⟨_, kp _ _ q, hd⟩
  have noA : ∀ b : Addr, b ∉ (lamCx X A outer s1 HZ E scope f c').ex := fun b z => absurd (show b ∈ ([] : List Addr) from z) (by simp)
  refine ⟨⟨e0.mod, L.kind, rfl, rfl, Nat.le_refl _, fun y z c e1 e2 => I.ok.inj y z c (cm e1) (cm e2), fun y hy => ?_, fun y c z _ => Bool.noConfusion (show false = true from z), fun _ => hd, Around.frames_deeper e0.frames, .inr ⟨rfl, rfl⟩, fun b z => absurd z (noA b), e0.bs, e0.bsz, fun b _ _ => noA b,
      fun b z => absurd z (noA b), e0.funs, e0.frf⟩,
    rfl, e0.bare, Un.kept kp, ⟨_, hns, fun i y v e1 e2 e3 => ?_⟩, fun y c e => ?_, e0.hok.fresh (Nat.le_refl _), fun y c e => ?_, fun q hq => absurd (show q ∈ ([] : List (Addr × Obj)) ++ [] from hq) (by simp), e0.hok.kept kp, I.len⟩
  · rcases (show scope.names.lookup y = some .cell ∨ scope.names.lookup y = some .free from hy) with hy | hy
    · exact absurd rfl (L.cell _ (PySem.mem_of_lookup hy))
    · exact look hy
  · rcases (show Vis scope y from e3) with k | k | k
    · exact absurd (List.mem_of_getElem? e1) (L.loc _ (PySem.mem_of_lookup k) rfl)
    · exact absurd rfl (L.cell _ (PySem.mem_of_lookup k))
    · obtain ⟨m, hn, hl⟩ := I.loc
      have fr := L.free _ (PySem.mem_of_lookup k) rfl
      obtain ⟨w', r, q⟩ := hl i y v e1 e2 (fr.elim (fun k => .inr (.inl k)) (fun k => .inr (.inr k)))
      obtain ⟨c2, h2⟩ := look k
      refine ⟨w', r, .inr ⟨.inr k, c2, h2, ?_⟩⟩
      have c1 := cm h2
      rcases q with ⟨k', _⟩ | ⟨_, c3, e', z⟩
      · have k' : X.env.scope.names.lookup y = some .local := k'
        rcases fr with k2 | k2 <;> rw [show X.env.scope.names.lookup y = _ from k2] at k' <;> cases k'
      · rw [c1] at e'
        cases e'
        exact cellK (I.freeC y _ c1) z
  · obtain ⟨w', z⟩ := I.cell y c (cm e)
    exact ⟨w', cellK (I.freeC y c (cm e)) z⟩
  · obtain ⟨v, o, ho, hd⟩ := I.cell y c (cm e)
    exact un.free c o ho (I.freeC y c (cm e)) (by simp)
end
end Mk

/-! ### MkLam3 -/
set_option Elab.async false
set_option linter.all false
set_option maxRecDepth 100000
set_option maxHeartbeats 4000000
namespace Mk
open PySem PySem.Spec PyProof.Rows L2
open GxR (TabG Tabbed)
open LamX (CodeO TabS codeO_ne TabB lamEnv lamCx GivesTo run_ofS)
/-- the defaults as they stand now -/
def DflAt (dvs : List Value) (dV : Value) (s : Shared) : Prop := (dvs = [] ∧ dV = .none) ∨ ∃ t, dV = .ref t ∧ s.heap.get? t = some { cls := .type "tuple", data := .seq dvs.toArray }
/-- no arguments given: the parameters become binds -/
def BindL (params : Arguments) (dvs : List Value) (binds : List (Str × Value)) : Prop :=
  ∀ (M : Model) (A : Around) (E : Value → Shared → Prop) (s : Shared) (Q : List (Str × Value) → Shared → Prop) (q : Str) (body : Expr) (scope : Scope) (cl : List (Str × Addr)) (pm cv ct dV : Value), DflAt dvs dV s → Q binds s → wpAny M A (bindArgs (lamFn q params body scope cl pm cv ct dV) ⟨[], []⟩) Q E s
theorem bindL_0 : BindL pars0 [] [] := fun M A E s Q q body scope cl pm cv ct dV h hq => by
  rcases h with ⟨_, e⟩ | ⟨t, e, ho⟩
  · exact bind_0 e hq
  · subst e
    unfold bindArgs
    refine wpAny_bind (wpAny_pure ?_)
    exact wpAny_bind (wpAny_seqItems ho rfl (wpAny_pure hq))
theorem bindL_1 {a : Str} {p : Pos} {d : Expr} {v : Value} : BindL (pars1 a p d) [v] [(a, v)] := fun M A E s Q q body scope cl pm cv ct dV h hq => by
  rcases h with ⟨e, _⟩ | ⟨t, e, ho⟩
  · cases e
  · exact bind_1 e ho hq
section
variable {X : Cx} {pins : List (Addr × Obj)} {σ : L2.St} {H HZ : Hp} {s s1 : Shared}
theorem mk_act {CXg : CXT} {Eg : XK} {Ng : List Str} {qg : Str} {sg : Scope} {g f c' : Addr} {cdg pm ct dV : Value} {params : Arguments} {body : Expr} {scope : Scope} {k i : Nat} {a : Str} {pn : List (Addr × Obj)} {xe : Value → Shared → Prop} {W : WX} {tb : XK → TE} {p1 p2 : Pos} {ps : List Str} {dvs : List Value} {binds : List (Str × Value)}
    (I : Inv X pins σ H s) (L : LamP X.N ps X.env.scope scope) (hf : s.heap.get? f = some (lamObj (X.env.qual ++ "<lambda>") params body scope (cloFrom X.env.cells scope.names []) pm c' ct dV)) (hfn : H f = none) (hfr : f ∉ frs X.stack) (hdf : Dfl X dvs dV s H)
    (hb : BindL params dvs binds) (hbn : ∀ y ∈ binds, y.1 ∈ ps)
    (tk : Takes ((cxOf CXg X.prog X.w X.K X.mg X.base Ng qg sg g cdg X.A X.stack s H Eg).tr pn xe) W) (hr : Room (k + 1) (X.A.deeper (envOfC qg sg s.heap.objs.size g cdg)))
    (hbody : ∀ (A : Around) (outer : List Env) (s : Shared) (H : Hp) (E : XK), Room k (A.deeper (lamEnv X scope s.heap.objs.size f c')) → PE (lamCx X A outer s H E scope f c') body (tb E))
    (hN : Ng[i]? = some a) (hv : Vis sg a) (hd : (a == ("__debug__" : Str)) = false := by decide) (hcd : (a == ("__classdict__" : Str)) = false := by decide) :
    PE ((cxOf CXg X.prog X.w X.K X.mg X.base Ng qg sg g cdg X.A X.stack s H Eg).tr pn xe) (.Call (.Name a p1) [] [] p2)
      (fun σZ HZ Q => σZ[i]? = some (some (.ref f)) ∧ HZ c' = some (CodeO c' (X.env.qual ++ "<lambda>")) ∧ ∃ E : XK, (∀ cls d H', E cls d H' → W cls d σZ H') ∧ tb E σ HZ Q) := by
  refine ⟨fun pinsZ sZ σZ HZ Q IZ ⟨hs, hc, E, hW, ht⟩ => ?_⟩
  refine wpAny_Call_Name_kw (thn ((pe_var (pos := p1) (i := i) hN hv hd hcd).run pinsZ sZ σZ HZ (fun v H1 => v = .ref f ∧ H1 = HZ) IZ ⟨.ref f, hs, rfl, rfl⟩) fun u s1 ⟨v, H1, I1, r1, q1⟩ => ?_)
  obtain ⟨rfl, rfl⟩ := q1
  obtain rfl : u = Value.ref f := r1
  have no : ∀ b : Addr, b ∉ ([] : List Addr) := fun b z => nomatch z
  have of1 : s1.heap.get? f = some (lamObj (X.env.qual ++ "<lambda>") params body scope (cloFrom X.env.cells scope.names []) pm c' ct dV) := I1.base.keep f _ hf hfn hfr (no f)
  have df1 : DflAt dvs dV s1 := by
    rcases hdf with ⟨e1, e2⟩ | ⟨t, e1, e2, e3, e4⟩
    · exact .inl ⟨e1, e2⟩
    · exact .inr ⟨t, e1, I1.base.keep t _ e2 e3 e4 (no t)⟩
  refine PySem.W.callWith_F0 ⟨_, _, _, _, of1⟩ ?_
  have un : Un (frs X.stack) [] H H1 s.heap s1.heap := I1.base
  obtain ⟨⟨oc, vs, t, hoc, hdc, hvc⟩, _, _⟩ := I1.hok c' _ hc
  have rc : codeAny (model X.prog X.w) (X.A.deeper (envOfC qg sg s.heap.objs.size g cdg)) (.call (.ref f) ⟨[], []⟩) (CR (L2.CX X.prog X.w) (envOfC qg sg s.heap.objs.size g cdg :: X.stack) X.prog X.w H1 s1 Q E) s1 := by
    refine PySem.W.kla_callFunE hr.depth of1 rfl L.co L.gen rfl ⟨c', oc, vs, t, rfl, hoc, hdc, hvc⟩ ?_
    refine hb _ _ _ _ _ _ _ _ _ _ _ _ _ df1 ?_
    refine wpAny_newFunctionEnv L.cell (fun y hy => L.par _ (hbn y hy)) (fun h₁ hns hsb => ⟨I1.nolimit.fresh _ hsb, ?_⟩) L.kind
    show codeAny _ _ (.expr body (lamEnv X scope s1.heap.objs.size f c')) _ _
    have kp : ∀ b o, s1.heap.get? b = some o → h₁.get? b = some o := fun b o e => hsb.extBut b o (Nat.ne_of_lt (Heap.lt_size e)) (Heap.get?_push_of_some _ e)
    have J := mk_start (E := E) (f := f) (c' := c') (tk := s1.toks + binds.length) I L I1.env0 hr.hd un hns kp
    exact PySem.W.kla_codeExpr (wpAny_mono ((hbody _ _ s1 H1 _ (hr.deeper _)).run [] _ _ H1 Q J ht) (fun v s' ⟨w', H', J', rv, q⟩ => ⟨w', H', J'.os, J'.bare, J'.base, J'.hok, rv, q⟩) fun e s' hq => hq)
  refine wpAny_call (codeAny_mono rc fun r s' hq => ?_)
  cases r with
  | error e => exact tk e s' (XE.of_call I1 (W := W) hW hq)
  | ok fl =>
    cases fl with
    | ret u => exact I1.after hq
    | next => exact False.elim hq
    | brk => exact False.elim hq
    | cont => exact False.elim hq
/-- the def that calls what it got: a calls it; TT: what it makes of the lambda's reading -/
def GivesA (X : Cx) (Ng : List Str) (x : Str) (sg : Scope) (g : Addr) (cdg : Value) (bg : List Stmt) (a : Str) (q : Str) (TT : (XK → Hp → VK → Prop) → Hp → VK → Prop) : Prop :=
  ∀ (f c' : Addr) (s : Shared) (H : Hp) (Q : VK) (tl : XK → Hp → VK → Prop),
    (∀ (W : WX) (pn : List (Addr × Obj)) (xe : Value → Shared → Prop) (p1 p2 : Pos), Takes ((cxOf C8.CX0 X.prog X.w X.K X.mg X.base Ng x sg g cdg X.A X.stack s H C8.E0).tr pn xe) W →
      PE ((cxOf C8.CX0 X.prog X.w X.K X.mg X.base Ng x sg g cdg X.A X.stack s H C8.E0).tr pn xe) (.Call (.Name a p1) [] [] p2) (fun σZ HZ Q => σZ[0]? = some (some (.ref f)) ∧ HZ c' = some (CodeO c' q) ∧ ∃ E : XK, (∀ cls d H', E cls d H' → W cls d σZ H') ∧ tl E HZ Q)) →
    H c' = some (CodeO c' q) → TT tl H Q →
    ∃ t, PSs (cxOf C8.CX0 X.prog X.w X.K X.mg X.base Ng x sg g cdg X.A X.stack s H C8.E0).nox bg t ∧ t { nx := fun _ H' => Q .non H', rt := Q } (L2.start Ng [.ref f]) H
/-- what the maker of a lambda hands over -/
def tLamA (P : Addr) (q : Str) (TT : (XK → Hp → VK → Prop) → Hp → VK → Prop) (t : XK → TE) : TE := fun σ H Q => TabS H P q ∧ ∀ H1, GrowT P H H1 → TabS H1 P q → TT (fun E H' Q' => t E σ H' Q') H1 Q
end
section
variable {X : Cx}
/-- x(lambda ..: body) -/
theorem mk_lamcall {TT : (XK → Hp → VK → Prop) → Hp → VK → Prop} {x a : Str} {g c P : Addr} {k : Nat} {pg : Arguments} {bg : List Stmt} {sg : Scope} {dV kV doc pm cdv ct oc : Value} {an od : Option Addr} {osl : Array (Option Value)} {Ng : List Str}
    {params : Arguments} {body : Expr} {scope : Scope} {t : XK → TE} {p lpos pos : Pos} {ps : List Str} {ds : Nat → List Value} {bs : Nat → List (Str × Value)} (hg : Gl X x) (hm : X.mg x = some (.ref g)) (hk : PySem.W.keepIn X.K (.ref g) = true)
    (lk : X.K.lookup g = some ⟨oc, od, .func (PySem.W.fnOf x x pg bg sg dV kV doc pm an cdv ct), osl⟩) (hcg : PySem.W.codeIn X.K cdv x = true) (hb : L2.Binds X.K (PySem.W.fnOf x x pg bg sg dV kV doc pm an cdv ct) [a] []) (Sg : FnScope Ng [a] sg) (hNg : Ng[0]? = some a) (hva : Vis sg a)
    (hG : GivesA X Ng x sg g cdv bg a (X.env.qual ++ "<lambda>") TT)
    (TB : TabB X.base X.mg c P) (hcode : X.env.code = .ref c) (hr : Room (k + 2) X.A) (L : LamP X.N ps X.env.scope scope) (hne : (cloFrom X.env.cells scope.names []).isEmpty = false)
    (hev : ∀ (pins : List (Addr × Obj)) (s : Shared) (σ : L2.St) (H : Hp) (Q : Value → Shared → Prop), Inv X pins σ H s → (∀ (n : Nat) s', Inv X pins σ H s' → wpAny (model X.prog X.w) X.A (makeFunction "<lambda>" (X.env.qual ++ "<lambda>") params (.expr body) scope X.env (ds n) [] [] lpos lpos.line) Q X.xe s') → wpAny (model X.prog X.w) X.A (eval (.Lambda params body scope lpos) X.env) Q X.xe s)
    (hbl : ∀ n, BindL params (ds n) (bs n)) (hbn : ∀ n, ∀ y ∈ bs n, y.1 ∈ ps)
    (hbody : ∀ (A : Around) (outer : List Env) (s : Shared) (H : Hp) (E : XK) (f c' : Addr), Room k (A.deeper (lamEnv X scope s.heap.objs.size f c')) → PE (lamCx X A outer s H E scope f c') body (t E))
    (hdb : (x == ("__debug__" : Str)) = false := by decide) (hd : (a == ("__debug__" : Str)) = false := by decide) (hcd : (a == ("__classdict__" : Str)) = false := by decide) :
    PE X (.Call (.Name x p) [.Lambda params body scope lpos] [] pos) (tLamA P (X.env.qual ++ "<lambda>") TT t) := by
  refine ⟨fun pins s σ H Q I ⟨hT, h⟩ => ?_⟩
  refine wpAny_Call_Name_kw (ld_glob I hg hm ?_ hdb)
  refine PySem.W.callWith_K (h₀ := X.base) I.ok.mod.kin hk ?_ (by rfl) (by rfl)
  show wpAny _ _ (spliced ((false, eval (.Lambda params body scope lpos) X.env) :: backTo pos (starEach [] X.env))) _ _ s
  refine Calls.spliced_cons (hev pins s σ H _ I fun n s0 I0 => mk_fn I0 TB hcode hT (L.has I0.ok) hne fun f c' pm' ctv dV' H1 s' I1 gr T1 df hf hfn hfr hco => ?_)
  refine Calls.spliced_nil ⟨I1.kIn, ?_⟩
  have rc : codeAny (model X.prog X.w) X.A (.call (.ref g) ⟨[.ref f], []⟩) (CR C8.CX0 X.stack X.prog X.w H1 s' Q C8.E0) s' := by
    refine run_ofS (N := Ng) (ps := [a]) (us := [.ref f]) (vs := [.ref f]) lk hcg Sg hr I1.env0 (hb s' [.ref f] I1.kIn rfl) (.cons rfl .nil) rfl fun hr' => ?_
    obtain ⟨t', ht', hq'⟩ := hG f c' s' H1 Q (fun E H' Q' => t E σ H' Q') (fun W pn xe p1 p2 tk => mk_act (i := 0) (tb := t) I1 L hf hfn hfr df (hbl n) (hbn n) tk hr' (fun A outer s H E hr2 => hbody A outer s H E f c' hr2) hNg hva hd hcd) hco (h H1 gr T1)
    exact ⟨t', ht'.nox, hq'⟩
  refine wpAny_call (codeAny_mono rc fun r s2 hq => ?_)
  cases r with
  | error e => exact (show False from hq).elim
  | ok fl =>
    cases fl with
    | ret u => exact I1.after hq
    | next => exact False.elim hq
    | brk => exact False.elim hq
    | cont => exact False.elim hq
end
end Mk

/-! ### MkIsX -/
set_option Elab.async false
set_option linter.all false
set_option maxRecDepth 100000
set_option maxHeartbeats 4000000
namespace Mk
open PySem PySem.Spec PyProof.Rows L2
open GxR (TabG Tabbed)
open LamX (CodeO GivesTo)
/-! ### isinstance of the exception that a suite holds, an own dict or none -/
def rIsX (K : PySem.W.Frag) (cls : Value) (d : Option Addr) (a : Addr) : List V → Hp → VK → Prop := fun xs H Q => ∃ (D : Addr) (c : V) (cv : Value) (b : Bool), cls = .ref D ∧ ExcC K D ∧ (PySem.W.clsIn K D).isSome = true ∧ (d = none ∨ ∃ dd fs, d = some dd ∧ H dd = some (.xd fs)) ∧
  xs = [.ref a, c] ∧ (∀ u, RelV c u → u = cv) ∧ PySem.W.kitOne K (.ref D) cv = some b ∧ Q (.bl b) H
theorem call_isX {X : Cx} {a : Addr} {cls : Value} {d : Option Addr} {oe : Obj} {pn : List (Addr × Obj)} (hz : Zc cls d oe) (hf : ∃ vs, oe.data = .fields vs) : CallR (X.suite a ((a, oe) :: pn)) (.builtin "isinstance") (rIsX X.K cls d a) := by
  intro pins s σ H xs us Q I r h
  obtain ⟨D, c, cv, b, rfl, C, cl, hd, rfl, hcv, e, q⟩ := h
  cases r with
  | cons rx rr =>
    cases rr with
    | cons rt rr =>
      cases rr
      cases rx
      have ec := hcv _ rt
      subst ec
      obtain ⟨hget, _⟩ := I.pin (a, oe) (List.mem_append.mpr (.inl List.mem_cons_self))
      obtain ⟨vs, hv⟩ := hf
      have J : ∃ od, PySem.W.InstAt s.heap a oe D od := by
        rcases hd with rfl | ⟨dd, fs, rfl, hx⟩
        · exact ⟨none, hget, hz.1, by unfold PySem.W.notCls; rw [hv] <;> rfl, by rw [hz.2]; exact True.intro⟩
        · have hx : ObjOk X.prog X.w H s.heap dd (.xd fs) := I.hok dd _ hx
          obtain ⟨mA, hns, hr⟩ := hx
          obtain ⟨od, ho, hl⟩ := lookIn_ns hns
          exact ⟨some od, hget, hz.1, by unfold PySem.W.notCls; rw [hv] <;> rfl, by rw [hz.2]; exact ho⟩
      obtain ⟨od, J⟩ := J
      exact PySem.W.kia_one (PySem.W.kitx_exc cl C.hg C.hk C.hs C.ha C.hn C.ht C.hm) I.kIn J e (fun z => nomatch z) fun tk => ⟨.bl b, H, I.kept (t' := tk) fun _ _ z => z, rfl, q⟩
/-! ### l.count(b) of bools -/
def rCntB (K : PySem.W.Frag) : V → List V → Hp → VK → Prop := fun x xs H Q => ∃ (p : Addr) (bs : List Bool) (k : Bool), x = .ref p ∧ xs = [.bl k] ∧ SqL K H p (bs.map V.bl) ∧ Q (.int (countIn (.bool k) (bs.map PyData.bool))) H
theorem dp_bools {K : PySem.W.Frag} {H : Hp} : ∀ bs : List Bool, DpAll K H (bs.map V.bl) (bs.map PyData.bool)
  | [] => .nil
  | b :: r => .cons (.bl b) (dp_bools r)
theorem mt_bcount {X : Cx} : MtR X "list.count" (rCntB X.K) := by
  intro pins s σ H x xs v us Q I rx rxs h
  obtain ⟨p, bs, k, rfl, rfl, hs, q⟩ := h
  cases rx
  obtain ⟨u, rfl, ru⟩ := rxs.one
  cases ru
  obtain ⟨its, rv, ⟨o, n, ho, hc, hdn, hd⟩, hz⟩ := I.list hs
  obtain ⟨as, ra⟩ := Dp.readsAll I (bs.map PyData.bool) _ _ (dp_bools bs) rv
  refine count_list_bools ⟨o, ho, hc, n, hd⟩ ra ?_ ⟨.int _, H, I.tok _, ⟨_, rfl⟩, q⟩
  rw [List.all_map]
  exact List.all_eq_true.mpr fun b _ => rfl
theorem ev_lam0 {X : Cx} {body : Expr} {scope : Scope} {lpos : Pos} (pins : List (Addr × Obj)) (s : Shared) (σ : L2.St) (H : Hp) (Q : Value → Shared → Prop) (I : Inv X pins σ H s)
    (h : ∀ (n : Nat) s', Inv X pins σ H s' → wpAny (model X.prog X.w) X.A (makeFunction "<lambda>" (X.env.qual ++ "<lambda>") pars0 (.expr body) scope X.env ((fun _ => []) n) [] [] lpos lpos.line) Q X.xe s') : wpAny (model X.prog X.w) X.A (eval (.Lambda pars0 body scope lpos) X.env) Q X.xe s :=
  PySem.W.kla_eval rfl (h 0 s I)
theorem ev_lam1 {X : Cx} {body : Expr} {scope : Scope} {lpos p dp : Pos} {a : Str} {j : Nat} {i : Int} (pins : List (Addr × Obj)) (s : Shared) (σ : L2.St) (H : Hp) (Q : Value → Shared → Prop) (I : Inv X pins σ H s)
    (h : ∀ (n : Nat) s', Inv X pins σ H s' → wpAny (model X.prog X.w) X.A (makeFunction "<lambda>" (X.env.qual ++ "<lambda>") (pars1 a p (.Constant (.int i) j dp)) (.expr body) scope X.env ((fun n => [.int i n]) n) [] [] lpos lpos.line) Q X.xe s') : wpAny (model X.prog X.w) X.A (eval (.Lambda (pars1 a p (.Constant (.int i) j dp)) body scope lpos) X.env) Q X.xe s := by
  rw [arm_eval_Lambda]
  show wpAny _ _ (do let dv ← evalAll [eval (.Constant (.int i) j dp) X.env]; let kdv ← holding dv (evalAllOpt []); makeFunction "<lambda>" (X.env.qual ++ "<lambda>") (pars1 a p (.Constant (.int i) j dp)) (.expr body) scope X.env dv kdv [] lpos lpos.line) _ _ _
  refine wpAny_bind (wpAny_bind (thn ((pe_int (X := X) (i := i) (j := j) (pos := dp)).run pins s σ H (fun v H1 => v = .int i ∧ H1 = H) I ⟨rfl, rfl⟩) fun u s1 ⟨v, H1, I1, r1, q1⟩ => ?_))
  obtain ⟨rfl, rfl⟩ := q1
  obtain ⟨t, rfl⟩ := r1
  exact wpAny_bind (wpAny_holding (wpAny_pure (wpAny_pure (wpAny_bind (wpAny_holding (wpAny_pure (h t s1 I1)))))))
end Mk

/-! ### MkXW -/
set_option Elab.async false
set_option linter.all false
set_option maxRecDepth 100000
set_option maxHeartbeats 4000000
namespace Mx
open PySem PySem.Spec PyProof.Rows L2
open GxR (TabG Tabbed)
open LamX (TabS)
/-! ### the word for an error -/
def wordOf (c : Nat) : Option Str := match c with
  | 3 => some "manner" | 4 => some "path" | 6 => some "forest" | 7 => some "number" | 8 => some "word" | 9 => some "trap" | 11 => some "line" | 12 => some "step"
  | _ => none
def wordR : R (A × Sto) → R (A × Sto)
  | .ok r => .ok (.str "", r.2)
  | .exc x s => match wordOf x.1 with
    | some w => .ok (.str w, s)
    | none => .fail
  | .fail => .fail
  | .draw n k => .draw n fun i => wordR (k i)
def mWord (me : EM) : EM := fun env st => wordR (me env st)
def EchX (G : Gx) (Q : VK) : XK := fun cls d H => ∃ c w, wordOf c = some w ∧ cls = .ref (G.xc c) ∧ (d = none ∨ ∃ dd fs, d = some dd ∧ H dd = some (.xd fs)) ∧ ∀ H2, (∀ b o, H b = some o → H2 b = some o) → Q (.str w) H2
def TTx (G : Gx) : (XK → Hp → VK → Prop) → Hp → VK → Prop := fun tl H Q => tl (EchX G Q) H fun _ H' => Q (.str "") H'
/-- the table of the code of lambdas -/
structure AmW (G : Gx) (P : Addr) (q : Str) : Prop where
  has : ∀ {H}, G.Am H → TabS H P q
  grow : ∀ {H H1}, G.Am H → Mk.GrowT P H H1 → TabS H1 P q → G.Am H1
section
variable {G : Gx} {T : List Addr} {E : XK} {ι : List Addr} {H H1 : Hp} {st : Sto} {P : Addr} {q : Str}
theorem fr_ext (e : ∀ b o, H b = some o → H1 b = some o) : Fr ι H ι H1 := ⟨List.prefix_refl _, fun _ h => .inl h, fun a o h _ _ => e a o h, fun a h => by
  cases k : H a with
  | none => exact absurd k h
  | some o => rw [e a o k]; simp, fun a ob u h => e a _ h⟩
theorem Rl.ext (M : AmX G T) (R : Rl G ι H st) (e : ∀ b o, H b = some o → H1 b = some o) : Rl G ι H1 st :=
  ⟨M.same R.am fun b o h _ => e b o h, R.len, R.nd, fun n o a h1 h2 => ImO.mono R (fr_ext e) (by
    obtain ⟨_, k, _⟩ := R.kind (List.mem_of_getElem? h2)
    rw [k]
    exact e _ _ k) (R.ob n o a h1 h2)⟩
theorem fr_grow (T0 : TabS H P q) (g : Mk.GrowT P H H1) (T1 : TabS H1 P q) : Fr ι H ι H1 := by
  obtain ⟨ps, hp, _⟩ := T0
  obtain ⟨ps1, hp1, _⟩ := T1
  refine ⟨List.prefix_refl _, fun _ h => .inl h, fun a o h _ n => g a o (fun e => ?_) h, fun a h => ?_, fun a ob u h => g a _ (fun e => by rw [e, hp] at h; cases h) h⟩
  · subst e
    rw [hp] at h
    exact n _ (Option.some.inj h).symm
  · by_cases e : a = P
    · rw [e, hp1]; simp
    · cases k : H a with
      | none => exact absurd k h
      | some o => rw [g a o e k]; simp
theorem Rl.grow (W : AmW G P q) (R : Rl G ι H st) (g : Mk.GrowT P H H1) (T1 : TabS H1 P q) : Rl G ι H1 st := by
  have T0 := W.has R.am
  refine ⟨W.grow R.am g T1, R.len, R.nd, fun n o a h1 h2 => ImO.mono R (fr_grow T0 g T1) ?_ (R.ob n o a h1 h2)⟩
  obtain ⟨ps, hp, _⟩ := T0
  have ne : a ≠ P := fun e => by
    subst e
    obtain ⟨_, k, m⟩ := R.kind (List.mem_of_getElem? h2)
    rw [hp] at k
    cases k
    exact m.2.1 _ rfl
  obtain ⟨_, k, _⟩ := R.kind (List.mem_of_getElem? h2)
  rw [k]
  exact g _ _ ne k
theorem wordR_holds (M : AmX G T) {Q : VK} (f : Fr ι H ι H1) : ∀ {r : R (A × Sto)}, (wordR r).holds (PE1 G ι H Q) (PXx G ι H E) → r.holds (PE1 G ι H1 fun _ H' => Q (.str "") H') (PXx G ι H1 (EchX G Q))
  | .ok r, h => fun ι' H' v f' R' _ => (show PE1 G ι H Q (.str "", r.2) from h) ι' H' _ (f.trans f') R' im_str
  | .exc (c, p) s, h => fun ι' H' f' R' => by
    unfold wordR at h
    split at h
    · rename_i w hw
      have fin : ∀ H2, (∀ b o, H' b = some o → H2 b = some o) → Q (.str w) H2 := fun H2 e => (show PE1 G ι H Q (.str w, s) from h) ι' H2 _ ((f.trans f').trans (fr_ext e)) (R'.ext M e) im_str
      cases p with
      | none => exact ⟨c, w, hw, rfl, .inl rfl, fin⟩
      | some p => exact fun d v hd _ => ⟨c, w, hw, rfl, .inr ⟨d, _, rfl, hd⟩, fin⟩
    · exact h.elim
  | .fail, h => h
  | .draw n k, h => fun i hi => wordR_holds M f (h i hi)
theorem ex_word (M : AmX G T) (W : AmW G P q) {t : XK → TE} {me : EM} (hm : ∀ E', Ex G E' (t E') me) : Ex G E (Mk.tLamA P q (TTx G) t) (mWord me) := fun ι env st σ H Q R Ev h => by
  refine ⟨W.has R.am, fun H1 g T1 => ?_⟩
  have f : Fr ι H ι H1 := fr_grow (W.has R.am) g T1
  exact hm _ ι env st σ H1 _ (R.grow W g T1) (R.env f Ev) (wordR_holds M f h)
end
/-- the error classes as _law_word asks for them -/
structure WordX (G : Gx) (mg : Str → Option Value) : Prop where
  g0 : mg "MarkError" = some (.ref (G.xc 0))
  g1 : mg "BadQuestion" = some (.ref (G.xc 1))
  g2 : mg "BadReader" = some (.ref (G.xc 2))
  g3 : mg "BadManner" = some (.ref (G.xc 3))
  g4 : mg "BadPath" = some (.ref (G.xc 4))
  g5 : mg "BadRow" = some (.ref (G.xc 5))
  g6 : mg "BadForest" = some (.ref (G.xc 6))
  g7 : mg "BadNumber" = some (.ref (G.xc 7))
  g8 : mg "BadWord" = some (.ref (G.xc 8))
  g9 : mg "BadTrap" = some (.ref (G.xc 9))
  g10 : mg "BadText" = some (.ref (G.xc 10))
  g11 : mg "BadLine" = some (.ref (G.xc 11))
  g12 : mg "BadStep" = some (.ref (G.xc 12))
  g13 : mg "TooMany" = some (.ref (G.xc 13))
  ex : ∀ i, 1 ≤ i → i ≤ 13 → ExcC G.K (G.xc i) ∧ (PySem.W.clsIn G.K (G.xc i)).isSome = true ∧ PySem.W.exmOne G.K (.ref (G.xc i)) (.ref (G.xc 0)) = some true ∧ ∀ j, 1 ≤ j → j ≤ 13 → PySem.W.kitOne G.K (.ref (G.xc i)) (.ref (G.xc j)) = some (decide (i = j))
  x1 : XfC G.K (G.xc 1) ∧ PySem.W.findIn G.K (.ref (G.xc 1)) "part" = some none
  x5 : XfC G.K (G.xc 5) ∧ PySem.W.findIn G.K (.ref (G.xc 5)) "place" = some none
  x13 : XfC G.K (G.xc 13) ∧ PySem.W.findIn G.K (.ref (G.xc 13)) "most" = some none
end Mx

/-! ### MkXT -/
set_option Elab.async false
set_option linter.all false
set_option maxRecDepth 100000
set_option maxHeartbeats 4000000
namespace Mx
open PySem PySem.Spec PyProof.Rows L2
open GxR (TabG Tabbed)
/-! ### the draws -/
/-- all but the list at r stays -/
def XS (r : Addr) (H H' : Hp) : Prop := ∀ b o, H b = some o → b ≠ r → H' b = some o
theorem XS.trans {r : Addr} {H H1 H2 : Hp} (a : XS r H H1) (b : XS r H1 H2) : XS r H H2 := fun c o h z => b c o (a c o h z) z
theorem XS.upd {r : Addr} {H : Hp} {o : HO} : XS r H (upd H r o) := fun b u h z => by rw [upd_ne z]; exact h
/-- the script, beside the list at r -/
def ScrB (K : PySem.W.Frag) (H : Hp) (r a : Addr) (xs : List V) : Prop :=
  (Rd H a (.lst xs) ∧ a ≠ r) ∨ ∃ (o : Obj) (its : Array Value) (n : Nat), K.lookup a = some o ∧ o.cls = .type "list" ∧ o.dict = none ∧ o.data = .seq its n ∧ its.size ≤ sizeLine ∧ Vals xs its.toList
theorem ScrB.sql {K : PySem.W.Frag} {H : Hp} {r a : Addr} {xs : List V} (h : ScrB K H r a xs) : SqL K H a xs := h.elim (fun h => .inl h.1) .inr
theorem ScrB.xs {K : PySem.W.Frag} {H H' : Hp} {r a : Addr} {xs : List V} (e : XS r H H') (h : ScrB K H r a xs) : ScrB K H' r a xs := by
  rcases h with ⟨q | ⟨ob, q⟩, n⟩ | q
  · exact .inl ⟨.inl (e _ _ q n), n⟩
  · exact .inl ⟨.inr ⟨ob, e _ _ q n⟩, n⟩
  · exact .inr q
theorem ScrAt.mk {K : PySem.W.Frag} {H : Hp} {ι : List Addr} {r a : Addr} {xs : List V} (hr : r ∈ ι) (h : ScrAt K H ι a xs) : ScrB K H r a xs := h.imp (fun q => ⟨q.1, fun e => q.2 (by rw [e]; exact hr)⟩) id
theorem ScrAt.upd {K : PySem.W.Frag} {H H' : Hp} {ι : List Addr} {r a : Addr} {xs : List V} (hr : r ∈ ι) (e : XS r H H') (h : ScrAt K H ι a xs) : ScrAt K H' ι a xs := by
  rcases h with ⟨q, n⟩ | q
  · have nr : a ≠ r := fun z => n (by rw [z]; exact hr)
    rcases q with q | ⟨ob, q⟩
    · exact .inl ⟨.inl (e _ _ q nr), n⟩
    · exact .inl ⟨.inr ⟨ob, e _ _ q nr⟩, n⟩
  · exact .inr q
section
variable {G : Gx} {T : List Addr} {ι : List Addr} {H H' : Hp} {st : Sto} {E : XK}
theorem taken_end (M : AmX G T) (R : Rl G ι H st) {n : Nat} {r a : Addr} {ns : List Int} (hn : ι[n]? = some r) (hs : st[n]? = some .dr) {L : List V} (hr : H r = some (.lst L)) (sc : ScrAt G.K H ι a (ns.map .int)) (x : XS r H H') {i y z : Int} (h : H' r = some (.lst [.ref a, .int i, .int y, .int z])) (i0 : 0 ≤ i)
    {many k : Int} (k0 : 0 ≤ k) (k1 : k < many) {Q : VK} (q : (Mx.R.draw many.toNat fun k => .ok (A.int k, st)).holds (PE1 G ι H Q) (PXx G ι H E)) : Q (.int k) H' := by
  have hm := List.mem_of_getElem? hn
  have f : Fr ι H ι H' := ⟨List.prefix_refl _, fun _ h => .inl h, fun b o e nb _ => x b o e fun z => nb (by rw [z]; exact hm), fun b e => by
    by_cases z : b = r
    · rw [z, h]; simp
    · cases q : H b with
      | none => exact absurd q e
      | some o => rw [x b o q z]; simp, fun b ob u e => x b _ e fun z => by rw [z, hr] at e; cases e⟩
  have R2 : Rl G ι H' st := by
    refine ⟨M.same R.am fun b o e n1 => x b o e fun z => ?_, R.len, R.nd, fun m o b h1 h2 => ?_⟩
    · rw [z, hr] at e
      cases e
      exact n1 mv_lst
    · by_cases z : b = r
      · subst z
        have em : m = n := (List.getElem?_inj (List.getElem?_eq_some_iff.mp h2).1 R.nd).mp (h2.trans hn.symm)
        subst em
        rw [hs] at h1
        cases h1
        exact ⟨a, ns, i, y, _, h, sc.upd hm x, i0⟩
      · refine ImO.mono R f ?_ (R.ob m o b h1 h2)
        obtain ⟨_, q, _⟩ := R.kind (List.mem_of_getElem? h2)
        rw [q]
        exact x _ _ q z
  have hk : (Mx.R.ok (A.int ((k.toNat : Nat) : Int), st)).holds (PE1 G ι H Q) (PXx G ι H E) := q k.toNat (by omega)
  have e : ((k.toNat : Nat) : Int) = k := Int.toNat_of_nonneg k0
  rw [e] at hk
  exact (show PE1 G ι H Q (.int k, st) from hk) ι H' _ f R2 im_int
end
theorem v_modX {σ : L2.St} {H : Hp} {ta tb : TE} {a b : Int} (ha : ∀ Q : VK, Q (.int a) H → ta σ H Q) (hb : ∀ Q : VK, Q (.int b) H → tb σ H Q) (h : 0 < b) : ∀ Q : VK, Q (.int (a % b)) H → tOp (rI (fun _ j => 0 < j) fun i j => .int (i % j)) ta tb σ H Q := fun Q q => ha _ (hb _ ⟨a, b, rfl, rfl, h, q⟩)
theorem v_divX {σ : L2.St} {H : Hp} {ta tb : TE} {a b : Int} (ha : ∀ Q : VK, Q (.int a) H → ta σ H Q) (hb : ∀ Q : VK, Q (.int b) H → tb σ H Q) (h : 0 < b) (h2 : b < 1073741824) : ∀ Q : VK, Q (.int (a / b)) H → tOp (rI CDiv fun i j => .int (i / j)) ta tb σ H Q := fun Q q => ha _ (hb _ ⟨a, b, rfl, rfl, ⟨h, h2⟩, q⟩)
theorem v_mulX {σ : L2.St} {H : Hp} {ta tb : TE} {a b : Int} (ha : ∀ Q : VK, Q (.int a) H → ta σ H Q) (hb : ∀ Q : VK, Q (.int b) H → tb σ H Q) (h : CMul a b) : ∀ Q : VK, Q (.int (a * b)) H → tOp (rI CMul fun i j => .int (i * j)) ta tb σ H Q := fun Q q => ha _ (hb _ ⟨a, b, rfl, rfl, h, q⟩)
theorem v_addX {σ : L2.St} {H : Hp} {ta tb : TE} {a b : Int} (ha : ∀ Q : VK, Q (.int a) H → ta σ H Q) (hb : ∀ Q : VK, Q (.int b) H → tb σ H Q) : ∀ Q : VK, Q (.int (a + b)) H → tOp (rI0 fun i j => .int (i + j)) ta tb σ H Q := Mk.v_op0 (g := fun i j => .int (i + j)) ha hb
theorem v_subX {σ : L2.St} {H : Hp} {ta tb : TE} {a b : Int} (ha : ∀ Q : VK, Q (.int a) H → ta σ H Q) (hb : ∀ Q : VK, Q (.int b) H → tb σ H Q) : ∀ Q : VK, Q (.int (a - b)) H → tOp (rI0 fun i j => .int (i - j)) ta tb σ H Q := Mk.v_op0 (g := fun i j => .int (i - j)) ha hb
abbrev rInt1X : List V → Hp → VK → Prop := fun xs H Q => (∃ i, xs = [.int i] ∧ Q (.int i) H) ∨ ∃ k, xs = [.bl k] ∧ Q (.int (if k then 1 else 0)) H
theorem v_intX {σ : L2.St} {H : Hp} {ta : TE} {a : Int} (ha : ∀ Q : VK, Q (.int a) H → ta σ H Q) : ∀ Q : VK, Q (.int a) H → tCB rInt1X (tCons ta tNil) σ H Q := fun Q q => ha _ (.inl ⟨a, rfl, q⟩)
theorem c_setLX {to ti : TE} {σ : L2.St} {H : Hp} {v : V} {p : Addr} {xs : List V} {k : Int} {j : Nat} {Q : L2.St → Hp → Prop} (ho : ∀ Q : VK, Q (.ref p) H → to σ H Q) (hi : ∀ Q : VK, Q (.int k) H → ti σ H Q) (h : H p = some (.lst xs)) (hj : ixN xs.length k = some j) (q : Q σ (upd H p (.lst (xs.set j v)))) : gSub to ti rSetL v σ H Q :=
  ho _ (hi _ ⟨p, xs, k, j, rfl, rfl, h, hj, q⟩)
theorem atI_mapX {ns : List Int} {i : Int} (h : 0 ≤ i) (h2 : i.toNat < ns.length) : atI (ns.map V.int) i = some (.int (ns.getD i.toNat 0)) := by
  have z := atI_nat (xs := ns.map V.int) (j := i.toNat) (v := .int (ns.getD i.toNat 0)) (by
    rw [List.getElem?_map, List.getElem?_eq_getElem h2, List.getD_eq_getElem?_getD, List.getElem?_eq_getElem h2]
    rfl)
  rw [Int.toNat_of_nonneg h] at z
  exact z
/-! ### the law itself -/
def spLawX (G : Gx) : Sp := fun vs H Q _ => ∃ (a : Addr) (ns : List Int), vs = [.ref a] ∧ SqL G.K H a (ns.map .int) ∧ G.Am H ∧ ∀ H', Q (.bl true) H'
/-- the slots when the row of draws stands at i -/
def env0 (n i : Nat) : Ev := (List.replicate n none).set i (some (.ref 0))
def True9 (r : Fl × Sto) : Prop := r.1 = .rt (.bl true)
theorem law_end {G : Gx} {T : List Addr} {E : XK} (M : AmX G T) {t : TS} {ms : SM} (hm : ExS G E t ms) {H : Hp} {Q : VK} {a r : Addr} {ns : List Int} {seed : Int} {n i : Nat} {σ : L2.St} {nx : L2.St → Hp → Prop} (hs : SqL G.K H a (ns.map .int)) (hA : G.Am H) (q : ∀ H', Q (.bl true) H') (hr : H r = none) (hl : σ.length = n)
    (hi : σ[i]? = some (some (.ref r))) (hold : (ms (env0 n i) [.dr]).holds True9 fun _ _ => False) : t { nx := nx, rt := Q } σ (upd H r (.lst [.ref a, .int 0, .int seed, .int 0])) := by
  have hA1 : G.Am (upd H r (.lst [.ref a, .int 0, .int seed, .int 0])) := M.same hA fun b o e _ => by rw [upd_ne (ne_of_none e hr)]; exact e
  have sc : ScrAt G.K (upd H r (.lst [.ref a, .int 0, .int seed, .int 0])) [r] a (ns.map .int) := by
    rcases hs with (h | ⟨o, h⟩) | h
    · have ne := ne_of_none h hr
      exact .inl ⟨.inl (by rw [upd_ne ne]; exact h), by simpa using ne⟩
    · have ne := ne_of_none h hr
      exact .inl ⟨.inr ⟨o, by rw [upd_ne ne]; exact h⟩, by simpa using ne⟩
    · exact .inr h
  have R : Rl G [r] (upd H r (.lst [.ref a, .int 0, .int seed, .int 0])) [.dr] := by
    refine ⟨hA1, rfl, by simp, fun m o b h1 h2 => ?_⟩
    match m, h1, h2 with
    | 0, h1, h2 =>
      cases h1
      cases h2
      exact ⟨a, ns, 0, seed, 0, upd_same, sc, Int.le_refl _⟩
    | m + 1, h1, h2 => cases h2
  have Ev : EnvR G [r] (upd H r (.lst [.ref a, .int 0, .int seed, .int 0])) (env0 n i) σ := by
    refine ⟨by unfold env0; simp [hl], fun j b e => ?_⟩
    unfold env0 at e
    by_cases z : i = j
    · subst z
      by_cases hn : i < n
      · rw [List.getElem?_set_self (by simpa using hn)] at e
        cases e
        exact ⟨_, hi, by unfold Im; exact ⟨r, rfl, rfl⟩⟩
      · rw [List.getElem?_eq_none (by simp; omega)] at e
        cases e
    · rw [List.getElem?_set_ne z, List.getElem?_replicate] at e
      split at e <;> cases e
  refine hm [r] _ [.dr] σ _ _ R Ev (holds_mono (fun z hz => ?_) (fun _ _ f => f.elim) hold)
  obtain ⟨fl, s⟩ := z
  intro ι' H' f' R'
  cases (show fl = .rt (.bl true) from hz)
  exact fun v iv => by
    rw [im_bl' iv]
    exact q H'
theorem law_end2 {G : Gx} {T : List Addr} {E : XK} (M : AmX G T) {t : TS} {ms : SM} (hm : ExS G E t ms) {H : Hp} {Q : VK} {a r : Addr} {ns : List Int} {seed : Int} {n i : Nat} {N : List Str} {nx : L2.St → Hp → Prop} (hs : SqL G.K H a (ns.map .int)) (hA : G.Am H) (q : ∀ H', Q (.bl true) H') (hr : H r = none) (hN : N.length = n) (h1 : 1 ≤ n)
    (hi : i < n) (hold : (ms (env0 n i) [.dr]).holds True9 fun _ _ => False) : t { nx := nx, rt := Q } ((L2.start N [.ref a]).set i (some (.ref r))) (upd H r (.lst [.ref a, .int 0, .int seed, .int 0])) := by
  have hl : (L2.start N [.ref a]).length = n := by
    unfold L2.start
    simp [hN]
    omega
  exact law_end M hm hs hA q hr (by rw [List.length_set, hl]) (by rw [List.getElem?_set_self (by rw [hl]; exact hi)]) hold
end Mx

/-! ### MkDd -/
set_option Elab.async false
set_option linter.all false
set_option maxRecDepth 100000
set_option maxHeartbeats 4000000
namespace Mk
open PySem PySem.Spec PyProof.Rows L2
/-! ### {k: v for t in i if ..}, whatever the keys -/
/-- the new dict at D takes v under y -/
def CPut (K : PySem.W.Frag) (w : World) (H : Hp) (D : Addr) (y v : V) (H' : Hp) : Prop :=
  (∃ kvs k, y = kV k ∧ H D = some (.dK kvs) ∧ kvs.length < sizeLine ∧ H' = upd H D (.dK (putK kvs k v))) ∨
  ∃ xs k b, NdW w H D xs ∧ NdK K H xs ∧ y = .ref b ∧ NkV K H k (.ref b) ∧ k.depth ≤ 8 ∧ xs.length < sizeLine ∧ H' = upd H D (NdO w D (ndPut xs k b v))
theorem c_dset {X : Cx} {pins : List (Addr × Obj)} {σ : L2.St} {H H' : Hp} {s : Shared} {E : Value → Shared → Prop} {D : Addr} {y v : V} {u r : Value} {Q : Unit → Shared → Prop} (hu : X.A.units + 64 < cLine) (I : Inv X pins σ H s) (c : CPut X.K X.w H D y v H')
    (ry : RelV y u) (rv : RelV v r) (h : ∀ s', Inv X pins σ H' s' → Q () s') : wpAny (model X.prog X.w) X.A (dictSet D u r) Q E s := by
  rcases c with ⟨kvs, k, rfl, hD, hz, rfl⟩ | ⟨xs, k, b, w, hk, rfl, nk, dp, hl, rfl⟩
  · exact d_dictSet I hD hz ry rv h
  · cases (show u = Value.ref b from ry)
    obtain ⟨z, hs, ys, rel, dd⟩ := nd_dict I w.at hk
    refine wpAny_dictSet_heap (knd := nestedKind X.prog X.w) (hsz := by rw [← Paired.length rel]; exact z) (show X.A.units + 8 < cLine by omega) ⟨nk_is I nk rfl, dp⟩ dd fun h' dd' hsb => h _ ?_
    exact d_write I w.mut hsb (let ⟨q, _, _, hq, _⟩ := dd'; ⟨q, hq⟩) (nd_new hl hs rel rv dd')
/-- D the new dict; W says where the walk stands -/
def tXc (K : PySem.W.Frag) (w : World) (wi : TI) (g : TG) (tt : TT) (tk tv : TE) (vs : List Nat) : TE := fun σ H Q => wi σ H fun J H1 => ∀ D, H1 D = none → ∃ W : Nat → Nat → Hp → Prop, (∃ m, W 0 m (upd H1 D (.dK []))) ∧ ∀ i m H, W i m H →
  (J.stop i H ∧ Q (.ref D) H) ∨ (J.go i H ∧ ∃ Nx : Hp → Prop, (∀ H', Nx H' → ∃ m', m' < m ∧ W (i + 1) m' H') ∧ ∀ x H', J.yld i H x H' → g x (wipe σ vs) H' fun σ2 H2 => wipe σ2 vs = wipe σ vs ∧ tt σ2 H2 fun b H3 =>
    if b = true then tk σ2 H3 fun y H4 => tv σ2 H4 fun z H5 => ∃ H6, CPut K w H5 D y z H6 ∧ Nx H6 else Nx H3)
variable {X : Cx}
theorem xc_run {pins : List (Addr × Obj)} {s : Shared} {σ : L2.St} {H : Hp} {Q : VK} {kx vx tg iter : Expr} {ifs : List Expr} {scope : Scope} {own : List (Str × Nat)} {pos pos' : Pos} {wi : TI} {g : TG} {tt : TT} {tk tv : TE} {use : Option (Value → Sem Unit)} {Qf : Value → Shared → Prop}
    (hu : X.A.units + 64 < cLine) (calm : X.calm = true) (nd : X.N.Nodup) (I : Inv X pins σ H s) (hi : PI X tg iter wi) (ok : BlkOk X.N X.env.scope scope own)
    (hg : ∀ (s : Shared) (H : Hp) (C : Addr) (cl : List (Str × Addr)) (fp : List Addr), PG (X.blk s H scope (compEnvC scope cl C X.env) fp) tg g) (ht : ∀ (s : Shared) (H : Hp) (C : Addr) (cl : List (Str × Addr)) (fp : List Addr), PTs (X.blk s H scope (compEnvC scope cl C X.env) fp) ifs tt)
    (hk : ∀ (s : Shared) (H : Hp) (C : Addr) (cl : List (Str × Addr)) (fp : List Addr), PE (X.blk s H scope (compEnvC scope cl C X.env) fp) kx tk)
    (hv : ∀ (s : Shared) (H : Hp) (C : Addr) (cl : List (Str × Addr)) (fp : List Addr), PE (X.blk s H scope (compEnvC scope cl C X.env) fp) vx tv) (hs : ∀ x, foldedSetIterable iter X.env x = pure x)
    (h : tXc X.K X.w wi g tt tk tv (own.map (·.2)) σ H Q)
    (post : ∀ D C s' m H', Inv X pins σ H' s' → Q (.ref D) H' → s'.heap.Ns C m → FpOk X pins H' C → compPost (model X.prog X.w) X.A X.xe use Qf (.ref D) C (.ok .next) s') :
    wpAny (model X.prog X.w) X.A (comprehension (.DictComp kx vx [⟨tg, iter, ifs, 0⟩] scope pos) scope X.env pos' newDict false (eval iter X.env) use) Qf X.xe s := by
  have free : ∀ y ∈ scope.names, y.2 = .free → ∃ c, X.env.cells.lookup y.1 = some c := fun y hy e => (ok.free y hy e).elim (fun k => I.ok.has _ (.inl k)) fun k => I.ok.has _ (.inr k)
  refine wpAny_comprehension_free (use := use) rfl hs (closure_ok free) ok.kind (fun y hy e => by rw [ok.uniq y hy, e]) (thn (hi.run pins s σ H _ I h) fun xv s1 hx => thn hx fun itv s2 ⟨it, fp, tn, J, H2, e, I2, T, st2, f2, q⟩ => ?_)
  subst e
  refine wpAny_newObj_type (newEnv_comp ?_)
  have none2 : H2 s2.heap.objs.size = none := I2.hok.fresh (Nat.le_refl _)
  obtain ⟨W, ⟨m0, w0⟩, turn⟩ := q _ none2
  have big2 := I2.big
  -- the dict is laid
  have I3 : Inv X pins σ (upd H2 s2.heap.objs.size (.dK [])) { s2 with heap := s2.heap.push { cls := .type "dict", data := .dict #[] } } :=
    I2.laid (t' := s2.toks) (fun b o e => Heap.get?_push_of_some _ e) (Nat.le_refl _) (dk_empty s2.heap big2)
  have st3 : tn 0 (s2.heap.push { cls := .type "dict", data := .dict #[] }) := T.keep _ _ _ st2 fun b _ o e => Heap.get?_push_of_some _ e
  have f3 : ∀ b ∈ fp, FpOk X pins (upd H2 s2.heap.objs.size (.dK [])) b ∧ b < (s2.heap.push { cls := .type "dict", data := .dict #[] }).objs.size := fun b hb => by
    obtain ⟨o, e, _⟩ := T.obj _ _ st2 b hb
    have lt : b < s2.heap.objs.size := Heap.lt_size e
    exact ⟨⟨by rw [upd_ne (Nat.ne_of_lt lt)]; exact (f2 b hb).1, (f2 b hb).2⟩, by rw [Heap.size_push]; exact Nat.lt_succ_of_lt lt⟩
  generalize s2.heap.objs.size = D at *
  generalize hs3 : ({ s2 with heap := s2.heap.push { cls := .type "dict", data := .dict #[] } } : Shared) = s3 at I3 ⊢
  have h3 : s2.heap.push { cls := .type "dict", data := .dict #[] } = s3.heap := by rw [← hs3]
  rw [h3] at st3 f3
  generalize upd H2 D (.dK []) = H3 at *
  have I4 := block_start I3 ok nd f3
  have pg := hg s3 H3 s3.heap.objs.size (cellsFrom (s3.heap.objs.size + 1) scope.names (cloFrom X.env.cells scope.names [])) fp
  have pt := ht s3 H3 s3.heap.objs.size (cellsFrom (s3.heap.objs.size + 1) scope.names (cloFrom X.env.cells scope.names [])) fp
  have pk := hk s3 H3 s3.heap.objs.size (cellsFrom (s3.heap.objs.size + 1) scope.names (cloFrom X.env.cells scope.names [])) fp
  have pv := hv s3 H3 s3.heap.objs.size (cellsFrom (s3.heap.objs.size + 1) scope.names (cloFrom X.env.cells scope.names [])) fp
  show codeAny _ _ (.compStart (.DictComp kx vx [⟨tg, iter, ifs, 0⟩] scope pos) 0 (.ref it) (.ref D) (compEnvC scope (cellsFrom (s3.heap.objs.size + 1) scope.names (cloFrom X.env.cells scope.names [])) s3.heap.objs.size X.env)) (compPost (model X.prog X.w) X.A X.xe use Qf (.ref D) s3.heap.objs.size) _
  generalize hce : compEnvC scope (cellsFrom (s3.heap.objs.size + 1) scope.names (cloFrom X.env.cells scope.names [])) s3.heap.objs.size X.env = ce at I4 pg pt pk pv ⊢
  have cL : ce.locals = s3.heap.objs.size := by rw [← hce]; rfl
  have st4 : tn 0 (pushCells (s3.heap.push { cls := .type "dict", data := .dict #[] }) scope.names) := T.keep _ _ _ st3 fun b _ o e => pushCells_keeps _ _ _ _ (Heap.get?_push_of_some _ e)
  generalize hs4 : ({ s3 with heap := pushCells (s3.heap.push { cls := .type "dict", data := .dict #[] }) scope.names } : Shared) = s4 at I4 ⊢
  have h4 : pushCells (s3.heap.push { cls := .type "dict", data := .dict #[] }) scope.names = s4.heap := by rw [← hs4]
  rw [h4] at st4
  have foot : ∀ {σ' : L2.St} {H' : Hp} {s' : Shared}, Inv (X.blk s3 H3 scope ce fp) [] σ' H' s' → (∀ b ∈ fp, H' b = none) → ∀ b ∈ fp, FpOk (X.blk s3 H3 scope ce fp) [] H' b := fun {σ' H' s'} I' hn b hb =>
    ⟨hn b hb, (I'.ok.exf b hb).1, I'.ok.exfs b hb, .inl hb, fun x c e => (I'.ok.exf b hb).2 x c e, fun p hp => absurd (show p ∈ ([] : List (Addr × Obj)) ++ [] from hp) (by simp)⟩
  -- what holds before each turn
  have loop : codeAny (model X.prog X.w) X.A (.compLoop (.DictComp kx vx [⟨tg, iter, ifs, 0⟩] scope pos) 0 (.ref it) (.ref D) ce) (compPost (model X.prog X.w) X.A X.xe use Qf (.ref D) s3.heap.objs.size) s4 := by
    refine compLoop_anyD (fun n s' => ∃ i H', Inv (X.blk s3 H3 scope ce fp) [] (wipe σ (own.map (·.2))) H' s' ∧ tn i s'.heap ∧ (∀ b ∈ fp, H' b = none) ∧ W i n H') ?_ m0 ⟨0, H3, I4, st4, fun b hb => (f3 b hb).1.1, w0⟩
    rintro n s5 ⟨i, H5, I5, st5, n5, w5⟩
    rcases turn i n H5 w5 with ⟨stop, qq⟩ | ⟨go, Nx, hNx, step⟩
    · refine thnF (T.done (X.blk s3 H3 scope ce fp) rfl rfl rfl calm i [] s5 _ H5 (fun _ _ => False) I5 (foot I5 n5) st5 stop) fun r s6 ⟨hr, I6⟩ => ?_
      subst hr
      have nC : H5 s3.heap.objs.size = none := cL ▸ (show H5 ce.locals = none from I6.free)
      obtain ⟨m, hn, _⟩ := I6.loc
      have hn : s6.heap.Ns ce.locals m := hn
      rw [cL] at hn
      exact post D s3.heap.objs.size s6 m H5 (I3.call' (ch := fp) I6.os I6.base I6.hok I6.bare fun b hb => ⟨(f3 b hb).1.2.2.2.1, (f3 b hb).1.2.1, (f3 b hb).1.2.2.2.2.1, (f3 b hb).1.2.2.2.2.2⟩) qq hn (I3.fpOk (Nat.le_refl _) nC)
    · refine thnF (T.item (X.blk s3 H3 scope ce fp) rfl rfl rfl calm i [] s5 _ H5 (fun _ _ => False) I5 (foot I5 n5) st5 go) fun r s6 ⟨u, hr, h6⟩ => ?_
      subst hr
      refine thnF h6 fun _ s7 ⟨x, H7, I7, r7, y7, st7, n7⟩ => ?_
      refine thnF (pg.run _ s7 _ H7 x u _ (I7.pinned (foot I7 n7) (T.obj _ _ st7)) r7 (step x H7 y7)) fun _ s8 ⟨σ8, H8, I8, hw8, q8⟩ => thnF (pt.run _ s8 σ8 H8 _ I8 q8) fun b s9 ⟨H9, I9, q9⟩ => ?_
      have next : ∀ {s' : Shared} {H' : Hp}, Inv (X.blk s3 H3 scope ce fp) ([] ++ pinsAt fp s7.heap) σ8 H' s' → Nx H' → ∃ m, m < n ∧ ∃ i H', Inv (X.blk s3 H3 scope ce fp) [] (wipe σ (own.map (·.2))) H' s' ∧ tn i s'.heap ∧ (∀ b ∈ fp, H' b = none) ∧ W i m H' := fun {s' H'} I' nx => by
        obtain ⟨m', hm, w'⟩ := hNx H' nx
        have pin : ∀ b ∈ fp, ∀ o, s7.heap.get? b = some o → s'.heap.get? b = some o ∧ H' b = none := fun b hb o e => by
          have z := I'.pin (b, o) (List.mem_append_right _ (List.mem_append_right _ (mem_pinsAt hb e)))
          exact ⟨z.1, z.2.1⟩
        refine ⟨m', hm, i + 1, H', (I'.unpinned (pins := [])).weak (by rw [← hw8, wipe_length]) (fun j v e => ?_), T.keep _ _ _ st7 fun b hb o e => (pin b hb o e).1, fun b hb => ?_, w'⟩
        · rw [← hw8] at e
          exact (wipe_some e).1
        · obtain ⟨o, e, _⟩ := T.obj _ _ st7 b hb
          exact (pin b hb o e).2
      cases b with
      | false =>
        simp only [Bool.false_eq_true, if_false] at q9 ⊢
        exact next I9 q9
      | true =>
        simp only [if_true] at q9 ⊢
        refine thnF (pk.run _ s9 σ8 H9 _ I9 q9) fun z s10 ⟨yk, H10, I10, r10, q10⟩ => thnF (pv.run _ s10 σ8 H10 _ I10 q10) fun z2 s11 ⟨yv, H11, I11, r11, H12, c12, nx⟩ => ?_
        exact c_dset (X := X.blk s3 H3 scope ce fp) hu I11 c12 r10 r11 fun s12 I12 => next I12 nx
  exact codeAny_compStart_dict loop (T.self X.A 0 _ _ _ st4 loop)
theorem pe_xc {kx vx tg iter : Expr} {ifs : List Expr} {scope : Scope} {own : List (Str × Nat)} {pos : Pos} {wi : TI} {g : TG} {tt : TT} {tk tv : TE} (hu : X.A.units + 64 < cLine) (calm : X.calm = true) (nd : X.N.Nodup) (hi : PI X tg iter wi) (ok : BlkOk X.N X.env.scope scope own)
    (hg : ∀ (s : Shared) (H : Hp) (C : Addr) (cl : List (Str × Addr)) (fp : List Addr), PG (X.blk s H scope (compEnvC scope cl C X.env) fp) tg g) (ht : ∀ (s : Shared) (H : Hp) (C : Addr) (cl : List (Str × Addr)) (fp : List Addr), PTs (X.blk s H scope (compEnvC scope cl C X.env) fp) ifs tt)
    (hk : ∀ (s : Shared) (H : Hp) (C : Addr) (cl : List (Str × Addr)) (fp : List Addr), PE (X.blk s H scope (compEnvC scope cl C X.env) fp) kx tk)
    (hv : ∀ (s : Shared) (H : Hp) (C : Addr) (cl : List (Str × Addr)) (fp : List Addr), PE (X.blk s H scope (compEnvC scope cl C X.env) fp) vx tv) (hs : ∀ x, foldedSetIterable iter X.env x = pure x := by intro _; rfl) :
    PE X (.DictComp kx vx [⟨tg, iter, ifs, 0⟩] scope pos) (tXc X.K X.w wi g tt tk tv (own.map (·.2))) := by
  refine ⟨fun pins s σ H Q I h => ?_⟩
  rw [arm_eval_DictComp]
  refine xc_run hu calm nd I hi ok hg ht hk hv hs h fun D C s' m H' I' q hn ⟨f0, f1, f2, f3, f4, f5⟩ => ⟨m, hn, fun h'' sb => ?_⟩
  exact ⟨.ref D, H', I'.turned (t' := s'.toks) (fun b o hb e => (sb.2 b hb).trans e) f0 f1 f3 f4 f5, rfl, q⟩
end Mk

/-! ### MkZ1 -/
set_option Elab.async false
set_option linter.all false
set_option maxRecDepth 100000
set_option maxHeartbeats 4000000
/-! dicts: keys, look-up, store -/
namespace Mx
open PySem PySem.Spec PyProof.Rows L2
open GxR (TabG Tabbed)
/-! ### keys that are the same -/
mutual
def sameK : A → A → Bool
  | .non, .non => true
  | .int i, .int j => decide (i = j)
  | .int i, .bl c => decide (i = if c = true then 1 else 0)
  | .bl b, .int j => decide ((if b = true then 1 else 0) = j)
  | .bl b, .bl c => decide (b = c)
  | .str s, .str t => decide (s = t)
  | .tup l, .tup m => sameKs l m
  | _, _ => false
def sameKs : List A → List A → Bool
  | [], [] => true
  | a :: l, b :: m => sameK a b && sameKs l m
  | _, _ => false
end
theorem kA_str {s : Str} {k : NestedKey} (h : kA (.str s) = some k) : k = .text s := by unfold kA at h; cases h; rfl
theorem kA_ty {s : String} {k : NestedKey} (h : kA (.ty s) = some k) : False := by unfold kA at h; cases h
theorem kA_ref {n : Nat} {k : NestedKey} (h : kA (.ref n) = some k) : False := by unfold kA at h; cases h
theorem kA_non {k : NestedKey} (h : kA .non = some k) : k = .none := by unfold kA at h; cases h; rfl
theorem kA_int {i : Int} {k : NestedKey} (h : kA (.int i) = some k) : k = .num i := by unfold kA at h; cases h; rfl
theorem kA_bl {b : Bool} {k : NestedKey} (h : kA (.bl b) = some k) : k = .num (if b = true then 1 else 0) := by unfold kA at h; cases h; rfl
theorem kA_tup {l : List A} {k : NestedKey} (h : kA (.tup l) = some k) : ∃ ks, kAs l = some ks ∧ k = .tup ks := by
  unfold kA at h
  obtain ⟨ks, h1, h2⟩ := Option.map_eq_some_iff.mp h
  exact ⟨ks, h1, h2.symm⟩
theorem kAs_nil {ks : List NestedKey} (h : kAs [] = some ks) : ks = [] := by unfold kAs at h; cases h; rfl
theorem kAs_cons {a : A} {l : List A} {ks : List NestedKey} (h : kAs (a :: l) = some ks) : ∃ k js, kA a = some k ∧ kAs l = some js ∧ ks = k :: js := by
  unfold kAs at h
  split at h
  · rename_i k js h1 h2
    cases h
    exact ⟨k, js, h1, h2, rfl⟩
  · cases h
mutual
theorem sameK_n : ∀ (a b : A) {ka kb : NestedKey}, kA a = some ka → kA b = some kb → sameK a b = decide (ka = kb)
  | .str x, b, ka, kb, ha, hb => by
    rw [kA_str ha]
    cases b with
    | non => rw [kA_non hb]; unfold sameK; simp
    | int j => rw [kA_int hb]; unfold sameK; simp
    | bl c => rw [kA_bl hb]; unfold sameK; simp
    | tup m => obtain ⟨ks, _, rfl⟩ := kA_tup hb; unfold sameK; simp
    | str => rw [kA_str hb]; unfold sameK; simp
    | ty => exact (kA_ty hb).elim
    | ref => exact (kA_ref hb).elim
  | .ty _, _, _, _, ha, _ => (kA_ty ha).elim
  | .ref _, _, _, _, ha, _ => (kA_ref ha).elim
  | .non, b, ka, kb, ha, hb => by
    rw [kA_non ha]
    cases b with
    | non => rw [kA_non hb]; unfold sameK; simp
    | int j => rw [kA_int hb]; unfold sameK; simp
    | bl c => rw [kA_bl hb]; unfold sameK; simp
    | tup m => obtain ⟨ks, _, rfl⟩ := kA_tup hb; unfold sameK; simp
    | str => rw [kA_str hb]; unfold sameK; simp
    | ty => exact (kA_ty hb).elim
    | ref => exact (kA_ref hb).elim
  | .int i, b, ka, kb, ha, hb => by
    rw [kA_int ha]
    cases b with
    | non => rw [kA_non hb]; unfold sameK; simp
    | int j => rw [kA_int hb]; unfold sameK; simp
    | bl c => rw [kA_bl hb]; unfold sameK; simp
    | tup m => obtain ⟨ks, _, rfl⟩ := kA_tup hb; unfold sameK; simp
    | str => rw [kA_str hb]; unfold sameK; simp
    | ty => exact (kA_ty hb).elim
    | ref => exact (kA_ref hb).elim
  | .bl a, b, ka, kb, ha, hb => by
    rw [kA_bl ha]
    cases b with
    | non => rw [kA_non hb]; unfold sameK; simp
    | int j => rw [kA_int hb]; unfold sameK; simp
    | bl c => rw [kA_bl hb]; unfold sameK; cases a <;> cases c <;> simp
    | tup m => obtain ⟨ks, _, rfl⟩ := kA_tup hb; unfold sameK; simp
    | str => rw [kA_str hb]; unfold sameK; simp
    | ty => exact (kA_ty hb).elim
    | ref => exact (kA_ref hb).elim
  | .tup l, b, ka, kb, ha, hb => by
    obtain ⟨ks, h1, rfl⟩ := kA_tup ha
    cases b with
    | non => rw [kA_non hb]; unfold sameK; simp
    | int j => rw [kA_int hb]; unfold sameK; simp
    | bl c => rw [kA_bl hb]; unfold sameK; simp
    | tup m =>
      obtain ⟨js, h2, rfl⟩ := kA_tup hb
      have q := sameKs_n l m h1 h2
      unfold sameK
      rw [q]
      simp
    | str => rw [kA_str hb]; unfold sameK; simp
    | ty => exact (kA_ty hb).elim
    | ref => exact (kA_ref hb).elim
theorem sameKs_n : ∀ (a b : List A) {ka kb : List NestedKey}, kAs a = some ka → kAs b = some kb → sameKs a b = decide (ka = kb)
  | [], b, ka, kb, ha, hb => by
    rw [kAs_nil ha]
    cases b with
    | nil => rw [kAs_nil hb]; unfold sameKs; simp
    | cons c m => obtain ⟨k, js, _, _, rfl⟩ := kAs_cons hb; unfold sameKs; simp
  | a :: l, b, ka, kb, ha, hb => by
    obtain ⟨k1, ks, h1, h2, rfl⟩ := kAs_cons ha
    cases b with
    | nil => rw [kAs_nil hb]; unfold sameKs; simp
    | cons c m =>
      obtain ⟨k2, js, h3, h4, rfl⟩ := kAs_cons hb
      have p := sameK_n a c h1 h3
      have q := sameKs_n l m h2 h4
      unfold sameKs
      rw [p, q]
      by_cases z : k1 = k2
      · subst z; simp
      · simp [z]
end
theorem sameK_s {a b : A} {ka kb : Key} (ha : aK a = some ka) (hb : aK b = some kb) : sameK a b = decide (ka = kb) := by
  unfold aK at ha hb
  split at ha
  · cases ha
    split at hb
    · cases hb; unfold sameK; simp
    · cases hb; unfold sameK; simp
    · cases hb
  · cases ha
    split at hb
    · cases hb; unfold sameK; simp
    · cases hb; unfold sameK; simp
    · cases hb
  · cases ha
theorem kT_of {a : A} {k : NestedKey} (h : kT a = some k) : (∃ l, a = .tup l) ∧ kA a = some k ∧ k.depth ≤ 8 := by
  unfold kT at h
  split at h
  · rename_i l
    split at h
    · rename_i k' hk
      split at h
      · rename_i hd
        cases h
        exact ⟨⟨l, rfl⟩, hk, hd⟩
      · cases h
    · cases h
  · cases h
theorem aK_v {G : Gx} {H : Hp} {ι : List Addr} {a : A} {v : V} {k : Key} (h : aK a = some k) (im : Im G.K H ι a v) : v = kV k := by
  unfold aK at h
  split at h
  · cases h; rw [im_int' im]; rfl
  · cases h; rw [im_str' im]; rfl
  · cases h
theorem aK_im {G : Gx} {H : Hp} {ι : List Addr} {a : A} {k : Key} (h : aK a = some k) : Im G.K H ι a (kV k) := by
  unfold aK at h
  split at h
  · cases h; exact im_int
  · cases h; exact im_str
  · cases h
section
variable {G : Gx} {H : Hp} {ι : List Addr}
mutual
theorem nk_im : ∀ {a : A} {v : V} {k : NestedKey}, Im G.K H ι a v → kA a = some k → Mk.NkV G.K H k v
  | .str x, v, k, im, ha => by rw [kA_str ha, im_str' im]; exact .text x
  | .ty _, _, _, _, ha => (kA_ty ha).elim
  | .ref _, _, _, _, ha => (kA_ref ha).elim
  | .non, v, k, im, ha => by rw [kA_non ha, im_non' im]; exact .non
  | .int i, v, k, im, ha => by rw [kA_int ha, im_int' im]; exact .num i
  | .bl i, v, k, im, ha => by rw [kA_bl ha, im_bl' im]; exact .bl i
  | .tup l, v, k, im, ha => by
    obtain ⟨ks, h1, rfl⟩ := kA_tup ha
    obtain ⟨p, xs, rfl, hx, il⟩ := im_tup' im
    exact .tup hx (nk_imL il h1)
theorem nk_imL : ∀ {a : List A} {v : List V} {k : List NestedKey}, ImL G.K H ι a v → kAs a = some k → Mk.NkA G.K H k v
  | [], v, k, im, ha => by rw [kAs_nil ha, imL_nil' im]; exact .nil
  | a :: l, v, k, im, ha => by
    obtain ⟨k1, ks, h1, h2, rfl⟩ := kAs_cons ha
    obtain ⟨w, ws, rfl, i1, i2⟩ := imL_cons' im
    exact .cons (nk_im i1 h1) (nk_imL i2 h2)
end
/-! ### look-up -/
def aFind : List (A × A) → A → Option A
  | [], _ => none
  | p :: r, k => if sameK p.1 k = true then some p.2 else aFind r k
def aPut (kvs : List (A × A)) (k v : A) : List (A × A) := if (aFind kvs k).isSome = true then kvs.map (fun p => if sameK p.1 k = true then (p.1, v) else p) else kvs ++ [(k, v)]
theorem aPut_ne {kvs : List (A × A)} {k v : A} : aPut kvs k v ≠ [] := by
  unfold aPut
  split
  · rename_i h
    cases kvs with
    | nil => cases h
    | cons p r => exact fun z => by cases z
  · exact fun z => by simp at z
def RelF (K : PySem.W.Frag) (H : Hp) (ι : List Addr) : Option A → Option V → Prop
  | none, none => True
  | some d, some v => Im K H ι d v
  | _, _ => False
theorem RelF.some' {o : Option V} {d : A} (h : RelF G.K H ι (some d) o) : ∃ v, o = some v ∧ Im G.K H ι d v := by
  cases o with
  | some v => exact ⟨v, rfl, h⟩
  | none => exact False.elim h
theorem RelF.none' {o : Option V} (h : RelF G.K H ι none o) : o = none := by
  cases o with
  | some v => exact False.elim h
  | none => rfl
theorem RelF.isSome {o : Option V} {d : Option A} (h : RelF G.K H ι d o) : d.isSome = o.isSome := by
  cases d with
  | none => rw [h.none']; rfl
  | some d => obtain ⟨v, rfl, _⟩ := h.some'; rfl
theorem find_ks {k : A} {key : Key} (hk : aK k = some key) : ∀ {kvs : List (A × A)} {ks : List (Key × V)}, ImKs G.K H ι kvs ks → RelF G.K H ι (aFind kvs k) (valV ks key)
  | _, _, .nil => True.intro
  | _, _, .cons (a := p) (b := q) (l₁ := l) (l₂ := l2) h r => by
    have ih := find_ks hk r
    have z := sameK_s h.1 hk
    unfold aFind
    by_cases e : q.1 = key
    · rw [if_pos (by rw [z]; exact decide_eq_true e), valV_pos e]; exact h.2
    · rw [if_neg (by rw [z, decide_eq_false e]; exact fun y => by cases y), valV_neg e]; exact ih
theorem find_xs {k : A} {key : NestedKey} (hk : kA k = some key) : ∀ {kvs : List (A × A)} {xs : Mk.NdX}, ImXs G.K H ι kvs xs → RelF G.K H ι (aFind kvs k) (Mk.ndAt xs key)
  | _, _, .nil => True.intro
  | _, _, .cons (a := p) (b := q) (l₁ := l) (l₂ := l2) h r => by
    have ih := find_xs hk r
    have z := sameK_n _ _ (kT_of h.1).2.1 hk
    unfold aFind
    unfold Mk.ndAt at ih ⊢
    rw [List.find?_cons]
    by_cases e : q.1 = key
    · rw [if_pos (by rw [z]; exact decide_eq_true e), decide_eq_true e]; exact h.2.2
    · rw [if_neg (by rw [z, decide_eq_false e]; exact fun y => by cases y), decide_eq_false e]; exact ih
theorem putK_map {k : A} {key : Key} (hk : aK k = some key) {v : A} {w : V} (iv : Im G.K H ι v w) : ∀ {kvs : List (A × A)} {ks : List (Key × V)}, ImKs G.K H ι kvs ks →
    ImKs G.K H ι (kvs.map fun p => if sameK p.1 k = true then (p.1, v) else p) (ks.map fun kv => if kv.1 = key then (kv.1, w) else kv)
  | _, _, .nil => .nil
  | _, _, .cons (a := p) (b := q) h r => by
    refine .cons ?_ (putK_map hk iv r)
    have z := sameK_s h.1 hk
    dsimp only
    by_cases e : q.1 = key
    · rw [if_pos (by rw [z]; exact decide_eq_true e), if_pos e]; exact ⟨h.1, iv⟩
    · rw [if_neg (by rw [z, decide_eq_false e]; exact fun y => by cases y), if_neg e]; exact h
theorem putX_map {k : A} {key : NestedKey} (hk : kA k = some key) {v : A} {w : V} (iv : Im G.K H ι v w) : ∀ {kvs : List (A × A)} {xs : Mk.NdX}, ImXs G.K H ι kvs xs →
    ImXs G.K H ι (kvs.map fun p => if sameK p.1 k = true then (p.1, v) else p) (xs.map (Mk.ndPutAt key w))
  | _, _, .nil => .nil
  | _, _, .cons (a := p) (b := q) h r => by
    refine .cons ?_ (putX_map hk iv r)
    have z := sameK_n _ _ (kT_of h.1).2.1 hk
    unfold Mk.ndPutAt
    dsimp only
    by_cases e : q.1 = key
    · rw [if_pos (by rw [z]; exact decide_eq_true e), if_pos e]; exact ⟨h.1, h.2.1, iv⟩
    · rw [if_neg (by rw [z, decide_eq_false e]; exact fun y => by cases y), if_neg e]; exact h
theorem pair_app {α β : Type} {F : α → β → Prop} {a : α} {b : β} (h : F a b) : ∀ {l : List α} {m : List β}, Paired F l m → Paired F (l ++ [a]) (m ++ [b])
  | _, _, .nil => .cons h .nil
  | _, _, .cons k r => .cons k (pair_app h r)
theorem put_ks {kvs : List (A × A)} {ks : List (Key × V)} {k v : A} {key : Key} {w : V} (r : ImKs G.K H ι kvs ks) (hk : aK k = some key) (iv : Im G.K H ι v w) : ImKs G.K H ι (aPut kvs k v) (putK ks key w) := by
  have e : (aFind kvs k).isSome = (ks.any fun kv => decide (kv.1 = key)) := by rw [valV_any]; exact (find_ks hk r).isSome
  unfold aPut putK
  rw [e]
  split
  · exact putK_map hk iv r
  · exact pair_app ⟨hk, iv⟩ r
theorem put_xs {kvs : List (A × A)} {xs : Mk.NdX} {k v : A} {key : NestedKey} {b : Addr} {w : V} (r : ImXs G.K H ι kvs xs) (hk : kT k = some key) (ik : Im G.K H ι k (.ref b)) (iv : Im G.K H ι v w) : ImXs G.K H ι (aPut kvs k v) (Mk.ndPut xs key b w) := by
  have e : (aFind kvs k).isSome = (Mk.ndAt xs key).isSome := (find_xs (kT_of hk).2.1 r).isSome
  unfold aPut Mk.ndPut
  rw [e]
  split
  · exact putX_map (kT_of hk).2.1 iv r
  · exact pair_app ⟨hk, ik, iv⟩ r
theorem ndk_of {kvs : List (A × A)} {xs : Mk.NdX} (r : ImXs G.K H ι kvs xs) : Mk.NdK G.K H xs := by
  induction r with
  | nil => exact fun x hx => (nomatch hx)
  | cons h r ih =>
    intro x hx
    rcases List.mem_cons.mp hx with rfl | hx
    · exact ⟨nk_im h.2.1 (kT_of h.1).2.1, (kT_of h.1).2.2⟩
    · exact ih x hx
/-! ### a key for a dict -/
def isTup : A → Bool
  | .tup _ => true
  | _ => false
/-- some true: a scalar; some false: a tuple -/
def aKind (kvs : List (A × A)) (k : A) : Option Bool := match aK k with
  | some _ => match kvs with
    | [] => some true
    | p :: _ => if isTup p.1 = true then none else some true
  | none => match kT k with
    | some _ => match kvs with
      | [] => some false
      | p :: _ => if isTup p.1 = true then some false else none
    | none => none
theorem aK_tup {a : A} {k : Key} (h : aK a = some k) : isTup a = false := by
  unfold aK at h
  split at h
  · rfl
  · rfl
  · cases h
inductive KindIs (kvs : List (A × A)) (k : A) : Bool → Prop
  | s {key : Key} : aK k = some key → (∀ p r, kvs = p :: r → isTup p.1 = false) → KindIs kvs k true
  | t {key : NestedKey} : kT k = some key → (∀ p r, kvs = p :: r → isTup p.1 = true) → KindIs kvs k false
theorem kind_is {kvs : List (A × A)} {k : A} {b : Bool} (h : aKind kvs k = some b) : KindIs kvs k b := by
  unfold aKind at h
  split at h
  · rename_i key hk
    split at h
    · cases h; exact .s hk fun _ _ z => by cases z
    · rename_i p r
      split at h
      · cases h
      · rename_i z
        cases h
        refine .s hk fun p' r' e => ?_
        cases e
        cases hh : isTup p.1 with
        | true => exact absurd hh z
        | false => rfl
  · split at h
    · rename_i key hk
      split at h
      · cases h; exact .t hk fun _ _ z => by cases z
      · rename_i p r
        split at h
        · rename_i z
          cases h
          refine .t hk fun p' r' e => ?_
          cases e
          exact z
        · cases h
    · cases h
theorem dis_s {kvs : List (A × A)} {a : Addr} {u : HO} (d : DIs G.K G.w H ι kvs a u) (h : ∀ p r, kvs = p :: r → isTup p.1 = false) : ∃ ks, u = .dK ks ∧ ImKs G.K H ι kvs ks := by
  rcases d with d | ⟨ne, xs, rfl, d⟩
  · exact d
  · cases d with
    | nil => exact absurd rfl ne
    | cons q r =>
      have z := h _ _ rfl
      obtain ⟨⟨l, e⟩, _⟩ := kT_of q.1
      rw [e] at z
      cases z
theorem dis_t {kvs : List (A × A)} {a : Addr} {u : HO} (d : DIs G.K G.w H ι kvs a u) (h : ∀ p r, kvs = p :: r → isTup p.1 = true) : (kvs = [] ∧ u = .dK []) ∨ ∃ xs, u = Mk.NdO G.w a xs ∧ ImXs G.K H ι kvs xs := by
  rcases d with ⟨ks, rfl, d⟩ | ⟨ne, xs, rfl, d⟩
  · cases d with
    | nil => exact .inl ⟨rfl, rfl⟩
    | cons q r =>
      have z := h _ _ rfl
      rw [aK_tup q.1] at z
      cases z
  · exact .inr ⟨xs, rfl, d⟩
def aGet (kvs : List (A × A)) (k : A) : Option (Option A) := match aKind kvs k with
  | some _ => some (aFind kvs k)
  | none => none
theorem get_ok {kvs : List (A × A)} {a : Addr} {u : HO} {k : A} {y : V} {o : Option A} (d : DIs G.K G.w H ι kvs a u) (hR : Rd H a u) (im : Im G.K H ι k y) (e : aGet kvs k = some o) : ∃ w, Mk.XGet G.K G.w H a y w ∧ RelF G.K H ι o w := by
  unfold aGet at e
  split at e
  · rename_i b hb
    cases e
    cases kind_is hb with
    | @s key hk hp =>
      obtain ⟨ks, rfl, r⟩ := dis_s d hp
      exact ⟨_, .inl (.inl ⟨ks, _, hR, aK_v hk im, rfl⟩), find_ks hk r⟩
    | @t key hk hp =>
      obtain ⟨⟨l, rfl⟩, h2, h3⟩ := kT_of hk
      have nk := nk_im im h2
      obtain ⟨b, _, rfl, _⟩ := im_tup' im
      rcases dis_t d hp with ⟨rfl, rfl⟩ | ⟨xs, rfl, r⟩
      · exact ⟨_, .inr ⟨[], _, b, .inr ⟨rfl, hR⟩, (fun x hx => nomatch hx), rfl, nk, h3, rfl⟩, True.intro⟩
      · exact ⟨_, .inr ⟨xs, _, b, .inl hR, ndk_of r, rfl, nk, h3, rfl⟩, find_xs h2 r⟩
  · cases e
end
/-! ### dicts of the store -/
section
variable {G : Gx} {T : List Addr} {E : XK} {ι : List Addr} {H : Hp} {st : Sto}
theorem Rl.dct (R : Rl G ι H st) {n : Nat} {lk : Bool} {kvs : List (A × A)} {v : V} (h : st[n]? = some (.dct lk kvs)) (im : Im G.K H ι (.ref n) v) : ∃ a u, v = .ref a ∧ ι[n]? = some a ∧ DIs G.K G.w H ι kvs a u ∧ (if lk = true then ∃ o, H a = some (.frz o u) else H a = some u) ∧ Rd H a u := by
  obtain ⟨a, e, rfl⟩ := im_ref' im
  obtain ⟨u, d, q⟩ := R.ob n _ a h e
  refine ⟨a, u, rfl, e, d, q, ?_⟩
  cases lk with
  | true => obtain ⟨o, q⟩ := (show ∃ o, H a = some (.frz o u) from q); exact .inr ⟨o, q⟩
  | false => exact .inl q
def dGet (d k : A) (st : Sto) : Option (Option A) := match d with
  | .ref n => match st[n]? with
    | some (.dct _ kvs) => aGet kvs k
    | _ => none
  | _ => none
theorem dGet_ok (R : Rl G ι H st) {d k : A} {x y : V} {o : Option A} (id : Im G.K H ι d x) (ik : Im G.K H ι k y) (e : dGet d k st = some o) : ∃ a w, x = .ref a ∧ Mk.XGet G.K G.w H a y w ∧ RelF G.K H ι o w := by
  unfold dGet at e
  split at e
  · split at e
    · rename_i n _ lk kvs h
      obtain ⟨a, u, rfl, _, dd, _, hR⟩ := R.dct h id
      obtain ⟨w, g, r⟩ := get_ok dd hR ik e
      exact ⟨a, w, rfl, g, r⟩
    · cases e
  · cases e
def fDGet : F2 := fun d k st => match dGet d k st with
  | some (some v) => some (v, st)
  | _ => none
theorem ok_dget : Ok2 G (fun x y H Q => ∃ a v, x = .ref a ∧ Mk.XGet G.K G.w H a y (some v) ∧ Q v H) fDGet := fun ι st H d k x y c Q R id ik e q => by
  unfold fDGet at e
  split at e
  · rename_i v h
    cases e
    obtain ⟨a, w, rfl, g, r⟩ := dGet_ok R id ik h
    obtain ⟨u, rfl, iu⟩ := r.some'
    exact ⟨a, u, rfl, g, PE1.at q R iu⟩
  · cases e
def fDIn : F2 := fun k d st => (dGet d k st).map fun o => (.bl o.isSome, st)
def fDNotIn : F2 := fun k d st => (dGet d k st).map fun o => (.bl (!o.isSome), st)
theorem ok_din : Ok2 G (fun y x H Q => ∃ a o, x = .ref a ∧ Mk.XGet G.K G.w H a y o ∧ Q (.bl o.isSome) H) fDIn := fun ι st H k d y x c Q R ik id e q => by
  unfold fDIn at e
  obtain ⟨o, h, rfl⟩ := Option.map_eq_some_iff.mp e
  obtain ⟨a, w, rfl, g, r⟩ := dGet_ok R id ik h
  exact ⟨a, w, rfl, g, by rw [← r.isSome]; exact PE1.at q R im_bl⟩
theorem ok_dnotin : Ok2 G (fun y x H Q => ∃ a o, x = .ref a ∧ Mk.XGet G.K G.w H a y o ∧ Q (.bl (!o.isSome)) H) fDNotIn := fun ι st H k d y x c Q R ik id e q => by
  unfold fDNotIn at e
  obtain ⟨o, h, rfl⟩ := Option.map_eq_some_iff.mp e
  obtain ⟨a, w, rfl, g, r⟩ := dGet_ok R id ik h
  exact ⟨a, w, rfl, g, by rw [← r.isSome]; exact PE1.at q R im_bl⟩
variable {td ty tv : TE} {md mk mv : EM}
theorem ex_dget (hd : Ex G E td md) (hk : Ex G E ty mk) : Ex G E (Mk.tXGet G.K G.w td ty) (m2 fDGet md mk) := ex_2 ok_dget hd hk
theorem ex_din (hk : Ex G E ty mk) (hd : Ex G E td md) : Ex G E (Mk.tXIn G.K G.w ty td) (m2 fDIn mk md) := ex_2 ok_din hk hd
theorem ex_dnotin (hk : Ex G E ty mk) (hd : Ex G E td md) : Ex G E (Mk.tXNotIn G.K G.w ty td) (m2 fDNotIn mk md) := ex_2 ok_dnotin hk hd
def fLenD : FL := fun l st => match l with
  | [.ref n] => match st[n]? with
    | some (.dct _ kvs) => some (.int kvs.length, st)
    | _ => none
  | _ => none
theorem ok_lenD : OkL G Mk.rLenX fLenD := fun ι st H as xs c Q R im e q => by
  unfold fLenD at e
  split at e
  · split at e
    · rename_i n _ lk kvs h
      cases e
      obtain ⟨v, rfl, i1⟩ := imL_1 im
      obtain ⟨a, u, rfl, _, dd, _, hR⟩ := R.dct h i1
      refine ⟨a, rfl, ?_⟩
      rcases dd with ⟨ks, rfl, r⟩ | ⟨_, xs, rfl, r⟩
      · exact .inl ⟨ks, hR, by rw [← Paired.length r]; exact PE1.at q R im_int⟩
      · exact .inr ⟨_, xs, hR, by rw [← Paired.length r]; exact PE1.at q R im_int⟩
    · cases e
  · cases e
/-! put -/
def putO (d k v : A) (st : Sto) : Option Sto := match d with
  | .ref n => match st[n]? with
    | some (.dct false kvs) => match aKind kvs k with
      | some _ => if kvs.length < 100000 then some (st.set n (.dct false (aPut kvs k v))) else none
      | none => none
    | _ => none
  | _ => none
theorem sizeLt {n : Nat} (h : n < 100000) : n < sizeLine := by rw [sizeLine_eq]; omega
theorem putO_ok (M : AmX G T) (R : Rl G ι H st) {d k v : A} {x y w : V} {st' : Sto} (id : Im G.K H ι d x) (ik : Im G.K H ι k y) (iv : Im G.K H ι v w) (e : putO d k v st = some st') : ∃ a H', x = .ref a ∧ Mk.CPut G.K G.w H a y w H' ∧ Fr ι H ι H' ∧ Rl G ι H' st' := by
  unfold putO at e
  split at e
  · split at e
    · rename_i n _ kvs h
      split at e
      · rename_i b hb
        split at e
        · rename_i hz
          cases e
          obtain ⟨a, u, rfl, hn, dd, q, _⟩ := R.dct h id
          have q : H a = some u := q
          cases kind_is hb with
          | @s key hk hp =>
            obtain ⟨ks, rfl, r⟩ := dis_s dd hp
            have nf : ∀ ob u', H a ≠ some (.frz ob u') := fun ob u' z => by rw [q] at z; cases z
            have f : Fr ι H ι (upd H a (.dK (putK ks key w))) := Fr.set (List.mem_of_getElem? hn) nf
            refine ⟨a, _, rfl, .inl ⟨ks, _, aK_v hk ik, q, by rw [← Paired.length r]; exact sizeLt hz, rfl⟩, f, R.set M hn nf ⟨_, .inl ⟨_, rfl, ?_⟩, upd_same⟩⟩
            exact Paired.mapP (put_ks r hk iv) fun _ _ z => ⟨z.1, R.im f z.2⟩
          | @t key hk hp =>
            obtain ⟨⟨l, rfl⟩, h2, h3⟩ := kT_of hk
            have nk := nk_im ik h2
            obtain ⟨b, _, rfl, _⟩ := im_tup' ik
            have kk : ∀ xs, (Mk.NdW G.w H a xs) → ImXs G.K H ι kvs xs → (∀ ob u', H a ≠ some (.frz ob u')) → ∃ a_1 H', V.ref a = .ref a_1 ∧ Mk.CPut G.K G.w H a_1 (.ref b) w H' ∧ Fr ι H ι H' ∧ Rl G ι H' (st.set n (.dct false (aPut kvs (.tup l) v))) := fun xs hw r nf => by
              have f : Fr ι H ι (upd H a (Mk.NdO G.w a (Mk.ndPut xs key b w))) := Fr.set (List.mem_of_getElem? hn) nf
              refine ⟨a, _, rfl, .inr ⟨xs, _, b, hw, ndk_of r, rfl, nk, h3, by rw [← Paired.length r]; exact sizeLt hz, rfl⟩, f, R.set M hn nf ⟨_, .inr ⟨aPut_ne, _, rfl, ?_⟩, upd_same⟩⟩
              exact Paired.mapP (put_xs r hk ik iv) fun _ _ z => ⟨z.1, R.im f z.2.1, R.im f z.2.2⟩
            rcases dis_t dd hp with ⟨e0, rfl⟩ | ⟨xs, rfl, r⟩
            · exact kk [] (.inr ⟨rfl, q⟩) (by rw [e0]; exact .nil) fun ob u' z => by rw [q] at z; cases z
            · exact kk xs (.inl q) r fun ob u' z => by rw [q] at z; cases z
        · cases e
      · cases e
    · cases e
  · cases e
theorem cput_xput {K : PySem.W.Frag} {w : World} {H H' : Hp} {a : Addr} {y v : V} (c : Mk.CPut K w H a y v H') : Mk.XPut K w H a y v H' := by
  rcases c with ⟨kvs, k, e, hD, hz, eH⟩ | c
  · exact .inl (.inl ⟨kvs, k, hD, e, hz, eH⟩)
  · exact .inr c
def mDPut (md mk mv : EM) : SM := fun env st => (mv env st).bind fun v => (md env v.2).bind fun d => (mk env d.2).bind fun k => (ofO (putO d.1 k.1 v.1 k.2)).bind fun s => .ok (.nx env, s)
theorem exs_dput (M : AmX G T) (hd : Ex G E td md) (hk : Ex G E ty mk) (hv : Ex G E tv mv) : ExS G E (Mk.sXPut G.K G.w td ty tv) (mDPut md mk mv) := fun ι env st σ H D R Ev h => by
  refine hv.run R Ev h fun ι1 H1 v s1 w f1 R1 Ev1 iv h1 => ?_
  refine hd.run R1 Ev1 h1 fun ι2 H2 d s2 x f2 R2 Ev2 id h2 => ?_
  refine hk.run R2 Ev2 h2 fun ι3 H3 k s3 y f3 R3 Ev3 ik h3 => ?_
  obtain ⟨s4, e, q⟩ := ofO_holds (holds_bind h3)
  obtain ⟨a, H4, rfl, c, f4, R4⟩ := putO_ok M R3 (R2.im f3 id) ik (R2.im f3 (R1.im f2 iv)) e
  exact ⟨a, H4, rfl, cput_xput c, (show PS1 G ι H D (.nx env, s4) from q) _ _ (((f1.trans f2).trans f3).trans f4) R4 σ (R3.env f4 Ev3)⟩
def mSetd (md mk mv : EM) : EM := fun env st => (md env st).bind fun d => match d.1 with
  | .ref n => match d.2[n]? with
    | some (.dct _ _) => (mk env d.2).bind fun k => (mv env k.2).bind fun v => match v.2[n]? with
      | some (.dct false kvs) => match aKind kvs k.1 with
        | some _ => if kvs.length < 100000 then match aFind kvs k.1 with
            | some w => .ok (w, v.2)
            | none => .ok (v.1, v.2.set n (.dct false (aPut kvs k.1 v.1)))
          else .fail
        | none => .fail
      | _ => .fail
    | _ => .fail
  | _ => .fail
theorem ex_setd (M : AmX G T) (hd : Ex G E td md) (hk : Ex G E ty mk) (hv : Ex G E tv mv) : Ex G E (Mk.tXSetd G.K G.w td ty tv) (mSetd md mk mv) := fun ι env st σ H Q R Ev h => by
  refine hd.run R Ev h fun ι1 H1 d s1 x f1 R1 Ev1 id h1 => ?_
  dsimp only at h1
  split at h1
  · rename_i n
    split at h1
    · rename_i lk kvs0 h0
      obtain ⟨a, u0, rfl, hn, dd0, q0, hR0⟩ := R1.dct h0 id
      refine ⟨a, rfl, ?_, ?_⟩
      · rcases dd0 with ⟨ks, rfl, _⟩ | ⟨_, xs, rfl, _⟩
        · exact .inl (.inl ⟨ks, hR0⟩)
        · exact .inr ⟨_, xs, hR0⟩
      refine hk.run R1 Ev1 h1 fun ι2 H2 k s2 y f2 R2 Ev2 ik h2 => ?_
      refine hv.run R2 Ev2 h2 fun ι3 H3 v s3 w f3 R3 Ev3 iv h3 => ?_
      dsimp only at h3
      split at h3
      · rename_i kvs hs3
        split at h3
        · rename_i b hb
          split at h3
          · rename_i hz
            have id3 := R2.im f3 (R1.im f2 id)
            have ik3 := R2.im f3 ik
            have fT := (f1.trans f2).trans f3
            obtain ⟨a', u, ea, hn3, dd, q, hR⟩ := R3.dct hs3 id3
            cases ea
            have q : H3 a = some u := q
            cases kind_is hb with
            | @s key hk hp =>
              obtain ⟨ks, rfl, r⟩ := dis_s dd hp
              have rf := find_ks hk r
              refine .inl ⟨ks, _, q, aK_v hk ik3, by rw [← Paired.length r]; exact sizeLt hz, fun v' e' => ?_, fun e' => ?_⟩
              · rw [e'] at rf
                cases hf : aFind kvs k with
                | none => rw [hf] at rf; exact rf.elim
                | some w' =>
                  rw [hf] at rf h3
                  exact (show PE1 G ι H Q (w', s3) from h3) _ _ _ fT R3 rf
              · rw [e'] at rf
                cases hf : aFind kvs k with
                | some w' => rw [hf] at rf; exact rf.elim
                | none =>
                  rw [hf] at h3
                  have nf : ∀ ob u', H3 a ≠ some (.frz ob u') := fun ob u' z => by rw [q] at z; cases z
                  have f : Fr ι3 H3 ι3 (upd H3 a (.dK (putK ks key w))) := Fr.set (List.mem_of_getElem? hn3) nf
                  refine (show PE1 G ι H Q (v, s3.set n (.dct false (aPut kvs k v))) from h3) _ _ _ (fT.trans f) (R3.set M hn3 nf ⟨_, .inl ⟨_, rfl, ?_⟩, upd_same⟩) (R3.im f iv)
                  exact Paired.mapP (put_ks r hk iv) fun _ _ z => ⟨z.1, R3.im f z.2⟩
            | @t key hk hp =>
              obtain ⟨⟨l, rfl⟩, h2', h3'⟩ := kT_of hk
              have nk := nk_im ik3 h2'
              obtain ⟨b, _, rfl, _⟩ := im_tup' ik3
              have kk : ∀ xs, (Mk.NdW G.w H3 a xs) → ImXs G.K H3 ι3 kvs xs → (∀ ob u', H3 a ≠ some (.frz ob u')) → (∃ (kvs : List (Key × V)) (k : Key), H3 a = some (.dK kvs) ∧ V.ref b = kV k ∧ kvs.length < sizeLine ∧ (∀ v, valV kvs k = some v → Q v H3) ∧ (valV kvs k = none → Q w (upd H3 a (.dK (putK kvs k w))))) ∨ ∃ xs k b', Mk.NdW G.w H3 a xs ∧ Mk.NdK G.K H3 xs ∧ V.ref b = .ref b' ∧ Mk.NkV G.K H3 k (.ref b') ∧ k.depth ≤ 8 ∧ xs.length < sizeLine ∧ (∀ v, Mk.ndAt xs k = some v → Q v H3) ∧ (Mk.ndAt xs k = none → Q w (upd H3 a (Mk.NdO G.w a (Mk.ndPut xs k b' w)))) := fun xs hw r nf => by
                have rf := find_xs h2' r
                refine .inr ⟨xs, key, b, hw, ndk_of r, rfl, nk, h3', by rw [← Paired.length r]; exact sizeLt hz, fun v' e' => ?_, fun e' => ?_⟩
                · rw [e'] at rf
                  cases hf : aFind kvs (.tup l) with
                  | none => rw [hf] at rf; exact rf.elim
                  | some w' =>
                    rw [hf] at rf h3
                    exact (show PE1 G ι H Q (w', s3) from h3) _ _ _ fT R3 rf
                · rw [e'] at rf
                  cases hf : aFind kvs (.tup l) with
                  | some w' => rw [hf] at rf; exact rf.elim
                  | none =>
                    rw [hf] at h3
                    have f : Fr ι3 H3 ι3 (upd H3 a (Mk.NdO G.w a (Mk.ndPut xs key b w))) := Fr.set (List.mem_of_getElem? hn3) nf
                    refine (show PE1 G ι H Q (v, s3.set n (.dct false (aPut kvs (.tup l) v))) from h3) _ _ _ (fT.trans f) (R3.set M hn3 nf ⟨_, .inr ⟨aPut_ne, _, rfl, ?_⟩, upd_same⟩) (R3.im f iv)
                    exact Paired.mapP (put_xs r hk ik3 iv) fun _ _ z => ⟨z.1, R3.im f z.2.1, R3.im f z.2.2⟩
              rcases dis_t dd hp with ⟨e0, rfl⟩ | ⟨xs, rfl, r⟩
              · exact kk [] (.inr ⟨rfl, q⟩) (by rw [e0]; exact .nil) fun ob u' z => by rw [q] at z; cases z
              · exact kk xs (.inl q) r fun ob u' z => by rw [q] at z; cases z
          · exact h3.elim
        · exact h3.elim
      · exact h3.elim
    · exact h1.elim
  · exact h1.elim
end
end Mx

/-! ### MkZ2 -/
set_option Elab.async false
set_option linter.all false
set_option maxRecDepth 100000
set_option maxHeartbeats 4000000
/-! dicts: new ones, displays, locks, walks, comprehensions -/
namespace Mx
open PySem PySem.Spec PyProof.Rows L2
open GxR (TabG Tabbed)
section
variable {G : Gx} {T : List Addr} {E : XK} {ι : List Addr} {H : Hp} {st : Sto}
/-- a new object -/
theorem PE1.obj (M : AmX G T) {Q : VK} {o : HO} {ob : Ob} (R : Rl G ι H st) {p : Addr} (hp : H p = none) (io : ImO G (upd H p o) (ι ++ [p]) ob p) (h : PE1 G ι H Q (.ref st.length, st ++ [ob])) : Q (.ref p) (upd H p o) :=
  h _ _ _ (Fr.obj hp) (R.obj M hp io) (by unfold Im; exact ⟨p, by rw [← R.len, List.getElem?_append_right (Nat.le_refl _), Nat.sub_self]; rfl, rfl⟩)
theorem imo_dct0 {a : Addr} (h : H a = some (.dK [])) : ImO G H ι (.dct false []) a := ⟨_, .inl ⟨[], rfl, .nil⟩, h⟩
def mDct0 : EM := fun _ st => .ok (.ref st.length, st ++ [.dct false []])
theorem ex_dct0 (M : AmX G T) : Ex G E tDNewK mDct0 := fun ι env st σ H Q R Ev h p hp => PE1.obj M R hp (imo_dct0 upd_same) h
/-! displays with scalar keys -/
def mPairs : List (EM × EM) → Ev → Sto → R (List (A × A) × Sto)
  | [], _, st => .ok ([], st)
  | p :: r, env, st => (p.1 env st).bind fun k => (p.2 env k.2).bind fun v => (mPairs r env v.2).bind fun l => .ok ((k.1, v.1) :: l.1, l.2)
inductive ExPs (G : Gx) (E : XK) : List (TE × TE) → List (EM × EM) → Prop
  | nil : ExPs G E [] []
  | cons {tk tv : TE} {mk mv : EM} {ts : List (TE × TE)} {ms : List (EM × EM)} : Ex G E tk mk → Ex G E tv mv → ExPs G E ts ms → ExPs G E ((tk, tv) :: ts) ((mk, mv) :: ms)
abbrev ImP2 (K : PySem.W.Frag) (H : Hp) (ι : List Addr) : List (A × A) → List (V × V) → Prop := Paired fun p q => Im K H ι p.1 q.1 ∧ Im K H ι p.2 q.2
theorem ex_pairs {ts : List (TE × TE)} {ms : List (EM × EM)} (x : ExPs G E ts ms) : ∀ {ι : List Addr} {env : Ev} {st : Sto} {σ : L2.St} {H : Hp} {Q : List (V × V) → Hp → Prop}, Rl G ι H st → EnvR G ι H env σ →
    (mPairs ms env st).holds (fun r => ∀ ι' H' ps, Fr ι H ι' H' → Rl G ι' H' r.2 → ImP2 G.K H' ι' r.1 ps → Q ps H') (PXx G ι H E) → tPairs ts σ H Q := by
  induction x with
  | nil => exact fun {ι env st σ H Q} R Ev h => h ι H [] (Fr.refl _ _) R .nil
  | cons hk hv hr ih =>
    intro ι env st σ H Q R Ev h
    refine hk.run R Ev h fun ι1 H1 k s1 x f1 R1 Ev1 ik h1 => ?_
    refine hv.run R1 Ev1 h1 fun ι2 H2 v s2 y f2 R2 Ev2 iv h2 => ?_
    refine ih R2 Ev2 (holds_mono (fun r h3 => ?_) (fun _ _ z => z) (holds_bind h2))
    intro ι3 H3 ps f3 R3 ip
    exact (show ∀ ι' H' ps, Fr ι H ι' H' → Rl G ι' H' r.2 → ImP2 G.K H' ι' ((k, v) :: r.1) ps → Q ps H' from h3) _ _ _ ((f1.trans f2).trans f3) R3 (.cons ⟨R2.im f3 (R1.im f2 ik), R2.im f3 iv⟩ ip)
def allS (l : List (A × A)) : Bool := l.all fun p => (aK p.1).isSome
def mergeA (kvs l : List (A × A)) : List (A × A) := l.foldl (fun acc p => aPut acc p.1 p.2) kvs
theorem merge_ks {l : List (A × A)} {ls : List (Key × V)} (h : ImKs G.K H ι l ls) : ∀ {kvs : List (A × A)} {ks : List (Key × V)}, ImKs G.K H ι kvs ks → ImKs G.K H ι (mergeA kvs l) (mergeK ks ls) := by
  induction h with
  | nil => exact fun r => r
  | cons h r ih => exact fun q => ih (put_ks q h.1 h.2)
theorem pairs_ks : ∀ {l : List (A × A)} {ps : List (V × V)}, ImP2 G.K H ι l ps → allS l = true → ∃ ls : List (Key × V), ps = ls.map (fun kv => (kV kv.1, kv.2)) ∧ ImKs G.K H ι l ls
  | _, _, .nil, _ => ⟨[], rfl, .nil⟩
  | _, _, .cons (a := p) (b := q) (l₁ := l) h r, e => by
    have e : ((aK p.1).isSome && allS l) = true := e
    rw [Bool.and_eq_true] at e
    obtain ⟨ls, rfl, r'⟩ := pairs_ks r e.2
    obtain ⟨k, hk⟩ := Option.isSome_iff_exists.mp e.1
    refine ⟨(k, q.2) :: ls, ?_, .cons ⟨hk, h.2⟩ r'⟩
    rw [List.map_cons, ← aK_v hk h.1]
def mDisp (ms : List (EM × EM)) : EM := fun env st => (mPairs ms env (st ++ [.dct false []])).bind fun l => match l.2[st.length]? with
  | some (.dct false []) => if l.1.length ≤ 15 ∧ allS l.1 = true then .ok (.ref st.length, l.2.set st.length (.dct false (mergeA [] l.1))) else .fail
  | _ => .fail
theorem ex_disp (M : AmX G T) {ts : List (TE × TE)} {ms : List (EM × EM)} (x : ExPs G E ts ms) : Ex G E (tDisp ts) (mDisp ms) := fun ι env st σ H Q R Ev h p hp => by
  have f0 : Fr ι H (ι ++ [p]) (upd H p (.dK [])) := Fr.obj hp
  have R0 : Rl G (ι ++ [p]) (upd H p (.dK [])) (st ++ [.dct false []]) := R.obj M hp (imo_dct0 upd_same)
  have hn0 : (ι ++ [p])[st.length]? = some p := by rw [← R.len, List.getElem?_append_right (Nat.le_refl _), Nat.sub_self]; rfl
  refine ex_pairs x R0 (R.env f0 Ev) (holds_mono (fun r h1 => ?_) (fun _ _ z => PXx.sh f0 z) (holds_bind h))
  intro ι1 H1 ps f1 R1 ip
  have hn : ι1[st.length]? = some p := by
    obtain ⟨z, rfl⟩ := f1.pre
    rw [List.getElem?_append_left (List.getElem?_eq_some_iff.mp hn0).1]
    exact hn0
  try dsimp only at h1
  split at h1
  · rename_i hs
    split at h1
    · rename_i hc
      obtain ⟨a, u, ea, _, dd, q, _⟩ := R1.dct hs (im_ref hn)
      cases ea
      have q : H1 p = some u := q
      obtain ⟨ks, rfl, r⟩ := dis_s dd fun _ _ z => by cases z
      cases r
      obtain ⟨ls, rfl, il⟩ := pairs_ks ip hc.2
      refine ⟨q, ls, rfl, by rw [← Paired.length il]; exact hc.1, ?_⟩
      have nf : ∀ ob u', H1 p ≠ some (.frz ob u') := fun ob u' z => by rw [q] at z; cases z
      have f : Fr ι1 H1 ι1 (upd H1 p (.dK (mergeK [] ls))) := Fr.set (List.mem_of_getElem? hn) nf
      refine (show PE1 G ι H Q (.ref st.length, r.2.set st.length (.dct false (mergeA [] r.1))) from h1) _ _ _ ((f0.trans f1).trans f) (R1.set M hn nf ⟨_, .inl ⟨_, rfl, ?_⟩, upd_same⟩) (im_ref hn)
      exact Paired.mapP (merge_ks il .nil) fun _ _ z => ⟨z.1, R1.im f z.2⟩
    · exact h1.elim
  · exact h1.elim
/-! ### locks -/
theorem ImO.same {H H' : Hp} {ι : List Addr} (t : ∀ b xs, SqT G.K H b xs → SqT G.K H' b xs) (k : ∀ b xs, Rd H b (.lst xs) → b ∉ ι → Rd H' b (.lst xs)) {o : Ob} {a : Addr} (e : H' a = H a) (h : ImO G H ι o a) : ImO G H' ι o a := by
  cases o with
  | lst l =>
    obtain ⟨xs, h1, h2⟩ := h
    exact ⟨xs, e.trans h1, ImL.mono (List.prefix_refl _) t h2⟩
  | ins c fs =>
    obtain ⟨dx, vs, h1, h2⟩ := h
    exact ⟨dx, vs, e.trans h1, ImF.mono (List.prefix_refl _) t h2⟩
  | dr =>
    obtain ⟨sa, ns, i, x, y, h1, h2, h3⟩ := h
    refine ⟨sa, ns, i, x, y, e.trans h1, ?_, h3⟩
    rcases h2 with ⟨h, n⟩ | h
    · exact .inl ⟨k _ _ h n, n⟩
    · exact .inr h
  | rng lo hi => exact e.trans h
  | dct lk kvs =>
    obtain ⟨u, d, q⟩ := h
    refine ⟨u, ?_, ?_⟩
    · rcases d with ⟨ks, rfl, d⟩ | ⟨ne, xs, rfl, d⟩
      · exact .inl ⟨ks, rfl, Paired.mapP d fun _ _ z => ⟨z.1, Im.mono (List.prefix_refl _) t z.2⟩⟩
      · exact .inr ⟨ne, xs, rfl, Paired.mapP d fun _ _ z => ⟨z.1, Im.mono (List.prefix_refl _) t z.2.1, Im.mono (List.prefix_refl _) t z.2.2⟩⟩
    · cases lk with
      | true =>
        obtain ⟨o, q⟩ := (show ∃ o, H a = some (.frz o u) from q)
        exact ⟨o, e.trans q⟩
      | false => exact e.trans q
theorem dis_kind {kvs : List (A × A)} {a : Addr} {u : HO} (d : DIs G.K G.w H ι kvs a u) : Mut (some u) ∧ (∀ xs, u ≠ .tup xs) ∧ (∀ xs, u ≠ .lst xs) ∧ ∀ o u', u ≠ .frz o u' := by
  rcases d with ⟨ks, rfl, _⟩ | ⟨_, xs, rfl, _⟩
  · exact ⟨True.intro, (fun _ z => nomatch z), (fun _ z => nomatch z), fun _ _ z => nomatch z⟩
  · exact ⟨True.intro, (fun _ z => nomatch z), (fun _ z => nomatch z), fun _ _ z => nomatch z⟩
theorem lock_in (M : AmX G T) (R : Rl G ι H st) {n : Nat} {a : Addr} {kvs : List (A × A)} (hs : st[n]? = some (.dct false kvs)) (hn : ι[n]? = some a) : ∃ u, H a = some u ∧ Mut (some u) ∧ (∀ xs, u ≠ .tup xs) ∧ (∀ xs, u ≠ .lst xs) ∧ (∀ o u', u ≠ .frz o u') ∧
    ∀ od, Fr ι H ι (upd H a (.frz od u)) ∧ Rl G ι (upd H a (.frz od u)) (st.set n (.dct true kvs)) := by
  obtain ⟨a', u, ea, _, dd, q, _⟩ := R.dct hs (im_ref hn)
  cases ea
  have q : H a = some u := q
  obtain ⟨k1, k2, k3, k4⟩ := dis_kind dd
  refine ⟨u, q, k1, k2, k3, k4, fun od => ?_⟩
  have nf : ∀ ob u', H a ≠ some (.frz ob u') := fun ob u' z => by rw [q] at z; cases z; exact k4 _ _ rfl
  have f : Fr ι H ι (upd H a (.frz od u)) := Fr.set (List.mem_of_getElem? hn) nf
  refine ⟨f, R.set M hn nf ⟨u, ?_, od, upd_same⟩⟩
  rcases dd with ⟨ks, rfl, d⟩ | ⟨ne, xs, rfl, d⟩
  · exact .inl ⟨ks, rfl, Paired.mapP d fun _ _ z => ⟨z.1, R.im f z.2⟩⟩
  · exact .inr ⟨ne, xs, rfl, Paired.mapP d fun _ _ z => ⟨z.1, R.im f z.2.1, R.im f z.2.2⟩⟩
theorem lock_out (M : AmX G T) {ι' : List Addr} {H' : Hp} {st' : Sto} {n : Nat} {a : Addr} {u : HO} {od : Obj} {kvs : List (A × A)} (hn : ι[n]? = some a) (hu : H a = some u) (k2 : ∀ xs, u ≠ .tup xs) (k3 : ∀ xs, u ≠ .lst xs) (k4 : ∀ o u', u ≠ .frz o u')
    (f : Fr ι (upd H a (.frz od u)) ι' H') (R : Rl G ι' H' st') (hs : st'[n]? = some (.dct true kvs)) :
    H' a = some (.frz od u) ∧ Fr ι H ι' (upd H' a u) ∧ Rl G ι' (upd H' a u) (st'.set n (.dct false kvs)) ∧ (∀ env σ, EnvR G ι' H' env σ → EnvR G ι' (upd H' a u) env σ) ∧ ∀ d v, Im G.K H' ι' d v → Im G.K (upd H' a u) ι' d v := by
  have hf : H' a = some (.frz od u) := f.frz a od u upd_same
  have hn' : ι'[n]? = some a := by
    obtain ⟨z, rfl⟩ := f.pre
    rw [List.getElem?_append_left (List.getElem?_eq_some_iff.mp hn).1]
    exact hn
  have ha := List.mem_of_getElem? hn
  have ha' := List.mem_of_getElem? hn'
  have t : ∀ b xs, SqT G.K H' b xs → SqT G.K (upd H' a u) b xs := fun b xs h => by
    rcases h with (h | ⟨o, h⟩) | h
    · exact .inl (.inl (by rw [upd_ne (fun e => by rw [e, hf] at h; cases h)]; exact h))
    · exact .inl (.inr ⟨o, by rw [upd_ne (fun e => by rw [e, hf] at h; cases h; exact k2 _ rfl)]; exact h⟩)
    · exact .inr h
  have im : ∀ d v, Im G.K H' ι' d v → Im G.K (upd H' a u) ι' d v := fun d v h => Im.mono (List.prefix_refl _) t h
  refine ⟨hf, ⟨f.pre, fun b h => ?_, fun b o h nb tb => ?_, fun b h => ?_, fun b o v h => ?_⟩, ⟨M.same R.am fun b o h m => ?_, by simp [R.len], R.nd, fun m o b h1 h2 => ?_⟩, fun env σ h => ⟨h.len, fun i d e => ?_⟩, im⟩
  · rcases f.fresh b h with z | z
    · exact .inl z
    · by_cases e : b = a
      · rw [e]; exact .inl ha
      · rw [upd_ne e] at z; exact .inr z
  · have e : b ≠ a := fun z => nb (by rw [z]; exact ha)
    rw [upd_ne e]
    exact f.keep b o (by rw [upd_ne e]; exact h) nb tb
  · by_cases e : b = a
    · rw [e, upd_same]; exact fun z => by cases z
    · rw [upd_ne e]; exact f.some b (by rw [upd_ne e]; exact h)
  · have e : b ≠ a := fun z => by rw [z, hu] at h; cases h; exact k4 _ _ rfl
    rw [upd_ne e]
    exact f.frz b o v (by rw [upd_ne e]; exact h)
  · rw [upd_ne fun e => ?_]
    · exact h
    · rw [e, hf] at h
      cases h
      exact m (mv_frz k2)
  · by_cases e : n = m
    · subst e
      have hl : n < st'.length := by have := (List.getElem?_eq_some_iff.mp hn').1; rw [R.len] at this; exact this
      rw [List.getElem?_set_self hl] at h1
      cases h1
      rw [hn'] at h2
      cases h2
      obtain ⟨a', u', ea, _, dd, q, _⟩ := R.dct hs (im_ref hn')
      cases ea
      obtain ⟨o, q⟩ := (show ∃ o, H' a = some (.frz o u') from q)
      rw [hf] at q
      cases q
      refine ⟨u, ?_, upd_same⟩
      rcases dd with ⟨ks, rfl, d⟩ | ⟨ne, xs, rfl, d⟩
      · exact .inl ⟨ks, rfl, Paired.mapP d fun _ _ z => ⟨z.1, im _ _ z.2⟩⟩
      · exact .inr ⟨ne, xs, rfl, Paired.mapP d fun _ _ z => ⟨z.1, im _ _ z.2.1, im _ _ z.2.2⟩⟩
    · rw [List.getElem?_set_ne e] at h1
      refine ImO.same t (fun c xs h nc => ?_) (upd_ne fun z => e ?_) (R.ob m o b h1 h2)
      · have : c ≠ a := fun z => nc (by rw [z]; exact ha')
        rcases h with h | ⟨o, h⟩
        · exact .inl (by rw [upd_ne this]; exact h)
        · exact .inr ⟨o, by rw [upd_ne this]; exact h⟩
      · subst z
        exact (List.getElem?_inj (List.getElem?_eq_some_iff.mp hn').1 R.nd).mp (hn'.trans h2.symm)
  · obtain ⟨v, h1, h2⟩ := h.at_ i d e
    exact ⟨v, h1, im _ _ h2⟩
def unlk {α : Type} (n : Nat) (r : α × Sto) : R (α × Sto) := match r.2[n]? with
  | some (.dct true kvs) => .ok (r.1, r.2.set n (.dct false kvs))
  | _ => .fail
/-- the dict in the slot i is locked meanwhile -/
def lockG {α : Type} (i : Nat) (m : Ev → Sto → R (α × Sto)) : Ev → Sto → R (α × Sto) := fun env st => match env[i]? with
  | some (some (.ref n)) => match st[n]? with
    | some (.dct false kvs) => (m env (st.set n (.dct true kvs))).bind (unlk n)
    | _ => .fail
  | _ => .fail
theorem unlk_holds {α : Type} {n : Nat} {r : α × Sto} {Q : α × Sto → Prop} {X : Xc → Sto → Prop} (h : (unlk n r).holds Q X) : ∃ kvs, r.2[n]? = some (.dct true kvs) ∧ Q (r.1, r.2.set n (.dct false kvs)) := by
  unfold unlk at h
  split at h
  · rename_i kvs e
    exact ⟨kvs, e, h⟩
  · exact h.elim
theorem ex_lock (M : AmX G T) {i : Nat} {t : TE} {m : EM} (hm : Ex G E t m) : Ex G E (tLockE t) (lockG i m) := fun ι env st σ H Q R Ev h => by
  unfold lockG at h
  split at h
  · rename_i n e
    split at h
    · rename_i kvs hs
      obtain ⟨v, _, iv⟩ := Ev.at_ i _ e
      obtain ⟨a, hn, rfl⟩ := im_ref' iv
      obtain ⟨u, hu, k1, k2, k3, k4, all⟩ := lock_in M R hs hn
      refine ⟨a, u, hu, k1, fun od => ?_⟩
      obtain ⟨f1, R1⟩ := all od
      refine hm ι env _ σ _ _ R1 (R.env f1 Ev) (holds_mono (fun r h1 => ?_) (fun _ _ z => PXx.sh f1 z) (holds_bind h))
      obtain ⟨kvs', hs', q⟩ := unlk_holds h1
      intro ι2 H2 w f2 R2 iw
      obtain ⟨z1, z2, z3, _, z5⟩ := lock_out M hn hu k2 k3 k4 f2 R2 hs'
      exact ⟨z1, q _ _ _ z2 z3 (z5 _ _ iw)⟩
    · exact h.elim
  · exact h.elim
theorem exs_lock (M : AmX G T) {i : Nat} {t : TS} {m : SM} (hm : ExS G E t m) : ExS G E (tLock t) (lockG i m) := fun ι env st σ H D R Ev h => by
  unfold lockG at h
  split at h
  · rename_i n e
    split at h
    · rename_i kvs hs
      obtain ⟨v, _, iv⟩ := Ev.at_ i _ e
      obtain ⟨a, hn, rfl⟩ := im_ref' iv
      obtain ⟨u, hu, k1, k2, k3, k4, all⟩ := lock_in M R hs hn
      refine ⟨a, u, hu, k1, fun od => ?_⟩
      obtain ⟨f1, R1⟩ := all od
      refine hm ι env _ σ _ _ R1 (R.env f1 Ev) (holds_mono (fun r h1 => ?_) (fun _ _ z => PXx.sh f1 z) (holds_bind h))
      obtain ⟨kvs', hs', q⟩ := unlk_holds h1
      intro ι2 H2 f2 R2
      obtain ⟨z1, z2, z3, z4, z5⟩ := lock_out M hn hu k2 k3 k4 f2 R2 hs'
      obtain ⟨fl, s2⟩ := r
      cases fl with
      | nx e2 => exact fun σ2 Ev2 => ⟨z1, q _ _ z2 z3 _ (z4 _ _ Ev2)⟩
      | rt a2 => exact fun w iw => ⟨z1, q _ _ z2 z3 _ (z5 _ _ iw)⟩
      | bk e2 => exact fun σ2 Ev2 => ⟨z1, q _ _ z2 z3 _ (z4 _ _ Ev2)⟩
      | ct e2 => exact fun σ2 Ev2 => ⟨z1, q _ _ z2 z3 _ (z4 _ _ Ev2)⟩
    · exact h.elim
  · exact h.elim
/-! ### for k in d -/
def ofK (l : List (A × A)) (i : Nat) (s : Sto) : Nx := match l[i]? with
  | some p => .item p.1 s
  | none => .stop
def itKeys (l : List (A × A)) : Itm := fun i s => ofK l i s
def miKeys (md : EM) : IM := fun env st => (md env st).bind fun d => match d.1 with
  | .ref n => match d.2[n]? with
    | some (.dct true kvs) => .ok (itKeys kvs, d.2)
    | _ => .fail
  | _ => .fail
theorem exi_keys {td : TE} {md : EM} (hd : Ex G E td md) : ExI G E (Mk.iKeysX td) (miKeys md) := fun ι env st σ H R0 R Ev h => by
  refine hd.run R Ev h fun ι1 H1 d s1 x f1 R1 Ev1 id h1 => ?_
  dsimp only at h1
  split at h1
  · rename_i n
    split at h1
    · rename_i kvs hs
      obtain ⟨a, u, rfl, hn, dd, q, _⟩ := R1.dct hs id
      obtain ⟨o, q⟩ := (show ∃ o, H1 a = some (.frz o u) from q)
      refine ⟨a, o, rfl, ?_⟩
      rcases dd with ⟨ks, rfl, r⟩ | ⟨ne, xs, rfl, r⟩
      · refine .inl ⟨ks, q, h1 _ _ _ f1 R1 fun ι2 H2 st2 f2 R2 i => ?_⟩
        have q2 := f2.frz _ _ _ q
        have hl := Paired.length r
        show match ofK kvs i st2 with | .no => True | .stop => _ | .item a s => _
        unfold ofK
        cases e : kvs[i]? with
        | none => exact ⟨q2, by rw [← hl]; exact List.getElem?_eq_none_iff.mp e⟩
        | some p =>
          obtain ⟨b, hb, e1, _⟩ := paired_get r e
          refine ⟨⟨q2, (List.getElem?_eq_some_iff.mp hb).1⟩, fun y H' z => ?_⟩
          obtain ⟨rfl, k, v, hk, rfl⟩ := z
          rw [hb] at hk
          cases hk
          exact ⟨ι2, Fr.refl _ _, R2, aK_im e1⟩
      · refine .inr ⟨_, xs, q, h1 _ _ _ f1 R1 fun ι2 H2 st2 f2 R2 i => ?_⟩
        have q2 := f2.frz _ _ _ q
        have hl := Paired.length r
        show match ofK kvs i st2 with | .no => True | .stop => _ | .item a s => _
        unfold ofK
        cases e : kvs[i]? with
        | none => exact ⟨q2, by rw [← hl]; exact List.getElem?_eq_none_iff.mp e⟩
        | some p =>
          obtain ⟨b, hb, e1, e2, _⟩ := paired_get r e
          refine ⟨⟨q2, (List.getElem?_eq_some_iff.mp hb).1⟩, fun y H' z => ?_⟩
          obtain ⟨rfl, c, hk, rfl⟩ := z
          rw [hb] at hk
          cases hk
          exact ⟨ι2, Fr.refl _ _, R2, R1.im f2 e2⟩
    · exact h1.elim
  · exact h1.elim
/-! ### {k: v for t in i if ..} -/
def xcG (f : Itm) (mg : GM) (mt : BM) (mk mv : EM) (wenv : Ev) (n : Nat) : Nat → Nat → Sto → R (A × Sto)
  | 0, _, _ => .fail
  | k + 1, i, st => match f i st with
    | .no => .fail
    | .stop => .ok (.ref n, st)
    | .item a s => (noX (mg a wenv s)).bind fun e => (noX (mt e.1 e.2)).bind fun b => if b.1 = true then
        (noX (mk e.1 b.2)).bind fun y => (noX (mv e.1 y.2)).bind fun z => match putO (.ref n) y.1 z.1 z.2 with
          | some s' => xcG f mg mt mk mv wenv n k (i + 1) s'
          | none => .fail
      else xcG f mg mt mk mv wenv n k (i + 1) b.2
def mXc (mi : IM) (mg : GM) (mt : BM) (mk mv : EM) (vs : List Nat) : EM := fun env st => (mi env st).bind fun r => xcG r.1 mg mt mk mv (wipeE env vs) r.2.length fuel 0 (r.2 ++ [.dct false []])
theorem ex_xc (M : AmX G T) {wi : TI} {mi : IM} {g : TG} {mg : GM} {tt : TT} {mt : BM} {tk tv : TE} {mk mv : EM} {vs : List Nat} (hi : ExI G E wi mi) (hg : ExW G vs g mg) (ht : ExB G EF tt mt) (hk : Ex G EF tk mk) (hv : Ex G EF tv mv) : Ex G E (Mk.tXc G.K G.w wi g tt tk tv vs) (mXc mi mg mt mk mv vs) := fun ι env st σ H Q R Ev h => by
  refine hi ι env st σ H _ R Ev (go h fun r h1 ι1 H1 J f1 R1 IO => ?_)
  generalize fuel = fu at h1
  intro Dd hD
  have f1' : Fr ι1 H1 (ι1 ++ [Dd]) (upd H1 Dd (.dK [])) := Fr.obj hD
  have R1' : Rl G (ι1 ++ [Dd]) (upd H1 Dd (.dK [])) (r.2 ++ [.dct false []]) := R1.obj M hD (imo_dct0 upd_same)
  have hn : (ι1 ++ [Dd])[r.2.length]? = some Dd := by rw [← R1.len, List.getElem?_append_right (Nat.le_refl _), Nat.sub_self]; rfl
  refine ⟨fun i m H2 => ∃ ι2 st2, Fr (ι1 ++ [Dd]) (upd H1 Dd (.dK [])) ι2 H2 ∧ Rl G ι2 H2 st2 ∧ (xcG r.1 mg mt mk mv (wipeE env vs) r.2.length m i st2).holds (PE1 G ι H Q) (PXx G ι H E), ⟨fu, ι1 ++ [Dd], r.2 ++ [.dct false []], Fr.refl _ _, R1', h1⟩, ?_⟩
  rintro i m H2 ⟨ι2, st2, f2, R2, h2⟩
  have hn2 : ι2[r.2.length]? = some Dd := by
    obtain ⟨z, rfl⟩ := f2.pre
    rw [List.getElem?_append_left (List.getElem?_eq_some_iff.mp hn).1]
    exact hn
  cases m with
  | zero => exact h2.elim
  | succ k =>
    have io := IO ι2 H2 st2 (f1'.trans f2) R2 i
    unfold xcG at h2
    cases e : r.1 i st2 with
    | no => rw [e] at h2; exact h2.elim
    | stop =>
      rw [e] at h2 io
      exact .inl ⟨io, (show PE1 G ι H Q (.ref r.2.length, st2) from h2) _ _ _ ((f1.trans f1').trans f2) R2 (im_ref hn2)⟩
    | item a s =>
      rw [e] at h2 io
      dsimp only at h2 io
      refine .inr ⟨io.1, fun H3 => ∃ ι3 st3, Fr (ι1 ++ [Dd]) (upd H1 Dd (.dK [])) ι3 H3 ∧ Rl G ι3 H3 st3 ∧ (xcG r.1 mg mt mk mv (wipeE env vs) r.2.length k (i + 1) st3).holds (PE1 G ι H Q) (PXx G ι H E), fun H3 w => ⟨k, Nat.lt_succ_self k, w⟩, fun x H3 y => ?_⟩
      obtain ⟨ι3, f3, R3, ix⟩ := io.2 x H3 y
      have g3 : Fr ι H ι3 H3 := ((f1.trans f1').trans f2).trans f3
      refine hg ι3 (wipeE env vs) s (wipe σ vs) H3 a x _ (fun _ _ => False) R3 (EnvR.wipe (R.env g3 Ev) vs) ix (holds_mono (fun e' h4 => ?_) (fun _ _ q => q) (noX_bind h2))
      intro ι4 H4 f4 R4 σ4 Ev4 o4
      refine ⟨wipe_wipe' o4, ht ι4 e'.1 e'.2 σ4 H4 _ R4 Ev4 (holds_mono (fun b h5 => ?_) (fun _ _ q => q) (noX_bind h4))⟩
      intro ι5 H5 f5 R5
      obtain ⟨b, s5⟩ := b
      have p5 : Fr (ι1 ++ [Dd]) (upd H1 Dd (.dK [])) ι5 H5 := ((f2.trans f3).trans f4).trans f5
      have Ev5 := R4.env f5 Ev4
      cases b with
      | false => exact iteF ⟨ι5, s5, p5, R5, h5⟩
      | true =>
        refine iteT (hk ι5 e'.1 s5 σ4 H5 _ R5 Ev5 (holds_mono (fun yy h6 => ?_) (fun _ _ q => q) (noX_bind (show (Mx.R.bind _ _).holds _ _ from h5))))
        intro ι6 H6 w f6 R6 iw
        obtain ⟨ya, s6⟩ := yy
        dsimp only at h6 R6 iw
        have Ev6 := R5.env f6 Ev5
        refine hv ι6 e'.1 s6 σ4 H6 _ R6 Ev6 (holds_mono (fun zz h7 => ?_) (fun _ _ q => q) (noX_bind h6))
        intro ι7 H7 w2 f7 R7 iw2
        obtain ⟨za, s7⟩ := zz
        dsimp only at h7 R7 iw2
        have p7 : Fr (ι1 ++ [Dd]) (upd H1 Dd (.dK [])) ι7 H7 := (p5.trans f6).trans f7
        have hn7 : ι7[r.2.length]? = some Dd := by
          obtain ⟨z, rfl⟩ := p7.pre
          rw [List.getElem?_append_left (List.getElem?_eq_some_iff.mp hn).1]
          exact hn
        split at h7
        · rename_i s8 e8
          obtain ⟨a', H8, ea, c, f8, R8⟩ := putO_ok M R7 (im_ref hn7) (R6.im f7 iw) iw2 e8
          cases ea
          exact ⟨H8, c, ι7, s8, p7.trans f8, R8, h7⟩
        · exact h7.elim
end
end Mx

/-! ### MkDe -/
set_option Elab.async false
set_option linter.all false
set_option maxRecDepth 100000
set_option maxHeartbeats 4000000
/-! ranges as values; list(d), sorted(pairs), d.get(k, x) for the dicts of MkDa -/
namespace Mk
open PySem PySem.Spec PyProof.Rows L2
section
variable {X : Cx}
theorem cr_range1 : CallR X (.type "range") (fun vs H Q => ∃ j : Int, vs = [V.int j] ∧ ∀ p, H p = none → Q (.ref p) (upd H p (.rng 0 j))) := by
  intro pins s σ H vs us Q I r h
  obtain ⟨j, rfl, q⟩ := h
  obtain ⟨u, rfl, t, rfl⟩ := vals1 r
  exact call_range_1 ⟨.ref s.heap.objs.size, _, I.laid (a := s.heap.objs.size) (o := .rng 0 j) (t' := s.toks + 1 + 1) (fun b o e => Heap.get?_push_of_some _ e) (Nat.le_refl _) ⟨s.toks, t, s.toks + 1, Heap.get?_push_size _ rfl⟩, rfl, q _ (I.hok.fresh (Nat.le_refl _))⟩
def iRngO (te : TE) : TI := fun σ H R => te σ H fun x H1 => ∃ (a : Addr) (lo hi : Int), x = .ref a ∧ H1 a = some (.rng lo hi) ∧ (-(2 ^ 62) ≤ lo ∧ lo < 2 ^ 62 ∧ -(2 ^ 62) ≤ hi ∧ hi < 2 ^ 62) ∧ R (Itr lo (hi - lo).toNat) H1
theorem pi_rngO {tg e : Expr} {te : TE} (he : PE X e te) : PI X tg e (iRngO te) := by
  refine ⟨fun pins s σ H R I h => ?_⟩
  refine thn (he.run pins s σ H _ I h) fun v s1 ⟨x, H1, I1, r1, a, lo, hi, ex, ha, ⟨b1, b2, b3, b4⟩, q⟩ => ?_
  subst ex
  obtain rfl : v = Value.ref a := r1
  obtain ⟨t, u, w, ho⟩ := I1.hok a _ ha
  refine wpAny_pyIter_range (show IsRange s1.heap a lo hi 1 t u w from ho) (small_one b1 b2 b3 b4) ?_
  refine ⟨s1.heap.objs.size, [s1.heap.objs.size], _, _, H1, rfl, I1.kept (t' := s1.toks) fun b o e => Heap.get?_push_of_some _ e, turn_range _ lo (hi - lo).toNat, ?_, fun b hb => ?_, q⟩
  · have e1 : lo + ((0 : Nat) : Int) * 1 = lo := by simp
    have e2 : (((hi - lo).toNat : Nat) : Int) - ((0 : Nat) : Int) = Builtin.Range.rangeSize lo hi 1 := by rw [rangeSize_one]; split <;> omega
    show IsRangeIter _ _ (lo + ((0 : Nat) : Int) * 1) ((((hi - lo).toNat : Nat) : Int) - ((0 : Nat) : Int)) 1
    rw [e1, e2]
    exact Heap.get?_push_size _ rfl
  · rw [List.mem_singleton.mp hb]
    exact I1.fpOk (Nat.le_refl _) (I1.hok.fresh (Nat.le_refl _))
end
/-! ### list(d) -/
section
variable {prog : Program} {w : World} {A : Around}
theorem walk_raw (hh : A.handled = none) (it d : Addr) (hne : d ≠ it) {o : Obj} {es : Array DictEntry} {ep : Nat} (hd : o.data = .dict es ep) :
    Walks prog w A it [it, d] [it] es.size (fun i v => ∃ en : DictEntry, es[i]? = some en ∧ v = en.key) (fun i h => h.IsKeyIter it d i es.size ep ∧ h.get? d = some o) where
  sub := fun b hb => by rw [List.mem_singleton.mp hb]; exact List.mem_cons_self
  frame := fun _ _ _ st hk => ⟨st.1.at fun o e => hk it List.mem_cons_self o e, hk d (List.mem_cons_of_mem _ List.mem_cons_self) o st.2⟩
  item := fun i s Q E hi st hQ => by
    refine next_key_item st.1 st.2 hd rfl (Array.getElem?_eq_getElem hi) fun h' hit' hs' => ?_
    exact hQ _ h' s.toks ⟨_, Array.getElem?_eq_getElem hi, rfl⟩ ⟨hit', (hs'.2 d hne).trans st.2⟩ fun b o hb e => (hs'.2 b fun z => hb (by rw [z]; exact List.mem_singleton.mpr rfl)).trans e
  done := fun s Q E st hQ => next_key_end hh st.1 st.2 hd rfl (Nat.le_refl _) fun h' he' => hQ h' s.toks fun b o hb e => he' b o (fun z => hb (by rw [z]; exact List.mem_singleton.mpr rfl)) e
  self := fun _ _ _ _ st hQ => wpAny_pyIter_keyiter st.1 hQ
theorem src_raw {d : Addr} {o : Obj} {es : Array DictEntry} {ep : Nat} (lo : (d == sysModules) = false) (hx : o.ExactDict) (hd : o.data = .dict es ep) :
    PySem.W.KdlSrc prog w "dict" d d es.size (fun i v => ∃ en : DictEntry, es[i]? = some en ∧ v = en.key) (fun h => h.get? d = some o) where
  type := fun _ hm => ⟨o, hm, hx.1⟩
  there := fun _ hm => ⟨Heap.lt_size hm, Heap.lt_size hm⟩
  keep := fun _ _ hm hk => hk d (.inl rfl) o hm
  notList := by decide
  notTuple := by decide
  hint := fun _ _ _ _ hm hq => PySem.W.kdl_hint_dict ⟨o, hm, hx.1⟩ hq
  iter := fun _ _ hh hm => ⟨_, _, (fun _ _ hq => iter_keys lo hm hx hd hq), walk_raw hh _ d (Nat.ne_of_lt (Heap.lt_size hm)) hd, ⟨⟨_, Heap.get?_push_size _ rfl, rfl, rfl⟩, Heap.get?_push_of_some _ hm⟩⟩
end
theorem vals_nd : ∀ xs : NdX, Vals (xs.map fun x => V.ref x.2.1) (xs.map fun x => Value.ref x.2.1)
  | [] => .nil
  | x :: xs => .cons (show RelV (.ref x.2.1) (.ref x.2.1) from rfl) (vals_nd xs)
def rListX : List V → Hp → VK → Prop := fun vs H Q => ∃ a, vs = [V.ref a] ∧ ((∃ kvs, Rd H a (.dK kvs) ∧ ∀ p, H p = none → Q (.ref p) (upd H p (.lst (kvs.map fun kv => kV kv.1)))) ∨
  ∃ w xs, Rd H a (NdO w a xs) ∧ ∀ p, H p = none → Q (.ref p) (upd H p (.lst (xs.map fun x => V.ref x.2.1))))
theorem call_listX {X : Cx} (hc : X.calm = true) : CallR X (.type "list") rListX := by
  intro pins s σ H vs us Q I r h
  obtain ⟨a, rfl, h⟩ := h
  rcases h with ⟨kvs, e, q⟩ | ⟨w, xs, e, q⟩
  · exact call_listD hc pins s σ H _ us Q I r ⟨a, kvs, rfl, e, q⟩
  · obtain ⟨u, rfl, ru⟩ := vals1 r
    cases ru
    obtain ⟨z, hs, ys, rel, o, es, ep, ho, hx, hd, he, hn⟩ := nd_raw I e
    have l1 : es.size = ys.length := size_of_entries (he X.prog)
    have l2 : xs.length = ys.length := Paired.length rel
    refine PySem.W.kdl_call (src_raw hs hx hd) (I.ok.hd hc) ho (by rw [l1, ← l2]; exact z) fun h' tk acc c' hk hD hacc => ?_
    have ea : acc.toList = xs.map fun x => Value.ref x.2.1 := by
      apply List.ext_getElem?
      intro i
      rw [List.getElem?_map, Array.getElem?_toList]
      cases hi : acc[i]? with
      | none =>
        have : acc.size ≤ i := Array.getElem?_eq_none_iff.mp hi
        rw [List.getElem?_eq_none (by rw [l2, ← l1, ← hacc.1]; exact this)]
        rfl
      | some v =>
        obtain ⟨en, h1, rfl⟩ := hacc.2 i v hi
        have hlt : i < xs.length := by
          rw [l2, ← l1]
          exact (Array.getElem?_eq_some_iff.mp h1).1
        obtain ⟨b, hb, _, e2, _⟩ := paired_get rel (List.getElem?_eq_getElem hlt)
        have q2 := entry_at (he X.prog) i
        rw [hb] at q2
        rw [h1] at q2
        cases q2
        rw [List.getElem?_eq_getElem hlt]
        show some (Value.ref b.2.1) = some (Value.ref _)
        rw [e2]
    refine ⟨.ref s.heap.objs.size, _, I.laid (a := s.heap.objs.size) (o := .lst (xs.map fun x => V.ref x.2.1)) (t' := tk) hk (Nat.le_refl _) ?_, rfl, q _ (I.hok.fresh (Nat.le_refl _))⟩
    exact ⟨by rw [List.length_map]; exact z, acc.toList, c', by rw [ea]; exact vals_nd xs, by rw [Array.toArray_toList]; exact hD⟩
/-! ### sorted(pairs) -/
def rSortedPA (K : PySem.W.Frag) : List V → Hp → VK → Prop := fun vs H Q => ∃ (a : Addr) (xs : List V) (k : V → Int × Int), vs = [V.ref a] ∧ SqL K H a xs ∧ (∀ x ∈ xs, ∃ t, x = V.ref t ∧ SqT K H t [.int (k x).1, .int (k x).2]) ∧
  ∀ ys p, SrtO.Srtd (ltP k) ys → SrtO.Stb (ltP k) ys xs → H p = none → Q (.ref p) (upd H p (.lst ys))
theorem cr_sortedPA {X : Cx} : CallR X (.builtin "sorted") (rSortedPA X.K) := by
  intro pins s σ H vs us Q I r h
  obtain ⟨a, xs, k, rfl, hs, hx, q⟩ := h
  obtain ⟨its, rv, hl, hz⟩ := I.list hs
  obtain ⟨u, rfl, ru⟩ := vals1 r
  cases ru
  have rb := refs_back rv fun x m => let ⟨t, e, _⟩ := hx x m; ⟨t, e⟩
  have prs : ∀ v ∈ its, Srt.IsPair s.heap v (k (backV v)).1 (k (backV v)).2 := fun v hv => by
    obtain ⟨t, rfl⟩ := rb.2 v hv
    obtain ⟨t', e, ht⟩ := hx _ (show V.ref t ∈ xs by rw [rb.1]; exact List.mem_map_of_mem (f := backV) hv)
    cases e
    obtain ⟨ps, rp, ⟨o, ho, hc, n, hd⟩, _⟩ := I.tuple ht
    obtain ⟨u1, u2, rfl, ⟨t1, rfl⟩, ⟨t2, rfl⟩⟩ := vals2 rp
    exact ⟨t, o, t1, t2, n, rfl, ho, hc, hd⟩
  refine SrtO.sorted_pairsO hl.isList (by rw [← rv.length]; exact hz) prs fun h' d out h1 h2 kp hd hn => ?_
  obtain ⟨n, hn⟩ := hn
  have hb : SrtO.Stb (ltP k) (out.map backV) xs := by rw [rb.1]; exact SrtO.Stb.map (ltP_swo k) backV h2
  refine ⟨.ref d, _, I.laid (a := d) (o := .lst (out.map backV)) (t' := s.toks) kp hd ⟨?_, out, n, vals_back fun u hu => rb.2 u (h2.perm.mem_iff.mp hu), hn⟩, rfl, q _ d (SrtO.srtd_map h1) hb (I.hok.fresh hd)⟩
  rw [hb.perm.length_eq]
  exact hz
/-! ### d.get(k, x) -/
theorem x_get2 {X : Cx} {pins : List (Addr × Obj)} {σ : L2.St} {H : Hp} {s : Shared} {a : Addr} {y d : V} {o : Option V} {u r : Value} {A : Around} {E : Value → Shared → Prop} {Q : Value → Shared → Prop} (hu : A.units + 64 < cLine) (I : Inv X pins σ H s) (g : XGet X.K X.w H a y o) (ry : RelV y u) (rd : RelV d r)
    (h : ∀ w' s', Inv X pins σ H s' → RelV (o.getD d) w' → Q w' s') : wpAny (model X.prog X.w) A (call (.builtin "dict.get") [.ref a, u, r]) Q E s := by
  rcases g with g | ⟨xs, k, b, e, hk, ey, nk, dp, l⟩
  · exact d_get2 (by omega) I g ry rd h
  · subst ey
    cases (show u = Value.ref b from ry)
    obtain ⟨z, hs, ys, rel, dd⟩ := nd_dict I e hk
    refine call_meetsIn PySem.F.slot_dict_get dd.typeIs PySem.F.entry_dict_get (PySem.F.args_dict_get_3 _ _ _) (meetsH_dict_get_default (nestedKind X.prog X.w) a b hs r) ⟨nroom hu, k, ys, ⟨nk_is I nk rfl, dp⟩, dd, h _ _ (I.tok _) ?_⟩
    rw [l]
    exact (ndR_at rel k).getD rd
def tXGet2 (K : PySem.W.Frag) (w : World) (td ty tx : TE) : TE := fun σ H Q => td σ H fun x H1 => ∃ a, x = .ref a ∧ XIs H1 a ∧ ty σ H1 fun y H2 => tx σ H2 fun z H3 => ∃ o, XGet K w H3 a y o ∧ Q (o.getD z) H3
theorem pe_xget2 {X : Cx} {o e f : Expr} {apos cpos : Pos} {td ty tx : TE} (hu : X.A.units + 64 < cLine) (ho : PE X o td) (he : PE X e ty) (hf : PE X f tx) (m : M2 X o "get" apos e f cpos) : PE X (.Call (.Attribute o "get" apos) [e, f] [] cpos) (tXGet2 X.K X.w td ty tx) := by
  refine ⟨fun pins s σ H Q I h => ?_⟩
  refine wpAny_Call_method m.base m.few m.line PySem.F.plainAttrs_dict PySem.F.slot_dict_get PySem.F.type_dict_get (thn (ho.run pins s σ H _ I h) fun u s1 ⟨x, H1, I1, rx, a, ex, d, q1⟩ => ?_)
  subst ex
  obtain rfl : u = Value.ref a := rx
  refine ⟨(xis_at I1 d).1, (xis_at I1 d).2, ?_⟩
  rw [m.trees]
  refine Calls.callWith_builtin rfl (Calls.evalArgs_plain (Calls.spliced_cons (thn (he.run pins s1 σ H1 _ I1 q1) fun iv s2 ⟨y, H2, I2, ry, q2⟩ =>
    Calls.spliced_cons (thn (hf.run pins s2 σ H2 _ I2 q2) fun fv s3 ⟨z, H3, I3, rz, ov, g, q3⟩ => Calls.spliced_nil ?_))))
  exact x_get2 hu I3 g ry rz fun w' s4 I4 rw' => ⟨_, H3, I4, rw', q3⟩
end Mk

/-! ### MkZ3 -/
set_option Elab.async false
set_option linter.all false
set_option maxRecDepth 100000
set_option maxHeartbeats 4000000
/-! ranges as values, zip, two sources, list(d), sorted pairs, starred items, sums -/
namespace Mx
open PySem PySem.Spec PyProof.Rows L2
open GxR (TabG Tabbed)
section
variable {G : Gx} {T : List Addr} {E : XK} {ι : List Addr} {H : Hp} {st : Sto}
/-! ### ranges -/
def fRng1 : FL := fun l st => match l with
  | [.int j] => some (.ref st.length, st ++ [.rng 0 j])
  | _ => none
theorem ok_rng1 (M : AmX G T) : OkL G (fun vs H Q => ∃ j : Int, vs = [V.int j] ∧ ∀ p, H p = none → Q (.ref p) (upd H p (.rng 0 j))) fRng1 := fun ι st H as xs c Q R im e q => by
  unfold fRng1 at e
  split at e
  · cases e
    obtain ⟨v, rfl, i1⟩ := imL_1 im
    exact ⟨_, by rw [im_int' i1], fun p hp => PE1.obj M R hp (show ImO G _ _ (.rng 0 _) p from upd_same) q⟩
  · cases e
theorem Rl.rng (R : Rl G ι H st) {n : Nat} {lo hi : Int} {v : V} (h : st[n]? = some (.rng lo hi)) (im : Im G.K H ι (.ref n) v) : ∃ a, v = .ref a ∧ H a = some (.rng lo hi) := by
  obtain ⟨a, e, rfl⟩ := im_ref' im
  exact ⟨a, rfl, R.ob n _ a h e⟩
def miRngO (ma : EM) : IM := fun env st => (ma env st).bind fun a => match a.1 with
  | .ref n => match a.2[n]? with
    | some (.rng lo hi) => if (-(2 ^ 62) ≤ lo ∧ lo < 2 ^ 62) ∧ -(2 ^ 62) ≤ hi ∧ hi < 2 ^ 62 then .ok (itRng lo (hi - lo).toNat, a.2) else .fail
    | _ => .fail
  | _ => .fail
theorem exi_rngO {ta : TE} {ma : EM} (ha : Ex G E ta ma) : ExI G E (Mk.iRngO ta) (miRngO ma) := fun ι env st σ H R0 R Ev h => by
  refine ha.run R Ev h fun ι1 H1 a s1 v f1 R1 Ev1 im h1 => ?_
  dsimp only at h1
  split at h1
  · split at h1
    · rename_i n _ lo hi hs
      split at h1
      · rename_i hb
        obtain ⟨a, rfl, ha⟩ := R1.rng hs im
        exact ⟨a, lo, hi, rfl, ha, ⟨hb.1.1, hb.1.2, hb.2.1, hb.2.2⟩, h1 _ _ _ f1 R1 it_rng⟩
      · exact h1.elim
    · exact h1.elim
  · exact h1.elim
/-! ### zip of tuples -/
def ofZ (l m : List A) (i : Nat) (s : Sto) : Nx := match l[i]?, m[i]? with
  | some a, some b => .item (.tup [a, b]) s
  | _, _ => .stop
def itZip (l m : List A) : Itm := fun i s => ofZ l m i s
def miZip (ml : LM) : IM := fun env st => (ml env st).bind fun l => match l.1 with
  | [.tup k, .tup m] => .ok (itZip k m, l.2)
  | _ => .fail
theorem exi_zip (M : AmX G T) {tl : TA} {ml : LM} (hl : ExL G E tl ml) : ExI G E (RZ.iZipA G.K tl) (miZip ml) := fun ι env st σ H R0 R Ev h => by
  refine hl.run R Ev h fun ι1 H1 a s1 v f1 R1 Ev1 im h1 => ?_
  dsimp only at h1
  split at h1
  · rename_i k m
    obtain ⟨w, u, rfl, iw, iu⟩ := imL_2 im
    obtain ⟨p, xs, rfl, hx, il⟩ := im_tup' iw
    obtain ⟨p2, ys, rfl, hy, jl⟩ := im_tup' iu
    refine ⟨p, p2, xs, ys, rfl, .inr ⟨hx, hy, h1 _ _ _ f1 R1 fun ι2 H2 st2 f2 R2 i => ?_⟩⟩
    have il2 := R1.imL f2 il
    have jl2 := R1.imL f2 jl
    have hx2 := R1.seq f2 hx
    have hy2 := R1.seq f2 hy
    show match ofZ k m i st2 with | .no => True | .stop => _ | .item a s => _
    unfold ofZ
    cases e : k[i]? with
    | none => exact ⟨xs, ys, hx2, hy2, .inl (List.getElem?_eq_none_iff.mp ((im_at il2).1 e))⟩
    | some b =>
      cases e' : m[i]? with
      | none => exact ⟨xs, ys, hx2, hy2, .inr (List.getElem?_eq_none_iff.mp ((im_at jl2).1 e'))⟩
      | some b' =>
        obtain ⟨w, hw, iw⟩ := (im_at il2).2 b e
        obtain ⟨u, hu, iu⟩ := (im_at jl2).2 b' e'
        refine ⟨⟨xs, ys, w, u, hx2, hy2, hw, hu⟩, fun x H' z => ?_⟩
        obtain ⟨T, x1, y1, rfl, hT, rfl, z1, z2⟩ := z
        have := z1 xs hx2
        rw [hw] at this
        cases this
        have := z2 ys hy2
        rw [hu] at this
        cases this
        exact ⟨ι2, Fr.new hT, R2.new M hT, im_tup (R2.imL (Fr.new hT) (imL_cons iw (imL_cons iu imL_nil))) upd_same⟩
  · exact h1.elim
/-! ### two sources -/
def lc2I (f : Itm) (mg : GM) (mt : BM) (me : EM) (wenv : Ev) (n : Nat) : Nat → Nat → Sto → R Sto
  | 0, _, _ => .fail
  | k + 1, i, st => match f i st with
    | .no => .fail
    | .stop => .ok st
    | .item a s => (noX (mg a wenv s)).bind fun e => (noX (mt e.1 e.2)).bind fun b => if b.1 = true then
        (noX (me e.1 b.2)).bind fun y => match y.2[n]? with
          | some (.lst acc) => if acc.length < sizeLine then lc2I f mg mt me wenv n k (i + 1) (y.2.set n (.lst (acc ++ [y.1]))) else .fail
          | _ => .fail
      else lc2I f mg mt me wenv n k (i + 1) b.2
def lc2G (f : Itm) (mg : GM) (mt : BM) (mi1 : IM) (mg1 : GM) (mt1 : BM) (me : EM) (wenv : Ev) (vs1 : List Nat) (n : Nat) : Nat → Nat → Sto → R (A × Sto)
  | 0, _, _ => .fail
  | k + 1, i, st => match f i st with
    | .no => .fail
    | .stop => .ok (.ref n, st)
    | .item a s => (noX (mg a wenv s)).bind fun e => (noX (mt e.1 e.2)).bind fun b => if b.1 = true then
        (noX (mi1 e.1 b.2)).bind fun r => (lc2I r.1 mg1 mt1 me (wipeE e.1 vs1) n fuel 0 r.2).bind fun s' => lc2G f mg mt mi1 mg1 mt1 me wenv vs1 n k (i + 1) s'
      else lc2G f mg mt mi1 mg1 mt1 me wenv vs1 n k (i + 1) b.2
def mLc2 (mi : IM) (mg : GM) (mt : BM) (mi1 : IM) (mg1 : GM) (mt1 : BM) (me : EM) (vs vs1 : List Nat) : EM := fun env st => (mi env st).bind fun r => lc2G r.1 mg mt mi1 mg1 mt1 me (wipeE env vs) vs1 r.2.length fuel 0 (r.2 ++ [.lst []])
theorem ex_lc2 (M : AmX G T) {wi wi1 : TI} {mi mi1 : IM} {g g1 : TG} {mg mg1 : GM} {tt tt1 : TT} {mt mt1 : BM} {te : TE} {me : EM} {vs vs1 : List Nat} (hi : ExI G E wi mi) (hg : ExW G vs g mg) (ht : ExB G EF tt mt) (hi1 : ExI G EF wi1 mi1) (hg1 : ExW G vs1 g1 mg1) (ht1 : ExB G EF tt1 mt1) (he : Ex G EF te me) :
    Ex G E (tLc2 wi g tt wi1 g1 tt1 te vs vs1) (mLc2 mi mg mt mi1 mg1 mt1 me vs vs1) := fun ι env st σ H Q R Ev h => by
  refine hi ι env st σ H _ R Ev (go h fun r h1 ι1 H1 J f1 R1 IO => ?_)
  generalize fuel = fu at h1
  intro Dd hD
  have f1' : Fr ι1 H1 (ι1 ++ [Dd]) (upd H1 Dd (.lst [])) := Fr.obj hD
  have R1' : Rl G (ι1 ++ [Dd]) (upd H1 Dd (.lst [])) (r.2 ++ [.lst []]) := R1.obj M hD ⟨[], upd_same, imL_nil⟩
  have hn : (ι1 ++ [Dd])[r.2.length]? = some Dd := by rw [← R1.len, List.getElem?_append_right (Nat.le_refl _), Nat.sub_self]; rfl
  have hns : ∀ ι2 H2, Fr (ι1 ++ [Dd]) (upd H1 Dd (.lst [])) ι2 H2 → ι2[r.2.length]? = some Dd := fun ι2 H2 f => by
    obtain ⟨z, rfl⟩ := f.pre
    rw [List.getElem?_append_left (List.getElem?_eq_some_iff.mp hn).1]
    exact hn
  generalize hL : lc2G r.1 mg mt mi1 mg1 mt1 me (wipeE env vs) vs1 r.2.length = L at h1
  have hL0 : ∀ i st, L 0 i st = .fail := fun i st => by rw [← hL]; rfl
  have hLs : ∀ k i st, L (k + 1) i st = match r.1 i st with
    | .no => .fail
    | .stop => .ok (.ref r.2.length, st)
    | .item a s => (noX (mg a (wipeE env vs) s)).bind fun e => (noX (mt e.1 e.2)).bind fun b => if b.1 = true then
        (noX (mi1 e.1 b.2)).bind fun r1 => (lc2I r1.1 mg1 mt1 me (wipeE e.1 vs1) r.2.length fuel 0 r1.2).bind fun s' => L k (i + 1) s'
      else L k (i + 1) b.2 := fun k i st => by rw [← hL]; rfl
  refine ⟨fun i m H2 => ∃ ι2 st2, Fr (ι1 ++ [Dd]) (upd H1 Dd (.lst [])) ι2 H2 ∧ Rl G ι2 H2 st2 ∧ (L m i st2).holds (PE1 G ι H Q) (PXx G ι H E), ⟨fu, ι1 ++ [Dd], r.2 ++ [.lst []], Fr.refl _ _, R1', h1⟩, ?_⟩
  rintro i m H2 ⟨ι2, st2, f2, R2, h2⟩
  have hn2 := hns ι2 H2 f2
  cases m with
  | zero => rw [hL0] at h2; exact h2.elim
  | succ k =>
    have io := IO ι2 H2 st2 (f1'.trans f2) R2 i
    rw [hLs] at h2
    cases e : r.1 i st2 with
    | no => rw [e] at h2; exact h2.elim
    | stop =>
      rw [e] at h2 io
      exact .inl ⟨io, (show PE1 G ι H Q (.ref r.2.length, st2) from h2) _ _ _ ((f1.trans f1').trans f2) R2 (im_ref hn2)⟩
    | item a s =>
      rw [e] at h2 io
      dsimp only at h2 io
      refine .inr ⟨io.1, fun H3 => ∃ ι3 st3, Fr (ι1 ++ [Dd]) (upd H1 Dd (.lst [])) ι3 H3 ∧ Rl G ι3 H3 st3 ∧ (L k (i + 1) st3).holds (PE1 G ι H Q) (PXx G ι H E), fun H3 w => ⟨k, Nat.lt_succ_self k, w⟩, fun x H3 y => ?_⟩
      obtain ⟨ι3, f3, R3, ix⟩ := io.2 x H3 y
      have g3 : Fr ι H ι3 H3 := ((f1.trans f1').trans f2).trans f3
      refine hg ι3 (wipeE env vs) s (wipe σ vs) H3 a x _ (fun _ _ => False) R3 (EnvR.wipe (R.env g3 Ev) vs) ix (holds_mono (fun e' h4 => ?_) (fun _ _ q => q) (noX_bind h2))
      intro ι4 H4 f4 R4 σ4 Ev4 o4
      refine ⟨wipe_wipe' o4, ht ι4 e'.1 e'.2 σ4 H4 _ R4 Ev4 (holds_mono (fun b h5 => ?_) (fun _ _ q => q) (noX_bind h4))⟩
      intro ι5 H5 f5 R5
      obtain ⟨b, s5⟩ := b
      have p5 : Fr (ι1 ++ [Dd]) (upd H1 Dd (.lst [])) ι5 H5 := ((f2.trans f3).trans f4).trans f5
      have Ev5 := R4.env f5 Ev4
      cases b with
      | false => exact iteF ⟨ι5, s5, p5, R5, h5⟩
      | true =>
        refine iteT (hi1 ι5 e'.1 s5 σ4 H5 _ R5 Ev5 (holds_mono (fun r1 h6 => ?_) (fun _ _ q => q) (noX_bind (show (Mx.R.bind _ _).holds _ _ from h5))))
        intro ι6 H6 J1 f6 R6 IO1
        have p6 := p5.trans f6
        have Ev6 := R5.env f6 Ev5
        try dsimp only at h6
        generalize fuel = fu1 at h6
        refine ⟨fun j k1 Hj => ∃ ιj sj, Fr ι6 H6 ιj Hj ∧ Rl G ιj Hj sj ∧ (lc2I r1.1 mg1 mt1 me (wipeE e'.1 vs1) r.2.length k1 j sj).holds (fun s' => (L k (i + 1) s').holds (PE1 G ι H Q) (PXx G ι H E)) (PXx G ι H E), ⟨fu1, ι6, r1.2, Fr.refl _ _, R6, holds_bind h6⟩, ?_⟩
        rintro j k1 Hj ⟨ιj, sj, fj, Rj, hj⟩
        cases k1 with
        | zero => exact hj.elim
        | succ k1 =>
          have io1 := IO1 ιj Hj sj fj Rj j
          unfold lc2I at hj
          cases e1 : r1.1 j sj with
          | no => rw [e1] at hj; exact hj.elim
          | stop =>
            rw [e1] at hj io1
            exact .inl ⟨io1, ιj, sj, p6.trans fj, Rj, hj⟩
          | item a1 s1 =>
            rw [e1] at hj io1
            dsimp only at hj io1
            refine .inr ⟨io1.1, fun Hk => ∃ ιk sk, Fr ι6 H6 ιk Hk ∧ Rl G ιk Hk sk ∧ (lc2I r1.1 mg1 mt1 me (wipeE e'.1 vs1) r.2.length k1 (j + 1) sk).holds (fun s' => (L k (i + 1) s').holds (PE1 G ι H Q) (PXx G ι H E)) (PXx G ι H E), fun Hk w => ⟨k1, Nat.lt_succ_self k1, w⟩, fun x1 Hk y1 => ?_⟩
            obtain ⟨ιk, fk, Rk, ix1⟩ := io1.2 x1 Hk y1
            refine hg1 ιk (wipeE e'.1 vs1) s1 (wipe σ4 vs1) Hk a1 x1 _ (fun _ _ => False) Rk (EnvR.wipe (Rj.env fk (R6.env fj Ev6)) vs1) ix1 (holds_mono (fun e2 h8 => ?_) (fun _ _ q => q) (noX_bind hj))
            intro ι8 H8 f8 R8 σ8 Ev8 o8
            refine ⟨wipe_wipe' o8, ht1 ι8 e2.1 e2.2 σ8 H8 _ R8 Ev8 (holds_mono (fun b2 h9 => ?_) (fun _ _ q => q) (noX_bind h8))⟩
            intro ι9 H9 f9 R9
            obtain ⟨b2, s9⟩ := b2
            have p9 : Fr ι6 H6 ι9 H9 := ((fj.trans fk).trans f8).trans f9
            cases b2 with
            | false => exact iteF ⟨ι9, s9, p9, R9, h9⟩
            | true =>
              refine iteT (he ι9 e2.1 s9 σ8 H9 _ R9 (R8.env f9 Ev8) (holds_mono (fun yy h10 => ?_) (fun _ _ q => q) (noX_bind (show (Mx.R.bind _ _).holds _ _ from h9))))
              intro ι10 H10 w f10 R10 iw
              obtain ⟨ya, s10⟩ := yy
              dsimp only at h10 R10 iw
              have p10 : Fr ι6 H6 ι10 H10 := p9.trans f10
              have hn10 := hns ι10 H10 (p6.trans p10)
              split at h10
              · rename_i acc hacc
                split at h10
                · rename_i hz
                  obtain ⟨p, xs, e7, hp, hx, il⟩ := R10.lst hacc (im_ref hn10)
                  cases e7
                  refine ⟨xs, hx, by rw [il.length]; exact hz, ?_⟩
                  obtain ⟨f11, R11⟩ := R10.setL M hn10 ⟨_, hx⟩ (l := acc ++ [ya]) (xs := xs ++ [w]) (ImL.append il (imL_cons iw imL_nil))
                  exact ⟨ι10, _, p10.trans f11, R11, h10⟩
                · exact h10.elim
              · exact h10.elim
/-! ### list(d) -/
def fListD : FL := fun l st => match l with
  | [.ref n] => match st[n]? with
    | some (.dct _ kvs) => some (.ref st.length, st ++ [.lst (kvs.map (·.1))])
    | _ => none
  | _ => none
theorem im_ks {kvs : List (A × A)} {ks : List (Key × V)} (r : ImKs G.K H ι kvs ks) : ImL G.K H ι (kvs.map (·.1)) (ks.map fun kv => kV kv.1) := by
  induction r with
  | nil => exact imL_nil
  | cons h r ih => exact imL_cons (aK_im h.1) ih
theorem im_xs {kvs : List (A × A)} {xs : Mk.NdX} (r : ImXs G.K H ι kvs xs) : ImL G.K H ι (kvs.map (·.1)) (xs.map fun x => V.ref x.2.1) := by
  induction r with
  | nil => exact imL_nil
  | cons h r ih => exact imL_cons h.2.1 ih
theorem ok_listD (M : AmX G T) : OkL G Mk.rListX fListD := fun ι st H as xs c Q R im e q => by
  unfold fListD at e
  split at e
  · split at e
    · rename_i n _ lk kvs h
      cases e
      obtain ⟨v, rfl, i1⟩ := imL_1 im
      obtain ⟨a, u, rfl, _, dd, _, hR⟩ := R.dct h i1
      refine ⟨a, rfl, ?_⟩
      rcases dd with ⟨ks, rfl, r⟩ | ⟨_, xs, rfl, r⟩
      · exact .inl ⟨ks, hR, fun p hp => PE1.lst M R (im_ks r) q hp⟩
      · exact .inr ⟨_, xs, hR, fun p hp => PE1.lst M R (im_xs r) q hp⟩
    · cases e
  · cases e
/-! ### starred items -/
def mStar (ma : EM) (ml : LM) : LM := fun env st => (ma env st).bind fun a => match a.1 with
  | .tup l => (ml env a.2).bind fun k => .ok (l ++ k.1, k.2)
  | _ => .fail
theorem exa_star {ta : TE} {ma : EM} {tl : TA} {ml : LM} (ha : Ex G E ta ma) (hl : ExL G E tl ml) : ExL G E (StX.tStar G.K ta tl) (mStar ma ml) := fun ι env st σ H Q R Ev h => by
  refine ha.run R Ev h fun ι1 H1 a s1 v f1 R1 Ev1 im h1 => ?_
  cases a with
  | tup l =>
    obtain ⟨p, xs, rfl, hx, il⟩ := im_tup' im
    refine ⟨p, xs, rfl, .inl hx, hl.run R1 Ev1 h1 fun ι2 H2 b s2 w f2 R2 Ev2 im2 h2 => ?_⟩
    exact (show PL1 G ι H Q (l ++ b, s2) from h2) _ _ _ (f1.trans f2) R2 (ImL.append (R1.imL f2 il) im2)
  | _ => exact h1.elim
/-! ### d.get(k, x) -/
def mGet2 (md mk mv : EM) : EM := fun env st => (md env st).bind fun d => match d.1 with
  | .ref n => match d.2[n]? with
    | some (.dct _ _) => (mk env d.2).bind fun k => (mv env k.2).bind fun v => (ofO (dGet (.ref n) k.1 v.2)).bind fun o => .ok (o.getD v.1, v.2)
    | _ => .fail
  | _ => .fail
theorem ex_get2 {td ty tv : TE} {md mk mv : EM} (hd : Ex G E td md) (hk : Ex G E ty mk) (hv : Ex G E tv mv) : Ex G E (Mk.tXGet2 G.K G.w td ty tv) (mGet2 md mk mv) := fun ι env st σ H Q R Ev h => by
  refine hd.run R Ev h fun ι1 H1 d s1 x f1 R1 Ev1 id h1 => ?_
  dsimp only at h1
  split at h1
  · rename_i n
    split at h1
    · rename_i lk kvs0 h0
      obtain ⟨a, u0, rfl, hn, dd0, q0, hR0⟩ := R1.dct h0 id
      refine ⟨a, rfl, ?_, ?_⟩
      · rcases dd0 with ⟨ks, rfl, _⟩ | ⟨_, xs, rfl, _⟩
        · exact .inl (.inl ⟨ks, hR0⟩)
        · exact .inr ⟨_, xs, hR0⟩
      refine hk.run R1 Ev1 h1 fun ι2 H2 k s2 y f2 R2 Ev2 ik h2 => ?_
      refine hv.run R2 Ev2 h2 fun ι3 H3 v s3 w f3 R3 Ev3 iv h3 => ?_
      obtain ⟨o, e, q⟩ := ofO_holds (holds_bind h3)
      obtain ⟨a', w', ea, g, r⟩ := dGet_ok R3 (R2.im f3 (R1.im f2 id)) (R2.im f3 ik) e
      cases ea
      refine ⟨w', g, ?_⟩
      have q : PE1 G ι H Q (o.getD v, s3) := q
      cases o with
      | none => rw [r.none']; exact q _ _ _ ((f1.trans f2).trans f3) R3 iv
      | some d =>
        obtain ⟨z, rfl, iz⟩ := r.some'
        exact q _ _ _ ((f1.trans f2).trans f3) R3 iz
    · exact h1.elim
  · exact h1.elim
end
end Mx

/-! ### MkZ4 -/
set_option Elab.async false
set_option linter.all false
set_option maxRecDepth 100000
set_option maxHeartbeats 4000000
/-! sorted(pairs of ints) -/
namespace Mk
open PySem PySem.Spec PyProof.Rows L2
section
variable {α β : Type}
def insL (lt : α → α → Bool) (x : α) : List α → List α
  | [] => [x]
  | y :: r => if lt y x = true then y :: insL lt x r else x :: y :: r
def sortL (lt : α → α → Bool) : List α → List α
  | [] => []
  | x :: r => insL lt x (sortL lt r)
theorem ins_ok {lt : α → α → Bool} (O : SrtO.Swo lt) (x : α) : ∀ {l : List α}, SrtO.Srtd lt l → SrtO.Srtd lt (insL lt x l) ∧ SrtO.Stb lt (insL lt x l) (x :: l)
  | [], _ => ⟨SrtO.srtd_one x, SrtO.Stb.refl _⟩
  | y :: r, h => by
    obtain ⟨i1, i2⟩ := ins_ok O x (List.pairwise_cons.mp h).2
    unfold insL
    by_cases e : lt y x = true
    · rw [if_pos e]
      refine ⟨List.pairwise_cons.mpr ⟨fun z hz => ?_, i1⟩, ((SrtO.Stb.refl [y]).app i2).trans ((SrtO.Stb.swap O (A := [y]) (B := [x]) fun a ha b hb => by rw [List.mem_singleton.mp ha, List.mem_singleton.mp hb]; exact e).app (SrtO.Stb.refl r))⟩
      rcases List.mem_cons.mp (i2.perm.mem_iff.mp hz) with rfl | hz
      · exact O.asym _ _ e
      · exact SrtO.srtd_head h z hz
    · rw [if_neg e]
      have e : lt y x = false := by cases q : lt y x with
        | true => exact absurd q e
        | false => rfl
      refine ⟨List.pairwise_cons.mpr ⟨fun z hz => ?_, h⟩, SrtO.Stb.refl _⟩
      rcases List.mem_cons.mp hz with rfl | hz
      · exact e
      · exact O.tr x y z e (SrtO.srtd_head h z hz)
theorem sort_ok {lt : α → α → Bool} (O : SrtO.Swo lt) : ∀ l : List α, SrtO.Srtd lt (sortL lt l) ∧ SrtO.Stb lt (sortL lt l) l
  | [] => ⟨List.Pairwise.nil, SrtO.Stb.refl _⟩
  | x :: r => by
    obtain ⟨h1, h2⟩ := sort_ok O r
    obtain ⟨h3, h4⟩ := ins_ok O x h1
    exact ⟨h3, h4.trans ((SrtO.Stb.refl [x]).app h2)⟩
theorem ins_pair {F : α → β → Prop} {lt : α → α → Bool} {lt' : β → β → Bool} (hl : ∀ a b a' b', F a b → F a' b' → lt a a' = lt' b b') {x : α} {y : β} (h : F x y) : ∀ {l : List α} {m : List β}, Paired F l m → Paired F (insL lt x l) (insL lt' y m)
  | _, _, .nil => .cons h .nil
  | _, _, .cons (a := a) (b := b) k r => by
    have e := hl _ _ _ _ k h
    unfold insL
    by_cases q : lt' b y = true
    · rw [if_pos q, if_pos (e.trans q)]; exact .cons k (ins_pair hl h r)
    · rw [if_neg q, if_neg (fun z => q (e.symm.trans z))]; exact .cons h (.cons k r)
theorem sort_pair {F : α → β → Prop} {lt : α → α → Bool} {lt' : β → β → Bool} (hl : ∀ a b a' b', F a b → F a' b' → lt a a' = lt' b b') : ∀ {l : List α} {m : List β}, Paired F l m → Paired F (sortL lt l) (sortL lt' m)
  | _, _, .nil => .nil
  | _, _, .cons k r => ins_pair hl k (sort_pair hl r)
end
def PairIs (K : PySem.W.Frag) (H : Hp) (x : V) (p : Int × Int) : Prop := ∃ t, x = V.ref t ∧ SqT K H t [.int p.1, .int p.2]
def ltZ (u v : V × Int × Int) : Bool := SrtO.lexB u.2 v.2
def rSortedPB (K : PySem.W.Frag) : List V → Hp → VK → Prop := fun vs H Q => ∃ (a : Addr) (zs : List (V × Int × Int)), vs = [V.ref a] ∧ SqL K H a (zs.map (·.1)) ∧ (∀ z ∈ zs, PairIs K H z.1 z.2) ∧
  ∀ p, H p = none → Q (.ref p) (upd H p (.lst ((sortL ltZ zs).map (·.1))))
open Classical in
noncomputable def keyZ (K : PySem.W.Frag) (H : Hp) (v : V) : Int × Int := if h : ∃ p, PairIs K H v p then h.choose else (0, 0)
theorem pair_map {α β : Type} {F : α → β → Prop} {f : α → β} (h : ∀ a b, F a b → b = f a) : ∀ {l : List α} {m : List β}, Paired F l m → m = l.map f
  | _, _, .nil => rfl
  | _, _, .cons k r => by rw [List.map_cons, ← h _ _ k, ← pair_map h r]
theorem map_pair {α β : Type} {F : α → β → Prop} {f : α → β} : ∀ {l : List α}, (∀ a ∈ l, F a (f a)) → Paired F l (l.map f)
  | [], _ => .nil
  | a :: l, h => .cons (h a List.mem_cons_self) (map_pair fun b hb => h b (List.mem_cons_of_mem _ hb))
theorem cr_sortedPB {X : Cx} : CallR X (.builtin "sorted") (rSortedPB X.K) := by
  intro pins s σ H vs us Q I r h
  obtain ⟨a, zs, rfl, hs, hx, q⟩ := h
  have uq : ∀ z ∈ zs, keyZ X.K H z.1 = z.2 := fun z hz => by
    have ex : ∃ p, PairIs X.K H z.1 p := ⟨_, hx z hz⟩
    obtain ⟨t, e1, h1⟩ := hx z hz
    obtain ⟨t', e2, h2⟩ := ex.choose_spec
    unfold keyZ
    rw [dif_pos ex]
    rw [e1] at e2
    cases e2
    have e := I.tuple_inj h1 h2
    have ea : z.2.1 = ex.choose.1 := V.int.inj (List.cons.inj e).1
    have eb : z.2.2 = ex.choose.2 := V.int.inj (List.cons.inj (List.cons.inj e).2).1
    exact (Prod.ext ea eb).symm
  refine cr_sortedPA pins s σ H _ us Q I r ⟨a, zs.map (·.1), keyZ X.K H, rfl, hs, fun x hx' => ?_, fun ys p h1 h2 hp => ?_⟩
  · obtain ⟨z, hz, rfl⟩ := List.mem_map.mp hx'
    rw [uq z hz]
    exact hx z hz
  · have O := ltP_swo (keyZ X.K H)
    obtain ⟨s1, s2⟩ := sort_ok O (zs.map (·.1))
    have e : ys = sortL (ltP (keyZ X.K H)) (zs.map (·.1)) := SrtO.stb_uniq O h1 s1 (h2.trans ⟨s2.perm.symm, fun x => (s2.cls x).symm⟩)
    have pr : Paired (fun z x => x = z.1 ∧ keyZ X.K H z.1 = z.2) zs (zs.map (·.1)) := map_pair fun z hz => ⟨rfl, uq z hz⟩
    have sp := sort_pair (lt := ltZ) (lt' := ltP (keyZ X.K H)) (fun a b a' b' p p' => by unfold ltZ ltP; rw [p.1, p'.1, p.2, p'.2]) pr
    have e2 := pair_map (f := (·.1)) (fun a b p => p.1) sp
    rw [e, e2]
    exact q p hp
end Mk
namespace Mx
open PySem PySem.Spec PyProof.Rows L2
section
variable {G : Gx} {T : List Addr} {E : XK}
def k2 : A → Option (Int × Int)
  | .tup [.int i, .int j] => some (i, j)
  | _ => none
def ltA (a b : A) : Bool := match k2 a, k2 b with
  | some p, some q => SrtO.lexB p q
  | _, _ => false
def fSortP : FL := fun l st => match l with
  | [.ref n] => match st[n]? with
    | some (.lst l) => if (l.all fun a => (k2 a).isSome) = true then some (.ref st.length, st ++ [.lst (Mk.sortL ltA l)]) else none
    | _ => none
  | _ => none
theorem k2_im {ι : List Addr} {H : Hp} {a : A} {v : V} {p : Int × Int} (e : k2 a = some p) (im : Im G.K H ι a v) : Mk.PairIs G.K H v p := by
  unfold k2 at e
  split at e
  · cases e
    obtain ⟨t, xs, rfl, hx, il⟩ := im_tup' im
    obtain ⟨v, w, rfl, i1, i2⟩ := imL_2 il
    rw [im_int' i1, im_int' i2] at hx
    exact ⟨t, rfl, hx⟩
  · cases e
theorem zs_of {ι : List Addr} {H : Hp} : ∀ {l : List A} {xs : List V}, ImL G.K H ι l xs → (l.all fun a => (k2 a).isSome) = true → ∃ zs : List (V × Int × Int), xs = zs.map (·.1) ∧ Paired (fun a z => Im G.K H ι a z.1 ∧ k2 a = some z.2) l zs
  | [], _, im, _ => ⟨[], imL_nil' im, .nil⟩
  | a :: l, _, im, h => by
    obtain ⟨v, vs, rfl, i1, i2⟩ := imL_cons' im
    rw [List.all_cons, Bool.and_eq_true] at h
    obtain ⟨zs, rfl, r⟩ := zs_of i2 h.2
    obtain ⟨p, hp⟩ := Option.isSome_iff_exists.mp h.1
    exact ⟨(v, p) :: zs, rfl, .cons ⟨i1, hp⟩ r⟩
theorem imL_zs {ι : List Addr} {H : Hp} {l : List A} {zs : List (V × Int × Int)} (r : Paired (fun a z => Im G.K H ι a z.1 ∧ k2 a = some z.2) l zs) : ImL G.K H ι l (zs.map (·.1)) := by
  induction r with
  | nil => exact imL_nil
  | cons h r ih => exact imL_cons h.1 ih
theorem pair_mem {α β : Type} {F : α → β → Prop} {l : List α} {m : List β} (r : Paired F l m) : ∀ b ∈ m, ∃ a, F a b := by
  induction r with
  | nil => exact fun _ h => (nomatch h)
  | cons h r ih =>
    intro b hb
    rcases List.mem_cons.mp hb with rfl | hb
    · exact ⟨_, h⟩
    · exact ih b hb
theorem ok_sortP (M : AmX G T) : OkL G (Mk.rSortedPB G.K) fSortP := fun ι st H as xs c Q R im e q => by
  unfold fSortP at e
  split at e
  · split at e
    · rename_i n _ l hl
      split at e
      · rename_i ha
        cases e
        obtain ⟨v, rfl, i1⟩ := imL_1 im
        obtain ⟨p, ys, rfl, _, hx, il⟩ := R.lst hl i1
        obtain ⟨zs, rfl, r⟩ := zs_of il ha
        refine ⟨p, zs, rfl, .inl (.inl hx), fun z hz => ?_, fun p' hp => PE1.lst M R ?_ q hp⟩
        · obtain ⟨a, ia, ka⟩ := pair_mem r z hz
          exact k2_im ka ia
        · exact imL_zs (Mk.sort_pair (lt := ltA) (lt' := Mk.ltZ) (fun a b a' b' p p' => by unfold ltA Mk.ltZ; rw [p.2, p'.2]) r)
      · cases e
    · cases e
  · cases e
end
end Mx

/-! ### MkY1 -/
set_option Elab.async false
set_option linter.all false
set_option maxRecDepth 100000
set_option maxHeartbeats 4000000
namespace Mx
open PySem PySem.Spec PyProof.Rows L2
section
variable {G : Gx} {T : List Addr} {E : XK}
/-! ### min(i, j), int(text) -/
def fMin2 : FL := fun l st => match l with
  | [.int i, .int j] => some (.int (if j < i then j else i), st)
  | _ => none
theorem ok_min2 : OkL G (fun xs H Q => ∃ i j : Int, xs = [.int i, .int j] ∧ Q (.int (if j < i then j else i)) H) fMin2 := fun ι st H as xs c Q R im e q => by
  unfold fMin2 at e
  split at e
  · cases e
    obtain ⟨v, w, rfl, i1, i2⟩ := imL_2 im
    exact ⟨_, _, by rw [im_int' i1, im_int' i2], PE1.at q R im_int⟩
  · cases e
def fIntS : FL := fun l st => match l with
  | [.str a] => match PySem.intText? a with
    | some n => if a.length ≤ 640 then some (.int n, st) else none
    | none => none
  | _ => none
theorem ok_intS : OkL G (fun xs H Q => ∃ (a : Str) (n : Int), xs = [.str a] ∧ PySem.intText? a = some n ∧ a.length ≤ 640 ∧ Q (.int n) H) fIntS := fun ι st H as xs c Q R im e q => by
  unfold fIntS at e
  split at e
  · split at e
    · rename_i n hn
      split at e
      · rename_i hl
        cases e
        obtain ⟨v, rfl, i1⟩ := imL_1 im
        exact ⟨_, n, by rw [im_str' i1], hn, hl, PE1.at q R im_int⟩
      · cases e
    · cases e
  · cases e
/-! ### texts: not in, split, times -/
def fNotInS : F2 := fun a b st => match a, b with
  | .str i, .str j => some (.bl (!(!(Builtin.Str.occurrences j i 0 j.length 1).isEmpty)), st)
  | _, _ => none
theorem ok_notInS : Ok2 G (fun x y H Q => ∃ i j : Str, x = .str i ∧ y = .str j ∧ Q (.bl (!(!(Builtin.Str.occurrences j i 0 j.length 1).isEmpty))) H) fNotInS := fun ι st H a b x y c Q R ia ib e q => by
  unfold fNotInS at e
  split at e
  · cases e
    exact ⟨_, _, im_str' ia, im_str' ib, PE1.at q R im_bl⟩
  · cases e
theorem imL_strs {ι : List Addr} {H : Hp} : ∀ {ys : List Str}, ImL G.K H ι (ys.map A.str) (ys.map V.str)
  | [] => imL_nil
  | y :: ys => by
    rw [List.map_cons, List.map_cons]
    exact imL_cons im_str (imL_strs (ys := ys))
def fSplit : FB := fun a as st => match a, as with
  | .str a, [.str b] => if (b.length == 0) = false ∧ a.length + 2 ≤ sizeLine then some (.ref st.length, st ++ [.lst ((Txt.split a b).map .str)]) else none
  | _, _ => none
theorem ok_split (M : AmX G T) : OkM G (fun x xs H Q => ∃ a b : Str, x = .str a ∧ xs = [.str b] ∧ (b.length == 0) = false ∧ a.length + 2 ≤ sizeLine ∧ rNewStrs (Txt.split a b) H Q) fSplit := fun ι st H a x as xs c Q R ia il e q => by
  unfold fSplit at e
  split at e
  · split at e
    · rename_i hz
      cases e
      obtain ⟨y, rfl, iy⟩ := imL_1 il
      exact ⟨_, _, im_str' ia, by rw [im_str' iy], hz.1, hz.2, fun p hp => PE1.lst M R imL_strs q hp⟩
    · cases e
  · cases e
/-- a text of one sign, n times -/
def fRepS : F2 := fun a b st => match a, b with
  | .str x, .int n => match x.cps.toList with
    | [c] => if 0 ≤ n ∧ n ≤ 100000 then some (.str ⟨(List.replicate n.toNat c).toArray⟩, st) else none
    | _ => none
  | _, _ => none
def rRepS : R2 := fun x y H Q => ∃ (a : Str) (c : Nat) (n : Int), x = .str a ∧ y = .int n ∧ a.cps.toList = [c] ∧ 0 ≤ n ∧ n ≤ 100000 ∧ Q (.str ⟨(List.replicate n.toNat c).toArray⟩) H
theorem fold_rep {c : Nat} : ∀ (n : Nat) (acc : Array Nat), (List.replicate n (#[c] : Array Nat)).foldl (· ++ ·) acc = acc ++ (List.replicate n c).toArray
  | 0, acc => by simp
  | n + 1, acc => by
    rw [List.replicate_succ, List.foldl_cons, fold_rep n, List.replicate_succ]
    apply Array.toList_inj.mp
    simp
theorem op_repS {X : Cx} : OpR X (binaryOp .Mult) rRepS := by
  intro pins s σ H x y v u Q I rx ry h
  obtain ⟨a, c, n, rfl, rfl, ha, h0, h1, q⟩ := h
  obtain ⟨t, rfl⟩ := rx
  obtain ⟨t2, rfl⟩ := ry
  have ea : a = ⟨#[c]⟩ := by
    cases a with
    | mk cps =>
      have : cps = #[c] := by
        apply Array.toList_inj.mp
        exact ha
      rw [this]
  have hl : a.length = 1 := by rw [ea]; rfl
  have fin : ∀ z : Made, (z = .str ⟨(List.replicate n.toNat c).toArray⟩ ∨ (z = .val (.str a t) ∧ n = 1)) → z.post (fun u' s' => ∃ w' H', Inv X pins σ H' s' ∧ RelV w' u' ∧ Q w' H') s := fun z hz => by
    rcases hz with rfl | ⟨rfl, rfl⟩
    · refine ⟨?_, ⟨.str _, _, I.kept (t' := s.toks + 1) fun _ _ e => e, ⟨_, rfl⟩, q⟩⟩
      show (List.replicate n.toNat c).toArray.size ≤ sizeLine
      rw [List.size_toArray, List.length_replicate, sizeLine_eq]
      omega
    · refine ⟨.str a, _, I, ⟨_, rfl⟩, ?_⟩
      rw [ea]
      exact q
  refine PySem.P.mul_str ?_ (fun hn hx => ?_) (fun hn hx => ?_) (fin _ ?_)
  · have e1 : ¬ n < -(2 ^ 63 : Int) := by omega
    have e2 : ¬ n ≥ 2 ^ 63 := by omega
    rw [decide_eq_false e1, decide_eq_false e2]
    rfl
  · rw [hl]
    have h2 : (1 : Int) ≤ (2 ^ 63 - 1) / n := by
      rw [Int.le_ediv_iff_mul_le (by omega)]
      omega
    omega
  · rw [hl, Nat.one_mul]
    unfold Builtin.Str.tooLong
    rw [decide_eq_false]
    rw [sizeLine_eq]
    omega
  · rw [hl]
    by_cases hn : n < 1
    · rw [if_pos hn]
      have : n = 0 := by omega
      subst this
      exact .inl rfl
    · rw [if_neg hn]
      by_cases h1 : n = 1
      · subst h1
        exact .inr ⟨rfl, rfl⟩
      · have e : (n == 1 || (1 : Nat) == 0) = false := by simp [h1]
        rw [e, ea]
        refine .inl ?_
        show Made.str ⟨(List.replicate n.toNat (#[c] : Array Nat)).foldl (· ++ ·) #[]⟩ = _
        rw [fold_rep]
        simp
theorem ok_repS : Ok2 G rRepS fRepS := fun ι st H a b x y c Q R ia ib e q => by
  unfold fRepS at e
  split at e
  · split at e
    · rename_i cc hc
      split at e
      · rename_i hz
        cases e
        exact ⟨_, cc, _, im_str' ia, im_int' ib, hc, hz.1, hz.2, PE1.at q R im_str⟩
      · cases e
    · cases e
  · cases e
/-! ### the place of a text in a list of texts -/
def fIndexS : FB := fun a as st => match a, as with
  | .ref n, [.str y] => match st[n]? with
    | some (.lst l) => match strsOf l with
      | some ys => if y ∈ ys then some (.int (ys.idxOf y : Nat), st) else none
      | none => none
    | _ => none
  | _, _ => none
theorem ok_indexS : OkM G (rIndex G.K) fIndexS := fun ι st H a x as xs c Q R ia il e q => by
  unfold fIndexS at e
  split at e
  · rename_i kk yy
    split at e
    · rename_i l hl
      split at e
      · rename_i ys hys
        split at e
        · rename_i hy
          cases e
          obtain ⟨z, rfl, iz⟩ := imL_1 il
          obtain ⟨p, xs, rfl, hp, hx, jl⟩ := R.lst hl ia
          rw [strsOf_im jl hys] at hx
          have hlt : ys.idxOf yy < ys.length := List.idxOf_lt_length_of_mem hy
          refine ⟨p, _, _, ys.idxOf yy, .str yy, rfl, by rw [im_str' iz], .inl (.inl hx), rfl, ?_, ?_, ?_, fun m z' hm hz => ?_, PE1.at q R im_int⟩
          · rw [List.all_map]
            exact List.all_eq_true.mpr fun _ _ => rfl
          · rw [List.getElem?_map, List.getElem?_eq_getElem hlt, List.getElem_idxOf hlt]
            rfl
          · unfold eqV
            simp
          · rw [List.getElem?_map] at hz
            obtain ⟨w, hw, rfl⟩ := Option.map_eq_some_iff.mp hz
            show (w == _) = false
            apply beq_eq_false_iff_ne.mpr
            have h1 := List.not_of_lt_findIdx (p := fun x => x == yy) (xs := ys) hm
            obtain ⟨h2, h3⟩ := List.getElem?_eq_some_iff.mp hw
            rw [h3] at h1
            exact beq_eq_false_iff_ne.mp h1
        · cases e
      · cases e
    · cases e
  · cases e
end
end Mx

/-! ### MkZ5 -/
set_option Elab.async false
set_option linter.all false
set_option maxRecDepth 100000
set_option maxHeartbeats 4000000
namespace Mk
open PySem PySem.Spec PyProof.Rows L2
section
variable {X : Cx} {K : PySem.W.Frag} {w : World}
def rSetX (K : PySem.W.Frag) (w : World) : TSet := fun x y v H Q => ∃ a H', x = V.ref a ∧ XPut K w H a y v H' ∧ Q H'
theorem set_X (hu : X.A.units + 64 < cLine) : PSet X (rSetX X.K X.w) := by
  intro pins s σ H o i v ov iv u Q I ro ri rv h
  obtain ⟨a, H', rfl, g, q⟩ := h
  cases ro
  exact x_setItem hu I g ri rv fun s' I' => ⟨H', I', q⟩
def rInX (K : PySem.W.Frag) (w : World) : R2 := fun y x H Q => ∃ a o, x = V.ref a ∧ XGet K w H a y o ∧ Q (.bl o.isSome) H
def rNotInX (K : PySem.W.Frag) (w : World) : R2 := fun y x H Q => ∃ a o, x = V.ref a ∧ XGet K w H a y o ∧ Q (.bl (!o.isSome)) H
theorem op_inX (hu : X.A.units + 64 < cLine) : OpR X (compareOp .In) (rInX X.K X.w) := by
  intro pins s σ H x y v u Q I rx ry h
  obtain ⟨a, o, rfl, g, q⟩ := h
  cases ry
  exact x_in hu I g rx fun s' I' => ⟨.bl o.isSome, H, I', rfl, q⟩
theorem op_notInX (hu : X.A.units + 64 < cLine) : OpR X (compareOp .NotIn) (rNotInX X.K X.w) := by
  intro pins s σ H x y v u Q I rx ry h
  obtain ⟨a, o, rfl, g, q⟩ := h
  cases ry
  exact x_notIn hu I g rx fun s' I' => ⟨.bl (!o.isSome), H, I', rfl, q⟩
/-! with K itself -/
theorem set_XK (h : X.K = K) (hu : X.A.units + 64 < cLine) (hw : X.w = w := by rfl) : PSet X (rSetX K w) := by subst h hw; exact set_X hu
theorem op_inXK (h : X.K = K) (hu : X.A.units + 64 < cLine) (hw : X.w = w := by rfl) : OpR X (compareOp .In) (rInX K w) := by subst h hw; exact op_inX hu
theorem op_notInXK (h : X.K = K) (hu : X.A.units + 64 < cLine) (hw : X.w = w := by rfl) : OpR X (compareOp .NotIn) (rNotInX K w) := by subst h hw; exact op_notInX hu
theorem pe_xgetK (h : X.K = K) {o i : Expr} {pos : Pos} {td ty : TE} (hu : X.A.units + 64 < cLine) (ho : PE X o td) (hi : PE X i ty) (hs : NoSl i) (hw : X.w = w := by rfl) : PE X (.Subscript o i pos) (tXGet K w td ty) := by subst h hw; exact pe_xget hu ho hi hs
theorem pe_xsetdK (h : X.K = K) {o e f : Expr} {apos cpos : Pos} {td ty tx : TE} (hu : X.A.units + 64 < cLine) (ho : PE X o td) (he : PE X e ty) (hf : PE X f tx) (m : M2 X o "setdefault" apos e f cpos) (hw : X.w = w := by rfl) : PE X (.Call (.Attribute o "setdefault" apos) [e, f] [] cpos) (tXSetd K w td ty tx) := by subst h hw; exact pe_xsetd hu ho he hf m
theorem pe_xget2K (h : X.K = K) {o e f : Expr} {apos cpos : Pos} {td ty tx : TE} (hu : X.A.units + 64 < cLine) (ho : PE X o td) (he : PE X e ty) (hf : PE X f tx) (m : M2 X o "get" apos e f cpos) (hw : X.w = w := by rfl) : PE X (.Call (.Attribute o "get" apos) [e, f] [] cpos) (tXGet2 K w td ty tx) := by subst h hw; exact pe_xget2 hu ho he hf m
theorem cr_sortedPBK (h : X.K = K) : CallR X (.builtin "sorted") (rSortedPB K) := h ▸ cr_sortedPB
theorem pi_zipK (h : X.K = K) {e e2 : Expr} {ta : TA} {p pos tpos : Pos} {elts : List Expr} {kk : Nat} (hg : Gl X "zip") (hm : X.mg "zip" = none) (ha : PA X [e, e2] ta)
    (hs : starEach [e, e2] X.env = (false, eval e X.env) :: starEach [e2] X.env := by rfl) (hpl : (backTo pos (starEach [e2] X.env)).any (·.1) = false := by rfl) :
    PI X (.Tuple elts kk tpos) (.Call (.Name "zip" p) [e, e2] [] pos) (RZ.iZipA K ta) := h ▸ RZ.pi_zipA hg hm ha hs hpl
theorem pa_starK (h : X.K = K) {e : Expr} {es : List Expr} {p : Pos} {te : TE} {t : TA} (he : PE X e te) (hr : PA X es t) (hs : starEach (.Starred e p :: es) X.env = (true, eval e X.env) :: starEach es X.env := by rfl) : PA X (.Starred e p :: es) (StX.tStar K te t) := h ▸ StX.pa_star he hr hs
theorem mt_indexDK (h : X.K = K) (hu : X.A.units + 65 < cLine) : MtR X "list.index" (rIndexD K) := h ▸ mt_indexD hu
theorem pe_xcK (hK : X.K = K) {kx vx tg iter : Expr} {ifs : List Expr} {scope : Scope} {own : List (Str × Nat)} {pos : Pos} {wi : TI} {g : TG} {tt : TT} {tk tv : TE} (hu : X.A.units + 64 < cLine) (calm : X.calm = true) (nd : X.N.Nodup) (hi : PI X tg iter wi) (ok : BlkOk X.N X.env.scope scope own)
    (hg : ∀ (s : Shared) (H : Hp) (C : Addr) (cl : List (Str × Addr)) (fp : List Addr), PG (X.blk s H scope (compEnvC scope cl C X.env) fp) tg g) (ht : ∀ (s : Shared) (H : Hp) (C : Addr) (cl : List (Str × Addr)) (fp : List Addr), PTs (X.blk s H scope (compEnvC scope cl C X.env) fp) ifs tt)
    (hk : ∀ (s : Shared) (H : Hp) (C : Addr) (cl : List (Str × Addr)) (fp : List Addr), PE (X.blk s H scope (compEnvC scope cl C X.env) fp) kx tk)
    (hv : ∀ (s : Shared) (H : Hp) (C : Addr) (cl : List (Str × Addr)) (fp : List Addr), PE (X.blk s H scope (compEnvC scope cl C X.env) fp) vx tv) (hs : ∀ x, foldedSetIterable iter X.env x = pure x := by intro _; rfl) (hw : X.w = w := by rfl) :
    PE X (.DictComp kx vx [⟨tg, iter, ifs, 0⟩] scope pos) (tXc K w wi g tt tk tv (own.map (·.2))) := by subst hK hw; exact pe_xc hu calm nd hi ok hg ht hk hv hs
theorem ps_setXc (hK : X.K = K) {i : Nat} {y : Str} {py : Pos} {kx vx tg iter : Expr} {ifs : List Expr} {scope : Scope} {own : List (Str × Nat)} {pos spos : Pos} {wi : TI} {g : TG} {tt : TT} {tk tv : TE} (hu : X.A.units + 64 < cLine) (calm : X.calm = true) (nd : X.N.Nodup) (hy : X.N[i]? = some y) (hyl : X.env.scope.names.lookup y = some .local)
    (hsw : swapsWith (.DictComp kx vx [⟨tg, iter, ifs, 0⟩] scope pos) (some (.Name y py)) spos.line X.env = pure true) (hi : PI X tg iter wi) (ok : BlkOk X.N X.env.scope scope own)
    (hg : ∀ (s : Shared) (H : Hp) (C : Addr) (cl : List (Str × Addr)) (fp : List Addr), PG (X.blk s H scope (compEnvC scope cl C X.env) fp) tg g) (ht : ∀ (s : Shared) (H : Hp) (C : Addr) (cl : List (Str × Addr)) (fp : List Addr), PTs (X.blk s H scope (compEnvC scope cl C X.env) fp) ifs tt)
    (hk : ∀ (s : Shared) (H : Hp) (C : Addr) (cl : List (Str × Addr)) (fp : List Addr), PE (X.blk s H scope (compEnvC scope cl C X.env) fp) kx tk)
    (hv : ∀ (s : Shared) (H : Hp) (C : Addr) (cl : List (Str × Addr)) (fp : List Addr), PE (X.blk s H scope (compEnvC scope cl C X.env) fp) vx tv) (hs : ∀ x, foldedSetIterable iter X.env x = pure x := by intro _; rfl) (hw : X.w = w := by rfl) :
    PS X (.Assign [.Name y py] (.DictComp kx vx [⟨tg, iter, ifs, 0⟩] scope pos) spos) (tAsg (tXc K w wi g tt tk tv (own.map (·.2))) (gName i)) := by
  subst hK hw
  refine ⟨fun pins s σ H D I h => ?_⟩
  rw [exec_Assign_Name_used _ _ _ _ hsw]
  refine wpAny_bind (wpAny_standAt (wpAny_bind ?_))
  have h : tXc X.K X.w wi g tt tk tv (own.map (·.2)) σ H (fun x H1 => gName i x σ H1 D.nx) := h
  refine wpAny_bind (thn (xc_run (Qf := fun _ s' => SP X pins D .next s') hu calm nd I hi ok hg ht hk hv hs h fun L C s' m H' I' q hn f => ?_) fun _ s' hq => wpAny_pure (wpAny_pure hq))
  show wpAny _ _ (assign (.Name y py) X.env (.ref L)) _ _ _
  refine wpAny_assign_Name (store_ok2 (v := V.ref L) I' nd hy (.inl hyl) rfl (fun s2 I2 ⟨a, sb, ha⟩ => ?_) (.inr hyl))
  obtain ⟨f0, f1, f2, f3, f4, f5⟩ := f
  have haC : C ≠ a := ha.elim (fun z => by rw [z]; exact f1) fun z e => f4 y a z e.symm
  exact ⟨m, hn.sameBut sb haC, fun h3 sb3 => ⟨_, H', I2.turned (t' := s2.toks) (fun b o hb e => (sb3.2 b hb).trans e) f0 f1 f3 f4 f5, q⟩⟩
theorem sw_trueD {kx vx : Expr} {gs : List Comprehension} {scope : Scope} {pos py : Pos} {y : Str} {l : Nat} {env : Env} (hk : env.scope.kind = .function) (hy : env.scope.names.lookup y = some .local) (hl : (py.line == pos.line) = true)
    (ha : (scope.names.any fun (n, k) => n == y && (k == .local || k == .cell)) = false) : swapsWith (.DictComp kx vx gs scope pos) (some (.Name y py)) l env = pure true := by
  have ky : env.kindOf y = some .local := hy
  have hb : env.blockKind = .function := by unfold Env.blockKind; rw [hk]; rfl
  unfold swapsWith
  simp only [hb, ky, ha, Expr.pos, hl]
  rfl
/-- a tuple or a list, walked -/
def iSeq (K : PySem.W.Frag) (tl : TE) : TI := fun σ H R => tl σ H fun x H1 => ∃ a, x = .ref a ∧ (((∃ xs, SqT K H1 a xs) ∧ R (Itt K a) H1) ∨ ((∃ xs, SqL K H1 a xs) ∧ R (Itl K a) H1))
theorem pi_seqK (hK : X.K = K) {tg l : Expr} {tl : TE} (hl : PE X l tl) : PI X tg l (iSeq K tl) := by
  subst hK
  refine ⟨fun pins s σ H R I h => ?_⟩
  refine thn (hl.run pins s σ H _ I h) fun v s1 ⟨x, H1, I1, r1, a, e, q1⟩ => ?_
  subst e
  obtain rfl : v = Value.ref a := r1
  rcases q1 with ⟨⟨xs, hq⟩, q⟩ | ⟨⟨xs, hq⟩, q⟩
  · obtain ⟨its, rv, p, hz⟩ := I1.tuple hq
    exact wpAny_pyIter_tuple (show s1.heap.IsTuple a its.toArray from p) (pi_one (tk := s1.toks) I1 _ (turn_tuple a _) ⟨_, Heap.get?_push_size _ rfl, rfl, rfl⟩ q)
  · obtain ⟨its, rv, p, hz⟩ := I1.list hq
    exact wpAny_pyIter_list p.isList (pi_one (tk := s1.toks) I1 _ (turn_list a _) ⟨_, Heap.get?_push_size _ rfl, rfl, rfl⟩ q)
end
theorem boot_range' : bootBuiltins "range" = some (.type "range") := PyProof.Rows.boot_range
end Mk
namespace Mx
open PySem PySem.Spec PyProof.Rows L2
section
variable {G : Gx} {T : List Addr} {E : XK}
def gmSubD (mo mi : EM) : GM := fun v env st => (mo env st).bind fun o => (mi env o.2).bind fun i => (ofO (putO o.1 i.1 v i.2)).bind fun s => .ok (env, s)
theorem exg_subD (M : AmX G T) {to ti : TE} {mo mi : EM} (ho : Ex G E to mo) (hi : Ex G E ti mi) : ExG G E (gSub to ti (Mk.rSetX G.K G.w)) (gmSubD mo mi) := fun ι env st σ H a v Q R Ev im h => by
  refine ho.run R Ev h fun ι1 H1 o s1 ov f1 R1 Ev1 io q1 => ?_
  refine hi.run R1 Ev1 q1 fun ι2 H2 i s2 iv f2 R2 Ev2 ii q2 => ?_
  obtain ⟨s3, e, q⟩ := ofO_holds (holds_bind q2)
  obtain ⟨p, H3, rfl, c, f3, R3⟩ := putO_ok M R2 (R1.im f2 io) ii (R1.im f2 (R.im f1 im)) e
  exact ⟨p, H3, rfl, cput_xput c, (show PG1 G ι H Q (env, s3) from q) _ _ ((f1.trans f2).trans f3) R3 σ (R2.env f3 Ev2)⟩
theorem ok_dinX : Ok2 G (Mk.rInX G.K G.w) fDIn := ok_din
theorem ok_dnotinX : Ok2 G (Mk.rNotInX G.K G.w) fDNotIn := ok_dnotin
/-! list.index of a thing -/
def fIndexD : FB := fun a as st => match a, as with
  | .ref n, [y] => match st[n]? with
    | some (.lst l) => match toPs st 40 l, toP st 40 y with
      | some ds, some d => if (SeqAt.shaped (.list ds) && SeqAt.shaped d) = true then (ds.findIdx? fun z => PyData.eqv z d).map fun j => (.int (j : Nat), st) else none
      | _, _ => none
    | _ => none
  | _, _ => none
theorem ok_indexD : OkM G (rIndexD G.K) fIndexD := fun ι st H a x as xs c Q R ia il e q => by
  unfold fIndexD at e
  split at e
  · split at e
    · rename_i l hl
      split at e
      · rename_i ds d h1 h2
        split at e
        · rename_i hs
          rw [Bool.and_eq_true] at hs
          obtain ⟨j, hj, rfl⟩ := Option.map_eq_some_iff.mp e
          obtain ⟨hlt, p1, p2⟩ := List.findIdx?_eq_some_iff_getElem.mp hj
          obtain ⟨z, rfl, iz⟩ := imL_1 il
          obtain ⟨p, xs, rfl, hp, hx, jl⟩ := R.lst hl ia
          refine ⟨p, z, d, ds, j, ds[j], rfl, rfl, .lst (.inl (.inl hx)) (dps_of R jl h1), dp_of R iz h2, hs.1, hs.2, List.getElem?_eq_getElem hlt, p1, fun m z' hm hz => ?_, PE1.at q R im_int⟩
          obtain ⟨hml, rfl⟩ := List.getElem?_eq_some_iff.mp hz
          have := p2 m hm
          simpa using this
        · cases e
      · cases e
    · cases e
  · cases e
def miSeq (ma : EM) : IM := fun env st => (ma env st).bind fun a => match a.1 with
  | .tup l => .ok (itTup l, a.2)
  | .ref n => match a.2[n]? with
    | some (.lst _) => .ok (itLst n, a.2)
    | _ => .fail
  | _ => .fail
theorem exi_seq {ta : TE} {ma : EM} (ha : Ex G E ta ma) : ExI G E (Mk.iSeq G.K ta) (miSeq ma) := fun ι env st σ H R0 R Ev h => by
  refine ha.run R Ev h fun ι1 H1 a s1 v f1 R1 Ev1 im h1 => ?_
  cases a with
  | tup l =>
    obtain ⟨p, xs, rfl, hx, il⟩ := im_tup' im
    refine ⟨p, rfl, .inl ⟨⟨xs, hx⟩, h1 _ _ _ f1 R1 fun ι2 H2 st2 f2 R2 i => ?_⟩⟩
    have il2 := R1.imL f2 il
    have hx2 := R1.seq f2 hx
    show match ofL l i st2 with | .no => True | .stop => _ | .item a s => _
    unfold ofL
    cases e : l[i]? with
    | none => exact ⟨xs, hx2, List.getElem?_eq_none_iff.mp ((im_at il2).1 e)⟩
    | some b =>
      obtain ⟨w, hw, iw⟩ := (im_at il2).2 b e
      refine ⟨⟨xs, w, hx2, hw⟩, fun x H' y => ?_⟩
      obtain ⟨rfl, y⟩ := y
      have := y xs hx2
      rw [hw] at this
      cases this
      exact ⟨ι2, Fr.refl _ _, R2, iw⟩
  | ref n =>
    dsimp only at h1
    split at h1
    · rename_i l0 hl0
      obtain ⟨p, xs, rfl, hp, hx, il⟩ := R1.lst hl0 im
      refine ⟨p, rfl, .inr ⟨⟨xs, .inl (.inl hx)⟩, h1 _ _ _ f1 R1 fun ι2 H2 st2 f2 R2 i => ?_⟩⟩
      show match (match st2[n]? with | some (.lst l) => ofL l i st2 | _ => Nx.no) with | .no => True | .stop => _ | .item a s => _
      cases hl : st2[n]? with
      | none => exact True.intro
      | some o =>
        cases o with
        | lst l =>
          obtain ⟨p2, ys, e2, hp2, hy, jl⟩ := R2.lst hl (R1.im f2 im)
          cases e2
          show match ofL l i st2 with | .no => True | .stop => _ | .item a s => _
          unfold ofL
          cases e : l[i]? with
          | none => exact ⟨ys, .inl (.inl hy), List.getElem?_eq_none_iff.mp ((im_at jl).1 e)⟩
          | some b =>
            obtain ⟨w, hw, iw⟩ := (im_at jl).2 b e
            refine ⟨⟨ys, w, .inl (.inl hy), hw⟩, fun x H' y => ?_⟩
            obtain ⟨rfl, y⟩ := y
            have := y ys (.inl (.inl hy))
            rw [hw] at this
            cases this
            exact ⟨ι2, Fr.refl _ _, R2, iw⟩
        | _ => exact True.intro
    · exact h1.elim
  | _ => exact h1.elim
end
end Mx

/-! ### MkDf -/
set_option Elab.async false
set_option linter.all false
set_option maxRecDepth 100000
set_option maxHeartbeats 4000000
namespace Mk
open PySem PySem.Spec PyProof.Rows L2
section
variable {X : Cx}
/-! ### min(pairs of ints) -/
def rMinP (K : PySem.W.Frag) : List V → Hp → VK → Prop := fun vs H Q => ∃ (a : Addr) (zs : List (V × Int × Int)), vs = [V.ref a] ∧ zs ≠ [] ∧ SqL K H a (zs.map (·.1)) ∧ (∀ z ∈ zs, PairIs K H z.1 z.2) ∧
  ∀ z ∈ zs, (∀ z' ∈ zs, SrtO.lexB z'.2 z.2 = false) → Q z.1 H
def datP (p : Int × Int) : PyData := .tuple [.int p.1, .int p.2]
theorem reads_pairs {h : Heap} : ∀ {its : List Value} {ps : List (Int × Int)}, Paired (fun v p => Srt.IsPair h v p.1 p.2) its ps → ReadsAll h its (ps.map datP) []
  | _, _, .nil => .nil
  | _, _, .cons k r => by
    obtain ⟨t, o, t1, t2, n, rfl, ho, hc, hd⟩ := k
    exact ReadsAll.cons (as := []) (bs := []) (Reads.tuple ho hc hd (ReadsAll.cons (as := []) (bs := []) (.int _ _) (ReadsAll.cons (as := []) (bs := []) (.int _ _) .nil))) (reads_pairs r)
theorem lt_datP (p q : Int × Int) : PySem.W.dataLt (datP p) (datP q) = SrtO.lexB p q := by
  unfold datP
  rw [PySem.W.dataLt_ii]
  cases h : SrtO.lexB p q with
  | true => exact decide_eq_true (SrtO.lexB_iff.mp h)
  | false =>
    have := SrtO.lexB_no.mp h
    exact decide_eq_false fun z => by omega
theorem min_foldP : ∀ (ps : List (Int × Int)) (x : Int × Int), ∃ p ∈ x :: ps, PySem.W.minD (datP x) (ps.map datP) = datP p ∧ ∀ q ∈ x :: ps, SrtO.lexB q p = false
  | [], x => ⟨x, List.mem_cons_self, rfl, fun q hq => by rw [List.mem_singleton.mp hq]; exact SrtO.lexB_no.mpr (by omega)⟩
  | y :: ps, x => by
    have e : PySem.W.minD (datP x) ((y :: ps).map datP) = PySem.W.minD (if PySem.W.dataLt (datP y) (datP x) then datP y else datP x) (ps.map datP) := rfl
    rw [e, lt_datP]
    by_cases h : SrtO.lexB y x = true
    · rw [if_pos h]
      obtain ⟨p, hp, e2, mn⟩ := min_foldP ps y
      refine ⟨p, List.mem_cons_of_mem _ hp, e2, fun q hq => ?_⟩
      rcases List.mem_cons.mp hq with rfl | hq
      · have a := SrtO.lexB_iff.mp h
        have b := SrtO.lexB_no.mp (mn y List.mem_cons_self)
        exact SrtO.lexB_no.mpr (by omega)
      · exact mn q hq
    · rw [if_neg h]
      have h : SrtO.lexB y x = false := by cases q : SrtO.lexB y x with
        | true => exact absurd q h
        | false => rfl
      obtain ⟨p, hp, e2, mn⟩ := min_foldP ps x
      refine ⟨p, ?_, e2, fun q hq => ?_⟩
      · rcases List.mem_cons.mp hp with rfl | hp
        · exact List.mem_cons_self
        · exact List.mem_cons_of_mem _ (List.mem_cons_of_mem _ hp)
      · rcases List.mem_cons.mp hq with rfl | hq
        · exact mn _ List.mem_cons_self
        · rcases List.mem_cons.mp hq with rfl | hq
          · have a := SrtO.lexB_no.mp h
            have b := SrtO.lexB_no.mp (mn x List.mem_cons_self)
            exact SrtO.lexB_no.mpr (by omega)
          · exact mn q (List.mem_cons_of_mem _ hq)
theorem datP_inj {h : Heap} {v : Value} {p : Int × Int} {bs : List Addr} {a b : Int} (r : Reads h v (datP p) bs) (i : Srt.IsPair h v a b) : p = (a, b) := by
  obtain ⟨t, o, t1, t2, n, rfl, ho, hc, hd⟩ := i
  unfold datP at r
  cases r with
  | tuple ho' hc' hd' ra =>
    rw [ho] at ho'
    cases ho'
    rw [hd] at hd'
    cases hd'
    cases ra with
    | cons r1 r2 =>
      cases r1
      cases r2 with
      | cons r3 r4 =>
        cases r3
        rfl
theorem depth_P (ps : List (Int × Int)) : PyData.depthAll (ps.map datP) ≤ 3 := by
  induction ps with
  | nil => exact Nat.zero_le _
  | cons p ps ih =>
    rw [List.map_cons]
    have e : (datP p).depth ≤ 3 := by unfold datP; simp [PyData.depth, PyData.depthAll]
    unfold PyData.depthAll
    omega
theorem alike_P (ps : List (Int × Int)) : PySem.W.AlikeAll (ps.map datP) := by
  refine ⟨fun x hx y hy => ?_, fun x hx => ?_⟩
  · obtain ⟨p, _, rfl⟩ := List.mem_map.mp hx
    obtain ⟨q, _, rfl⟩ := List.mem_map.mp hy
    simp [datP, PySem.W.alike, PySem.W.alikeAll]
  · obtain ⟨p, _, rfl⟩ := List.mem_map.mp hx
    unfold datP
    exact fun e => nomatch e
theorem cr_minP (hu : X.A.units + 64 < cLine) (hc : X.calm = true) : CallR X (.builtin "min") (rMinP X.K) := by
  intro pins s σ H vs us Q I r h
  obtain ⟨a, zs, rfl, ne, hs, hx, q⟩ := h
  obtain ⟨its, rv, hl, hz⟩ := I.list hs
  obtain ⟨u, rfl, ru⟩ := vals1 r
  cases ru
  have all : ∀ (zs : List (V × Int × Int)) (its : List Value), Vals (zs.map (·.1)) its → (∀ z ∈ zs, PairIs X.K H z.1 z.2) → Paired (fun v p => Srt.IsPair s.heap v p.1 p.2) its (zs.map (·.2)) := by
    intro zs
    induction zs with
    | nil => intro its rv _; cases rv; exact .nil
    | cons z zs ih =>
      intro its rv hx
      rw [List.map_cons] at rv
      cases rv with
      | cons r1 r2 =>
        refine .cons ?_ (ih _ r2 fun z hz => hx z (List.mem_cons_of_mem _ hz))
        obtain ⟨t, e, ht⟩ := hx z List.mem_cons_self
        rw [e] at r1
        cases r1
        obtain ⟨ps, rp, ⟨o, ho, hc, n, hd⟩, _⟩ := I.tuple ht
        obtain ⟨u1, u2, rfl, ⟨t1, rfl⟩, ⟨t2, rfl⟩⟩ := vals2 rp
        exact ⟨t, o, t1, t2, n, rfl, ho, hc, hd⟩
  have prs := all zs its rv hx
  have ra := reads_pairs prs
  cases zs with
  | nil => exact absurd rfl ne
  | cons z0 zs =>
    rw [List.map_cons, List.map_cons] at ra
    refine PySem.W.min_list_data (I.ok.hd hc) hl.isList (by rw [List.toList_toArray]; exact ra) (alike_P (z0.2 :: zs.map (·.2))) (by have := depth_P (z0.2 :: zs.map (·.2)); rw [List.map_cons] at this; omega) fun i v h' tk bs hv rd hk => ?_
    have hv : its[i]? = some v := by simpa using hv
    obtain ⟨p, hp, e2, mn⟩ := min_foldP (zs.map (·.2)) z0.2
    rw [e2] at rd
    have hil : i < its.length := (List.getElem?_eq_some_iff.mp hv).1
    have hzl : i < (z0 :: zs).length := by have := rv.length; rw [List.length_map] at this; omega
    obtain ⟨u, hu1, hu2⟩ := rv.get (i := i) (x := (z0 :: zs)[i].1) (by rw [List.getElem?_map, List.getElem?_eq_getElem hzl]; rfl)
    rw [hv] at hu1
    cases hu1
    have hm : (z0 :: zs)[i] ∈ z0 :: zs := List.getElem_mem hzl
    obtain ⟨t, e, ht⟩ := hx _ hm
    have ip : Srt.IsPair h' v (z0 :: zs)[i].2.1 (z0 :: zs)[i].2.2 := by
      rw [e] at hu2
      cases hu2
      obtain ⟨ps, rp, ⟨o, ho, hc, n, hd⟩, _⟩ := I.tuple ht
      obtain ⟨u1, u2, rfl, ⟨t1, rfl⟩, ⟨t2, rfl⟩⟩ := vals2 rp
      exact ⟨t, o, t1, t2, n, rfl, hk _ _ ho, hc, hd⟩
    have ep := datP_inj rd ip
    refine ⟨_, H, I.kept hk, hu2, q _ hm fun z' hz' => ?_⟩
    have := mn z'.2 (by have m := List.mem_map_of_mem (f := fun z : V × Int × Int => z.2) hz'; exact m)
    rw [ep] at this
    exact this
/-! ### min(tuples, key=len) -/
def rMinLen (K : PySem.W.Frag) : List V → Hp → VK → Prop := fun vs H Q => ∃ (a : Addr) (xs : List V) (ns : List Nat), vs = [V.ref a] ∧ xs ≠ [] ∧ SqL K H a xs ∧ xs.length = ns.length ∧
  (∀ (i : Nat) (x : V) (n : Nat), xs[i]? = some x → ns[i]? = some n → ∃ t ys, x = .ref t ∧ SqT K H t ys ∧ ys.length = n) ∧
  ∀ (i : Nat) (x : V) (n : Nat), xs[i]? = some x → ns[i]? = some n → (∀ m ∈ ns, n ≤ m) → (∀ (j m : Nat), j < i → ns[j]? = some m → n < m) → Q x H
theorem argBest_fst (num : Nat → Int) : ∀ k, ∀ j, j < argBest (fun i j => decide (num i < num j)) k → num (argBest (fun i j => decide (num i < num j)) k) < num j
  | 0, j, h => absurd h (Nat.not_lt_zero _)
  | k + 1, j, h => by
    simp only [argBest] at h ⊢
    by_cases hc : num (k + 1) < num (argBest (fun i j => decide (num i < num j)) k)
    · rw [if_pos (decide_eq_true hc)] at h ⊢
      have := (argBest_lt num k).2 j (by omega)
      omega
    · have hd : ¬ decide (num (k + 1) < num (argBest (fun i j => decide (num i < num j)) k)) = true := fun z => hc (of_decide_eq_true z)
      rw [if_neg hd] at h ⊢
      exact argBest_fst num k j h
theorem mins_run {pins : List (Addr × Obj)} {s : Shared} {σ : L2.St} {H : Hp} {vs : List V} {us : List Value} {Q : VK} (hc : X.calm = true) (I : Inv X pins σ H s) (r : Vals vs us) (h : rMinLen X.K vs H Q) :
    wpAny (model X.prog X.w) X.A (call (.builtin "min") us [(Str.ofString "key", .builtin "len")]) (EP X pins σ Q) X.xe s := by
  obtain ⟨a, xs, ns, rfl, ne, hs, hlen, hx, q⟩ := h
  obtain ⟨its, rv, hl, hz⟩ := I.list hs
  obtain ⟨u, rfl, ru⟩ := vals1 r
  cases ru
  have hil := rv.length
  have hh := I.ok.hd hc
  have hn63 := line63
  refine call_min_walkKB (PySem.W.iter_listW (A := X.A.in1) hh hl.isList fun s₂ e W st hfp hw hk => ?_)
  have hsz : s₂.heap.objs.size = s.heap.objs.size + 1 := by rw [e]; exact size_push' ..
  refine ⟨_, _, _, _, _, _, _, (fun s' => ∃ h' tk, s' = { s with heap := h', toks := tk } ∧ ∀ b o, s.heap.get? b = some o → h'.get? b = some o), (fun i k _ => ∃ n t, ns[i]? = some n ∧ k = .int (n : Nat) t), (fun i j => decide (((ns.getD i 0 : Nat) : Int) < ((ns.getD j 0 : Nat) : Int))), rfl, W, st, hfp, ?_, ?_, ?_, ?_⟩
  · have := List.length_pos_iff.mpr ne
    simp only [List.size_toArray]
    omega
  · refine ⟨fun s1 s2 hJ m => ?_, fun i k s1 s2 hV m => hV, fun i v s1 o Q' E' hi hP hJ hst ho hq => ?_, fun i j ki kj s1 Q' E' hJ hi hj hq => ?_⟩
    · obtain ⟨h1, tk1, rfl, k1⟩ := hJ
      obtain ⟨h2, g, d, tk, os⟩ := s2
      refine ⟨h2, tk, ?_, fun b ob eb => m.heap b ob (fun hb => ?_) (k1 b ob eb)⟩
      · have e1 : g = s.gens := m.gens
        have e2 : d = s.drawn := m.drawn
        have e3 : os = s.os := m.os
        subst e1 e2 e3
        rfl
      · have := Heap.lt_size eb
        rcases List.mem_cons.mp hb with hb | hb
        · rw [hb, hsz] at this; exact absurd this (Nat.not_lt.mpr (Nat.le_succ _))
        · rw [List.mem_singleton.mp hb] at this; exact absurd this (Nat.lt_irrefl _)
    · obtain ⟨h1, tk1, rfl, k1⟩ := hJ
      have hv : its[i]? = some v := by simpa using hP
      have hi : i < its.length := by simpa using hi
      have hix : i < xs.length := by omega
      have hin : i < ns.length := by omega
      have hx1 : xs[i]? = some xs[i] := List.getElem?_eq_getElem hix
      have hn1 : ns[i]? = some ns[i] := List.getElem?_eq_getElem hin
      obtain ⟨u, hu1, hu2⟩ := rv.get hx1
      rw [hv] at hu1
      cases hu1
      obtain ⟨t, ys, e1, ht, hyl⟩ := hx i _ _ hx1 hn1
      rw [e1] at hu2
      cases hu2
      obtain ⟨ps, rp, pl, hz2⟩ := I.tuple ht
      have hpl := rp.length
      have pl1 : IsTup h1 t ps.toArray := by
        obtain ⟨o, ho, hr⟩ := pl
        exact ⟨o, k1 _ _ ho, hr⟩
      refine len_tuple pl1 (by simp only [List.size_toArray]; omega) (hq _ _ ⟨h1, _, rfl, k1⟩ hst ho ⟨_, _, hn1, by rw [List.size_toArray, ← hpl, hyl]⟩ fun j k' hv => hv)
    · obtain ⟨n1, t1, e1, rfl⟩ := hi
      obtain ⟨n2, t2, e2, rfl⟩ := hj
      rw [List.getD_eq_getElem?_getD, List.getD_eq_getElem?_getD, e1, e2] at hq
      exact CmpOf.ints_lt (P := fun i v => ∃ n t, ns[i]? = some n ∧ v = .int (n : Nat) t) (fun i => ((ns.getD i 0 : Nat) : Int)) (fun i v ⟨n, t, h1, h2⟩ => ⟨t, by rw [h2, List.getD_eq_getElem?_getD, h1]; rfl⟩) i j _ _ s1 Q' E' ⟨n1, t1, e1, rfl⟩ ⟨n2, t2, e2, rfl⟩ (by
        show Q' (.bool (decide (((ns.getD i 0 : Nat) : Int) < ((ns.getD j 0 : Nat) : Int)))) s1
        rw [List.getD_eq_getElem?_getD, List.getD_eq_getElem?_getD, e1, e2]; exact hq)
  · exact ⟨s₂.heap, s₂.toks, by subst e; rfl, hk⟩
  · intro v s' hP hJ
    obtain ⟨h', tk, rfl, hk'⟩ := hJ
    have hpos := List.length_pos_iff.mpr ne
    have hsize : its.toArray.size = ns.length := by simp only [List.size_toArray]; omega
    rw [hsize] at hP
    obtain ⟨b1, b2⟩ := argBest_lt (fun i => ((ns.getD i 0 : Nat) : Int)) (ns.length - 1)
    have b3 := argBest_fst (fun i => ((ns.getD i 0 : Nat) : Int)) (ns.length - 1)
    generalize argBest (fun i j => decide (((ns.getD i 0 : Nat) : Int) < ((ns.getD j 0 : Nat) : Int))) (ns.length - 1) = i at hP b1 b2 b3
    have hv : its[i]? = some v := by simpa using hP
    have hx1 : xs[i]? = some xs[i] := List.getElem?_eq_getElem (by omega)
    have hn1 : ns[i]? = some ns[i] := List.getElem?_eq_getElem (by omega)
    obtain ⟨u, hu1, hu2⟩ := rv.get hx1
    rw [hv] at hu1
    cases hu1
    refine ⟨_, H, I.kept hk', hu2, q i _ _ hx1 hn1 (fun m hm => ?_) fun j m hj hm => ?_⟩
    rotate_left
    · have := b3 j hj
      rw [List.getD_eq_getElem?_getD, List.getD_eq_getElem?_getD, hn1, hm] at this
      exact Int.ofNat_lt.mp this
    obtain ⟨j, hj⟩ := List.getElem?_of_mem hm
    have hjl := (List.getElem?_eq_some_iff.mp hj).1
    have := b2 j (by omega)
    rw [List.getD_eq_getElem?_getD, List.getD_eq_getElem?_getD, hn1, hj] at this
    exact Int.ofNat_le.mp this
variable {x y : Str} {p p2 kp pos : Pos} {e : Expr} {t : TA}
theorem pe_minlen (hc : X.calm = true) (hg : Gl X "min") (hm : X.mg "min" = none) (hgl : Gl X "len") (hml : X.mg "len" = none) (ha : PA X [e] t)
    (he : backTo pos (starEach [e] X.env) = (false, eval e X.env) :: backTo pos (starEach [] X.env) := by rfl) (hpl : (backTo pos (starEach [e] X.env)).any (·.1) = false := by rfl)
    (hall : (backToKw pos (keywordEach [⟨some "key", .Name "len" p2, kp⟩] X.env)).all (·.1.isSome) = true := by rfl) (hnone : (backToKw pos (keywordEach [⟨some "key", .Name "len" p2, kp⟩] X.env)).any (·.1.isNone) = false := by rfl) :
    PE X (.Call (.Name "min" p) [e] [⟨some "key", .Name "len" p2, kp⟩] pos) (tCB (rMinLen X.K) t) := by
  refine ⟨fun pins s σ H Q I h => ?_⟩
  refine wpAny_Call_Name_kw (ld_blt I hg hm (u := .builtin "min") (by first | rfl | decide +kernel) ?_)
  refine PyProof.Rows.callWith_kw (thn (ha.run pos pins s σ H _ I h) fun us s1 ⟨vs, H1, I1, r1, q1⟩ => ?_) he hpl hall hnone
  refine kws_cons (ld_blt I1 hgl hml (u := .builtin "len") boot_len (kws_nil ?_))
  exact mins_run hc I1 r1 q1
theorem cr_minPK {K : PySem.W.Frag} (h : X.K = K) (hu : X.A.units + 64 < cLine) (hc : X.calm = true) : CallR X (.builtin "min") (rMinP K) := h ▸ cr_minP hu hc
theorem pe_minlenK {K : PySem.W.Frag} (h : X.K = K) (hc : X.calm = true) (hg : Gl X "min") (hm : X.mg "min" = none) (hgl : Gl X "len") (hml : X.mg "len" = none) (ha : PA X [e] t)
    (he : backTo pos (starEach [e] X.env) = (false, eval e X.env) :: backTo pos (starEach [] X.env) := by rfl) (hpl : (backTo pos (starEach [e] X.env)).any (·.1) = false := by rfl)
    (hall : (backToKw pos (keywordEach [⟨some "key", .Name "len" p2, kp⟩] X.env)).all (·.1.isSome) = true := by rfl) (hnone : (backToKw pos (keywordEach [⟨some "key", .Name "len" p2, kp⟩] X.env)).any (·.1.isNone) = false := by rfl) :
    PE X (.Call (.Name "min" p) [e] [⟨some "key", .Name "len" p2, kp⟩] pos) (tCB (rMinLen K) t) := h ▸ pe_minlen hc hg hm hgl hml ha he hpl hall hnone
end
end Mk

/-! ### MkZ6 -/
set_option Elab.async false
set_option linter.all false
set_option maxRecDepth 100000
set_option maxHeartbeats 4000000
/-! min(pairs), min(tuples, key=len) -/
namespace Mx
open PySem PySem.Spec PyProof.Rows L2
section
variable {G : Gx} {T : List Addr} {E : XK}
def minA (l : List A) : Option A := l.find? fun a => l.all fun b => !(ltA b a)
def fMinP : FL := fun l st => match l with
  | [.ref n] => match st[n]? with
    | some (.lst l) => if (l.all fun a => (k2 a).isSome) = true then (minA l).map fun a => (a, st) else none
    | _ => none
  | _ => none
def lenA : A → Nat
  | .tup l => l.length
  | _ => 0
def isTupA : A → Bool
  | .tup _ => true
  | _ => false
def minLA (l : List A) : Option A := l.find? fun a => l.all fun b => decide (lenA a ≤ lenA b)
def fMinLen : FL := fun l st => match l with
  | [.ref n] => match st[n]? with
    | some (.lst l) => if (l.all isTupA) = true then (minLA l).map fun a => (a, st) else none
    | _ => none
  | _ => none
theorem pairedL {α β : Type} {F : α → β → Prop} {l : List α} {m : List β} (r : Paired F l m) : ∀ a ∈ l, ∃ b ∈ m, F a b := by
  induction r with
  | nil => exact fun _ h => (nomatch h)
  | cons h r ih =>
    intro a ha
    rcases List.mem_cons.mp ha with rfl | ha
    · exact ⟨_, List.mem_cons_self, h⟩
    · obtain ⟨b, hb, hf⟩ := ih a ha
      exact ⟨b, List.mem_cons_of_mem _ hb, hf⟩
theorem pairedR {α β : Type} {F : α → β → Prop} {l : List α} {m : List β} (r : Paired F l m) : ∀ b ∈ m, ∃ a ∈ l, F a b := by
  induction r with
  | nil => exact fun _ h => (nomatch h)
  | cons h r ih =>
    intro b hb
    rcases List.mem_cons.mp hb with rfl | hb
    · exact ⟨_, List.mem_cons_self, h⟩
    · obtain ⟨a, ha, hf⟩ := ih b hb
      exact ⟨a, List.mem_cons_of_mem _ ha, hf⟩
theorem k2_inj {a b : A} {p : Int × Int} (h : k2 a = some p) (h2 : k2 b = some p) : a = b := by
  unfold k2 at h h2
  split at h
  · cases h
    split at h2
    · cases h2; rfl
    · cases h2
  · cases h
theorem ok_minP (M : AmX G T) : OkL G (Mk.rMinP G.K) fMinP := fun ι st H as xs c Q R im e q => by
  unfold fMinP at e
  split at e
  · split at e
    · rename_i n _ l hl
      split at e
      · rename_i ha
        obtain ⟨a, hm, e⟩ := Option.map_eq_some_iff.mp e
        cases e
        obtain ⟨v, rfl, i1⟩ := imL_1 im
        obtain ⟨p, ys, rfl, _, hx, il⟩ := R.lst hl i1
        obtain ⟨zs, rfl, r⟩ := zs_of il ha
        have hal : a ∈ l := List.mem_of_find?_eq_some hm
        have hmin := List.find?_some hm
        rw [List.all_eq_true] at hmin
        refine ⟨p, zs, rfl, fun e => ?_, .inl (.inl hx), fun z hz => ?_, fun z hz hmn => ?_⟩
        · rw [e] at r; cases r; cases hal
        · obtain ⟨a, ia, ka⟩ := pair_mem r z hz
          exact k2_im ka ia
        · obtain ⟨b, hb, ib, kb⟩ := pairedR r z hz
          obtain ⟨z', hz', ia, ka⟩ := pairedL r a hal
          have h1 := hmn z' hz'
          have h2 := hmin b hb
          have h3 : ltA b a = SrtO.lexB z.2 z'.2 := by unfold ltA; rw [kb, ka]
          rw [h3, Bool.not_eq_true'] at h2
          have h4 : z'.2 = z.2 := by
            have a1 := SrtO.lexB_no.mp h1
            have a2 := SrtO.lexB_no.mp h2
            exact Prod.ext (by omega) (by omega)
          rw [h4] at ka
          rw [k2_inj ka kb] at q
          exact PE1.at q R ib
      · cases e
    · cases e
  · cases e
theorem imL_at {ι : List Addr} {H : Hp} : ∀ {l : List A} {xs : List V} {i : Nat} {x : V}, ImL G.K H ι l xs → xs[i]? = some x → ∃ a, l[i]? = some a ∧ Im G.K H ι a x
  | [], xs, i, x, im, h => by rw [imL_nil' im] at h; cases h
  | a :: l, xs, i, x, im, h => by
    obtain ⟨v, vs, rfl, i1, i2⟩ := imL_cons' im
    cases i with
    | zero => cases h; exact ⟨a, rfl, i1⟩
    | succ i => exact imL_at (i := i) i2 h
theorem ok_minLen (M : AmX G T) : OkL G (Mk.rMinLen G.K) fMinLen := fun ι st H as xs c Q R im e q => by
  unfold fMinLen at e
  split at e
  · split at e
    · rename_i n _ l hl
      split at e
      · rename_i ha
        obtain ⟨a, hm, e⟩ := Option.map_eq_some_iff.mp e
        cases e
        obtain ⟨v, rfl, i1⟩ := imL_1 im
        obtain ⟨p, ys, rfl, _, hx, il⟩ := R.lst hl i1
        rw [List.all_eq_true] at ha
        have hll := il.length
        have hal : a ∈ l := List.mem_of_find?_eq_some hm
        refine ⟨p, ys, l.map lenA, rfl, fun e => ?_, .inl (.inl hx), by rw [List.length_map]; exact hll, fun i x n h1 h2 => ?_, fun i x n h1 h2 hmn hst => ?_⟩
        · rw [e] at hll
          rw [List.length_eq_zero_iff.mp hll.symm] at hal
          cases hal
        · obtain ⟨b, hb, ib⟩ := imL_at il h1
          rw [List.getElem?_map, hb] at h2
          cases h2
          have ht := ha b (List.mem_of_getElem? hb)
          cases b with
          | tup bs =>
            obtain ⟨t, zs, rfl, hz, iz⟩ := im_tup' ib
            exact ⟨t, zs, rfl, hz, iz.length⟩
          | _ => cases ht
        · obtain ⟨b, hb, ib⟩ := imL_at il h1
          rw [List.getElem?_map, hb] at h2
          cases h2
          obtain ⟨hp, as, bs, e1, e2⟩ := List.find?_eq_some_iff_append.mp hm
          rw [List.all_eq_true] at hp
          have hi := (List.getElem?_eq_some_iff.mp hb).1
          have hab : l[as.length]? = some a := by rw [e1, List.getElem?_append_right (Nat.le_refl _), Nat.sub_self]; rfl
          have e3 : i = as.length := by
            rcases Nat.lt_trichotomy i as.length with h | h | h
            · have hb2 : b ∈ as := by
                rw [e1, List.getElem?_append_left h] at hb
                exact List.mem_of_getElem? hb
              have := e2 b hb2
              rw [Bool.not_eq_true', List.all_eq_false] at this
              obtain ⟨c, hc, hn⟩ := this
              exact absurd (decide_eq_true (hmn (lenA c) (List.mem_map_of_mem hc))) hn
            · exact h
            · have := hst as.length (lenA a) h (by rw [List.getElem?_map, hab]; rfl)
              have h5 := of_decide_eq_true (hp b (List.mem_of_getElem? hb))
              omega
          rw [e3, hab] at hb
          cases hb
          exact PE1.at q R ib
      · cases e
    · cases e
  · cases e
/-! is, is not of bools -/
def fIsB : F2 := fun a b st => match a, b with
  | .bl a, .bl b => some (.bl (decide (a = b)), st)
  | _, _ => none
def fNotB : F2 := fun a b st => match a, b with
  | .bl a, .bl b => some (.bl (!decide (a = b)), st)
  | _, _ => none
theorem ok_isB : Ok2 G rIsB fIsB := fun ι st H a b x y c Q R ia ib e q => by
  unfold fIsB at e
  split at e
  · cases e
    exact ⟨_, _, im_bl' ia, im_bl' ib, PE1.at q R im_bl⟩
  · cases e
theorem ok_notB : Ok2 G rNotB fNotB := fun ι st H a b x y c Q R ia ib e q => by
  unfold fNotB at e
  split at e
  · cases e
    exact ⟨_, _, im_bl' ia, im_bl' ib, PE1.at q R im_bl⟩
  · cases e
end
end Mx

/-! ### MkZ7 -/
set_option Elab.async false
set_option linter.all false
set_option maxRecDepth 100000
set_option maxHeartbeats 4000000
/-! sum(list), max(list), max(tuple) of ints -/
namespace Mk
open PySem PySem.Spec PyProof.Rows L2
section
variable {X : Cx} {K : PySem.W.Frag}
def rMaxT (K : PySem.W.Frag) : List V → Hp → VK → Prop := fun vs H Q => ∃ (a : Addr) (ns : List Int), vs = [V.ref a] ∧ SqT K H a (ns.map V.int) ∧ 0 < ns.length ∧ ∀ m, m ∈ ns → (∀ y, y ∈ ns → y ≤ m) → Q (.int m) H
theorem reads_ints {h : Heap} : ∀ {its : List Value} {ns : List Int}, Vals (ns.map V.int) its → ReadsAll h its (ns.map PyData.int) []
  | [], [], _ => .nil
  | _, _ :: _, r => by
    rw [List.map_cons] at r
    cases r with
    | cons k r =>
      obtain ⟨t, rfl⟩ := k
      exact ReadsAll.cons (as := []) (bs := []) (.int _ _) (reads_ints r)
  | v :: its, [], r => by cases r
theorem fold_max : ∀ (ns : List Int) (n : Int), ns.foldl max n ∈ n :: ns ∧ ∀ y ∈ n :: ns, y ≤ ns.foldl max n
  | [], n => ⟨List.mem_cons_self, fun y hy => by rw [List.mem_singleton.mp hy]; exact Int.le_refl _⟩
  | m :: ns, n => by
    obtain ⟨h1, h2⟩ := fold_max ns (max n m)
    rw [List.foldl_cons]
    refine ⟨?_, fun y hy => ?_⟩
    · rcases List.mem_cons.mp h1 with h | h
      · rw [h]
        by_cases e : n ≤ m
        · rw [Int.max_eq_right e]; exact List.mem_cons_of_mem _ List.mem_cons_self
        · rw [Int.max_eq_left (by omega)]; exact List.mem_cons_self
      · exact List.mem_cons_of_mem _ (List.mem_cons_of_mem _ h)
    · have h3 := h2 (max n m) List.mem_cons_self
      rcases List.mem_cons.mp hy with rfl | hy
      · have := Int.le_max_left y m; omega
      · rcases List.mem_cons.mp hy with rfl | hy
        · have := Int.le_max_right n y; omega
        · exact h2 y (List.mem_cons_of_mem _ hy)
theorem cr_maxT (hu : X.A.units + 64 < cLine) (hc : X.calm = true) : CallR X (.builtin "max") (rMaxT X.K) := by
  intro pins s σ H vs us Q I r h
  obtain ⟨a, ns, rfl, hs, hne, q⟩ := h
  obtain ⟨its, rv, hl, hz⟩ := I.tuple hs
  obtain ⟨u, rfl, ru⟩ := vals1 r
  cases ru
  cases ns with
  | nil => exact absurd hne (Nat.lt_irrefl _)
  | cons n ns =>
    have ra := reads_ints (h := s.heap) rv
    rw [List.map_cons] at ra
    have dp : PyData.depthAll (PyData.int n :: ns.map PyData.int) = 0 := by
      have : ∀ l : List Int, PyData.depthAll (l.map PyData.int) = 0 := fun l => by
        induction l with
        | nil => rfl
        | cons x l ih => rw [List.map_cons, PyData.depthAll, ih]; simp [PyData.depth]
      exact this (n :: ns)
    have al : PySem.W.AlikeAll (PyData.int n :: ns.map PyData.int) := by
      refine ⟨fun x hx y hy => ?_, fun x hx => ?_⟩
      · obtain ⟨p, _, rfl⟩ := List.mem_map.mp (show x ∈ (n :: ns).map PyData.int from hx)
        obtain ⟨p', _, rfl⟩ := List.mem_map.mp (show y ∈ (n :: ns).map PyData.int from hy)
        simp [PySem.W.alike]
      · obtain ⟨p, _, rfl⟩ := List.mem_map.mp (show x ∈ (n :: ns).map PyData.int from hx)
        exact fun e => nomatch e
    have hl' : s.heap.IsTuple a its.toArray := hl
    refine PySem.W.max_tuple_data (I.ok.hd hc) hl' (by rw [List.toList_toArray]; exact ra) al (by rw [dp]; omega) fun i v h' tk bs hv rd hk => ?_
    rw [PySem.W.maxD_ints] at rd
    cases rd
    obtain ⟨m1, m2⟩ := fold_max ns n
    exact ⟨.int _, H, I.kept hk, ⟨_, rfl⟩, q _ m1 m2⟩
theorem cr_maxTK (h : X.K = K) (hu : X.A.units + 64 < cLine) (hc : X.calm = true) : CallR X (.builtin "max") (rMaxT K) := h ▸ cr_maxT hu hc
theorem cr_maxK (h : X.K = K) (hc : X.calm = true) : CallR X (.builtin "max") (rMax K) := h ▸ cr_max hc
theorem cr_sumK (h : X.K = K) (hc : X.calm = true) : CallR X (.builtin "sum") (rSum K) := h ▸ cr_sum hc
end
end Mk
namespace Mx
open PySem PySem.Spec PyProof.Rows L2
section
variable {G : Gx} {T : List Addr} {E : XK}
def intsA : List A → Option (List Int)
  | [] => some []
  | .int i :: l => (intsA l).map (i :: ·)
  | _ :: _ => none
theorem intsA_im {ι : List Addr} {H : Hp} : ∀ {l : List A} {ns : List Int} {xs : List V}, intsA l = some ns → ImL G.K H ι l xs → xs = ns.map V.int
  | [], ns, xs, e, im => by
    cases e
    exact imL_nil' im
  | a :: l, ns, xs, e, im => by
    obtain ⟨v, vs, rfl, i1, i2⟩ := imL_cons' im
    cases a with
    | int i =>
      obtain ⟨ms, e1, rfl⟩ := Option.map_eq_some_iff.mp (show (intsA l).map (i :: ·) = some ns from e)
      rw [im_int' i1, intsA_im e1 i2]
      rfl
    | _ => cases e
def maxI : List Int → Option Int
  | [] => none
  | n :: ns => some (ns.foldl max n)
def fSum : FL := fun l st => match l with
  | [.ref n] => match st[n]? with
    | some (.lst l) => (intsA l).map fun ns => (.int ns.sum, st)
    | _ => none
  | _ => none
theorem ok_sum : OkL G (rSum G.K) fSum := fun ι st H as xs c Q R im e q => by
  unfold fSum at e
  split at e
  · split at e
    · rename_i n _ l hl
      obtain ⟨ns, e1, e⟩ := Option.map_eq_some_iff.mp e
      cases e
      obtain ⟨v, rfl, i1⟩ := imL_1 im
      obtain ⟨p, ys, rfl, _, hx, il⟩ := R.lst hl i1
      exact ⟨p, ns, rfl, by rw [← intsA_im e1 il]; exact .inl (.inl hx), PE1.at q R im_int⟩
    · cases e
  · cases e
theorem max_pick {ns : List Int} {m m2 : Int} (h : maxI ns = some m) (h1 : m2 ∈ ns) (h2 : ∀ y, y ∈ ns → y ≤ m2) : m2 = m := by
  cases ns with
  | nil => cases h1
  | cons n ns =>
    cases h
    obtain ⟨a1, a2⟩ := Mk.fold_max ns n
    have := a2 m2 h1
    have := h2 _ a1
    omega
def fMaxL : FL := fun l st => match l with
  | [.ref n] => match st[n]? with
    | some (.lst l) => (intsA l).bind fun ns => (maxI ns).map fun m => (.int m, st)
    | _ => none
  | _ => none
theorem ok_maxL : OkL G (rMax G.K) fMaxL := fun ι st H as xs c Q R im e q => by
  unfold fMaxL at e
  split at e
  · split at e
    · rename_i n _ l hl
      obtain ⟨ns, e1, e⟩ := Option.bind_eq_some_iff.mp e
      obtain ⟨m, e2, e⟩ := Option.map_eq_some_iff.mp e
      cases e
      obtain ⟨v, rfl, i1⟩ := imL_1 im
      obtain ⟨p, ys, rfl, _, hx, il⟩ := R.lst hl i1
      refine ⟨p, ns, rfl, by rw [← intsA_im e1 il]; exact .inl (.inl hx), ?_, fun m2 h1 h2 => ?_⟩
      · cases ns with
        | nil => cases e2
        | cons n ns => exact Nat.succ_pos _
      · rw [max_pick e2 h1 h2]
        exact PE1.at q R im_int
    · cases e
  · cases e
def fMaxT : FL := fun l st => match l with
  | [.tup l] => (intsA l).bind fun ns => (maxI ns).map fun m => (.int m, st)
  | _ => none
theorem ok_maxT : OkL G (Mk.rMaxT G.K) fMaxT := fun ι st H as xs c Q R im e q => by
  unfold fMaxT at e
  split at e
  · rename_i l
    obtain ⟨ns, e1, e⟩ := Option.bind_eq_some_iff.mp e
    obtain ⟨m, e2, e⟩ := Option.map_eq_some_iff.mp e
    cases e
    obtain ⟨v, rfl, i1⟩ := imL_1 im
    obtain ⟨p, ys, rfl, hx, il⟩ := im_tup' i1
    refine ⟨p, ns, rfl, by rw [← intsA_im e1 il]; exact hx, ?_, fun m2 h1 h2 => ?_⟩
    · cases ns with
      | nil => cases e2
      | cons n ns => exact Nat.succ_pos _
    · rw [max_pick e2 h1 h2]
      exact PE1.at q R im_int
  · cases e
end
end Mx

/-! ### MkHp -/
set_option Elab.async false
set_option linter.all false
set_option maxRecDepth 100000
set_option maxHeartbeats 4000000
/-! heappush, heappop: exact simulation on lists of pairs -/
namespace Mk
open PySem PySem.Spec PyProof.Rows L2
def ltI (p q : Int × Int) : Bool := SrtO.lexB p q
def swp (l : List (Int × Int)) (i j : Nat) : List (Int × Int) := (l.set i (l.getD j (0, 0))).set j (l.getD i (0, 0))
/-- up from pos -/
def sUp : Nat → List (Int × Int) → Nat → List (Int × Int)
  | 0, l, _ => l
  | k + 1, l, pos => if pos = 0 then l else
      if ltI (l.getD pos (0, 0)) (l.getD ((pos - 1) / 2) (0, 0)) = true then sUp k (swp l ((pos - 1) / 2) pos) ((pos - 1) / 2) else l
def childOf (l : List (Int × Int)) (pos : Nat) : Nat := if 2 * pos + 1 + 1 < l.length ∧ ltI (l.getD (2 * pos + 1) (0, 0)) (l.getD (2 * pos + 2) (0, 0)) = false then 2 * pos + 2 else 2 * pos + 1
/-- down to a leaf -/
def sDn : Nat → List (Int × Int) → Nat → List (Int × Int) × Nat
  | 0, l, pos => (l, pos)
  | k + 1, l, pos => if pos < l.length / 2 then sDn k (swp l (childOf l pos) pos) (childOf l pos) else (l, pos)
def pushH (l : List (Int × Int)) (x : Int × Int) : List (Int × Int) := sUp (l.length + 1) (l ++ [x]) l.length
def popH (l : List (Int × Int)) : Option ((Int × Int) × List (Int × Int)) := match l with
  | [] => none
  | [x] => some (x, [])
  | x :: y :: r =>
    let l2 := ((x :: y :: r).dropLast).set 0 ((x :: y :: r).getLast (by simp))
    let d := sDn l2.length l2 0
    some (x, sUp (d.2 + 1) d.1 d.2)
theorem push_body (args : Args) : Builtin.«_heapq.heappush» args = (do
    let (heap, a, item) ← (do
      noKeywords s!"_heapq.{"heappush"}" args
      checkCount "heappush" 2 2 args.pos.length
      let [heap, item] := args.pos | unsupported "internal:_heapq"
      return (heap, ← (do
        if ← isInstance heap (.type "list") then
          if let .ref a := heap then return a
        rule "_heapq.not-a-list"
        let what ← if heap == .none then pure "None" else typeNameOf heap
        raiseError "TypeError" s!"{"heappush"}() argument{" 1"} must be list, not {what}"), item))
    updateSeq a (·.push item)
    let xs ← (do
      let some xs ← seqItems? (.ref a) | unsupported "internal:_heapq"
      return xs)
    again (.builtin "_heapq.heapify.sift" ⟨[heap, .bool false, .bool false, rawInt (xs.size - 1 : Nat), rawInt (0 : Nat), .none, rawInt (-1)], []⟩)) := rfl
end Mk
namespace Mk
open PySem PySem.Spec PyProof.Rows L2
theorem entry_push : entryFor table "_heapq.heappush" = some Builtin.«_heapq.heappush» := entryFor_of_fast (by kernel_rfl)
theorem entry_pop : entryFor table "_heapq.heappop" = some Builtin.«_heapq.heappop» := entryFor_of_fast (by kernel_rfl)
theorem entry_sift : entryFor table "_heapq.heapify.sift" = some Builtin.«_heapq.heapify.sift» := entryFor_of_fast (by kernel_rfl)
theorem plain_push : plainId "_heapq.heappush" = true := by decide +kernel
theorem plain_pop : plainId "_heapq.heappop" = true := by decide +kernel
theorem plain_sift : plainId "_heapq.heapify.sift" = true := by decide +kernel
theorem kind_push : builtinKind "_heapq.heappush" = none := by decide +kernel
theorem kind_pop : builtinKind "_heapq.heappop" = none := by decide +kernel
theorem args_push (a b : Value) : argsOk "_heapq.heappush" ⟨[a, b], []⟩ := by unfold argsOk; kernel_rfl
theorem args_pop (a : Value) : argsOk "_heapq.heappop" ⟨[a], []⟩ := by unfold argsOk; kernel_rfl
end Mk

/-! ### MkHq -/
set_option Elab.async false
set_option linter.all false
set_option maxRecDepth 100000
set_option maxHeartbeats 4000000
namespace Mk
open PySem PySem.Spec PyProof.Rows L2
/-- one more step of the sift -/
def sAgain (a : Addr) (down : Bool) (pos : Nat) (res : Value) : Sem PySem.Fin := again (.builtin "_heapq.heapify.sift" ⟨[.ref a, .bool false, .bool down, rawInt pos, rawInt 0, res, rawInt (-1)], []⟩)
def hItems (a : Addr) : Sem (Array Value) := do
  let some xs ← seqItems? (.ref a) | unsupported "internal:_heapq"
  return xs
def hAt (xs : Array Value) (i : Nat) : Sem Value := match xs[i]? with
  | some v => pure v
  | none => unsupported "internal:_heapq.index"
def hSwap (a : Addr) (i j : Nat) : Sem Unit := do
  let xs ← hItems a
  let x ← hAt xs i
  let y ← hAt xs j
  updateSeq a fun xs => (xs.setIfInBounds i y).setIfInBounds j x
def hLess (a : Addr) (size : Nat) (x y : Value) : Sem Bool := do
  let less ← holding [x, y] (do truthOfDropped (← richCompare .Lt x y))
  if (← hItems a).size != size then rule "_heapq.size-changed"; raiseError "RuntimeError" "list changed size during iteration"
  return less
theorem sift_up (a : Addr) (p : Int) (t1 t2 t3 : Tok) (res : Value) : Builtin.«_heapq.heapify.sift» ⟨[.ref a, .bool false, .bool false, .int p t1, .int 0 t2, res, .int (-1) t3], []⟩ = (do
    let xs ← hItems a
    if p.toNat > 0 then
      let x ← hAt xs p.toNat
      let y ← hAt xs ((p.toNat - 1) / 2)
      if ← hLess a xs.size x y then
        hSwap a ((p.toNat - 1) / 2) p.toNat
        return ← sAgain a false ((p.toNat - 1) / 2) res
    ret res) := rfl
theorem sift_dn (a : Addr) (p : Int) (t1 t2 t3 : Tok) (res : Value) : Builtin.«_heapq.heapify.sift» ⟨[.ref a, .bool false, .bool true, .int p t1, .int 0 t2, res, .int (-1) t3], []⟩ = (do
    let xs ← hItems a
    if p.toNat < xs.size / 2 then
      let left := 2 * p.toNat + 1
      let mut child := left
      if left + 1 < xs.size then
        let l ← hAt xs left
        let r ← hAt xs (left + 1)
        if !(← hLess a xs.size l r) then child := left + 1
      hSwap a child p.toNat
      return ← sAgain a true child res
    return ← sAgain a false p.toNat res) := rfl
end Mk

/-! ### MkHr -/
set_option Elab.async false
set_option linter.all false
set_option maxRecDepth 100000
set_option maxHeartbeats 4000000
namespace Mk
open PySem PySem.Spec PyProof.Rows L2
section
variable {prog : Program} {w : World} {A : Around} {E : Value → Shared → Prop} {s : Shared}
theorem reads_pair1 {h : Heap} {v : Value} {p : Int × Int} (i : Srt.IsPair h v p.1 p.2) : Reads h v (datP p) [] := by
  obtain ⟨t, o, t1, t2, n, rfl, ho, hc, hd⟩ := i
  exact Reads.tuple ho hc hd (ReadsAll.cons (as := []) (bs := []) (.int _ _) (ReadsAll.cons (as := []) (bs := []) (.int _ _) .nil))
theorem run_less {a : Addr} {xs : Array Value} {c : Nat} {x y : Value} {p q : Int × Int} {Q : Bool → Shared → Prop} (ho : s.heap.get? a = some { cls := .type "list", data := .seq xs c }) (hx : Srt.IsPair s.heap x p.1 p.2) (hy : Srt.IsPair s.heap y q.1 q.2) (hu : A.units + 8 < cLine)
    (h : Q (SrtO.lexB p q) s) : wpAny (model prog w) A (hLess a xs.size x y) Q E s := by
  unfold hLess
  have dd : (datP p).depth ≤ 3 := by unfold datP; simp [PyData.depth, PyData.depthAll]
  refine wpAny_bind (wpAny_holding (wpAny_bind (PySem.W.lt_data (reads_pair1 hx) (reads_pair1 hy) (by simp [datP, PySem.W.alike, PySem.W.alikeAll]) (by unfold datP; exact fun e => nomatch e) (by have := Nat.min_le_left (datP p).depth (datP q).depth; omega) ?_)))
  rw [lt_datP]
  show wpAny _ _ (truthy (.bool (SrtO.lexB p q))) _ _ _
  refine wpAny_truthy_bool ?_
  unfold hItems
  refine wpAny_bind (wpAny_bind (wpAny_seqItems ho rfl (wpAny_pure ?_)))
  rw [bne_self_eq_false]
  exact wpAny_pure h
theorem run_at {xs : Array Value} {i : Nat} {v : Value} {Q : Value → Shared → Prop} (hi : xs[i]? = some v) (h : Q v s) : wpAny (model prog w) A (hAt xs i) Q E s := by
  unfold hAt
  rw [hi]
  exact wpAny_pure h
theorem run_items {a : Addr} {xs : Array Value} {c : Nat} {Q : Array Value → Shared → Prop} (ho : s.heap.get? a = some { cls := .type "list", data := .seq xs c }) (h : Q xs s) : wpAny (model prog w) A (hItems a) Q E s := by
  unfold hItems
  exact wpAny_bind (wpAny_seqItems ho rfl (wpAny_pure h))
theorem run_swap {a : Addr} {xs : Array Value} {c i j : Nat} {x y : Value} {Q : Unit → Shared → Prop} (ho : s.heap.get? a = some { cls := .type "list", data := .seq xs c }) (hi : xs[i]? = some x) (hj : xs[j]? = some y) (hz : xs.size ≤ sizeLine)
    (h : Q () { s with heap := s.heap.update a (Obj.mapSeq fun xs => (xs.setIfInBounds i y).setIfInBounds j x) }) : wpAny (model prog w) A (hSwap a i j) Q E s := by
  unfold hSwap
  refine wpAny_bind (run_items ho (wpAny_bind (run_at hi (wpAny_bind (run_at hj ?_)))))
  exact wpAny_updateSeq ho rfl h hz (by rw [Array.size_setIfInBounds, Array.size_setIfInBounds]; omega)
end
end Mk

/-! ### MkHs -/
set_option Elab.async false
set_option linter.all false
set_option maxRecDepth 100000
set_option maxHeartbeats 4000000
namespace Mk
open PySem PySem.Spec PyProof.Rows L2
section
variable {α : Type}
def gSwp (l : List α) (i j : Nat) : List α := match l[i]?, l[j]? with
  | some x, some y => (l.set i y).set j x
  | _, _ => l
def gLt (k : α → Int × Int) (l : List α) (i j : Nat) : Bool := match l[i]?, l[j]? with
  | some x, some y => SrtO.lexB (k x) (k y)
  | _, _ => false
def gUp (k : α → Int × Int) : Nat → List α → Nat → List α
  | 0, l, _ => l
  | n + 1, l, pos => if 0 < pos then (if gLt k l pos ((pos - 1) / 2) = true then gUp k n (gSwp l ((pos - 1) / 2) pos) ((pos - 1) / 2) else l) else l
def gCh (k : α → Int × Int) (l : List α) (pos : Nat) : Nat := if 2 * pos + 1 + 1 < l.length then (if gLt k l (2 * pos + 1) (2 * pos + 1 + 1) = true then 2 * pos + 1 else 2 * pos + 1 + 1) else 2 * pos + 1
def gDn (k : α → Int × Int) : Nat → List α → Nat → List α × Nat
  | 0, l, pos => (l, pos)
  | n + 1, l, pos => if pos < l.length / 2 then gDn k n (gSwp l (gCh k l pos) pos) (gCh k l pos) else (l, pos)
theorem gSwp_len (l : List α) (i j : Nat) : (gSwp l i j).length = l.length := by
  unfold gSwp
  split <;> simp
theorem gSwp_mem {l : List α} {i j : Nat} {x : α} (h : x ∈ gSwp l i j) : x ∈ l := by
  unfold gSwp at h
  split at h
  · rename_i a b h1 h2
    rcases List.mem_or_eq_of_mem_set h with h | rfl
    · rcases List.mem_or_eq_of_mem_set h with h | rfl
      · exact h
      · exact List.mem_of_getElem? h2
    · exact List.mem_of_getElem? h1
  · exact h
theorem gUp_len (k : α → Int × Int) : ∀ (n : Nat) (l : List α) (pos : Nat), (gUp k n l pos).length = l.length
  | 0, l, _ => rfl
  | n + 1, l, pos => by
    unfold gUp
    split
    · split
      · rw [gUp_len k n, gSwp_len]
      · rfl
    · rfl
theorem gDn_len (k : α → Int × Int) : ∀ (n : Nat) (l : List α) (pos : Nat), (gDn k n l pos).1.length = l.length
  | 0, l, _ => rfl
  | n + 1, l, pos => by
    unfold gDn
    split
    · rw [gDn_len k n, gSwp_len]
    · rfl
end
/-- the items of the list at a, each a pair, seen from the heap -/
structure HL {α : Type} (Rv : α → Value → Prop) (a : Addr) (h0 h : Heap) (l : List α) (its : List Value) : Prop where
  len : l.length = its.length
  rv : ∀ (i : Nat) (x : α) (v : Value), l[i]? = some x → its[i]? = some v → Rv x v
  oth : ∀ b, b ≠ a → h.get? b = h0.get? b
  at_ : ∃ c, h.get? a = some { cls := .type "list", data := .seq its.toArray c }
theorem pair_keep {a : Addr} {h0 h : Heap} {v : Value} {p q : Int} {its : List Value} {c : Nat} (i : Srt.IsPair h0 v p q) (oth : ∀ b, b ≠ a → h.get? b = h0.get? b) (ha : h0.get? a = some { cls := .type "list", data := .seq its.toArray c }) : Srt.IsPair h v p q := by
  obtain ⟨t, o, t1, t2, n, rfl, ho, hc, hd⟩ := i
  have ne : t ≠ a := fun e => by
    subst e
    rw [ha] at ho
    cases ho
    injection (show Value.type "list" = Value.type "tuple" from hc) with q
    exact absurd q (by decide)
  exact ⟨t, o, t1, t2, n, rfl, (oth t ne).trans ho, hc, hd⟩
section
variable {prog : Program} {w : World} {A : Around} {E : Value → Shared → Prop} {s : Shared} {α : Type} {Rv : α → Value → Prop} {a : Addr} {h0 : Heap} {k : α → Int × Int}
theorem HL.get {h : Heap} {l : List α} {its : List Value} (L : HL Rv a h0 h l its) {i : Nat} (hi : i < l.length) : ∃ x v, l[i]? = some x ∧ its[i]? = some v ∧ Rv x v := by
  refine ⟨l[i], its[i]'(by rw [← L.len]; exact hi), List.getElem?_eq_getElem hi, List.getElem?_eq_getElem _, ?_⟩
  exact L.rv i _ _ (List.getElem?_eq_getElem hi) (List.getElem?_eq_getElem _)
theorem HL.swap {h : Heap} {l : List α} {its : List Value} (L : HL Rv a h0 h l its) {i j : Nat} {x y : Value} (hi : its[i]? = some x) (hj : its[j]? = some y) :
    HL Rv a h0 (h.update a (Obj.mapSeq fun xs => (xs.setIfInBounds i y).setIfInBounds j x)) (gSwp l i j) ((its.set i y).set j x) := by
  have il : i < its.length := (List.getElem?_eq_some_iff.mp hi).1
  have jl : j < its.length := (List.getElem?_eq_some_iff.mp hj).1
  obtain ⟨p, hp⟩ : ∃ p, l[i]? = some p := ⟨_, List.getElem?_eq_getElem (by rw [L.len]; exact il)⟩
  obtain ⟨q, hq⟩ : ∃ q, l[j]? = some q := ⟨_, List.getElem?_eq_getElem (by rw [L.len]; exact jl)⟩
  have e : gSwp l i j = (l.set i q).set j p := by unfold gSwp; rw [hp, hq]
  rw [e]
  obtain ⟨c, hc⟩ := L.at_
  have u := PySem.IsL.update hc (fun xs => (xs.setIfInBounds i y).setIfInBounds j x)
  refine ⟨by simp [L.len], fun m z v h1 h2 => ?_, fun b hb => (Heap.get?_update_other _ _ (Ne.symm hb)).trans (L.oth b hb), ?_⟩
  · by_cases mj : j = m
    · subst mj
      rw [List.getElem?_set_self (by simp; rw [L.len]; exact jl)] at h1
      rw [List.getElem?_set_self (by simp; exact jl)] at h2
      cases h1; cases h2
      exact L.rv i _ _ hp hi
    · rw [List.getElem?_set_ne mj] at h1 h2
      by_cases mi : i = m
      · subst mi
        rw [List.getElem?_set_self (by rw [L.len]; exact il)] at h1
        rw [List.getElem?_set_self il] at h2
        cases h1; cases h2
        exact L.rv j _ _ hq hj
      · rw [List.getElem?_set_ne mi] at h1 h2
        exact L.rv m _ _ h1 h2
  · obtain ⟨c2, u2⟩ : ∃ c2, (h.update a (Obj.mapSeq fun xs => (xs.setIfInBounds i y).setIfInBounds j x)).get? a = some { cls := .type "list", data := .seq ((its.toArray.setIfInBounds i y).setIfInBounds j x) c2 } := ⟨_, u⟩
    exact ⟨c2, by rw [u2]; simp⟩
theorem HL.pair {h : Heap} {l : List α} {its its0 : List Value} {c0 : Nat} (L : HL Rv a h0 h l its) (ha : h0.get? a = some { cls := .type "list", data := .seq its0.toArray c0 }) {S : List α} (hk : ∀ x ∈ S, ∀ v, Rv x v → Srt.IsPair h0 v (k x).1 (k x).2)
    (hS : ∀ x ∈ l, x ∈ S) {i : Nat} (hi : i < l.length) : ∃ x v, l[i]? = some x ∧ its[i]? = some v ∧ Srt.IsPair h v (k x).1 (k x).2 := by
  obtain ⟨x, v, h1, h2, h3⟩ := L.get hi
  exact ⟨x, v, h1, h2, pair_keep (hk x (hS x (List.mem_of_getElem? h1)) v h3) L.oth ha⟩
theorem up_run {R : Result → Shared → Prop} {res : Value} {its0 : List Value} {c0 : Nat} (hu : A.in1.units + 8 < cLine) (ha : h0.get? a = some { cls := .type "list", data := .seq its0.toArray c0 }) {S : List α} (hk : ∀ x ∈ S, ∀ v, Rv x v → Srt.IsPair h0 v (k x).1 (k x).2) :
    ∀ (n : Nat) (l : List α) (its : List Value) (pos : Nat) (s : Shared), pos < n → pos < l.length → HL Rv a h0 s.heap l its → l.length ≤ sizeLine → (∀ x ∈ l, x ∈ S) →
    (∀ h' its', HL Rv a h0 h' (gUp k n l pos) its' → R (.ok (.ret res)) { s with heap := h' }) →
    codeAny (model prog w) A (.builtin "_heapq.heapify.sift" ⟨[.ref a, .bool false, .bool false, rawInt pos, rawInt 0, res, rawInt (-1)], []⟩) R s
  | 0, _, _, _, _, h, _, _, _, _, _ => absurd h (Nat.not_lt_zero _)
  | n + 1, l, its, pos, s, h1, h2, L, hz, hS, hR => by
    obtain ⟨c, hc⟩ := L.at_
    refine codeAny_builtin entry_sift ?_
    rw [Around.under_plainId plain_sift _]
    show wpAny _ A.in1 (Builtin.«_heapq.heapify.sift» ⟨[.ref a, .bool false, .bool false, .int pos _, .int 0 _, res, .int (-1) _], []⟩) _ _ s
    rw [sift_up]
    refine wpAny_bind (run_items hc ?_)
    rw [Int.toNat_natCast]
    by_cases hp : pos > 0
    · rw [if_pos hp]
      obtain ⟨x, v, e1, e2, e3⟩ := L.pair ha hk hS h2
      obtain ⟨y, u, d1, d2, d3⟩ := L.pair (i := (pos - 1) / 2) ha hk hS (by omega)
      refine wpAny_bind (run_at (v := v) (by simpa using e2) (wpAny_bind (run_at (v := u) (by simpa using d2) (wpAny_bind (run_less hc e3 d3 hu ?_)))))
      have g : gLt k l pos ((pos - 1) / 2) = SrtO.lexB (k x) (k y) := by unfold gLt; rw [e1, d1]
      cases hb : SrtO.lexB (k x) (k y) with
      | false =>
        have e : gUp k (n + 1) l pos = l := by
          show (if 0 < pos then (if gLt k l pos ((pos - 1) / 2) = true then _ else l) else l) = l
          rw [if_pos hp, g, hb]
          rfl
        rw [e] at hR
        exact wpAny_pure (hR s.heap its L)
      | true =>
        have e : gUp k (n + 1) l pos = gUp k n (gSwp l ((pos - 1) / 2) pos) ((pos - 1) / 2) := by
          show (if 0 < pos then (if gLt k l pos ((pos - 1) / 2) = true then _ else l) else l) = _
          rw [if_pos hp, g, hb]
          rfl
        rw [e] at hR
        refine wpAny_bind (run_swap hc (by simpa using d2) (by simpa using e2) (by simpa [← L.len] using hz) (wpAny_pure ?_))
        refine ⟨plainId_quiet plain_sift _, ?_⟩
        refine up_run hu ha hk n _ _ ((pos - 1) / 2) _ (by omega) (by rw [gSwp_len]; omega) (L.swap d2 e2) (by rw [gSwp_len]; exact hz) (fun x hx => hS x (gSwp_mem hx)) fun h' its' L' => ?_
        exact hR h' its' L'
    · rw [if_neg hp]
      have e : gUp k (n + 1) l pos = l := by
        show (if 0 < pos then _ else l) = l
        rw [if_neg hp]
      rw [e] at hR
      exact wpAny_pure (hR s.heap its L)
end
end Mk

/-! ### MkHt -/
set_option Elab.async false
set_option linter.all false
set_option maxRecDepth 100000
set_option maxHeartbeats 4000000
namespace Mk
open PySem PySem.Spec PyProof.Rows L2
section
variable {prog : Program} {w : World} {A : Around} {E : Value → Shared → Prop} {s : Shared} {α : Type} {Rv : α → Value → Prop} {a : Addr} {h0 : Heap} {k : α → Int × Int}
theorem gCh_lt {l : List α} {pos : Nat} (h : pos < l.length / 2) : pos < gCh k l pos ∧ gCh k l pos < l.length := by
  unfold gCh
  split
  · split <;> omega
  · omega
theorem gDn_lt : ∀ (n : Nat) (l : List α) (pos : Nat), pos < l.length → (gDn k n l pos).2 < l.length
  | 0, l, pos, h => h
  | n + 1, l, pos, h => by
    unfold gDn
    split
    · rename_i q
      have := gDn_lt n (gSwp l (gCh k l pos) pos) (gCh k l pos) (by rw [gSwp_len]; exact (gCh_lt q).2)
      rw [gSwp_len] at this
      exact this
    · exact h
theorem gDn_mem {x : α} : ∀ (n : Nat) (l : List α) (pos : Nat), x ∈ (gDn k n l pos).1 → x ∈ l
  | 0, l, pos, h => h
  | n + 1, l, pos, h => by
    unfold gDn at h
    split at h
    · exact gSwp_mem (gDn_mem n _ _ h)
    · exact h
theorem dn_run {R : Result → Shared → Prop} {res : Value} {its0 : List Value} {c0 : Nat} (hu : A.in1.units + 8 < cLine) (ha : h0.get? a = some { cls := .type "list", data := .seq its0.toArray c0 }) {S : List α} (hk : ∀ x ∈ S, ∀ v, Rv x v → Srt.IsPair h0 v (k x).1 (k x).2) :
    ∀ (n : Nat) (l : List α) (its : List Value) (pos : Nat) (s : Shared), l.length - pos < n → pos < l.length → HL Rv a h0 s.heap l its → l.length ≤ sizeLine → (∀ x ∈ l, x ∈ S) →
    (∀ h' its', HL Rv a h0 h' (gUp k ((gDn k n l pos).2 + 1) (gDn k n l pos).1 (gDn k n l pos).2) its' → R (.ok (.ret res)) { s with heap := h' }) →
    codeAny (model prog w) A (.builtin "_heapq.heapify.sift" ⟨[.ref a, .bool false, .bool true, rawInt pos, rawInt 0, res, rawInt (-1)], []⟩) R s
  | 0, _, _, _, _, h, _, _, _, _, _ => absurd h (Nat.not_lt_zero _)
  | n + 1, l, its, pos, s, h1, h2, L, hz, hS, hR => by
    obtain ⟨c, hc⟩ := L.at_
    have sz : its.toArray.size = l.length := by rw [List.size_toArray, L.len]
    refine codeAny_builtin entry_sift ?_
    rw [Around.under_plainId plain_sift _]
    show wpAny _ A.in1 (Builtin.«_heapq.heapify.sift» ⟨[.ref a, .bool false, .bool true, .int pos _, .int 0 _, res, .int (-1) _], []⟩) _ _ s
    rw [sift_dn]
    refine wpAny_bind (run_items hc ?_)
    rw [Int.toNat_natCast, sz]
    by_cases hp : pos < l.length / 2
    · rw [if_pos hp]
      have e : gDn k (n + 1) l pos = gDn k n (gSwp l (gCh k l pos) pos) (gCh k l pos) := by
        show (if pos < l.length / 2 then _ else (l, pos)) = _
        rw [if_pos hp]
      rw [e] at hR
      obtain ⟨c1, c2⟩ := gCh_lt (k := k) hp
      have goal : ∀ ch, ch = gCh k l pos → wpAny (model prog w) A.in1 (hSwap a ch pos >>= fun _ => sAgain a true ch res >>= fun r => pure r)
          (fun fin s' => match fin with | .done f => R (.ok f) s' | .again c' => c'.quiet = true ∧ codeAny (model prog w) A c' R s') (fun e s' => R (.error e) s') s := fun ch he => by
        subst he
        obtain ⟨x, v, e1, e2, _⟩ := L.get h2
        obtain ⟨y, u, d1, d2, _⟩ := L.get c2
        refine wpAny_bind (run_swap hc (by simpa using d2) (by simpa using e2) (by rw [sz]; exact hz) (wpAny_bind (wpAny_pure (wpAny_pure ?_))))
        refine ⟨plainId_quiet plain_sift _, ?_⟩
        exact dn_run hu ha hk n _ _ (gCh k l pos) _ (by rw [gSwp_len]; omega) (by rw [gSwp_len]; exact c2) (L.swap d2 e2) (by rw [gSwp_len]; exact hz) (fun x hx => hS x (gSwp_mem hx)) hR
      by_cases h3 : 2 * pos + 1 + 1 < l.length
      · rw [if_pos h3]
        obtain ⟨x, v, e1, e2, e3⟩ := L.pair (i := 2 * pos + 1) ha hk hS (by omega)
        obtain ⟨y, u, d1, d2, d3⟩ := L.pair (i := 2 * pos + 1 + 1) ha hk hS h3
        refine wpAny_bind (run_at (v := v) (by simpa using e2) (wpAny_bind (run_at (v := u) (by simpa using d2) (wpAny_bind ?_))))
        rw [← sz]
        refine run_less hc e3 d3 hu ?_
        have g : gLt k l (2 * pos + 1) (2 * pos + 1 + 1) = SrtO.lexB (k x) (k y) := by unfold gLt; rw [e1, d1]
        cases hb : SrtO.lexB (k x) (k y) with
        | true => exact goal (2 * pos + 1) (by unfold gCh; rw [if_pos h3, g, hb]; rfl)
        | false => exact goal (2 * pos + 1 + 1) (by unfold gCh; rw [if_pos h3, g, hb]; rfl)
      · rw [if_neg h3]
        exact goal (2 * pos + 1) (by unfold gCh; rw [if_neg h3])
    · rw [if_neg hp]
      have e : gDn k (n + 1) l pos = (l, pos) := by
        show (if pos < l.length / 2 then _ else (l, pos)) = _
        rw [if_neg hp]
      rw [e] at hR
      refine wpAny_bind (wpAny_pure (wpAny_pure ?_))
      refine ⟨plainId_quiet plain_sift _, ?_⟩
      exact up_run hu ha hk (pos + 1) l its pos s (Nat.lt_succ_self _) h2 L hz hS hR
end
end Mk

/-! ### MkHu -/
set_option Elab.async false
set_option linter.all false
set_option maxRecDepth 100000
set_option maxHeartbeats 4000000
namespace Mk
open PySem PySem.Spec PyProof.Rows L2
theorem pop_body (args : Args) : Builtin.«_heapq.heappop» args = (do
    let (heap, a) ← (do
      let heap ← oneArg s!"_heapq.{"heappop"}" args
      return (heap, ← (do
        if ← isInstance heap (.type "list") then
          if let .ref a := heap then return a
        rule "_heapq.not-a-list"
        let what ← if heap == .none then pure "None" else typeNameOf heap
        raiseError "TypeError" s!"{"heappop"}() argument{""} must be list, not {what}")))
    let xs ← hItems a
    let some last := xs.back? | (do rule "_heapq.empty"; raiseError "IndexError" "index out of range")
    updateSeq a (·.pop)
    if xs.size == 1 then return ← ret last
    let first ← hAt xs 0
    updateSeq a (·.setIfInBounds 0 last)
    again (.builtin "_heapq.heapify.sift" ⟨[heap, .bool false, .bool true, rawInt (0 : Nat), rawInt (0 : Nat), first, rawInt (-1)], []⟩)) := rfl
section
variable {α : Type} {f : α → V}
theorem vals_hl {l : List α} {its : List Value} (h : Vals (l.map f) its) : l.length = its.length ∧ ∀ (i : Nat) (x : α) (v : Value), l[i]? = some x → its[i]? = some v → RelV (f x) v := ⟨by have := h.length; rwa [List.length_map] at this, fun i x v e1 e2 => by
  obtain ⟨u, e3, r⟩ := h.get (i := i) (x := f x) (by rw [List.getElem?_map, e1]; rfl)
  rw [e2] at e3
  cases e3
  exact r⟩
theorem hl_vals : ∀ {l : List α} {its : List Value}, l.length = its.length → (∀ (i : Nat) (x : α) (v : Value), l[i]? = some x → its[i]? = some v → RelV (f x) v) → Vals (l.map f) its
  | [], [], _, _ => .nil
  | x :: l, v :: its, hl, h => .cons (h 0 x v rfl rfl) (hl_vals (Nat.succ.inj hl) fun i y u e1 e2 => h (i + 1) y u e1 e2)
  | [], _ :: _, hl, _ => by cases hl
  | _ :: _, [], hl, _ => by cases hl
def PushS (f : α → V) (a : Addr) (v : Value) (y : α) (l : List α) (k : α → Int × Int) : PySem.Spec := fun A R s => A.in1.units + 8 < cLine ∧ l.length < sizeLine ∧ ∃ its c, s.heap.get? a = some { cls := .type "list", data := .seq its.toArray c } ∧ Vals (l.map f) its ∧ RelV (f y) v ∧
  (∀ x ∈ y :: l, ∀ u, RelV (f x) u → Srt.IsPair s.heap u (k x).1 (k x).2) ∧ ∀ h' its', HL (fun x u => RelV (f x) u) a s.heap h' (gUp k (l.length + 1) (l ++ [y]) l.length) its' → R (.ok (.ret .none)) { s with heap := h' }
theorem push_meets (a : Addr) (v : Value) (y : α) (l : List α) (k : α → Int × Int) : Meets (Builtin.«_heapq.heappush» ⟨[.ref a, v], []⟩) (PushS f a v y l k) := fun prog w A R s h => by
  obtain ⟨hu, hz, its, c, ha, rv, ry, hk, hR⟩ := h
  have hl := (vals_hl rv).1
  rw [push_body]
  refine wpAny_bind (wpAny_bind ?_)
  refine (wpAny_pure ?_ : wpAny (model prog w) A.in1 (pure ()) _ _ s)
  refine wpAny_bind ?_
  refine (wpAny_pure ?_ : wpAny (model prog w) A.in1 (pure ()) _ _ s)
  refine wpAny_bind (wpAny_bind (wpAny_isInstance ⟨_, ha, rfl⟩ PyProof.Rows.sub_list_list ?_))
  refine (wpAny_pure ?_ : wpAny (model prog w) A.in1 (pure a) _ _ s)
  refine (wpAny_pure ?_ : wpAny (model prog w) A.in1 (pure (Value.ref a, a, v)) _ _ s)
  refine wpAny_bind (wpAny_updateSeq ha rfl ?_ (by rw [List.size_toArray, ← hl]; omega) (by rw [Array.size_push, List.size_toArray, ← hl]; omega))
  have u := PySem.IsL.update ha (fun xs => xs.push v)
  obtain ⟨c2, u2⟩ : ∃ c2, (s.heap.update a (Obj.mapSeq fun xs => xs.push v)).get? a = some { cls := .type "list", data := .seq (its ++ [v]).toArray c2 } := ⟨_, by refine Eq.trans u ?_; rw [List.push_toArray]⟩
  refine wpAny_bind (wpAny_bind (wpAny_seqItems u2 rfl (wpAny_pure ?_)))
  have e : (its ++ [v]).toArray.size - 1 = l.length := by rw [List.size_toArray, List.length_append, ← hl]; rfl
  rw [e]
  refine wpAny_pure ⟨plainId_quiet plain_sift _, ?_⟩
  obtain ⟨g1, g2⟩ := vals_hl (l := l ++ [y]) (by rw [List.map_append]; exact rv.append (.cons ry .nil))
  refine up_run (h0 := s.heap) (k := k) (S := y :: l) (Rv := fun x u => RelV (f x) u) hu ha hk (l.length + 1) (l ++ [y]) (its ++ [v]) l.length _ (Nat.lt_succ_self _) (by rw [List.length_append]; exact Nat.lt_succ_self _) ⟨g1, g2, fun b hb => Heap.get?_update_other _ _ (Ne.symm hb), c2, u2⟩
    (by rw [List.length_append]; exact hz) (fun x hx => ?_) fun h' its' L => hR h' its' L
  rcases List.mem_append.mp hx with hx | hx
  · exact List.mem_cons_of_mem _ hx
  · rw [List.mem_singleton.mp hx]; exact List.mem_cons_self
/-- what is left behind the pop of a list of two or more -/
def gPop {α : Type} (k : α → Int × Int) (l : List α) (last : α) : List α := gUp k ((gDn k (l.length + 1) (l.dropLast.set 0 last) 0).2 + 1) (gDn k (l.length + 1) (l.dropLast.set 0 last) 0).1 (gDn k (l.length + 1) (l.dropLast.set 0 last) 0).2
def PopS (f : α → V) (a : Addr) (l : List α) (k : α → Int × Int) : PySem.Spec := fun A R s => A.in1.units + 8 < cLine ∧ l.length ≤ sizeLine ∧ ∃ its c, s.heap.get? a = some { cls := .type "list", data := .seq its.toArray c } ∧ Vals (l.map f) its ∧
  (∀ x ∈ l, ∀ u, RelV (f x) u → Srt.IsPair s.heap u (k x).1 (k x).2) ∧ ∃ first last, l[0]? = some first ∧ l[l.length - 1]? = some last ∧
  ∀ h' its' l' v, RelV (f first) v → (l.length = 1 → l' = []) → (l.length ≠ 1 → l' = gPop k l last) → HL (fun x u => RelV (f x) u) a s.heap h' l' its' → R (.ok (.ret v)) { s with heap := h' }
theorem pop_meets (a : Addr) (l : List α) (k : α → Int × Int) : Meets (Builtin.«_heapq.heappop» ⟨[.ref a], []⟩) (PopS f a l k) := fun prog w A R s h => by
  obtain ⟨hu, hz, its, c, ha, rv, hk, first, last, e0, e1, hR⟩ := h
  have hl := (vals_hl rv).1
  have hpos : 0 < l.length := (List.getElem?_eq_some_iff.mp e0).1
  obtain ⟨u0, i0, r0⟩ := rv.get (i := 0) (x := f first) (by rw [List.getElem?_map, e0]; rfl)
  obtain ⟨u1, i1, r1⟩ := rv.get (i := l.length - 1) (x := f last) (by rw [List.getElem?_map, e1]; rfl)
  rw [pop_body]
  refine wpAny_bind (wpAny_bind (wpAny_bind ?_))
  refine (wpAny_pure ?_ : wpAny (model prog w) A.in1 (pure ()) _ _ s)
  refine (wpAny_pure ?_ : wpAny (model prog w) A.in1 (pure (Value.ref a)) _ _ s)
  refine wpAny_bind (wpAny_bind (wpAny_isInstance ⟨_, ha, rfl⟩ PyProof.Rows.sub_list_list ?_))
  refine (wpAny_pure ?_ : wpAny (model prog w) A.in1 (pure a) _ _ s)
  refine (wpAny_pure ?_ : wpAny (model prog w) A.in1 (pure (Value.ref a, a)) _ _ s)
  refine wpAny_bind (run_items ha ?_)
  have eb : its.toArray.back? = some u1 := by
    rw [Array.back?_eq_getElem?, List.size_toArray, ← hl]
    simpa using i1
  rw [eb]
  dsimp only
  refine wpAny_bind (wpAny_updateSeq ha rfl ?_ (by rw [List.size_toArray, ← hl]; exact hz) (by rw [Array.size_pop, List.size_toArray, ← hl]; omega))
  obtain ⟨c2, u2⟩ : ∃ c2, (s.heap.update a (Obj.mapSeq fun xs => xs.pop)).get? a = some { cls := .type "list", data := .seq its.dropLast.toArray c2 } := ⟨_, by refine Eq.trans (PySem.IsL.update ha (fun xs => xs.pop)) ?_; rw [List.pop_toArray]⟩
  by_cases h1 : l.length = 1
  · have e : (its.toArray.size == 1) = true := by rw [List.size_toArray, ← hl, h1]; rfl
    rw [if_pos e]
    refine wpAny_bind (wpAny_pure (wpAny_pure ?_))
    have eq01 : u0 = u1 := by
      rw [h1] at i1
      rw [i0] at i1
      cases i1
      rfl
    subst eq01
    refine hR _ its.dropLast [] u0 r0 (fun _ => rfl) (fun h => absurd h1 h) ⟨?_, fun i x v q => ?_, fun b hb => Heap.get?_update_other _ _ (Ne.symm hb), c2, u2⟩
    · rw [List.length_dropLast, ← hl, h1]; rfl
    · cases q
  · have e : ¬ (its.toArray.size == 1) = true := by rw [List.size_toArray, ← hl]; simpa using h1
    rw [if_neg e]
    refine wpAny_bind (run_at (v := u0) (by simpa using i0) ?_)
    refine wpAny_bind (wpAny_updateSeq u2 rfl ?_ (by rw [List.size_toArray, List.length_dropLast, ← hl]; omega) (by rw [Array.size_setIfInBounds, List.size_toArray, List.length_dropLast, ← hl]; omega))
    obtain ⟨c3, u3⟩ : ∃ c3, ((s.heap.update a (Obj.mapSeq fun xs => xs.pop)).update a (Obj.mapSeq fun xs => xs.setIfInBounds 0 u1)).get? a = some { cls := .type "list", data := .seq (its.dropLast.set 0 u1).toArray c3 } := ⟨_, by refine Eq.trans (PySem.IsL.update u2 (fun xs => xs.setIfInBounds 0 u1)) ?_; rw [List.setIfInBounds_toArray]⟩
    refine wpAny_pure ⟨plainId_quiet plain_sift _, ?_⟩
    have rd : Vals ((l.dropLast.set 0 last).map f) (its.dropLast.set 0 u1) := hl_vals (by rw [List.length_set, List.length_set, List.length_dropLast, List.length_dropLast, hl]) fun i x v q1 q2 => by
      obtain ⟨g1, g2⟩ := vals_hl (l := l.dropLast) (f := f) (by rw [List.map_dropLast]; exact rv.dropLast)
      by_cases hi : 0 = i
      · subst hi
        rw [List.getElem?_set_self (by rw [List.length_dropLast]; omega)] at q1 q2
        cases q1; cases q2
        exact r1
      · rw [List.getElem?_set_ne hi] at q1 q2
        exact g2 i x v q1 q2
    obtain ⟨g1, g2⟩ := vals_hl rd
    refine dn_run (h0 := s.heap) (k := k) (S := l) (Rv := fun x u => RelV (f x) u) hu ha hk (l.length + 1) (l.dropLast.set 0 last) (its.dropLast.set 0 u1) 0 _ (by rw [List.length_set, List.length_dropLast]; omega) (by rw [List.length_set, List.length_dropLast]; omega)
      ⟨g1, g2, fun b hb => (Heap.get?_update_other _ _ (Ne.symm hb)).trans (Heap.get?_update_other _ _ (Ne.symm hb)), c3, u3⟩ (by rw [List.length_set, List.length_dropLast]; omega) (fun x hx => ?_)
      fun h' its' L => hR h' its' _ u0 r0 (fun h => absurd h h1) (fun _ => rfl) L
    rcases List.mem_or_eq_of_mem_set hx with hx | rfl
    · exact List.dropLast_subset _ hx
    · exact List.mem_of_getElem? e1
end
end Mk

/-! ### MkHv -/
set_option Elab.async false
set_option linter.all false
set_option maxRecDepth 100000
set_option maxHeartbeats 4000000
namespace Mk
open PySem PySem.Spec PyProof.Rows L2
def rPush (K : PySem.W.Frag) : List V → Hp → VK → Prop := fun vs H Q => ∃ (α : Type) (l : List α) (y : α) (f : α → V) (k : α → Int × Int) (a : Addr), vs = [V.ref a, f y] ∧ H a = some (.lst (l.map f)) ∧ l.length < sizeLine ∧
  (∀ x ∈ y :: l, ∃ t, f x = .ref t ∧ SqT K H t [.int (k x).1, .int (k x).2]) ∧ Q .non (upd H a (.lst ((gUp k (l.length + 1) (l ++ [y]) l.length).map f)))
def rHPop (K : PySem.W.Frag) : List V → Hp → VK → Prop := fun vs H Q => ∃ (α : Type) (l : List α) (f : α → V) (k : α → Int × Int) (a : Addr) (first last : α), vs = [V.ref a] ∧ H a = some (.lst (l.map f)) ∧ l[0]? = some first ∧ l[l.length - 1]? = some last ∧
  (∀ x ∈ l, ∃ t, f x = .ref t ∧ SqT K H t [.int (k x).1, .int (k x).2]) ∧ ∀ l' : List α, (l.length = 1 → l' = []) → (l.length ≠ 1 → l' = gPop k l last) → Q (f first) (upd H a (.lst (l'.map f)))
section
variable {X : Cx} {K : PySem.W.Frag}
theorem pair_at {pins : List (Addr × Obj)} {s : Shared} {σ : L2.St} {H : Hp} (I : Inv X pins σ H s) {v : V} {p q : Int} {u : Value} (h : ∃ t, v = .ref t ∧ SqT X.K H t [.int p, .int q]) (r : RelV v u) : Srt.IsPair s.heap u p q := by
  obtain ⟨t, rfl, ht⟩ := h
  cases r
  obtain ⟨ps, rp, ⟨o, ho, hc, n, hd⟩, _⟩ := I.tuple ht
  obtain ⟨u1, u2, rfl, ⟨t1, rfl⟩, ⟨t2, rfl⟩⟩ := vals2 rp
  exact ⟨t, o, t1, t2, n, rfl, ho, hc, hd⟩
theorem cr_push (hu : X.A.units + 64 < cLine) : CallR X (.builtin "_heapq.heappush") (rPush X.K) := by
  intro pins s σ H vs us Q I r h
  obtain ⟨α, l, y, f, k, a, rfl, hH, hz, hk, q⟩ := h
  obtain ⟨u, v, rfl, ru, rv⟩ := vals2 r
  cases ru
  obtain ⟨z, its, n, rl, hl, e⟩ := I.lstM hH
  refine call_function_meets kind_push plain_push entry_push (args_push _ _) (push_meets (f := f) a v y l k) ⟨by show X.A.units + 1 + 8 < cLine; omega, hz, its, n, e, rl, rv, fun x hx w rw' => pair_at I (hk x hx) rw', fun h' its' L => ?_⟩
  have hy : Vals ((gUp k (l.length + 1) (l ++ [y]) l.length).map f) its' := hl_vals L.len L.rv
  obtain ⟨c, hc⟩ := L.at_
  refine ⟨.non, _, I.write (o := .lst ((gUp k (l.length + 1) (l ++ [y]) l.length).map f)) (t' := s.toks) (x := a) (e := a) (by rw [hH]; exact trivial) (.inl rfl) (fun b' u hb hu => (L.oth b' hb).trans hu) ⟨_, hc⟩ ⟨?_, its', c, hy, hc⟩, rfl, q⟩
  rw [List.length_map, gUp_len, List.length_append]
  exact hz
theorem cr_hpop (hu : X.A.units + 64 < cLine) : CallR X (.builtin "_heapq.heappop") (rHPop X.K) := by
  intro pins s σ H vs us Q I r h
  obtain ⟨α, l, f, k, a, first, last, rfl, hH, e0, e1, hk, q⟩ := h
  obtain ⟨u, rfl, ru⟩ := vals1 r
  cases ru
  obtain ⟨z, its, n, rl, hl, e⟩ := I.lstM hH
  rw [List.length_map] at z
  refine call_function_meets kind_pop plain_pop entry_pop (args_pop _) (pop_meets (f := f) a l k) ⟨by show X.A.units + 1 + 8 < cLine; omega, z, its, n, e, rl, fun x hx w rw' => pair_at I (hk x hx) rw', first, last, e0, e1, fun h' its' l' v rv h1 h2 L => ?_⟩
  have hy : Vals (l'.map f) its' := hl_vals L.len L.rv
  obtain ⟨c, hc⟩ := L.at_
  refine ⟨f first, _, I.write (o := .lst (l'.map f)) (t' := s.toks) (x := a) (e := a) (by rw [hH]; exact trivial) (.inl rfl) (fun b' u hb hu => (L.oth b' hb).trans hu) ⟨_, hc⟩ ⟨?_, its', c, hy, hc⟩, rv, q l' h1 h2⟩
  rw [List.length_map]
  by_cases e : l.length = 1
  · rw [h1 e]; exact Nat.zero_le _
  · rw [h2 e]
    unfold gPop
    rw [gUp_len, gDn_len, List.length_set, List.length_dropLast]
    omega
theorem cr_pushK (h : X.K = K) (hu : X.A.units + 64 < cLine) : CallR X (.builtin "_heapq.heappush") (rPush K) := h ▸ cr_push hu
theorem cr_hpopK (h : X.K = K) (hu : X.A.units + 64 < cLine) : CallR X (.builtin "_heapq.heappop") (rHPop K) := h ▸ cr_hpop hu
end
section
variable {α β : Type} {f : α → β} {k : β → Int × Int}
theorem gUp_mem {x : α} {k : α → Int × Int} : ∀ (n : Nat) (l : List α) (pos : Nat), x ∈ gUp k n l pos → x ∈ l
  | 0, l, pos, h => h
  | n + 1, l, pos, h => by
    unfold gUp at h
    split at h
    · split at h
      · exact gSwp_mem (gUp_mem n _ _ h)
      · exact h
    · exact h
theorem gPop_mem {x : α} {k : α → Int × Int} {l : List α} {y : α} (hy : y ∈ l) (h : x ∈ gPop k l y) : x ∈ l := by
  have h2 := gDn_mem _ _ _ (gUp_mem _ _ _ h)
  rcases List.mem_or_eq_of_mem_set h2 with h2 | rfl
  · exact List.dropLast_subset _ h2
  · exact hy
theorem gSwp_map (l : List α) (i j : Nat) : (gSwp l i j).map f = gSwp (l.map f) i j := by
  unfold gSwp
  rw [List.getElem?_map, List.getElem?_map]
  cases l[i]? with
  | none => rfl
  | some x => cases l[j]? with
    | none => rfl
    | some y => simp [List.map_set]
theorem gLt_map (l : List α) (i j : Nat) : gLt (fun x => k (f x)) l i j = gLt k (l.map f) i j := by
  unfold gLt
  rw [List.getElem?_map, List.getElem?_map]
  cases l[i]? with
  | none => rfl
  | some x => cases l[j]? <;> rfl
theorem gUp_map : ∀ (n : Nat) (l : List α) (pos : Nat), (gUp (fun x => k (f x)) n l pos).map f = gUp k n (l.map f) pos
  | 0, l, pos => rfl
  | n + 1, l, pos => by
    unfold gUp
    rw [gLt_map]
    split
    · split
      · rw [gUp_map n, gSwp_map]
      · rfl
    · rfl
theorem gCh_map (l : List α) (pos : Nat) : gCh (fun x => k (f x)) l pos = gCh k (l.map f) pos := by
  unfold gCh
  rw [gLt_map, List.length_map]
theorem gDn_map : ∀ (n : Nat) (l : List α) (pos : Nat), ((gDn (fun x => k (f x)) n l pos).1.map f, (gDn (fun x => k (f x)) n l pos).2) = gDn k n (l.map f) pos
  | 0, l, pos => rfl
  | n + 1, l, pos => by
    unfold gDn
    rw [gCh_map, List.length_map]
    split
    · rw [gDn_map n, gSwp_map]
    · rfl
theorem gPop_map (l : List α) (x : α) : (gPop (fun x => k (f x)) l x).map f = gPop k (l.map f) (f x) := by
  unfold gPop
  have h := gDn_map (f := f) (k := k) (l.length + 1) (l.dropLast.set 0 x) 0
  have h1 := congrArg Prod.fst h
  have h2 := congrArg Prod.snd h
  rw [List.map_set, List.map_dropLast] at h1 h2
  rw [gUp_map, List.length_map, ← h1, ← h2]
end
end Mk

namespace Mx
open PySem PySem.Spec PyProof.Rows L2
section
variable {G : Gx} {T : List Addr} {E : XK} {H : Hp} {ι : List Addr}
def pA : A → Option (Int × Int)
  | .tup [.int p, .int q] => some (p, q)
  | _ => none
def kPr (a : A) : Int × Int := (pA a).getD (0, 0)
theorem pA_im {a : A} {v : V} (h : (pA a).isSome = true) (im : Im G.K H ι a v) : ∃ t, v = .ref t ∧ SqT G.K H t [.int (kPr a).1, .int (kPr a).2] := by
  unfold kPr
  unfold pA at h ⊢
  split at h
  · obtain ⟨t, xs, rfl, hx, il⟩ := im_tup' im
    obtain ⟨v1, v2, rfl, i1, i2⟩ := imL_2 il
    rw [im_int' i1, im_int' i2] at hx
    exact ⟨t, rfl, hx⟩
  · cases h
/-- the pairs of values -/
theorem imL_zip : ∀ {as : List A} {xs : List V}, ImL G.K H ι as xs → ∃ l : List (A × V), l.map (·.1) = as ∧ l.map (·.2) = xs ∧ ∀ p ∈ l, Im G.K H ι p.1 p.2
  | [], xs, h => ⟨[], rfl, (imL_nil' h).symm, fun p hp => nomatch hp⟩
  | a :: as, xs, h => by
    obtain ⟨v, vs, rfl, i1, i2⟩ := imL_cons' h
    obtain ⟨l, h1, h2, h3⟩ := imL_zip i2
    refine ⟨(a, v) :: l, by rw [List.map_cons, h1], by rw [List.map_cons, h2], fun p hp => ?_⟩
    rcases List.mem_cons.mp hp with rfl | hp
    · exact i1
    · exact h3 p hp
theorem zip_imL : ∀ {l : List (A × V)}, (∀ p ∈ l, Im G.K H ι p.1 p.2) → ImL G.K H ι (l.map (·.1)) (l.map (·.2))
  | [], _ => imL_nil
  | p :: l, h => imL_cons (h p List.mem_cons_self) (zip_imL fun q hq => h q (List.mem_cons_of_mem _ hq))
def fPush : FL := fun l st => match l with
  | [.ref n, y] => match st[n]? with
    | some (.lst l) => if l.length < sizeLine then (if (y :: l).all (fun a => (pA a).isSome) = true then some (.non, st.set n (.lst (Mk.gUp kPr (l.length + 1) (l ++ [y]) l.length))) else none) else none
    | _ => none
  | _ => none
theorem ok_push (M : AmX G T) : OkL G (Mk.rPush G.K) fPush := fun ι st H as xs c Q R im e q => by
  unfold fPush at e
  split at e
  · rename_i n y
    split at e
    · rename_i l hl
      split at e
      · rename_i hz
        split at e
        · rename_i hall
          cases e
          obtain ⟨v, w, rfl, i1, i2⟩ := imL_2 im
          obtain ⟨p, ys, rfl, hp, hx, jl⟩ := R.lst hl i1
          obtain ⟨l3, e1, e2, e3⟩ := imL_zip jl
          have hpa : ∀ x ∈ (y, w) :: l3, (pA x.1).isSome = true ∧ Im G.K H ι x.1 x.2 := fun x hx => by
            rcases List.mem_cons.mp hx with rfl | hx
            · exact ⟨List.all_eq_true.mp hall _ List.mem_cons_self, i2⟩
            · exact ⟨List.all_eq_true.mp hall _ (List.mem_cons_of_mem _ (by rw [← e1]; exact List.mem_map_of_mem hx)), e3 x hx⟩
          have hlen : l3.length = l.length := by rw [← e1, List.length_map]
          refine ⟨A × V, l3, (y, w), (·.2), fun x => kPr x.1, p, rfl, by rw [e2]; exact hx, by rw [hlen]; exact hz, fun x hx => pA_im (hpa x hx).1 (hpa x hx).2, ?_⟩
          have g := Mk.gUp_map (f := fun x : A × V => x.1) (k := kPr) (l3.length + 1) (l3 ++ [(y, w)]) l3.length
          rw [List.map_append, e1] at g
          rw [hlen] at g
          refine PE1.mut M R hp ⟨_, hx⟩ ?_ im_non q
          rw [hlen]
          show ImL G.K H ι (Mk.gUp kPr (l.length + 1) (l ++ [y]) l.length) _
          rw [show l ++ [y] = l ++ List.map (fun x : A × V => x.1) [(y, w)] from rfl, ← g]
          refine zip_imL fun x hx => ?_
          have := Mk.gUp_mem _ _ _ hx
          rcases List.mem_append.mp this with h | h
          · exact e3 x h
          · rw [List.mem_singleton.mp h]; exact i2
        · cases e
      · cases e
    · cases e
  · cases e
def fHPop : FL := fun l st => match l with
  | [.ref n] => match st[n]? with
    | some (.lst l) => match l[0]?, l[l.length - 1]? with
      | some first, some last => if l.all (fun a => (pA a).isSome) = true then some (first, st.set n (.lst (if l.length = 1 then [] else Mk.gPop kPr l last))) else none
      | _, _ => none
    | _ => none
  | _ => none
theorem ok_hpop (M : AmX G T) : OkL G (Mk.rHPop G.K) fHPop := fun ι st H as xs c Q R im e q => by
  unfold fHPop at e
  split at e
  · rename_i n
    split at e
    · rename_i l hl
      split at e
      · rename_i first last h0 h1
        split at e
        · rename_i hall
          cases e
          obtain ⟨v, rfl, i1⟩ := imL_1 im
          obtain ⟨p, ys, rfl, hp, hx, jl⟩ := R.lst hl i1
          obtain ⟨l3, e1, e2, e3⟩ := imL_zip jl
          have hlen : l3.length = l.length := by rw [← e1, List.length_map]
          have at3 : ∀ {i : Nat} {a : A}, l[i]? = some a → ∃ v, l3[i]? = some (a, v) := fun {i a} h => by
            rw [← e1, List.getElem?_map] at h
            obtain ⟨z, hz, rfl⟩ := Option.map_eq_some_iff.mp h
            exact ⟨z.2, hz⟩
          obtain ⟨f3, hf⟩ := at3 h0
          obtain ⟨t3, ht⟩ := at3 h1
          refine ⟨A × V, l3, (·.2), fun x => kPr x.1, p, (first, f3), (last, t3), rfl, by rw [e2]; exact hx, hf, by rw [hlen]; exact ht, fun x hx => pA_im (List.all_eq_true.mp hall _ (by rw [← e1]; exact List.mem_map_of_mem hx)) (e3 x hx), fun l' g1 g2 => ?_⟩
          refine PE1.mut M R hp ⟨_, hx⟩ ?_ (e3 _ (List.mem_of_getElem? hf)) q
          by_cases e : l.length = 1
          · rw [if_pos e, g1 (by rw [hlen]; exact e)]
            exact imL_nil
          · rw [if_neg e, g2 (by rw [hlen]; exact e)]
            have g := Mk.gPop_map (f := fun x : A × V => x.1) (k := kPr) l3 (last, t3)
            rw [e1] at g
            rw [← g]
            exact zip_imL fun x hx => e3 x (Mk.gPop_mem (List.mem_of_getElem? ht) hx)
        · cases e
      · cases e
    · cases e
  · cases e
end
end Mx

/-! ### MkHw -/
set_option Elab.async false
set_option linter.all false
set_option maxRecDepth 100000
set_option maxHeartbeats 4000000
namespace Mk
open PySem PySem.Spec PyProof.Rows L2
/-! ### for k, v in d.items(), the keys tuples -/
theorem frzNv {X : Cx} {w : World} {pins : List (Addr × Obj)} {σ : L2.St} {H : Hp} {s : Shared} {d : Addr} {o : Obj} {xs : NdX} (I : Inv X pins σ H s) (h : H d = some (.frz o (NdO w d xs))) :
    (d == sysModules) = false ∧ s.heap.get? d = some o ∧ o.ExactDict ∧ ∃ (es : Array DictEntry) (ep : Nat), o.data = .dict es ep ∧ es.size = xs.length ∧
      ∀ (i : Nat) (x : NestedKey × Addr × V), xs[i]? = some x → ∃ en : DictEntry, es[i]? = some en ∧ en.key = .ref x.2.1 ∧ RelV x.2.2 en.val := by
  obtain ⟨hd, x⟩ := I.hok d _ h
  obtain ⟨z, hs, ys, r, ob, es, ep, ho, hx, hdt, he, hn⟩ : NdF w d xs s.heap := x.1
  rw [hd] at ho
  cases ho
  have l1 : es.size = ys.length := size_of_entries (he X.prog)
  refine ⟨hs, hd, hx, es, ep, hdt, l1.trans (Paired.length r).symm, fun i x e => ?_⟩
  obtain ⟨b, hb, _, e2, e3⟩ := paired_get r e
  have q := entry_at (he X.prog) i
  rw [hb] at q
  exact ⟨_, q, by rw [e2]; rfl, e3⟩
def Itin (w : World) (d : Addr) (o : Obj) (xs : NdX) : It :=
  ⟨fun i H => H d = some (.frz o (NdO w d xs)) ∧ i < xs.length, fun i H x H' => ∃ T y, xs[i]? = some y ∧ x = .ref T ∧ H T = none ∧ H' = upd H T (.tup [.ref y.2.1, y.2.2]), fun i H => H d = some (.frz o (NdO w d xs)) ∧ xs.length ≤ i⟩
theorem turn_itemsN {P : Program} {w w2 : World} {K : PySem.W.Frag} {elts : List Expr} {kk : Nat} {tpos : Pos} {d : Addr} {o : Obj} {es : Array DictEntry} {ep : Nat} {xs : NdX} (it : Addr) (hod : o.data = .dict es ep) :
    Turn P w K (.Tuple elts kk tpos) (Itin w2 d o xs) [it] it (fun i h => ∃ ok ov, IsItemIter h it d i xs.length ep ok ov) where
  mem := List.mem_singleton.mpr rfl
  obj := fun i h st b hb => by
    obtain ⟨ok, ov, e⟩ := st
    rw [List.mem_singleton.mp hb]
    exact ⟨_, e, fun v z => nomatch z⟩
  keep := fun i h h' st k => let ⟨ok, ov, e⟩ := st; ⟨ok, ov, k it (List.mem_singleton.mpr rfl) _ e⟩
  item := by
    intro X hP hw hK hc i pins s σ H E I hf st hg
    subst hP hw hK
    obtain ⟨hd, hi⟩ := hg
    obtain ⟨hs, hgd, hx, es', ep', hdt, hsz, ent⟩ := frzNv I hd
    obtain ⟨rfl, rfl⟩ := dict_ep hod hdt
    obtain ⟨en, hen, hkey, hval⟩ := ent i _ (List.getElem?_eq_getElem hi)
    obtain ⟨hlt', een⟩ := List.getElem?_eq_some_iff.mp (show es'.toList[i]? = some en by rw [Array.getElem?_toList]; exact hen)
    have hlt2 : i < es'.size := by simpa using hlt'
    have een2 : es'[i] = en := by simpa using een
    obtain ⟨ok, ov, he⟩ := st
    rw [← hsz] at he
    have hlt : it < s.heap.objs.size := Heap.lt_size he
    refine wpAny_pyNext_items_item_raw he ⟨_, hgd, hx, hdt⟩ hlt2 fun h' ho hT hz hk => ?_
    rw [een2] at ho hT
    refine ⟨_, rfl, wpAny_letOwnedTupleGo_items (s := { s with heap := h' }) ho fun h'' he' sb => ?_⟩
    have hT2 : h''.get? s.heap.objs.size = some { cls := .type "tuple", data := .seq #[en.key, en.val] } := (sb.2 _ (Nat.ne_of_gt hlt)).trans hT
    have new : ObjOk X.prog X.w (upd H s.heap.objs.size (.tup [.ref (xs[i]'hi).2.1, (xs[i]'hi).2.2])) h'' s.heap.objs.size (.tup [.ref (xs[i]'hi).2.1, (xs[i]'hi).2.2]) :=
      ⟨by show 2 ≤ sizeLine; decide, [en.key, en.val], .cons hkey (.cons hval .nil), ⟨_, hT2, rfl, _, rfl⟩⟩
    have I1 : Inv X pins σ (upd H s.heap.objs.size (.tup [.ref (xs[i]'hi).2.1, (xs[i]'hi).2.2])) { s with heap := h'' } :=
      I.turnedNew (t' := s.toks) (ch := [it]) (fun b ob hb e => (sb.2 b (by simpa using hb)).trans (hk b ob (by simpa using hb) e)) hf (Nat.le_refl _) new
    refine ⟨.ref s.heap.objs.size, _, I1, rfl, ⟨_, _, List.getElem?_eq_getElem hi, rfl, I.hok.fresh (Nat.le_refl _), rfl⟩, ⟨en.key, en.val, ?_⟩, fun b hb => ?_⟩
    · rw [← hsz]; exact he'
    · rw [List.mem_singleton.mp hb, upd_ne (Nat.ne_of_lt hlt)]
      exact (hf it (List.mem_singleton.mpr rfl)).1
  done := by
    intro X hP hw hK hc i pins s σ H E I hf st hg
    subst hP hw hK
    obtain ⟨hd, hi⟩ := hg
    obtain ⟨f0, f1, f2, f3, f4, f5⟩ := hf it (List.mem_singleton.mpr rfl)
    obtain ⟨hs, hgd, hx, es', ep', hdt, hsz, ent⟩ := frzNv I hd
    obtain ⟨rfl, rfl⟩ := dict_ep hod hdt
    obtain ⟨ok, ov, he⟩ := st
    rw [← hsz] at he
    exact wpAny_pyNext_items_end_raw (I.ok.hd hc) he ⟨_, hgd, hx, hdt⟩ (by rw [hsz]; exact hi) fun h' eb => ⟨rfl, I.turned (t' := s.toks) (fun b ob hb e => eb b ob hb e) f0 f1 f3 f4 f5⟩
  self := fun A i s Q E st h => let ⟨_, _, e⟩ := st; PySem.W.kcp_self e h
def iItemsX (td : TE) : TI := fun σ H R => td σ H fun x H1 => ∃ w d o xs, x = .ref d ∧ H1 d = some (.frz o (NdO w d xs)) ∧ R (Itin w d o xs) H1
theorem pi_itemsX {X : Cx} {e : Expr} {td : TE} {apos cpos : Pos} {elts : List Expr} {kk : Nat} {tpos : Pos} (he : PE X e td) (hbase : attributeBase e "items" X.env (eval e X.env) = eval e X.env := by rfl) (hline : (apos.endLine == cpos.line) = true := by rfl) :
    PI X (.Tuple elts kk tpos) (.Call (.Attribute e "items" apos) [] [] cpos) (iItemsX td) := by
  refine ⟨fun pins s σ H R I h => ?_⟩
  refine wpAny_Call_method (T := "dict") (id := "dict.items") hbase rfl hline PySem.F.plainAttrs_dict PySem.F.slot_dict_items PySem.F.type_dict_items (thn (he.run pins s σ H _ I h) fun u s1 ⟨x, H1, I1, rx, w, d, o, xs, ex, hd, q⟩ => ?_)
  subst ex
  obtain rfl : u = Value.ref d := rx
  obtain ⟨hs, hgd, hx, es, ep, hdt, hsz, ent⟩ := frzNv I1 hd
  refine ⟨⟨o, hgd, hx.1⟩, fun b q => by cases q; exact ⟨o, hgd, hx.2.1⟩, ?_⟩
  have I2 : Inv X pins σ H1 { s1 with heap := s1.heap.push { cls := .type "dict_items", data := .fields #[.ref d] } } := I1.kept (t' := s1.toks) fun b ob q => Heap.get?_push_of_some _ q
  have fin : wpAny (model X.prog X.w) X.A (pyIter (.ref s1.heap.objs.size)) (PIE X pins σ (.Tuple elts kk tpos) R) X.xe { s1 with heap := s1.heap.push { cls := .type "dict_items", data := .fields #[.ref d] } } := by
    refine wpAny_pyIter_items_raw (d := d) ⟨_, Heap.get?_push_size _ rfl, rfl, rfl⟩ ⟨_, Heap.get?_push_of_some _ hgd, hx, hdt⟩ (pi_one (tk := s1.toks) I2 _ (turn_itemsN _ hdt) ⟨.none, .none, ?_⟩ q)
    rw [← hsz]
    exact Heap.get?_push_size _ rfl
  show wpAny _ _ (callWith cpos (.builtin "dict.items") [.ref d] [] []) _ X.xe s1
  exact method_meetsIn PySem.F.slot_dict_items PySem.F.entry_dict_items rfl (PySem.evalArgs_none ⟨rfl, ⟨o, hgd, hx.1⟩, PySem.F.args_dict_items_1 _, _, meets_dict_items_raw d hs, ⟨es, ep, _, hgd, hx, hdt⟩, fin⟩)
/-! ### code that is never come to -/
def tFailS : TS := fun _ _ _ => False
theorem ps_fail {X : Cx} {st : Stmt} : PS X st tFailS := ⟨fun _ _ _ _ _ _ h => h.elim⟩
def tFailE : TE := fun _ _ _ => False
theorem pe_fail {X : Cx} {e : Expr} : PE X e tFailE := ⟨fun _ _ _ _ _ _ h => h.elim⟩
end Mk
namespace Mx
open PySem PySem.Spec PyProof.Rows L2
section
variable {G : Gx} {T : List Addr} {E : XK}
def mFailS : SM := fun _ _ => .fail
theorem exs_fail : ExS G E Mk.tFailS mFailS := fun ι env st σ H D R Ev h => h.elim
def mFailE : EM := fun _ _ => .fail
theorem ex_fail : Ex G E Mk.tFailE mFailE := fun ι env st σ H Q R Ev h => h.elim
/-! d.items() -/
def ofKV (l : List (A × A)) (i : Nat) (s : Sto) : Nx := match l[i]? with
  | some p => .item (.tup [p.1, p.2]) s
  | none => .stop
def itKV (l : List (A × A)) : Itm := fun i s => ofKV l i s
def miItems (md : EM) : IM := fun env st => (md env st).bind fun d => match d.1 with
  | .ref n => match d.2[n]? with
    | some (.dct true (p :: kvs)) => match p.1 with
      | .tup _ => .ok (itKV (p :: kvs), d.2)
      | _ => .fail
    | _ => .fail
  | _ => .fail
theorem exi_items (M : AmX G T) {td : TE} {md : EM} (hd : Ex G E td md) : ExI G E (Mk.iItemsX td) (miItems md) := fun ι env st σ H R0 R Ev h => by
  refine hd.run R Ev h fun ι1 H1 d s1 x f1 R1 Ev1 id h1 => ?_
  dsimp only at h1
  split at h1
  · rename_i n
    split at h1
    · rename_i p kvs hs
      split at h1
      · rename_i pl hp
        obtain ⟨a, u, rfl, hn, dd, q, _⟩ := R1.dct hs id
        obtain ⟨o, q⟩ := (show ∃ o, H1 a = some (.frz o u) from q)
        rcases dd with ⟨ks, rfl, r⟩ | ⟨ne, xs, rfl, r⟩
        · exfalso
          cases r with
          | cons h _ =>
            have := h.1
            rw [hp] at this
            cases this
        · refine ⟨_, a, o, xs, rfl, q, h1 _ _ _ f1 R1 fun ι2 H2 st2 f2 R2 i => ?_⟩
          have q2 := f2.frz _ _ _ q
          have hl := Paired.length r
          show match ofKV (p :: kvs) i st2 with | .no => True | .stop => _ | .item a s => _
          unfold ofKV
          cases e : (p :: kvs)[i]? with
          | none => exact ⟨q2, by rw [← hl]; exact List.getElem?_eq_none_iff.mp e⟩
          | some pr =>
            obtain ⟨b, hb, e1, e2, e3⟩ := paired_get r e
            refine ⟨⟨q2, (List.getElem?_eq_some_iff.mp hb).1⟩, fun y H' z => ?_⟩
            obtain ⟨T, c, hk, rfl, hT, rfl⟩ := z
            rw [hb] at hk
            cases hk
            exact ⟨ι2, Fr.new hT, R2.new M hT, im_tup (R2.imL (Fr.new hT) (imL_cons (R1.im f2 e2) (imL_cons (R1.im f2 e3) imL_nil))) upd_same⟩
      · exact h1.elim
    · exact h1.elim
  · exact h1.elim
/-! a dict that a field holds is locked meanwhile -/
def fldRef (i : Nat) (f : Str) (env : Ev) (st : Sto) : Option Nat := match env[i]? with
  | some (some (.ref m)) => match st[m]? with
    | some (.ins _ fs) => match fs.lookup f with
      | some (.ref n) => some n
      | _ => none
    | _ => none
  | _ => none
def lockF {α : Type} (i : Nat) (f : Str) (m : Ev → Sto → R (α × Sto)) : Ev → Sto → R (α × Sto) := fun env st => match fldRef i f env st with
  | some n => match st[n]? with
    | some (.dct false kvs) => (m env (st.set n (.dct true kvs))).bind (unlk n)
    | _ => .fail
  | _ => .fail
theorem rl_at {ι : List Addr} {H : Hp} {st : Sto} (R : Rl G ι H st) {n : Nat} {o : Ob} (h : st[n]? = some o) : ∃ a, ι[n]? = some a := ⟨_, List.getElem?_eq_getElem (by rw [R.len]; exact (List.getElem?_eq_some_iff.mp h).1)⟩
theorem ex_lockF (M : AmX G T) {i : Nat} {f : Str} {t : TE} {m : EM} (hm : Ex G E t m) : Ex G E (tLockE t) (lockF i f m) := fun ι env st σ H Q R Ev h => by
  unfold lockF at h
  split at h
  · rename_i n e
    split at h
    · rename_i kvs hs
      obtain ⟨a, hn⟩ := rl_at R hs
      obtain ⟨u, hu, k1, k2, k3, k4, all⟩ := lock_in M R hs hn
      refine ⟨a, u, hu, k1, fun od => ?_⟩
      obtain ⟨f1, R1⟩ := all od
      refine hm ι env _ σ _ _ R1 (R.env f1 Ev) (holds_mono (fun r h1 => ?_) (fun _ _ z => PXx.sh f1 z) (holds_bind h))
      obtain ⟨kvs', hs', q⟩ := unlk_holds h1
      intro ι2 H2 w f2 R2 iw
      obtain ⟨z1, z2, z3, _, z5⟩ := lock_out M hn hu k2 k3 k4 f2 R2 hs'
      exact ⟨z1, q _ _ _ z2 z3 (z5 _ _ iw)⟩
    · exact h.elim
  · exact h.elim
theorem exs_lockF (M : AmX G T) {i : Nat} {f : Str} {t : TS} {m : SM} (hm : ExS G E t m) : ExS G E (tLock t) (lockF i f m) := fun ι env st σ H D R Ev h => by
  unfold lockF at h
  split at h
  · rename_i n e
    split at h
    · rename_i kvs hs
      obtain ⟨a, hn⟩ := rl_at R hs
      obtain ⟨u, hu, k1, k2, k3, k4, all⟩ := lock_in M R hs hn
      refine ⟨a, u, hu, k1, fun od => ?_⟩
      obtain ⟨f1, R1⟩ := all od
      refine hm ι env _ σ _ _ R1 (R.env f1 Ev) (holds_mono (fun r h1 => ?_) (fun _ _ z => PXx.sh f1 z) (holds_bind h))
      obtain ⟨kvs', hs', q⟩ := unlk_holds h1
      intro ι2 H2 f2 R2
      obtain ⟨z1, z2, z3, z4, z5⟩ := lock_out M hn hu k2 k3 k4 f2 R2 hs'
      obtain ⟨fl, s2⟩ := r
      cases fl with
      | nx e2 => exact fun σ2 Ev2 => ⟨z1, q _ _ z2 z3 _ (z4 _ _ Ev2)⟩
      | rt a2 => exact fun w iw => ⟨z1, q _ _ z2 z3 _ (z5 _ _ iw)⟩
      | bk e2 => exact fun σ2 Ev2 => ⟨z1, q _ _ z2 z3 _ (z4 _ _ Ev2)⟩
      | ct e2 => exact fun σ2 Ev2 => ⟨z1, q _ _ z2 z3 _ (z4 _ _ Ev2)⟩
    · exact h.elim
  · exact h.elim
/-! calls with keywords -/
def mCallN (f : FM) (n m : Nat) (ml mk : LM) : EM := fun env st => (ml env st).bind fun l => (mk env l.2).bind fun k => if l.1.length = n ∧ k.1.length = m then f (l.1 ++ k.1) k.2 else .fail
theorem ex_callN {f : FM} {N n m : Nat} {tl tk : TA} {ml mk : LM} (hN : n + m = N) (hl : ExL G E tl ml) (hk : ExL G E tk mk) : Ex G E (tCallN n m (spX G N f) (fun vs zs => vs ++ zs) E tl tk) (mCallN f n m ml mk) := fun ι env st σ H Q R Ev h => by
  refine hl.run R Ev h fun ι1 H1 a s1 v f1 R1 Ev1 im h1 => ?_
  refine hk.run R1 Ev1 h1 fun ι2 H2 b s2 w f2 R2 Ev2 im2 h2 => ?_
  have im3 := ImL.append (R1.imL f2 im) im2
  dsimp only at h2
  split at h2
  · rename_i e
    refine ⟨by rw [im.length]; exact e.1, by rw [im2.length]; exact e.2, ?_⟩
    exact ⟨by rw [im3.length, List.length_append, e.1, e.2]; exact hN, ι2, s2, _, R2, im3, sh (Fr.refl _ _) h2 fun _ q => PE1.sh (f1.trans f2) q⟩
  · exact h2.elim
end
end Mx

/-! ### MkHx -/
set_option Elab.async false
set_option linter.all false
set_option maxRecDepth 100000
set_option maxHeartbeats 4000000
namespace Mk
open PySem PySem.Spec PyProof.Rows L2
/-! ### t[::-1] -/
theorem adjust_rev (n : Nat) : Builtin.Slice.sliceAdjust none none (-1) (n : Int) = ((n : Int) - 1, -1) := by
  unfold Builtin.Slice.sliceAdjust
  rfl
theorem places_rev (n : Nat) : Builtin.Slice.slicePlaces ((n : Int) - 1) (-1) (-1) = n := by
  unfold Builtin.Slice.slicePlaces
  have h1 : ¬ ((-1 : Int) > 0) := by omega
  simp only [h1, if_false]
  by_cases h : (n : Int) - 1 > -1
  · rw [if_pos h, show (- -1 : Int) = 1 by decide, Int.ediv_one]
    omega
  · rw [if_neg h]
    omega
theorem fm_congr {α β : Type} {f g : α → Option β} : ∀ {l : List α}, (∀ x ∈ l, f x = g x) → l.filterMap f = l.filterMap g
  | [], _ => rfl
  | x :: l, h => by rw [List.filterMap_cons, List.filterMap_cons, h x List.mem_cons_self, fm_congr fun y hy => h y (List.mem_cons_of_mem _ hy)]
theorem pick_rev (xs : Array Value) : ((List.range xs.size).filterMap fun (m : Nat) => xs[(((xs.size : Int) - 1) + (m : Int) * (-1)).toNat]?).toArray = xs.toList.reverse.toArray := by
  have e : (List.range xs.size).filterMap (fun (m : Nat) => xs[(((xs.size : Int) - 1) + (m : Int) * (-1)).toNat]?) = ((List.range xs.size).map fun k => xs.size - 1 - k).filterMap (xs[·]?) := by
    rw [List.filterMap_map]
    refine fm_congr fun m hm => ?_
    have := List.mem_range.mp hm
    have e : (((xs.size : Int) - 1) + (m : Int) * (-1)).toNat = xs.size - 1 - m := by omega
    show xs[_]? = xs[_]?
    rw [e]
  rw [e, PySem.W.krv_range, List.filterMap_reverse, PySem.W.krv_all]
section
variable {prog : Program} {w : World} {A : Around} {E : Value → Shared → Prop} {s : Shared}
theorem sliceApplied_rev {sl : Addr} {vl vu vs : Value} {n : Nat} {Q : Int × Int × Nat → Shared → Prop} (hs : s.heap.IsSliceOf sl vl vu vs) (pl : IsPart vl none) (pu : IsPart vu none) (ps : IsPart vs (some (-1)))
    (h : Q ((n : Int) - 1, -1, n) s) : wpAny (model prog w) A (Builtin.Slice.sliceApplied (.ref sl) (pure (n : Int))) Q E s := by
  obtain ⟨os, hos, hcs, hds⟩ := id hs
  unfold Builtin.Slice.sliceApplied Builtin.Slice.sliceFields
  refine wpAny_bind (wpAny_bind (wpAny_field hos hds (x := vl) rfl (wpAny_bind (wpAny_field hos hds (x := vu) rfl (wpAny_bind (wpAny_field hos hds (x := vs) rfl (wpAny_pure ?_)))))))
  refine wpAny_bind (HT.slicePart_ ps ?_)
  show wpAny _ _ (if ((-1 : Int) == 0) = true then _ else _) _ _ s
  rw [if_neg (by decide)]
  refine wpAny_bind (HT.slicePart_ pl (wpAny_bind (HT.slicePart_ pu (wpAny_bind (wpAny_pure ?_)))))
  show wpAny _ _ (match Builtin.Slice.sliceAdjust none none (-1) (n : Int) with | (lo, hi) => pure (lo, (-1 : Int), Builtin.Slice.slicePlaces lo hi (-1))) _ _ s
  rw [adjust_rev n]
  show wpAny _ _ (pure ((n : Int) - 1, (-1 : Int), Builtin.Slice.slicePlaces ((n : Int) - 1) (-1) (-1))) _ _ s
  rw [places_rev]
  exact wpAny_pure h
theorem getItem_tuple_rev {t sl : Addr} {items : Array Value} {vl vu vs : Value} {Q : Value → Shared → Prop} (ht : IsTup s.heap t items) (hs : s.heap.IsSliceOf sl vl vu vs) (pl : IsPart vl none) (pu : IsPart vu none) (ps : IsPart vs (some (-1)))
    (h : Q (.ref s.heap.objs.size) { s with heap := s.heap.push { cls := .type "tuple", data := .seq items.toList.reverse.toArray } }) (hsz : items.size ≤ sizeLine) : wpAny (model prog w) A (getItem (.ref t) (.ref sl)) Q E s := by
  have htake : sizeOk (.seq items.toList.reverse.toArray) := by
    show items.toList.reverse.toArray.size ≤ sizeLine
    simpa using hsz
  obtain ⟨os, hos, hcs, hds⟩ := id hs
  have hTs : s.TypeIs (.ref sl) "slice" := ⟨os, hos, hcs⟩
  unfold getItem
  try with_reducible refine wpAny_holding ?_
  first | refine wpAny_bind (wpAny_pure ?_) | skip
  refine wpAny_bind (wpAny_sequenceKey ht.typeIs (by decide) ?_)
  refine wpAny_bind (wpAny_callSpecial?_slot (name := Str.ofString "__getitem__") ht.typeIs PyProof.Rows.slot_tuple_getitem
    (wpAny_call_entry PyProof.Rows.slot_tuple_getitem ht.typeIs entry_tuple_getitem ?_ (args_tuple_getitem _ _)))
  show wpAny _ _ (Builtin.Tuple.tupleItemsOf (.ref t) >>= _) _ _ s
  refine wpAny_bind (tupleItemsOf_ ht ?_)
  refine wpAny_bind (wpAny_typeOf hTs ?_)
  rw [if_pos (by decide)]
  refine wpAny_bind (sliceApplied_rev hs pl pu ps ?_)
  show wpAny _ _ (if ((((items.size : Int) - 1) == 0) && (-1 : Int) == 1 && items.size == items.size) = true then _ else _) _ _ s
  rw [if_neg (by simp), pick_rev]
  have hq := h
  first
    | exact wpAny_bind (m := Builtin.Tuple.tupleExact _) (wpAny_newObj_type (wpAny_pure ⟨_, rfl, wpAny_pure hq⟩) htake)
    | exact wpAny_bind (m := Builtin.Tuple.tupleExact _) (wpAny_newObj_type (wpAny_bind (wpAny_pure (wpAny_pure ⟨_, rfl, wpAny_pure hq⟩))) htake)
    | exact wpAny_bind (wpAny_bind (m := Builtin.Tuple.tupleExact _) (wpAny_newObj_type (wpAny_pure (wpAny_pure ⟨_, rfl, wpAny_pure hq⟩)) htake))
    | exact wpAny_bind (wpAny_bind (m := Builtin.Tuple.tupleExact _) (wpAny_newObj_type (wpAny_pure ⟨_, rfl, wpAny_pure hq⟩) htake))
theorem extend_tup (l : Addr) (items : Array Value) (n : Nat) (b : Addr) (items2 : Array Value) (n2 : Nat) (dd : Option Addr) (sl : Array (Option Value)) (hs0 : ¬(!items.isEmpty && Builtin.List.listTooLong (items.size + items2.size)) = true) (hs1 : items.size ≤ sizeLine) (hs2 : items.size + items2.size ≤ sizeLine + 1) :
    Meets (Builtin.«list.extend» ⟨[.ref l, .ref b], []⟩) (fun _ R s => s.heap.get? l = some { cls := .type "list", dict := none, data := .seq items n, slots := #[] } ∧ s.heap.get? b = some { cls := .type "tuple", dict := dd, data := .seq items2 n2, slots := sl } ∧ R (.ok (.ret Value.none)) { s with heap := s.heap.update l (Obj.mapSeq fun x => x ++ items2), toks := s.toks }) :=
  .of_wp fun prog w A R s h => by
    obtain ⟨hp, g, d, tk, os⟩ := s; obtain ⟨hl, hb, h⟩ := h; have f1 := AutoSeq1.idx_int; have f2 := AutoSeq1.sub_tuple_tuple; have f3 := AutoSeq1.sub_list_list; have f4 := AutoSeq1.sub_tuple_list; have f5 := AutoSeq1.sub_list_tuple;
    have hz' : (items ++ items2).size ≤ sizeLine + 1 := by rw [Array.size_append]; exact hs2
    wp_walk using (wpAny_updateSeq hl rfl (hz := hs1) (_hz' := hz')), AutoSeq1.wpAny_loadPart' hl, AutoSeq1.wpAny_loadPart' hb; exact ⟨_, rfl, h⟩
end
def rExtT (K : PySem.W.Frag) : V → List V → Hp → VK → Prop := fun x vs H Q => ∃ l b xs zs, x = .ref l ∧ vs = [.ref b] ∧ H l = some (.lst xs) ∧ SqT K H b zs ∧ xs.length + zs.length ≤ sizeLine ∧ Q .non (upd H l (.lst (xs ++ zs)))
def tRevT (K : PySem.W.Frag) (te : TE) : TE := fun σ H Q => te σ H fun x H1 => ∃ a xs, x = .ref a ∧ SqT K H1 a xs ∧ ∀ p, H1 p = none → Q (.ref p) (upd H1 p (.tup xs.reverse))
section
variable {X : Cx} {K : PySem.W.Frag}
theorem mt_extT : MtM X "list.extend" (rExtT X.K) := by
  intro pins s σ H x vs v us Q I rx rv h
  obtain ⟨l, b, xs, zs, rfl, rfl, hH, hB, hz, q⟩ := h
  cases rx
  obtain ⟨u, rfl, ru⟩ := rv.one
  cases ru
  obtain ⟨z, its, n, r, hl, e⟩ := I.lstM hH
  obtain ⟨its2, r2, ⟨⟨cls2, dd2, data2, sl2⟩, ho2, hc2, n2, hd2⟩, z2⟩ := I.tuple hB
  simp only at hc2 hd2
  subst hc2 hd2
  have hl2 := r2.length
  have hsz : its.toArray.size + its2.toArray.size ≤ sizeLine := by rw [List.size_toArray, List.size_toArray]; omega
  have hlong : ¬ (!its.toArray.isEmpty && Builtin.List.listTooLong (its.toArray.size + its2.toArray.size)) = true := by
    rw [notLongL hsz, Bool.and_false]
    exact Bool.false_ne_true
  refine call_meets PySem.F.slot_list_extend ⟨_, e, rfl⟩ PySem.F.entry_list_extend (PySem.F.args_list_extend_2 _ _)
    (extend_tup l its.toArray n b its2.toArray n2 dd2 sl2 hlong (by rw [List.size_toArray]; omega) (by omega)) ⟨e, ho2, ?_⟩
  refine ⟨.non, _, I.lset (its' := its ++ its2) hH e (by simp) (r.append r2) ?_, rfl, q⟩
  rw [List.length_append]
  omega
theorem mt_extTK (h : X.K = K) : MtM X "list.extend" (rExtT K) := h ▸ mt_extT
theorem pe_revT {e : Expr} {te : TE} {k : Nat} {p1 p2 p3 pos : Pos} (he : PE X e te) : PE X (.Subscript e (.Slice none none (some (.UnaryOp .USub (.Constant (.int 1) k p1) p2)) p3) pos) (tRevT X.K te) := by
  refine ⟨fun pins s σ H Q I h => ?_⟩
  refine Subscript_ (thn (he.run pins s σ H _ I h) fun v s1 ⟨x, H1, I1, r1, q1⟩ => ?_)
  obtain ⟨a, xs, ex, hx, q⟩ := q1
  subst ex
  cases r1
  have hst : PO X (some (.UnaryOp .USub (.Constant (.int 1) k p1) p2)) (tPart (tUn (rU fun i => .int (-i)) (tC (.int 1)))) := po_some (pe_un un_neg pe_int)
  refine wpAny_Slice (thn (po_none.run pins s1 σ H1 (fun o H2 => o = none ∧ H2 = H1) I1 ⟨rfl, rfl⟩) fun vl s2 ⟨l, H2, I2, pl, el, e2⟩ => ?_)
  subst el e2
  refine thn (po_none.run pins s2 σ H2 (fun o H3 => o = none ∧ H3 = H2) I2 ⟨rfl, rfl⟩) fun vu s3 ⟨u, H3, I3, pu, eu, e3⟩ => ?_
  subst eu e3
  refine thn (hst.run pins s3 σ H3 (fun o H4 => o = some (-1) ∧ H4 = H3) I3 ⟨1, rfl, -1, rfl, rfl, rfl⟩) fun vs s4 ⟨o, H4, I4, ps, eo, e4⟩ => ?_
  subst eo e4
  have I5 : Inv X pins σ H4 { s4 with heap := s4.heap.push { cls := .type "slice", data := .fields #[vl, vu, vs] } } := I4.kept (t' := s4.toks) fun b ob q => Heap.get?_push_of_some _ q
  obtain ⟨its, r, ht, hz⟩ := I5.tuple hx
  show wpAny (model X.prog X.w) X.A (subscriptTail e (.Slice none none (some (.UnaryOp .USub (.Constant (.int 1) k p1) p2)) p3) (.ref a) (.ref s4.heap.objs.size)) (EP X pins σ Q) X.xe { s4 with heap := s4.heap.push { cls := .type "slice", data := .fields #[vl, vu, vs] } }
  refine tail_any (ops := [.ref a, .ref s4.heap.objs.size]) ht.typeIs (PyProof.Rows.slot_tuple_getitem.lookup) ?_ (by with_unfolding_all rfl)
  refine getItem_tuple_rev ht (Heap.IsSliceOf.new _ vl vu vs) pl pu ps ?_ (by rw [List.size_toArray, ← r.length]; exact hz)
  refine ⟨.ref _, _, I5.laid (t' := s4.toks) (o := .tup xs.reverse) (fun b ob q => Heap.get?_push_of_some _ q) (Nat.le_refl _) ?_, rfl, q _ (I5.hok.fresh (Nat.le_refl _))⟩
  exact ⟨by rw [List.length_reverse]; exact hz, its.reverse, r.reverse, ⟨_, Heap.get?_push_size _ rfl, rfl, _, rfl⟩⟩
theorem pe_revTK (h : X.K = K) {e : Expr} {te : TE} {k : Nat} {p1 p2 p3 pos : Pos} (he : PE X e te) : PE X (.Subscript e (.Slice none none (some (.UnaryOp .USub (.Constant (.int 1) k p1) p2)) p3) pos) (tRevT K te) := h ▸ pe_revT he
end
/-! ### names that stand for built-ins, for tuples of ints -/
def bltC (K : PySem.W.Frag) (x : Str) (id : String) : Bool := He.eqO (PySem.W.nsIn K mainGlobals x) (some (some (.builtin id)))
def intsV : List Value → List Int → Bool
  | [], [] => true
  | .int i _ :: vs, j :: js => decide (i = j) && intsV vs js
  | _, _ => false
def tupC (K : PySem.W.Frag) (x : Str) (js : List Int) : Bool := match PySem.W.nsIn K mainGlobals x with
  | some (some (.ref a)) => (match K.lookup a with
    | some ⟨.type t, _, .seq its _, _⟩ => decide (t = "tuple") && (decide (its.size ≤ sizeLine) && intsV its.toList js)
    | _ => false)
  | _ => false
section
variable {K : PySem.W.Frag} {h : Heap} {mg : Str → Option Value}
theorem bltC_ok (X : K.In h) (G : h.Ns mainGlobals mg) {x : Str} {id : String} (c : bltC K x id = true) : mg x = some (.builtin id) := PySem.W.mg_of X G (He.eqO_ok c)
theorem intsV_ok : ∀ {vs : List Value} {js : List Int}, intsV vs js = true → Vals (js.map V.int) vs
  | [], [], _ => .nil
  | v :: vs, j :: js, c => by
    cases v with
    | int i t =>
      obtain ⟨c1, c2⟩ := He.ba (show (decide (i = j) && intsV vs js) = true from c)
      rw [← of_decide_eq_true c1]
      exact .cons ⟨t, rfl⟩ (intsV_ok c2)
    | _ => cases c
  | [], _ :: _, c => by cases c
  | v :: _, [], c => by cases v <;> cases c
theorem tupC_ok (X : K.In h) (G : h.Ns mainGlobals mg) {x : Str} {js : List Int} (c : tupC K x js = true) : ∃ a, mg x = some (.ref a) ∧ ∀ H, SqT K H a (js.map V.int) := by
  unfold tupC at c
  split at c
  · rename_i a e
    split at c
    · rename_i t dd its n sl hk
      obtain ⟨c1, c⟩ := He.ba c
      obtain ⟨c2, c3⟩ := He.ba c
      have := of_decide_eq_true c1
      subst this
      exact ⟨a, PySem.W.mg_of X G e, fun H => .inr ⟨_, its, n, hk, rfl, rfl, of_decide_eq_true c2, intsV_ok c3⟩⟩
    · cases c
  · cases c
end
end Mk
namespace Mx
open PySem PySem.Spec PyProof.Rows L2
section
variable {G : Gx} {T : List Addr} {E : XK}
theorem imL_ints {H : Hp} {ι : List Addr} : ∀ js : List Int, ImL G.K H ι (js.map A.int) (js.map V.int)
  | [] => imL_nil
  | j :: js => imL_cons im_int (imL_ints js)
theorem ex_ctup {a : Addr} {js : List Int} (h : ∀ H, SqT G.K H a (js.map V.int)) : Ex G E (tC (.ref a)) (mC (.tup (js.map A.int))) := ex_c fun H ι => by unfold Im; exact ⟨a, _, rfl, h H, imL_ints js⟩
/-! list.extend(tuple), t[::-1] -/
def fExtT : FB := fun a as st => match a, as with
  | .ref n, [.tup k] => match st[n]? with
    | some (.lst l) => if l.length + k.length ≤ sizeLine then some (.non, st.set n (.lst (l ++ k))) else none
    | _ => none
  | _, _ => none
theorem ok_extT (M : AmX G T) : OkM G (Mk.rExtT G.K) fExtT := fun ι st H a x as xs c Q R ia il e q => by
  unfold fExtT at e
  split at e
  · split at e
    · rename_i l hl
      split at e
      · rename_i hz
        cases e
        obtain ⟨y, rfl, iy⟩ := imL_1 il
        obtain ⟨b, zs, rfl, hb, jb⟩ := im_tup' iy
        obtain ⟨p, xs, rfl, hp, hx, jl⟩ := R.lst hl ia
        exact ⟨p, b, xs, zs, rfl, rfl, hx, hb, by rw [jl.length, jb.length]; exact hz, PE1.mut M R hp ⟨_, hx⟩ (ImL.append jl jb) im_non q⟩
      · cases e
    · cases e
  · cases e
def fRevT : A → Sto → Option (A × Sto) := fun a st => match a with
  | .tup l => some (.tup l.reverse, st)
  | _ => none
def mRevT (ma : EM) : EM := fun env st => (ma env st).bind fun a => match a.1 with
  | .tup l => .ok (.tup l.reverse, a.2)
  | _ => .fail
theorem imL_rev {H : Hp} {ι : List Addr} : ∀ {l : List A} {xs : List V}, ImL G.K H ι l xs → ImL G.K H ι l.reverse xs.reverse
  | [], xs, h => by rw [imL_nil' h]; exact imL_nil
  | a :: l, xs, h => by
    obtain ⟨v, vs, rfl, i1, i2⟩ := imL_cons' h
    rw [List.reverse_cons, List.reverse_cons]
    exact ImL.append (imL_rev i2) (imL_cons i1 imL_nil)
theorem ex_revT (M : AmX G T) {ta : TE} {ma : EM} (ha : Ex G E ta ma) : Ex G E (Mk.tRevT G.K ta) (mRevT ma) := fun ι env st σ H Q R Ev h => by
  refine ha.run R Ev h fun ι1 H1 a s1 v f1 R1 Ev1 im h1 => ?_
  cases a with
  | tup l =>
    obtain ⟨b, xs, rfl, hb, jb⟩ := im_tup' im
    refine ⟨b, xs, rfl, hb, fun p hp => ?_⟩
    exact (show PE1 G ι H Q (.tup l.reverse, s1) from h1) _ _ _ (f1.trans (Fr.new hp)) (R1.new M hp) (im_tup (imL_rev (R1.imL (Fr.new hp) jb)) upd_same)
  | _ => exact h1.elim
end
end Mx

/-! ### MkHy -/
set_option Elab.async false
set_option linter.all false
set_option maxRecDepth 100000
set_option maxHeartbeats 4000000
namespace Mk
open PySem PySem.Spec PyProof.Rows L2
/-! ### sum(d.values()) -/
def valsO (p d : Addr) : HO := .ext fun h => h.IsValuesView p d
theorem valsO_ok {P : Program} {w : World} {H : Hp} {h : Heap} {p d : Addr} (e : h.get? p = some { cls := .type "dict_values", data := .fields #[.ref d] }) : ObjOk P w H h p (valsO p d) := by
  refine ⟨⟨_, e, rfl, rfl⟩, ⟨_, e⟩, fun h1 h2 y k => ?_⟩
  obtain ⟨o, ho, q⟩ := y
  exact ⟨o, k _ ho, q⟩
def tValues (td : TE) : TE := fun σ H Q => td σ H fun x H1 => ∃ w a xs, x = .ref a ∧ Rd H1 a (NdO w a xs) ∧ ∀ p, H1 p = none → Q (.ref p) (upd H1 p (valsO p a))
theorem pe_values {X : Cx} {e : Expr} {td : TE} {apos cpos : Pos} (he : PE X e td) (hbase : attributeBase e "values" X.env (eval e X.env) = eval e X.env := by rfl) (hline : (apos.endLine == cpos.line) = true := by rfl) :
    PE X (.Call (.Attribute e "values" apos) [] [] cpos) (tValues td) := by
  refine ⟨fun pins s σ H Q I h => ?_⟩
  refine wpAny_Call_method (T := "dict") (id := "dict.values") hbase rfl hline PySem.F.plainAttrs_dict PySem.F.slot_dict_values PySem.F.type_dict_values (thn (he.run pins s σ H _ I h) fun u s1 ⟨x, H1, I1, rx, w, a, xs, ex, hd, q⟩ => ?_)
  subst ex
  obtain rfl : u = Value.ref a := rx
  obtain ⟨z, hs, ys, r, o, es, ep, ho, hx, hdt, he', hn⟩ := nd_raw I1 hd
  refine ⟨⟨o, ho, hx.1⟩, fun b q => by cases q; exact ⟨o, ho, hx.2.1⟩, ?_⟩
  show wpAny _ _ (callWith cpos (.builtin "dict.values") [.ref a] [] []) _ X.xe s1
  refine method_meetsIn PySem.F.slot_dict_values PySem.F.entry_dict_values rfl (PySem.evalArgs_none ⟨rfl, ⟨o, ho, hx.1⟩, PySem.F.args_dict_values_1 _, _, meets_dict_values_raw a hs, ⟨es, ep, _, ho, hx, hdt⟩, ?_⟩)
  exact ⟨.ref s1.heap.objs.size, _, I1.laid (t' := s1.toks) (o := valsO s1.heap.objs.size a) (fun b ob q => Heap.get?_push_of_some _ q) (Nat.le_refl _) (valsO_ok (Heap.get?_push_size _ rfl)), rfl, q _ (I1.hok.fresh (Nat.le_refl _))⟩
def rSumV : List V → Hp → VK → Prop := fun vs H Q => ∃ w p a xs ns, vs = [V.ref p] ∧ H p = some (valsO p a) ∧ Rd H a (NdO w a xs) ∧ xs.map (·.2.2) = (ns : List Int).map V.int ∧ Q (.int ns.sum) H
theorem preSum_getD (ns : List Int) : ∀ k, k ≤ ns.length → preSum (fun i => ns.getD i 0) k = (ns.take k).sum
  | 0, _ => rfl
  | k + 1, h => by
    have hk : k < ns.length := h
    show preSum (fun i => ns.getD i 0) k + ns.getD k 0 = _
    rw [preSum_getD ns k (Nat.le_of_succ_le h), List.take_succ, List.sum_append, List.getD_eq_getElem?_getD, List.getElem?_eq_getElem hk]
    simp
section
variable {X : Cx}
theorem cr_sumV (hc : X.calm = true) : CallR X (.builtin "sum") rSumV := by
  intro pins s σ H vs us Q I r h
  obtain ⟨w, p, a, xs, ns, rfl, hp, ha, hx, q⟩ := h
  obtain ⟨u, rfl, ru⟩ := vals1 r
  cases ru
  have hv : s.heap.IsValuesView p a := (show ObjOk X.prog X.w H s.heap p (valsO p a) from I.hok p _ hp).1
  obtain ⟨z, hs, ys, rel, o, es, ep, ho, hxd, hdt, he, hn⟩ := nd_raw I ha
  have l1 : es.size = ys.length := size_of_entries (he X.prog)
  have l2 : xs.length = ys.length := Paired.length rel
  have l3 : xs.length = ns.length := by have := congrArg List.length hx; simpa using this
  have hm : s.heap.DictRaw a es ep := ⟨o, ho, hxd, hdt⟩
  have vals : ∀ (i : Nat) (hi : i < es.size), ∃ t, es[i].val = .int (ns.getD i 0) t := fun i hi => by
    have hix : i < xs.length := by omega
    obtain ⟨b, hb, _, _, e3⟩ := paired_get rel (List.getElem?_eq_getElem hix)
    have q2 := entry_at (he X.prog) i
    rw [hb] at q2
    have e4 : es[i]? = some es[i] := Array.getElem?_eq_getElem hi
    rw [e4] at q2
    have e5 : es[i].val = b.2.2 := congrArg DictEntry.val (Option.some.inj q2)
    have e6 : (xs[i]'hix).2.2 = V.int (ns.getD i 0) := by
      have := congrArg (fun l : List V => l[i]?) hx
      simp only [List.getElem?_map] at this
      rw [List.getElem?_eq_getElem hix, List.getElem?_eq_getElem (show i < ns.length by omega)] at this
      have e7 := Option.some.inj this
      have e9 : ns.getD i 0 = ns[i]'(show i < ns.length by omega) := by rw [List.getD_eq_getElem?_getD, List.getElem?_eq_getElem (show i < ns.length by omega)]; rfl
      rw [e9]
      exact e7
    rw [e6] at e3
    obtain ⟨t, e8⟩ := (show ∃ t, b.2.2 = .int (ns.getD i 0) t from e3)
    exact ⟨t, by rw [e5, e8]⟩
  have hne : a ≠ s.heap.objs.size := Nat.ne_of_lt hm.lt_size
  refine call_sum_walkG (wpAny_pyIter_values_raw hv hm ?_)
  refine ⟨s.heap.objs.size, [s.heap.objs.size, a], [s.heap.objs.size], es.size, _, _, fun i => ns.getD i 0, rfl, Walks.rawValues (A := X.A.in1) (I.ok.hd hc) _ a hne es ep, ⟨⟨_, Heap.get?_push_size _ rfl, rfl, rfl⟩, hm.push _⟩, fun b hb => ?_, fun i v hi => ?_, fun h' tk t' hk => ?_⟩
  · have e0 : ∀ ob : Obj, (s.heap.push ob).objs.size = s.heap.objs.size + 1 := fun ob => Array.size_push ..
    show b < (s.heap.push _).objs.size
    rw [e0]
    rcases List.mem_cons.mp hb with rfl | hb
    · exact Nat.lt_succ_self _
    · rw [List.mem_singleton.mp hb]
      exact Nat.lt_succ_of_lt hm.lt_size
  · obtain ⟨hi2, rfl⟩ := hi
    exact vals i hi2
  · rw [l1, ← l2, l3, preSum_getD ns _ (Nat.le_refl _), List.take_length]
    refine ⟨.int _, H, ?_, ⟨_, rfl⟩, q⟩
    exact I.kept fun b ob e => hk b ob (fun z => by
      rw [List.mem_singleton.mp z] at e
      exact Nat.lt_irrefl _ (Heap.lt_size e)) (Heap.get?_push_of_some _ e)
end
/-! ### a dict of the module: texts to tuples of ints -/
def KDct (K : PySem.W.Frag) (w : World) (a : Addr) (kvs : List (Key × V)) : Prop := ∀ (P : Program) (h : Heap), K.In h → (a == sysModules) = false ∧ ∃ vs, KV kvs vs ∧ h.DictOf (mixKind P w) a vs
def rNotInC (K : PySem.W.Frag) (w : World) : R2 := fun y x H Q => ∃ a kvs k, x = V.ref a ∧ KDct K w a kvs ∧ y = kV k ∧ Q (.bl (!(valV kvs k).isSome)) H
def tCGet (K : PySem.W.Frag) (w : World) (td ty : TE) : TE := fun σ H Q => td σ H fun x H1 => ty σ H1 fun y H2 => ∃ a kvs k v, x = V.ref a ∧ KDct K w a kvs ∧ y = kV k ∧ valV kvs k = some v ∧ Q v H2
section
variable {X : Cx} {K : PySem.W.Frag} {w : World}
theorem op_notInC (h : X.K = K) (hw : X.w = w := by rfl) : OpR X (compareOp .NotIn) (rNotInC K w) := by
  subst h hw
  intro pins s σ H x y v u Q I rx ry h
  obtain ⟨a, kvs, k, rfl, hd, rfl, q⟩ := h
  cases ry
  obtain ⟨hs, vs, rel, dd⟩ := hd X.prog s.heap I.kIn
  refine wpAny_notIn_of (kV_is rx) hs dd.mapOf ?_
  rw [← (rel.val k).isSome_eq]
  exact ⟨.bl _, H, I.tok _, rfl, q⟩
theorem pe_cget (h : X.K = K) {o i : Expr} {pos : Pos} {td ty : TE} (ho : PE X o td) (hi : PE X i ty) (hs : NoSl i) (hw : X.w = w := by rfl) : PE X (.Subscript o i pos) (tCGet K w td ty) := by
  subst h hw
  refine ⟨fun pins s σ H Q I h => ?_⟩
  refine subD_of PySem.F.slot_dict_getitem.lookup hs (thn (ho.run pins s σ H _ I h) fun u s1 ⟨x, H1, I1, rx, q1⟩ => thn (hi.run pins s1 σ H1 _ I1 q1) fun iv s2 ⟨y, H2, I2, ry, a, kvs, k, v, ex, hd, ey, hv, q2⟩ => ?_)
  subst ex ey
  obtain rfl : u = Value.ref a := rx
  obtain ⟨hs, vs, rel, dd⟩ := hd X.prog s2.heap I2.kIn
  obtain ⟨w', hw, rw'⟩ := RelO.some_of (v := v) (o := valueAt vs k) (by rw [← hv]; exact rel.val k)
  exact ⟨dd.typeIs, wpAny_getItem_of (kV_is ry) dd.mapOf hw ⟨v, H2, I2.tok _, rw', q2⟩⟩
end
end Mk
namespace Mk
open PySem PySem.Spec PyProof.Rows L2
/-- the world, one setting of it told -/
def wB (b : Bool) (w : World) : World := { w with params := { w.params with followText := fun r => if r = "special-get-raises" then b else w.params.followText r } }
theorem wB_eq {w : World} {b : Bool} (h : w.params.followText "special-get-raises" = b) : w = wB b w := by
  obtain ⟨d, p⟩ := w
  obtain ⟨p1, p2, p3, p4, p5, p6, p7, p8, p9, p10, p11, p12, p13, p14, p15, p16⟩ := p
  unfold wB
  have e : p6 = fun r => if r = "special-get-raises" then b else p6 r := by
    funext r
    by_cases c : r = "special-get-raises"
    · subst c
      rw [if_pos rfl]
      exact h
    · rw [if_neg c]
  dsimp only
  rw [← e]
/-! ### the module's dict, read off the heap behind the top -/
abbrev DcE : Type := Option (Int × Str × List Int)
abbrev DcW : Type := Option (List DcE)
def intsO : List Value → Option (List Int)
  | [] => some []
  | .int i _ :: vs => (intsO vs).map (i :: ·)
  | _ :: _ => none
def dcE (K : PySem.W.Frag) (e : DictEntry) : DcE := match e.key, e.val with
  | .str k _, .ref t => (match K.lookup t with
    | some ⟨.type n, _, .seq its _, _⟩ => if (decide (n = "tuple") && decide (its.size ≤ sizeLine)) = true then (intsO its.toList).map fun js => (e.hash, k, js) else none
    | _ => none)
  | _, _ => none
def dcO (K : PySem.W.Frag) (x : Str) : DcW := match PySem.W.nsIn K mainGlobals x with
  | some (some (.ref a)) => (match K.lookup a with
    | some ⟨.type n, none, .dict es _, sl⟩ => if (decide (n = "dict") && (decide (sl.toList.length = 0) && !(a == sysModules))) = true then some (es.toList.map (dcE K)) else none
    | _ => none)
  | _ => none
def dcV (w : World) (d : List (Str × List Int)) : DcW := some (d.map fun p => some (hashStr w p.1, p.1, p.2))
theorem intsO_ok : ∀ {vs : List Value} {js : List Int}, intsO vs = some js → Vals (js.map V.int) vs
  | [], js, h => by cases h; exact .nil
  | v :: vs, js, h => by
    cases v with
    | int i t =>
      obtain ⟨ks, h1, rfl⟩ := Option.map_eq_some_iff.mp (show (intsO vs).map (i :: ·) = some js from h)
      exact .cons ⟨t, rfl⟩ (intsO_ok h1)
    | _ => cases h
def CD (K : PySem.W.Frag) : List (Str × List Int) → List (Key × V) → Prop := Paired fun p q => q.1 = .inr p.1 ∧ ∃ t, q.2 = .ref t ∧ ∀ H, SqT K H t (p.2.map V.int)
theorem dcE_ok {K : PySem.W.Frag} {e : DictEntry} {hv : Int} {k : Str} {js : List Int} (h : dcE K e = some (hv, k, js)) : ∃ u t, e.key = .str k u ∧ e.val = .ref t ∧ e.hash = hv ∧ ∀ H, SqT K H t (js.map V.int) := by
  unfold dcE at h
  split at h
  · rename_i k' u t ek ev
    split at h
    · rename_i n dd its m sl hk
      split at h
      · rename_i hc
        obtain ⟨c1, c2⟩ := He.ba hc
        obtain ⟨js', h1, h2⟩ := Option.map_eq_some_iff.mp h
        cases h2
        have := of_decide_eq_true c1
        subst this
        exact ⟨u, t, ek, ev, rfl, fun H => .inr ⟨_, its, m, hk, rfl, rfl, of_decide_eq_true c2, intsO_ok h1⟩⟩
      · cases h
    · cases h
  · cases h
theorem dc_ents {K : PySem.W.Frag} {w : World} : ∀ {es : List DictEntry} {d : List (Str × List Int)}, es.map (dcE K) = d.map (fun p => some (hashStr w p.1, p.1, p.2)) →
    ∃ kvs vs, CD K d kvs ∧ KV kvs vs ∧ vs.map (·.1) = (d.map (·.1)).map Sum.inr ∧ ∀ P : Program, (∀ e ∈ es, ∃ k, (mixKind P w).is k e.key = true ∧ e.hash = (mixKind P w).hash k) ∧ Pairs (mixKind P w) es vs
  | [], [], _ => ⟨[], [], Paired.nil, Paired.nil, rfl, fun P => ⟨(fun e he => nomatch he), Pairs.nil⟩⟩
  | e :: es, p :: d, h => by
    rw [List.map_cons, List.map_cons] at h
    injection h with h1 h2
    obtain ⟨u, t, e1, e2, e3, e4⟩ := dcE_ok h1
    obtain ⟨kvs, vs, b, c, g, z⟩ := dc_ents h2
    have ki : keyIs (.inr p.1) e.key = true := by
      rw [e1]
      show Value.isStrOf p.1 (.str p.1 u) = true
      simp [Value.isStrOf]
    refine ⟨(.inr p.1, .ref t) :: kvs, (.inr p.1, .ref t) :: vs, Paired.cons ⟨rfl, t, rfl, e4⟩ b, Paired.cons ⟨rfl, rfl⟩ c, by rw [List.map_cons, List.map_cons, List.map_cons, g], fun P => ⟨fun e' he' => ?_, Pairs.cons ki e2 (z P).2⟩⟩
    rcases List.mem_cons.mp he' with rfl | he'
    · exact ⟨.inr p.1, ki, e3⟩
    · exact (z P).1 e' he'
  | [], _ :: _, h => by cases h
  | _ :: _, [], h => by cases h
theorem nd_inr : ∀ {l : List Str}, l.Nodup → (l.map (Sum.inr : Str → Key)).Nodup
  | [], _ => List.nodup_nil
  | a :: l, h => by
    obtain ⟨h1, h2⟩ := List.nodup_cons.mp h
    rw [List.map_cons]
    refine List.nodup_cons.mpr ⟨fun m => ?_, nd_inr h2⟩
    obtain ⟨b, hb, e⟩ := List.mem_map.mp m
    cases e
    exact h1 hb
theorem dcO_ok {K : PySem.W.Frag} {w : World} {h : Heap} {mg : Str → Option Value} (X : K.In h) (G : h.Ns mainGlobals mg) {x : Str} {d : List (Str × List Int)} (c : dcO K x = dcV w d) (nd : (d.map (·.1)).Nodup) :
    ∃ a kvs, mg x = some (.ref a) ∧ KDct K w a kvs ∧ CD K d kvs := by
  unfold dcO dcV at c
  split at c
  · rename_i a e
    split at c
    · rename_i n es ep sl hk
      split at c
      · rename_i hc
        obtain ⟨c1, hc⟩ := He.ba hc
        obtain ⟨c2, c3⟩ := He.ba hc
        have := of_decide_eq_true c1
        subst this
        have hsl : sl = #[] := by
          obtain ⟨l⟩ := sl
          have := of_decide_eq_true c2
          cases l with
          | nil => rfl
          | cons => cases this
        subst hsl
        obtain ⟨kvs, vs, b, c', g, z⟩ := dc_ents (Option.some.inj c)
        refine ⟨a, kvs, PySem.W.mg_of X G e, fun P h' X' => ⟨by simpa using c3, vs, c', _, es, ep, X' _ _ hk, ⟨rfl, rfl, rfl⟩, rfl, fun e he => (z P).1 e (by simpa using he), (z P).2, ?_⟩, b⟩
        rw [g]
        exact nd_inr nd
      · cases c
    · cases c
  · cases c
end Mk
namespace Mx
open PySem PySem.Spec PyProof.Rows L2
section
variable {G : Gx} {T : List Addr} {E : XK}
/-! sum(d.values()) -/
def mSumV (md : EM) : EM := fun env st => (md env st).bind fun d => match d.1 with
  | .ref n => match d.2[n]? with
    | some (.dct lk (p :: kvs)) => match p.1, intsA ((p :: kvs).map (·.2)) with
      | .tup _, some ns => .ok (.int ns.sum, d.2)
      | _, _ => .fail
    | _ => .fail
  | _ => .fail
theorem imXs_vals {H : Hp} {ι : List Addr} : ∀ {kvs : List (A × A)} {xs : Mk.NdX}, ImXs G.K H ι kvs xs → ImL G.K H ι (kvs.map (·.2)) (xs.map (·.2.2))
  | _, _, .nil => imL_nil
  | _, _, .cons h r => imL_cons h.2.2 (imXs_vals r)
theorem ex_sumV (M : AmX G T) {td : TE} {md : EM} (hd : Ex G E td md) : Ex G E (tCB Mk.rSumV (tCons (Mk.tValues td) tNil)) (mSumV md) := fun ι env st σ H Q R Ev h => by
  show td σ H _
  refine hd.run R Ev h fun ι1 H1 d s1 x f1 R1 Ev1 id h1 => ?_
  dsimp only at h1
  split at h1
  · rename_i n
    split at h1
    · rename_i lk p kvs hs
      split at h1
      · rename_i pl ns hp hns
        obtain ⟨a, u, rfl, hn, dd, q, hR⟩ := R1.dct hs id
        rcases dd with ⟨ks, rfl, r⟩ | ⟨ne, xs, rfl, r⟩
        · exfalso
          cases r with
          | cons h _ =>
            have := h.1
            rw [hp] at this
            cases this
        · refine ⟨G.w, a, xs, rfl, hR, fun b hb => ?_⟩
          have hab : a ≠ b := fun e => by
            subst e
            rcases hR with z | ⟨o, z⟩ <;> rw [hb] at z <;> cases z
          refine ⟨G.w, b, a, xs, ns, rfl, upd_same, ?_, ?_, ?_⟩
          · rcases hR with z | ⟨o, z⟩
            · exact .inl (by rw [upd_ne hab]; exact z)
            · exact .inr ⟨o, by rw [upd_ne hab]; exact z⟩
          · exact intsA_im hns (imXs_vals r)
          · exact (show PE1 G ι H Q (.int ns.sum, s1) from h1) _ _ _ (f1.trans (Fr.new hb)) (R1.new M hb) im_int
      · exact h1.elim
    · exact h1.elim
  · exact h1.elim
/-! a dict of the module -/
def mNotInC (js : List (Str × List Int)) (my : EM) : EM := fun env st => (my env st).bind fun y => match y.1 with
  | .str s => .ok (.bl (!(js.find? fun p => decide (p.1 = s)).isSome), y.2)
  | _ => .fail
def mCGet (js : List (Str × List Int)) (my : EM) : EM := fun env st => (my env st).bind fun y => match y.1 with
  | .str s => match js.find? fun p => decide (p.1 = s) with
    | some p => .ok (.tup (p.2.map A.int), y.2)
    | none => .fail
  | _ => .fail
theorem cd_find {s : Str} : ∀ {js : List (Str × List Int)} {kvs : List (Key × V)}, Mk.CD G.K js kvs → match js.find? (fun p => decide (p.1 = s)) with
    | some p => ∃ t, valV kvs (.inr s) = some (.ref t) ∧ ∀ H, SqT G.K H t (p.2.map V.int)
    | none => valV kvs (.inr s) = none
  | _, _, .nil => rfl
  | _, _, .cons (a := p) (b := q) (l₁ := l) (l₂ := l2) h r => by
    have ih := cd_find (s := s) r
    unfold valV at ih ⊢
    rw [List.find?_cons, List.find?_cons, h.1]
    by_cases e : p.1 = s
    · rw [decide_eq_true e, decide_eq_true (by rw [e])]
      obtain ⟨t, e2, e3⟩ := h.2
      exact ⟨t, by show some q.2 = _; rw [e2], e3⟩
    · rw [decide_eq_false e, decide_eq_false (fun z => e (by cases z; rfl))]
      exact ih
theorem ex_notInC {a : Addr} {kvs : List (Key × V)} {js : List (Str × List Int)} (hd : Mk.KDct G.K G.w a kvs) (hc : Mk.CD G.K js kvs) {ty : TE} {my : EM} (hy : Ex G E ty my) : Ex G E (tOp (Mk.rNotInC G.K G.w) ty (tC (.ref a))) (mNotInC js my) := fun ι env st σ H Q R Ev h => by
  show ty σ H _
  refine hy.run R Ev h fun ι1 H1 y s1 v f1 R1 Ev1 im h1 => ?_
  cases y with
  | str s =>
    refine ⟨a, kvs, .inr s, rfl, hd, im_str' im, ?_⟩
    have k := cd_find (s := s) hc
    have e : (js.find? fun p => decide (p.1 = s)).isSome = (valV kvs (.inr s)).isSome := by
      split at k
      · rename_i p hp
        obtain ⟨t, e2, _⟩ := k
        rw [hp, e2]; rfl
      · rename_i hp
        rw [hp, k]; rfl
    rw [← e]
    exact (show PE1 G ι H Q (.bl (!(js.find? fun p => decide (p.1 = s)).isSome), s1) from h1) _ _ _ f1 R1 im_bl
  | _ => exact h1.elim
theorem ex_cget {a : Addr} {kvs : List (Key × V)} {js : List (Str × List Int)} (hd : Mk.KDct G.K G.w a kvs) (hc : Mk.CD G.K js kvs) {ty : TE} {my : EM} (hy : Ex G E ty my) : Ex G E (Mk.tCGet G.K G.w (tC (.ref a)) ty) (mCGet js my) := fun ι env st σ H Q R Ev h => by
  show ty σ H _
  refine hy.run R Ev h fun ι1 H1 y s1 v f1 R1 Ev1 im h1 => ?_
  cases y with
  | str s =>
    have k := cd_find (s := s) hc
    dsimp only at h1
    split at h1
    · rename_i p hp
      rw [hp] at k
      obtain ⟨t, e2, e3⟩ := k
      refine ⟨a, kvs, .inr s, _, rfl, hd, im_str' im, e2, ?_⟩
      exact (show PE1 G ι H Q (.tup (p.2.map A.int), s1) from h1) _ _ _ f1 R1 (by unfold Im; exact ⟨t, _, rfl, e3 _, imL_ints p.2⟩)
    · exact h1.elim
  | _ => exact h1.elim
end
end Mx

/-! ### MqXH -/
set_option Elab.async false
set_option linter.all false
set_option maxRecDepth 100000
set_option maxHeartbeats 8000000
namespace Mx
open PySem PySem.Spec PyProof.Rows L2 Mk
open GxR (TabG Tabbed)
open LamX (TabS)
abbrev qL : Str := (("law" : Str) ++ ".<locals>.") ++ "<lambda>"
/-! ### what is asked of the heap behind the top -/
def errN : List Str := ["MarkError", "BadQuestion", "BadReader", "BadManner", "BadPath", "BadRow", "BadNumber", "BadTrap", "TooMany"]
def oexB (K : PySem.W.Frag) (C : Addr) : Bool := (match K.lookup C with
  | some ⟨.type t, _, .cls cd, sl⟩ => (match cd.mro, sl.toList with
    | .ref C' :: bm, [_, _, _, _, some (.builtin n), _] => decide (t = "type") && (C' == C && (decide (n = "ValueError.__new__") && (!cd.hasDel && (cd.hasDict && PySem.HandSPX.refsVE bm))))
    | _, _ => false)
  | _ => false) && (He.eqO (PySem.W.findIn K (.ref C) "__setattr__") (some (some (.builtin "object.__setattr__"))) && (decide (PySem.W.subIn K (.ref C) (.type "BaseException") = some true) && (decide (PySem.W.typeIn K (.ref C) = some (.type "type")) && PySem.W.keepIn K (.ref C))))
theorem oexB_ok {K : PySem.W.Frag} {C : Addr} (h : oexB K C = true) : OexC K C := by
  obtain ⟨h1, h⟩ := He.ba h
  obtain ⟨h2, h⟩ := He.ba h
  obtain ⟨h3, h⟩ := He.ba h
  obtain ⟨h4, h5⟩ := He.ba h
  refine ⟨?_, He.eqO_ok h2, of_decide_eq_true h3, of_decide_eq_true h4, h5⟩
  split at h1
  · rename_i t dd cd sl hk
    split at h1
    · rename_i C' bm k0 k1 k2 k3 n k5 hm hs
      obtain ⟨a0, h1⟩ := He.ba h1
      obtain ⟨a1, h1⟩ := He.ba h1
      obtain ⟨a2, h1⟩ := He.ba h1
      obtain ⟨a3, h1⟩ := He.ba h1
      obtain ⟨a4, a5⟩ := He.ba h1
      have e0 := of_decide_eq_true a0
      have e1 : C' = C := eq_of_beq a1
      have e2 := of_decide_eq_true a2
      subst e0 e1 e2
      obtain ⟨nm, bs, mro, ns, qn, hd, sn, sub, ab, col, del⟩ := cd
      dsimp only at hm a3 a4
      subst hm a4
      have e3 : del = false := by cases del <;> simp_all
      subst e3
      have hsl : sl = #[k0, k1, k2, k3, some (.builtin "ValueError.__new__"), k5] := by
        obtain ⟨l⟩ := sl
        simp only at hs
        rw [hs]
      subst hsl
      exact ⟨nm, qn, ns, bs, bm, sn, sub, ab, col, dd, k0, k1, k2, k3, k5, hk, a5⟩
    · cases h1
  · cases h1
def excB (K : PySem.W.Frag) (D : Addr) : Bool := He.eqO (PySem.W.findIn K (.ref D) "__getattribute__") (some (some (.builtin "BaseException.__getattribute__"))) && (He.eqO (PySem.W.findIn K (.ref D) "__getattr__") (some none) && (decide (PySem.W.subIn K (.ref D) (.type "BaseException") = some true) && (PySem.W.hasDictIn K D &&
  (He.eqO (PySem.W.findIn K (.ref D) "__class__") (some (some (.builtin "object.__class__"))) && (He.eqO (PySem.W.specialIn K (.builtin "object.__class__") "__get__") (some (some (.builtin "getset_descriptor.__get__"))) && (decide (PySem.W.takesIn K (.builtin "object.__class__") = some true) && decide (PySem.W.mroIn K D (.type "object") = some true)))))))
theorem excB_ok {K : PySem.W.Frag} {C : Addr} (h : excB K C = true) : ExcC K C := by
  obtain ⟨h1, h⟩ := He.ba h
  obtain ⟨h2, h⟩ := He.ba h
  obtain ⟨h3, h⟩ := He.ba h
  obtain ⟨h4, h⟩ := He.ba h
  obtain ⟨h5, h⟩ := He.ba h
  obtain ⟨h6, h⟩ := He.ba h
  obtain ⟨h7, h8⟩ := He.ba h
  exact ⟨He.eqO_ok h1, He.eqO_ok h2, of_decide_eq_true h3, h4, He.eqO_ok h5, He.eqO_ok h6, of_decide_eq_true h7, of_decide_eq_true h8⟩
/-- the class that the i-th error's name stands for -/
def cE (K : PySem.W.Frag) (i : Nat) : Addr := He.ga K (errN.getD i "")
/-- isinstance's table for the class i -/
def isB (K : PySem.W.Frag) (i : Nat) : Bool := excB K (cE K i) && ((PySem.W.clsIn K (cE K i)).isSome && (decide (PySem.W.exmOne K (.ref (cE K i)) (.ref (cE K 0)) = some true) && ((List.range 9).all fun j => decide (j = 0) || decide (PySem.W.kitOne K (.ref (cE K i)) (.ref (cE K j)) = some (decide (i = j))))))
def xfF (K : PySem.W.Frag) (i : Nat) (f : Str) : Bool := xfB K (cE K i) && He.eqO (PySem.W.findIn K (.ref (cE K i)) f) (some none)
def baseB (K : PySem.W.Frag) : Bool := PySem.W.readsIn K (cE K 0) (.type "type") && (He.eqO (PySem.W.specialIn K (.ref (cE K 0)) "__getattribute__") (some (some (.builtin "type.__getattribute__"))) && (match PySem.W.findCls K (.ref (cE K 0)) (.type "type") "__init__" with
  | some (.val (.builtin n)) => decide (n = "ValueError.__init__")
  | _ => false))
theorem isB_ok {K : PySem.W.Frag} {i : Nat} (h : isB K i = true) : ExcC K (cE K i) ∧ (PySem.W.clsIn K (cE K i)).isSome = true ∧ PySem.W.exmOne K (.ref (cE K i)) (.ref (cE K 0)) = some true ∧ ∀ j, 1 ≤ j → j ≤ 8 → PySem.W.kitOne K (.ref (cE K i)) (.ref (cE K j)) = some (decide (i = j)) := by
  obtain ⟨h1, h⟩ := He.ba h
  obtain ⟨h2, h⟩ := He.ba h
  obtain ⟨h3, h4⟩ := He.ba h
  refine ⟨excB_ok h1, h2, of_decide_eq_true h3, fun j a b => ?_⟩
  have z := List.all_eq_true.mp h4 j (List.mem_range.mpr (by omega))
  rcases Bool.or_eq_true_iff.mp z with z | z
  · have := of_decide_eq_true z
    omega
  · exact of_decide_eq_true z
theorem xfF_ok {K : PySem.W.Frag} {i : Nat} {f : Str} (h : xfF K i f = true) : XfC K (cE K i) ∧ PySem.W.findIn K (.ref (cE K i)) f = some none := ⟨xfB_ok (He.ba h).1, He.eqO_ok (He.ba h).2⟩
theorem baseB_ok {K : PySem.W.Frag} {mg : Str → Option Value} (h : baseB K = true) (g : mg "MarkError" = some (.ref (cE K 0))) : BaseT K mg "MarkError" (cE K 0) (.type "type") := by
  obtain ⟨h1, h⟩ := He.ba h
  obtain ⟨h2, h3⟩ := He.ba h
  refine ⟨g, ⟨h1, He.eqO_ok h2⟩, ?_⟩
  split at h3
  · rename_i n e
    rw [e, of_decide_eq_true h3]
  · cases h3
/-- the errors with a field -/
def fldN : List (Nat × Str) := [(1, "part"), (2, "part"), (5, "place"), (8, "most")]
def exE (K : PySem.W.Frag) : Bool := ((List.range 8).all fun i => isB K (i + 1)) && ((fldN.all fun p => oexB K (cE K p.1) && xfF K p.1 p.2) && baseB K)
theorem exE_is {K : PySem.W.Frag} (h : exE K = true) (i : Nat) (a : 1 ≤ i) (b : i ≤ 8) : isB K i = true := by
  have z := List.all_eq_true.mp (He.ba h).1 (i - 1) (List.mem_range.mpr (by omega))
  rw [Nat.sub_add_cancel a] at z
  exact z
theorem exE_fld {K : PySem.W.Frag} (h : exE K = true) {i : Nat} {f : Str} (m : (i, f) ∈ fldN) : oexB K (cE K i) = true ∧ xfF K i f = true := He.ba (List.all_eq_true.mp (He.ba (He.ba h).2).1 (i, f) m)
theorem exE_base {K : PySem.W.Frag} (h : exE K = true) : baseB K = true := (He.ba (He.ba h).2).2
/-! ### properties -/
/-- the property object, its getter -/
def gp (K : PySem.W.Frag) (C f : Str) : Addr × Addr := match PySem.W.findIn K (.ref (He.ga K C)) f with
  | some (some (.ref p)) => (match PySem.W.recIn K p "property" with
    | some (.ref g :: _) => (p, g)
    | _ => (p, 0))
  | _ => (0, 0)
structure PrD where
  cls : Str
  f : Str
  qual : Str
  st : Stmt
def PrD.val (d : PrD) : He.FnW := some (d.f, d.qual, defArgs d.st, .stmts (defBody d.st), defScope d.st, mainGlobals, [], builtinsNs)
def prW (K : PySem.W.Frag) (d : PrD) : He.FnW := match K.lookup (gp K d.cls d.f).2 with
  | some ⟨_, _, .func fd, _⟩ => some (fd.name, fd.qualname, fd.params, fd.body, fd.scope, fd.globals, fd.closure, fd.builtins)
  | _ => none
def propB (K : PySem.W.Frag) (d : PrD) : Bool := He.eqO (PySem.W.findIn K (.ref (He.ga K d.cls)) d.f) (some (some (.ref (gp K d.cls d.f).1))) && (He.eqO (PySem.W.specialIn K (.ref (gp K d.cls d.f).1) "__get__") (some (some (.builtin "property.__get__"))) && (decide (PySem.W.takesIn K (.ref (gp K d.cls d.f).1) = some true) &&
  ((match PySem.W.recIn K (gp K d.cls d.f).1 "property" with
    | some (.ref g :: _) => decide (g = (gp K d.cls d.f).2)
    | _ => false) && (PySem.W.keepIn K (.ref (gp K d.cls d.f).2) && (match K.lookup (gp K d.cls d.f).2 with
    | some ⟨_, _, .func fd, _⟩ => PySem.W.codeIn K fd.code d.qual && He.dflB K fd.defaults []
    | _ => false)))))
def fdOf (K : PySem.W.Frag) (p : Str × Option Str) : FuncData := match K.lookup (He.fAd K p) with
  | some ⟨_, _, .func fd, _⟩ => fd
  | _ => ⟨"", "", ⟨[], [], none, [], [], none, []⟩, .stmts [], ⟨.function, [], false, false, []⟩, 0, [], .none, .none, .none, .none, none, .none, .none, 0⟩
theorem funD_fun {K : PySem.W.Frag} {x qual : Str} {st : Stmt} {p : Str × Option Str} (h : ∃ fd, FunD K x qual (defArgs st) (defBody st) (defScope st) [] [] (He.fAd K p) fd) : Fun K x qual st (He.fAd K p) (fdOf K p) := by
  obtain ⟨fd, F⟩ := h
  obtain ⟨oc, od, dV, kV, doc, pm, an, cdv, ct, osl, e, lk, hcd, hD, hK⟩ := F.ex
  have e1 : fdOf K p = fd := by unfold fdOf; rw [lk]
  rw [e1]
  have e2 : dV = .none := by
    rcases hD with ⟨_, h⟩ | ⟨h, _⟩
    · exact h
    · exact absurd rfl h
  subst e2
  exact ⟨⟨oc, od, kV, doc, pm, an, cdv, ct, osl, e, lk, hcd⟩, F.kp⟩
def fdAt (K : PySem.W.Frag) (a : Addr) : FuncData := match K.lookup a with
  | some ⟨_, _, .func fd, _⟩ => fd
  | _ => ⟨"", "", ⟨[], [], none, [], [], none, []⟩, .stmts [], ⟨.function, [], false, false, []⟩, 0, [], .none, .none, .none, .none, none, .none, .none, 0⟩
theorem funD_fd {K : PySem.W.Frag} {x qual : Str} {a : Arguments} {b : List Stmt} {c : Scope} {dvs : List V} {kws : List (Str × V)} {p : Str × Option Str} (h : ∃ fd, FunD K x qual a b c dvs kws (He.fAd K p) fd) : FunD K x qual a b c dvs kws (He.fAd K p) (fdOf K p) := by
  obtain ⟨fd, F⟩ := h
  obtain ⟨oc, od, dV, kV, doc, pm, an, cdv, ct, osl, e, lk, hcd, hD, hK⟩ := F.ex
  have e1 : fdOf K p = fd := by unfold fdOf; rw [lk]
  rw [e1]
  exact F
theorem PrD.fun_ {K : PySem.W.Frag} {d : PrD} (e : prW K d = d.val) (c : propB K d = true) : PropOf K (He.ga K d.cls) d.f (gp K d.cls d.f).1 (gp K d.cls d.f).2 ∧ Fun K d.f d.qual d.st (gp K d.cls d.f).2 (fdAt K (gp K d.cls d.f).2) := by
  obtain ⟨c1, c⟩ := He.ba c
  obtain ⟨c2, c⟩ := He.ba c
  obtain ⟨c3, c⟩ := He.ba c
  obtain ⟨c4, c⟩ := He.ba c
  obtain ⟨c5, c6⟩ := He.ba c
  refine ⟨⟨He.eqO_ok c1, He.eqO_ok c2, of_decide_eq_true c3, ?_⟩, ?_⟩
  · split at c4
    · rename_i g rest q
      have e2 := of_decide_eq_true c4
      exact ⟨rest, by rw [q, e2]⟩
    · cases c4
  · unfold prW at e
    unfold fdAt
    cases q : K.lookup (gp K d.cls d.f).2 with
    | none =>
      rw [q] at c6
      cases c6
    | some o =>
      obtain ⟨oc, od, dt, osl⟩ := o
      rw [q] at c6 e
      cases dt with
      | func fd =>
        obtain ⟨n1, n2, n3, n4, n5, n6, n7, n8, n9, n10, n11, n12, n13, n14, n15⟩ := fd
        have e2 : (some (n1, n2, n3, n4, n5, n6, n7, n15) : He.FnW) = some (d.f, d.qual, defArgs d.st, .stmts (defBody d.st), defScope d.st, mainGlobals, [], builtinsNs) := e
        simp only [Option.some.injEq, Prod.mk.injEq] at e2
        obtain ⟨h1, h2, h3, h4, h5, h6, h7, h8⟩ := e2
        subst h1 h2 h3 h4 h5 h6 h7 h8
        have c7 : (PySem.W.codeIn K n13 d.qual && He.dflB K n8 []) = true := c6
        obtain ⟨k1, k2⟩ := He.ba c7
        have k3 : n8 = .none := by
          rcases He.dflB_ok k2 with ⟨_, z⟩ | ⟨z, _⟩
          · exact z
          · exact absurd rfl z
        subst k3
        exact ⟨⟨oc, od, n9, n10, n11, n12, n13, n14, osl, rfl, q, k1⟩, c5⟩
      | _ => cases c6
/-! ### what the law's tables keep -/
def AmL (G : List Addr) (TP : Addr) : Hp → Prop := fun H => (∀ T ∈ G, TabG H T) ∧ TabS H TP qL
structure AmOkX (Am : Hp → Prop) (G : List Addr) : Prop where
  tab : ∀ {T H}, T ∈ G → Am H → TabG H T
  tabbed : ∀ {T H H'}, T ∈ G → Am H → Tabbed T H H' → Am H'
  same : ∀ {H H'}, Am H → (∀ b o, H b = some o → (∀ xs, o ≠ .lst xs) → H' b = some o) → Am H'
theorem amL_okX {G : List Addr} {TP : Addr} (h : TP ∉ G) : AmOkX (AmL G TP) G := by
  have ts : ∀ {H H' : Hp} {T : Addr}, TabG H T → T ≠ TP → Tabbed T H H' → TabS H TP qL → TabS H' TP qL := fun {H H' T} hT n t ⟨ps, e, tr, c⟩ => by
    refine ⟨ps, by rw [t.2 _ (Ne.symm n)]; exact e, tr, fun pos cv q => ?_⟩
    obtain ⟨c', rfl, hc⟩ := c pos cv q
    refine ⟨c', rfl, ?_⟩
    rw [t.2 c' fun z => ?_]
    · exact hc
    · obtain ⟨ps2, e2, _⟩ := hT
      rw [z, e2] at hc
      cases hc
  refine ⟨fun hT a => a.1 _ hT, fun {T H H'} hT a t => ⟨fun U hU => ?_, ts (a.1 _ hT) (fun z => h (z ▸ hT)) t a.2⟩, fun {H H'} a k => ⟨fun U hU => ?_, ?_⟩⟩
  · by_cases e : U = T
    · subst e
      exact t.1
    · obtain ⟨ps, e2, tr⟩ := a.1 _ hU
      exact ⟨ps, by rw [t.2 _ e]; exact e2, tr⟩
  · obtain ⟨ps, e2, tr⟩ := a.1 _ hU
    exact ⟨ps, k _ _ e2 (fun xs z => by cases z), tr⟩
  · obtain ⟨ps, e, tr, c⟩ := a.2
    refine ⟨ps, k _ _ e (fun xs z => by cases z), tr, fun pos cv q => ?_⟩
    obtain ⟨c', rfl, hc⟩ := c pos cv q
    exact ⟨c', rfl, k _ _ hc (fun xs z => by cases z)⟩
theorem amL_grow {G : List Addr} {TP : Addr} (h : TP ∉ G) (H H1 : Hp) (a : AmL G TP H) (g : GrowT TP H H1) (t : TabS H1 TP qL) : AmL G TP H1 := ⟨fun U hU => by
  obtain ⟨ps, e2, tr⟩ := a.1 _ hU
  exact ⟨ps, g _ _ (fun z => h (z ▸ hU)) e2, tr⟩, t⟩
theorem amL_start {G : List Addr} {TP : Addr} {H : Hp} (h : ∀ T ∈ TP :: G, H T = some (.tbl #[])) : AmL G TP H := by
  refine ⟨fun T hT => ⟨#[], h T (List.mem_cons_of_mem _ hT), ?_⟩, #[], h TP List.mem_cons_self, ?_, fun pos cv q => ?_⟩
  · first | exact True.intro | (unfold TriplesOk; simp) | exact .nil
  · first | exact True.intro | (unfold TriplesOk; simp) | exact .nil
  · cases q
/-- the context of a law: its tables of gens gs, its own TP -/
abbrev GG (w : World) (K : PySem.W.Frag) (gs : List Addr) (TP : Addr) (cl : Nat → Addr) : Gx := ⟨w, K, AmL gs TP, cE K, cl⟩
theorem amX_of {w : World} {K : PySem.W.Frag} {gs : List Addr} {TP : Addr} {cl : Nat → Addr} (h : TP ∉ gs) : AmX (GG w K gs TP cl) gs := ⟨fun hT a => a.1 _ hT, fun hT a t => (amL_okX h).tabbed hT a t, fun {H H'} a k => ⟨fun U hU => by
  obtain ⟨ps, e2, tr⟩ := a.1 _ hU
  exact ⟨ps, k _ _ e2 (fun m => m.2.1 _ rfl), tr⟩, by
  obtain ⟨ps, e, tr, c⟩ := a.2
  refine ⟨ps, k _ _ e (fun m => m.2.1 _ rfl), tr, fun pos cv q => ?_⟩
  obtain ⟨c', rfl, hc⟩ := c pos cv q
  exact ⟨c', rfl, k _ _ hc fun m => m.2.2.2 _ _ rfl⟩⟩⟩
theorem amW_of {w : World} {K : PySem.W.Frag} {gs : List Addr} {TP : Addr} {cl : Nat → Addr} (h : TP ∉ gs) : AmW (GG w K gs TP cl) TP qL := ⟨fun a => a.2, fun a g t => amL_grow h _ _ a g t⟩
/-! ### the Hook -/
structure HD where
  fas : List He.Fa
  fns : List He.DefD
  prs : List PrD
  tfs : List He.Defn
  ex : PySem.W.Frag → Bool
  as_ : List Addr
  dcs : List (Str × List (Str × List Int))
def HD.exA (D : HD) (K : PySem.W.Frag) : Bool := D.ex K && (D.prs.all fun p => propB K p)
abbrev AlP : Type := He.AlX × List He.FnW × List DcW
def reach (D : HD) (g : Addr → Option Obj) : List Addr := D.as_
def obY (D : HD) (g : Addr → Option Obj) : AlP :=
  let F := He.frT g (reach D g)
  (((He.obsD D.fas D.fns F, []), D.exA F && He.tabsB g D.tfs F), D.prs.map (prW F), D.dcs.map fun p => dcO F p.1)
def vaY (D : HD) (w : World) : AlP := (He.valX D.fns [] w, D.prs.map PrD.val, D.dcs.map fun p => dcV w p.2)
structure Says (D : HD) (w : World) (h : Heap) (K : PySem.W.Frag) : Prop where
  x : He.SaysX D.fas D.fns [] D.tfs D.exA w h K
  p : D.prs.map (prW K) = D.prs.map PrD.val
  d : (D.dcs.map fun p => dcO K p.1) = D.dcs.map fun p => dcV w p.2
theorem obY_says {D : HD} {w : World} {h : Heap} (e : obY D h.get? = vaY D w) : Says D w h (He.frT h.get? (reach D h.get?)) := by
  have e0 : ((He.obsD D.fas D.fns (He.frT h.get? (reach D h.get?)), ([] : List _)), D.exA (He.frT h.get? (reach D h.get?)) && He.tabsB h.get? D.tfs (He.frT h.get? (reach D h.get?))) = He.valX D.fns [] w := congrArg Prod.fst e
  have q : (D.exA (He.frT h.get? (reach D h.get?)) && He.tabsB h.get? D.tfs (He.frT h.get? (reach D h.get?))) = true := congrArg Prod.snd e0
  have q1 := (He.ba q).1
  have q2 := fun p hp => He.ba (List.all_eq_true.mp (He.ba q).2 p hp)
  have q3 : ∀ p ∈ D.tfs, ∃ o, h.get? (He.cT (He.frT h.get? (reach D h.get?)) p).2 = some o ∧ He.emptyTab o = true := fun p hp => by
    have z := (q2 p hp).2
    cases hg : h.get? (He.cT (He.frT h.get? (reach D h.get?)) p).2 with
    | some o =>
      rw [hg] at z
      exact ⟨o, rfl, z⟩
    | none =>
      rw [hg] at z
      cases z
  refine ⟨⟨congrArg Prod.fst e0, q1, fun p hp => (q2 p hp).1, ?_, ?_⟩, congrArg (fun z : AlP => z.2.1) e, congrArg (fun z : AlP => z.2.2) e⟩
  · intro p hp
    obtain ⟨o, ho, hz⟩ := q3 p hp
    exact He.frT_none ho hz
  · intro p hp
    obtain ⟨o, ho, hz⟩ := q3 p hp
    rw [ho, He.emptyTab_eq hz]
def hkX (D : HD) : PySem.W.Hook where
  α := AlP
  obs := fun s => obY D s.heap.get?
  val := fun w => vaY D w
  says := fun w h => ∃ K : PySem.W.Frag, K.In h ∧ Says D w h K
  of := fun _ _ e => ⟨_, He.frT_in, obY_says e⟩
  keeps := fun _ h h' ⟨K, i, c⟩ k => ⟨K, i.keeps k, ⟨⟨c.x.t, c.x.more, c.x.hd, c.x.out, fun p hp => k _ _ (c.x.empty p hp)⟩, c.p, c.d⟩⟩
def obX (D : HD) (s : PySem.W.SharedT) : AlP := obY D (HandSHeadRun.getT s)
theorem obX_eq (D : HD) (s : PySem.W.SharedT) : obX D s = (hkX D).obs s.abs := by
  show obY D (HandSHeadRun.getT s) = obY D s.abs.heap.get?
  rw [show HandSHeadRun.getT s = s.abs.heap.get? from funext fun a => HandSHeadRun.getT_eq s a]
theorem obY_parts {α β : Type} {D : HD} {w : World} {o : Option α} {g : α → Addr → Option Obj} {a : α → Bool} {b : α → β} {bv : β} (h1 : (o.map fun x => (a x, b x)) = some (true, bv))
    (h2 : (o.map fun x => He.obsD D.fas D.fns (He.frT (g x) D.as_)) = some (He.valD D.fns))
    (h3 : (o.map fun x => (D.exA (He.frT (g x) D.as_) && He.tabsB (g x) D.tfs (He.frT (g x) D.as_), D.prs.map (prW (He.frT (g x) D.as_)), D.dcs.map fun p => dcO (He.frT (g x) D.as_) p.1)) = some (true, D.prs.map PrD.val, D.dcs.map fun p => dcV w p.2)) :
    (o.map fun x => (a x, b x, obY D (g x))) = some (true, bv, vaY D w) := by
  cases o with
  | none => cases h1
  | some x =>
    have e1 := Option.some.inj h1
    have e2 : He.obsD D.fas D.fns (He.frT (g x) D.as_) = He.valD D.fns := Option.some.inj h2
    have e3 := Option.some.inj h3
    obtain ⟨a1, b1⟩ := Prod.mk.inj e1
    obtain ⟨a3, b3⟩ := Prod.mk.inj e3
    obtain ⟨c3, d3⟩ := Prod.mk.inj b3
    show some (a x, b x, (((He.obsD D.fas D.fns (He.frT (g x) D.as_), ([] : List _)), D.exA (He.frT (g x) D.as_) && He.tabsB (g x) D.tfs (He.frT (g x) D.as_)), D.prs.map (prW (He.frT (g x) D.as_)), D.dcs.map fun p => dcO (He.frT (g x) D.as_) p.1)) = some (true, bv, (((He.valD D.fns, []), true), D.prs.map PrD.val, D.dcs.map fun p => dcV w p.2))
    rw [a1, b1, e2, a3, c3, d3]
section
variable {D : HD} {w : World} {h : Heap} {K : PySem.W.Frag} {mg : Str → Option Value} {base : Heap}
theorem Says.fact (c : Says D w h K) (i : Nat) {f : He.Fa} (hi : D.fas[i]? = some f := by rfl) : f.ok K = true := c.x.t.d.fact i hi
theorem Says.fd (c : Says D w h K) (i : Nat) {d : He.DefD} (hi : D.fns[i]? = some d := by rfl) : FunD K d.name d.qual d.params d.body d.scope (d.dvs K) (d.kws K) (He.fAd K d.at_) (fdOf K d.at_) := funD_fd (c.x.t.d.def_ i hi)
theorem Says.pr (c : Says D w h K) (i : Nat) {d : PrD} (hi : D.prs[i]? = some d := by rfl) : PropOf K (He.ga K d.cls) d.f (gp K d.cls d.f).1 (gp K d.cls d.f).2 ∧ Fun K d.f d.qual d.st (gp K d.cls d.f).2 (fdAt K (gp K d.cls d.f).2) := by
  have e2 : (D.prs.map (prW K))[i]? = (D.prs.map PrD.val)[i]? := by rw [c.p]
  rw [List.getElem?_map, List.getElem?_map, hi] at e2
  exact PrD.fun_ (Option.some.inj e2) (List.all_eq_true.mp (He.ba c.x.more).2 d (List.mem_of_getElem? hi))
theorem Says.dc (c : Says D w h K) (i : Nat) {x : Str} {d : List (Str × List Int)} (hi : D.dcs[i]? = some (x, d) := by rfl) : dcO K x = dcV w d := by
  have e := congrArg (fun l : List DcW => l[i]?) c.d
  simp only [List.getElem?_map, hi] at e
  exact Option.some.inj e
theorem Says.ex (c : Says D w h K) : D.ex K = true := (He.ba c.x.more).1
theorem fun_of {x qual : Str} {st : Stmt} {f : Addr} {fd : FuncData} (F : FunD K x qual (defArgs st) (defBody st) (defScope st) [] [] f fd) : Fun K x qual st f fd := by
  obtain ⟨oc, od, dV, kV, doc, pm, an, cdv, ct, osl, e, lk, hcd, hD, hK⟩ := F.ex
  have e2 : dV = .none := by
    rcases hD with ⟨_, h⟩ | ⟨h, _⟩
    · exact h
    · exact absurd rfl h
  subst e2
  exact ⟨⟨oc, od, kV, doc, pm, an, cdv, ct, osl, e, lk, hcd⟩, F.kp⟩
theorem own_ofX {x q : Str} {a : Arguments} {b : List Stmt} {s : Scope} {dvs : List V} {kws : List (Str × V)} {p : Str × Option Str} (F : FunD K x q a b s dvs kws (He.fAd K p) (fdOf K p)) (T : LamX.TabB base mg (He.cT K p).1 (He.cT K p).2) : OwnX mg base (fdOf K p) (He.cT K p).1 (He.cT K p).2 := by
  obtain ⟨oc, od, dV, kV, doc, pm, an, cdv, ct, osl, e, lk, hcd, _⟩ := F.ex
  obtain ⟨c, rfl⟩ := He.codeIn_ref hcd
  have e1 : (fdOf K p).code = .ref c := by rw [e]
  exact ⟨by rw [e1]; exact congrArg Value.ref (He.codeOf_eq lk e1).symm, ⟨T.code, T.bm, T.gP⟩⟩
end
/-! ### own errors made -/
theorem small_text {a y : Str} (ha : a.length ≤ 1000) (hy : y.length ≤ 2000) : (a ++ y).length ≤ sizeLine := by
  have e : (a ++ y).length = a.length + y.length := by
    show (a.cps ++ y.cps).size = _
    rw [Array.size_append]
    rfl
  rw [e, sizeLine_eq]
  omega
/-- the message's second part, whatever it tells -/
theorem rd_fmt {te : TE} {σ : L2.St} {H : Hp} {v : V} {acc : Str} {Q : Str → Hp → Prop} (he : ∀ Q : VK, Q v H → te σ H Q) (hv : (∃ y : Str, v = .str y ∧ y.length ≤ 100) ∨ (∃ i : Int, v = .int i ∧ i.natAbs.log2 < 1000) ∨ v = .non) (ha : acc.length ≤ 1000)
    (q : ∀ out, Q out H) : tFmtN te σ H (fun x H1 => ∃ y : Str, x = .str y ∧ (acc ++ y).length ≤ sizeLine ∧ tJs [] (acc ++ y) σ H1 Q) := by
  refine he _ ?_
  rcases hv with ⟨y, rfl, hy⟩ | ⟨i, rfl, hi⟩ | rfl
  · exact .inl ⟨y, rfl, by rw [sizeLine_eq]; omega, _, rfl, small_text ha (by omega), q _⟩
  · refine .inr (.inl ⟨i, rfl, by omega, _, rfl, small_text ha ?_, q _⟩)
    have := int_text_len_1921 (i := i) (by omega)
    exact Nat.le_trans this (by decide)
  · exact .inr (.inr ⟨rfl, _, rfl, small_text ha (by decide +kernel), q _⟩)
end Mx

/-! ### MkY2 -/
set_option Elab.async false
set_option linter.all false
set_option maxRecDepth 100000
set_option maxHeartbeats 4000000
namespace Mk
open PySem PySem.Spec PyProof.Rows L2
/-- the signs of a text, each in a new pair -/
def Ites (z : Str) : It :=
  ⟨fun i H => i < z.cps.size, fun i H v H' => ∃ T c, v = .ref T ∧ H T = none ∧ z.cps[i]? = some c ∧ H' = upd H T (.tup [.int (i : Nat), .str ⟨#[c]⟩]), fun i H => z.cps.size ≤ i⟩
theorem turn_enumS {P : Program} {w : World} {K : PySem.W.Frag} {elts : List Expr} {kk : Nat} {tpos : Pos} (z : Str) (tk0 : Tok) (e it : Addr) :
    Turn P w K (.Tuple elts kk tpos) (Ites z) [e, it] e (fun i h => (∃ old, IsEnum h e it ((i : Nat) : Int) old) ∧ h.IsStrIter it (strIterType z) z tk0 i ∧ e ≠ it ∧ i ≤ z.cps.size) where
  mem := by simp
  obj := fun i h st b hb => by
    obtain ⟨⟨old, he⟩, ⟨o, ho, hc, hd⟩, _⟩ := st
    have e' : b = e ∨ b = it := by simpa using hb
    rcases e' with z | z
    · rw [z]; exact ⟨_, he, fun v q => nomatch q⟩
    · rw [z]; exact ⟨o, ho, fun v q => by rw [hd] at q; cases q⟩
  keep := fun i h h' st k => let ⟨⟨old, he⟩, hi, hne, hz⟩ := st; ⟨⟨old, k e (by simp) _ he⟩, (let ⟨o, h1, h2, h3⟩ := hi; ⟨o, k it (by simp) o h1, h2, h3⟩), hne, hz⟩
  item := by
    intro X hP hw hK hc i pins s σ H E I hf st hg
    subst hP hw hK
    obtain ⟨⟨old, he⟩, hit, hne, hzz⟩ := st
    have hlt : i < z.cps.size := hg
    have hel : e < s.heap.objs.size := Heap.lt_size he
    have hil : it < s.heap.objs.size := by obtain ⟨_, q, _⟩ := hit; exact Heap.lt_size q
    have D := Draws.text (prog := X.prog) (w := X.w) (A := X.A.in1) (I.ok.hd hc) it z tk0
    refine wpAny_pyNext_enum_itemD D he hit hlt hne (by simp [hne]) fun y h' tk hy ho hst hT hsz hk => ?_
    obtain ⟨c, u, hcc, rfl⟩ := hy
    refine ⟨_, rfl, wpAny_letOwnedTupleGo_enum (s := { s with heap := h', toks := tk + 1 }) ho fun h'' he' sb => ?_⟩
    have hT2 : h''.get? s.heap.objs.size = some { cls := .type "tuple", data := .seq #[.int i tk, .str ⟨#[c]⟩ u] } := (sb.2 _ (Nat.ne_of_gt hel)).trans hT
    have new : ObjOk X.prog X.w (upd H s.heap.objs.size (.tup [.int (i : Nat), .str ⟨#[c]⟩])) h'' s.heap.objs.size (.tup [.int (i : Nat), .str ⟨#[c]⟩]) :=
      ⟨by show 2 ≤ sizeLine; decide, [.int i tk, .str ⟨#[c]⟩ u], .cons ⟨_, rfl⟩ (.cons ⟨_, rfl⟩ .nil), ⟨_, hT2, rfl, _, rfl⟩⟩
    have I1 : Inv X pins σ (upd H s.heap.objs.size (.tup [.int (i : Nat), .str ⟨#[c]⟩])) { s with heap := h'', toks := tk + 1 } :=
      I.turnedNew (ch := [e, it]) (fun b ob hb q => (sb.2 b (fun z => hb (by simp [z]))).trans (hk b ob (fun z => hb (by simp [z])) (fun z => hb (by simp [z])) q)) hf (Nat.le_refl _) new
    refine ⟨.ref s.heap.objs.size, _, I1, rfl, ⟨_, c, rfl, I.hok.fresh (Nat.le_refl _), hcc, rfl⟩, ⟨⟨.str ⟨#[c]⟩ u, ?_⟩, (let ⟨o, h1, h2, h3⟩ := hst; ⟨o, (sb.2 it (Ne.symm hne)).trans h1, h2, h3⟩), hne, hlt⟩, fun b hb => ?_⟩
    · have e1 : ((i + 1 : Nat) : Int) = (i : Int) + 1 := by omega
      rw [e1]; exact he'
    · have hb' : b < s.heap.objs.size := by
        have e' : b = e ∨ b = it := by simpa using hb
        rcases e' with z | z
        · rw [z]; exact hel
        · rw [z]; exact hil
      rw [upd_ne (Nat.ne_of_lt hb')]
      exact (hf b hb).1
  done := by
    intro X hP hw hK hc i pins s σ H E I hf st hg
    subst hP hw hK
    obtain ⟨⟨old, he⟩, hit, hne, hzz⟩ := st
    have hge : z.cps.size ≤ i := hg
    have hi : i = z.cps.size := Nat.le_antisymm hzz hge
    subst hi
    obtain ⟨f0, f1, f2, f3, f4, f5⟩ := hf it (by simp)
    have D := Draws.text (prog := X.prog) (w := X.w) (A := X.A.in1) (I.ok.hd hc) it z tk0
    refine wpAny_pyNext_enum_endD D he hit fun h' eb => ⟨rfl, I.turned (t' := s.toks) (fun b o hb q => eb b o hb q) f0 f1 f3 f4 f5⟩
  self := fun A i s Q E st h => let ⟨⟨_, he⟩, _⟩ := st; wpAny_pyIter_enum he h
def iEnumS (ta : TA) : TI := fun σ H R => ta σ H fun vs H1 => ∃ z, vs = [.str z] ∧ R (Ites z) H1
theorem pi_enumS {X : Cx} {e : Expr} {ta : TA} {p pos tpos : Pos} {elts : List Expr} {kk : Nat} (hg : Gl X "enumerate") (hm : X.mg "enumerate" = none) (ha : PA X [e] ta) (hs : starEach [e] X.env = [(false, eval e X.env)] := by rfl) :
    PI X (.Tuple elts kk tpos) (.Call (.Name "enumerate" p) [e] [] pos) (iEnumS ta) := by
  refine ⟨fun pins s σ H R I h => ?_⟩
  refine Call_ (ld_blt I hg hm boot_enumerate (PyProof.Rows.callWith_type1 (thn (ha.run pos pins s σ H _ I h) fun us s1 ⟨vs, H1, I1, r1, q1⟩ => ?_) hs rfl))
  obtain ⟨z, ex, q⟩ := q1
  subst ex
  cases r1 with
  | cons r rr =>
    cases rr
    obtain ⟨tk0, rfl⟩ := r
    refine call_enumerate_str fun h' he hit hsz hk => wpAny_pyIter_enum he ?_
    have I2 : Inv X pins σ H1 { s1 with heap := h' } := I1.kept (t' := s1.toks) hk
    refine ⟨s1.heap.objs.size + 1, [s1.heap.objs.size + 1, s1.heap.objs.size], _, _, H1, rfl, I2, turn_enumS z tk0 (s1.heap.objs.size + 1) s1.heap.objs.size, ⟨⟨.none, he⟩, hit, Nat.succ_ne_self _, Nat.zero_le _⟩, fun b hb => ?_, q⟩
    have e' : b = s1.heap.objs.size + 1 ∨ b = s1.heap.objs.size := by simpa using hb
    have hle : s1.heap.objs.size ≤ b := by
      rcases e' with z | z
      · rw [z]; exact Nat.le_add_right _ _
      · rw [z]; exact Nat.le_refl _
    exact I1.fpOk hle (I1.hok.fresh hle)
end Mk

/-! ### MkZip -/
set_option Elab.async false
set_option linter.all false
set_option maxRecDepth 100000
set_option maxHeartbeats 4000000
/-! enumerate(zip(a, b)) over two tuples: the zip's own tuple may still stand, or be gone -/
namespace Mk
open PySem PySem.Spec PyProof.Rows L2
/-- a zip of two tuples behind k items of each; v0, f0: what it tells of its own tuple -/
structure ZW (h : Heap) (z TI TO i1 i2 l1 l2 : Addr) (xs ys : Array Value) (v0 : Value) (f0 : Bool) (a b : Value) (k1 k2 : Nat) : Prop where
  zo : h.get? z = some { cls := .type "zip", dict := none, data := .fields #[v0, .bool f0, .bool false, .ref TI, .ref TO], slots := #[] }
  ti : IsPair h TI (.ref i1) (.ref i2)
  to : IsPair h TO a b
  a1 : h.IsTupleIter i1 l1 k1
  a2 : h.IsTupleIter i2 l2 k2
  t1 : h.IsTuple l1 xs
  t2 : h.IsTuple l2 ys
section
variable {h h2 : Heap} {z TI TO i1 i2 l1 l2 : Addr} {xs ys : Array Value} {v0 v1 : Value} {f0 f1 : Bool} {a b x y : Value} {k1 k2 : Nat}
theorem ZW.setz (D : ZipApart z TI TO i1 i2 l1 l2) (Z : ZW h z TI TO i1 i2 l1 l2 xs ys v0 f0 a b k1 k2) (sb : Heap.SameBut z h h2) (n : h2.get? z = some { cls := .type "zip", dict := none, data := .fields #[v1, .bool f1, .bool false, .ref TI, .ref TO], slots := #[] }) :
    ZW h2 z TI TO i1 i2 l1 l2 xs ys v1 f1 a b k1 k2 := ⟨n, sb.extBut _ _ D.TIz Z.ti, sb.extBut _ _ D.TOz Z.to, Z.a1.extBut sb.extBut D.i1z, Z.a2.extBut sb.extBut D.i2z, Z.t1.extBut sb.extBut D.l1z, Z.t2.extBut sb.extBut D.l2z⟩
theorem ZW.go1 (D : ZipApart z TI TO i1 i2 l1 l2) (Z : ZW h z TI TO i1 i2 l1 l2 xs ys v0 f0 a b k1 k2) (sb : Heap.SameBut i1 h h2) (n : h2.IsTupleIter i1 l1 (k1 + 1)) : ZW h2 z TI TO i1 i2 l1 l2 xs ys v0 f0 a b (k1 + 1) k2 :=
  ⟨sb.extBut _ _ D.i1z.symm Z.zo, sb.extBut _ _ D.TIi1 Z.ti, sb.extBut _ _ D.TOi1 Z.to, n, Z.a2.extBut sb.extBut D.i12.symm, Z.t1.extBut sb.extBut D.l1i1, Z.t2.extBut sb.extBut D.l2i1⟩
theorem ZW.go2 (D : ZipApart z TI TO i1 i2 l1 l2) (Z : ZW h z TI TO i1 i2 l1 l2 xs ys v0 f0 a b k1 k2) (sb : Heap.SameBut i2 h h2) (n : h2.IsTupleIter i2 l2 (k2 + 1)) : ZW h2 z TI TO i1 i2 l1 l2 xs ys v0 f0 a b k1 (k2 + 1) :=
  ⟨sb.extBut _ _ D.i2z.symm Z.zo, sb.extBut _ _ D.TIi2 Z.ti, sb.extBut _ _ D.TOi2 Z.to, Z.a1.extBut sb.extBut D.i12, n, Z.t1.extBut sb.extBut D.l1i2, Z.t2.extBut sb.extBut D.l2i2⟩
theorem ZW.put (D : ZipApart z TI TO i1 i2 l1 l2) (Z : ZW h z TI TO i1 i2 l1 l2 xs ys v0 f0 a b k1 k2) (sb : Heap.SameBut TO h h2) (n : IsPair h2 TO x y) : ZW h2 z TI TO i1 i2 l1 l2 xs ys v0 f0 x y k1 k2 :=
  ⟨sb.extBut _ _ D.TOz.symm Z.zo, sb.extBut _ _ D.TITO Z.ti, n, Z.a1.extBut sb.extBut D.TOi1.symm, Z.a2.extBut sb.extBut D.TOi2.symm, Z.t1.extBut sb.extBut D.l1TO, Z.t2.extBut sb.extBut D.l2TO⟩
theorem ZW.more (Z : ZW h z TI TO i1 i2 l1 l2 xs ys v0 f0 a b k1 k2) (k : ∀ c o, h.get? c = some o → h2.get? c = some o) : ZW h2 z TI TO i1 i2 l1 l2 xs ys v0 f0 a b k1 k2 :=
  ⟨k _ _ Z.zo, k _ _ Z.ti, k _ _ Z.to, Z.a1.at fun o e => k _ o e, Z.a2.at fun o e => k _ o e, let ⟨o, e, r⟩ := Z.t1; ⟨o, k _ _ e, r⟩, let ⟨o, e, r⟩ := Z.t2; ⟨o, k _ _ e, r⟩⟩
variable {prog : Program} {w : World} {A : Around} {E : Value → Shared → Prop} {s : Shared}
/-- is the zip's own tuple free -/
theorem own_free {Q : Bool → Shared → Prop} (D : ZipApart z TI TO i1 i2 l1 l2) (Z : ZW s.heap z TI TO i1 i2 l1 l2 xs ys v0 f0 a b k1 k2) (hv : v0 = .none ∨ ∃ T : Addr, v0 = rawInt T)
    (yes : Q true s) (no : ∀ h2 f1, ZW h2 z TI TO i1 i2 l1 l2 xs ys v0 f1 a b k1 k2 → Heap.SameBut z s.heap h2 → Q false { s with heap := h2 }) : wpAny (model prog w) A (Builtin.SmallTypes.ownedTupleIsFree (.ref z)) Q E s := by
  unfold Builtin.SmallTypes.ownedTupleIsFree
  rcases hv with rfl | ⟨T, rfl⟩
  · exact wpAny_bind (wpAny_field Z.zo rfl (x := .none) rfl (wpAny_pure yes))
  · refine wpAny_bind (wpAny_field Z.zo rfl (x := rawInt T) rfl ?_)
    show wpAny _ _ (loadIfAlive ((T : Int).toNat) >>= _) _ _ _
    rw [Int.toNat_natCast]
    have al : ∀ {R : Option Obj → Shared → Prop}, R (s.heap.get? T) s → wpAny (model prog w) A (loadIfAlive T) R E s := fun {R} r => fun _ _ _ => r
    refine wpAny_bind (al ?_)
    cases hT : s.heap.get? T with
    | none => exact wpAny_pure yes
    | some o =>
      show wpAny _ _ (field (.ref z) 1 >>= _) _ _ _
      refine wpAny_bind (wpAny_field Z.zo rfl (x := .bool f0) rfl ?_)
      cases f0 with
      | true => exact wpAny_pure (no s.heap true Z (Heap.SameBut.refl _ _))
      | false => exact wpAny_bind (wpAny_setField_rec Z.zo (by simp) fun h2 n sb => wpAny_pure (no h2 true (Z.setz D sb n) sb))
theorem zip_any {Q : Value → Shared → Prop} (D : ZipApart z TI TO i1 i2 l1 l2) (Z : ZW s.heap z TI TO i1 i2 l1 l2 xs ys v0 f0 a b k1 k2) (hv : v0 = .none ∨ ∃ T : Addr, v0 = rawInt T) (hx : xs[k1]? = some x) (hy : ys[k2]? = some y)
    (hQ : ∀ h2 v1 f1 a1 b1, ZW h2 z TI TO i1 i2 l1 l2 xs ys v1 f1 a1 b1 (k1 + 1) (k2 + 1) → (v1 = .none ∨ ∃ T : Addr, v1 = rawInt T) → IsPair h2 s.heap.objs.size x y → h2.objs.size = s.heap.objs.size + 1 →
      (∀ c o, c ≠ z → c ≠ TO → c ≠ i1 → c ≠ i2 → s.heap.get? c = some o → h2.get? c = some o) → Q (.ref s.heap.objs.size) { s with heap := h2 }) :
    wpAny (model prog w) A (Builtin.«zip.__next__» ⟨[.ref z], []⟩) (fun fin s' => ∃ v, fin = .done (.ret v) ∧ Q v s') E s := by
  show wpAny _ _ (field (.ref z) 2 >>= _) _ _ _
  refine wpAny_bind (wpAny_field Z.zo rfl (x := .bool false) rfl ?_)
  show wpAny _ _ (field (.ref z) 3 >>= _) _ _ _
  refine wpAny_bind (wpAny_field Z.zo rfl (x := .ref TI) rfl (wpAny_bind (wpAny_seqItems Z.ti rfl ?_)))
  show wpAny _ _ (Builtin.SmallTypes.ownedTupleIsFree (.ref z) >>= _) _ _ _
  refine wpAny_bind (own_free D Z hv ?_ fun ha fa Za sa => ?_)
  · -- its own tuple again
    simp only [if_true]
    refine wpAny_bind (wpAny_rule (wpAny_bind (wpAny_field Z.zo rfl (x := .ref TO) rfl ?_)))
    refine wpAny_bind (wpAny_setField_rec Z.zo (by simp) fun ha na sa => ?_)
    have Za : ZW ha z TI TO i1 i2 l1 l2 xs ys .ellipsis f0 a b k1 k2 := Z.setz D sa na
    refine wpAny_bind ?_
    simp only [List.zipIdx_cons, List.zipIdx_nil, List.forIn_cons, List.forIn_nil]
    refine wpAny_bind (wpAny_bind (wpAny_onRaise ?_))
    show wpAny _ _ (Builtin.SmallTypes.nextOf (.ref i1) >>= _) _ _ _
    refine wpAny_bind (RZ.nextOf_tuple_item (s := { s with heap := ha }) Za.a1 Za.t1 hx fun hb n1 sb => wpAny_pure ?_)
    have Zb := Za.go1 D sb n1
    refine wpAny_bind (wpAny_seqItems Zb.to rfl (wpAny_bind (wpAny_updateSeq_pair Zb.to fun hc nc sc => ?_)))
    have Zc : ZW hc z TI TO i1 i2 l1 l2 xs ys .ellipsis f0 x b (k1 + 1) k2 := Zb.put D sc nc
    refine wpAny_bind (wpAny_letGo (wpAny_pure ?_))
    refine wpAny_bind (wpAny_bind (wpAny_onRaise ?_))
    show wpAny _ _ (Builtin.SmallTypes.nextOf (.ref i2) >>= _) _ _ _
    refine wpAny_bind (RZ.nextOf_tuple_item (s := { s with heap := hc }) Zc.a2 Zc.t2 hy fun hd n2 sd => wpAny_pure ?_)
    have Zd := Zc.go2 D sd n2
    refine wpAny_bind (wpAny_seqItems Zd.to rfl (wpAny_bind (wpAny_updateSeq_pair Zd.to fun he ne se => ?_)))
    have Ze : ZW he z TI TO i1 i2 l1 l2 xs ys .ellipsis f0 x y (k1 + 1) (k2 + 1) := Zd.put D se ne
    refine wpAny_bind (wpAny_letGo (wpAny_pure (wpAny_pure ?_)))
    refine wpAny_bind (wpAny_seqItems Ze.to rfl (wpAny_bind (wpAny_newTuple ?_)))
    have sz : he.objs.size = s.heap.objs.size := se.1.trans (sd.1.trans (sc.1.trans (sb.1.trans sa.1)))
    have zl : z < he.objs.size := Heap.lt_size Ze.zo
    show wpAny _ _ (Builtin.SmallTypes.ownedTupleHandOut (.ref z) (.ref he.objs.size) >>= _) _ _ _
    refine wpAny_bind ?_
    unfold Builtin.SmallTypes.ownedTupleHandOut
    have Zf : ZW (he.push { cls := .type "tuple", data := .seq #[x, y] }) z TI TO i1 i2 l1 l2 xs ys .ellipsis f0 x y (k1 + 1) (k2 + 1) := Ze.more fun c o e => Heap.get?_push_of_some _ e
    refine wpAny_bind (wpAny_setField_rec Zf.zo (by simp) fun hg ng sg => ?_)
    have Zg : ZW hg z TI TO i1 i2 l1 l2 xs ys (rawInt he.objs.size) f0 x y (k1 + 1) (k2 + 1) := Zf.setz D sg ng
    refine wpAny_setField_rec Zg.zo (by simp) fun hh nh sh => wpAny_pure ⟨_, rfl, ?_⟩
    have Zh : ZW hh z TI TO i1 i2 l1 l2 xs ys (rawInt he.objs.size) false x y (k1 + 1) (k2 + 1) := Zg.setz D sh nh
    have e1 : IsPair hh he.objs.size x y := sh.extBut _ _ (Nat.ne_of_gt zl) (sg.extBut _ _ (Nat.ne_of_gt zl) (Heap.get?_push_size _ rfl))
    have e2 : hh.objs.size = he.objs.size + 1 := by rw [sh.1, sg.1, Heap.size_push]
    show Q (.ref he.objs.size) _
    rw [sz] at e1 e2 Zh ⊢
    exact hQ _ _ _ _ _ Zh (.inr ⟨_, rfl⟩) e1 e2 fun c o c1 c2 c3 c4 e => sh.extBut _ _ c1 (sg.extBut _ _ c1 (Heap.get?_push_of_some _ (se.extBut _ _ c2 (sd.extBut _ _ c4 (sc.extBut _ _ c2 (sb.extBut _ _ c3 (sa.extBut _ _ c1 e)))))))
  · -- a new tuple
    simp only [Bool.false_eq_true, if_false]
    refine wpAny_bind ?_
    rw [← Array.forIn_toList]
    simp only [List.forIn_cons, List.forIn_nil]
    refine wpAny_bind (wpAny_bind (wpAny_holding ?_))
    show wpAny _ _ (Builtin.SmallTypes.nextOf (.ref i1) >>= _) _ _ _
    refine wpAny_bind (RZ.nextOf_tuple_item (s := { s with heap := ha }) Za.a1 Za.t1 hx fun hb n1 sb => wpAny_pure (wpAny_pure ?_))
    have Zb := Za.go1 D sb n1
    refine wpAny_bind (wpAny_bind (wpAny_holding ?_))
    show wpAny _ _ (Builtin.SmallTypes.nextOf (.ref i2) >>= _) _ _ _
    refine wpAny_bind (RZ.nextOf_tuple_item (s := { s with heap := hb }) Zb.a2 Zb.t2 hy fun hc n2 sc => wpAny_pure (wpAny_pure (wpAny_pure ?_)))
    have Zc := Zb.go2 D sc n2
    have sz : hc.objs.size = s.heap.objs.size := sc.1.trans (sb.1.trans sa.1)
    show wpAny _ _ (newTuple [x, y] >>= _) _ _ _
    refine wpAny_bind (wpAny_newTuple (wpAny_pure ⟨_, rfl, ?_⟩))
    show Q (.ref hc.objs.size) _
    have e1 : IsPair (hc.push { cls := .type "tuple", data := .seq #[x, y] }) hc.objs.size x y := Heap.get?_push_size _ rfl
    have e2 : (hc.push { cls := .type "tuple", data := .seq #[x, y] }).objs.size = hc.objs.size + 1 := Heap.size_push ..
    rw [sz] at e1 e2 ⊢
    exact hQ _ _ _ _ _ (Zc.more fun c o e => Heap.get?_push_of_some _ e) hv e1 e2 fun c o c1 _ c3 c4 e => Heap.get?_push_of_some _ (sc.extBut _ _ c4 (sb.extBut _ _ c3 (sa.extBut _ _ c1 e)))
theorem zip_end1 {Q : Fin → Shared → Prop} (calm : A.handled = none) (D : ZipApart z TI TO i1 i2 l1 l2) (Z : ZW s.heap z TI TO i1 i2 l1 l2 xs ys v0 f0 a b k1 k2) (hv : v0 = .none ∨ ∃ T : Addr, v0 = rawInt T) (hx : xs[k1]? = none)
    (hE : ∀ h2 e, (∀ c o, c ≠ z → c ≠ i1 → s.heap.get? c = some o → h2.get? c = some o) → (∃ o, h2.get? e = some o ∧ o.cls = .type "StopIteration") → E (.ref e) { s with heap := h2 }) :
    wpAny (model prog w) A (Builtin.«zip.__next__» ⟨[.ref z], []⟩) Q E s := by
  show wpAny _ _ (field (.ref z) 2 >>= _) _ _ _
  refine wpAny_bind (wpAny_field Z.zo rfl (x := .bool false) rfl ?_)
  show wpAny _ _ (field (.ref z) 3 >>= _) _ _ _
  refine wpAny_bind (wpAny_field Z.zo rfl (x := .ref TI) rfl (wpAny_bind (wpAny_seqItems Z.ti rfl ?_)))
  show wpAny _ _ (Builtin.SmallTypes.ownedTupleIsFree (.ref z) >>= _) _ _ _
  refine wpAny_bind (own_free D Z hv ?_ fun ha fa Za sa => ?_)
  · simp only [if_true]
    refine wpAny_bind (wpAny_rule (wpAny_bind (wpAny_field Z.zo rfl (x := .ref TO) rfl ?_)))
    refine wpAny_bind (wpAny_setField_rec Z.zo (by simp) fun ha na sa => ?_)
    have Za : ZW ha z TI TO i1 i2 l1 l2 xs ys .ellipsis f0 a b k1 k2 := Z.setz D sa na
    refine wpAny_bind ?_
    simp only [List.zipIdx_cons, List.zipIdx_nil, List.forIn_cons, List.forIn_nil]
    refine wpAny_bind (wpAny_bind (wpAny_onRaise ?_))
    show wpAny _ _ (Builtin.SmallTypes.nextOf (.ref i1) >>= _) _ _ _
    refine wpAny_bind (RZ.nextOf_tuple_end (s := { s with heap := ha }) calm Za.a1 Za.t1 hx fun hb e kb ex => ?_)
    obtain ⟨oe, at_, cls⟩ := ex
    have zo := kb _ _ D.i1z.symm Za.zo
    have ne : e ≠ z := fun q => by rw [q, zo] at at_; cases at_; simp at cls
    exact wpAny_setField_rec zo (by simp) fun hc _ sc => hE hc e (fun c o c1 c3 q => sc.extBut _ _ c1 (kb _ _ c3 (sa.extBut _ _ c1 q))) ⟨oe, sc.extBut _ _ ne at_, cls⟩
  · simp only [Bool.false_eq_true, if_false]
    refine wpAny_bind ?_
    rw [← Array.forIn_toList]
    simp only [List.forIn_cons, List.forIn_nil]
    refine wpAny_bind (wpAny_bind (wpAny_holding ?_))
    show wpAny _ _ (Builtin.SmallTypes.nextOf (.ref i1) >>= _) _ _ _
    exact wpAny_bind (RZ.nextOf_tuple_end (s := { s with heap := ha }) calm Za.a1 Za.t1 hx fun hb e kb ex => hE hb e (fun c o c1 c3 q => kb _ _ c3 (sa.extBut _ _ c1 q)) ex)
/-! ### the count in front -/
theorem nextOf_zip {Q : Value → Shared → Prop} (D : ZipApart z TI TO i1 i2 l1 l2) (Z : ZW s.heap z TI TO i1 i2 l1 l2 xs ys v0 f0 a b k1 k2) (hv : v0 = .none ∨ ∃ T : Addr, v0 = rawInt T) (hx : xs[k1]? = some x) (hy : ys[k2]? = some y)
    (hQ : ∀ h2 v1 f1 a1 b1, ZW h2 z TI TO i1 i2 l1 l2 xs ys v1 f1 a1 b1 (k1 + 1) (k2 + 1) → (v1 = .none ∨ ∃ T : Addr, v1 = rawInt T) → IsPair h2 s.heap.objs.size x y → h2.objs.size = s.heap.objs.size + 1 →
      (∀ c o, c ≠ z → c ≠ TO → c ≠ i1 → c ≠ i2 → s.heap.get? c = some o → h2.get? c = some o) → Q (.ref s.heap.objs.size) { s with heap := h2 }) :
    wpAny (model prog w) A (Builtin.SmallTypes.nextOf (.ref z)) Q E s := by
  have ty : s.TypeIs (.ref z) "zip" := ⟨_, Z.zo, rfl⟩
  unfold Builtin.SmallTypes.nextOf
  exact wpAny_bind (wpAny_callSpecial?_slot (name := Str.ofString "__next__") ty F.slot_zip_next (wpAny_call_entry F.slot_zip_next ty F.entry_zip_next
    (zip_any D Z hv hx hy fun h2 v1 f1 a1 b1 q1 q2 q3 q4 q5 => wpAny_pure (hQ h2 v1 f1 a1 b1 q1 q2 q3 q4 q5)) (F.args_zip_next_1 _)))
theorem enum_zip {e : Addr} {i : Nat} {old : Value} {Q : Option Value → Shared → Prop} (he : IsEnum s.heap e z ((i : Nat) : Int) old) (D : ZipApart z TI TO i1 i2 l1 l2) (Z : ZW s.heap z TI TO i1 i2 l1 l2 xs ys v0 f0 a b i i) (hv : v0 = .none ∨ ∃ T : Addr, v0 = rawInt T) (hx : xs[i]? = some x) (hy : ys[i]? = some y)
    (ez : e ≠ z) (eI : e ≠ TI) (eO : e ≠ TO) (e1 : e ≠ i1) (e2 : e ≠ i2) (el1 : e ≠ l1) (el2 : e ≠ l2)
    (hQ : ∀ h2 v1 f1 a1 b1, ZW h2 z TI TO i1 i2 l1 l2 xs ys v1 f1 a1 b1 (i + 1) (i + 1) → (v1 = .none ∨ ∃ T : Addr, v1 = rawInt T) → IsPair h2 s.heap.objs.size x y → h2.get? (s.heap.objs.size + 1) = some { cls := .type "tuple", data := .seq #[.int i s.toks, .ref s.heap.objs.size] } →
      IsEnumOut h2 e z ((i : Int) + 1) (.ref s.heap.objs.size) (s.heap.objs.size + 1) → (∀ c o, c ≠ e → c ≠ z → c ≠ TO → c ≠ i1 → c ≠ i2 → s.heap.get? c = some o → h2.get? c = some o) → Q (some (.ref (s.heap.objs.size + 1))) { s with heap := h2, toks := s.toks + 1 }) :
    wpAny (model prog w) A (pyNext (.ref e)) Q E s := by
  have ty : s.TypeIs (.ref e) "enumerate" := ⟨_, he, rfl⟩
  have el : e < s.heap.objs.size := Heap.lt_size he
  unfold pyNext
  refine wpAny_bind (wpAny_attempt (wpAny_callSpecial?_slot (name := Str.ofString "__next__") ty F.slot_enumerate_next (wpAny_call_entry F.slot_enumerate_next ty F.entry_enumerate_next ?_ (F.args_enumerate_next_1 _))))
  show wpAny _ _ (field (.ref e) 2 >>= _) _ _ _
  refine wpAny_bind (wpAny_field he rfl (x := .ref z) rfl (wpAny_bind (nextOf_zip D Z hv hx hy fun ha v1 f1 a1 b1 Za hv1 pa sa ka => ?_)))
  have ea : IsEnum ha e z ((i : Nat) : Int) old := ka _ _ ez eO e1 e2 he
  show wpAny _ _ (field (.ref e) 3 >>= _) _ _ _
  refine wpAny_bind (wpAny_field ea rfl (x := rawInt i) rfl ?_)
  show wpAny _ _ (field (.ref e) 4 >>= _) _ _ _
  refine wpAny_bind (wpAny_field ea rfl (x := .none) rfl ?_)
  show wpAny _ _ (mkInt i >>= _) _ _ _
  refine wpAny_bind (wpAny_mkInt ?_)
  show wpAny _ _ (setField (.ref e) 3 (rawInt ((i : Int) + 1)) >>= _) _ _ _
  refine wpAny_bind (wpAny_setField_rec ea (by simp) fun hb eb sb => ?_)
  show wpAny _ _ (setField (.ref e) 4 .none >>= _) _ _ _
  refine wpAny_bind (wpAny_setField_rec eb (by simp) fun hc ec sc => ?_)
  have ec : IsEnum hc e z ((i : Int) + 1) old := ec
  have kc : ∀ c o, c ≠ e → ha.get? c = some o → hc.get? c = some o := fun c o n q => sc.extBut _ _ n (sb.extBut _ _ n q)
  have hs : hc.objs.size = s.heap.objs.size + 1 := (sc.1.trans sb.1).trans sa
  show wpAny _ _ (newTuple [.int i s.toks, .ref s.heap.objs.size] >>= _) _ _ _
  refine wpAny_bind (wpAny_newTuple ?_)
  generalize hd : hc.push { cls := .type "tuple", data := .seq #[.int i s.toks, .ref s.heap.objs.size] } = hp
  have kd : ∀ c o, hc.get? c = some o → hp.get? c = some o := fun c o q => by rw [← hd]; exact Heap.get?_push_of_some _ q
  have td : hp.get? (s.heap.objs.size + 1) = some { cls := .type "tuple", data := .seq #[.int i s.toks, .ref s.heap.objs.size] } := by rw [← hd, ← hs]; exact Heap.get?_push_size _ rfl
  have ed : IsEnum hp e z ((i : Int) + 1) old := kd _ _ ec
  rw [hs]
  show wpAny _ _ (Builtin.SmallTypes.ownedTupleIsFree (.ref e) >>= _) _ _ { s with heap := hp, toks := s.toks + 1 }
  clear hd
  refine wpAny_bind ?_
  unfold Builtin.SmallTypes.ownedTupleIsFree
  refine wpAny_bind (wpAny_field ed rfl (x := .none) rfl (wpAny_pure ?_))
  simp only [if_true]
  refine wpAny_bind (wpAny_rule (wpAny_bind (wpAny_field ed rfl (x := old) rfl ?_)))
  refine wpAny_bind (wpAny_setField_rec ed (by simp) fun he1 n1 s1 => ?_)
  show wpAny _ _ (Builtin.SmallTypes.ownedTupleHandOut (.ref e) (.ref (s.heap.objs.size + 1)) >>= _) _ _ _
  refine wpAny_bind ?_
  unfold Builtin.SmallTypes.ownedTupleHandOut
  refine wpAny_bind (wpAny_setField_rec n1 (by simp) fun he2 n2 s2 => ?_)
  refine wpAny_setField_rec n2 (by simp) fun he3 n3 s3 => wpAny_bind (wpAny_letGo (wpAny_pure ?_))
  have k3 : ∀ c o, c ≠ e → hp.get? c = some o → he3.get? c = some o := fun c o n q => s3.extBut _ _ n (s2.extBut _ _ n (s1.extBut _ _ n q))
  have kk : ∀ c o, c ≠ e → ha.get? c = some o → he3.get? c = some o := fun c o n q => k3 c o n (kd _ _ (kc c o n q))
  have Z3 : ZW he3 z TI TO i1 i2 l1 l2 xs ys v1 f1 a1 b1 (i + 1) (i + 1) := ⟨kk _ _ ez.symm Za.zo, kk _ _ eI.symm Za.ti, kk _ _ eO.symm Za.to, Za.a1.at fun o q => kk _ o e1.symm q, Za.a2.at fun o q => kk _ o e2.symm q,
    let ⟨o, q, r⟩ := Za.t1; ⟨o, kk _ _ el1.symm q, r⟩, let ⟨o, q, r⟩ := Za.t2; ⟨o, kk _ _ el2.symm q, r⟩⟩
  exact ⟨_, rfl, wpAny_pure (hQ he3 v1 f1 a1 b1 Z3 hv1 (kk _ _ (Nat.ne_of_gt el) pa) (k3 _ _ (Nat.ne_of_gt (Nat.lt_succ_of_lt el)) td) n3 fun c o c0 cz cO c1 c2 q => kk _ _ c0 (ka _ _ cz cO c1 c2 q))⟩
end
/-- the tuples at a and b, the items of both in a new pair, the count in front of it -/
def Itez (K : PySem.W.Frag) (a b : Addr) : It where
  go := fun i H => ∃ (xs ys : List V) (x y : V), SqT K H a xs ∧ SqT K H b ys ∧ xs[i]? = some x ∧ ys[i]? = some y
  yld := fun i H v H' => ∃ P T x y, v = .ref T ∧ H P = none ∧ H T = none ∧ P ≠ T ∧ H' = upd (upd H P (.tup [x, y])) T (.tup [.int (i : Nat), .ref P]) ∧ (∀ xs, SqT K H a xs → xs[i]? = some x) ∧ ∀ ys, SqT K H b ys → ys[i]? = some y
  stop := fun i H => ∃ xs ys : List V, SqT K H a xs ∧ SqT K H b ys ∧ xs.length ≤ i
/-- where an enumerate over a zip stands -/
def EzSt (e z TI TO i1 i2 a b : Addr) (i : Nat) (h : Heap) : Prop := (∃ old, IsEnum h e z ((i : Nat) : Int) old) ∧
  (∃ v0 f0, h.get? z = some { cls := .type "zip", dict := none, data := .fields #[v0, .bool f0, .bool false, .ref TI, .ref TO], slots := #[] } ∧ (v0 = .none ∨ ∃ T : Addr, v0 = rawInt T)) ∧ IsPair h TI (.ref i1) (.ref i2) ∧ (∃ x y, IsPair h TO x y) ∧ h.IsTupleIter i1 a i ∧ h.IsTupleIter i2 b i
theorem turn_enumZ {P : Program} {w : World} {K : PySem.W.Frag} {elts : List Expr} {kk : Nat} {tpos : Pos} {e z TI TO i1 i2 a b : Addr} (D : ZipApart z TI TO i1 i2 a b)
    (ez : e ≠ z) (eI : e ≠ TI) (eO : e ≠ TO) (e1 : e ≠ i1) (e2 : e ≠ i2) (ea : e ≠ a) (eb : e ≠ b) :
    Turn P w K (.Tuple elts kk tpos) (Itez K a b) [e, z, TI, TO, i1, i2] e (EzSt e z TI TO i1 i2 a b) where
  mem := by simp
  obj := fun i h st c hc => by
    obtain ⟨⟨old, he⟩, ⟨v0, f0, hz, _⟩, hI, ⟨x, y, hO⟩, ⟨o1, q1, _, d1⟩, ⟨o2, q2, _, d2⟩⟩ := st
    have m : c = e ∨ c = z ∨ c = TI ∨ c = TO ∨ c = i1 ∨ c = i2 := by simpa using hc
    rcases m with rfl | rfl | rfl | rfl | rfl | rfl
    · exact ⟨_, he, fun v q => nomatch q⟩
    · exact ⟨_, hz, fun v q => nomatch q⟩
    · exact ⟨_, hI, fun v q => nomatch q⟩
    · exact ⟨_, hO, fun v q => nomatch q⟩
    · exact ⟨o1, q1, fun v q => by rw [d1] at q; cases q⟩
    · exact ⟨o2, q2, fun v q => by rw [d2] at q; cases q⟩
  keep := fun i h h' st k => by
    obtain ⟨⟨old, he⟩, ⟨v0, f0, hz, hv⟩, hI, ⟨x, y, hO⟩, q1, q2⟩ := st
    exact ⟨⟨old, k e (by simp) _ he⟩, ⟨v0, f0, k z (by simp) _ hz, hv⟩, k TI (by simp) _ hI, ⟨x, y, k TO (by simp) _ hO⟩, q1.at fun o q => k i1 (by simp) o q, q2.at fun o q => k i2 (by simp) o q⟩
  item := by
    intro X hP hw hK hc i pins s σ H E I hf st hg
    subst hP hw hK
    obtain ⟨⟨old, he⟩, ⟨v0, f0, hz, hv⟩, hI, ⟨x0, y0, hO⟩, q1, q2⟩ := st
    obtain ⟨xs, ys, x, y, hqx, hqy, hx, hy⟩ := hg
    obtain ⟨its, rv, p1, _⟩ := I.tuple hqx
    obtain ⟨its2, rv2, p2, _⟩ := I.tuple hqy
    obtain ⟨u, hu, ru⟩ := rv.get hx
    obtain ⟨u2, hu2, ru2⟩ := rv2.get hy
    have el : e < s.heap.objs.size := Heap.lt_size he
    refine enum_zip (xs := its.toArray) (ys := its2.toArray) (x := u) (y := u2) he D ⟨hz, hI, hO, q1, q2, p1, p2⟩ hv (by simpa using hu) (by simpa using hu2) ez eI eO e1 e2 ea eb fun h2 v1 f1 a1 b1 Z hv1 hp ht ho hk => ?_
    refine ⟨_, rfl, wpAny_letOwnedTupleGo_enum (s := { s with heap := h2, toks := s.toks + 1 }) ho fun h3 he3 sb => ?_⟩
    have np : e ≠ s.heap.objs.size := Nat.ne_of_lt el
    have nt : e ≠ s.heap.objs.size + 1 := Nat.ne_of_lt (Nat.lt_succ_of_lt el)
    have hp3 : h3.get? s.heap.objs.size = some { cls := .type "tuple", data := .seq #[u, u2] } := (sb.2 _ np.symm).trans hp
    have ht3 : h3.get? (s.heap.objs.size + 1) = some { cls := .type "tuple", data := .seq #[.int i s.toks, .ref s.heap.objs.size] } := (sb.2 _ nt.symm).trans ht
    have newP : ∀ H', ObjOk X.prog X.w H' h3 s.heap.objs.size (.tup [x, y]) := fun H' => ⟨by show 2 ≤ sizeLine; decide, [u, u2], .cons ru (.cons ru2 .nil), ⟨_, hp3, rfl, _, rfl⟩⟩
    have newT : ∀ H', ObjOk X.prog X.w H' h3 (s.heap.objs.size + 1) (.tup [.int (i : Nat), .ref s.heap.objs.size]) := fun H' => ⟨by show 2 ≤ sizeLine; decide, [.int i s.toks, .ref s.heap.objs.size], .cons ⟨_, rfl⟩ (.cons rfl .nil), ⟨_, ht3, rfl, _, rfl⟩⟩
    have hn : H s.heap.objs.size = none := I.hok.fresh (Nat.le_refl _)
    have hn2 : H (s.heap.objs.size + 1) = none := I.hok.fresh (Nat.le_succ _)
    have keep : ∀ c o, c ∉ [e, z, TI, TO, i1, i2] → s.heap.get? c = some o → h3.get? c = some o := fun c o n q => by
      have n' : c ≠ e ∧ c ≠ z ∧ c ≠ TI ∧ c ≠ TO ∧ c ≠ i1 ∧ c ≠ i2 := by simpa using n
      exact (sb.2 c n'.1).trans (hk c o n'.1 n'.2.1 n'.2.2.2.1 n'.2.2.2.2.1 n'.2.2.2.2.2 q)
    have I1 : Inv X pins σ (upd H s.heap.objs.size (.tup [x, y])) { s with heap := h3, toks := s.toks + 1 } := I.turnedNew (ch := [e, z, TI, TO, i1, i2]) keep hf (Nat.le_refl _) (newP _)
    have hn3 : upd H s.heap.objs.size (.tup [x, y]) (s.heap.objs.size + 1) = none := by rw [upd_ne (Nat.succ_ne_self _)]; exact hn2
    have I2 : Inv X pins σ (upd (upd H s.heap.objs.size (.tup [x, y])) (s.heap.objs.size + 1) (.tup [.int (i : Nat), .ref s.heap.objs.size])) { s with heap := h3, toks := s.toks + 1 } :=
      I1.take (h' := h3) (t' := s.toks + 1) (fun _ _ _ q => q) (I.fpOk (Nat.le_succ _) hn3) (newT _)
    refine ⟨.ref (s.heap.objs.size + 1), _, I2, rfl, ⟨_, _, x, y, rfl, hn, hn2, (Nat.succ_ne_self _).symm, rfl, fun l hl => by rw [I.tuple_inj hl hqx]; exact hx, fun l hl => by rw [I.tuple_inj hl hqy]; exact hy⟩, ⟨⟨.ref s.heap.objs.size, ?_⟩, ⟨v1, f1, ?_, hv1⟩, ?_, ⟨a1, b1, ?_⟩, ?_, ?_⟩, fun c hcm => ?_⟩
    · have q : ((i + 1 : Nat) : Int) = (i : Int) + 1 := by omega
      rw [q]
      exact he3
    · exact (sb.2 _ ez.symm).trans Z.zo
    · exact (sb.2 _ eI.symm).trans Z.ti
    · exact (sb.2 _ eO.symm).trans Z.to
    · exact Z.a1.at fun o q => (sb.2 _ e1.symm).trans q
    · exact Z.a2.at fun o q => (sb.2 _ e2.symm).trans q
    · have lt : c < s.heap.objs.size := by
        have m : c = e ∨ c = z ∨ c = TI ∨ c = TO ∨ c = i1 ∨ c = i2 := by simpa using hcm
        rcases m with rfl | rfl | rfl | rfl | rfl | rfl
        · exact el
        · exact Heap.lt_size hz
        · exact Heap.lt_size hI
        · exact Heap.lt_size hO
        · obtain ⟨_, q, _⟩ := q1; exact Heap.lt_size q
        · obtain ⟨_, q, _⟩ := q2; exact Heap.lt_size q
      rw [upd_ne (Nat.ne_of_lt (Nat.lt_succ_of_lt lt)), upd_ne (Nat.ne_of_lt lt)]
      exact (hf c hcm).1
  done := by
    intro X hP hw hK hc i pins s σ H E I hf st hg
    subst hP hw hK
    obtain ⟨⟨old, he⟩, ⟨v0, f0, hz, hv⟩, hI, ⟨x0, y0, hO⟩, q1, q2⟩ := st
    obtain ⟨xs, ys, hqx, hqy, hl⟩ := hg
    obtain ⟨its, rv, p1, _⟩ := I.tuple hqx
    obtain ⟨its2, rv2, p2, _⟩ := I.tuple hqy
    have l1 := rv.length
    have ty : s.TypeIs (.ref e) "enumerate" := ⟨_, he, rfl⟩
    have tz : s.TypeIs (.ref z) "zip" := ⟨_, hz, rfl⟩
    have Z : ZW s.heap z TI TO i1 i2 a b its.toArray its2.toArray v0 f0 x0 y0 i i := ⟨hz, hI, hO, q1, q2, p1, p2⟩
    unfold pyNext
    refine wpAny_bind (wpAny_attempt (wpAny_callSpecial?_slot (name := Str.ofString "__next__") ty F.slot_enumerate_next (wpAny_call_entry F.slot_enumerate_next ty F.entry_enumerate_next ?_ (F.args_enumerate_next_1 _))))
    show wpAny _ _ (field (.ref e) 2 >>= _) _ _ _
    refine wpAny_bind (wpAny_field he rfl (x := .ref z) rfl (wpAny_bind ?_))
    unfold Builtin.SmallTypes.nextOf
    refine wpAny_bind (wpAny_callSpecial?_slot (name := Str.ofString "__next__") tz F.slot_zip_next (wpAny_call_entry F.slot_zip_next tz F.entry_zip_next (zip_end1 (I.ok.hd hc) D Z hv (by simp; omega) fun h2 x hk ex => ?_) (F.args_zip_next_1 _)))
    obtain ⟨o, ho, hcl⟩ := ex
    refine wpAny_bind (wpAny_isInstance (T := "StopIteration") (b := true) ⟨o, ho, hcl⟩ isSubtype_stop ?_)
    refine wpAny_pure ⟨rfl, I.turnedL (t' := s.toks) (ch := [e, z, TI, TO, i1, i2]) (fun c o n q => ?_) hf⟩
    have n' : c ≠ e ∧ c ≠ z ∧ c ≠ TI ∧ c ≠ TO ∧ c ≠ i1 ∧ c ≠ i2 := by simpa using n
    exact hk c o n'.2.1 n'.2.2.2.2.1 q
  self := fun A i s Q E st h => let ⟨⟨_, he⟩, _⟩ := st; wpAny_pyIter_enum he h
end Mk
namespace PySem
open Sem (wp)
open AutoSeq1 (wpAny_loadPart')
theorem mk_meets_enumerate_newZ (z TI TO : Addr) :
    Meets (Builtin.«enumerate.__new__» ⟨[.type "enumerate", .ref z], []⟩) (fun _ R s => IsZip s.heap z TI TO .none ∧
      R (.ok (.ret (.ref s.heap.objs.size))) { s with heap := s.heap.push { cls := .type "enumerate", data := .fields #[.none, .bool false, .ref z, rawInt 0, .none, .none] } }) :=
  .of_wp fun prog w A R s h => by
    obtain ⟨hp, g, d, tk, os⟩ := s
    obtain ⟨hz, h⟩ := h
    have hsub := sub_enumerate
    have hZ : IsZip (Shared.heap ⟨hp, g, d, tk, os⟩) z TI TO .none := hz
    wp_walk using wpAny_loadPart' hz
    refine wpAny_stack_any fun st => wpAny_pure ?_
    split
    · rename_i c _ _ _ _ _
      cases (c == Value.type "enumerate")
      · wp_walk using wpAny_loadPart' hz, wpAny_pyIter_zip hZ
        exact ⟨_, rfl, h⟩
      · wp_walk using wpAny_loadPart' hz, wpAny_pyIter_zip hZ
        exact ⟨_, rfl, h⟩
    · wp_walk using wpAny_loadPart' hz, wpAny_pyIter_zip hZ
      exact ⟨_, rfl, h⟩
theorem mk_call_enumerate_zip {prog : Program} {w : World} {A : Around} {E : Value → Shared → Prop} {s : Shared} {z TI TO : Addr} {Q : Value → Shared → Prop} (hz : IsZip s.heap z TI TO .none)
    (h : ∀ h', IsEnum h' s.heap.objs.size z 0 .none → (∀ b o, s.heap.get? b = some o → h'.get? b = some o) → Q (.ref s.heap.objs.size) { s with heap := h' }) :
    wpAny (model prog w) A (call (.type "enumerate") [.ref z]) Q E s := by
  refine callType_new F.called_enumerate (by decide) (F.typeCall_enumerate_1 _) (F.newCall_enumerate_1 _) (fun obj => F.args_object_init_2 obj _) F.entry_enumerate_new (mk_meets_enumerate_newZ z TI TO) ⟨hz, ?_⟩
  have he : IsEnum (s.heap.push { cls := .type "enumerate", data := .fields #[.none, .bool false, .ref z, rawInt 0, .none, .none] }) s.heap.objs.size z 0 .none := Heap.get?_push_size _ rfl
  exact ⟨⟨_, he, rfl⟩, h _ he fun b o x => Heap.get?_push_of_some _ x⟩
end PySem
namespace Mk
open PySem PySem.Spec PyProof.Rows L2
def iEnumZ (K : PySem.W.Frag) (ta : TA) : TI := fun σ H R => ta σ H fun vs H1 => ∃ a b xs ys, vs = [.ref a, .ref b] ∧ SqT K H1 a xs ∧ SqT K H1 b ys ∧ R (Itez K a b) H1
theorem pi_enumZ {X : Cx} {e e2 : Expr} {ta : TA} {p p2 pos pos2 tpos : Pos} {elts : List Expr} {kk : Nat} (hg : Gl X "enumerate") (hm : X.mg "enumerate" = none) (hg2 : Gl X "zip") (hm2 : X.mg "zip" = none) (ha : PA X [e, e2] ta)
    (hs : starEach [e, e2] X.env = (false, eval e X.env) :: starEach [e2] X.env := by rfl) (hpl : (backTo pos2 (starEach [e2] X.env)).any (·.1) = false := by rfl)
    (hs2 : starEach [.Call (.Name "zip" p2) [e, e2] [] pos2] X.env = [(false, eval (.Call (.Name "zip" p2) [e, e2] [] pos2) X.env)] := by rfl) :
    PI X (.Tuple elts kk tpos) (.Call (.Name "enumerate" p) [.Call (.Name "zip" p2) [e, e2] [] pos2] [] pos) (iEnumZ X.K ta) := by
  refine ⟨fun pins s σ H R I h => ?_⟩
  refine Call_ (ld_blt I hg hm boot_enumerate (PyProof.Rows.callWith_type1 ?_ hs2 rfl))
  rw [hs2]
  refine Calls.spliced_cons (Call_ (ld_blt I hg2 hm2 PyProof.Rows.boot_zip (PyProof.Rows.callWith_type1 (thn (ha.run pos2 pins s σ H _ I h) fun us s1 ⟨vs, H1, I1, r1, q1⟩ => ?_) hs hpl)))
  obtain ⟨a, b, xs, ys, ex, hqx, hqy, q⟩ := q1
  subst ex
  cases r1 with
  | cons r rr =>
    cases rr with
    | cons r' rr =>
      cases rr
      cases r
      cases r'
      obtain ⟨its, rv, t1, _⟩ := I1.tuple hqx
      obtain ⟨its2, rv2, t2, _⟩ := I1.tuple hqy
      obtain ⟨o1, ho1, _⟩ := id t1
      obtain ⟨o2, ho2, _⟩ := id t2
      have la : a < s1.heap.objs.size := Heap.lt_size ho1
      have lb : b < s1.heap.objs.size := Heap.lt_size ho2
      refine RZ.call_zipT (show s1.heap.IsTuple a its.toArray from t1) (show s1.heap.IsTuple b its2.toArray from t2) fun h' hz hTI hTO h1 h2 hsz hk => Calls.spliced_nil ?_
      refine mk_call_enumerate_zip (s := { s1 with heap := h' }) hz fun h2' he hk2 => wpAny_pyIter_enum he ?_
      have sz : (Shared.heap { s1 with heap := h' }).objs.size = s1.heap.objs.size + 5 := hsz
      rw [sz] at he
      rw [sz]
      have I2 : Inv X pins σ H1 { s1 with heap := h2' } := I1.kept (t' := s1.toks) fun b o q => hk2 b o (hk b o q)
      have T := turn_enumZ (P := X.prog) (w := X.w) (K := X.K) (elts := elts) (kk := kk) (tpos := tpos) (e := s1.heap.objs.size + 5) (PySem.W.ktu_apart s1.heap.objs.size a b la lb) (Nat.ne_of_gt (by omega)) (Nat.ne_of_gt (by omega)) (Nat.ne_of_gt (by omega)) (Nat.ne_of_gt (by omega)) (Nat.ne_of_gt (by omega)) (Nat.ne_of_gt (Nat.lt_of_lt_of_le la (Nat.le_add_right _ _))) (Nat.ne_of_gt (Nat.lt_of_lt_of_le lb (Nat.le_add_right _ _)))
      have fresh : ∀ c, s1.heap.objs.size ≤ c → FpOk X pins H1 c := fun c le => I1.fpOk le (I1.hok.fresh le)
      have st : EzSt (s1.heap.objs.size + 5) (s1.heap.objs.size + 4) (s1.heap.objs.size + 2) (s1.heap.objs.size + 3) s1.heap.objs.size (s1.heap.objs.size + 1) a b 0 h2' :=
        ⟨⟨.none, he⟩, ⟨.none, false, hk2 _ _ hz, .inl rfl⟩, hk2 _ _ hTI, ⟨_, _, hk2 _ _ hTO⟩, h1.at fun o q => hk2 _ o q, h2.at fun o q => hk2 _ o q⟩
      clear hk2 hk hz hTI hTO h1 h2 hsz sz he
      refine ⟨s1.heap.objs.size + 5, [s1.heap.objs.size + 5, s1.heap.objs.size + 4, s1.heap.objs.size + 2, s1.heap.objs.size + 3, s1.heap.objs.size, s1.heap.objs.size + 1], _, _, H1, rfl, I2, T, st, fun c hc => fresh c ?_, q⟩
      generalize s1.heap.objs.size = n at hc ⊢
      have m : c = n + 5 ∨ c = n + 4 ∨ c = n + 2 ∨ c = n + 3 ∨ c = n ∨ c = n + 1 := by simpa using hc
      rcases m with m | m | m | m | m | m <;> rw [m] <;> first | exact Nat.le_refl _ | exact Nat.le_add_right _ _
end Mk

/-! ### MkY3 -/
set_option Elab.async false
set_option linter.all false
set_option maxRecDepth 100000
set_option maxHeartbeats 4000000
namespace Mx
open PySem PySem.Spec PyProof.Rows L2
section
variable {G : Gx} {T : List Addr} {E : XK} {tl : TA} {ml : LM}
/-- the signs of a text -/
def sgs (z : Str) : List A := z.cps.toList.map fun c => A.str ⟨#[c]⟩
def miEnS (ml : LM) : IM := fun env st => (ml env st).bind fun l => match l.1 with
  | [.str z] => .ok (itEnT (sgs z), l.2)
  | _ => .fail
theorem exi_enS (M : AmX G T) (hl : ExL G E tl ml) : ExI G E (Mk.iEnumS tl) (miEnS ml) := fun ι env st σ H R0 R Ev h => by
  refine hl.run R Ev h fun ι1 H1 a s1 v f1 R1 Ev1 im h1 => ?_
  dsimp only at h1
  split at h1
  · rename_i z
    obtain ⟨w, rfl, iw⟩ := imL_1 im
    refine ⟨z, by rw [im_str' iw], h1 _ _ _ f1 R1 fun ι2 H2 st2 f2 R2 i => ?_⟩
    show match ofE (sgs z) i st2 with | .no => True | .stop => _ | .item a s => _
    unfold ofE sgs
    rw [List.getElem?_map]
    cases e : z.cps.toList[i]? with
    | none => exact (by simpa using List.getElem?_eq_none_iff.mp e : z.cps.size ≤ i)
    | some c =>
      have hi := (List.getElem?_eq_some_iff.mp e).1
      refine ⟨(by simpa using hi : i < z.cps.size), fun x H' y => ?_⟩
      obtain ⟨T, c', rfl, hT, hc, rfl⟩ := y
      have : c' = c := by
        have h2 : z.cps.toList[i]? = some c' := by simpa using hc
        rw [e] at h2
        exact (Option.some.inj h2).symm
      subst this
      exact ⟨ι2, Fr.new hT, R2.new M hT, im_tup (R2.imL (Fr.new hT) (imL_cons im_int (imL_cons im_str imL_nil))) upd_same⟩
  · exact h1.elim
/-- the items of two tuples, the count in front -/
def itEzT (k l : List A) : Itm := fun i s => match k[i]?, l[i]? with
  | some a, some b => .item (.tup [.int i, .tup [a, b]]) s
  | some _, none => .no
  | none, _ => .stop
def miEzT (ml : LM) : IM := fun env st => (ml env st).bind fun l => match l.1 with
  | [.tup k, .tup k2] => .ok (itEzT k k2, l.2)
  | _ => .fail
theorem exi_ezT (M : AmX G T) (hl : ExL G E tl ml) : ExI G E (Mk.iEnumZ G.K tl) (miEzT ml) := fun ι env st σ H R0 R Ev h => by
  refine hl.run R Ev h fun ι1 H1 a s1 v f1 R1 Ev1 im h1 => ?_
  dsimp only at h1
  split at h1
  · rename_i k k2
    obtain ⟨w1, w2, rfl, i1, i2⟩ := imL_2 im
    obtain ⟨p, xs, rfl, hx, il⟩ := im_tup' i1
    obtain ⟨p2, ys, rfl, hy, jl⟩ := im_tup' i2
    refine ⟨p, p2, xs, ys, rfl, hx, hy, h1 _ _ _ f1 R1 fun ι2 H2 st2 f2 R2 i => ?_⟩
    have il2 := R1.imL f2 il
    have jl2 := R1.imL f2 jl
    have hx2 := R1.seq f2 hx
    have hy2 := R1.seq f2 hy
    show match itEzT k k2 i st2 with | .no => True | .stop => _ | .item a s => _
    unfold itEzT
    cases e : k[i]? with
    | none => exact ⟨xs, ys, hx2, hy2, List.getElem?_eq_none_iff.mp ((im_at il2).1 e)⟩
    | some b =>
      cases e2 : k2[i]? with
      | none => exact True.intro
      | some b2 =>
        obtain ⟨w, hw, iw⟩ := (im_at il2).2 b e
        obtain ⟨u, hu, iu⟩ := (im_at jl2).2 b2 e2
        refine ⟨⟨xs, ys, w, u, hx2, hy2, hw, hu⟩, fun x H' z => ?_⟩
        obtain ⟨P, T, c1, c2, rfl, hP, hT, hne, rfl, g1, g2⟩ := z
        have q1 := g1 xs hx2
        have q2 := g2 ys hy2
        rw [hw] at q1
        rw [hu] at q2
        cases q1
        cases q2
        have hT' : upd H2 P (.tup [w, u]) T = none := by rw [upd_ne hne.symm]; exact hT
        have R3 := R2.new M hP (o := .tup [w, u])
        have f3 : Fr ι2 H2 ι2 (upd H2 P (.tup [w, u])) := Fr.new hP
        have iP : Im G.K (upd H2 P (.tup [w, u])) ι2 (.tup [b, b2]) (.ref P) := im_tup (R2.imL f3 (imL_cons iw (imL_cons iu imL_nil))) upd_same
        exact ⟨ι2, f3.trans (Fr.new hT'), R3.new M hT', im_tup (R3.imL (Fr.new hT') (imL_cons im_int (imL_cons iP imL_nil))) upd_same⟩
  · exact h1.elim
end
end Mx

/-! ### MkHz -/
set_option Elab.async false
set_option linter.all false
set_option maxRecDepth 100000
set_option maxHeartbeats 4000000
/-! calls of values only: on the empty store, what they leave dropped -/
namespace Mx
open PySem PySem.Spec PyProof.Rows L2
mutual
def noRef : A → Bool
  | .ref _ => false
  | .tup l => noRefs l
  | _ => true
def noRefs : List A → Bool
  | [] => true
  | a :: l => noRef a && noRefs l
end
mutual
theorem im_noref {K : PySem.W.Frag} {H : Hp} {ι ι' : List Addr} : ∀ {a : A} {v : V}, noRef a = true → Im K H ι a v → Im K H ι' a v
  | .non, _, _, h => h
  | .bl _, _, _, h => h
  | .int _, _, _, h => h
  | .str _, _, _, h => h
  | .ty _, _, _, h => h
  | .ref _, _, n, _ => by unfold noRef at n; cases n
  | .tup l, _, n, h => by
    unfold noRef at n
    unfold Im at h ⊢
    obtain ⟨a, xs, h1, h2, h3⟩ := h
    exact ⟨a, xs, h1, h2, imL_noref n h3⟩
theorem imL_noref {K : PySem.W.Frag} {H : Hp} {ι ι' : List Addr} : ∀ {l : List A} {vs : List V}, noRefs l = true → ImL K H ι l vs → ImL K H ι' l vs
  | [], _, _, h => h
  | a :: l, _, n, h => by
    unfold noRefs at n
    obtain ⟨n1, n2⟩ := Bool.and_eq_true_iff.mp n
    unfold ImL at h ⊢
    obtain ⟨v, vs, h1, h2, h3⟩ := h
    exact ⟨v, vs, h1, im_noref n1 h2, imL_noref n2 h3⟩
end
def noRefX (x : Xc) : Bool := match x.2 with
  | none => true
  | some p => noRef p.2
def cleanR (st : Sto) : R (A × Sto) → R (A × Sto)
  | .ok r => if noRef r.1 = true then .ok (r.1, st) else .fail
  | .exc x _ => if noRefX x = true then .exc x st else .fail
  | .fail => .fail
  | .draw n k => .draw n fun i => cleanR st (k i)
def mCallP (f : FM) (n : Nat) (ds : List A) (ml : LM) : EM := fun env st => (ml env st).bind fun l => if (l.1 ++ ds).length = n then (if noRefs (l.1 ++ ds) = true then cleanR l.2 (f (l.1 ++ ds) []) else .fail) else .fail
section
variable {G : Gx} {T : List Addr} {E : XK}
theorem rl_back {ι ι' : List Addr} {H H' : Hp} {st st' : Sto} (R : Rl G ι H st) (f : Fr [] H ι' H') (R' : Rl G ι' H' st') : Fr ι H ι H' ∧ Rl G ι H' st := by
  have g : Fr ι H ι H' := ⟨List.prefix_refl _, fun _ h => .inl h, fun a o h _ t => f.keep a o h (fun z => nomatch z) t, f.some, f.frz⟩
  refine ⟨g, R'.am, R.len, R.nd, fun n o a h1 h2 => ImO.mono R g ?_ (R.ob n o a h1 h2)⟩
  obtain ⟨ob, e, m⟩ := R.kind (List.mem_of_getElem? h2)
  rw [e, f.keep a ob e (fun z => nomatch z) fun ps z => m.2.1 ps z]
theorem clean_holds {ι : List Addr} {H H0 : Hp} {ι0 : List Addr} {st : Sto} {Q : VK} (R0 : Rl G ι H st) (f0 : Fr ι0 H0 ι H) : ∀ {r : R (A × Sto)}, (cleanR st r).holds (PE1 G ι0 H0 Q) (PXx G ι H E) → r.holds (PE1 G [] H Q) (PXx G [] H E)
  | .ok r, h => by
    unfold cleanR at h
    split at h
    · rename_i n
      intro ι' H' v f' R' im
      obtain ⟨g, R2⟩ := rl_back R0 f' R'
      exact (show PE1 G ι0 H0 Q (r.1, st) from h) ι H' v (f0.trans g) R2 (im_noref n im)
    · exact h.elim
  | .exc x s, h => by
    unfold cleanR at h
    split at h
    · rename_i n
      intro ι' H' f' R'
      obtain ⟨g, R2⟩ := rl_back R0 f' R'
      have k := (show PXx G ι H E x st from h) ι H' g R2
      unfold XOk at k ⊢
      unfold noRefX at n
      split at k
      · exact k
      · rename_i p e
        rw [e] at n
        have n : noRef p.2 = true := n
        exact fun d v h1 h2 => k d v h1 (im_noref n h2)
    · exact h.elim
  | .fail, h => h
  | .draw n k, h => fun i hi => clean_holds R0 f0 (h i hi)
theorem ex_callP {f : FM} {n : Nat} {ds : List A} {dvs : List V} {tl : TA} {ml : LM} (hd : ∀ H ι, ImL G.K H ι ds dvs) (hl : ExL G E tl ml) : Ex G E (tCall (spX G n f) dvs E tl) (mCallP f n ds ml) := fun ι env st σ H Q R Ev h => by
  refine hl.run R Ev h fun ι1 H1 a s1 v f1 R1 Ev1 im h1 => ?_
  have im2 := ImL.append im (hd H1 ι1)
  dsimp only at h1
  split at h1
  · rename_i e
    split at h1
    · rename_i nr
      refine ⟨by rw [im2.length]; exact e, [], [], _, ⟨R1.am, rfl, List.nodup_nil, fun n o a h _ => by cases h⟩, imL_noref nr im2, ?_⟩
      exact clean_holds R1 f1 h1
    · exact h1.elim
  · exact h1.elim
end
end Mx

/-! ### MqG0 -/
set_option Elab.async false
set_option linter.all false
set_option maxRecDepth 100000
set_option maxHeartbeats 4000000
namespace Mx
open PySem PySem.Spec PyProof.Rows L2
open GxR (TabG Tabbed)
/-- the text -/
def top (i : Nat) : Stmt := PySem.Challenge.pw_markspass_k16_known_rings.main.body.getD i (.Pass ⟨0, 0, 0, 0⟩)
structure Fx (P : Program) (w : World) (G : Gx) (T : List Addr) (mg : Str → Option Value) (base : Heap) : Prop where
  M : AmX G T
  z_all : mg "all" = none
  z_bool : mg "bool" = none
  z_enumerate : mg "enumerate" = none
  z_int : mg "int" = none
  z_isinstance : mg "isinstance" = none
  z_len : mg "len" = none
  z_range : mg "range" = none
  z_tuple : mg "tuple" = none
  b_heappop : mg "heappop" = some (.builtin "_heapq.heappop")
  b_heappush : mg "heappush" = some (.builtin "_heapq.heappush")
  i_CLOSING : ∃ t, mg "CLOSING" = some (.int (-1) t)
  i_MOST_LENGTH : ∃ t, mg "MOST_LENGTH" = some (.int (2000) t)
  i_MOST_NAMES : ∃ t, mg "MOST_NAMES" = some (.int (3) t)
  i_MOST_RINGER_STATES : ∃ t, mg "MOST_RINGER_STATES" = some (.int (20) t)
  i_MOST_RUNG_STATES : ∃ t, mg "MOST_RUNG_STATES" = some (.int (4) t)
  i_MOST_STATES : ∃ t, mg "MOST_STATES" = some (.int (6) t)
  i_TIMES : ∃ t, mg "TIMES" = some (.int (60) t)
  s_BLIND : ∃ t, mg "BLIND" = some (.str "blind" t)
  s_MARK : ∃ t, mg "MARK" = some (.str "mark" t)
  s_NAMED : ∃ t, mg "NAMED" = some (.str "named" t)
  s_RUN : ∃ t, mg "RUN" = some (.str "run" t)
  t_BEGINNING : ∃ a, mg "BEGINNING" = some (.ref a) ∧ ∀ H, SqT G.K H a (List.map V.int [-1, -1])
  g_Search : mg "Search" = some (.ref (G.cl 0))
  mkA_Search : PySem.W.makesIn G.K (G.cl 0) = true
  kp_Search : PySem.W.keepIn G.K (.ref (G.cl 0)) = true
  cl_Search : Cls G.K (G.cl 0)
  na_Search_lengths : NoAttr G.K (G.cl 0) "lengths"
  na_Search_made : NoAttr G.K (G.cl 0) "made"
  na_Search_manner : NoAttr G.K (G.cl 0) "manner"
  na_Search_mark_ends : NoAttr G.K (G.cl 0) "mark_ends"
  na_Search_parts : NoAttr G.K (G.cl 0) "parts"
  na_Search_question : NoAttr G.K (G.cl 0) "question"
  na_Search_reader : NoAttr G.K (G.cl 0) "reader"
  na_Search_run_starts : NoAttr G.K (G.cl 0) "run_starts"
  na_Search_waiting : NoAttr G.K (G.cl 0) "waiting"
  na_Search_ways : NoAttr G.K (G.cl 0) "ways"
  na_Search_ways_back : NoAttr G.K (G.cl 0) "ways_back"
def m_is_number : SM := (mRet (mAndV (mCB fIsi (mCons (mVar 0) (mCons (mC (.ty "int")) mNil))) (mAndV (mNotV (mCB fIsi (mCons (mVar 0) (mCons (mC (.ty "bool")) mNil)))) (mChain (fI2 fun i j => .bl (decide (i ≤ j))) (fI2 fun i j => .bl (decide (i ≤ j))) (mVar 1) (mVar 0) (mVar 2)))))
def f_is_number : FM := mDef m_is_number 0
def m_is_tuple_of : SM := (mRet (mAndV (mCB fIsi (mCons (mVar 0) (mCons (mC (.ty "tuple")) mNil))) (mChain (fI2 fun i j => .bl (decide (i ≤ j))) (fI2 fun i j => .bl (decide (i ≤ j))) (mVar 1) (mCB fLen (mCons (mVar 0) mNil)) (mVar 2))))
def f_is_tuple_of : FM := mDef m_is_tuple_of 0
def m_are_numbers : SM := (mRet (mAndV (mCallP f_is_tuple_of 3 [] (mCons (mVar 0) (mCons (mVar 1) (mCons (mVar 1) mNil)))) (mAll (miTup (mVar 0)) (gmName 3) (mCallP f_is_number 3 [] (mCons (mVar 3) (mCons (mC (.int 0)) (mCons (mVar 2) mNil)))) [3])))
def f_are_numbers : FM := mDef m_are_numbers 1
def m_are_steps : SM := (mSeq (mIfS (mOr (mNot (mB (mCallP f_is_tuple_of 3 [] (mCons (mVar 0) (mCons (mC (.int 1)) (mCons (mC (.int (6))) mNil)))))) (mNot (mB (mCallP f_is_tuple_of 3 [] (mCons (m2 fIx (mVar 0) (mC (.int 0))) (mCons (mC (.int 1)) (mCons (mC (.int (3))) mNil))))))) mFailS mNx)
    (mSeq (mAsg (mCB fLen (mCons (m2 fIx (mVar 0) (mC (.int 0))) mNil)) (gmName 1))
    (mSeq (mAsg (m2 (fI2 fun i j => .int (i - j)) (mCB fLen (mCons (mVar 0) mNil)) (mC (.int 1))) (gmName 2))
    (mRet (mAll (miTup (mVar 0)) (gmName 3) (mCallP f_are_numbers 3 [] (mCons (mVar 3) (mCons (mVar 1) (mCons (mVar 2) mNil)))) [3])))))
def f_are_steps : FM := mDef m_are_steps 3
def m_check_question : SM := (mSeq (mIfS (mNot (mB (mCallP f_is_tuple_of 3 [] (mCons (mVar 0) (mCons (mC (.int 2)) (mCons (mC (.int 2)) mNil)))))) mFailS mNx)
    (mSeq (mAsg (mVar 0) (gmTup 2 (gmCons (gmName 1) (gmCons (gmName 2) gmNil))))
    (mSeq (mIfS (mNot (mB (mCallP f_are_steps 1 [] (mCons (mVar 1) mNil)))) mFailS mNx)
    (mIfS (mNot (mB (mCallP f_are_numbers 3 [] (mCons (mVar 2) (mCons (mCB fLen (mCons (mVar 1) mNil)) (mCons (mC (.int 1)) mNil)))))) mFailS mNx))))
def f_check_question : FM := mDef m_check_question 2
def m_names_of : SM := (mRet (mCB fLen (mCons (m2 fIx (m2 fIx (mVar 0) (mC (.int 0))) (mC (.int 0))) mNil)))
def f_names_of : FM := mDef m_names_of 0
def m_is_path : SM := (mRet (mAndV (mCallP f_is_tuple_of 3 [] (mCons (mVar 1) (mCons (mVar 2) (mCons (mVar 3) mNil)))) (mCallP f_are_numbers 3 [] (mCons (mVar 1) (mCons (mCB fLen (mCons (mVar 1) mNil)) (mCons (m2 (fI2 fun i j => .int (i - j)) (mVar 0) (mC (.int 1))) mNil))))))
def f_is_path : FM := mDef m_is_path 0
def m_check_path : SM := (mIfS (mNot (mB (mCallP f_is_path 4 [] (mCons (mVar 0) (mCons (mVar 1) (mCons (mC (.int 0)) (mCons (mC (.int (2000))) mNil))))))) mFailS mNx)
def f_check_path : FM := mDef m_check_path 0
def m_state_behind : SM := (mSeq (mAsg (m2 fIx (mVar 0) (mC (.int 0))) (gmName 3))
    (mSeq (mFor (miTup (mVar 2)) (gmName 4)
    (mAsg (m2 fIx (m2 fIx (mVar 3) (mVar 1)) (mVar 4)) (gmName 1)))
    (mRet (mVar 1))))
def f_state_behind : FM := mDef m_state_behind 2
def m_answer_behind : SM := (mRet (m2 fIx (m2 fIx (mVar 0) (mC (.int 1))) (mCallP f_state_behind 3 [] (mCons (mVar 0) (mCons (mVar 1) (mCons (mVar 2) mNil))))))
def f_answer_behind : FM := mDef m_answer_behind 0
def m_numbered : SM := (mSeq (mAsg mDct0 (gmName 1))
    (mSeq (mFor (miSeq (mVar 0)) (gmName 2)
    (mDrop (mSetd (mVar 1) (mVar 2) (mCB fLenD (mCons (mVar 1) mNil)))))
    (mRet (mCB fTuple (mCons (mLc (miSeq (mVar 0)) (gmName 2) (fun _ st => .ok (true, st)) (m2 fDGet (mVar 1) (mVar 2)) [2]) mNil)))))
def f_numbered : FM := mDef m_numbered 2
def m_lots_behind : SM := (mRet (mCB fTuple (mCons (mLc (miTup (m2 fIx (mVar 0) (mVar 2))) (gmName 3) (fun _ st => .ok (true, st)) (m2 fIx (mVar 1) (mVar 3)) [3]) mNil)))
def f_lots_behind : FM := mDef m_lots_behind 1
def m_alike_lots : SM := (mSeq (mAsg (mVar 0) (gmTup 2 (gmCons (gmName 1) (gmCons (gmName 2) gmNil))))
    (mSeq (mAsg (mCB fRng1 (mCons (mCB fLen (mCons (mVar 1) mNil)) mNil)) (gmName 3))
    (mSeq (mAsg (mCall f_numbered 1 [] (mCons (mVar 2) mNil)) (gmName 4))
    (mSeq (mFor (miRngO (mVar 3)) (gmName 5)
    (mAsg (mCall f_numbered 1 [] (mCons (mLc (miRngO (mVar 3)) (gmName 6) (fun _ st => .ok (true, st)) (mTup (mCons (m2 fIx (mVar 4) (mVar 6)) (mCons (mCallP f_lots_behind 3 [] (mCons (mVar 1) (mCons (mVar 4) (mCons (mVar 6) mNil)))) mNil))) [6]) mNil)) (gmName 4)))
    (mRet (mVar 4))))))
def f_alike_lots : FM := mDef m_alike_lots 6
def m_least_from : SM := (mSeq (mAsg (mVar 0) (gmTup 2 (gmCons (gmName 2) (gmCons (gmName 3) gmNil))))
    (mSeq (mAsg (mCallP f_alike_lots 1 [] (mCons (mVar 0) mNil)) (gmName 4))
    (mSeq (mAsg (mLst (mCons (mVar 1) mNil)) (gmName 5))
    (mSeq (mAsg (mDisp [((m2 fIx (mVar 4) (mVar 1)), (mC (.int 0)))]) (gmName 6))
    (mSeq (mAsg (mLst mNil) (gmName 7))
    (mSeq (mWhl (mB (m2 (fI2 fun i j => .bl (decide (i < j))) (mCB fLen (mCons (mVar 7) mNil)) (mCB fLen (mCons (mVar 5) mNil))))
    (mSeq (mAsg (m2 fIx (mVar 2) (m2 fIx (mVar 5) (mCB fLen (mCons (mVar 7) mNil)))) (gmName 8))
    (mSeq (mFor (miTup (mVar 8)) (gmName 9)
    (mIfS (mB (m2 fDNotIn (m2 fIx (mVar 4) (mVar 9)) (mVar 6))) (mSeq (mAsg (mCB fLen (mCons (mVar 5) mNil)) (gmSubD (mVar 6) (m2 fIx (mVar 4) (mVar 9))))
    (mDrop (mBM "list" fAppend (mVar 5) (mCons (mVar 9) mNil)))) mNx))
    (mDrop (mBM "list" fAppend (mVar 7) (mCons (mCB fTuple (mCons (mLc (miTup (mVar 8)) (gmName 9) (fun _ st => .ok (true, st)) (m2 fDGet (mVar 6) (m2 fIx (mVar 4) (mVar 9))) [9]) mNil)) mNil))))))
    (mRet (mTup (mCons (mCB fTuple (mCons (mVar 7) mNil)) (mCons (mCB fTuple (mCons (mLc (miLst (mVar 5)) (gmName 10) (fun _ st => .ok (true, st)) (m2 fIx (mVar 3) (mVar 10)) [10]) mNil)) mNil))))))))))
def f_least_from : FM := mDef m_least_from 9
def m_least_question : SM := (mSeq (mDrop (mCallP f_check_question 1 [] (mCons (mVar 0) mNil)))
    (mRet (mCallP f_least_from 2 [] (mCons (mVar 0) (mCons (mC (.int 0)) mNil)))))
def f_least_question : FM := mDef m_least_question 0
def m_lots_of_least : SM := (mRet (mCall f_numbered 1 [] (mCons (m2 fIx (mVar 0) (mC (.int 0))) mNil)))
def f_lots_of_least : FM := mDef m_lots_of_least 0
def m_check_row : SM := (mSeq (mIfS (mNot (mB (mCallP f_is_tuple_of 3 [] (mCons (mVar 1) (mCons (mC (.int 0)) (mCons (mC (.int (2000))) mNil)))))) mFailS mNx)
    (mSeq (mAsg (mC (.int 0)) (gmName 2))
    (mFor (miEnT (mCons (mVar 1) mNil)) (gmTup 2 (gmCons (gmName 3) (gmCons (gmName 4) gmNil)))
    (mSeq (mIfS (mOr (mNot (mB (mCallP f_is_number 3 [] (mCons (mVar 4) (mCons (mC (.int (-1))) (mCons (m2 (fI2 fun i j => .int (i - j)) (mVar 0) (mC (.int 1))) mNil)))))) (mAnd (mB (m2 fEq (mVar 4) (mC (.int (-1))))) (mB (m2 fEq (mVar 2) (mC (.int 0)))))) mFailS mNx)
    (mAug 2 (mIf (mB (m2 fEq (mVar 4) (mC (.int (-1))))) (m1 (fU fun i => .int (-i)) (mC (.int 1))) (mC (.int 1))) (fun i j => i + j))))))
def f_check_row : FM := mDef m_check_row 3
def m_answers_due : SM := (mSeq (mDrop (mCallP f_check_question 1 [] (mCons (mVar 0) mNil)))
    (mSeq (mDrop (mCallP f_check_row 2 [] (mCons (mCallP f_names_of 1 [] (mCons (mVar 0) mNil)) (mCons (mVar 1) mNil))))
    (mSeq (mAsg (mVar 0) (gmTup 2 (gmCons (gmName 2) (gmCons (gmName 3) gmNil))))
    (mSeq (mAsg (mLst (mCons (mC (.int 0)) mNil)) (gmName 4))
    (mSeq (mAsg (mLst mNil) (gmName 5))
    (mSeq (mFor (miTup (mVar 1)) (gmName 6)
    (mIfS (mB (m2 fEq (mVar 6) (mC (.int (-1))))) (mDrop (mBM0 "list" fPop (mVar 4))) (mSeq (mDrop (mBM "list" fAppend (mVar 4) (mCons (m2 fIx (m2 fIx (mVar 2) (m2 fIx (mVar 4) (m1 (fU fun i => .int (-i)) (mC (.int 1))))) (mVar 6)) mNil)))
    (mDrop (mBM "list" fAppend (mVar 5) (mCons (m2 fIx (mVar 3) (m2 fIx (mVar 4) (m1 (fU fun i => .int (-i)) (mC (.int 1))))) mNil))))))
    (mRet (mCB fTuple (mCons (mVar 5) mNil)))))))))
def f_answers_due : FM := mDef m_answers_due 5
def m_check_manner : SM := (mIfS (mB (m2 fNotIn (mVar 0) (mTup (mCons (mC (.str "named")) (mCons (mC (.str "blind")) mNil))))) mFailS mNx)
def f_check_manner : FM := mDef m_check_manner 0
def m_is_pair : SM := (mRet (mAndV (mCallP f_is_tuple_of 3 [] (mCons (mVar 0) (mCons (mC (.int 2)) (mCons (mC (.int 2)) mNil)))) (mAndV (mCallP f_is_number 3 [] (mCons (m2 fIx (mVar 0) (mC (.int 0))) (mCons (mC (.int 0)) (mCons (mVar 1) mNil)))) (mCallP f_is_number 3 [] (mCons (m2 fIx (mVar 0) (mC (.int 1))) (mCons (mC (.int 0)) (mCons (mC (.int 1)) mNil)))))))
def f_is_pair : FM := mDef m_is_pair 0
def m_are_pairs : SM := (mRet (mAndV (mCallP f_is_tuple_of 3 [] (mCons (mVar 0) (mCons (mVar 1) (mCons (mVar 1) mNil)))) (mAll (miTup (mVar 0)) (gmName 3) (mCallP f_is_pair 2 [] (mCons (mVar 3) (mCons (mVar 2) mNil))) [3])))
def f_are_pairs : FM := mDef m_are_pairs 1
def m_are_opens : SM := (mSeq (mIfS (mNot (mB (mCallP f_is_tuple_of 3 [] (mCons (mVar 0) (mCons (mC (.int 1)) (mCons (mVar 2) mNil)))))) mFailS mNx)
    (mSeq (mAsg (m2 (fI2 fun i j => .int (i - j)) (mCB fLen (mCons (mVar 0) mNil)) (mC (.int 1))) (gmName 3))
    (mRet (mAll (miTup (mVar 0)) (gmName 4) (mCallP f_are_pairs 3 [] (mCons (mVar 4) (mCons (mVar 1) (mCons (mVar 3) mNil)))) [4]))))
def f_are_opens : FM := mDef m_are_opens 2
def m_are_closes : SM := (mSeq (mAsg (m2 (fI2 fun i j => .int (i - j)) (mVar 1) (mC (.int 1))) (gmName 3))
    (mRet (mAndV (mCallP f_is_tuple_of 3 [] (mCons (mVar 0) (mCons (mVar 1) (mCons (mVar 1) mNil)))) (mAll (miTup (mVar 0)) (gmName 4) (mCallP f_are_numbers 3 [] (mCons (mVar 4) (mCons (mVar 2) (mCons (mVar 3) mNil)))) [4]))))
def f_are_closes : FM := mDef m_are_closes 2
def m_ways_to_close : SM := (mRet (mIf (mB (m2 fEq (mVar 1) (mC (.str "named")))) (mVar 0) (mC (.int 1))))
def f_ways_to_close : FM := mDef m_ways_to_close 0
def m_wrong_part : SM := (mSeq (mIfS (mNot (mB (mCallP f_is_tuple_of 3 [] (mCons (mVar 2) (mCons (mC (.int 2)) (mCons (mC (.int 2)) mNil)))))) mFailS mNx)
    (mSeq (mAsg (mVar 2) (gmTup 2 (gmCons (gmName 4) (gmCons (gmName 5) gmNil))))
    (mSeq (mIfS (mNot (mB (mCallP f_are_opens 3 [] (mCons (mVar 4) (mCons (mVar 0) (mCons (mVar 3) mNil)))))) mFailS mNx)
    (mSeq (mIfS (mNot (mB (mCallP f_are_closes 3 [] (mCons (mVar 5) (mCons (mCB fLen (mCons (mVar 4) mNil)) (mCons (mCallP f_ways_to_close 2 [] (mCons (mVar 0) (mCons (mVar 1) mNil))) mNil)))))) mFailS mNx)
    (mRet (mC .non))))))
def f_wrong_part : FM := mDef m_wrong_part 2
def m_check_reader : SM := (mSeq (mAsg (mCallP f_wrong_part 4 [] (mCons (mVar 0) (mCons (mVar 1) (mCons (mVar 2) (mCons (mVar 3) mNil))))) (gmName 4))
    (mIfS (mB (m2 fNotN (mVar 4) (mC .non))) mFailS mNx))
def f_check_reader : FM := mDef m_check_reader 1
def m_check_reading : SM := (mSeq (mDrop (mCallP f_check_question 1 [] (mCons (mVar 0) mNil)))
    (mSeq (mDrop (mCallP f_check_manner 1 [] (mCons (mVar 1) mNil)))
    (mDrop (mCallP f_check_reader 4 [] (mCons (mCallP f_names_of 1 [] (mCons (mVar 0) mNil)) (mCons (mVar 1) (mCons (mVar 2) (mCons (mVar 3) mNil))))))))
def f_check_reading : FM := mDef m_check_reading 0
def m_behind_closing : SM := (mSeq (mAsg (m2 fIx (m2 fIx (mVar 1) (mC (.int 1))) (mVar 2)) (gmName 4))
    (mRet (mIf (mB (m2 fEq (mVar 0) (mC (.str "named")))) (m2 fIx (mVar 4) (mVar 3)) (m2 fIx (mVar 4) (mC (.int 0))))))
def f_behind_closing : FM := mDef m_behind_closing 1
def m_ways_to_go_on : SM := (mSeq (mAsg (mVar 0) (gmTup 2 (gmCons (gmName 3) (gmCons (gmName 4) gmNil))))
    (mSeq (mAsg mDct0 (gmName 5))
    (mSeq (mFor (miEnT (mCons (mVar 3) mNil)) (gmTup 2 (gmCons (gmName 6) (gmCons (gmName 7) gmNil)))
    (mFor (miEnT (mCons (m2 fIx (mVar 1) (mC (.int 0))) mNil)) (gmTup 2 (gmCons (gmName 8) (gmCons (gmName 9) gmNil)))
    (mAsg (mLc (miEnT (mCons (mVar 7) mNil)) (gmTup 2 (gmCons (gmName 10) (gmCons (gmName 11) gmNil))) (mOr (mNot (mB (mVar 2))) (mAnd (mB (m2 fEq (m2 fIx (mVar 4) (mVar 11)) (mC (.int 0)))) (mB (m2 fEq (m2 fIx (m2 fIx (mVar 9) (mVar 10)) (mC (.int 1))) (mC (.int 0)))))) (mTup (mCons (mVar 10) (mCons (mTup (mCons (mVar 11) (mCons (m2 fIx (m2 fIx (mVar 9) (mVar 10)) (mC (.int 0))) mNil))) mNil))) [10, 11]) (gmSubD (mVar 5) (mTup (mCons (mVar 6) (mCons (mVar 8) mNil)))))))
    (mRet (mVar 5)))))
def f_ways_to_go_on : FM := mDef m_ways_to_go_on 9
def m_ways_to_come : SM := (mSeq (lockG 0 (mAsg (mXc (miKeys (mVar 0)) (gmName 6) (fun _ st => .ok (true, st)) (mVar 6) (mLst mNil) [6]) (gmName 1)))
    (mSeq (lockG 0 (mFor (miItems (mVar 0)) (gmTup 2 (gmCons (gmName 2) (gmCons (gmName 3) gmNil)))
    (mFor (miLst (mVar 3)) (gmTup 2 (gmCons (gmName 4) (gmCons (gmName 5) gmNil)))
    (mDrop (mBM "list" fAppend (m2 fDGet (mVar 1) (mVar 5)) (mCons (mTup (mCons (mVar 2) (mCons (mVar 4) mNil))) mNil))))))
    (mRet (mVar 1))))
def f_ways_to_come : FM := mDef m_ways_to_come 6
def m_moves_of : SM := (mRet (mLc2 (miRng1 (mCons (mVar 0) mNil)) (gmName 2) (fun _ st => .ok (true, st)) (miRng1 (mCons (mVar 0) mNil)) (gmName 3) (mOr (mB (m2 fEq (mVar 2) (mVar 3))) (mB (m2 fEq (mVar 1) (mC (.str "blind"))))) (mTup (mCons (mVar 2) (mCons (mVar 3) mNil))) [2, 3] [3]))
def f_moves_of : FM := mDef m_moves_of 2
def m_one_move_back : SM := (mSeq (mAsg mDct0 (gmName 3))
    (mSeq (mFor (miEnT (mCons (mVar 0) mNil)) (gmTup 2 (gmCons (gmName 4) (gmCons (gmName 5) gmNil)))
    (mFor (miEnT (mCons (mVar 0) mNil)) (gmTup 2 (gmCons (gmName 6) (gmCons (gmName 7) gmNil)))
    (mFor (miLst (mVar 1)) (gmTup 2 (gmCons (gmName 8) (gmCons (gmName 9) gmNil)))
    (mSeq (mAsg (mTup (mCons (m2 fIx (mVar 5) (mVar 8)) (mCons (m2 fIx (mVar 7) (mVar 9)) mNil))) (gmName 10))
    (mIfS (mAnd (mB (m2 fDNotIn (mTup (mCons (mVar 4) (mCons (mVar 6) mNil))) (mVar 2))) (mB (m2 fDIn (mVar 10) (mVar 2)))) (mSeq (mAsg (m2 fDGet (mVar 2) (mVar 10)) (gmTup 2 (gmCons (gmName 11) (gmCons (gmName 12) gmNil))))
    (mAsg (mTup (mCons (mTup (mCons (mVar 8) (mStar (mVar 11) mNil))) (mCons (mTup (mCons (mVar 9) (mStar (mVar 12) mNil))) mNil))) (gmSubD (mVar 3) (mTup (mCons (mVar 4) (mCons (mVar 6) mNil)))))) mNx)))))
    (mRet (mVar 3))))
def f_one_move_back : FM := mDef m_one_move_back 10
def m_words_to : SM := (mSeq (mAsg (m2 fIx (mVar 0) (mC (.int 0))) (gmName 3))
    (mSeq (mAsg (mCall f_moves_of 2 [] (mCons (mCallP f_names_of 1 [] (mCons (mVar 0) mNil)) (mCons (mVar 1) mNil))) (gmName 4))
    (mSeq (mAsg (mXc (miLst (mVar 2)) (gmName 8) (fun _ st => .ok (true, st)) (mVar 8) (mTup (mCons (mTup mNil) (mCons (mTup mNil) mNil))) [8]) (gmName 5))
    (mSeq (mAsg (mCall f_one_move_back 3 [] (mCons (mVar 3) (mCons (mVar 4) (mCons (mVar 5) mNil)))) (gmName 6))
    (mSeq (mWhl (mB (m2 (fI2 fun i j => .bl (decide (j < i))) (mCB fLenD (mCons (mVar 6) mNil)) (mC (.int 0))))
    (mSeq (lockG 6 (mFor (miKeys (mVar 6)) (gmName 7)
    (mAsg (m2 fDGet (mVar 6) (mVar 7)) (gmSubD (mVar 5) (mVar 7)))))
    (mAsg (mCall f_one_move_back 3 [] (mCons (mVar 3) (mCons (mVar 4) (mCons (mVar 5) mNil)))) (gmName 6))))
    (mRet (mVar 5)))))))
def f_words_to : FM := mDef m_words_to 6
def m_meeting_words : SM := (mSeq (mAsg (mLc (miRng1 (mCons (mCB fLen (mCons (m2 fIx (mVar 0) (mC (.int 0))) mNil)) mNil)) (gmName 4) (fun _ st => .ok (true, st)) (mTup (mCons (mVar 4) (mCons (mVar 4) mNil))) [4]) (gmName 2))
    (mSeq (mAsg (mCall f_words_to 3 [] (mCons (mVar 0) (mCons (mVar 1) (mCons (mVar 2) mNil)))) (gmName 3))
    (mRet (lockG 3 (mXc (miKeys (mVar 3)) (gmName 5) (mB (m2 fNe (m2 fIx (mVar 5) (mC (.int 0))) (m2 fIx (mVar 5) (mC (.int 1))))) (mVar 5) (m2 fDGet (mVar 3) (mVar 5)) [5])))))
def f_meeting_words : FM := mDef m_meeting_words 4
def m_clashes : SM := (mSeq (mAsg (mCallP f_lots_of_least 1 [] (mCons (mVar 0) mNil)) (gmName 2))
    (mSeq (mAsg (mCall f_meeting_words 2 [] (mCons (mVar 0) (mCons (mVar 1) mNil))) (gmName 3))
    (mRet (lockG 3 (mXc (miKeys (mVar 3)) (gmName 4) (mB (m2 fNe (m2 fIx (mVar 2) (m2 fIx (mVar 4) (mC (.int 0)))) (m2 fIx (mVar 2) (m2 fIx (mVar 4) (mC (.int 1)))))) (mVar 4) (m2 fDGet (mVar 3) (mVar 4)) [4])))))
def f_clashes : FM := mDef m_clashes 3
def m_is_readable : SM := (mRet (m2 fEq (mCB fLenD (mCons (mCall f_clashes 2 [] (mCons (mVar 0) (mCons (mVar 1) mNil))) mNil)) (mC (.int 0))))
def f_is_readable : FM := mDef m_is_readable 0
def m_checked_least : SM := (mSeq (mDrop (mCallP f_check_question 1 [] (mCons (mVar 0) mNil)))
    (mSeq (mDrop (mCallP f_check_manner 1 [] (mCons (mVar 1) mNil)))
    (mRet (mCallP f_least_question 1 [] (mCons (mVar 0) mNil)))))
def f_checked_least : FM := mDef m_checked_least 0
def m_can_read : SM := (mRet (mCallP f_is_readable 2 [] (mCons (mCallP f_checked_least 2 [] (mCons (mVar 0) (mCons (mVar 1) mNil))) (mCons (mVar 1) mNil))))
def f_can_read : FM := mDef m_can_read 0
def m_are_paths : SM := (mRet (mAndV (mCallP f_is_tuple_of 3 [] (mCons (mVar 1) (mCons (mVar 2) (mCons (mVar 2) mNil)))) (mAll (miTup (mVar 1)) (gmName 3) (mCallP f_is_path 4 [] (mCons (mVar 0) (mCons (mVar 3) (mCons (mC (.int 0)) (mCons (mC (.int (2000))) mNil))))) [3])))
def f_are_paths : FM := mDef m_are_paths 1
def m_are_words : SM := (mRet (mAndV (m2 fEq (mCB fLen (mCons (mVar 1) mNil)) (mCB fLen (mCons (mVar 2) mNil))) (mOrV (m2 fEq (mVar 0) (mC (.str "blind"))) (m2 fEq (mVar 1) (mVar 2)))))
def f_are_words : FM := mDef m_are_words 0
def m_quiet_from : SM := (mSeq (mAsg (mVar 0) (gmTup 2 (gmCons (gmName 1) (gmCons (gmName 2) gmNil))))
    (mSeq (mAsg (mCB fLen (mCons (mVar 1) mNil)) (gmName 3))
    (mSeq (mAsg (mLc (miTup (mVar 1)) (gmName 5) (fun _ st => .ok (true, st)) (mCB fTuple (mCons (mLc (miTup (mVar 5)) (gmName 6) (fun _ st => .ok (true, st)) (mIf (mB (m2 fEq (m2 fIx (mVar 2) (mVar 6)) (mC (.int 1)))) (mVar 3) (mVar 6)) [6]) mNil)) [5]) (gmName 4))
    (mSeq (mDrop (mBM "list" fAppend (mVar 4) (mCons (m2 fRepT (mTup (mCons (mVar 3) mNil)) (mCallP f_names_of 1 [] (mCons (mVar 0) mNil))) mNil)))
    (mRet (mCallP f_least_from 2 [] (mCons (mTup (mCons (mCB fTuple (mCons (mVar 4) mNil)) (mCons (m2 fCatT (m2 fRepT (mTup (mCons (mC (.int 0)) mNil)) (mVar 3)) (mTup (mCons (mC (.int 1)) mNil))) mNil))) (mCons (mC (.int 0)) mNil))))))))
def f_quiet_from : FM := mDef m_quiet_from 6
def m_rings : SM := (mSeq (mDrop (mCallP f_check_question 1 [] (mCons (mVar 0) mNil)))
    (mSeq (mDrop (mCallP f_check_path 2 [] (mCons (mCallP f_names_of 1 [] (mCons (mVar 0) mNil)) (mCons (mVar 1) mNil))))
    (mRet (m2 fEq (mCallP f_answer_behind 3 [] (mCons (mCallP f_quiet_from 1 [] (mCons (mVar 0) mNil)) (mCons (mC (.int 0)) (mCons (mVar 1) mNil)))) (mC (.int 1))))))
def f_rings : FM := mDef m_rings 0
def m_first_ring : SM := (mSeq (mFor (miEnT (mCons (mCallP f_answers_due 2 [] (mCons (mVar 0) (mCons (mVar 1) mNil))) mNil)) (gmTup 2 (gmCons (gmName 2) (gmCons (gmName 3) gmNil)))
    (mIfS (mB (m2 fEq (mVar 3) (mC (.int 1)))) (mRet (mVar 2)) mNx))
    (mRet (mC .non)))
def f_first_ring : FM := mDef m_first_ring 2
def m_confusions : SM := (mSeq (mAsg (m2 fIx (mVar 0) (mC (.int 1))) (gmName 2))
    (mSeq (mAsg (mCallP f_lots_of_least 1 [] (mCons (mVar 0) mNil)) (gmName 3))
    (mSeq (mAsg mDct0 (gmName 4))
    (mSeq (mFor (miEnT (mCons (mVar 2) mNil)) (gmTup 2 (gmCons (gmName 5) (gmCons (gmName 6) gmNil)))
    (mSeq (mAsg (mIf (mB (m2 fEq (mVar 6) (mC (.int 0)))) (mCall f_words_to 3 [] (mCons (mVar 0) (mCons (mVar 1) (mCons (mLst (mCons (mTup (mCons (mVar 5) (mCons (mVar 5) mNil))) mNil)) mNil)))) mDct0) (gmName 7))
    (lockG 7 (mFor (miKeys (mVar 7)) (gmTup 2 (gmCons (gmName 8) (gmCons (gmName 9) gmNil)))
    (mIfS (mAnd (mB (m2 fEq (mVar 9) (mVar 5))) (mB (m2 fNe (m2 fIx (mVar 3) (mVar 8)) (m2 fIx (mVar 3) (mVar 9))))) (mAsg (m2 fDGet (mVar 7) (mTup (mCons (mVar 8) (mCons (mVar 9) mNil)))) (gmSubD (mVar 4) (mTup (mCons (mVar 8) (mCons (mVar 9) mNil))))) mNx)))))
    (mRet (mVar 4))))))
def f_confusions : FM := mDef m_confusions 8
def m_is_ringable : SM := (mRet (m2 fEq (mCB fLenD (mCons (mCall f_confusions 2 [] (mCons (mVar 0) (mCons (mVar 1) mNil))) mNil)) (mC (.int 0))))
def f_is_ringable : FM := mDef m_is_ringable 0
def m_checked_quiet : SM := (mSeq (mDrop (mCallP f_check_question 1 [] (mCons (mVar 0) mNil)))
    (mSeq (mDrop (mCallP f_check_manner 1 [] (mCons (mVar 1) mNil)))
    (mRet (mCallP f_quiet_from 1 [] (mCons (mVar 0) mNil)))))
def f_checked_quiet : FM := mDef m_checked_quiet 0
def m_can_ring : SM := (mRet (mCallP f_is_ringable 2 [] (mCons (mCallP f_checked_quiet 2 [] (mCons (mVar 0) (mCons (mVar 1) mNil))) (mCons (mVar 1) mNil))))
def f_can_ring : FM := mDef m_can_ring 0
def m_is_ring_paper : SM := (mSeq (mIfS (mNot (mB (mCallP f_are_paths 3 [] (mCons (mCallP f_names_of 1 [] (mCons (mVar 0) mNil)) (mCons (mVar 2) (mCons (mC (.int 4)) mNil)))))) mFailS mNx)
    (mSeq (mAsg (mVar 2) (gmTup 4 (gmCons (gmName 3) (gmCons (gmName 4) (gmCons (gmName 5) (gmCons (gmName 6) gmNil))))))
    (mSeq (mIfS (mOr (mNot (mB (mCallP f_are_words 3 [] (mCons (mVar 1) (mCons (mVar 4) (mCons (mVar 5) mNil)))))) (mOr (mB (m2 fEq (mCB fLen (mCons (mVar 4) mNil)) (mC (.int 0)))) (mB (m2 fEq (mCB fLen (mCons (mVar 6) mNil)) (mC (.int 0)))))) mFailS mNx)
    (mSeq (mAsg (mCallP f_state_behind 3 [] (mCons (mVar 0) (mCons (mC (.int 0)) (mCons (mVar 3) mNil)))) (gmName 7))
    (mSeq (mAsg (mCallP f_state_behind 3 [] (mCons (mVar 0) (mCons (mVar 7) (mCons (mVar 4) mNil)))) (gmName 8))
    (mSeq (mIfS (mOr (mB (m2 fNe (mCallP f_state_behind 3 [] (mCons (mVar 0) (mCons (mVar 8) (mCons (mVar 5) mNil)))) (mVar 8))) (mB (m2 fEq (m2 fIx (m2 fIx (mVar 0) (mC (.int 1))) (mVar 8)) (mC (.int 1))))) mFailS mNx)
    (mRet (m2 fNe (mCallP f_answer_behind 3 [] (mCons (mVar 0) (mCons (mVar 7) (mCons (mVar 6) mNil)))) (mCallP f_answer_behind 3 [] (mCons (mVar 0) (mCons (mVar 8) (mCons (mVar 6) mNil))))))))))))
def f_is_ring_paper : FM := mDef m_is_ring_paper 6
def m_shows_ring_paper : SM := (mSeq (mAsg (mCallP f_checked_quiet 2 [] (mCons (mVar 0) (mCons (mVar 1) mNil))) (gmName 3))
    (mSeq (mIfS (mB (m2 fIsN (mVar 2) (mC .non))) mFailS mNx)
    (mRet (mCallP f_is_ring_paper 3 [] (mCons (mVar 3) (mCons (mVar 1) (mCons (mVar 2) mNil)))))))
def f_shows_ring_paper : FM := mDef m_shows_ring_paper 1
def m_ring_rows : SM := (mSeq (mAsg (mCallP f_checked_quiet 2 [] (mCons (mVar 0) (mCons (mVar 1) mNil))) (gmName 4))
    (mSeq (mIfS (mNot (mB (mCallP f_is_ring_paper 3 [] (mCons (mVar 4) (mCons (mVar 1) (mCons (mVar 2) mNil)))))) mFailS mNx)
    (mSeq (mIfS (mNot (mB (mCallP f_is_number 3 [] (mCons (mVar 3) (mCons (mC (.int 1)) (mCons (mC (.int (6))) mNil)))))) mFailS mNx)
    (mSeq (mAsg (mVar 2) (gmTup 4 (gmCons (gmName 5) (gmCons (gmName 6) (gmCons (gmName 7) (gmCons (gmName 8) gmNil))))))
    (mSeq (mAsg (m2 fRepT (mTup (mCons (mC (.int (-1))) mNil)) (m2 fMul (m2 (fI2 fun i j => .int (i + j)) (mVar 3) (mC (.int 1))) (mCB fLen (mCons (mVar 6) mNil)))) (gmName 9))
    (mRet (mTup (mCons (m2 fCatT (m2 fCatT (m2 fCatT (m2 fCatT (mVar 5) (mVar 6)) (m2 fRepT (mVar 7) (mVar 3))) (mVar 9)) (mVar 8)) (mCons (m2 fCatT (m2 fCatT (m2 fCatT (m2 fCatT (mVar 5) (mVar 6)) (m2 fRepT (mVar 7) (m2 (fI2 fun i j => .int (i + j)) (mVar 3) (mC (.int (60)))))) (mVar 9)) (mVar 8)) mNil)))))))))
def f_ring_rows : FM := mDef m_ring_rows 6
def m_checked_rung : SM := (mSeq (mAsg (mCallP f_checked_quiet 2 [] (mCons (mVar 0) (mCons (mVar 1) mNil))) (gmName 2))
    (mSeq (mIfS (mB (m2 (fI2 fun i j => .bl (decide (j < i))) (mCB fLen (mCons (m2 fIx (mVar 0) (mC (.int 0))) mNil)) (mC (.int (4))))) mFailS mNx)
    (mRet (mVar 2))))
def f_checked_rung : FM := mDef m_checked_rung 1
def m_Search_put : SM := (mIfS (mB (m2 fDNotIn (mVar 2) (mFld 0 "parts" (mVar 0)))) (mSeq (mDrop (mCB fPush (mCons (mFld 0 "waiting" (mVar 0)) (mCons (mTup (mCons (mVar 1) (mCons (mCB fLen (mCons (mFld 0 "made" (mVar 0)) mNil)) mNil))) mNil))))
    (mDrop (mBM "list" fAppend (mFld 0 "made" (mVar 0)) (mCons (mTup (mCons (mVar 2) (mCons (mVar 3) mNil))) mNil)))) mNx)
def f_Search_put : FM := mDef m_Search_put 0
def m_Search_put_longer_run : SM := (mSeq (mAsg (mTup (mCons (mC (.str "run")) (mCons (mVar 1) (mCons (mVar 2) mNil)))) (gmName 4))
    (mSeq (mAsg (mTup (mCons (mC (.str "mark")) (mCons (mVar 2) (mCons (mVar 3) mNil)))) (gmName 5))
    (mDrop (mMeth 0 "put" f_Search_put 4 (mVar 0) (mCons (m2 (fI2 fun i j => .int (i + j)) (m2 fDGet (mFld 0 "lengths" (mVar 0)) (mVar 4)) (m2 fDGet (mFld 0 "lengths" (mVar 0)) (mVar 5))) (mCons (mTup (mCons (mC (.str "run")) (mCons (mVar 1) (mCons (mVar 3) mNil)))) (mCons (mTup (mCons (mVar 4) (mCons (mVar 5) mNil))) mNil)))))))
def f_Search_put_longer_run : FM := mDef m_Search_put_longer_run 2
def m_Search_go_on_behind_run : SM := (mSeq (mAsg (mTup (mCons (mC (.str "run")) (mCons (mVar 1) (mCons (mVar 2) mNil)))) (gmName 3))
    (mSeq (mAsg (m2 fDGet (mFld 0 "lengths" (mVar 0)) (mVar 3)) (gmName 4))
    (mSeq (mDrop (mBM "list" fAppend (m2 fDGet (mFld 0 "run_starts" (mVar 0)) (mVar 2)) (mCons (mVar 1) mNil)))
    (mSeq (mFor (miLst (m2 fDGet (mFld 0 "mark_ends" (mVar 0)) (mVar 2))) (gmName 5)
    mFailS)
    (mIfS (mB (m2 fEq (mVar 1) (mC (.tup (List.map A.int [-1, -1]))))) (mFor (miLst (m2 fDGet (mFld 0 "ways" (mVar 0)) (mVar 2))) (gmTup 2 (gmCons (gmName 6) (gmCons (gmName 7) gmNil)))
    (mDrop (mMeth 0 "put" f_Search_put 4 (mVar 0) (mCons (m2 (fI2 fun i j => .int (i + j)) (mVar 4) (mC (.int 1))) (mCons (mTup (mCons (mC (.str "run")) (mCons (mC (.tup (List.map A.int [-1, -1]))) (mCons (mVar 7) mNil)))) (mCons (mTup (mCons (mVar 3) (mCons (mVar 6) mNil))) mNil)))))) (mFor (miLst (m2 fDGet (mFld 0 "ways_back" (mVar 0)) (mVar 1))) (gmTup 2 (gmCons (gmName 8) (gmCons (gmName 6) gmNil)))
    (mSeq (mAsg (mCallP f_behind_closing 4 [] (mCons (mFld 0 "manner" (mVar 0)) (mCons (mFld 0 "reader" (mVar 0)) (mCons (m2 fIx (mVar 2) (mC (.int 1))) (mCons (mVar 6) mNil))))) (gmName 9))
    (mDrop (mMeth 0 "put" f_Search_put 4 (mVar 0) (mCons (m2 (fI2 fun i j => .int (i + j)) (mVar 4) (mC (.int 2))) (mCons (mTup (mCons (mC (.str "mark")) (mCons (mVar 8) (mCons (mTup (mCons (m2 fIx (mVar 8) (mC (.int 0))) (mCons (mVar 9) mNil))) mNil)))) (mCons (mTup (mCons (mVar 6) (mCons (mVar 3) (mCons (mC (.int (-1))) mNil)))) mNil))))))))))))
def f_Search_go_on_behind_run : FM := mDef m_Search_go_on_behind_run 7
def m_Search_go_on_behind_mark : SM := (mSeq (mDrop (mBM "list" fAppend (m2 fDGet (mFld 0 "mark_ends" (mVar 0)) (mVar 1)) (mCons (mVar 2) mNil)))
    (mFor (miLst (m2 fDGet (mFld 0 "run_starts" (mVar 0)) (mVar 1))) (gmName 3)
    (mDrop (mMeth 0 "put_longer_run" f_Search_put_longer_run 4 (mVar 0) (mCons (mVar 3) (mCons (mVar 1) (mCons (mVar 2) mNil)))))))
def f_Search_go_on_behind_mark : FM := mDef m_Search_go_on_behind_mark 1
def m_Search_next_row : SM := (mSeq (mWhl (mB (m2 (fI2 fun i j => .bl (decide (j < i))) (mCB fLen (mCons (mFld 0 "waiting" (mVar 0)) mNil)) (mC (.int 0))))
    (mSeq (mAsg (mCB fHPop (mCons (mFld 0 "waiting" (mVar 0)) mNil)) (gmTup 2 (gmCons (gmName 1) (gmCons (gmName 2) gmNil))))
    (mSeq (mAsg (m2 fIx (mFld 0 "made" (mVar 0)) (mVar 2)) (gmTup 2 (gmCons (gmName 3) (gmCons (gmName 4) gmNil))))
    (mSeq (mIfS (mB (m2 fDIn (mVar 3) (mFld 0 "parts" (mVar 0)))) mFailS mNx)
    (mSeq (mAsg (mVar 1) (gmSubD (mFld 0 "lengths" (mVar 0)) (mVar 3)))
    (mSeq (mAsg (mVar 4) (gmSubD (mFld 0 "parts" (mVar 0)) (mVar 3)))
    (mSeq (mAsg (mVar 3) (gmTup 3 (gmCons (gmName 5) (gmCons (gmName 6) (gmCons (gmName 7) gmNil)))))
    (mSeq (mIfS (mB (m2 fEq (mVar 5) (mC (.str "mark")))) (mSeq (mDrop (mMeth 0 "go_on_behind_mark" f_Search_go_on_behind_mark 3 (mVar 0) (mCons (mVar 6) (mCons (mVar 7) mNil))))
    (fun env st => .ok (.ct env, st))) mNx)
    (mSeq (mDrop (mMeth 0 "go_on_behind_run" f_Search_go_on_behind_run 3 (mVar 0) (mCons (mVar 6) (mCons (mVar 7) mNil))))
    (mIfS (mB (m2 fEq (mVar 6) (mC (.tup (List.map A.int [-1, -1]))))) (mRet (mVar 7)) mNx))))))))))
    (mRet (mC .non)))
def f_Search_next_row : FM := mDef m_Search_next_row 7
def m_Search_wrong_name : SM := (mSeq (mAsg (mFld 0 "question" (mVar 0)) (gmTup 2 (gmCons (gmName 2) (gmCons (gmName 3) gmNil))))
    (mSeq (mAsg (mVar 1) (gmTup 2 (gmCons (gmName 4) (gmCons (gmName 5) gmNil))))
    (mSeq (mFor (miEnT (mCons (m2 fIx (mVar 2) (mVar 4)) mNil)) (gmTup 2 (gmCons (gmName 6) (gmCons (gmName 7) gmNil)))
    (mIfS (mB (m2 fNe (m2 fIx (m2 fIx (m2 fIx (m2 fIx (mFld 0 "reader" (mVar 0)) (mC (.int 0))) (mVar 5)) (mVar 6)) (mC (.int 1))) (m2 fIx (mVar 3) (mVar 7)))) (mRet (mVar 6)) mNx))
    (mRet (mC .non)))))
def f_Search_wrong_name : FM := mDef m_Search_wrong_name 6
def m_Search_next_fault : SM := (mSeq (mAsg (mMeth 0 "next_row" f_Search_next_row 1 (mVar 0) mNil) (gmName 1))
    (mSeq (mWhl (mAnd (mB (m2 fNotN (mVar 1) (mC .non))) (mB (m2 fIsN (mMeth 0 "wrong_name" f_Search_wrong_name 2 (mVar 0) (mCons (mVar 1) mNil)) (mC .non))))
    (mAsg (mMeth 0 "next_row" f_Search_next_row 1 (mVar 0) mNil) (gmName 1)))
    (mRet (mVar 1))))
def f_Search_next_fault : FM := mDef m_Search_next_fault 1
def m_Search_tags_to : SM := (mSeq (mAsg (mLst mNil) (gmName 2))
    (mSeq (mAsg (mLst (mCons (mTup (mCons (mC (.str "run")) (mCons (mC (.tup (List.map A.int [-1, -1]))) (mCons (mVar 1) mNil)))) mNil)) (gmName 3))
    (mSeq (mWhl (mB (m2 (fI2 fun i j => .bl (decide (j < i))) (mCB fLen (mCons (mVar 3) mNil)) (mC (.int 0))))
    (mSeq (mAsg (mBM0 "list" fPop (mVar 3)) (gmName 4))
    (mIfS (mB (mCB fIsi (mCons (mVar 4) (mCons (mC (.ty "int")) mNil)))) (mDrop (mBM "list" fAppend (mVar 2) (mCons (mVar 4) mNil))) (mDrop (mBM "list" fExtT (mVar 3) (mCons (mRevT (m2 fDGet (mFld 0 "parts" (mVar 0)) (mVar 4))) mNil))))))
    (mRet (mVar 2)))))
def f_Search_tags_to : FM := mDef m_Search_tags_to 3
def m_Search___init__ : SM := (mSeq (mSetF 0 "question" (mVar 0) (mVar 1))
    (mSeq (mSetF 0 "manner" (mVar 0) (mVar 2))
    (mSeq (mSetF 0 "reader" (mVar 0) (mVar 3))
    (mSeq (mSetF 0 "ways" (mVar 0) (mCall f_ways_to_go_on 3 [] (mCons (mVar 1) (mCons (mVar 3) (mCons (mVar 4) mNil)))))
    (mSeq (mSetF 0 "ways_back" (mVar 0) (mCall f_ways_to_come 1 [] (mCons (mFld 0 "ways" (mVar 0)) mNil)))
    (mSeq (mSetF 0 "lengths" (mVar 0) mDct0)
    (mSeq (mSetF 0 "parts" (mVar 0) mDct0)
    (mSeq (mSetF 0 "run_starts" (mVar 0) (lockF 0 "ways" (mXc (miKeys (mFld 0 "ways" (mVar 0))) (gmName 5) (fun _ st => .ok (true, st)) (mVar 5) (mLst mNil) [5])))
    (mSeq (mSetF 0 "mark_ends" (mVar 0) (lockF 0 "ways" (mXc (miKeys (mFld 0 "ways" (mVar 0))) (gmName 5) (fun _ st => .ok (true, st)) (mVar 5) (mLst mNil) [5])))
    (mSeq (mSetF 0 "made" (mVar 0) (mLst mNil))
    (mSeq (mSetF 0 "waiting" (mVar 0) (mLst mNil))
    (mSeq (mDrop (mMeth 0 "put" f_Search_put 4 (mVar 0) (mCons (mC (.int 0)) (mCons (mTup (mCons (mC (.str "run")) (mCons (mC (.tup (List.map A.int [-1, -1]))) (mCons (mTup (mCons (mC (.int 0)) (mCons (mC (.int 0)) mNil))) mNil)))) (mCons (mTup mNil) mNil)))))
    (lockF 0 "ways" (mFor (miKeys (mFld 0 "ways" (mVar 0))) (gmName 5)
    (mDrop (mMeth 0 "put" f_Search_put 4 (mVar 0) (mCons (mC (.int 0)) (mCons (mTup (mCons (mC (.str "run")) (mCons (mVar 5) (mCons (mVar 5) mNil)))) (mCons (mTup mNil) mNil)))))))))))))))))))
def f_Search___init__ : FM := mDef m_Search___init__ 1
def m_errs_nowhere : SM := (mRet (m2 fIsN (mMeth 0 "next_fault" f_Search_next_fault 1 (mMake 0 f_Search___init__ 5 (mCons (mVar 0) (mCons (mVar 1) (mCons (mVar 2) (mCons (mVar 3) mNil))))) mNil) (mC .non)))
def f_errs_nowhere : FM := mDef m_errs_nowhere 0
def m_short_fault : SM := (mSeq (mAsg (mMake 0 f_Search___init__ 5 (mCons (mVar 0) (mCons (mVar 1) (mCons (mVar 2) (mCons (mVar 3) mNil))))) (gmName 4))
    (mSeq (mAsg (mMeth 0 "next_fault" f_Search_next_fault 1 (mVar 4) mNil) (gmName 5))
    (mSeq (mIfS (mB (m2 fIsN (mVar 5) (mC .non))) mFailS mNx)
    (mSeq (mIfS (mB (m2 (fI2 fun i j => .bl (decide (j ≤ i))) (m2 fDGet (mFld 0 "lengths" (mVar 4)) (mTup (mCons (mC (.str "run")) (mCons (mC (.tup (List.map A.int [-1, -1]))) (mCons (mVar 5) mNil))))) (mC (.int (2000))))) mFailS mNx)
    (mSeq (mAsg (mMeth 0 "tags_to" f_Search_tags_to 2 (mVar 4) (mCons (mVar 5) mNil)) (gmName 6))
    (mSeq (mDrop (mBM "list" fAppend (mVar 6) (mCons (mMeth 0 "wrong_name" f_Search_wrong_name 2 (mVar 4) (mCons (mVar 5) mNil)) mNil)))
    (mRet (mCB fTuple (mCons (mVar 6) mNil)))))))))
def f_short_fault : FM := mDef m_short_fault 3
def m_rings_right : SM := (mSeq (mDrop (mCallP f_check_reading 4 [] (mCons (mVar 0) (mCons (mVar 1) (mCons (mVar 2) (mCons (mC (.int (20))) mNil))))))
    (mRet (mCallN f_errs_nowhere 3 1 (mCons (mCallP f_quiet_from 1 [] (mCons (mVar 0) mNil)) (mCons (mVar 1) (mCons (mVar 2) mNil))) (mCons (mC (.bl true)) mNil))))
def f_rings_right : FM := mDef m_rings_right 0
def m_ring_fault : SM := (mSeq (mDrop (mCallP f_check_reading 4 [] (mCons (mVar 0) (mCons (mVar 1) (mCons (mVar 2) (mCons (mC (.int (20))) mNil))))))
    (mRet (mCallN f_short_fault 3 1 (mCons (mCallP f_quiet_from 1 [] (mCons (mVar 0) mNil)) (mCons (mVar 1) (mCons (mVar 2) mNil))) (mCons (mC (.bl true)) mNil))))
def f_ring_fault : FM := mDef m_ring_fault 0
def m_shows_ringer : SM := (mSeq (mAsg (mCallP f_checked_rung 2 [] (mCons (mVar 0) (mCons (mVar 1) mNil))) (gmName 3))
    (mSeq (mIfS (mB (m2 fIsN (mVar 2) (mC .non))) mFailS mNx)
    (mSeq (mIfS (mB (m2 fNotN (mCallP f_wrong_part 4 [] (mCons (mCallP f_names_of 1 [] (mCons (mVar 0) mNil)) (mCons (mVar 1) (mCons (mVar 2) (mCons (mC (.int (20))) mNil))))) (mC .non))) mFailS mNx)
    (mRet (mCallN f_errs_nowhere 3 1 (mCons (mVar 3) (mCons (mVar 1) (mCons (mVar 2) mNil))) (mCons (mC (.bl true)) mNil))))))
def f_shows_ringer : FM := mDef m_shows_ringer 1
def m_law : SM := (mSeq (mAsg (mTup (mCons (mTup (mCons (mTup (mCons (mTup (mCons (mC (.int 0)) (mCons (mC (.int 1)) mNil))) (mCons (mTup (mCons (mC (.int 0)) (mCons (mC (.int 1)) mNil))) mNil))) (mCons (mTup (mCons (mC (.int 0)) (mCons (mC (.int 1)) mNil))) mNil))) (mCons (mTup (mCons (mTup (mCons (mTup (mCons (mC (.int 0)) (mCons (mC (.int 1)) mNil))) (mCons (mTup (mCons (mC (.int 1)) (mCons (mC (.int 1)) mNil))) mNil))) (mCons (mTup (mCons (mC (.int 0)) (mCons (mC (.int 1)) mNil))) mNil))) mNil))) (gmTup 2 (gmCons (gmName 2) (gmCons (gmName 3) gmNil))))
    (mSeq (mAsg (mTup (mCons (mTup (mCons (mTup (mCons (mTup (mCons (mC (.int 1)) (mCons (mC (.int 0)) mNil))) (mCons (mTup (mCons (mC (.int 1)) (mCons (mC (.int 2)) mNil))) (mCons (mTup (mCons (mC (.int 2)) (mCons (mC (.int 2)) mNil))) mNil)))) (mCons (mTup (mCons (mC (.int 0)) (mCons (mC (.int 0)) (mCons (mC (.int 1)) mNil)))) mNil))) (mCons (mTup (mCons (mTup (mCons (mTup (mCons (mC (.int 1)) mNil)) (mCons (mTup (mCons (mC (.int 2)) mNil)) (mCons (mTup (mCons (mC (.int 2)) mNil)) mNil)))) (mCons (mTup (mCons (mC (.int 0)) (mCons (mC (.int 0)) (mCons (mC (.int 1)) mNil)))) mNil))) mNil))) (gmTup 2 (gmCons (gmName 4) (gmCons (gmName 5) gmNil))))
    (mSeq (mAsg (m2 fCatL (mLc (miLst (mLst (mCons (mVar 2) (mCons (mVar 3) (mCons (mVar 5) (mCons (mVar 4) mNil)))))) (gmName 9) (fun _ st => .ok (true, st)) (mCallP f_can_ring 2 [] (mCons (mVar 9) (mCons (mC (.str "blind")) mNil))) [9]) (mLst (mCons (mCallP f_can_ring 2 [] (mCons (mVar 4) (mCons (mC (.str "named")) mNil))) (mCons (mCallP f_can_read 2 [] (mCons (mVar 5) (mCons (mC (.str "named")) mNil))) mNil)))) (gmName 6))
    (mSeq (mIfS (mB (m2 fNe (mVar 6) (mLst (mCons (mC (.bl true)) (mCons (mC (.bl true)) (mCons (mC (.bl true)) (mCons (mC (.bl false)) (mCons (mC (.bl false)) (mCons (mC (.bl false)) mNil))))))))) mFailS mNx)
    (mSeq (mAsg (mTup (mCons (mTup mNil) (mCons (mTup (mCons (mC (.int 0)) mNil)) (mCons (mTup (mCons (mC (.int 0)) mNil)) (mCons (mTup (mCons (mC (.int 1)) mNil)) mNil))))) (gmName 7))
    (mSeq (mIfS (mOr (mB (m2 fNotB (mCallP f_shows_ring_paper 3 [] (mCons (mVar 4) (mCons (mC (.str "named")) (mCons (mVar 7) mNil)))) (mC (.bl true)))) (mB (m2 fNe (m2 fIx (mCallP f_ring_rows 4 [] (mCons (mVar 4) (mCons (mC (.str "named")) (mCons (mVar 7) (mCons (mC (.int 1)) mNil))))) (mC (.int 0))) (mTup (mCons (mC (.int 0)) (mCons (mC (.int 0)) (mCons (m1 (fU fun i => .int (-i)) (mC (.int 1))) (mCons (m1 (fU fun i => .int (-i)) (mC (.int 1))) (mCons (mC (.int 1)) mNil))))))))) mFailS mNx)
    (mSeq (mIfS (mOr (mB (m2 fNotB (mCallP f_rings 2 [] (mCons (mVar 5) (mCons (mTup (mCons (mC (.int 0)) (mCons (mC (.int 0)) mNil))) mNil))) (mC (.bl true)))) (mOr (mB (m2 fNe (mCallP f_first_ring 2 [] (mCons (mVar 4) (mCons (mTup (mCons (mC (.int 1)) (mCons (mC (.int 0)) (mCons (mC (.int 1)) mNil)))) mNil))) (mC (.int 2)))) (mB (m2 fNotN (mCallP f_first_ring 2 [] (mCons (mVar 4) (mCons (mTup (mCons (mC (.int 0)) (mCons (m1 (fU fun i => .int (-i)) (mC (.int 1))) (mCons (mC (.int 1)) mNil)))) mNil))) (mC .non))))) mFailS mNx)
    (mSeq (mAsg (mTup (mCons (mTup (mCons (mTup (mCons (mTup (mCons (mC (.int 1)) (mCons (mC (.int 0)) mNil))) mNil)) (mCons (mTup (mCons (mTup (mCons (mC (.int 1)) (mCons (mC (.int 1)) mNil))) mNil)) mNil))) (mCons (mTup (mCons (mTup (mCons (mC (.int 0)) mNil)) (mCons (mTup (mCons (mC (.int 0)) mNil)) mNil))) mNil))) (gmName 8))
    (mSeq (mIfS (mOr (mB (m2 fNotB (mCallP f_shows_ringer 3 [] (mCons (mVar 5) (mCons (mC (.str "blind")) (mCons (mVar 8) mNil)))) (mC (.bl true)))) (mB (m2 fNotB (mCallP f_rings_right 3 [] (mCons (mVar 5) (mCons (mC (.str "named")) (mCons (mVar 8) mNil)))) (mC (.bl true))))) mFailS mNx)
    (mSeq (mIfS (mB (m2 fNe (mCallP f_ring_fault 3 [] (mCons (mVar 5) (mCons (mC (.str "blind")) (mCons (mTup (mCons (mTup (mCons (mTup (mCons (mTup (mCons (mC (.int 0)) (mCons (mC (.int 0)) mNil))) mNil)) mNil)) (mCons (mTup (mCons (mTup (mCons (mC (.int 0)) mNil)) mNil)) mNil))) mNil)))) (mTup (mCons (mC (.int 0)) (mCons (mC (.int 0)) mNil))))) mFailS mNx)
    (mRet (m2 fIsB (mCallP f_can_ring 2 [] (mCons (mTup (mCons (mTup (mCons (mTup (mCons (mC (.int 0)) (mCons (mC (.int 0)) mNil))) mNil)) (mCons (mTup (mCons (mCall fTaken 2 [] (mCons (mVar 1) (mCons (mC (.int 2)) mNil))) mNil)) mNil))) (mCons (mC (.str "blind")) mNil))) (mC (.bl true))))))))))))))
end Mx

/-! ### MqF -/
set_option Elab.async false
set_option linter.all false
set_option maxRecDepth 100000
set_option maxHeartbeats 8000000
namespace Mx
open PySem PySem.Spec PyProof.Rows L2
/-! ### the head: what is asked -/
def clN : List Str := ["Search"]
def cL (K : PySem.W.Frag) (i : Nat) : Addr := He.ga K (clN.getD i "")
def fas : List He.Fa := [.glo "MarkError", .glo "BadQuestion", .glo "BadReader", .glo "BadManner",
  .glo "BadPath", .glo "BadRow", .glo "BadNumber", .glo "BadTrap",
  .glo "TooMany", .glo "_law_taken", .glo "is_number", .glo "is_tuple_of",
  .glo "are_numbers", .glo "are_steps", .glo "check_question", .glo "names_of",
  .glo "is_path", .glo "check_path", .glo "state_behind", .glo "answer_behind",
  .glo "numbered", .glo "lots_behind", .glo "alike_lots", .glo "least_from",
  .glo "least_question", .glo "lots_of_least", .glo "check_row", .glo "answers_due",
  .glo "check_manner", .glo "is_pair", .glo "are_pairs", .glo "are_opens",
  .glo "are_closes", .glo "ways_to_close", .glo "wrong_part", .glo "check_reader",
  .glo "check_reading", .glo "behind_closing", .glo "ways_to_go_on", .glo "ways_to_come",
  .glo "moves_of", .glo "one_move_back", .glo "words_to", .glo "meeting_words",
  .glo "clashes", .glo "is_readable", .glo "checked_least", .glo "can_read",
  .glo "are_paths", .glo "are_words", .glo "quiet_from", .glo "rings",
  .glo "first_ring", .glo "confusions", .glo "is_ringable", .glo "checked_quiet",
  .glo "can_ring", .glo "is_ring_paper", .glo "shows_ring_paper", .glo "ring_rows",
  .glo "checked_rung", .glo "errs_nowhere", .glo "short_fault", .glo "rings_right",
  .glo "ring_fault", .glo "shows_ringer", .glo "law", .free "all",
  .free "bool", .free "enumerate", .free "int", .free "isinstance",
  .free "len", .free "range", .free "tuple", .int "CLOSING" (-1),
  .int "MOST_LENGTH" (2000), .int "MOST_NAMES" (3), .int "MOST_RINGER_STATES" (20), .int "MOST_RUNG_STATES" (4),
  .int "MOST_STATES" (6), .int "TIMES" (60), .str "BLIND" "blind", .str "MARK" "mark",
  .str "NAMED" "named", .str "RUN" "run", .glo "Search", .cls "Search",
  .mkr "Search", .keep "Search", .noat "Search" "lengths", .noat "Search" "made",
  .noat "Search" "manner", .noat "Search" "mark_ends", .noat "Search" "parts", .noat "Search" "question",
  .noat "Search" "reader", .noat "Search" "run_starts", .noat "Search" "waiting", .noat "Search" "ways",
  .noat "Search" "ways_back", .meth "Search" "put", .meth "Search" "put_longer_run", .meth "Search" "go_on_behind_run",
  .meth "Search" "go_on_behind_mark", .meth "Search" "next_row", .meth "Search" "wrong_name", .meth "Search" "next_fault",
  .meth "Search" "tags_to", .meth "Search" "__init__"]
def fns : List He.DefD := [⟨("_law_taken", none), "_law_taken", "_law_taken", defArgs (top 88), defBody (top 88), defScope (top 88), [], []⟩,
  ⟨("is_number", none), "is_number", "is_number", defArgs (top 15), defBody (top 15), defScope (top 15), [], []⟩,
  ⟨("is_tuple_of", none), "is_tuple_of", "is_tuple_of", defArgs (top 16), defBody (top 16), defScope (top 16), [], []⟩,
  ⟨("are_numbers", none), "are_numbers", "are_numbers", defArgs (top 17), defBody (top 17), defScope (top 17), [], []⟩,
  ⟨("are_steps", none), "are_steps", "are_steps", defArgs (top 18), defBody (top 18), defScope (top 18), [], []⟩,
  ⟨("check_question", none), "check_question", "check_question", defArgs (top 19), defBody (top 19), defScope (top 19), [], []⟩,
  ⟨("names_of", none), "names_of", "names_of", defArgs (top 20), defBody (top 20), defScope (top 20), [], []⟩,
  ⟨("is_path", none), "is_path", "is_path", defArgs (top 21), defBody (top 21), defScope (top 21), [], []⟩,
  ⟨("check_path", none), "check_path", "check_path", defArgs (top 22), defBody (top 22), defScope (top 22), [], []⟩,
  ⟨("state_behind", none), "state_behind", "state_behind", defArgs (top 23), defBody (top 23), defScope (top 23), [], []⟩,
  ⟨("answer_behind", none), "answer_behind", "answer_behind", defArgs (top 24), defBody (top 24), defScope (top 24), [], []⟩,
  ⟨("numbered", none), "numbered", "numbered", defArgs (top 25), defBody (top 25), defScope (top 25), [], []⟩,
  ⟨("lots_behind", none), "lots_behind", "lots_behind", defArgs (top 26), defBody (top 26), defScope (top 26), [], []⟩,
  ⟨("alike_lots", none), "alike_lots", "alike_lots", defArgs (top 27), defBody (top 27), defScope (top 27), [], []⟩,
  ⟨("least_from", none), "least_from", "least_from", defArgs (top 28), defBody (top 28), defScope (top 28), [], []⟩,
  ⟨("least_question", none), "least_question", "least_question", defArgs (top 29), defBody (top 29), defScope (top 29), [], []⟩,
  ⟨("lots_of_least", none), "lots_of_least", "lots_of_least", defArgs (top 30), defBody (top 30), defScope (top 30), [], []⟩,
  ⟨("check_row", none), "check_row", "check_row", defArgs (top 33), defBody (top 33), defScope (top 33), [], []⟩,
  ⟨("answers_due", none), "answers_due", "answers_due", defArgs (top 34), defBody (top 34), defScope (top 34), [], []⟩,
  ⟨("check_manner", none), "check_manner", "check_manner", defArgs (top 38), defBody (top 38), defScope (top 38), [], []⟩,
  ⟨("is_pair", none), "is_pair", "is_pair", defArgs (top 39), defBody (top 39), defScope (top 39), [], []⟩,
  ⟨("are_pairs", none), "are_pairs", "are_pairs", defArgs (top 40), defBody (top 40), defScope (top 40), [], []⟩,
  ⟨("are_opens", none), "are_opens", "are_opens", defArgs (top 41), defBody (top 41), defScope (top 41), [], []⟩,
  ⟨("are_closes", none), "are_closes", "are_closes", defArgs (top 42), defBody (top 42), defScope (top 42), [], []⟩,
  ⟨("ways_to_close", none), "ways_to_close", "ways_to_close", defArgs (top 43), defBody (top 43), defScope (top 43), [], []⟩,
  ⟨("wrong_part", none), "wrong_part", "wrong_part", defArgs (top 44), defBody (top 44), defScope (top 44), [.int 6], []⟩,
  ⟨("check_reader", none), "check_reader", "check_reader", defArgs (top 45), defBody (top 45), defScope (top 45), [.int 6], []⟩,
  ⟨("check_reading", none), "check_reading", "check_reading", defArgs (top 46), defBody (top 46), defScope (top 46), [.int 6], []⟩,
  ⟨("behind_closing", none), "behind_closing", "behind_closing", defArgs (top 47), defBody (top 47), defScope (top 47), [], []⟩,
  ⟨("ways_to_go_on", none), "ways_to_go_on", "ways_to_go_on", defArgs (top 52), defBody (top 52), defScope (top 52), [], []⟩,
  ⟨("ways_to_come", none), "ways_to_come", "ways_to_come", defArgs (top 53), defBody (top 53), defScope (top 53), [], []⟩,
  ⟨("moves_of", none), "moves_of", "moves_of", defArgs (top 58), defBody (top 58), defScope (top 58), [], []⟩,
  ⟨("one_move_back", none), "one_move_back", "one_move_back", defArgs (top 59), defBody (top 59), defScope (top 59), [], []⟩,
  ⟨("words_to", none), "words_to", "words_to", defArgs (top 60), defBody (top 60), defScope (top 60), [], []⟩,
  ⟨("meeting_words", none), "meeting_words", "meeting_words", defArgs (top 61), defBody (top 61), defScope (top 61), [], []⟩,
  ⟨("clashes", none), "clashes", "clashes", defArgs (top 62), defBody (top 62), defScope (top 62), [], []⟩,
  ⟨("is_readable", none), "is_readable", "is_readable", defArgs (top 63), defBody (top 63), defScope (top 63), [], []⟩,
  ⟨("checked_least", none), "checked_least", "checked_least", defArgs (top 64), defBody (top 64), defScope (top 64), [], []⟩,
  ⟨("can_read", none), "can_read", "can_read", defArgs (top 65), defBody (top 65), defScope (top 65), [], []⟩,
  ⟨("are_paths", none), "are_paths", "are_paths", defArgs (top 66), defBody (top 66), defScope (top 66), [], []⟩,
  ⟨("are_words", none), "are_words", "are_words", defArgs (top 67), defBody (top 67), defScope (top 67), [], []⟩,
  ⟨("quiet_from", none), "quiet_from", "quiet_from", defArgs (top 70), defBody (top 70), defScope (top 70), [], []⟩,
  ⟨("rings", none), "rings", "rings", defArgs (top 71), defBody (top 71), defScope (top 71), [], []⟩,
  ⟨("first_ring", none), "first_ring", "first_ring", defArgs (top 72), defBody (top 72), defScope (top 72), [], []⟩,
  ⟨("confusions", none), "confusions", "confusions", defArgs (top 73), defBody (top 73), defScope (top 73), [], []⟩,
  ⟨("is_ringable", none), "is_ringable", "is_ringable", defArgs (top 74), defBody (top 74), defScope (top 74), [], []⟩,
  ⟨("checked_quiet", none), "checked_quiet", "checked_quiet", defArgs (top 75), defBody (top 75), defScope (top 75), [], []⟩,
  ⟨("can_ring", none), "can_ring", "can_ring", defArgs (top 76), defBody (top 76), defScope (top 76), [], []⟩,
  ⟨("is_ring_paper", none), "is_ring_paper", "is_ring_paper", defArgs (top 77), defBody (top 77), defScope (top 77), [], []⟩,
  ⟨("shows_ring_paper", none), "shows_ring_paper", "shows_ring_paper", defArgs (top 78), defBody (top 78), defScope (top 78), [], []⟩,
  ⟨("ring_rows", none), "ring_rows", "ring_rows", defArgs (top 79), defBody (top 79), defScope (top 79), [], []⟩,
  ⟨("checked_rung", none), "checked_rung", "checked_rung", defArgs (top 85), defBody (top 85), defScope (top 85), [], []⟩,
  ⟨("Search", some "put"), "put", "Search.put", defArgs (inClass (top 54) 1), defBody (inClass (top 54) 1), defScope (inClass (top 54) 1), [], []⟩,
  ⟨("Search", some "put_longer_run"), "put_longer_run", "Search.put_longer_run", defArgs (inClass (top 54) 2), defBody (inClass (top 54) 2), defScope (inClass (top 54) 2), [], []⟩,
  ⟨("Search", some "go_on_behind_run"), "go_on_behind_run", "Search.go_on_behind_run", defArgs (inClass (top 54) 3), defBody (inClass (top 54) 3), defScope (inClass (top 54) 3), [], []⟩,
  ⟨("Search", some "go_on_behind_mark"), "go_on_behind_mark", "Search.go_on_behind_mark", defArgs (inClass (top 54) 4), defBody (inClass (top 54) 4), defScope (inClass (top 54) 4), [], []⟩,
  ⟨("Search", some "next_row"), "next_row", "Search.next_row", defArgs (inClass (top 54) 5), defBody (inClass (top 54) 5), defScope (inClass (top 54) 5), [], []⟩,
  ⟨("Search", some "wrong_name"), "wrong_name", "Search.wrong_name", defArgs (inClass (top 54) 6), defBody (inClass (top 54) 6), defScope (inClass (top 54) 6), [], []⟩,
  ⟨("Search", some "next_fault"), "next_fault", "Search.next_fault", defArgs (inClass (top 54) 7), defBody (inClass (top 54) 7), defScope (inClass (top 54) 7), [], []⟩,
  ⟨("Search", some "tags_to"), "tags_to", "Search.tags_to", defArgs (inClass (top 54) 8), defBody (inClass (top 54) 8), defScope (inClass (top 54) 8), [], []⟩,
  ⟨("Search", some "__init__"), "__init__", "Search.__init__", defArgs (inClass (top 54) 0), defBody (inClass (top 54) 0), defScope (inClass (top 54) 0), [], []⟩,
  ⟨("errs_nowhere", none), "errs_nowhere", "errs_nowhere", defArgs (top 55), defBody (top 55), defScope (top 55), [.bl false], []⟩,
  ⟨("short_fault", none), "short_fault", "short_fault", defArgs (top 56), defBody (top 56), defScope (top 56), [.bl false], []⟩,
  ⟨("rings_right", none), "rings_right", "rings_right", defArgs (top 83), defBody (top 83), defScope (top 83), [], []⟩,
  ⟨("ring_fault", none), "ring_fault", "ring_fault", defArgs (top 84), defBody (top 84), defScope (top 84), [], []⟩,
  ⟨("shows_ringer", none), "shows_ringer", "shows_ringer", defArgs (top 86), defBody (top 86), defScope (top 86), [], []⟩,
  ⟨("law", none), "law", "law", defArgs (top 89), defBody (top 89), defScope (top 89), [], []⟩]
def prs : List PrD := []
def tfs : List He.Defn := [("law", none), ("are_numbers", none), ("are_steps", none), ("are_pairs", none),
  ("are_opens", none), ("are_closes", none), ("are_paths", none)]
def tabP (K : PySem.W.Frag) (p : He.Defn) : Addr := (He.cT K p).2

def extB (K : PySem.W.Frag) : Bool := Mk.bltC K "heappop" "_heapq.heappop" && (Mk.bltC K "heappush" "_heapq.heappush" && (Mk.tupC K "BEGINNING" [-1, -1] && (true)))
def exL (K : PySem.W.Frag) : Bool := exE K && ((tfs.tail.all fun p => decide (tabP K ("law", none) ≠ tabP K p)) && extB K)
def HDl : HD := ⟨fas, fns, prs, tfs, exL, [2,3,6,4,52,72,91,103,115,134,146,158,177,186,193,200,207,214,221,228,235,242,249,254,259,264,269,276,283,290,297,304,311,318,325,332,339,347,355,363,370,371,376,381,452,464,472,477,484,489,494,499,506,513,520,527,534,539,546,553,560,567,574,581,588,595,602,609,616,623,630,637,642,0,51,71,90,102,114,133,145,157,176,185,192,199,206,213,220,227,234,241,248,253,258,263,268,275,282,289,296,303,310,317,324,331,338,346,340,354,348,362,356,369,375,380,451,463,457,471,465,476,483,488,493,498,505,512,519,526,533,538,545,552,559,566,573,580,587,594,601,608,615,622,629,636,641,50,53,69,70,88,89,101,113,131,132,144,156,174,175,180,181,182,183,184,187,188,189,190,191,194,195,196,197,198,201,202,203,204,205,208,209,210,211,212,215,216,217,218,219,222,223,224,225,226,229,230,231,232,233,236,237,238,239,240,243,244,245,246,247,250,251,252,255,256,257,260,261,262,265,266,267,270,271,272,273,274,277,278,279,280,281,284,285,286,287,288,291,292,293,294,295,298,299,300,301,302,305,306,307,308,309,312,313,314,315,316,319,320,321,322,323,326,327,328,329,330,333,334,335,336,337,341,342,343,344,345,349,350,351,352,353,357,358,359,360,361,364,365,366,367,368,372,373,374,377,378,379,393,400,407,414,421,428,435,442,449,450,453,454,458,459,460,461,462,466,467,468,469,470,473,474,475,478,479,480,481,482,485,486,487,490,491,492,495,496,497,500,501,502,503,504,507,508,509,510,511,514,515,516,517,518,521,522,523,524,525,528,529,530,531,532,535,536,537,540,541,542,543,544,547,548,549,550,551,554,555,556,557,558,561,562,563,564,565,568,569,570,571,572,575,576,577,578,579,582,583,584,585,586,589,590,591,592,593,596,597,598,599,600,603,604,605,606,607,610,611,612,613,614,617,618,619,620,621,624,625,626,627,628,631,632,633,634,635,638,639,640,68,87,130,173,392,399,406,413,420,427,434,441,448,63,64,65,66,67,82,83,84,85,86,125,126,127,128,129,168,169,170,171,172,389,390,391,394,395,396,397,398,401,402,403,404,405,408,409,410,411,412,415,416,417,418,419,422,423,424,425,426,429,430,431,432,433,436,437,438,439,440,443,444,445,446,447], []⟩
def gsT (K : PySem.W.Frag) : List Addr := tfs.tail.map (tabP K)
abbrev GL (w : World) (K : PySem.W.Frag) : Gx := GG w K (gsT K) (tabP K ("law", none)) (cL K)
end Mx

/-! ### MqFR -/
set_option Elab.async false
set_option linter.all false
set_option maxRecDepth 100000
set_option maxHeartbeats 0
namespace Mx
open PySem PySem.Spec PyProof.Rows L2
abbrev RR : PySem.W.OpenRow := PySem.W.OpenLaw.row PySem.Challenge.rw_markspass_k16_known_rings
def looseN : List Str := (["MarkError", "BadQuestion", "BadReader", "BadManner", "BadPath", "BadRow", "BadNumber", "BadTrap", "TooMany", "MOST_STATES", "MOST_NAMES", "MOST_LENGTH", "is_number", "is_tuple_of", "are_numbers", "are_steps", "check_question", "names_of", "is_path", "check_path"] : List Str) ++ (["state_behind", "answer_behind", "numbered", "lots_behind", "alike_lots", "least_from", "least_question", "lots_of_least", "CLOSING", "check_row", "answers_due", "NAMED", "BLIND", "check_manner", "is_pair", "are_pairs", "are_opens", "are_closes", "ways_to_close", "wrong_part"] : List Str) ++ (["check_reader", "check_reading", "behind_closing", "RUN", "MARK", "BEGINNING", "ways_to_go_on", "ways_to_come", "Search", "errs_nowhere", "short_fault", "moves_of", "one_move_back", "words_to", "meeting_words", "clashes", "is_readable", "checked_least", "can_read", "are_paths"] : List Str) ++ (["are_words", "TIMES", "quiet_from", "rings", "first_ring", "confusions", "is_ringable", "checked_quiet", "can_ring", "is_ring_paper", "shows_ring_paper", "ring_rows", "MOST_RINGER_STATES", "MOST_RUNG_STATES", "rings_right", "ring_fault", "checked_rung", "shows_ringer", "_law_taken"] : List Str)
section
open PySem.W PySem.Calls HandSHeadRun
theorem r1 (w : World) : ((wholeF (fun p => stepQ (denQ tabQ) p (w)) fenceQ 40000 RR.prog).map fun x => (looksF RR.prog x.1.heap x.2.abs, seenQ (view RR.prog [0, 89]) looseN (importedModules RR.prog.main.body) (fun s => xlAt (view RR.prog [0, 89]) [] s && recOk RR.toRowW.records s) x.2.abs)) = some (true, openGood (view RR.prog [0, 89]) looseN) := by kernel_rfl
theorem r2 (w : World) : ((wholeF (fun p => stepQ (denQ tabQ) p (w)) fenceQ 40000 RR.prog).map fun x => He.obsD HDl.fas HDl.fns (He.frT (getT x.2) HDl.as_)) = some (He.valD HDl.fns) := by kernel_rfl
theorem r3 (w : World) : ((wholeF (fun p => stepQ (denQ tabQ) p (w)) fenceQ 40000 RR.prog).map fun x => (HDl.exA (He.frT (getT x.2) HDl.as_) && He.tabsB (getT x.2) HDl.tfs (He.frT (getT x.2) HDl.as_), HDl.prs.map (prW (He.frT (getT x.2) HDl.as_)), HDl.dcs.map fun p => Mk.dcO (He.frT (getT x.2) HDl.as_) p.1)) = some (true, HDl.prs.map PrD.val, HDl.dcs.map fun p => Mk.dcV (w) p.2) := by kernel_rfl
theorem run (w : World) : HandSHeadRun.RunEqI RR (PySem.W.view RR.prog [0, 89]) (hkX HDl) (obX HDl) 40000 looseN (w) := by
  have k := obY_parts (D := HDl) (g := fun x : Shared × SharedT => getT x.2) (r1 w) (r2 w) (r3 w)
  exact k
end
end Mx

/-! ### MqG1 -/
set_option Elab.async false
set_option linter.all false
set_option maxRecDepth 100000
set_option maxHeartbeats 4000000
namespace Mx
open PySem PySem.Spec PyProof.Rows L2
open GxR (TabG Tabbed)
section
variable {P : Program} {G : Gx} {T : List Addr} {mg : Str → Option Value} {base : Heap}
theorem sc_is_number : FnScope ["value", "least", "most"] ["value", "least", "most"] (defScope (top 15)) := ⟨rfl, rfl, rfl, by decide +kernel, rfl, by decide +kernel, by decide +kernel⟩
theorem ok_is_number (Z : Fx P G.w G T mg base) {f : Addr} {fd : FuncData} (Fd : Fun G.K "is_number" "is_number" (top 15) f fd) :
    FnOk P G.w G.K mg base (L2.CX P G.w) 1 f fd ["value", "least", "most"] (spX G 3 f_is_number) := by
  refine okXC Fd sc_is_number (fun vs H Q E h => h.1) (fun Ar outer s H vs Q E hr h => ?_)
  refine ⟨_, (pss_one (ps_ret (pe_and (pe_callB (call_isiK' (K := G.K) rfl) (by rfl) Z.z_isinstance boot_isi (pa_cons (pv 0) (pa_cons (pe_bltn (v := .ty "int") (by rfl) Z.z_int boot_int' rfl) pa_nil))) (pe_and (pe_not (pe_callB (call_isiK' (K := G.K) rfl) (by rfl) Z.z_isinstance boot_isi (pa_cons (pv 0) (pa_cons (pe_bltn (v := .ty "bool") (by rfl) Z.z_bool boot_bool' rfl) pa_nil)))) (pe_one (pe_chain op_le op_le (pv 1) (pv 0) (pv 2))))))), ?_⟩
  exact fn_of_ex (n := 3) (pad := 0) rfl ((exs_ret (ex_andV (ex_cb ok_isi (exa_cons ex_var (exa_cons ex_ty exa_nil))) (ex_andV (ex_notV (ex_cb ok_isi (exa_cons ex_var (exa_cons ex_ty exa_nil)))) (ex_chain ok_le ok_le ex_var ex_var ex_var))))) h
theorem sc_check_path : FnScope ["names", "value"] ["names", "value"] (defScope (top 22)) := ⟨rfl, rfl, rfl, by decide +kernel, rfl, by decide +kernel, by decide +kernel⟩
theorem ok_check_path (Z : Fx P G.w G T mg base) {f : Addr} {fd : FuncData} (Fd : Fun G.K "check_path" "check_path" (top 22) f fd)
    {a_is_path : Addr} {fd_is_path : FuncData} (D_is_path : DefX P G.w G mg base 4 "is_path" a_is_path fd_is_path ["names", "value", "least", "most"] [] 4 f_is_path) :
    FnOk P G.w G.K mg base (L2.CX P G.w) 5 f fd ["names", "value"] (spX G 2 f_check_path) := by
  obtain ⟨t_MOST_LENGTH, g_MOST_LENGTH⟩ := Z.i_MOST_LENGTH
  refine okXC Fd sc_check_path (fun vs H Q E h => h.1) (fun Ar outer s H vs Q E hr h => ?_)
  refine ⟨_, (pss_one (ps_if (pt_not (pt_val (pe_call D_is_path.ok (hr.mono (by decide)) (by rfl) D_is_path.g D_is_path.kp D_is_path.b .nil (passes_call (takes_of rfl rfl rfl rfl) fun _ _ _ _ h => h) (pa_cons (pv 0) (pa_cons (pv 1) (pa_cons pe_int (pa_cons (pe_glob (v := .int (2000)) (by rfl) g_MOST_LENGTH ⟨_, rfl⟩) pa_nil))))))) (pss_one Mk.ps_fail) pss_nil)), ?_⟩
  exact fn_of_ex (n := 2) (pad := 0) rfl ((exs_if (ext_not (ext_B (ex_callP (fun _ _ => imL_nil) (exa_cons ex_var (exa_cons ex_var (exa_cons ex_int (exa_cons ex_int exa_nil))))))) exs_fail exs_next)) h
theorem sc_least_question : FnScope ["question"] ["question"] (defScope (top 29)) := ⟨rfl, rfl, rfl, by decide +kernel, rfl, by decide +kernel, by decide +kernel⟩
theorem ok_least_question (Z : Fx P G.w G T mg base) {f : Addr} {fd : FuncData} (Fd : Fun G.K "least_question" "least_question" (top 29) f fd)
    {a_check_question : Addr} {fd_check_question : FuncData} (D_check_question : DefX P G.w G mg base 6 "check_question" a_check_question fd_check_question ["value"] [] 1 f_check_question)
    {a_least_from : Addr} {fd_least_from : FuncData} (D_least_from : DefX P G.w G mg base 3 "least_from" a_least_from fd_least_from ["question", "start"] [] 2 f_least_from) :
    FnOk P G.w G.K mg base (L2.CX P G.w) 7 f fd ["question"] (spX G 1 f_least_question) := by
  refine okXC Fd sc_least_question (fun vs H Q E h => h.1) (fun Ar outer s H vs Q E hr h => ?_)
  refine ⟨_, (pss_cons (ps_expr (pe_call D_check_question.ok (hr.mono (by decide)) (by rfl) D_check_question.g D_check_question.kp D_check_question.b .nil (passes_call (takes_of rfl rfl rfl rfl) fun _ _ _ _ h => h) (pa_cons (pv 0) pa_nil)))
    (pss_one (ps_ret (pe_call D_least_from.ok (hr.mono (by decide)) (by rfl) D_least_from.g D_least_from.kp D_least_from.b .nil (passes_call (takes_of rfl rfl rfl rfl) fun _ _ _ _ h => h) (pa_cons (pv 0) (pa_cons pe_int pa_nil)))))), ?_⟩
  exact fn_of_ex (n := 1) (pad := 0) rfl ((exs_seq (exs_drop (ex_callP (fun _ _ => imL_nil) (exa_cons ex_var exa_nil)))
    (exs_ret (ex_callP (fun _ _ => imL_nil) (exa_cons ex_var (exa_cons ex_int exa_nil)))))) h
theorem sc_are_opens : FnScope ["value", "names", "most", "last", "pairs"] ["value", "names", "most"] (defScope (top 41)) := ⟨rfl, rfl, rfl, by decide +kernel, rfl, by decide +kernel, by decide +kernel⟩
theorem ok_are_opens (Z : Fx P G.w G T mg base) {f : Addr} {fd : FuncData} (Fd : Fun G.K "are_opens" "are_opens" (top 41) f fd)
    {a_is_tuple_of : Addr} {fd_is_tuple_of : FuncData} (D_is_tuple_of : DefX P G.w G mg base 1 "is_tuple_of" a_is_tuple_of fd_is_tuple_of ["value", "least", "most"] [] 3 f_is_tuple_of)
    {a_are_pairs : Addr} {fd_are_pairs : FuncData} (D_are_pairs : DefX P G.w G mg base 4 "are_pairs" a_are_pairs fd_are_pairs ["value", "names", "last"] [] 3 f_are_pairs)
    {c T0 : Addr} (hT : T0 ∈ T) (O : OwnX mg base fd c T0) :
    FnOk P G.w G.K mg base (L2.CX P G.w) 6 f fd ["value", "names", "most"] (spX G 3 f_are_opens) := by
  refine okXC Fd sc_are_opens (fun vs H Q E h => h.1) (fun Ar outer s H vs Q E hr h => ?_)
  refine ⟨_, (pss_cons (ps_if (pt_not (pt_val (pe_call D_is_tuple_of.ok (hr.mono (by decide)) (by rfl) D_is_tuple_of.g D_is_tuple_of.kp D_is_tuple_of.b .nil (passes_call (takes_of rfl rfl rfl rfl) fun _ _ _ _ h => h) (pa_cons (pv 0) (pa_cons pe_int (pa_cons (pv 2) pa_nil)))))) (pss_one Mk.ps_fail) pss_nil)
    (pss_cons (ps_set (i := 3) sc_are_opens.nd rfl (by first | exact Or.inl rfl | exact Or.inr rfl) (pe_op op_sub (pe_callB (call_lenK (K := G.K) rfl) (by rfl) Z.z_len boot_len (pa_cons (pv 0) pa_nil)) pe_int))
    (pss_one (ps_ret (Mk.pe_all (own := [("pairs", 4)]) hr (by rfl) Z.z_all O.tb O.code (gOk_by (N := ["value", "names", "most", "last", "pairs"]) (sc := defScope (top 41)) (by decide +kernel)) sc_are_opens.nd (pi_tupK (K := G.K) rfl (pv 0)) (fun _ _ _ _ _ _ _ => (pg_name (i := 4) sc_are_opens.nd rfl (by first | exact Or.inl rfl | exact Or.inr rfl))) (fun _ _ _ _ _ _ _ => (pe_call D_are_pairs.ok (Room.mono (room_gen hr) (by decide)) (by rfl) D_are_pairs.g D_are_pairs.kp D_are_pairs.b .nil passF (pa_cons (pv 4) (pa_cons (pv 1) (pa_cons (pv 3) pa_nil)))))))))), ?_⟩
  exact fn_of_ex (n := 3) (pad := 2) rfl ((exs_seq (exs_if (ext_not (ext_B (ex_callP (fun _ _ => imL_nil) (exa_cons ex_var (exa_cons ex_int (exa_cons ex_var exa_nil)))))) exs_fail exs_next)
    (exs_seq (exs_asg (ex_2 ok_sub (ex_cb ok_len (exa_cons ex_var exa_nil)) ex_int) exg_name)
    (exs_ret (ex_all Z.M hT (exi_tup ex_var) (exw_name (by decide)) (ex_callP (fun _ _ => imL_nil) (exa_cons ex_var (exa_cons ex_var (exa_cons ex_var exa_nil))))))))) h
theorem sc_ways_to_go_on : FnScope ["question", "reader", "silent", "steps", "answers", "ways", "within", "nexts", "state", "pairs", "name", "inner"] ["question", "reader", "silent"] (defScope (top 52)) := ⟨rfl, rfl, rfl, by decide +kernel, rfl, by decide +kernel, by decide +kernel⟩
theorem ok_ways_to_go_on (Z : Fx P G.w G T mg base) {f : Addr} {fd : FuncData} (Fd : Fun G.K "ways_to_go_on" "ways_to_go_on" (top 52) f fd) :
    FnOk P G.w G.K mg base (L2.CX P G.w) 1 f fd ["question", "reader", "silent"] (spX G 3 f_ways_to_go_on) := by
  refine okXC Fd sc_ways_to_go_on (fun vs H Q E h => h.1) (fun Ar outer s H vs Q E hr h => ?_)
  refine ⟨_, (pss_cons (ps_asg (pv 0) (pg_tupK (K := G.K) (n := 2) rfl rfl (pgs_cons (pg_name (i := 3) sc_ways_to_go_on.nd rfl (by first | exact Or.inl rfl | exact Or.inr rfl)) (pgs_cons (pg_name (i := 4) sc_ways_to_go_on.nd rfl (by first | exact Or.inl rfl | exact Or.inr rfl)) pgs_nil))))
    (pss_cons (ps_set (i := 5) sc_ways_to_go_on.nd rfl (by first | exact Or.inl rfl | exact Or.inr rfl) pe_dnewK)
    (pss_cons (ps_for (passes_of rfl) rfl (pi_enTK (K := G.K) rfl (by rfl) Z.z_enumerate (pa_cons (pv 3) pa_nil)) (pg_tupK (K := G.K) (n := 2) rfl rfl (pgs_cons (pg_name (i := 6) sc_ways_to_go_on.nd rfl (by first | exact Or.inl rfl | exact Or.inr rfl)) (pgs_cons (pg_name (i := 7) sc_ways_to_go_on.nd rfl (by first | exact Or.inl rfl | exact Or.inr rfl)) pgs_nil)))
    (pss_one (ps_for (passes_of rfl) rfl (pi_enTK (K := G.K) rfl (by rfl) Z.z_enumerate (pa_cons (pe_ix (ix_K (K := G.K) rfl) (pv 1) pe_int (fun _ _ => rfl)) pa_nil)) (pg_tupK (K := G.K) (n := 2) rfl rfl (pgs_cons (pg_name (i := 8) sc_ways_to_go_on.nd rfl (by first | exact Or.inl rfl | exact Or.inr rfl)) (pgs_cons (pg_name (i := 9) sc_ways_to_go_on.nd rfl (by first | exact Or.inl rfl | exact Or.inr rfl)) pgs_nil)))
    (pss_one (ps_asg (pe_lc (own := [("name", 10), ("inner", 11)]) rfl sc_ways_to_go_on.nd (pi_enTK (K := G.K) rfl (by rfl) Z.z_enumerate (pa_cons (pv 7) pa_nil)) (blkOk_by (N := ["question", "reader", "silent", "steps", "answers", "ways", "within", "nexts", "state", "pairs", "name", "inner"]) (sc := defScope (top 52)) (by decide +kernel)) (fun _ _ _ _ _ => (pg_tupK (K := G.K) (n := 2) rfl rfl (pgs_cons (pg_name (i := 10) sc_ways_to_go_on.nd rfl (by first | exact Or.inl rfl | exact Or.inr rfl)) (pgs_cons (pg_name (i := 11) sc_ways_to_go_on.nd rfl (by first | exact Or.inl rfl | exact Or.inr rfl)) pgs_nil)))) (fun _ _ _ _ _ => pts_one (PW.pt (pw_or (pt_not (pt_val (pv 2))) (pw_or1 (PW.pt (pw_and (pt_cmpR (op_eqK (K := G.K) rfl (hu64 hr)) (pe_ix (ix_K (K := G.K) rfl) (pv 4) (pv 11) (fun _ _ => rfl)) pe_int (nomark _)) (pw_and1 (pt_cmpR (op_eqK (K := G.K) rfl (hu64 hr)) (pe_ix (ix_K (K := G.K) rfl) (pe_ix (ix_K (K := G.K) rfl) (pv 9) (pv 10) (fun _ _ => rfl)) pe_int (fun _ _ => rfl)) pe_int (nomark _))))))))) (fun _ _ _ _ _ => (pe_tup (pa_cons (pv 10) (pa_cons (pe_tup (pa_cons (pv 11) (pa_cons (pe_ix (ix_K (K := G.K) rfl) (pe_ix (ix_K (K := G.K) rfl) (pv 9) (pv 10) (fun _ _ => rfl)) pe_int (fun _ _ => rfl)) pa_nil))) pa_nil))))) (pg_sub (pv 5) (pe_tup (pa_cons (pv 6) (pa_cons (pv 8) pa_nil))) (Mk.set_XK (K := G.K) (w := G.w) rfl (hu64 hr))))))))
    (pss_one (ps_ret (pv 5)))))), ?_⟩
  exact fn_of_ex (n := 3) (pad := 9) rfl ((exs_seq (exs_asg ex_var (exg_tup (exgs_cons exg_name (exgs_cons exg_name exgs_nil))))
    (exs_seq (exs_asg (ex_dct0 Z.M) exg_name)
    (exs_seq (exs_for (exi_enT Z.M (exa_cons ex_var exa_nil)) (exg_tup (exgs_cons exg_name (exgs_cons exg_name exgs_nil)))
    (exs_for (exi_enT Z.M (exa_cons (ex_2 ok_ix ex_var ex_int) exa_nil)) (exg_tup (exgs_cons exg_name (exgs_cons exg_name exgs_nil)))
    (exs_asg (ex_lc Z.M (exi_enT Z.M (exa_cons ex_var exa_nil)) (exw_tup (exws_cons (exw_name (by decide)) (exws_cons (exw_name (by decide)) exws_nil))) (ext_or (ext_not (ext_B ex_var)) (ext_and (ext_test (ex_2 ok_eq (ex_2 ok_ix ex_var ex_var) ex_int)) (ext_test (ex_2 ok_eq (ex_2 ok_ix (ex_2 ok_ix ex_var ex_var) ex_int) ex_int)))) (ex_tup Z.M (exa_cons ex_var (exa_cons (ex_tup Z.M (exa_cons ex_var (exa_cons (ex_2 ok_ix (ex_2 ok_ix ex_var ex_var) ex_int) exa_nil))) exa_nil)))) (exg_subD Z.M ex_var (ex_tup Z.M (exa_cons ex_var (exa_cons ex_var exa_nil)))))))
    (exs_ret ex_var))))) h
theorem sc_is_readable : FnScope ["least", "manner"] ["least", "manner"] (defScope (top 63)) := ⟨rfl, rfl, rfl, by decide +kernel, rfl, by decide +kernel, by decide +kernel⟩
theorem ok_is_readable (Z : Fx P G.w G T mg base) {f : Addr} {fd : FuncData} (Fd : Fun G.K "is_readable" "is_readable" (top 63) f fd)
    {a_clashes : Addr} {fd_clashes : FuncData} (D_clashes : DefX P G.w G mg base 4 "clashes" a_clashes fd_clashes ["least", "manner"] [] 2 f_clashes) :
    FnOk P G.w G.K mg base (L2.CX P G.w) 5 f fd ["least", "manner"] (spX G 2 f_is_readable) := by
  refine okXC Fd sc_is_readable (fun vs H Q E h => h.1) (fun Ar outer s H vs Q E hr h => ?_)
  refine ⟨_, (pss_one (ps_ret (pe_cmpR (op_eqK (K := G.K) rfl (hu64 hr)) (pe_callB Mk.call_lenX (by rfl) Z.z_len boot_len (pa_cons (pe_call D_clashes.ok (hr.mono (by decide)) (by rfl) D_clashes.g D_clashes.kp D_clashes.b .nil (passes_call (takes_of rfl rfl rfl rfl) fun _ _ _ _ h => h) (pa_cons (pv 0) (pa_cons (pv 1) pa_nil))) pa_nil)) pe_int (nomark _)))), ?_⟩
  exact fn_of_ex (n := 2) (pad := 0) rfl ((exs_ret (ex_2 ok_eq (ex_cb ok_lenD (exa_cons (ex_call (fun _ _ => imL_nil) (exa_cons ex_var (exa_cons ex_var exa_nil))) exa_nil)) ex_int))) h
theorem sc_first_ring : FnScope ["question", "row", "number", "due"] ["question", "row"] (defScope (top 72)) := ⟨rfl, rfl, rfl, by decide +kernel, rfl, by decide +kernel, by decide +kernel⟩
theorem ok_first_ring (Z : Fx P G.w G T mg base) {f : Addr} {fd : FuncData} (Fd : Fun G.K "first_ring" "first_ring" (top 72) f fd)
    {a_answers_due : Addr} {fd_answers_due : FuncData} (D_answers_due : DefX P G.w G mg base 7 "answers_due" a_answers_due fd_answers_due ["question", "row"] [] 2 f_answers_due) :
    FnOk P G.w G.K mg base (L2.CX P G.w) 8 f fd ["question", "row"] (spX G 2 f_first_ring) := by
  refine okXC Fd sc_first_ring (fun vs H Q E h => h.1) (fun Ar outer s H vs Q E hr h => ?_)
  refine ⟨_, (pss_cons (ps_for (passes_of rfl) rfl (pi_enTK (K := G.K) rfl (by rfl) Z.z_enumerate (pa_cons (pe_call D_answers_due.ok (hr.mono (by decide)) (by rfl) D_answers_due.g D_answers_due.kp D_answers_due.b .nil (passes_call (takes_of rfl rfl rfl rfl) fun _ _ _ _ h => h) (pa_cons (pv 0) (pa_cons (pv 1) pa_nil))) pa_nil)) (pg_tupK (K := G.K) (n := 2) rfl rfl (pgs_cons (pg_name (i := 2) sc_first_ring.nd rfl (by first | exact Or.inl rfl | exact Or.inr rfl)) (pgs_cons (pg_name (i := 3) sc_first_ring.nd rfl (by first | exact Or.inl rfl | exact Or.inr rfl)) pgs_nil)))
    (pss_one (ps_if (pt_cmpR (op_eqK (K := G.K) rfl (hu64 hr)) (pv 3) pe_int (nomark _)) (pss_one (ps_ret (pv 2))) pss_nil)))
    (pss_one (ps_ret pe_non))), ?_⟩
  exact fn_of_ex (n := 2) (pad := 2) rfl ((exs_seq (exs_for (exi_enT Z.M (exa_cons (ex_callP (fun _ _ => imL_nil) (exa_cons ex_var (exa_cons ex_var exa_nil))) exa_nil)) (exg_tup (exgs_cons exg_name (exgs_cons exg_name exgs_nil)))
    (exs_if (ext_test (ex_2 ok_eq ex_var ex_int)) (exs_ret ex_var) exs_next))
    (exs_ret ex_non))) h
theorem sc_ring_rows : FnScope ["question", "manner", "value", "states", "quiet", "way", "word", "other_word", "below", "closings"] ["question", "manner", "value", "states"] (defScope (top 79)) := ⟨rfl, rfl, rfl, by decide +kernel, rfl, by decide +kernel, by decide +kernel⟩
theorem ok_ring_rows (Z : Fx P G.w G T mg base) {f : Addr} {fd : FuncData} (Fd : Fun G.K "ring_rows" "ring_rows" (top 79) f fd)
    {a_checked_quiet : Addr} {fd_checked_quiet : FuncData} (D_checked_quiet : DefX P G.w G mg base 7 "checked_quiet" a_checked_quiet fd_checked_quiet ["question", "manner"] [] 2 f_checked_quiet)
    {a_is_ring_paper : Addr} {fd_is_ring_paper : FuncData} (D_is_ring_paper : DefX P G.w G mg base 7 "is_ring_paper" a_is_ring_paper fd_is_ring_paper ["quiet", "manner", "value"] [] 3 f_is_ring_paper)
    {a_is_number : Addr} {fd_is_number : FuncData} (D_is_number : DefX P G.w G mg base 1 "is_number" a_is_number fd_is_number ["value", "least", "most"] [] 3 f_is_number) :
    FnOk P G.w G.K mg base (L2.CX P G.w) 8 f fd ["question", "manner", "value", "states"] (spX G 4 f_ring_rows) := by
  obtain ⟨t_MOST_STATES, g_MOST_STATES⟩ := Z.i_MOST_STATES
  obtain ⟨t_CLOSING, g_CLOSING⟩ := Z.i_CLOSING
  obtain ⟨t_TIMES, g_TIMES⟩ := Z.i_TIMES
  refine okXC Fd sc_ring_rows (fun vs H Q E h => h.1) (fun Ar outer s H vs Q E hr h => ?_)
  refine ⟨_, (pss_cons (ps_set (i := 4) sc_ring_rows.nd rfl (by first | exact Or.inl rfl | exact Or.inr rfl) (pe_call D_checked_quiet.ok (hr.mono (by decide)) (by rfl) D_checked_quiet.g D_checked_quiet.kp D_checked_quiet.b .nil (passes_call (takes_of rfl rfl rfl rfl) fun _ _ _ _ h => h) (pa_cons (pv 0) (pa_cons (pv 1) pa_nil))))
    (pss_cons (ps_if (pt_not (pt_val (pe_call D_is_ring_paper.ok (hr.mono (by decide)) (by rfl) D_is_ring_paper.g D_is_ring_paper.kp D_is_ring_paper.b .nil (passes_call (takes_of rfl rfl rfl rfl) fun _ _ _ _ h => h) (pa_cons (pv 4) (pa_cons (pv 1) (pa_cons (pv 2) pa_nil)))))) (pss_one Mk.ps_fail) pss_nil)
    (pss_cons (ps_if (pt_not (pt_val (pe_call D_is_number.ok (hr.mono (by decide)) (by rfl) D_is_number.g D_is_number.kp D_is_number.b .nil (passes_call (takes_of rfl rfl rfl rfl) fun _ _ _ _ h => h) (pa_cons (pv 3) (pa_cons pe_int (pa_cons (pe_glob (v := .int (6)) (by rfl) g_MOST_STATES ⟨_, rfl⟩) pa_nil)))))) (pss_one Mk.ps_fail) pss_nil)
    (pss_cons (ps_asg (pv 2) (pg_tupK (K := G.K) (n := 4) rfl rfl (pgs_cons (pg_name (i := 5) sc_ring_rows.nd rfl (by first | exact Or.inl rfl | exact Or.inr rfl)) (pgs_cons (pg_name (i := 6) sc_ring_rows.nd rfl (by first | exact Or.inl rfl | exact Or.inr rfl)) (pgs_cons (pg_name (i := 7) sc_ring_rows.nd rfl (by first | exact Or.inl rfl | exact Or.inr rfl)) (pgs_cons (pg_name (i := 8) sc_ring_rows.nd rfl (by first | exact Or.inl rfl | exact Or.inr rfl)) pgs_nil))))))
    (pss_cons (ps_set (i := 9) sc_ring_rows.nd rfl (by first | exact Or.inl rfl | exact Or.inr rfl) (pe_op (op_repK (K := G.K) rfl) (pe_tup (pa_cons (pe_glob (v := .int (-1)) (by rfl) g_CLOSING ⟨_, rfl⟩) pa_nil)) (pe_op op_mul (pe_op op_add (pv 3) pe_int) (pe_callB (call_lenK (K := G.K) rfl) (by rfl) Z.z_len boot_len (pa_cons (pv 6) pa_nil)))))
    (pss_one (ps_ret (pe_tup (pa_cons (pe_op (op_catK (K := G.K) rfl) (pe_op (op_catK (K := G.K) rfl) (pe_op (op_catK (K := G.K) rfl) (pe_op (op_catK (K := G.K) rfl) (pv 5) (pv 6)) (pe_op (op_repK (K := G.K) rfl) (pv 7) (pv 3))) (pv 9)) (pv 8)) (pa_cons (pe_op (op_catK (K := G.K) rfl) (pe_op (op_catK (K := G.K) rfl) (pe_op (op_catK (K := G.K) rfl) (pe_op (op_catK (K := G.K) rfl) (pv 5) (pv 6)) (pe_op (op_repK (K := G.K) rfl) (pv 7) (pe_op op_add (pv 3) (pe_glob (v := .int (60)) (by rfl) g_TIMES ⟨_, rfl⟩)))) (pv 9)) (pv 8)) pa_nil)))))))))), ?_⟩
  exact fn_of_ex (n := 4) (pad := 6) rfl ((exs_seq (exs_asg (ex_callP (fun _ _ => imL_nil) (exa_cons ex_var (exa_cons ex_var exa_nil))) exg_name)
    (exs_seq (exs_if (ext_not (ext_B (ex_callP (fun _ _ => imL_nil) (exa_cons ex_var (exa_cons ex_var (exa_cons ex_var exa_nil)))))) exs_fail exs_next)
    (exs_seq (exs_if (ext_not (ext_B (ex_callP (fun _ _ => imL_nil) (exa_cons ex_var (exa_cons ex_int (exa_cons ex_int exa_nil)))))) exs_fail exs_next)
    (exs_seq (exs_asg ex_var (exg_tup (exgs_cons exg_name (exgs_cons exg_name (exgs_cons exg_name (exgs_cons exg_name exgs_nil))))))
    (exs_seq (exs_asg (ex_2 (ok_repT Z.M) (ex_tup Z.M (exa_cons ex_int exa_nil)) (ex_2 ok_mul (ex_2 ok_add ex_var ex_int) (ex_cb ok_len (exa_cons ex_var exa_nil)))) exg_name)
    (exs_ret (ex_tup Z.M (exa_cons (ex_2 (ok_catT Z.M) (ex_2 (ok_catT Z.M) (ex_2 (ok_catT Z.M) (ex_2 (ok_catT Z.M) ex_var ex_var) (ex_2 (ok_repT Z.M) ex_var ex_var)) ex_var) ex_var) (exa_cons (ex_2 (ok_catT Z.M) (ex_2 (ok_catT Z.M) (ex_2 (ok_catT Z.M) (ex_2 (ok_catT Z.M) ex_var ex_var) (ex_2 (ok_repT Z.M) ex_var (ex_2 ok_add ex_var ex_int))) ex_var) ex_var) exa_nil)))))))))) h
theorem sc_Search_wrong_name : FnScope ["self", "pair", "steps", "answers", "within", "state", "name", "inner"] ["self", "pair"] (defScope (inClass (top 54) 6)) := ⟨rfl, rfl, rfl, by decide +kernel, rfl, by decide +kernel, by decide +kernel⟩
theorem ok_Search_wrong_name (Z : Fx P G.w G T mg base) {f : Addr} {fd : FuncData} (Fd : Fun G.K "wrong_name" "Search.wrong_name" (inClass (top 54) 6) f fd) :
    FnOk P G.w G.K mg base (L2.CX P G.w) 1 f fd ["self", "pair"] (spX G 2 f_Search_wrong_name) := by
  refine okXC Fd sc_Search_wrong_name (fun vs H Q E h => h.1) (fun Ar outer s H vs Q E hr h => ?_)
  refine ⟨_, (pss_cons (ps_asg (pe_fldK (K := G.K) rfl (pv 0) rfl) (pg_tupK (K := G.K) (n := 2) rfl rfl (pgs_cons (pg_name (i := 2) sc_Search_wrong_name.nd rfl (by first | exact Or.inl rfl | exact Or.inr rfl)) (pgs_cons (pg_name (i := 3) sc_Search_wrong_name.nd rfl (by first | exact Or.inl rfl | exact Or.inr rfl)) pgs_nil))))
    (pss_cons (ps_asg (pv 1) (pg_tupK (K := G.K) (n := 2) rfl rfl (pgs_cons (pg_name (i := 4) sc_Search_wrong_name.nd rfl (by first | exact Or.inl rfl | exact Or.inr rfl)) (pgs_cons (pg_name (i := 5) sc_Search_wrong_name.nd rfl (by first | exact Or.inl rfl | exact Or.inr rfl)) pgs_nil))))
    (pss_cons (ps_for (passes_of rfl) rfl (pi_enTK (K := G.K) rfl (by rfl) Z.z_enumerate (pa_cons (pe_ix (ix_K (K := G.K) rfl) (pv 2) (pv 4) (fun _ _ => rfl)) pa_nil)) (pg_tupK (K := G.K) (n := 2) rfl rfl (pgs_cons (pg_name (i := 6) sc_Search_wrong_name.nd rfl (by first | exact Or.inl rfl | exact Or.inr rfl)) (pgs_cons (pg_name (i := 7) sc_Search_wrong_name.nd rfl (by first | exact Or.inl rfl | exact Or.inr rfl)) pgs_nil)))
    (pss_one (ps_if (pt_cmpR (op_neK (K := G.K) rfl (hu64 hr)) (pe_ix (ix_K (K := G.K) rfl) (pe_ix (ix_K (K := G.K) rfl) (pe_ix (ix_K (K := G.K) rfl) (pe_ix (ix_K (K := G.K) rfl) (pe_fldK (K := G.K) rfl (pv 0) rfl) pe_int (fun _ _ => rfl)) (pv 5) (fun _ _ => rfl)) (pv 6) (fun _ _ => rfl)) pe_int (fun _ _ => rfl)) (pe_ix (ix_K (K := G.K) rfl) (pv 3) (pv 7) (fun _ _ => rfl)) (nomark _)) (pss_one (ps_ret (pv 6))) pss_nil)))
    (pss_one (ps_ret pe_non))))), ?_⟩
  exact fn_of_ex (n := 2) (pad := 6) rfl ((exs_seq (exs_asg (ex_fld Z.cl_Search Z.na_Search_question ex_var) (exg_tup (exgs_cons exg_name (exgs_cons exg_name exgs_nil))))
    (exs_seq (exs_asg ex_var (exg_tup (exgs_cons exg_name (exgs_cons exg_name exgs_nil))))
    (exs_seq (exs_for (exi_enT Z.M (exa_cons (ex_2 ok_ix ex_var ex_var) exa_nil)) (exg_tup (exgs_cons exg_name (exgs_cons exg_name exgs_nil)))
    (exs_if (ext_test (ex_2 ok_ne (ex_2 ok_ix (ex_2 ok_ix (ex_2 ok_ix (ex_2 ok_ix (ex_fld Z.cl_Search Z.na_Search_reader ex_var) ex_int) ex_var) ex_var) ex_int) (ex_2 ok_ix ex_var ex_var))) (exs_ret ex_var) exs_next))
    (exs_ret ex_non))))) h
theorem sc_ring_fault : FnScope ["question", "manner", "reader"] ["question", "manner", "reader"] (defScope (top 84)) := ⟨rfl, rfl, rfl, by decide +kernel, rfl, by decide +kernel, by decide +kernel⟩
theorem ok_ring_fault (Z : Fx P G.w G T mg base) {f : Addr} {fd : FuncData} (Fd : Fun G.K "ring_fault" "ring_fault" (top 84) f fd)
    {a_check_reading : Addr} {fd_check_reading : FuncData} (D_check_reading : DefX P G.w G mg base 9 "check_reading" a_check_reading fd_check_reading ["question", "manner", "reader", "most"] [V.int (6)] 4 f_check_reading)
    {a_short_fault : Addr} {fd_short_fault : FuncData} (D_short_fault : DefX P G.w G mg base 6 "short_fault" a_short_fault fd_short_fault ["question", "manner", "reader", "silent"] [V.bl false] 4 f_short_fault)
    (D_kb_short_fault : KBn G.K fd_short_fault ["question", "manner", "reader", "silent"] 3 ["silent"] (fun us ws => us ++ ws) (fun vs zs => vs ++ zs))
    {a_quiet_from : Addr} {fd_quiet_from : FuncData} (D_quiet_from : DefX P G.w G mg base 4 "quiet_from" a_quiet_from fd_quiet_from ["question"] [] 1 f_quiet_from) :
    FnOk P G.w G.K mg base (L2.CX P G.w) 10 f fd ["question", "manner", "reader"] (spX G 3 f_ring_fault) := by
  obtain ⟨t_MOST_RINGER_STATES, g_MOST_RINGER_STATES⟩ := Z.i_MOST_RINGER_STATES
  refine okXC Fd sc_ring_fault (fun vs H Q E h => h.1) (fun Ar outer s H vs Q E hr h => ?_)
  refine ⟨_, (pss_cons (ps_expr (pe_call D_check_reading.ok (hr.mono (by decide)) (by rfl) D_check_reading.g D_check_reading.kp D_check_reading.b .nil (passes_call (takes_of rfl rfl rfl rfl) fun _ _ _ _ h => h) (pa_cons (pv 0) (pa_cons (pv 1) (pa_cons (pv 2) (pa_cons (pe_glob (v := .int (20)) (by rfl) g_MOST_RINGER_STATES ⟨_, rfl⟩) pa_nil))))))
    (pss_one (ps_ret (pe_callN D_short_fault.ok (hr.mono (by decide)) (by rfl) D_short_fault.g D_short_fault.kp D_kb_short_fault (passes_call (takes_of rfl rfl rfl rfl) fun _ _ _ _ h => h) (pa_cons (pe_call D_quiet_from.ok (hr.mono (by decide)) (by rfl) D_quiet_from.g D_quiet_from.kp D_quiet_from.b .nil (passes_call (takes_of rfl rfl rfl rfl) fun _ _ _ _ h => h) (pa_cons (pv 0) pa_nil)) (pa_cons (pv 1) (pa_cons (pv 2) pa_nil))) (pk_cons pe_bl pk_nil))))), ?_⟩
  exact fn_of_ex (n := 3) (pad := 0) rfl ((exs_seq (exs_drop (ex_callP (fun _ _ => imL_nil) (exa_cons ex_var (exa_cons ex_var (exa_cons ex_var (exa_cons ex_int exa_nil))))))
    (exs_ret (ex_callN (N := 4) (n := 3) (m := 1) rfl (exa_cons (ex_callP (fun _ _ => imL_nil) (exa_cons ex_var exa_nil)) (exa_cons ex_var (exa_cons ex_var exa_nil))) (exa_cons ex_bl exa_nil))))) h
end
end Mx

/-! ### MqG2 -/
set_option Elab.async false
set_option linter.all false
set_option maxRecDepth 100000
set_option maxHeartbeats 4000000
namespace Mx
open PySem PySem.Spec PyProof.Rows L2
open GxR (TabG Tabbed)
section
variable {P : Program} {G : Gx} {T : List Addr} {mg : Str → Option Value} {base : Heap}
theorem sc_is_tuple_of : FnScope ["value", "least", "most"] ["value", "least", "most"] (defScope (top 16)) := ⟨rfl, rfl, rfl, by decide +kernel, rfl, by decide +kernel, by decide +kernel⟩
theorem ok_is_tuple_of (Z : Fx P G.w G T mg base) {f : Addr} {fd : FuncData} (Fd : Fun G.K "is_tuple_of" "is_tuple_of" (top 16) f fd) :
    FnOk P G.w G.K mg base (L2.CX P G.w) 1 f fd ["value", "least", "most"] (spX G 3 f_is_tuple_of) := by
  refine okXC Fd sc_is_tuple_of (fun vs H Q E h => h.1) (fun Ar outer s H vs Q E hr h => ?_)
  refine ⟨_, (pss_one (ps_ret (pe_and (pe_callB (call_isiK' (K := G.K) rfl) (by rfl) Z.z_isinstance boot_isi (pa_cons (pv 0) (pa_cons (pe_bltn (v := .ty "tuple") (by rfl) Z.z_tuple boot_tuple' rfl) pa_nil))) (pe_one (pe_chain op_le op_le (pv 1) (pe_callB (call_lenK (K := G.K) rfl) (by rfl) Z.z_len boot_len (pa_cons (pv 0) pa_nil)) (pv 2)))))), ?_⟩
  exact fn_of_ex (n := 3) (pad := 0) rfl ((exs_ret (ex_andV (ex_cb ok_isi (exa_cons ex_var (exa_cons ex_ty exa_nil))) (ex_chain ok_le ok_le ex_var (ex_cb ok_len (exa_cons ex_var exa_nil)) ex_var)))) h
theorem sc_state_behind : FnScope ["question", "state", "path", "steps", "name"] ["question", "state", "path"] (defScope (top 23)) := ⟨rfl, rfl, rfl, by decide +kernel, rfl, by decide +kernel, by decide +kernel⟩
theorem ok_state_behind (Z : Fx P G.w G T mg base) {f : Addr} {fd : FuncData} (Fd : Fun G.K "state_behind" "state_behind" (top 23) f fd) :
    FnOk P G.w G.K mg base (L2.CX P G.w) 1 f fd ["question", "state", "path"] (spX G 3 f_state_behind) := by
  refine okXC Fd sc_state_behind (fun vs H Q E h => h.1) (fun Ar outer s H vs Q E hr h => ?_)
  refine ⟨_, (pss_cons (ps_set (i := 3) sc_state_behind.nd rfl (by first | exact Or.inl rfl | exact Or.inr rfl) (pe_ix (ix_K (K := G.K) rfl) (pv 0) pe_int (fun _ _ => rfl)))
    (pss_cons (ps_for (passes_of rfl) rfl (pi_tupK (K := G.K) rfl (pv 2)) (pg_name (i := 4) sc_state_behind.nd rfl (by first | exact Or.inl rfl | exact Or.inr rfl))
    (pss_one (ps_set (i := 1) sc_state_behind.nd rfl (by first | exact Or.inl rfl | exact Or.inr rfl) (pe_ix (ix_K (K := G.K) rfl) (pe_ix (ix_K (K := G.K) rfl) (pv 3) (pv 1) (fun _ _ => rfl)) (pv 4) (fun _ _ => rfl)))))
    (pss_one (ps_ret (pv 1))))), ?_⟩
  exact fn_of_ex (n := 3) (pad := 2) rfl ((exs_seq (exs_asg (ex_2 ok_ix ex_var ex_int) exg_name)
    (exs_seq (exs_for (exi_tup ex_var) exg_name
    (exs_asg (ex_2 ok_ix (ex_2 ok_ix ex_var ex_var) ex_var) exg_name))
    (exs_ret ex_var)))) h
theorem sc_lots_of_least : FnScope ["least"] ["least"] (defScope (top 30)) := ⟨rfl, rfl, rfl, by decide +kernel, rfl, by decide +kernel, by decide +kernel⟩
theorem ok_lots_of_least (Z : Fx P G.w G T mg base) {f : Addr} {fd : FuncData} (Fd : Fun G.K "lots_of_least" "lots_of_least" (top 30) f fd)
    {a_numbered : Addr} {fd_numbered : FuncData} (D_numbered : DefX P G.w G mg base 1 "numbered" a_numbered fd_numbered ["keys"] [] 1 f_numbered) :
    FnOk P G.w G.K mg base (L2.CX P G.w) 2 f fd ["least"] (spX G 1 f_lots_of_least) := by
  refine okXC Fd sc_lots_of_least (fun vs H Q E h => h.1) (fun Ar outer s H vs Q E hr h => ?_)
  refine ⟨_, (pss_one (ps_ret (pe_call D_numbered.ok (hr.mono (by decide)) (by rfl) D_numbered.g D_numbered.kp D_numbered.b .nil (passes_call (takes_of rfl rfl rfl rfl) fun _ _ _ _ h => h) (pa_cons (pe_ix (ix_K (K := G.K) rfl) (pv 0) pe_int (fun _ _ => rfl)) pa_nil)))), ?_⟩
  exact fn_of_ex (n := 1) (pad := 0) rfl ((exs_ret (ex_call (fun _ _ => imL_nil) (exa_cons (ex_2 ok_ix ex_var ex_int) exa_nil)))) h
theorem sc_are_closes : FnScope ["value", "states", "ways", "last", "nexts"] ["value", "states", "ways"] (defScope (top 42)) := ⟨rfl, rfl, rfl, by decide +kernel, rfl, by decide +kernel, by decide +kernel⟩
theorem ok_are_closes (Z : Fx P G.w G T mg base) {f : Addr} {fd : FuncData} (Fd : Fun G.K "are_closes" "are_closes" (top 42) f fd)
    {a_is_tuple_of : Addr} {fd_is_tuple_of : FuncData} (D_is_tuple_of : DefX P G.w G mg base 1 "is_tuple_of" a_is_tuple_of fd_is_tuple_of ["value", "least", "most"] [] 3 f_is_tuple_of)
    {a_are_numbers : Addr} {fd_are_numbers : FuncData} (D_are_numbers : DefX P G.w G mg base 3 "are_numbers" a_are_numbers fd_are_numbers ["value", "many", "most"] [] 3 f_are_numbers)
    {c T0 : Addr} (hT : T0 ∈ T) (O : OwnX mg base fd c T0) :
    FnOk P G.w G.K mg base (L2.CX P G.w) 5 f fd ["value", "states", "ways"] (spX G 3 f_are_closes) := by
  refine okXC Fd sc_are_closes (fun vs H Q E h => h.1) (fun Ar outer s H vs Q E hr h => ?_)
  refine ⟨_, (pss_cons (ps_set (i := 3) sc_are_closes.nd rfl (by first | exact Or.inl rfl | exact Or.inr rfl) (pe_op op_sub (pv 1) pe_int))
    (pss_one (ps_ret (pe_and (pe_call D_is_tuple_of.ok (hr.mono (by decide)) (by rfl) D_is_tuple_of.g D_is_tuple_of.kp D_is_tuple_of.b .nil (passes_call (takes_of rfl rfl rfl rfl) fun _ _ _ _ h => h) (pa_cons (pv 0) (pa_cons (pv 1) (pa_cons (pv 1) pa_nil)))) (pe_one (Mk.pe_all (own := [("nexts", 4)]) hr (by rfl) Z.z_all O.tb O.code (gOk_by (N := ["value", "states", "ways", "last", "nexts"]) (sc := defScope (top 42)) (by decide +kernel)) sc_are_closes.nd (pi_tupK (K := G.K) rfl (pv 0)) (fun _ _ _ _ _ _ _ => (pg_name (i := 4) sc_are_closes.nd rfl (by first | exact Or.inl rfl | exact Or.inr rfl))) (fun _ _ _ _ _ _ _ => (pe_call D_are_numbers.ok (Room.mono (room_gen hr) (by decide)) (by rfl) D_are_numbers.g D_are_numbers.kp D_are_numbers.b .nil passF (pa_cons (pv 4) (pa_cons (pv 2) (pa_cons (pv 3) pa_nil))))))))))), ?_⟩
  exact fn_of_ex (n := 3) (pad := 2) rfl ((exs_seq (exs_asg (ex_2 ok_sub ex_var ex_int) exg_name)
    (exs_ret (ex_andV (ex_callP (fun _ _ => imL_nil) (exa_cons ex_var (exa_cons ex_var (exa_cons ex_var exa_nil)))) (ex_all Z.M hT (exi_tup ex_var) (exw_name (by decide)) (ex_callP (fun _ _ => imL_nil) (exa_cons ex_var (exa_cons ex_var (exa_cons ex_var exa_nil))))))))) h
theorem sc_ways_to_come : FnScope ["ways", "back", "outer", "openings", "name", "inner", "pair"] ["ways"] (defScope (top 53)) := ⟨rfl, rfl, rfl, by decide +kernel, rfl, by decide +kernel, by decide +kernel⟩
theorem ok_ways_to_come (Z : Fx P G.w G T mg base) {f : Addr} {fd : FuncData} (Fd : Fun G.K "ways_to_come" "ways_to_come" (top 53) f fd) :
    FnOk P G.w G.K mg base (L2.CX P G.w) 1 f fd ["ways"] (spX G 1 f_ways_to_come) := by
  refine okXC Fd sc_ways_to_come (fun vs H Q E h => h.1) (fun Ar outer s H vs Q E hr h => ?_)
  refine ⟨_, (pss_cons (ps_lock (Mk.ps_setXc (K := G.K) (w := G.w) rfl (i := 1) (own := [("pair", 6)]) (hu64 hr) rfl sc_ways_to_come.nd rfl rfl (Mk.sw_trueD rfl rfl rfl (by decide +kernel)) (Mk.pi_keysX (pv 0)) (blkOk_by (N := ["ways", "back", "outer", "openings", "name", "inner", "pair"]) (sc := defScope (top 53)) (by decide +kernel)) (fun _ _ _ _ _ => (pg_name (i := 6) sc_ways_to_come.nd rfl (by first | exact Or.inl rfl | exact Or.inr rfl))) (fun _ _ _ _ _ => pts_nil) (fun _ _ _ _ _ => (pv 6)) (fun _ _ _ _ _ => (pe_lst pa_nil))))
    (pss_cons (ps_lock (ps_for (passes_of rfl) rfl (Mk.pi_itemsX (pv 0)) (pg_tupK (K := G.K) (n := 2) rfl rfl (pgs_cons (pg_name (i := 2) sc_ways_to_come.nd rfl (by first | exact Or.inl rfl | exact Or.inr rfl)) (pgs_cons (pg_name (i := 3) sc_ways_to_come.nd rfl (by first | exact Or.inl rfl | exact Or.inr rfl)) pgs_nil)))
    (pss_one (ps_for (passes_of rfl) rfl (pi_lstK (K := G.K) rfl (pv 3)) (pg_tupK (K := G.K) (n := 2) rfl rfl (pgs_cons (pg_name (i := 4) sc_ways_to_come.nd rfl (by first | exact Or.inl rfl | exact Or.inr rfl)) (pgs_cons (pg_name (i := 5) sc_ways_to_come.nd rfl (by first | exact Or.inl rfl | exact Or.inr rfl)) pgs_nil)))
    (pss_one (ps_expr (pe_bmK (K := G.K) rfl PySem.F.plainAttrs_list PySem.F.slot_list_append PySem.F.type_list_append mt_append (Mk.pe_xgetK (K := G.K) (w := G.w) rfl (hu64 hr) (pv 1) (pv 5) (fun _ _ => rfl)) (pa_cons (pe_tup (pa_cons (pv 2) (pa_cons (pv 4) pa_nil))) pa_nil))))))))
    (pss_one (ps_ret (pv 1))))), ?_⟩
  exact fn_of_ex (n := 1) (pad := 6) rfl ((exs_seq (exs_lock Z.M (exs_asg (ex_xc Z.M (exi_keys ex_var) (exw_name (by decide)) ext_yes ex_var (ex_lst Z.M exa_nil)) exg_name))
    (exs_seq (exs_lock Z.M (exs_for (exi_items Z.M ex_var) (exg_tup (exgs_cons exg_name (exgs_cons exg_name exgs_nil)))
    (exs_for (exi_lst ex_var) (exg_tup (exgs_cons exg_name (exgs_cons exg_name exgs_nil)))
    (exs_drop (ex_bm (ok_append Z.M) (ex_dget ex_var ex_var) (exa_cons (ex_tup Z.M (exa_cons ex_var (exa_cons ex_var exa_nil))) exa_nil))))))
    (exs_ret ex_var)))) h
theorem sc_checked_least : FnScope ["question", "manner"] ["question", "manner"] (defScope (top 64)) := ⟨rfl, rfl, rfl, by decide +kernel, rfl, by decide +kernel, by decide +kernel⟩
theorem ok_checked_least (Z : Fx P G.w G T mg base) {f : Addr} {fd : FuncData} (Fd : Fun G.K "checked_least" "checked_least" (top 64) f fd)
    {a_check_question : Addr} {fd_check_question : FuncData} (D_check_question : DefX P G.w G mg base 6 "check_question" a_check_question fd_check_question ["value"] [] 1 f_check_question)
    {a_check_manner : Addr} {fd_check_manner : FuncData} (D_check_manner : DefX P G.w G mg base 1 "check_manner" a_check_manner fd_check_manner ["value"] [] 1 f_check_manner)
    {a_least_question : Addr} {fd_least_question : FuncData} (D_least_question : DefX P G.w G mg base 7 "least_question" a_least_question fd_least_question ["question"] [] 1 f_least_question) :
    FnOk P G.w G.K mg base (L2.CX P G.w) 8 f fd ["question", "manner"] (spX G 2 f_checked_least) := by
  refine okXC Fd sc_checked_least (fun vs H Q E h => h.1) (fun Ar outer s H vs Q E hr h => ?_)
  refine ⟨_, (pss_cons (ps_expr (pe_call D_check_question.ok (hr.mono (by decide)) (by rfl) D_check_question.g D_check_question.kp D_check_question.b .nil (passes_call (takes_of rfl rfl rfl rfl) fun _ _ _ _ h => h) (pa_cons (pv 0) pa_nil)))
    (pss_cons (ps_expr (pe_call D_check_manner.ok (hr.mono (by decide)) (by rfl) D_check_manner.g D_check_manner.kp D_check_manner.b .nil (passes_call (takes_of rfl rfl rfl rfl) fun _ _ _ _ h => h) (pa_cons (pv 1) pa_nil)))
    (pss_one (ps_ret (pe_call D_least_question.ok (hr.mono (by decide)) (by rfl) D_least_question.g D_least_question.kp D_least_question.b .nil (passes_call (takes_of rfl rfl rfl rfl) fun _ _ _ _ h => h) (pa_cons (pv 0) pa_nil)))))), ?_⟩
  exact fn_of_ex (n := 2) (pad := 0) rfl ((exs_seq (exs_drop (ex_callP (fun _ _ => imL_nil) (exa_cons ex_var exa_nil)))
    (exs_seq (exs_drop (ex_callP (fun _ _ => imL_nil) (exa_cons ex_var exa_nil)))
    (exs_ret (ex_callP (fun _ _ => imL_nil) (exa_cons ex_var exa_nil)))))) h
theorem sc_confusions : FnScope ["quiet", "manner", "answers", "lots", "found", "state", "told", "words", "first", "second"] ["quiet", "manner"] (defScope (top 73)) := ⟨rfl, rfl, rfl, by decide +kernel, rfl, by decide +kernel, by decide +kernel⟩
theorem ok_confusions (Z : Fx P G.w G T mg base) {f : Addr} {fd : FuncData} (Fd : Fun G.K "confusions" "confusions" (top 73) f fd)
    {a_lots_of_least : Addr} {fd_lots_of_least : FuncData} (D_lots_of_least : DefX P G.w G mg base 2 "lots_of_least" a_lots_of_least fd_lots_of_least ["least"] [] 1 f_lots_of_least)
    {a_words_to : Addr} {fd_words_to : FuncData} (D_words_to : DefX P G.w G mg base 2 "words_to" a_words_to fd_words_to ["least", "manner", "goals"] [] 3 f_words_to) :
    FnOk P G.w G.K mg base (L2.CX P G.w) 3 f fd ["quiet", "manner"] (spX G 2 f_confusions) := by
  refine okXC Fd sc_confusions (fun vs H Q E h => h.1) (fun Ar outer s H vs Q E hr h => ?_)
  refine ⟨_, (pss_cons (ps_set (i := 2) sc_confusions.nd rfl (by first | exact Or.inl rfl | exact Or.inr rfl) (pe_ix (ix_K (K := G.K) rfl) (pv 0) pe_int (fun _ _ => rfl)))
    (pss_cons (ps_set (i := 3) sc_confusions.nd rfl (by first | exact Or.inl rfl | exact Or.inr rfl) (pe_call D_lots_of_least.ok (hr.mono (by decide)) (by rfl) D_lots_of_least.g D_lots_of_least.kp D_lots_of_least.b .nil (passes_call (takes_of rfl rfl rfl rfl) fun _ _ _ _ h => h) (pa_cons (pv 0) pa_nil)))
    (pss_cons (ps_set (i := 4) sc_confusions.nd rfl (by first | exact Or.inl rfl | exact Or.inr rfl) pe_dnewK)
    (pss_cons (ps_for (passes_of rfl) rfl (pi_enTK (K := G.K) rfl (by rfl) Z.z_enumerate (pa_cons (pv 2) pa_nil)) (pg_tupK (K := G.K) (n := 2) rfl rfl (pgs_cons (pg_name (i := 5) sc_confusions.nd rfl (by first | exact Or.inl rfl | exact Or.inr rfl)) (pgs_cons (pg_name (i := 6) sc_confusions.nd rfl (by first | exact Or.inl rfl | exact Or.inr rfl)) pgs_nil)))
    (pss_cons (ps_set (i := 7) sc_confusions.nd rfl (by first | exact Or.inl rfl | exact Or.inr rfl) (pe_ifExp (pt_cmpR (op_eqK (K := G.K) rfl (hu64 hr)) (pv 6) pe_int (nomark _)) (pe_call D_words_to.ok (hr.mono (by decide)) (by rfl) D_words_to.g D_words_to.kp D_words_to.b .nil (passes_call (takes_of rfl rfl rfl rfl) fun _ _ _ _ h => h) (pa_cons (pv 0) (pa_cons (pv 1) (pa_cons (pe_lst (pa_cons (pe_tup (pa_cons (pv 5) (pa_cons (pv 5) pa_nil))) pa_nil)) pa_nil)))) pe_dnewK))
    (pss_one (ps_lock (ps_for (passes_of rfl) rfl (Mk.pi_keysX (pv 7)) (pg_tupK (K := G.K) (n := 2) rfl rfl (pgs_cons (pg_name (i := 8) sc_confusions.nd rfl (by first | exact Or.inl rfl | exact Or.inr rfl)) (pgs_cons (pg_name (i := 9) sc_confusions.nd rfl (by first | exact Or.inl rfl | exact Or.inr rfl)) pgs_nil)))
    (pss_one (ps_if (PW.pt (pw_and (pt_cmpR (op_eqK (K := G.K) rfl (hu64 hr)) (pv 9) (pv 5) (nomark _)) (pw_and1 (pt_cmpR (op_neK (K := G.K) rfl (hu64 hr)) (pe_ix (ix_K (K := G.K) rfl) (pv 3) (pv 8) (fun _ _ => rfl)) (pe_ix (ix_K (K := G.K) rfl) (pv 3) (pv 9) (fun _ _ => rfl)) (nomark _))))) (pss_one (ps_asg (Mk.pe_xgetK (K := G.K) (w := G.w) rfl (hu64 hr) (pv 7) (pe_tup (pa_cons (pv 8) (pa_cons (pv 9) pa_nil))) (fun _ _ => rfl)) (pg_sub (pv 4) (pe_tup (pa_cons (pv 8) (pa_cons (pv 9) pa_nil))) (Mk.set_XK (K := G.K) (w := G.w) rfl (hu64 hr))))) pss_nil)))))))
    (pss_one (ps_ret (pv 4))))))), ?_⟩
  exact fn_of_ex (n := 2) (pad := 8) rfl ((exs_seq (exs_asg (ex_2 ok_ix ex_var ex_int) exg_name)
    (exs_seq (exs_asg (ex_callP (fun _ _ => imL_nil) (exa_cons ex_var exa_nil)) exg_name)
    (exs_seq (exs_asg (ex_dct0 Z.M) exg_name)
    (exs_seq (exs_for (exi_enT Z.M (exa_cons ex_var exa_nil)) (exg_tup (exgs_cons exg_name (exgs_cons exg_name exgs_nil)))
    (exs_seq (exs_asg (ex_if (ext_test (ex_2 ok_eq ex_var ex_int)) (ex_call (fun _ _ => imL_nil) (exa_cons ex_var (exa_cons ex_var (exa_cons (ex_lst Z.M (exa_cons (ex_tup Z.M (exa_cons ex_var (exa_cons ex_var exa_nil))) exa_nil)) exa_nil)))) (ex_dct0 Z.M)) exg_name)
    (exs_lock Z.M (exs_for (exi_keys ex_var) (exg_tup (exgs_cons exg_name (exgs_cons exg_name exgs_nil)))
    (exs_if (ext_and (ext_test (ex_2 ok_eq ex_var ex_var)) (ext_test (ex_2 ok_ne (ex_2 ok_ix ex_var ex_var) (ex_2 ok_ix ex_var ex_var)))) (exs_asg (ex_dget ex_var (ex_tup Z.M (exa_cons ex_var (exa_cons ex_var exa_nil)))) (exg_subD Z.M ex_var (ex_tup Z.M (exa_cons ex_var (exa_cons ex_var exa_nil))))) exs_next)))))
    (exs_ret ex_var)))))) h
theorem sc_checked_rung : FnScope ["question", "manner", "quiet"] ["question", "manner"] (defScope (top 85)) := ⟨rfl, rfl, rfl, by decide +kernel, rfl, by decide +kernel, by decide +kernel⟩
theorem ok_checked_rung (Z : Fx P G.w G T mg base) {f : Addr} {fd : FuncData} (Fd : Fun G.K "checked_rung" "checked_rung" (top 85) f fd)
    {a_checked_quiet : Addr} {fd_checked_quiet : FuncData} (D_checked_quiet : DefX P G.w G mg base 7 "checked_quiet" a_checked_quiet fd_checked_quiet ["question", "manner"] [] 2 f_checked_quiet) :
    FnOk P G.w G.K mg base (L2.CX P G.w) 8 f fd ["question", "manner"] (spX G 2 f_checked_rung) := by
  obtain ⟨t_MOST_RUNG_STATES, g_MOST_RUNG_STATES⟩ := Z.i_MOST_RUNG_STATES
  refine okXC Fd sc_checked_rung (fun vs H Q E h => h.1) (fun Ar outer s H vs Q E hr h => ?_)
  refine ⟨_, (pss_cons (ps_set (i := 2) sc_checked_rung.nd rfl (by first | exact Or.inl rfl | exact Or.inr rfl) (pe_call D_checked_quiet.ok (hr.mono (by decide)) (by rfl) D_checked_quiet.g D_checked_quiet.kp D_checked_quiet.b .nil (passes_call (takes_of rfl rfl rfl rfl) fun _ _ _ _ h => h) (pa_cons (pv 0) (pa_cons (pv 1) pa_nil))))
    (pss_cons (ps_if (pt_cmpR op_gt (pe_callB (call_lenK (K := G.K) rfl) (by rfl) Z.z_len boot_len (pa_cons (pe_ix (ix_K (K := G.K) rfl) (pv 0) pe_int (fun _ _ => rfl)) pa_nil)) (pe_glob (v := .int (4)) (by rfl) g_MOST_RUNG_STATES ⟨_, rfl⟩) (nomark _)) (pss_one Mk.ps_fail) pss_nil)
    (pss_one (ps_ret (pv 2))))), ?_⟩
  exact fn_of_ex (n := 2) (pad := 1) rfl ((exs_seq (exs_asg (ex_callP (fun _ _ => imL_nil) (exa_cons ex_var (exa_cons ex_var exa_nil))) exg_name)
    (exs_seq (exs_if (ext_test (ex_2 ok_gt (ex_cb ok_len (exa_cons (ex_2 ok_ix ex_var ex_int) exa_nil)) ex_int)) exs_fail exs_next)
    (exs_ret ex_var)))) h
theorem sc_Search_next_fault : FnScope ["self", "pair"] ["self"] (defScope (inClass (top 54) 7)) := ⟨rfl, rfl, rfl, by decide +kernel, rfl, by decide +kernel, by decide +kernel⟩
theorem ok_Search_next_fault (Z : Fx P G.w G T mg base) {f : Addr} {fd : FuncData} (Fd : Fun G.K "next_fault" "Search.next_fault" (inClass (top 54) 7) f fd)
    {a_Search_next_row : Addr} {fd_Search_next_row : FuncData} (D_Search_next_row : MethX P G.w G mg base 4 (G.cl 0) "next_row" a_Search_next_row fd_Search_next_row ["self"] 1 f_Search_next_row)
    {a_Search_wrong_name : Addr} {fd_Search_wrong_name : FuncData} (D_Search_wrong_name : MethX P G.w G mg base 1 (G.cl 0) "wrong_name" a_Search_wrong_name fd_Search_wrong_name ["self", "pair"] 2 f_Search_wrong_name) :
    FnOk P G.w G.K mg base (L2.CX P G.w) 5 f fd ["self"] (spX G 1 f_Search_next_fault) := by
  refine okXC Fd sc_Search_next_fault (fun vs H Q E h => h.1) (fun Ar outer s H vs Q E hr h => ?_)
  refine ⟨_, (pss_cons (ps_set (i := 1) sc_Search_next_fault.nd rfl (by first | exact Or.inl rfl | exact Or.inr rfl) (pe_meth0 (pv 0) Z.cl_Search D_Search_next_row.m D_Search_next_row.ok (hr.mono (by decide)) D_Search_next_row.b .nil (passes_call (takes_of rfl rfl rfl rfl) fun _ _ _ _ h => h)))
    (pss_cons (ps_while (passes_of rfl) (PW.pt (pw_and (pt_cmpR op_notN (pv 1) pe_non (nomark _)) (pw_and1 (pt_cmpR op_isN (pe_meth (pv 0) Z.cl_Search D_Search_wrong_name.m D_Search_wrong_name.ok (hr.mono (by decide)) D_Search_wrong_name.b .nil (passes_call (takes_of rfl rfl rfl rfl) fun _ _ _ _ h => h) (pa_cons (pv 1) pa_nil)) pe_non (nomark _)))))
    (pss_one (ps_set (i := 1) sc_Search_next_fault.nd rfl (by first | exact Or.inl rfl | exact Or.inr rfl) (pe_meth0 (pv 0) Z.cl_Search D_Search_next_row.m D_Search_next_row.ok (hr.mono (by decide)) D_Search_next_row.b .nil (passes_call (takes_of rfl rfl rfl rfl) fun _ _ _ _ h => h)))))
    (pss_one (ps_ret (pv 1))))), ?_⟩
  exact fn_of_ex (n := 1) (pad := 1) rfl ((exs_seq (exs_asg (ex_meth ex_var exa_nil) exg_name)
    (exs_seq (exs_while (ext_and (ext_test (ex_2 ok_notN ex_var ex_non)) (ext_test (ex_2 ok_isN (ex_meth ex_var (exa_cons ex_var exa_nil)) ex_non)))
    (exs_asg (ex_meth ex_var exa_nil) exg_name))
    (exs_ret ex_var)))) h
theorem sc_shows_ringer : FnScope ["question", "manner", "value", "quiet"] ["question", "manner", "value"] (defScope (top 86)) := ⟨rfl, rfl, rfl, by decide +kernel, rfl, by decide +kernel, by decide +kernel⟩
theorem ok_shows_ringer (Z : Fx P G.w G T mg base) {f : Addr} {fd : FuncData} (Fd : Fun G.K "shows_ringer" "shows_ringer" (top 86) f fd)
    {a_checked_rung : Addr} {fd_checked_rung : FuncData} (D_checked_rung : DefX P G.w G mg base 8 "checked_rung" a_checked_rung fd_checked_rung ["question", "manner"] [] 2 f_checked_rung)
    {a_wrong_part : Addr} {fd_wrong_part : FuncData} (D_wrong_part : DefX P G.w G mg base 7 "wrong_part" a_wrong_part fd_wrong_part ["names", "manner", "value", "most"] [V.int (6)] 4 f_wrong_part)
    {a_names_of : Addr} {fd_names_of : FuncData} (D_names_of : DefX P G.w G mg base 1 "names_of" a_names_of fd_names_of ["question"] [] 1 f_names_of)
    {a_errs_nowhere : Addr} {fd_errs_nowhere : FuncData} (D_errs_nowhere : DefX P G.w G mg base 6 "errs_nowhere" a_errs_nowhere fd_errs_nowhere ["question", "manner", "reader", "silent"] [V.bl false] 4 f_errs_nowhere)
    (D_kb_errs_nowhere : KBn G.K fd_errs_nowhere ["question", "manner", "reader", "silent"] 3 ["silent"] (fun us ws => us ++ ws) (fun vs zs => vs ++ zs)) :
    FnOk P G.w G.K mg base (L2.CX P G.w) 9 f fd ["question", "manner", "value"] (spX G 3 f_shows_ringer) := by
  obtain ⟨t_MOST_RINGER_STATES, g_MOST_RINGER_STATES⟩ := Z.i_MOST_RINGER_STATES
  refine okXC Fd sc_shows_ringer (fun vs H Q E h => h.1) (fun Ar outer s H vs Q E hr h => ?_)
  refine ⟨_, (pss_cons (ps_set (i := 3) sc_shows_ringer.nd rfl (by first | exact Or.inl rfl | exact Or.inr rfl) (pe_call D_checked_rung.ok (hr.mono (by decide)) (by rfl) D_checked_rung.g D_checked_rung.kp D_checked_rung.b .nil (passes_call (takes_of rfl rfl rfl rfl) fun _ _ _ _ h => h) (pa_cons (pv 0) (pa_cons (pv 1) pa_nil))))
    (pss_cons (ps_if (pt_cmpR op_isN (pv 2) pe_non (nomark _)) (pss_one Mk.ps_fail) pss_nil)
    (pss_cons (ps_if (pt_cmpR op_notN (pe_call D_wrong_part.ok (hr.mono (by decide)) (by rfl) D_wrong_part.g D_wrong_part.kp D_wrong_part.b .nil (passes_call (takes_of rfl rfl rfl rfl) fun _ _ _ _ h => h) (pa_cons (pe_call D_names_of.ok (hr.mono (by decide)) (by rfl) D_names_of.g D_names_of.kp D_names_of.b .nil (passes_call (takes_of rfl rfl rfl rfl) fun _ _ _ _ h => h) (pa_cons (pv 0) pa_nil)) (pa_cons (pv 1) (pa_cons (pv 2) (pa_cons (pe_glob (v := .int (20)) (by rfl) g_MOST_RINGER_STATES ⟨_, rfl⟩) pa_nil))))) pe_non (nomark _)) (pss_one Mk.ps_fail) pss_nil)
    (pss_one (ps_ret (pe_callN D_errs_nowhere.ok (hr.mono (by decide)) (by rfl) D_errs_nowhere.g D_errs_nowhere.kp D_kb_errs_nowhere (passes_call (takes_of rfl rfl rfl rfl) fun _ _ _ _ h => h) (pa_cons (pv 3) (pa_cons (pv 1) (pa_cons (pv 2) pa_nil))) (pk_cons pe_bl pk_nil))))))), ?_⟩
  exact fn_of_ex (n := 3) (pad := 1) rfl ((exs_seq (exs_asg (ex_callP (fun _ _ => imL_nil) (exa_cons ex_var (exa_cons ex_var exa_nil))) exg_name)
    (exs_seq (exs_if (ext_test (ex_2 ok_isN ex_var ex_non)) exs_fail exs_next)
    (exs_seq (exs_if (ext_test (ex_2 ok_notN (ex_callP (fun _ _ => imL_nil) (exa_cons (ex_callP (fun _ _ => imL_nil) (exa_cons ex_var exa_nil)) (exa_cons ex_var (exa_cons ex_var (exa_cons ex_int exa_nil))))) ex_non)) exs_fail exs_next)
    (exs_ret (ex_callN (N := 4) (n := 3) (m := 1) rfl (exa_cons ex_var (exa_cons ex_var (exa_cons ex_var exa_nil))) (exa_cons ex_bl exa_nil))))))) h
end
end Mx

/-! ### MqG3 -/
set_option Elab.async false
set_option linter.all false
set_option maxRecDepth 100000
set_option maxHeartbeats 4000000
namespace Mx
open PySem PySem.Spec PyProof.Rows L2
open GxR (TabG Tabbed)
section
variable {P : Program} {G : Gx} {T : List Addr} {mg : Str → Option Value} {base : Heap}
theorem sc_are_numbers : FnScope ["value", "many", "most", "part"] ["value", "many", "most"] (defScope (top 17)) := ⟨rfl, rfl, rfl, by decide +kernel, rfl, by decide +kernel, by decide +kernel⟩
theorem ok_are_numbers (Z : Fx P G.w G T mg base) {f : Addr} {fd : FuncData} (Fd : Fun G.K "are_numbers" "are_numbers" (top 17) f fd)
    {a_is_tuple_of : Addr} {fd_is_tuple_of : FuncData} (D_is_tuple_of : DefX P G.w G mg base 1 "is_tuple_of" a_is_tuple_of fd_is_tuple_of ["value", "least", "most"] [] 3 f_is_tuple_of)
    {a_is_number : Addr} {fd_is_number : FuncData} (D_is_number : DefX P G.w G mg base 1 "is_number" a_is_number fd_is_number ["value", "least", "most"] [] 3 f_is_number)
    {c T0 : Addr} (hT : T0 ∈ T) (O : OwnX mg base fd c T0) :
    FnOk P G.w G.K mg base (L2.CX P G.w) 3 f fd ["value", "many", "most"] (spX G 3 f_are_numbers) := by
  refine okXC Fd sc_are_numbers (fun vs H Q E h => h.1) (fun Ar outer s H vs Q E hr h => ?_)
  refine ⟨_, (pss_one (ps_ret (pe_and (pe_call D_is_tuple_of.ok (hr.mono (by decide)) (by rfl) D_is_tuple_of.g D_is_tuple_of.kp D_is_tuple_of.b .nil (passes_call (takes_of rfl rfl rfl rfl) fun _ _ _ _ h => h) (pa_cons (pv 0) (pa_cons (pv 1) (pa_cons (pv 1) pa_nil)))) (pe_one (Mk.pe_all (own := [("part", 3)]) hr (by rfl) Z.z_all O.tb O.code (gOk_by (N := ["value", "many", "most", "part"]) (sc := defScope (top 17)) (by decide +kernel)) sc_are_numbers.nd (pi_tupK (K := G.K) rfl (pv 0)) (fun _ _ _ _ _ _ _ => (pg_name (i := 3) sc_are_numbers.nd rfl (by first | exact Or.inl rfl | exact Or.inr rfl))) (fun _ _ _ _ _ _ _ => (pe_call D_is_number.ok (Room.mono (room_gen hr) (by decide)) (by rfl) D_is_number.g D_is_number.kp D_is_number.b .nil passF (pa_cons (pv 3) (pa_cons pe_int (pa_cons (pv 2) pa_nil)))))))))), ?_⟩
  exact fn_of_ex (n := 3) (pad := 1) rfl ((exs_ret (ex_andV (ex_callP (fun _ _ => imL_nil) (exa_cons ex_var (exa_cons ex_var (exa_cons ex_var exa_nil)))) (ex_all Z.M hT (exi_tup ex_var) (exw_name (by decide)) (ex_callP (fun _ _ => imL_nil) (exa_cons ex_var (exa_cons ex_int (exa_cons ex_var exa_nil)))))))) h
theorem sc_answer_behind : FnScope ["question", "state", "path"] ["question", "state", "path"] (defScope (top 24)) := ⟨rfl, rfl, rfl, by decide +kernel, rfl, by decide +kernel, by decide +kernel⟩
theorem ok_answer_behind (Z : Fx P G.w G T mg base) {f : Addr} {fd : FuncData} (Fd : Fun G.K "answer_behind" "answer_behind" (top 24) f fd)
    {a_state_behind : Addr} {fd_state_behind : FuncData} (D_state_behind : DefX P G.w G mg base 1 "state_behind" a_state_behind fd_state_behind ["question", "state", "path"] [] 3 f_state_behind) :
    FnOk P G.w G.K mg base (L2.CX P G.w) 2 f fd ["question", "state", "path"] (spX G 3 f_answer_behind) := by
  refine okXC Fd sc_answer_behind (fun vs H Q E h => h.1) (fun Ar outer s H vs Q E hr h => ?_)
  refine ⟨_, (pss_one (ps_ret (pe_ix (ix_K (K := G.K) rfl) (pe_ix (ix_K (K := G.K) rfl) (pv 0) pe_int (fun _ _ => rfl)) (pe_call D_state_behind.ok (hr.mono (by decide)) (by rfl) D_state_behind.g D_state_behind.kp D_state_behind.b .nil (passes_call (takes_of rfl rfl rfl rfl) fun _ _ _ _ h => h) (pa_cons (pv 0) (pa_cons (pv 1) (pa_cons (pv 2) pa_nil)))) (fun _ _ => rfl)))), ?_⟩
  exact fn_of_ex (n := 3) (pad := 0) rfl ((exs_ret (ex_2 ok_ix (ex_2 ok_ix ex_var ex_int) (ex_callP (fun _ _ => imL_nil) (exa_cons ex_var (exa_cons ex_var (exa_cons ex_var exa_nil))))))) h
theorem sc_check_row : FnScope ["names", "value", "left", "place", "tag"] ["names", "value"] (defScope (top 33)) := ⟨rfl, rfl, rfl, by decide +kernel, rfl, by decide +kernel, by decide +kernel⟩
theorem ok_check_row (Z : Fx P G.w G T mg base) {f : Addr} {fd : FuncData} (Fd : Fun G.K "check_row" "check_row" (top 33) f fd)
    {a_is_tuple_of : Addr} {fd_is_tuple_of : FuncData} (D_is_tuple_of : DefX P G.w G mg base 1 "is_tuple_of" a_is_tuple_of fd_is_tuple_of ["value", "least", "most"] [] 3 f_is_tuple_of)
    {a_is_number : Addr} {fd_is_number : FuncData} (D_is_number : DefX P G.w G mg base 1 "is_number" a_is_number fd_is_number ["value", "least", "most"] [] 3 f_is_number) :
    FnOk P G.w G.K mg base (L2.CX P G.w) 2 f fd ["names", "value"] (spX G 2 f_check_row) := by
  obtain ⟨t_MOST_LENGTH, g_MOST_LENGTH⟩ := Z.i_MOST_LENGTH
  obtain ⟨t_CLOSING, g_CLOSING⟩ := Z.i_CLOSING
  refine okXC Fd sc_check_row (fun vs H Q E h => h.1) (fun Ar outer s H vs Q E hr h => ?_)
  refine ⟨_, (pss_cons (ps_if (pt_not (pt_val (pe_call D_is_tuple_of.ok (hr.mono (by decide)) (by rfl) D_is_tuple_of.g D_is_tuple_of.kp D_is_tuple_of.b .nil (passes_call (takes_of rfl rfl rfl rfl) fun _ _ _ _ h => h) (pa_cons (pv 1) (pa_cons pe_int (pa_cons (pe_glob (v := .int (2000)) (by rfl) g_MOST_LENGTH ⟨_, rfl⟩) pa_nil)))))) (pss_one Mk.ps_fail) pss_nil)
    (pss_cons (ps_set (i := 2) sc_check_row.nd rfl (by first | exact Or.inl rfl | exact Or.inr rfl) pe_int)
    (pss_one (ps_for (passes_of rfl) rfl (pi_enTK (K := G.K) rfl (by rfl) Z.z_enumerate (pa_cons (pv 1) pa_nil)) (pg_tupK (K := G.K) (n := 2) rfl rfl (pgs_cons (pg_name (i := 3) sc_check_row.nd rfl (by first | exact Or.inl rfl | exact Or.inr rfl)) (pgs_cons (pg_name (i := 4) sc_check_row.nd rfl (by first | exact Or.inl rfl | exact Or.inr rfl)) pgs_nil)))
    (pss_cons (ps_if (PW.pt (pw_or (pt_not (pt_val (pe_call D_is_number.ok (hr.mono (by decide)) (by rfl) D_is_number.g D_is_number.kp D_is_number.b .nil (passes_call (takes_of rfl rfl rfl rfl) fun _ _ _ _ h => h) (pa_cons (pv 4) (pa_cons (pe_glob (v := .int (-1)) (by rfl) g_CLOSING ⟨_, rfl⟩) (pa_cons (pe_op op_sub (pv 0) pe_int) pa_nil)))))) (pw_or1 (PW.pt (pw_and (pt_cmpR (op_eqK (K := G.K) rfl (hu64 hr)) (pv 4) (pe_glob (v := .int (-1)) (by rfl) g_CLOSING ⟨_, rfl⟩) (nomark _)) (pw_and1 (pt_cmpR (op_eqK (K := G.K) rfl (hu64 hr)) (pv 2) pe_int (nomark _)))))))) (pss_one Mk.ps_fail) pss_nil)
    (pss_one (ps_aug (i := 2) sc_check_row.nd rfl (by first | exact Or.inl rfl | exact Or.inr rfl) (pe_ifExp (pt_cmpR (op_eqK (K := G.K) rfl (hu64 hr)) (pv 4) (pe_glob (v := .int (-1)) (by rfl) g_CLOSING ⟨_, rfl⟩) (nomark _)) (pe_un un_neg pe_int) pe_int) ip_add))))))), ?_⟩
  exact fn_of_ex (n := 2) (pad := 3) rfl ((exs_seq (exs_if (ext_not (ext_B (ex_callP (fun _ _ => imL_nil) (exa_cons ex_var (exa_cons ex_int (exa_cons ex_int exa_nil)))))) exs_fail exs_next)
    (exs_seq (exs_asg ex_int exg_name)
    (exs_for (exi_enT Z.M (exa_cons ex_var exa_nil)) (exg_tup (exgs_cons exg_name (exgs_cons exg_name exgs_nil)))
    (exs_seq (exs_if (ext_or (ext_not (ext_B (ex_callP (fun _ _ => imL_nil) (exa_cons ex_var (exa_cons ex_int (exa_cons (ex_2 ok_sub ex_var ex_int) exa_nil)))))) (ext_and (ext_test (ex_2 ok_eq ex_var ex_int)) (ext_test (ex_2 ok_eq ex_var ex_int)))) exs_fail exs_next)
    (exs_aug (ex_if (ext_test (ex_2 ok_eq ex_var ex_int)) (ex_1 ok_neg ex_int) ex_int))))))) h
theorem sc_ways_to_close : FnScope ["names", "manner"] ["names", "manner"] (defScope (top 43)) := ⟨rfl, rfl, rfl, by decide +kernel, rfl, by decide +kernel, by decide +kernel⟩
theorem ok_ways_to_close (Z : Fx P G.w G T mg base) {f : Addr} {fd : FuncData} (Fd : Fun G.K "ways_to_close" "ways_to_close" (top 43) f fd) :
    FnOk P G.w G.K mg base (L2.CX P G.w) 1 f fd ["names", "manner"] (spX G 2 f_ways_to_close) := by
  obtain ⟨t_NAMED, g_NAMED⟩ := Z.s_NAMED
  refine okXC Fd sc_ways_to_close (fun vs H Q E h => h.1) (fun Ar outer s H vs Q E hr h => ?_)
  refine ⟨_, (pss_one (ps_ret (pe_ifExp (pt_cmpR (op_eqK (K := G.K) rfl (hu64 hr)) (pv 1) (pe_glob (v := .str "named") (by rfl) g_NAMED ⟨_, rfl⟩) (nomark _)) (pv 0) pe_int))), ?_⟩
  exact fn_of_ex (n := 2) (pad := 0) rfl ((exs_ret (ex_if (ext_test (ex_2 ok_eq ex_var ex_str)) ex_var ex_int))) h
theorem sc_moves_of : FnScope ["names", "manner", "name", "other"] ["names", "manner"] (defScope (top 58)) := ⟨rfl, rfl, rfl, by decide +kernel, rfl, by decide +kernel, by decide +kernel⟩
theorem ok_moves_of (Z : Fx P G.w G T mg base) {f : Addr} {fd : FuncData} (Fd : Fun G.K "moves_of" "moves_of" (top 58) f fd) :
    FnOk P G.w G.K mg base (L2.CX P G.w) 1 f fd ["names", "manner"] (spX G 2 f_moves_of) := by
  obtain ⟨t_BLIND, g_BLIND⟩ := Z.s_BLIND
  refine okXC Fd sc_moves_of (fun vs H Q E h => h.1) (fun Ar outer s H vs Q E hr h => ?_)
  refine ⟨_, (pss_one (ps_ret (pe_lc2 (own := [("name", 2), ("other", 3)]) (vs1 := [3]) rfl sc_moves_of.nd (pi_range1 (by rfl) Z.z_range (pa_cons (pv 0) pa_nil)) (blkOk_by (N := ["names", "manner", "name", "other"]) (sc := defScope (top 58)) (by decide +kernel)) (by decide) (fun _ _ _ _ _ => (pg_name (i := 2) sc_moves_of.nd rfl (by first | exact Or.inl rfl | exact Or.inr rfl))) (fun _ _ _ _ _ => pts_nil) (fun _ _ _ _ _ => (pi_range1 (by rfl) Z.z_range (pa_cons (pv 0) pa_nil))) (fun _ _ _ _ _ => (pg_name (i := 3) sc_moves_of.nd rfl (by first | exact Or.inl rfl | exact Or.inr rfl))) (fun _ _ _ _ _ => pts_one (PW.pt (pw_or (pt_cmpR (op_eqK (K := G.K) rfl (hu64 hr)) (pv 2) (pv 3) (nomark _)) (pw_or1 (pt_cmpR (op_eqK (K := G.K) rfl (hu64 hr)) (pv 1) (pe_glob (v := .str "blind") (by rfl) g_BLIND ⟨_, rfl⟩) (nomark _)))))) (fun _ _ _ _ _ => (pe_tup (pa_cons (pv 2) (pa_cons (pv 3) pa_nil))))))), ?_⟩
  exact fn_of_ex (n := 2) (pad := 2) rfl ((exs_ret (ex_lc2 Z.M (exi_rng1 (exa_cons ex_var exa_nil)) (exw_name (by decide)) ext_yes (exi_rng1 (exa_cons ex_var exa_nil)) (exw_name (by decide)) (ext_or (ext_test (ex_2 ok_eq ex_var ex_var)) (ext_test (ex_2 ok_eq ex_var ex_str))) (ex_tup Z.M (exa_cons ex_var (exa_cons ex_var exa_nil)))))) h
theorem sc_can_read : FnScope ["question", "manner"] ["question", "manner"] (defScope (top 65)) := ⟨rfl, rfl, rfl, by decide +kernel, rfl, by decide +kernel, by decide +kernel⟩
theorem ok_can_read (Z : Fx P G.w G T mg base) {f : Addr} {fd : FuncData} (Fd : Fun G.K "can_read" "can_read" (top 65) f fd)
    {a_is_readable : Addr} {fd_is_readable : FuncData} (D_is_readable : DefX P G.w G mg base 5 "is_readable" a_is_readable fd_is_readable ["least", "manner"] [] 2 f_is_readable)
    {a_checked_least : Addr} {fd_checked_least : FuncData} (D_checked_least : DefX P G.w G mg base 8 "checked_least" a_checked_least fd_checked_least ["question", "manner"] [] 2 f_checked_least) :
    FnOk P G.w G.K mg base (L2.CX P G.w) 9 f fd ["question", "manner"] (spX G 2 f_can_read) := by
  refine okXC Fd sc_can_read (fun vs H Q E h => h.1) (fun Ar outer s H vs Q E hr h => ?_)
  refine ⟨_, (pss_one (ps_ret (pe_call D_is_readable.ok (hr.mono (by decide)) (by rfl) D_is_readable.g D_is_readable.kp D_is_readable.b .nil (passes_call (takes_of rfl rfl rfl rfl) fun _ _ _ _ h => h) (pa_cons (pe_call D_checked_least.ok (hr.mono (by decide)) (by rfl) D_checked_least.g D_checked_least.kp D_checked_least.b .nil (passes_call (takes_of rfl rfl rfl rfl) fun _ _ _ _ h => h) (pa_cons (pv 0) (pa_cons (pv 1) pa_nil))) (pa_cons (pv 1) pa_nil))))), ?_⟩
  exact fn_of_ex (n := 2) (pad := 0) rfl ((exs_ret (ex_callP (fun _ _ => imL_nil) (exa_cons (ex_callP (fun _ _ => imL_nil) (exa_cons ex_var (exa_cons ex_var exa_nil))) (exa_cons ex_var exa_nil))))) h
theorem sc_is_ringable : FnScope ["quiet", "manner"] ["quiet", "manner"] (defScope (top 74)) := ⟨rfl, rfl, rfl, by decide +kernel, rfl, by decide +kernel, by decide +kernel⟩
theorem ok_is_ringable (Z : Fx P G.w G T mg base) {f : Addr} {fd : FuncData} (Fd : Fun G.K "is_ringable" "is_ringable" (top 74) f fd)
    {a_confusions : Addr} {fd_confusions : FuncData} (D_confusions : DefX P G.w G mg base 3 "confusions" a_confusions fd_confusions ["quiet", "manner"] [] 2 f_confusions) :
    FnOk P G.w G.K mg base (L2.CX P G.w) 4 f fd ["quiet", "manner"] (spX G 2 f_is_ringable) := by
  refine okXC Fd sc_is_ringable (fun vs H Q E h => h.1) (fun Ar outer s H vs Q E hr h => ?_)
  refine ⟨_, (pss_one (ps_ret (pe_cmpR (op_eqK (K := G.K) rfl (hu64 hr)) (pe_callB Mk.call_lenX (by rfl) Z.z_len boot_len (pa_cons (pe_call D_confusions.ok (hr.mono (by decide)) (by rfl) D_confusions.g D_confusions.kp D_confusions.b .nil (passes_call (takes_of rfl rfl rfl rfl) fun _ _ _ _ h => h) (pa_cons (pv 0) (pa_cons (pv 1) pa_nil))) pa_nil)) pe_int (nomark _)))), ?_⟩
  exact fn_of_ex (n := 2) (pad := 0) rfl ((exs_ret (ex_2 ok_eq (ex_cb ok_lenD (exa_cons (ex_call (fun _ _ => imL_nil) (exa_cons ex_var (exa_cons ex_var exa_nil))) exa_nil)) ex_int))) h
theorem sc_Search_put : FnScope ["self", "length", "key", "parts"] ["self", "length", "key", "parts"] (defScope (inClass (top 54) 1)) := ⟨rfl, rfl, rfl, by decide +kernel, rfl, by decide +kernel, by decide +kernel⟩
theorem ok_Search_put (Z : Fx P G.w G T mg base) {f : Addr} {fd : FuncData} (Fd : Fun G.K "put" "Search.put" (inClass (top 54) 1) f fd) :
    FnOk P G.w G.K mg base (L2.CX P G.w) 1 f fd ["self", "length", "key", "parts"] (spX G 4 f_Search_put) := by
  refine okXC Fd sc_Search_put (fun vs H Q E h => h.1) (fun Ar outer s H vs Q E hr h => ?_)
  refine ⟨_, (pss_one (ps_if (pt_cmpR (Mk.op_notInXK (K := G.K) (w := G.w) rfl (hu64 hr)) (pv 2) (pe_fldK (K := G.K) rfl (pv 0) rfl) (by rfl)) (pss_cons (ps_expr (pe_callBfun (Mk.cr_pushK (K := G.K) rfl (hu64 hr)) (by rfl) Z.b_heappush (pa_cons (pe_fldK (K := G.K) rfl (pv 0) rfl) (pa_cons (pe_tup (pa_cons (pv 1) (pa_cons (pe_callB (call_lenK (K := G.K) rfl) (by rfl) Z.z_len boot_len (pa_cons (pe_fldK (K := G.K) rfl (pv 0) rfl) pa_nil)) pa_nil))) pa_nil))))
    (pss_one (ps_expr (pe_bmK (K := G.K) rfl PySem.F.plainAttrs_list PySem.F.slot_list_append PySem.F.type_list_append mt_append (pe_fldK (K := G.K) rfl (pv 0) rfl) (pa_cons (pe_tup (pa_cons (pv 2) (pa_cons (pv 3) pa_nil))) pa_nil))))) pss_nil)), ?_⟩
  exact fn_of_ex (n := 4) (pad := 0) rfl ((exs_if (ext_test (ex_2 ok_dnotinX ex_var (ex_fld Z.cl_Search Z.na_Search_parts ex_var))) (exs_seq (exs_drop (ex_cb (ok_push Z.M) (exa_cons (ex_fld Z.cl_Search Z.na_Search_waiting ex_var) (exa_cons (ex_tup Z.M (exa_cons ex_var (exa_cons (ex_cb ok_len (exa_cons (ex_fld Z.cl_Search Z.na_Search_made ex_var) exa_nil)) exa_nil))) exa_nil))))
    (exs_drop (ex_bm (ok_append Z.M) (ex_fld Z.cl_Search Z.na_Search_made ex_var) (exa_cons (ex_tup Z.M (exa_cons ex_var (exa_cons ex_var exa_nil))) exa_nil)))) exs_next)) h
theorem sc_Search_tags_to : FnScope ["self", "pair", "tags", "waiting", "part"] ["self", "pair"] (defScope (inClass (top 54) 8)) := ⟨rfl, rfl, rfl, by decide +kernel, rfl, by decide +kernel, by decide +kernel⟩
theorem ok_Search_tags_to (Z : Fx P G.w G T mg base) {f : Addr} {fd : FuncData} (Fd : Fun G.K "tags_to" "Search.tags_to" (inClass (top 54) 8) f fd) :
    FnOk P G.w G.K mg base (L2.CX P G.w) 1 f fd ["self", "pair"] (spX G 2 f_Search_tags_to) := by
  obtain ⟨a_BEGINNING, g_BEGINNING, h_BEGINNING⟩ := Z.t_BEGINNING
  obtain ⟨t_RUN, g_RUN⟩ := Z.s_RUN
  refine okXC Fd sc_Search_tags_to (fun vs H Q E h => h.1) (fun Ar outer s H vs Q E hr h => ?_)
  refine ⟨_, (pss_cons (ps_set (i := 2) sc_Search_tags_to.nd rfl (by first | exact Or.inl rfl | exact Or.inr rfl) (pe_lst pa_nil))
    (pss_cons (ps_set (i := 3) sc_Search_tags_to.nd rfl (by first | exact Or.inl rfl | exact Or.inr rfl) (pe_lst (pa_cons (pe_tup (pa_cons (pe_glob (v := .str "run") (by rfl) g_RUN ⟨_, rfl⟩) (pa_cons (pe_glob (v := .ref a_BEGINNING) (by rfl) g_BEGINNING rfl) (pa_cons (pv 1) pa_nil)))) pa_nil)))
    (pss_cons (ps_while (passes_of rfl) (pt_cmpR op_gt (pe_callB (call_lenK (K := G.K) rfl) (by rfl) Z.z_len boot_len (pa_cons (pv 3) pa_nil)) pe_int (nomark _))
    (pss_cons (ps_set (i := 4) sc_Search_tags_to.nd rfl (by first | exact Or.inl rfl | exact Or.inr rfl) (pe_bm0K' (K := G.K) rfl PySem.F.plainAttrs_list PySem.F.slot_list_pop PySem.F.type_list_pop mt_pop (pv 3)))
    (pss_one (ps_if (pt_val (pe_callB (call_isiK' (K := G.K) rfl) (by rfl) Z.z_isinstance boot_isi (pa_cons (pv 4) (pa_cons (pe_bltn (v := .ty "int") (by rfl) Z.z_int boot_int' rfl) pa_nil)))) (pss_one (ps_expr (pe_bmK (K := G.K) rfl PySem.F.plainAttrs_list PySem.F.slot_list_append PySem.F.type_list_append mt_append (pv 2) (pa_cons (pv 4) pa_nil)))) (pss_one (ps_expr (pe_bmK (K := G.K) rfl PySem.F.plainAttrs_list PySem.F.slot_list_extend PySem.F.type_list_extend (Mk.mt_extTK (K := G.K) rfl) (pv 3) (pa_cons (Mk.pe_revTK (K := G.K) rfl (Mk.pe_xgetK (K := G.K) (w := G.w) rfl (hu64 hr) (pe_fldK (K := G.K) rfl (pv 0) rfl) (pv 4) (fun _ _ => rfl))) pa_nil))))))))
    (pss_one (ps_ret (pv 2)))))), ?_⟩
  exact fn_of_ex (n := 2) (pad := 3) rfl ((exs_seq (exs_asg (ex_lst Z.M exa_nil) exg_name)
    (exs_seq (exs_asg (ex_lst Z.M (exa_cons (ex_tup Z.M (exa_cons ex_str (exa_cons (ex_ctup (js := [-1, -1]) h_BEGINNING) (exa_cons ex_var exa_nil)))) exa_nil)) exg_name)
    (exs_seq (exs_while (ext_test (ex_2 ok_gt (ex_cb ok_len (exa_cons ex_var exa_nil)) ex_int))
    (exs_seq (exs_asg (ex_bm0 (ok_pop Z.M) ex_var) exg_name)
    (exs_if (ext_B (ex_cb ok_isi (exa_cons ex_var (exa_cons ex_ty exa_nil)))) (exs_drop (ex_bm (ok_append Z.M) ex_var (exa_cons ex_var exa_nil))) (exs_drop (ex_bm (ok_extT Z.M) ex_var (exa_cons (ex_revT Z.M (ex_dget (ex_fld Z.cl_Search Z.na_Search_parts ex_var) ex_var)) exa_nil))))))
    (exs_ret ex_var))))) h
theorem sc_law : FnScope ["script", "row", "own", "above", "two", "deep", "told", "bar", "bell", "question"] ["script"] (defScope (top 89)) := ⟨rfl, rfl, rfl, by decide +kernel, rfl, by decide +kernel, by decide +kernel⟩
theorem ok_law (hold : (m_law (env0 10 1) [.dr]).holds True9 fun _ _ => False) (Z : Fx P G.w G T mg base) {f : Addr} {fd : FuncData} (Fd : Fun G.K "law" "law" (top 89) f fd)
    {a_can_ring : Addr} {fd_can_ring : FuncData} (D_can_ring : DefX P G.w G mg base 8 "can_ring" a_can_ring fd_can_ring ["question", "manner"] [] 2 f_can_ring)
    {a_can_read : Addr} {fd_can_read : FuncData} (D_can_read : DefX P G.w G mg base 9 "can_read" a_can_read fd_can_read ["question", "manner"] [] 2 f_can_read)
    {a_shows_ring_paper : Addr} {fd_shows_ring_paper : FuncData} (D_shows_ring_paper : DefX P G.w G mg base 8 "shows_ring_paper" a_shows_ring_paper fd_shows_ring_paper ["question", "manner", "value"] [] 3 f_shows_ring_paper)
    {a_ring_rows : Addr} {fd_ring_rows : FuncData} (D_ring_rows : DefX P G.w G mg base 8 "ring_rows" a_ring_rows fd_ring_rows ["question", "manner", "value", "states"] [] 4 f_ring_rows)
    {a_rings : Addr} {fd_rings : FuncData} (D_rings : DefX P G.w G mg base 7 "rings" a_rings fd_rings ["question", "path"] [] 2 f_rings)
    {a_first_ring : Addr} {fd_first_ring : FuncData} (D_first_ring : DefX P G.w G mg base 8 "first_ring" a_first_ring fd_first_ring ["question", "row"] [] 2 f_first_ring)
    {a_shows_ringer : Addr} {fd_shows_ringer : FuncData} (D_shows_ringer : DefX P G.w G mg base 9 "shows_ringer" a_shows_ringer fd_shows_ringer ["question", "manner", "value"] [] 3 f_shows_ringer)
    {a_rings_right : Addr} {fd_rings_right : FuncData} (D_rings_right : DefX P G.w G mg base 10 "rings_right" a_rings_right fd_rings_right ["question", "manner", "reader"] [] 3 f_rings_right)
    {a_ring_fault : Addr} {fd_ring_fault : FuncData} (D_ring_fault : DefX P G.w G mg base 10 "ring_fault" a_ring_fault fd_ring_fault ["question", "manner", "reader"] [] 3 f_ring_fault)
    {a__law_taken : Addr} {fd__law_taken : FuncData} (D__law_taken : DefX P G.w G mg base 1 "_law_taken" a__law_taken fd__law_taken ["row", "many"] [] 2 fTaken) :
    FnOk P G.w G.K mg base (L2.CX P G.w) 11 f fd ["script"] (spLawX G) := by
  refine okXC Fd sc_law (fun vs H Q E h => by obtain ⟨a, ns, rfl, _⟩ := h; rfl) (fun Ar outer s H vs Q E hr h => ?_)
  obtain ⟨a, ns, rfl, hs, hA, q⟩ := h
  refine ⟨_, (pss_cons (ps_set (i := 1) sc_law.nd rfl (by first | exact Or.inl rfl | exact Or.inr rfl) (pe_lst (pa_cons (pv 0) (pa_cons pe_int (pa_cons pe_int (pa_cons pe_int pa_nil))))))
    (pss_cons (ps_asg (pe_tup (pa_cons (pe_tup (pa_cons (pe_tup (pa_cons (pe_tup (pa_cons pe_int (pa_cons pe_int pa_nil))) (pa_cons (pe_tup (pa_cons pe_int (pa_cons pe_int pa_nil))) pa_nil))) (pa_cons (pe_tup (pa_cons pe_int (pa_cons pe_int pa_nil))) pa_nil))) (pa_cons (pe_tup (pa_cons (pe_tup (pa_cons (pe_tup (pa_cons pe_int (pa_cons pe_int pa_nil))) (pa_cons (pe_tup (pa_cons pe_int (pa_cons pe_int pa_nil))) pa_nil))) (pa_cons (pe_tup (pa_cons pe_int (pa_cons pe_int pa_nil))) pa_nil))) pa_nil))) (pg_tupK (K := G.K) (n := 2) rfl rfl (pgs_cons (pg_name (i := 2) sc_law.nd rfl (by first | exact Or.inl rfl | exact Or.inr rfl)) (pgs_cons (pg_name (i := 3) sc_law.nd rfl (by first | exact Or.inl rfl | exact Or.inr rfl)) pgs_nil))))
    (pss_cons (ps_asg (pe_tup (pa_cons (pe_tup (pa_cons (pe_tup (pa_cons (pe_tup (pa_cons pe_int (pa_cons pe_int pa_nil))) (pa_cons (pe_tup (pa_cons pe_int (pa_cons pe_int pa_nil))) (pa_cons (pe_tup (pa_cons pe_int (pa_cons pe_int pa_nil))) pa_nil)))) (pa_cons (pe_tup (pa_cons pe_int (pa_cons pe_int (pa_cons pe_int pa_nil)))) pa_nil))) (pa_cons (pe_tup (pa_cons (pe_tup (pa_cons (pe_tup (pa_cons pe_int pa_nil)) (pa_cons (pe_tup (pa_cons pe_int pa_nil)) (pa_cons (pe_tup (pa_cons pe_int pa_nil)) pa_nil)))) (pa_cons (pe_tup (pa_cons pe_int (pa_cons pe_int (pa_cons pe_int pa_nil)))) pa_nil))) pa_nil))) (pg_tupK (K := G.K) (n := 2) rfl rfl (pgs_cons (pg_name (i := 4) sc_law.nd rfl (by first | exact Or.inl rfl | exact Or.inr rfl)) (pgs_cons (pg_name (i := 5) sc_law.nd rfl (by first | exact Or.inl rfl | exact Or.inr rfl)) pgs_nil))))
    (pss_cons (ps_set (i := 6) sc_law.nd rfl (by first | exact Or.inl rfl | exact Or.inr rfl) (pe_op op_cat (pe_lc (own := [("question", 9)]) rfl sc_law.nd (pi_lstK (K := G.K) rfl (pe_lst (pa_cons (pv 2) (pa_cons (pv 3) (pa_cons (pv 5) (pa_cons (pv 4) pa_nil)))))) (blkOk_by (N := ["script", "row", "own", "above", "two", "deep", "told", "bar", "bell", "question"]) (sc := defScope (top 89)) (by decide +kernel)) (fun _ _ _ _ _ => (pg_name (i := 9) sc_law.nd rfl (by first | exact Or.inl rfl | exact Or.inr rfl))) (fun _ _ _ _ _ => pts_nil) (fun _ _ _ _ _ => (pe_call D_can_ring.ok (hr.mono (by decide)) (by rfl) D_can_ring.g D_can_ring.kp D_can_ring.b .nil passF (pa_cons (pv 9) (pa_cons pe_str pa_nil))))) (pe_lst (pa_cons (pe_call D_can_ring.ok (hr.mono (by decide)) (by rfl) D_can_ring.g D_can_ring.kp D_can_ring.b .nil (passes_call (takes_of rfl rfl rfl rfl) fun _ _ _ _ h => h) (pa_cons (pv 4) (pa_cons pe_str pa_nil))) (pa_cons (pe_call D_can_read.ok (hr.mono (by decide)) (by rfl) D_can_read.g D_can_read.kp D_can_read.b .nil (passes_call (takes_of rfl rfl rfl rfl) fun _ _ _ _ h => h) (pa_cons (pv 5) (pa_cons pe_str pa_nil))) pa_nil)))))
    (pss_cons (ps_if (pt_cmpR (op_neK (K := G.K) rfl (hu64 hr)) (pv 6) (pe_lst (pa_cons pe_bl (pa_cons pe_bl (pa_cons pe_bl (pa_cons pe_bl (pa_cons pe_bl (pa_cons pe_bl pa_nil))))))) (nomark _)) (pss_one Mk.ps_fail) pss_nil)
    (pss_cons (ps_set (i := 7) sc_law.nd rfl (by first | exact Or.inl rfl | exact Or.inr rfl) (pe_tup (pa_cons (pe_tup pa_nil) (pa_cons (pe_tup (pa_cons pe_int pa_nil)) (pa_cons (pe_tup (pa_cons pe_int pa_nil)) (pa_cons (pe_tup (pa_cons pe_int pa_nil)) pa_nil))))))
    (pss_cons (ps_if (PW.pt (pw_or (pt_cmpR op_notBl (pe_call D_shows_ring_paper.ok (hr.mono (by decide)) (by rfl) D_shows_ring_paper.g D_shows_ring_paper.kp D_shows_ring_paper.b .nil (passes_call (takes_of rfl rfl rfl rfl) fun _ _ _ _ h => h) (pa_cons (pv 4) (pa_cons pe_str (pa_cons (pv 7) pa_nil)))) pe_bl (nomark _)) (pw_or1 (pt_cmpR (op_neK (K := G.K) rfl (hu64 hr)) (pe_ix (ix_K (K := G.K) rfl) (pe_call D_ring_rows.ok (hr.mono (by decide)) (by rfl) D_ring_rows.g D_ring_rows.kp D_ring_rows.b .nil (passes_call (takes_of rfl rfl rfl rfl) fun _ _ _ _ h => h) (pa_cons (pv 4) (pa_cons pe_str (pa_cons (pv 7) (pa_cons pe_int pa_nil))))) pe_int (fun _ _ => rfl)) (pe_tup (pa_cons pe_int (pa_cons pe_int (pa_cons (pe_un un_neg pe_int) (pa_cons (pe_un un_neg pe_int) (pa_cons pe_int pa_nil)))))) (nomark _))))) (pss_one Mk.ps_fail) pss_nil)
    (pss_cons (ps_if (PW.pt (pw_or (pt_cmpR op_notBl (pe_call D_rings.ok (hr.mono (by decide)) (by rfl) D_rings.g D_rings.kp D_rings.b .nil (passes_call (takes_of rfl rfl rfl rfl) fun _ _ _ _ h => h) (pa_cons (pv 5) (pa_cons (pe_tup (pa_cons pe_int (pa_cons pe_int pa_nil))) pa_nil))) pe_bl (nomark _)) (pw_or (pt_cmpR (op_neK (K := G.K) rfl (hu64 hr)) (pe_call D_first_ring.ok (hr.mono (by decide)) (by rfl) D_first_ring.g D_first_ring.kp D_first_ring.b .nil (passes_call (takes_of rfl rfl rfl rfl) fun _ _ _ _ h => h) (pa_cons (pv 4) (pa_cons (pe_tup (pa_cons pe_int (pa_cons pe_int (pa_cons pe_int pa_nil)))) pa_nil))) pe_int (nomark _)) (pw_or1 (pt_cmpR op_notN (pe_call D_first_ring.ok (hr.mono (by decide)) (by rfl) D_first_ring.g D_first_ring.kp D_first_ring.b .nil (passes_call (takes_of rfl rfl rfl rfl) fun _ _ _ _ h => h) (pa_cons (pv 4) (pa_cons (pe_tup (pa_cons pe_int (pa_cons (pe_un un_neg pe_int) (pa_cons pe_int pa_nil)))) pa_nil))) pe_non (nomark _)))))) (pss_one Mk.ps_fail) pss_nil)
    (pss_cons (ps_set (i := 8) sc_law.nd rfl (by first | exact Or.inl rfl | exact Or.inr rfl) (pe_tup (pa_cons (pe_tup (pa_cons (pe_tup (pa_cons (pe_tup (pa_cons pe_int (pa_cons pe_int pa_nil))) pa_nil)) (pa_cons (pe_tup (pa_cons (pe_tup (pa_cons pe_int (pa_cons pe_int pa_nil))) pa_nil)) pa_nil))) (pa_cons (pe_tup (pa_cons (pe_tup (pa_cons pe_int pa_nil)) (pa_cons (pe_tup (pa_cons pe_int pa_nil)) pa_nil))) pa_nil))))
    (pss_cons (ps_if (PW.pt (pw_or (pt_cmpR op_notBl (pe_call D_shows_ringer.ok (hr.mono (by decide)) (by rfl) D_shows_ringer.g D_shows_ringer.kp D_shows_ringer.b .nil (passes_call (takes_of rfl rfl rfl rfl) fun _ _ _ _ h => h) (pa_cons (pv 5) (pa_cons pe_str (pa_cons (pv 8) pa_nil)))) pe_bl (nomark _)) (pw_or1 (pt_cmpR op_notBl (pe_call D_rings_right.ok (hr.mono (by decide)) (by rfl) D_rings_right.g D_rings_right.kp D_rings_right.b .nil (passes_call (takes_of rfl rfl rfl rfl) fun _ _ _ _ h => h) (pa_cons (pv 5) (pa_cons pe_str (pa_cons (pv 8) pa_nil)))) pe_bl (nomark _))))) (pss_one Mk.ps_fail) pss_nil)
    (pss_cons (ps_if (pt_cmpR (op_neK (K := G.K) rfl (hu64 hr)) (pe_call D_ring_fault.ok (hr.mono (by decide)) (by rfl) D_ring_fault.g D_ring_fault.kp D_ring_fault.b .nil (passes_call (takes_of rfl rfl rfl rfl) fun _ _ _ _ h => h) (pa_cons (pv 5) (pa_cons pe_str (pa_cons (pe_tup (pa_cons (pe_tup (pa_cons (pe_tup (pa_cons (pe_tup (pa_cons pe_int (pa_cons pe_int pa_nil))) pa_nil)) pa_nil)) (pa_cons (pe_tup (pa_cons (pe_tup (pa_cons pe_int pa_nil)) pa_nil)) pa_nil))) pa_nil)))) (pe_tup (pa_cons pe_int (pa_cons pe_int pa_nil))) (nomark _)) (pss_one Mk.ps_fail) pss_nil)
    (pss_one (ps_ret (pe_cmpR op_isBl (pe_call D_can_ring.ok (hr.mono (by decide)) (by rfl) D_can_ring.g D_can_ring.kp D_can_ring.b .nil (passes_call (takes_of rfl rfl rfl rfl) fun _ _ _ _ h => h) (pa_cons (pe_tup (pa_cons (pe_tup (pa_cons (pe_tup (pa_cons pe_int (pa_cons pe_int pa_nil))) pa_nil)) (pa_cons (pe_tup (pa_cons (pe_call D__law_taken.ok (hr.mono (by decide)) (by rfl) D__law_taken.g D__law_taken.kp D__law_taken.b .nil (passes_call (takes_of rfl rfl rfl rfl) fun _ _ _ _ h => h) (pa_cons (pv 1) (pa_cons pe_int pa_nil))) pa_nil)) pa_nil))) (pa_cons pe_str pa_nil))) pe_bl (nomark _))))))))))))))), ?_⟩
  refine Mk.c_seq (Mk.c_set (Mk.va_cons (Mk.v_var rfl) (Mk.va_cons Mk.v_c (Mk.va_cons Mk.v_c (Mk.va_cons Mk.v_c Mk.va_nil))) _ ⟨by show 4 ≤ sizeLine; decide, fun r hr0 => ?_⟩))
  exact law_end2 (n := 10) (i := 1) (ms := m_law) Z.M (show ExS G E _ m_law from (exs_seq (exs_asg (ex_tup Z.M (exa_cons (ex_tup Z.M (exa_cons (ex_tup Z.M (exa_cons (ex_tup Z.M (exa_cons ex_int (exa_cons ex_int exa_nil))) (exa_cons (ex_tup Z.M (exa_cons ex_int (exa_cons ex_int exa_nil))) exa_nil))) (exa_cons (ex_tup Z.M (exa_cons ex_int (exa_cons ex_int exa_nil))) exa_nil))) (exa_cons (ex_tup Z.M (exa_cons (ex_tup Z.M (exa_cons (ex_tup Z.M (exa_cons ex_int (exa_cons ex_int exa_nil))) (exa_cons (ex_tup Z.M (exa_cons ex_int (exa_cons ex_int exa_nil))) exa_nil))) (exa_cons (ex_tup Z.M (exa_cons ex_int (exa_cons ex_int exa_nil))) exa_nil))) exa_nil))) (exg_tup (exgs_cons exg_name (exgs_cons exg_name exgs_nil))))
    (exs_seq (exs_asg (ex_tup Z.M (exa_cons (ex_tup Z.M (exa_cons (ex_tup Z.M (exa_cons (ex_tup Z.M (exa_cons ex_int (exa_cons ex_int exa_nil))) (exa_cons (ex_tup Z.M (exa_cons ex_int (exa_cons ex_int exa_nil))) (exa_cons (ex_tup Z.M (exa_cons ex_int (exa_cons ex_int exa_nil))) exa_nil)))) (exa_cons (ex_tup Z.M (exa_cons ex_int (exa_cons ex_int (exa_cons ex_int exa_nil)))) exa_nil))) (exa_cons (ex_tup Z.M (exa_cons (ex_tup Z.M (exa_cons (ex_tup Z.M (exa_cons ex_int exa_nil)) (exa_cons (ex_tup Z.M (exa_cons ex_int exa_nil)) (exa_cons (ex_tup Z.M (exa_cons ex_int exa_nil)) exa_nil)))) (exa_cons (ex_tup Z.M (exa_cons ex_int (exa_cons ex_int (exa_cons ex_int exa_nil)))) exa_nil))) exa_nil))) (exg_tup (exgs_cons exg_name (exgs_cons exg_name exgs_nil))))
    (exs_seq (exs_asg (ex_2 (ok_catL Z.M) (ex_lc Z.M (exi_lst (ex_lst Z.M (exa_cons ex_var (exa_cons ex_var (exa_cons ex_var (exa_cons ex_var exa_nil)))))) (exw_name (by decide)) ext_yes (ex_callP (fun _ _ => imL_nil) (exa_cons ex_var (exa_cons ex_str exa_nil)))) (ex_lst Z.M (exa_cons (ex_callP (fun _ _ => imL_nil) (exa_cons ex_var (exa_cons ex_str exa_nil))) (exa_cons (ex_callP (fun _ _ => imL_nil) (exa_cons ex_var (exa_cons ex_str exa_nil))) exa_nil)))) exg_name)
    (exs_seq (exs_if (ext_test (ex_2 ok_ne ex_var (ex_lst Z.M (exa_cons ex_bl (exa_cons ex_bl (exa_cons ex_bl (exa_cons ex_bl (exa_cons ex_bl (exa_cons ex_bl exa_nil))))))))) exs_fail exs_next)
    (exs_seq (exs_asg (ex_tup Z.M (exa_cons (ex_tup Z.M exa_nil) (exa_cons (ex_tup Z.M (exa_cons ex_int exa_nil)) (exa_cons (ex_tup Z.M (exa_cons ex_int exa_nil)) (exa_cons (ex_tup Z.M (exa_cons ex_int exa_nil)) exa_nil))))) exg_name)
    (exs_seq (exs_if (ext_or (ext_test (ex_2 ok_notB (ex_callP (fun _ _ => imL_nil) (exa_cons ex_var (exa_cons ex_str (exa_cons ex_var exa_nil)))) ex_bl)) (ext_test (ex_2 ok_ne (ex_2 ok_ix (ex_callP (fun _ _ => imL_nil) (exa_cons ex_var (exa_cons ex_str (exa_cons ex_var (exa_cons ex_int exa_nil))))) ex_int) (ex_tup Z.M (exa_cons ex_int (exa_cons ex_int (exa_cons (ex_1 ok_neg ex_int) (exa_cons (ex_1 ok_neg ex_int) (exa_cons ex_int exa_nil))))))))) exs_fail exs_next)
    (exs_seq (exs_if (ext_or (ext_test (ex_2 ok_notB (ex_callP (fun _ _ => imL_nil) (exa_cons ex_var (exa_cons (ex_tup Z.M (exa_cons ex_int (exa_cons ex_int exa_nil))) exa_nil))) ex_bl)) (ext_or (ext_test (ex_2 ok_ne (ex_callP (fun _ _ => imL_nil) (exa_cons ex_var (exa_cons (ex_tup Z.M (exa_cons ex_int (exa_cons ex_int (exa_cons ex_int exa_nil)))) exa_nil))) ex_int)) (ext_test (ex_2 ok_notN (ex_callP (fun _ _ => imL_nil) (exa_cons ex_var (exa_cons (ex_tup Z.M (exa_cons ex_int (exa_cons (ex_1 ok_neg ex_int) (exa_cons ex_int exa_nil)))) exa_nil))) ex_non)))) exs_fail exs_next)
    (exs_seq (exs_asg (ex_tup Z.M (exa_cons (ex_tup Z.M (exa_cons (ex_tup Z.M (exa_cons (ex_tup Z.M (exa_cons ex_int (exa_cons ex_int exa_nil))) exa_nil)) (exa_cons (ex_tup Z.M (exa_cons (ex_tup Z.M (exa_cons ex_int (exa_cons ex_int exa_nil))) exa_nil)) exa_nil))) (exa_cons (ex_tup Z.M (exa_cons (ex_tup Z.M (exa_cons ex_int exa_nil)) (exa_cons (ex_tup Z.M (exa_cons ex_int exa_nil)) exa_nil))) exa_nil))) exg_name)
    (exs_seq (exs_if (ext_or (ext_test (ex_2 ok_notB (ex_callP (fun _ _ => imL_nil) (exa_cons ex_var (exa_cons ex_str (exa_cons ex_var exa_nil)))) ex_bl)) (ext_test (ex_2 ok_notB (ex_callP (fun _ _ => imL_nil) (exa_cons ex_var (exa_cons ex_str (exa_cons ex_var exa_nil)))) ex_bl))) exs_fail exs_next)
    (exs_seq (exs_if (ext_test (ex_2 ok_ne (ex_callP (fun _ _ => imL_nil) (exa_cons ex_var (exa_cons ex_str (exa_cons (ex_tup Z.M (exa_cons (ex_tup Z.M (exa_cons (ex_tup Z.M (exa_cons (ex_tup Z.M (exa_cons ex_int (exa_cons ex_int exa_nil))) exa_nil)) exa_nil)) (exa_cons (ex_tup Z.M (exa_cons (ex_tup Z.M (exa_cons ex_int exa_nil)) exa_nil)) exa_nil))) exa_nil)))) (ex_tup Z.M (exa_cons ex_int (exa_cons ex_int exa_nil))))) exs_fail exs_next)
    (exs_ret (ex_2 ok_isB (ex_callP (fun _ _ => imL_nil) (exa_cons (ex_tup Z.M (exa_cons (ex_tup Z.M (exa_cons (ex_tup Z.M (exa_cons ex_int (exa_cons ex_int exa_nil))) exa_nil)) (exa_cons (ex_tup Z.M (exa_cons (ex_call (fun _ _ => imL_nil) (exa_cons ex_var (exa_cons ex_int exa_nil))) exa_nil)) exa_nil))) (exa_cons ex_str exa_nil))) ex_bl))))))))))))) hs hA q hr0 rfl (by decide) (by decide) (by with_reducible exact hold)
end
end Mx

/-! ### MqG4 -/
set_option Elab.async false
set_option linter.all false
set_option maxRecDepth 100000
set_option maxHeartbeats 4000000
namespace Mx
open PySem PySem.Spec PyProof.Rows L2
open GxR (TabG Tabbed)
section
variable {P : Program} {G : Gx} {T : List Addr} {mg : Str → Option Value} {base : Heap}
theorem sc_are_steps : FnScope ["value", "names", "last", "nexts"] ["value"] (defScope (top 18)) := ⟨rfl, rfl, rfl, by decide +kernel, rfl, by decide +kernel, by decide +kernel⟩
theorem ok_are_steps (Z : Fx P G.w G T mg base) {f : Addr} {fd : FuncData} (Fd : Fun G.K "are_steps" "are_steps" (top 18) f fd)
    {a_is_tuple_of : Addr} {fd_is_tuple_of : FuncData} (D_is_tuple_of : DefX P G.w G mg base 1 "is_tuple_of" a_is_tuple_of fd_is_tuple_of ["value", "least", "most"] [] 3 f_is_tuple_of)
    {a_are_numbers : Addr} {fd_are_numbers : FuncData} (D_are_numbers : DefX P G.w G mg base 3 "are_numbers" a_are_numbers fd_are_numbers ["value", "many", "most"] [] 3 f_are_numbers)
    {c T0 : Addr} (hT : T0 ∈ T) (O : OwnX mg base fd c T0) :
    FnOk P G.w G.K mg base (L2.CX P G.w) 5 f fd ["value"] (spX G 1 f_are_steps) := by
  obtain ⟨t_MOST_STATES, g_MOST_STATES⟩ := Z.i_MOST_STATES
  obtain ⟨t_MOST_NAMES, g_MOST_NAMES⟩ := Z.i_MOST_NAMES
  refine okXC Fd sc_are_steps (fun vs H Q E h => h.1) (fun Ar outer s H vs Q E hr h => ?_)
  refine ⟨_, (pss_cons (ps_if (PW.pt (pw_or (pt_not (pt_val (pe_call D_is_tuple_of.ok (hr.mono (by decide)) (by rfl) D_is_tuple_of.g D_is_tuple_of.kp D_is_tuple_of.b .nil (passes_call (takes_of rfl rfl rfl rfl) fun _ _ _ _ h => h) (pa_cons (pv 0) (pa_cons pe_int (pa_cons (pe_glob (v := .int (6)) (by rfl) g_MOST_STATES ⟨_, rfl⟩) pa_nil)))))) (pw_or1 (pt_not (pt_val (pe_call D_is_tuple_of.ok (hr.mono (by decide)) (by rfl) D_is_tuple_of.g D_is_tuple_of.kp D_is_tuple_of.b .nil (passes_call (takes_of rfl rfl rfl rfl) fun _ _ _ _ h => h) (pa_cons (pe_ix (ix_K (K := G.K) rfl) (pv 0) pe_int (fun _ _ => rfl)) (pa_cons pe_int (pa_cons (pe_glob (v := .int (3)) (by rfl) g_MOST_NAMES ⟨_, rfl⟩) pa_nil))))))))) (pss_one Mk.ps_fail) pss_nil)
    (pss_cons (ps_set (i := 1) sc_are_steps.nd rfl (by first | exact Or.inl rfl | exact Or.inr rfl) (pe_callB (call_lenK (K := G.K) rfl) (by rfl) Z.z_len boot_len (pa_cons (pe_ix (ix_K (K := G.K) rfl) (pv 0) pe_int (fun _ _ => rfl)) pa_nil)))
    (pss_cons (ps_set (i := 2) sc_are_steps.nd rfl (by first | exact Or.inl rfl | exact Or.inr rfl) (pe_op op_sub (pe_callB (call_lenK (K := G.K) rfl) (by rfl) Z.z_len boot_len (pa_cons (pv 0) pa_nil)) pe_int))
    (pss_one (ps_ret (Mk.pe_all (own := [("nexts", 3)]) hr (by rfl) Z.z_all O.tb O.code (gOk_by (N := ["value", "names", "last", "nexts"]) (sc := defScope (top 18)) (by decide +kernel)) sc_are_steps.nd (pi_tupK (K := G.K) rfl (pv 0)) (fun _ _ _ _ _ _ _ => (pg_name (i := 3) sc_are_steps.nd rfl (by first | exact Or.inl rfl | exact Or.inr rfl))) (fun _ _ _ _ _ _ _ => (pe_call D_are_numbers.ok (Room.mono (room_gen hr) (by decide)) (by rfl) D_are_numbers.g D_are_numbers.kp D_are_numbers.b .nil passF (pa_cons (pv 3) (pa_cons (pv 1) (pa_cons (pv 2) pa_nil))))))))))), ?_⟩
  exact fn_of_ex (n := 1) (pad := 3) rfl ((exs_seq (exs_if (ext_or (ext_not (ext_B (ex_callP (fun _ _ => imL_nil) (exa_cons ex_var (exa_cons ex_int (exa_cons ex_int exa_nil)))))) (ext_not (ext_B (ex_callP (fun _ _ => imL_nil) (exa_cons (ex_2 ok_ix ex_var ex_int) (exa_cons ex_int (exa_cons ex_int exa_nil))))))) exs_fail exs_next)
    (exs_seq (exs_asg (ex_cb ok_len (exa_cons (ex_2 ok_ix ex_var ex_int) exa_nil)) exg_name)
    (exs_seq (exs_asg (ex_2 ok_sub (ex_cb ok_len (exa_cons ex_var exa_nil)) ex_int) exg_name)
    (exs_ret (ex_all Z.M hT (exi_tup ex_var) (exw_name (by decide)) (ex_callP (fun _ _ => imL_nil) (exa_cons ex_var (exa_cons ex_var (exa_cons ex_var exa_nil)))))))))) h
theorem sc_numbered : FnScope ["keys", "numbers", "key"] ["keys"] (defScope (top 25)) := ⟨rfl, rfl, rfl, by decide +kernel, rfl, by decide +kernel, by decide +kernel⟩
theorem ok_numbered (Z : Fx P G.w G T mg base) {f : Addr} {fd : FuncData} (Fd : Fun G.K "numbered" "numbered" (top 25) f fd) :
    FnOk P G.w G.K mg base (L2.CX P G.w) 1 f fd ["keys"] (spX G 1 f_numbered) := by
  refine okXC Fd sc_numbered (fun vs H Q E h => h.1) (fun Ar outer s H vs Q E hr h => ?_)
  refine ⟨_, (pss_cons (ps_set (i := 1) sc_numbered.nd rfl (by first | exact Or.inl rfl | exact Or.inr rfl) pe_dnewK)
    (pss_cons (ps_for (passes_of rfl) rfl (Mk.pi_seqK (K := G.K) rfl (pv 0)) (pg_name (i := 2) sc_numbered.nd rfl (by first | exact Or.inl rfl | exact Or.inr rfl))
    (pss_one (ps_expr (Mk.pe_xsetdK (K := G.K) (w := G.w) rfl (hu64 hr) (pv 1) (pv 2) (pe_callB Mk.call_lenX (by rfl) Z.z_len boot_len (pa_cons (pv 1) pa_nil)) ⟨rfl, rfl, rfl, rfl⟩))))
    (pss_one (ps_ret (pe_callTy (call_tupK (K := G.K) rfl) (by rfl) Z.z_tuple boot_tuple' (pa_cons (pe_lc (own := [("key", 2)]) rfl sc_numbered.nd (Mk.pi_seqK (K := G.K) rfl (pv 0)) (blkOk_by (N := ["keys", "numbers", "key"]) (sc := defScope (top 25)) (by decide +kernel)) (fun _ _ _ _ _ => (pg_name (i := 2) sc_numbered.nd rfl (by first | exact Or.inl rfl | exact Or.inr rfl))) (fun _ _ _ _ _ => pts_nil) (fun _ _ _ _ _ => (Mk.pe_xgetK (K := G.K) (w := G.w) rfl (hu64 hr) (pv 1) (pv 2) (fun _ _ => rfl)))) pa_nil)))))), ?_⟩
  exact fn_of_ex (n := 1) (pad := 2) rfl ((exs_seq (exs_asg (ex_dct0 Z.M) exg_name)
    (exs_seq (exs_for (exi_seq ex_var) exg_name
    (exs_drop (ex_setd Z.M ex_var ex_var (ex_cb ok_lenD (exa_cons ex_var exa_nil)))))
    (exs_ret (ex_cb (ok_tuple Z.M) (exa_cons (ex_lc Z.M (exi_seq ex_var) (exw_name (by decide)) ext_yes (ex_dget ex_var ex_var)) exa_nil)))))) h
theorem sc_answers_due : FnScope ["question", "row", "steps", "answers", "pile", "due", "tag"] ["question", "row"] (defScope (top 34)) := ⟨rfl, rfl, rfl, by decide +kernel, rfl, by decide +kernel, by decide +kernel⟩
theorem ok_answers_due (Z : Fx P G.w G T mg base) {f : Addr} {fd : FuncData} (Fd : Fun G.K "answers_due" "answers_due" (top 34) f fd)
    {a_check_question : Addr} {fd_check_question : FuncData} (D_check_question : DefX P G.w G mg base 6 "check_question" a_check_question fd_check_question ["value"] [] 1 f_check_question)
    {a_check_row : Addr} {fd_check_row : FuncData} (D_check_row : DefX P G.w G mg base 2 "check_row" a_check_row fd_check_row ["names", "value"] [] 2 f_check_row)
    {a_names_of : Addr} {fd_names_of : FuncData} (D_names_of : DefX P G.w G mg base 1 "names_of" a_names_of fd_names_of ["question"] [] 1 f_names_of) :
    FnOk P G.w G.K mg base (L2.CX P G.w) 7 f fd ["question", "row"] (spX G 2 f_answers_due) := by
  obtain ⟨t_CLOSING, g_CLOSING⟩ := Z.i_CLOSING
  refine okXC Fd sc_answers_due (fun vs H Q E h => h.1) (fun Ar outer s H vs Q E hr h => ?_)
  refine ⟨_, (pss_cons (ps_expr (pe_call D_check_question.ok (hr.mono (by decide)) (by rfl) D_check_question.g D_check_question.kp D_check_question.b .nil (passes_call (takes_of rfl rfl rfl rfl) fun _ _ _ _ h => h) (pa_cons (pv 0) pa_nil)))
    (pss_cons (ps_expr (pe_call D_check_row.ok (hr.mono (by decide)) (by rfl) D_check_row.g D_check_row.kp D_check_row.b .nil (passes_call (takes_of rfl rfl rfl rfl) fun _ _ _ _ h => h) (pa_cons (pe_call D_names_of.ok (hr.mono (by decide)) (by rfl) D_names_of.g D_names_of.kp D_names_of.b .nil (passes_call (takes_of rfl rfl rfl rfl) fun _ _ _ _ h => h) (pa_cons (pv 0) pa_nil)) (pa_cons (pv 1) pa_nil))))
    (pss_cons (ps_asg (pv 0) (pg_tupK (K := G.K) (n := 2) rfl rfl (pgs_cons (pg_name (i := 2) sc_answers_due.nd rfl (by first | exact Or.inl rfl | exact Or.inr rfl)) (pgs_cons (pg_name (i := 3) sc_answers_due.nd rfl (by first | exact Or.inl rfl | exact Or.inr rfl)) pgs_nil))))
    (pss_cons (ps_set (i := 4) sc_answers_due.nd rfl (by first | exact Or.inl rfl | exact Or.inr rfl) (pe_lst (pa_cons pe_int pa_nil)))
    (pss_cons (ps_set (i := 5) sc_answers_due.nd rfl (by first | exact Or.inl rfl | exact Or.inr rfl) (pe_lst pa_nil))
    (pss_cons (ps_for (passes_of rfl) rfl (pi_tupK (K := G.K) rfl (pv 1)) (pg_name (i := 6) sc_answers_due.nd rfl (by first | exact Or.inl rfl | exact Or.inr rfl))
    (pss_one (ps_if (pt_cmpR (op_eqK (K := G.K) rfl (hu64 hr)) (pv 6) (pe_glob (v := .int (-1)) (by rfl) g_CLOSING ⟨_, rfl⟩) (nomark _)) (pss_one (ps_expr (pe_bm0K' (K := G.K) rfl PySem.F.plainAttrs_list PySem.F.slot_list_pop PySem.F.type_list_pop mt_pop (pv 4)))) (pss_cons (ps_expr (pe_bmK (K := G.K) rfl PySem.F.plainAttrs_list PySem.F.slot_list_append PySem.F.type_list_append mt_append (pv 4) (pa_cons (pe_ix (ix_K (K := G.K) rfl) (pe_ix (ix_K (K := G.K) rfl) (pv 2) (pe_ix (ix_K (K := G.K) rfl) (pv 4) (pe_un un_neg pe_int) (fun _ _ => rfl)) (fun _ _ => rfl)) (pv 6) (fun _ _ => rfl)) pa_nil)))
    (pss_one (ps_expr (pe_bmK (K := G.K) rfl PySem.F.plainAttrs_list PySem.F.slot_list_append PySem.F.type_list_append mt_append (pv 5) (pa_cons (pe_ix (ix_K (K := G.K) rfl) (pv 3) (pe_ix (ix_K (K := G.K) rfl) (pv 4) (pe_un un_neg pe_int) (fun _ _ => rfl)) (fun _ _ => rfl)) pa_nil))))))))
    (pss_one (ps_ret (pe_callTy (call_tupK (K := G.K) rfl) (by rfl) Z.z_tuple boot_tuple' (pa_cons (pv 5) pa_nil)))))))))), ?_⟩
  exact fn_of_ex (n := 2) (pad := 5) rfl ((exs_seq (exs_drop (ex_callP (fun _ _ => imL_nil) (exa_cons ex_var exa_nil)))
    (exs_seq (exs_drop (ex_callP (fun _ _ => imL_nil) (exa_cons (ex_callP (fun _ _ => imL_nil) (exa_cons ex_var exa_nil)) (exa_cons ex_var exa_nil))))
    (exs_seq (exs_asg ex_var (exg_tup (exgs_cons exg_name (exgs_cons exg_name exgs_nil))))
    (exs_seq (exs_asg (ex_lst Z.M (exa_cons ex_int exa_nil)) exg_name)
    (exs_seq (exs_asg (ex_lst Z.M exa_nil) exg_name)
    (exs_seq (exs_for (exi_tup ex_var) exg_name
    (exs_if (ext_test (ex_2 ok_eq ex_var ex_int)) (exs_drop (ex_bm0 (ok_pop Z.M) ex_var)) (exs_seq (exs_drop (ex_bm (ok_append Z.M) ex_var (exa_cons (ex_2 ok_ix (ex_2 ok_ix ex_var (ex_2 ok_ix ex_var (ex_1 ok_neg ex_int))) ex_var) exa_nil)))
    (exs_drop (ex_bm (ok_append Z.M) ex_var (exa_cons (ex_2 ok_ix ex_var (ex_2 ok_ix ex_var (ex_1 ok_neg ex_int))) exa_nil))))))
    (exs_ret (ex_cb (ok_tuple Z.M) (exa_cons ex_var exa_nil)))))))))) h
theorem sc_wrong_part : FnScope ["names", "manner", "value", "most", "opens", "closes"] ["names", "manner", "value", "most"] (defScope (top 44)) := ⟨rfl, rfl, rfl, by decide +kernel, rfl, by decide +kernel, by decide +kernel⟩
theorem ok_wrong_part (Z : Fx P G.w G T mg base) {f : Addr} {fd : FuncData} (Fd : FunD G.K "wrong_part" "wrong_part" (defArgs (top 44)) (defBody (top 44)) (defScope (top 44)) [V.int (6)] [] f fd)
    {a_is_tuple_of : Addr} {fd_is_tuple_of : FuncData} (D_is_tuple_of : DefX P G.w G mg base 1 "is_tuple_of" a_is_tuple_of fd_is_tuple_of ["value", "least", "most"] [] 3 f_is_tuple_of)
    {a_are_opens : Addr} {fd_are_opens : FuncData} (D_are_opens : DefX P G.w G mg base 6 "are_opens" a_are_opens fd_are_opens ["value", "names", "most"] [] 3 f_are_opens)
    {a_are_closes : Addr} {fd_are_closes : FuncData} (D_are_closes : DefX P G.w G mg base 5 "are_closes" a_are_closes fd_are_closes ["value", "states", "ways"] [] 3 f_are_closes)
    {a_ways_to_close : Addr} {fd_ways_to_close : FuncData} (D_ways_to_close : DefX P G.w G mg base 1 "ways_to_close" a_ways_to_close fd_ways_to_close ["names", "manner"] [] 2 f_ways_to_close) :
    FnOk P G.w G.K mg base (L2.CX P G.w) 7 f fd ["names", "manner", "value", "most"] (spX G 4 f_wrong_part) := by
  refine okXD Fd sc_wrong_part (fun vs H Q E h => h.1) (fun Ar outer s H vs Q E hr h => ?_)
  refine ⟨_, (pss_cons (ps_if (pt_not (pt_val (pe_call D_is_tuple_of.ok (hr.mono (by decide)) (by rfl) D_is_tuple_of.g D_is_tuple_of.kp D_is_tuple_of.b .nil (passes_call (takes_of rfl rfl rfl rfl) fun _ _ _ _ h => h) (pa_cons (pv 2) (pa_cons pe_int (pa_cons pe_int pa_nil)))))) (pss_one Mk.ps_fail) pss_nil)
    (pss_cons (ps_asg (pv 2) (pg_tupK (K := G.K) (n := 2) rfl rfl (pgs_cons (pg_name (i := 4) sc_wrong_part.nd rfl (by first | exact Or.inl rfl | exact Or.inr rfl)) (pgs_cons (pg_name (i := 5) sc_wrong_part.nd rfl (by first | exact Or.inl rfl | exact Or.inr rfl)) pgs_nil))))
    (pss_cons (ps_if (pt_not (pt_val (pe_call D_are_opens.ok (hr.mono (by decide)) (by rfl) D_are_opens.g D_are_opens.kp D_are_opens.b .nil (passes_call (takes_of rfl rfl rfl rfl) fun _ _ _ _ h => h) (pa_cons (pv 4) (pa_cons (pv 0) (pa_cons (pv 3) pa_nil)))))) (pss_one Mk.ps_fail) pss_nil)
    (pss_cons (ps_if (pt_not (pt_val (pe_call D_are_closes.ok (hr.mono (by decide)) (by rfl) D_are_closes.g D_are_closes.kp D_are_closes.b .nil (passes_call (takes_of rfl rfl rfl rfl) fun _ _ _ _ h => h) (pa_cons (pv 5) (pa_cons (pe_callB (call_lenK (K := G.K) rfl) (by rfl) Z.z_len boot_len (pa_cons (pv 4) pa_nil)) (pa_cons (pe_call D_ways_to_close.ok (hr.mono (by decide)) (by rfl) D_ways_to_close.g D_ways_to_close.kp D_ways_to_close.b .nil (passes_call (takes_of rfl rfl rfl rfl) fun _ _ _ _ h => h) (pa_cons (pv 0) (pa_cons (pv 1) pa_nil))) pa_nil)))))) (pss_one Mk.ps_fail) pss_nil)
    (pss_one (ps_ret pe_non)))))), ?_⟩
  exact fn_of_ex (n := 4) (pad := 2) rfl ((exs_seq (exs_if (ext_not (ext_B (ex_callP (fun _ _ => imL_nil) (exa_cons ex_var (exa_cons ex_int (exa_cons ex_int exa_nil)))))) exs_fail exs_next)
    (exs_seq (exs_asg ex_var (exg_tup (exgs_cons exg_name (exgs_cons exg_name exgs_nil))))
    (exs_seq (exs_if (ext_not (ext_B (ex_callP (fun _ _ => imL_nil) (exa_cons ex_var (exa_cons ex_var (exa_cons ex_var exa_nil)))))) exs_fail exs_next)
    (exs_seq (exs_if (ext_not (ext_B (ex_callP (fun _ _ => imL_nil) (exa_cons ex_var (exa_cons (ex_cb ok_len (exa_cons ex_var exa_nil)) (exa_cons (ex_callP (fun _ _ => imL_nil) (exa_cons ex_var (exa_cons ex_var exa_nil))) exa_nil)))))) exs_fail exs_next)
    (exs_ret ex_non)))))) h
theorem sc_one_move_back : FnScope ["steps", "moves", "found", "words", "state", "nexts", "other", "other_nexts", "name", "other_name", "goal", "word", "other_word"] ["steps", "moves", "found"] (defScope (top 59)) := ⟨rfl, rfl, rfl, by decide +kernel, rfl, by decide +kernel, by decide +kernel⟩
theorem ok_one_move_back (Z : Fx P G.w G T mg base) {f : Addr} {fd : FuncData} (Fd : Fun G.K "one_move_back" "one_move_back" (top 59) f fd) :
    FnOk P G.w G.K mg base (L2.CX P G.w) 1 f fd ["steps", "moves", "found"] (spX G 3 f_one_move_back) := by
  refine okXC Fd sc_one_move_back (fun vs H Q E h => h.1) (fun Ar outer s H vs Q E hr h => ?_)
  refine ⟨_, (pss_cons (ps_set (i := 3) sc_one_move_back.nd rfl (by first | exact Or.inl rfl | exact Or.inr rfl) pe_dnewK)
    (pss_cons (ps_for (passes_of rfl) rfl (pi_enTK (K := G.K) rfl (by rfl) Z.z_enumerate (pa_cons (pv 0) pa_nil)) (pg_tupK (K := G.K) (n := 2) rfl rfl (pgs_cons (pg_name (i := 4) sc_one_move_back.nd rfl (by first | exact Or.inl rfl | exact Or.inr rfl)) (pgs_cons (pg_name (i := 5) sc_one_move_back.nd rfl (by first | exact Or.inl rfl | exact Or.inr rfl)) pgs_nil)))
    (pss_one (ps_for (passes_of rfl) rfl (pi_enTK (K := G.K) rfl (by rfl) Z.z_enumerate (pa_cons (pv 0) pa_nil)) (pg_tupK (K := G.K) (n := 2) rfl rfl (pgs_cons (pg_name (i := 6) sc_one_move_back.nd rfl (by first | exact Or.inl rfl | exact Or.inr rfl)) (pgs_cons (pg_name (i := 7) sc_one_move_back.nd rfl (by first | exact Or.inl rfl | exact Or.inr rfl)) pgs_nil)))
    (pss_one (ps_for (passes_of rfl) rfl (pi_lstK (K := G.K) rfl (pv 1)) (pg_tupK (K := G.K) (n := 2) rfl rfl (pgs_cons (pg_name (i := 8) sc_one_move_back.nd rfl (by first | exact Or.inl rfl | exact Or.inr rfl)) (pgs_cons (pg_name (i := 9) sc_one_move_back.nd rfl (by first | exact Or.inl rfl | exact Or.inr rfl)) pgs_nil)))
    (pss_cons (ps_set (i := 10) sc_one_move_back.nd rfl (by first | exact Or.inl rfl | exact Or.inr rfl) (pe_tup (pa_cons (pe_ix (ix_K (K := G.K) rfl) (pv 5) (pv 8) (fun _ _ => rfl)) (pa_cons (pe_ix (ix_K (K := G.K) rfl) (pv 7) (pv 9) (fun _ _ => rfl)) pa_nil))))
    (pss_one (ps_if (PW.pt (pw_and (pt_cmpR (Mk.op_notInXK (K := G.K) (w := G.w) rfl (hu64 hr)) (pe_tup (pa_cons (pv 4) (pa_cons (pv 6) pa_nil))) (pv 2) (by rfl)) (pw_and1 (pt_cmpR (Mk.op_inXK (K := G.K) (w := G.w) rfl (hu64 hr)) (pv 10) (pv 2) (by rfl))))) (pss_cons (ps_asg (Mk.pe_xgetK (K := G.K) (w := G.w) rfl (hu64 hr) (pv 2) (pv 10) (fun _ _ => rfl)) (pg_tupK (K := G.K) (n := 2) rfl rfl (pgs_cons (pg_name (i := 11) sc_one_move_back.nd rfl (by first | exact Or.inl rfl | exact Or.inr rfl)) (pgs_cons (pg_name (i := 12) sc_one_move_back.nd rfl (by first | exact Or.inl rfl | exact Or.inr rfl)) pgs_nil))))
    (pss_one (ps_asg (pe_tup (pa_cons (pe_tup (pa_cons (pv 8) (Mk.pa_starK (K := G.K) rfl (pv 11) pa_nil))) (pa_cons (pe_tup (pa_cons (pv 9) (Mk.pa_starK (K := G.K) rfl (pv 12) pa_nil))) pa_nil))) (pg_sub (pv 3) (pe_tup (pa_cons (pv 4) (pa_cons (pv 6) pa_nil))) (Mk.set_XK (K := G.K) (w := G.w) rfl (hu64 hr)))))) pss_nil))))))))
    (pss_one (ps_ret (pv 3))))), ?_⟩
  exact fn_of_ex (n := 3) (pad := 10) rfl ((exs_seq (exs_asg (ex_dct0 Z.M) exg_name)
    (exs_seq (exs_for (exi_enT Z.M (exa_cons ex_var exa_nil)) (exg_tup (exgs_cons exg_name (exgs_cons exg_name exgs_nil)))
    (exs_for (exi_enT Z.M (exa_cons ex_var exa_nil)) (exg_tup (exgs_cons exg_name (exgs_cons exg_name exgs_nil)))
    (exs_for (exi_lst ex_var) (exg_tup (exgs_cons exg_name (exgs_cons exg_name exgs_nil)))
    (exs_seq (exs_asg (ex_tup Z.M (exa_cons (ex_2 ok_ix ex_var ex_var) (exa_cons (ex_2 ok_ix ex_var ex_var) exa_nil))) exg_name)
    (exs_if (ext_and (ext_test (ex_2 ok_dnotinX (ex_tup Z.M (exa_cons ex_var (exa_cons ex_var exa_nil))) ex_var)) (ext_test (ex_2 ok_dinX ex_var ex_var))) (exs_seq (exs_asg (ex_dget ex_var ex_var) (exg_tup (exgs_cons exg_name (exgs_cons exg_name exgs_nil))))
    (exs_asg (ex_tup Z.M (exa_cons (ex_tup Z.M (exa_cons ex_var (exa_star ex_var exa_nil))) (exa_cons (ex_tup Z.M (exa_cons ex_var (exa_star ex_var exa_nil))) exa_nil))) (exg_subD Z.M ex_var (ex_tup Z.M (exa_cons ex_var (exa_cons ex_var exa_nil)))))) exs_next)))))
    (exs_ret ex_var)))) h
theorem sc_are_paths : FnScope ["names", "value", "many", "part"] ["names", "value", "many"] (defScope (top 66)) := ⟨rfl, rfl, rfl, by decide +kernel, rfl, by decide +kernel, by decide +kernel⟩
theorem ok_are_paths (Z : Fx P G.w G T mg base) {f : Addr} {fd : FuncData} (Fd : Fun G.K "are_paths" "are_paths" (top 66) f fd)
    {a_is_tuple_of : Addr} {fd_is_tuple_of : FuncData} (D_is_tuple_of : DefX P G.w G mg base 1 "is_tuple_of" a_is_tuple_of fd_is_tuple_of ["value", "least", "most"] [] 3 f_is_tuple_of)
    {a_is_path : Addr} {fd_is_path : FuncData} (D_is_path : DefX P G.w G mg base 4 "is_path" a_is_path fd_is_path ["names", "value", "least", "most"] [] 4 f_is_path)
    {c T0 : Addr} (hT : T0 ∈ T) (O : OwnX mg base fd c T0) :
    FnOk P G.w G.K mg base (L2.CX P G.w) 6 f fd ["names", "value", "many"] (spX G 3 f_are_paths) := by
  obtain ⟨t_MOST_LENGTH, g_MOST_LENGTH⟩ := Z.i_MOST_LENGTH
  refine okXC Fd sc_are_paths (fun vs H Q E h => h.1) (fun Ar outer s H vs Q E hr h => ?_)
  refine ⟨_, (pss_one (ps_ret (pe_and (pe_call D_is_tuple_of.ok (hr.mono (by decide)) (by rfl) D_is_tuple_of.g D_is_tuple_of.kp D_is_tuple_of.b .nil (passes_call (takes_of rfl rfl rfl rfl) fun _ _ _ _ h => h) (pa_cons (pv 1) (pa_cons (pv 2) (pa_cons (pv 2) pa_nil)))) (pe_one (Mk.pe_all (own := [("part", 3)]) hr (by rfl) Z.z_all O.tb O.code (gOk_by (N := ["names", "value", "many", "part"]) (sc := defScope (top 66)) (by decide +kernel)) sc_are_paths.nd (pi_tupK (K := G.K) rfl (pv 1)) (fun _ _ _ _ _ _ _ => (pg_name (i := 3) sc_are_paths.nd rfl (by first | exact Or.inl rfl | exact Or.inr rfl))) (fun _ _ _ _ _ _ _ => (pe_call D_is_path.ok (Room.mono (room_gen hr) (by decide)) (by rfl) D_is_path.g D_is_path.kp D_is_path.b .nil passF (pa_cons (pv 0) (pa_cons (pv 3) (pa_cons pe_int (pa_cons (pe_glob (v := .int (2000)) (by rfl) g_MOST_LENGTH ⟨_, rfl⟩) pa_nil))))))))))), ?_⟩
  exact fn_of_ex (n := 3) (pad := 1) rfl ((exs_ret (ex_andV (ex_callP (fun _ _ => imL_nil) (exa_cons ex_var (exa_cons ex_var (exa_cons ex_var exa_nil)))) (ex_all Z.M hT (exi_tup ex_var) (exw_name (by decide)) (ex_callP (fun _ _ => imL_nil) (exa_cons ex_var (exa_cons ex_var (exa_cons ex_int (exa_cons ex_int exa_nil))))))))) h
theorem sc_checked_quiet : FnScope ["question", "manner"] ["question", "manner"] (defScope (top 75)) := ⟨rfl, rfl, rfl, by decide +kernel, rfl, by decide +kernel, by decide +kernel⟩
theorem ok_checked_quiet (Z : Fx P G.w G T mg base) {f : Addr} {fd : FuncData} (Fd : Fun G.K "checked_quiet" "checked_quiet" (top 75) f fd)
    {a_check_question : Addr} {fd_check_question : FuncData} (D_check_question : DefX P G.w G mg base 6 "check_question" a_check_question fd_check_question ["value"] [] 1 f_check_question)
    {a_check_manner : Addr} {fd_check_manner : FuncData} (D_check_manner : DefX P G.w G mg base 1 "check_manner" a_check_manner fd_check_manner ["value"] [] 1 f_check_manner)
    {a_quiet_from : Addr} {fd_quiet_from : FuncData} (D_quiet_from : DefX P G.w G mg base 4 "quiet_from" a_quiet_from fd_quiet_from ["question"] [] 1 f_quiet_from) :
    FnOk P G.w G.K mg base (L2.CX P G.w) 7 f fd ["question", "manner"] (spX G 2 f_checked_quiet) := by
  refine okXC Fd sc_checked_quiet (fun vs H Q E h => h.1) (fun Ar outer s H vs Q E hr h => ?_)
  refine ⟨_, (pss_cons (ps_expr (pe_call D_check_question.ok (hr.mono (by decide)) (by rfl) D_check_question.g D_check_question.kp D_check_question.b .nil (passes_call (takes_of rfl rfl rfl rfl) fun _ _ _ _ h => h) (pa_cons (pv 0) pa_nil)))
    (pss_cons (ps_expr (pe_call D_check_manner.ok (hr.mono (by decide)) (by rfl) D_check_manner.g D_check_manner.kp D_check_manner.b .nil (passes_call (takes_of rfl rfl rfl rfl) fun _ _ _ _ h => h) (pa_cons (pv 1) pa_nil)))
    (pss_one (ps_ret (pe_call D_quiet_from.ok (hr.mono (by decide)) (by rfl) D_quiet_from.g D_quiet_from.kp D_quiet_from.b .nil (passes_call (takes_of rfl rfl rfl rfl) fun _ _ _ _ h => h) (pa_cons (pv 0) pa_nil)))))), ?_⟩
  exact fn_of_ex (n := 2) (pad := 0) rfl ((exs_seq (exs_drop (ex_callP (fun _ _ => imL_nil) (exa_cons ex_var exa_nil)))
    (exs_seq (exs_drop (ex_callP (fun _ _ => imL_nil) (exa_cons ex_var exa_nil)))
    (exs_ret (ex_callP (fun _ _ => imL_nil) (exa_cons ex_var exa_nil)))))) h
theorem sc_Search_put_longer_run : FnScope ["self", "start", "middle", "end", "run", "mark"] ["self", "start", "middle", "end"] (defScope (inClass (top 54) 2)) := ⟨rfl, rfl, rfl, by decide +kernel, rfl, by decide +kernel, by decide +kernel⟩
theorem ok_Search_put_longer_run (Z : Fx P G.w G T mg base) {f : Addr} {fd : FuncData} (Fd : Fun G.K "put_longer_run" "Search.put_longer_run" (inClass (top 54) 2) f fd)
    {a_Search_put : Addr} {fd_Search_put : FuncData} (D_Search_put : MethX P G.w G mg base 1 (G.cl 0) "put" a_Search_put fd_Search_put ["self", "length", "key", "parts"] 4 f_Search_put) :
    FnOk P G.w G.K mg base (L2.CX P G.w) 2 f fd ["self", "start", "middle", "end"] (spX G 4 f_Search_put_longer_run) := by
  obtain ⟨t_RUN, g_RUN⟩ := Z.s_RUN
  obtain ⟨t_MARK, g_MARK⟩ := Z.s_MARK
  refine okXC Fd sc_Search_put_longer_run (fun vs H Q E h => h.1) (fun Ar outer s H vs Q E hr h => ?_)
  refine ⟨_, (pss_cons (ps_set (i := 4) sc_Search_put_longer_run.nd rfl (by first | exact Or.inl rfl | exact Or.inr rfl) (pe_tup (pa_cons (pe_glob (v := .str "run") (by rfl) g_RUN ⟨_, rfl⟩) (pa_cons (pv 1) (pa_cons (pv 2) pa_nil)))))
    (pss_cons (ps_set (i := 5) sc_Search_put_longer_run.nd rfl (by first | exact Or.inl rfl | exact Or.inr rfl) (pe_tup (pa_cons (pe_glob (v := .str "mark") (by rfl) g_MARK ⟨_, rfl⟩) (pa_cons (pv 2) (pa_cons (pv 3) pa_nil)))))
    (pss_one (ps_expr (pe_meth (pv 0) Z.cl_Search D_Search_put.m D_Search_put.ok (hr.mono (by decide)) D_Search_put.b .nil (passes_call (takes_of rfl rfl rfl rfl) fun _ _ _ _ h => h) (pa_cons (pe_op op_add (Mk.pe_xgetK (K := G.K) (w := G.w) rfl (hu64 hr) (pe_fldK (K := G.K) rfl (pv 0) rfl) (pv 4) (fun _ _ => rfl)) (Mk.pe_xgetK (K := G.K) (w := G.w) rfl (hu64 hr) (pe_fldK (K := G.K) rfl (pv 0) rfl) (pv 5) (fun _ _ => rfl))) (pa_cons (pe_tup (pa_cons (pe_glob (v := .str "run") (by rfl) g_RUN ⟨_, rfl⟩) (pa_cons (pv 1) (pa_cons (pv 3) pa_nil)))) (pa_cons (pe_tup (pa_cons (pv 4) (pa_cons (pv 5) pa_nil))) pa_nil)))))))), ?_⟩
  exact fn_of_ex (n := 4) (pad := 2) rfl ((exs_seq (exs_asg (ex_tup Z.M (exa_cons ex_str (exa_cons ex_var (exa_cons ex_var exa_nil)))) exg_name)
    (exs_seq (exs_asg (ex_tup Z.M (exa_cons ex_str (exa_cons ex_var (exa_cons ex_var exa_nil)))) exg_name)
    (exs_drop (ex_meth ex_var (exa_cons (ex_2 ok_add (ex_dget (ex_fld Z.cl_Search Z.na_Search_lengths ex_var) ex_var) (ex_dget (ex_fld Z.cl_Search Z.na_Search_lengths ex_var) ex_var)) (exa_cons (ex_tup Z.M (exa_cons ex_str (exa_cons ex_var (exa_cons ex_var exa_nil)))) (exa_cons (ex_tup Z.M (exa_cons ex_var (exa_cons ex_var exa_nil))) exa_nil)))))))) h
theorem sc_Search___init__ : FnScope ["self", "question", "manner", "reader", "silent", "pair"] ["self", "question", "manner", "reader", "silent"] (defScope (inClass (top 54) 0)) := ⟨rfl, rfl, rfl, by decide +kernel, rfl, by decide +kernel, by decide +kernel⟩
theorem ok_Search___init__ (Z : Fx P G.w G T mg base) {f : Addr} {fd : FuncData} (Fd : Fun G.K "__init__" "Search.__init__" (inClass (top 54) 0) f fd)
    {a_ways_to_go_on : Addr} {fd_ways_to_go_on : FuncData} (D_ways_to_go_on : DefX P G.w G mg base 1 "ways_to_go_on" a_ways_to_go_on fd_ways_to_go_on ["question", "reader", "silent"] [] 3 f_ways_to_go_on)
    {a_ways_to_come : Addr} {fd_ways_to_come : FuncData} (D_ways_to_come : DefX P G.w G mg base 1 "ways_to_come" a_ways_to_come fd_ways_to_come ["ways"] [] 1 f_ways_to_come)
    {a_Search_put : Addr} {fd_Search_put : FuncData} (D_Search_put : MethX P G.w G mg base 1 (G.cl 0) "put" a_Search_put fd_Search_put ["self", "length", "key", "parts"] 4 f_Search_put) :
    FnOk P G.w G.K mg base (L2.CX P G.w) 2 f fd ["self", "question", "manner", "reader", "silent"] (spX G 5 f_Search___init__) := by
  obtain ⟨a_BEGINNING, g_BEGINNING, h_BEGINNING⟩ := Z.t_BEGINNING
  obtain ⟨t_RUN, g_RUN⟩ := Z.s_RUN
  refine okXC Fd sc_Search___init__ (fun vs H Q E h => h.1) (fun Ar outer s H vs Q E hr h => ?_)
  refine ⟨_, (pss_cons (ps_fld (pv 0) (pv 1) rfl)
    (pss_cons (ps_fld (pv 0) (pv 2) rfl)
    (pss_cons (ps_fld (pv 0) (pv 3) rfl)
    (pss_cons (ps_fld (pv 0) (pe_call D_ways_to_go_on.ok (hr.mono (by decide)) (by rfl) D_ways_to_go_on.g D_ways_to_go_on.kp D_ways_to_go_on.b .nil (passes_call (takes_of rfl rfl rfl rfl) fun _ _ _ _ h => h) (pa_cons (pv 1) (pa_cons (pv 3) (pa_cons (pv 4) pa_nil)))) rfl)
    (pss_cons (ps_fld (pv 0) (pe_call D_ways_to_come.ok (hr.mono (by decide)) (by rfl) D_ways_to_come.g D_ways_to_come.kp D_ways_to_come.b .nil (passes_call (takes_of rfl rfl rfl rfl) fun _ _ _ _ h => h) (pa_cons (pe_fldK (K := G.K) rfl (pv 0) rfl) pa_nil)) rfl)
    (pss_cons (ps_fld (pv 0) pe_dnewK rfl)
    (pss_cons (ps_fld (pv 0) pe_dnewK rfl)
    (pss_cons (ps_fld (pv 0) (pe_lock (Mk.pe_xcK (K := G.K) (w := G.w) (own := [("pair", 5)]) rfl (hu64 hr) rfl sc_Search___init__.nd (Mk.pi_keysX (pe_fldK (K := G.K) rfl (pv 0) rfl)) (blkOk_by (N := ["self", "question", "manner", "reader", "silent", "pair"]) (sc := defScope (inClass (top 54) 0)) (by decide +kernel)) (fun _ _ _ _ _ => (pg_name (i := 5) sc_Search___init__.nd rfl (by first | exact Or.inl rfl | exact Or.inr rfl))) (fun _ _ _ _ _ => pts_nil) (fun _ _ _ _ _ => (pv 5)) (fun _ _ _ _ _ => (pe_lst pa_nil)))) rfl)
    (pss_cons (ps_fld (pv 0) (pe_lock (Mk.pe_xcK (K := G.K) (w := G.w) (own := [("pair", 5)]) rfl (hu64 hr) rfl sc_Search___init__.nd (Mk.pi_keysX (pe_fldK (K := G.K) rfl (pv 0) rfl)) (blkOk_by (N := ["self", "question", "manner", "reader", "silent", "pair"]) (sc := defScope (inClass (top 54) 0)) (by decide +kernel)) (fun _ _ _ _ _ => (pg_name (i := 5) sc_Search___init__.nd rfl (by first | exact Or.inl rfl | exact Or.inr rfl))) (fun _ _ _ _ _ => pts_nil) (fun _ _ _ _ _ => (pv 5)) (fun _ _ _ _ _ => (pe_lst pa_nil)))) rfl)
    (pss_cons (ps_fld (pv 0) (pe_lst pa_nil) rfl)
    (pss_cons (ps_fld (pv 0) (pe_lst pa_nil) rfl)
    (pss_cons (ps_expr (pe_meth (pv 0) Z.cl_Search D_Search_put.m D_Search_put.ok (hr.mono (by decide)) D_Search_put.b .nil (passes_call (takes_of rfl rfl rfl rfl) fun _ _ _ _ h => h) (pa_cons pe_int (pa_cons (pe_tup (pa_cons (pe_glob (v := .str "run") (by rfl) g_RUN ⟨_, rfl⟩) (pa_cons (pe_glob (v := .ref a_BEGINNING) (by rfl) g_BEGINNING rfl) (pa_cons (pe_tup (pa_cons pe_int (pa_cons pe_int pa_nil))) pa_nil)))) (pa_cons (pe_tup pa_nil) pa_nil)))))
    (pss_one (ps_lock (ps_for (passes_of rfl) rfl (Mk.pi_keysX (pe_fldK (K := G.K) rfl (pv 0) rfl)) (pg_name (i := 5) sc_Search___init__.nd rfl (by first | exact Or.inl rfl | exact Or.inr rfl))
    (pss_one (ps_expr (pe_meth (pv 0) Z.cl_Search D_Search_put.m D_Search_put.ok (hr.mono (by decide)) D_Search_put.b .nil (passes_call (takes_of rfl rfl rfl rfl) fun _ _ _ _ h => h) (pa_cons pe_int (pa_cons (pe_tup (pa_cons (pe_glob (v := .str "run") (by rfl) g_RUN ⟨_, rfl⟩) (pa_cons (pv 5) (pa_cons (pv 5) pa_nil)))) (pa_cons (pe_tup pa_nil) pa_nil))))))))))))))))))))), ?_⟩
  exact fn_of_ex (n := 5) (pad := 1) rfl ((exs_seq (exs_setF Z.M Z.cl_Search Z.na_Search_question ex_var ex_var)
    (exs_seq (exs_setF Z.M Z.cl_Search Z.na_Search_manner ex_var ex_var)
    (exs_seq (exs_setF Z.M Z.cl_Search Z.na_Search_reader ex_var ex_var)
    (exs_seq (exs_setF Z.M Z.cl_Search Z.na_Search_ways ex_var (ex_call (fun _ _ => imL_nil) (exa_cons ex_var (exa_cons ex_var (exa_cons ex_var exa_nil)))))
    (exs_seq (exs_setF Z.M Z.cl_Search Z.na_Search_ways_back ex_var (ex_call (fun _ _ => imL_nil) (exa_cons (ex_fld Z.cl_Search Z.na_Search_ways ex_var) exa_nil)))
    (exs_seq (exs_setF Z.M Z.cl_Search Z.na_Search_lengths ex_var (ex_dct0 Z.M))
    (exs_seq (exs_setF Z.M Z.cl_Search Z.na_Search_parts ex_var (ex_dct0 Z.M))
    (exs_seq (exs_setF Z.M Z.cl_Search Z.na_Search_run_starts ex_var (ex_lockF Z.M (ex_xc Z.M (exi_keys (ex_fld Z.cl_Search Z.na_Search_ways ex_var)) (exw_name (by decide)) ext_yes ex_var (ex_lst Z.M exa_nil))))
    (exs_seq (exs_setF Z.M Z.cl_Search Z.na_Search_mark_ends ex_var (ex_lockF Z.M (ex_xc Z.M (exi_keys (ex_fld Z.cl_Search Z.na_Search_ways ex_var)) (exw_name (by decide)) ext_yes ex_var (ex_lst Z.M exa_nil))))
    (exs_seq (exs_setF Z.M Z.cl_Search Z.na_Search_made ex_var (ex_lst Z.M exa_nil))
    (exs_seq (exs_setF Z.M Z.cl_Search Z.na_Search_waiting ex_var (ex_lst Z.M exa_nil))
    (exs_seq (exs_drop (ex_meth ex_var (exa_cons ex_int (exa_cons (ex_tup Z.M (exa_cons ex_str (exa_cons (ex_ctup (js := [-1, -1]) h_BEGINNING) (exa_cons (ex_tup Z.M (exa_cons ex_int (exa_cons ex_int exa_nil))) exa_nil)))) (exa_cons (ex_tup Z.M exa_nil) exa_nil)))))
    (exs_lockF Z.M (exs_for (exi_keys (ex_fld Z.cl_Search Z.na_Search_ways ex_var)) exg_name
    (exs_drop (ex_meth ex_var (exa_cons ex_int (exa_cons (ex_tup Z.M (exa_cons ex_str (exa_cons ex_var (exa_cons ex_var exa_nil)))) (exa_cons (ex_tup Z.M exa_nil) exa_nil)))))))))))))))))))) h
end
end Mx

/-! ### MqG5 -/
set_option Elab.async false
set_option linter.all false
set_option maxRecDepth 100000
set_option maxHeartbeats 4000000
namespace Mx
open PySem PySem.Spec PyProof.Rows L2
open GxR (TabG Tabbed)
section
variable {P : Program} {G : Gx} {T : List Addr} {mg : Str → Option Value} {base : Heap}
theorem sc_check_question : FnScope ["value", "steps", "answers"] ["value"] (defScope (top 19)) := ⟨rfl, rfl, rfl, by decide +kernel, rfl, by decide +kernel, by decide +kernel⟩
theorem ok_check_question (Z : Fx P G.w G T mg base) {f : Addr} {fd : FuncData} (Fd : Fun G.K "check_question" "check_question" (top 19) f fd)
    {a_is_tuple_of : Addr} {fd_is_tuple_of : FuncData} (D_is_tuple_of : DefX P G.w G mg base 1 "is_tuple_of" a_is_tuple_of fd_is_tuple_of ["value", "least", "most"] [] 3 f_is_tuple_of)
    {a_are_steps : Addr} {fd_are_steps : FuncData} (D_are_steps : DefX P G.w G mg base 5 "are_steps" a_are_steps fd_are_steps ["value"] [] 1 f_are_steps)
    {a_are_numbers : Addr} {fd_are_numbers : FuncData} (D_are_numbers : DefX P G.w G mg base 3 "are_numbers" a_are_numbers fd_are_numbers ["value", "many", "most"] [] 3 f_are_numbers) :
    FnOk P G.w G.K mg base (L2.CX P G.w) 6 f fd ["value"] (spX G 1 f_check_question) := by
  refine okXC Fd sc_check_question (fun vs H Q E h => h.1) (fun Ar outer s H vs Q E hr h => ?_)
  refine ⟨_, (pss_cons (ps_if (pt_not (pt_val (pe_call D_is_tuple_of.ok (hr.mono (by decide)) (by rfl) D_is_tuple_of.g D_is_tuple_of.kp D_is_tuple_of.b .nil (passes_call (takes_of rfl rfl rfl rfl) fun _ _ _ _ h => h) (pa_cons (pv 0) (pa_cons pe_int (pa_cons pe_int pa_nil)))))) (pss_one Mk.ps_fail) pss_nil)
    (pss_cons (ps_asg (pv 0) (pg_tupK (K := G.K) (n := 2) rfl rfl (pgs_cons (pg_name (i := 1) sc_check_question.nd rfl (by first | exact Or.inl rfl | exact Or.inr rfl)) (pgs_cons (pg_name (i := 2) sc_check_question.nd rfl (by first | exact Or.inl rfl | exact Or.inr rfl)) pgs_nil))))
    (pss_cons (ps_if (pt_not (pt_val (pe_call D_are_steps.ok (hr.mono (by decide)) (by rfl) D_are_steps.g D_are_steps.kp D_are_steps.b .nil (passes_call (takes_of rfl rfl rfl rfl) fun _ _ _ _ h => h) (pa_cons (pv 1) pa_nil)))) (pss_one Mk.ps_fail) pss_nil)
    (pss_one (ps_if (pt_not (pt_val (pe_call D_are_numbers.ok (hr.mono (by decide)) (by rfl) D_are_numbers.g D_are_numbers.kp D_are_numbers.b .nil (passes_call (takes_of rfl rfl rfl rfl) fun _ _ _ _ h => h) (pa_cons (pv 2) (pa_cons (pe_callB (call_lenK (K := G.K) rfl) (by rfl) Z.z_len boot_len (pa_cons (pv 1) pa_nil)) (pa_cons pe_int pa_nil)))))) (pss_one Mk.ps_fail) pss_nil))))), ?_⟩
  exact fn_of_ex (n := 1) (pad := 2) rfl ((exs_seq (exs_if (ext_not (ext_B (ex_callP (fun _ _ => imL_nil) (exa_cons ex_var (exa_cons ex_int (exa_cons ex_int exa_nil)))))) exs_fail exs_next)
    (exs_seq (exs_asg ex_var (exg_tup (exgs_cons exg_name (exgs_cons exg_name exgs_nil))))
    (exs_seq (exs_if (ext_not (ext_B (ex_callP (fun _ _ => imL_nil) (exa_cons ex_var exa_nil)))) exs_fail exs_next)
    (exs_if (ext_not (ext_B (ex_callP (fun _ _ => imL_nil) (exa_cons ex_var (exa_cons (ex_cb ok_len (exa_cons ex_var exa_nil)) (exa_cons ex_int exa_nil)))))) exs_fail exs_next))))) h
theorem sc_lots_behind : FnScope ["steps", "lots", "state", "there"] ["steps", "lots", "state"] (defScope (top 26)) := ⟨rfl, rfl, rfl, by decide +kernel, rfl, by decide +kernel, by decide +kernel⟩
theorem ok_lots_behind (Z : Fx P G.w G T mg base) {f : Addr} {fd : FuncData} (Fd : Fun G.K "lots_behind" "lots_behind" (top 26) f fd) :
    FnOk P G.w G.K mg base (L2.CX P G.w) 1 f fd ["steps", "lots", "state"] (spX G 3 f_lots_behind) := by
  refine okXC Fd sc_lots_behind (fun vs H Q E h => h.1) (fun Ar outer s H vs Q E hr h => ?_)
  refine ⟨_, (pss_one (ps_ret (pe_callTy (call_tupK (K := G.K) rfl) (by rfl) Z.z_tuple boot_tuple' (pa_cons (pe_lc (own := [("there", 3)]) rfl sc_lots_behind.nd (pi_tupK (K := G.K) rfl (pe_ix (ix_K (K := G.K) rfl) (pv 0) (pv 2) (fun _ _ => rfl))) (blkOk_by (N := ["steps", "lots", "state", "there"]) (sc := defScope (top 26)) (by decide +kernel)) (fun _ _ _ _ _ => (pg_name (i := 3) sc_lots_behind.nd rfl (by first | exact Or.inl rfl | exact Or.inr rfl))) (fun _ _ _ _ _ => pts_nil) (fun _ _ _ _ _ => (pe_ix (ix_K (K := G.K) rfl) (pv 1) (pv 3) (fun _ _ => rfl)))) pa_nil)))), ?_⟩
  exact fn_of_ex (n := 3) (pad := 1) rfl ((exs_ret (ex_cb (ok_tuple Z.M) (exa_cons (ex_lc Z.M (exi_tup (ex_2 ok_ix ex_var ex_var)) (exw_name (by decide)) ext_yes (ex_2 ok_ix ex_var ex_var)) exa_nil)))) h
theorem sc_check_manner : FnScope ["value"] ["value"] (defScope (top 38)) := ⟨rfl, rfl, rfl, by decide +kernel, rfl, by decide +kernel, by decide +kernel⟩
theorem ok_check_manner (Z : Fx P G.w G T mg base) {f : Addr} {fd : FuncData} (Fd : Fun G.K "check_manner" "check_manner" (top 38) f fd) :
    FnOk P G.w G.K mg base (L2.CX P G.w) 1 f fd ["value"] (spX G 1 f_check_manner) := by
  obtain ⟨t_BLIND, g_BLIND⟩ := Z.s_BLIND
  obtain ⟨t_NAMED, g_NAMED⟩ := Z.s_NAMED
  refine okXC Fd sc_check_manner (fun vs H Q E h => h.1) (fun Ar outer s H vs Q E hr h => ?_)
  refine ⟨_, (pss_one (ps_if (pt_cmpR (op_notInK (K := G.K) rfl (hu65 hr)) (pv 0) (pe_tup (pa_cons (pe_glob (v := .str "named") (by rfl) g_NAMED ⟨_, rfl⟩) (pa_cons (pe_glob (v := .str "blind") (by rfl) g_BLIND ⟨_, rfl⟩) pa_nil))) (by rfl)) (pss_one Mk.ps_fail) pss_nil)), ?_⟩
  exact fn_of_ex (n := 1) (pad := 0) rfl ((exs_if (ext_test (ex_2 ok_notIn ex_var (ex_tup Z.M (exa_cons ex_str (exa_cons ex_str exa_nil))))) exs_fail exs_next)) h
theorem sc_check_reader : FnScope ["names", "manner", "value", "most", "part"] ["names", "manner", "value", "most"] (defScope (top 45)) := ⟨rfl, rfl, rfl, by decide +kernel, rfl, by decide +kernel, by decide +kernel⟩
theorem ok_check_reader (Z : Fx P G.w G T mg base) {f : Addr} {fd : FuncData} (Fd : FunD G.K "check_reader" "check_reader" (defArgs (top 45)) (defBody (top 45)) (defScope (top 45)) [V.int (6)] [] f fd)
    {a_wrong_part : Addr} {fd_wrong_part : FuncData} (D_wrong_part : DefX P G.w G mg base 7 "wrong_part" a_wrong_part fd_wrong_part ["names", "manner", "value", "most"] [V.int (6)] 4 f_wrong_part) :
    FnOk P G.w G.K mg base (L2.CX P G.w) 8 f fd ["names", "manner", "value", "most"] (spX G 4 f_check_reader) := by
  refine okXD Fd sc_check_reader (fun vs H Q E h => h.1) (fun Ar outer s H vs Q E hr h => ?_)
  refine ⟨_, (pss_cons (ps_set (i := 4) sc_check_reader.nd rfl (by first | exact Or.inl rfl | exact Or.inr rfl) (pe_call D_wrong_part.ok (hr.mono (by decide)) (by rfl) D_wrong_part.g D_wrong_part.kp D_wrong_part.b .nil (passes_call (takes_of rfl rfl rfl rfl) fun _ _ _ _ h => h) (pa_cons (pv 0) (pa_cons (pv 1) (pa_cons (pv 2) (pa_cons (pv 3) pa_nil))))))
    (pss_one (ps_if (pt_cmpR op_notN (pv 4) pe_non (nomark _)) (pss_one Mk.ps_fail) pss_nil))), ?_⟩
  exact fn_of_ex (n := 4) (pad := 1) rfl ((exs_seq (exs_asg (ex_callP (fun _ _ => imL_nil) (exa_cons ex_var (exa_cons ex_var (exa_cons ex_var (exa_cons ex_var exa_nil))))) exg_name)
    (exs_if (ext_test (ex_2 ok_notN ex_var ex_non)) exs_fail exs_next))) h
theorem sc_words_to : FnScope ["least", "manner", "goals", "steps", "moves", "found", "farther", "pair", "goal"] ["least", "manner", "goals"] (defScope (top 60)) := ⟨rfl, rfl, rfl, by decide +kernel, rfl, by decide +kernel, by decide +kernel⟩
theorem ok_words_to (Z : Fx P G.w G T mg base) {f : Addr} {fd : FuncData} (Fd : Fun G.K "words_to" "words_to" (top 60) f fd)
    {a_moves_of : Addr} {fd_moves_of : FuncData} (D_moves_of : DefX P G.w G mg base 1 "moves_of" a_moves_of fd_moves_of ["names", "manner"] [] 2 f_moves_of)
    {a_names_of : Addr} {fd_names_of : FuncData} (D_names_of : DefX P G.w G mg base 1 "names_of" a_names_of fd_names_of ["question"] [] 1 f_names_of)
    {a_one_move_back : Addr} {fd_one_move_back : FuncData} (D_one_move_back : DefX P G.w G mg base 1 "one_move_back" a_one_move_back fd_one_move_back ["steps", "moves", "found"] [] 3 f_one_move_back) :
    FnOk P G.w G.K mg base (L2.CX P G.w) 2 f fd ["least", "manner", "goals"] (spX G 3 f_words_to) := by
  refine okXC Fd sc_words_to (fun vs H Q E h => h.1) (fun Ar outer s H vs Q E hr h => ?_)
  refine ⟨_, (pss_cons (ps_set (i := 3) sc_words_to.nd rfl (by first | exact Or.inl rfl | exact Or.inr rfl) (pe_ix (ix_K (K := G.K) rfl) (pv 0) pe_int (fun _ _ => rfl)))
    (pss_cons (ps_set (i := 4) sc_words_to.nd rfl (by first | exact Or.inl rfl | exact Or.inr rfl) (pe_call D_moves_of.ok (hr.mono (by decide)) (by rfl) D_moves_of.g D_moves_of.kp D_moves_of.b .nil (passes_call (takes_of rfl rfl rfl rfl) fun _ _ _ _ h => h) (pa_cons (pe_call D_names_of.ok (hr.mono (by decide)) (by rfl) D_names_of.g D_names_of.kp D_names_of.b .nil (passes_call (takes_of rfl rfl rfl rfl) fun _ _ _ _ h => h) (pa_cons (pv 0) pa_nil)) (pa_cons (pv 1) pa_nil))))
    (pss_cons (Mk.ps_setXc (K := G.K) (w := G.w) rfl (i := 5) (own := [("goal", 8)]) (hu64 hr) rfl sc_words_to.nd rfl rfl (Mk.sw_trueD rfl rfl rfl (by decide +kernel)) (pi_lstK (K := G.K) rfl (pv 2)) (blkOk_by (N := ["least", "manner", "goals", "steps", "moves", "found", "farther", "pair", "goal"]) (sc := defScope (top 60)) (by decide +kernel)) (fun _ _ _ _ _ => (pg_name (i := 8) sc_words_to.nd rfl (by first | exact Or.inl rfl | exact Or.inr rfl))) (fun _ _ _ _ _ => pts_nil) (fun _ _ _ _ _ => (pv 8)) (fun _ _ _ _ _ => (pe_tup (pa_cons (pe_tup pa_nil) (pa_cons (pe_tup pa_nil) pa_nil)))))
    (pss_cons (ps_set (i := 6) sc_words_to.nd rfl (by first | exact Or.inl rfl | exact Or.inr rfl) (pe_call D_one_move_back.ok (hr.mono (by decide)) (by rfl) D_one_move_back.g D_one_move_back.kp D_one_move_back.b .nil (passes_call (takes_of rfl rfl rfl rfl) fun _ _ _ _ h => h) (pa_cons (pv 3) (pa_cons (pv 4) (pa_cons (pv 5) pa_nil)))))
    (pss_cons (ps_while (passes_of rfl) (pt_cmpR op_gt (pe_callB Mk.call_lenX (by rfl) Z.z_len boot_len (pa_cons (pv 6) pa_nil)) pe_int (nomark _))
    (pss_cons (ps_lock (ps_for (passes_of rfl) rfl (Mk.pi_keysX (pv 6)) (pg_name (i := 7) sc_words_to.nd rfl (by first | exact Or.inl rfl | exact Or.inr rfl))
    (pss_one (ps_asg (Mk.pe_xgetK (K := G.K) (w := G.w) rfl (hu64 hr) (pv 6) (pv 7) (fun _ _ => rfl)) (pg_sub (pv 5) (pv 7) (Mk.set_XK (K := G.K) (w := G.w) rfl (hu64 hr)))))))
    (pss_one (ps_set (i := 6) sc_words_to.nd rfl (by first | exact Or.inl rfl | exact Or.inr rfl) (pe_call D_one_move_back.ok (hr.mono (by decide)) (by rfl) D_one_move_back.g D_one_move_back.kp D_one_move_back.b .nil (passes_call (takes_of rfl rfl rfl rfl) fun _ _ _ _ h => h) (pa_cons (pv 3) (pa_cons (pv 4) (pa_cons (pv 5) pa_nil))))))))
    (pss_one (ps_ret (pv 5)))))))), ?_⟩
  exact fn_of_ex (n := 3) (pad := 6) rfl ((exs_seq (exs_asg (ex_2 ok_ix ex_var ex_int) exg_name)
    (exs_seq (exs_asg (ex_call (fun _ _ => imL_nil) (exa_cons (ex_callP (fun _ _ => imL_nil) (exa_cons ex_var exa_nil)) (exa_cons ex_var exa_nil))) exg_name)
    (exs_seq (exs_asg (ex_xc Z.M (exi_lst ex_var) (exw_name (by decide)) ext_yes ex_var (ex_tup Z.M (exa_cons (ex_tup Z.M exa_nil) (exa_cons (ex_tup Z.M exa_nil) exa_nil)))) exg_name)
    (exs_seq (exs_asg (ex_call (fun _ _ => imL_nil) (exa_cons ex_var (exa_cons ex_var (exa_cons ex_var exa_nil)))) exg_name)
    (exs_seq (exs_while (ext_test (ex_2 ok_gt (ex_cb ok_lenD (exa_cons ex_var exa_nil)) ex_int))
    (exs_seq (exs_lock Z.M (exs_for (exi_keys ex_var) exg_name
    (exs_asg (ex_dget ex_var ex_var) (exg_subD Z.M ex_var ex_var))))
    (exs_asg (ex_call (fun _ _ => imL_nil) (exa_cons ex_var (exa_cons ex_var (exa_cons ex_var exa_nil)))) exg_name)))
    (exs_ret ex_var))))))) h
theorem sc_are_words : FnScope ["manner", "word", "other_word"] ["manner", "word", "other_word"] (defScope (top 67)) := ⟨rfl, rfl, rfl, by decide +kernel, rfl, by decide +kernel, by decide +kernel⟩
theorem ok_are_words (Z : Fx P G.w G T mg base) {f : Addr} {fd : FuncData} (Fd : Fun G.K "are_words" "are_words" (top 67) f fd) :
    FnOk P G.w G.K mg base (L2.CX P G.w) 1 f fd ["manner", "word", "other_word"] (spX G 3 f_are_words) := by
  obtain ⟨t_BLIND, g_BLIND⟩ := Z.s_BLIND
  refine okXC Fd sc_are_words (fun vs H Q E h => h.1) (fun Ar outer s H vs Q E hr h => ?_)
  refine ⟨_, (pss_one (ps_ret (pe_and (pe_cmpR (op_eqK (K := G.K) rfl (hu64 hr)) (pe_callB (call_lenK (K := G.K) rfl) (by rfl) Z.z_len boot_len (pa_cons (pv 1) pa_nil)) (pe_callB (call_lenK (K := G.K) rfl) (by rfl) Z.z_len boot_len (pa_cons (pv 2) pa_nil)) (nomark _)) (pe_one (pe_or (pe_cmpR (op_eqK (K := G.K) rfl (hu64 hr)) (pv 0) (pe_glob (v := .str "blind") (by rfl) g_BLIND ⟨_, rfl⟩) (nomark _)) (pe_one (pe_cmpR (op_eqK (K := G.K) rfl (hu64 hr)) (pv 1) (pv 2) (nomark _)))))))), ?_⟩
  exact fn_of_ex (n := 3) (pad := 0) rfl ((exs_ret (ex_andV (ex_2 ok_eq (ex_cb ok_len (exa_cons ex_var exa_nil)) (ex_cb ok_len (exa_cons ex_var exa_nil))) (ex_orV (ex_2 ok_eq ex_var ex_str) (ex_2 ok_eq ex_var ex_var))))) h
theorem sc_can_ring : FnScope ["question", "manner"] ["question", "manner"] (defScope (top 76)) := ⟨rfl, rfl, rfl, by decide +kernel, rfl, by decide +kernel, by decide +kernel⟩
theorem ok_can_ring (Z : Fx P G.w G T mg base) {f : Addr} {fd : FuncData} (Fd : Fun G.K "can_ring" "can_ring" (top 76) f fd)
    {a_is_ringable : Addr} {fd_is_ringable : FuncData} (D_is_ringable : DefX P G.w G mg base 4 "is_ringable" a_is_ringable fd_is_ringable ["quiet", "manner"] [] 2 f_is_ringable)
    {a_checked_quiet : Addr} {fd_checked_quiet : FuncData} (D_checked_quiet : DefX P G.w G mg base 7 "checked_quiet" a_checked_quiet fd_checked_quiet ["question", "manner"] [] 2 f_checked_quiet) :
    FnOk P G.w G.K mg base (L2.CX P G.w) 8 f fd ["question", "manner"] (spX G 2 f_can_ring) := by
  refine okXC Fd sc_can_ring (fun vs H Q E h => h.1) (fun Ar outer s H vs Q E hr h => ?_)
  refine ⟨_, (pss_one (ps_ret (pe_call D_is_ringable.ok (hr.mono (by decide)) (by rfl) D_is_ringable.g D_is_ringable.kp D_is_ringable.b .nil (passes_call (takes_of rfl rfl rfl rfl) fun _ _ _ _ h => h) (pa_cons (pe_call D_checked_quiet.ok (hr.mono (by decide)) (by rfl) D_checked_quiet.g D_checked_quiet.kp D_checked_quiet.b .nil (passes_call (takes_of rfl rfl rfl rfl) fun _ _ _ _ h => h) (pa_cons (pv 0) (pa_cons (pv 1) pa_nil))) (pa_cons (pv 1) pa_nil))))), ?_⟩
  exact fn_of_ex (n := 2) (pad := 0) rfl ((exs_ret (ex_callP (fun _ _ => imL_nil) (exa_cons (ex_callP (fun _ _ => imL_nil) (exa_cons ex_var (exa_cons ex_var exa_nil))) (exa_cons ex_var exa_nil))))) h
theorem sc_Search_go_on_behind_run : FnScope ["self", "start", "end", "run", "length", "last", "name", "inner", "outer", "state"] ["self", "start", "end"] (defScope (inClass (top 54) 3)) := ⟨rfl, rfl, rfl, by decide +kernel, rfl, by decide +kernel, by decide +kernel⟩
theorem ok_Search_go_on_behind_run (Z : Fx P G.w G T mg base) {f : Addr} {fd : FuncData} (Fd : Fun G.K "go_on_behind_run" "Search.go_on_behind_run" (inClass (top 54) 3) f fd)
    {a_Search_put : Addr} {fd_Search_put : FuncData} (D_Search_put : MethX P G.w G mg base 1 (G.cl 0) "put" a_Search_put fd_Search_put ["self", "length", "key", "parts"] 4 f_Search_put)
    {a_behind_closing : Addr} {fd_behind_closing : FuncData} (D_behind_closing : DefX P G.w G mg base 1 "behind_closing" a_behind_closing fd_behind_closing ["manner", "reader", "state", "name"] [] 4 f_behind_closing) :
    FnOk P G.w G.K mg base (L2.CX P G.w) 2 f fd ["self", "start", "end"] (spX G 3 f_Search_go_on_behind_run) := by
  obtain ⟨t_RUN, g_RUN⟩ := Z.s_RUN
  obtain ⟨a_BEGINNING, g_BEGINNING, h_BEGINNING⟩ := Z.t_BEGINNING
  obtain ⟨t_CLOSING, g_CLOSING⟩ := Z.i_CLOSING
  obtain ⟨t_MARK, g_MARK⟩ := Z.s_MARK
  refine okXC Fd sc_Search_go_on_behind_run (fun vs H Q E h => h.1) (fun Ar outer s H vs Q E hr h => ?_)
  refine ⟨_, (pss_cons (ps_set (i := 3) sc_Search_go_on_behind_run.nd rfl (by first | exact Or.inl rfl | exact Or.inr rfl) (pe_tup (pa_cons (pe_glob (v := .str "run") (by rfl) g_RUN ⟨_, rfl⟩) (pa_cons (pv 1) (pa_cons (pv 2) pa_nil)))))
    (pss_cons (ps_set (i := 4) sc_Search_go_on_behind_run.nd rfl (by first | exact Or.inl rfl | exact Or.inr rfl) (Mk.pe_xgetK (K := G.K) (w := G.w) rfl (hu64 hr) (pe_fldK (K := G.K) rfl (pv 0) rfl) (pv 3) (fun _ _ => rfl)))
    (pss_cons (ps_expr (pe_bmK (K := G.K) rfl PySem.F.plainAttrs_list PySem.F.slot_list_append PySem.F.type_list_append mt_append (Mk.pe_xgetK (K := G.K) (w := G.w) rfl (hu64 hr) (pe_fldK (K := G.K) rfl (pv 0) rfl) (pv 2) (fun _ _ => rfl)) (pa_cons (pv 1) pa_nil)))
    (pss_cons (ps_for (passes_of rfl) rfl (pi_lstK (K := G.K) rfl (Mk.pe_xgetK (K := G.K) (w := G.w) rfl (hu64 hr) (pe_fldK (K := G.K) rfl (pv 0) rfl) (pv 2) (fun _ _ => rfl))) (pg_name (i := 5) sc_Search_go_on_behind_run.nd rfl (by first | exact Or.inl rfl | exact Or.inr rfl))
    (pss_one Mk.ps_fail))
    (pss_one (ps_if (pt_cmpR (op_eqK (K := G.K) rfl (hu64 hr)) (pv 1) (pe_glob (v := .ref a_BEGINNING) (by rfl) g_BEGINNING rfl) (nomark _)) (pss_one (ps_for (passes_of rfl) rfl (pi_lstK (K := G.K) rfl (Mk.pe_xgetK (K := G.K) (w := G.w) rfl (hu64 hr) (pe_fldK (K := G.K) rfl (pv 0) rfl) (pv 2) (fun _ _ => rfl))) (pg_tupK (K := G.K) (n := 2) rfl rfl (pgs_cons (pg_name (i := 6) sc_Search_go_on_behind_run.nd rfl (by first | exact Or.inl rfl | exact Or.inr rfl)) (pgs_cons (pg_name (i := 7) sc_Search_go_on_behind_run.nd rfl (by first | exact Or.inl rfl | exact Or.inr rfl)) pgs_nil)))
    (pss_one (ps_expr (pe_meth (pv 0) Z.cl_Search D_Search_put.m D_Search_put.ok (hr.mono (by decide)) D_Search_put.b .nil (passes_call (takes_of rfl rfl rfl rfl) fun _ _ _ _ h => h) (pa_cons (pe_op op_add (pv 4) pe_int) (pa_cons (pe_tup (pa_cons (pe_glob (v := .str "run") (by rfl) g_RUN ⟨_, rfl⟩) (pa_cons (pe_glob (v := .ref a_BEGINNING) (by rfl) g_BEGINNING rfl) (pa_cons (pv 7) pa_nil)))) (pa_cons (pe_tup (pa_cons (pv 3) (pa_cons (pv 6) pa_nil))) pa_nil)))))))) (pss_one (ps_for (passes_of rfl) rfl (pi_lstK (K := G.K) rfl (Mk.pe_xgetK (K := G.K) (w := G.w) rfl (hu64 hr) (pe_fldK (K := G.K) rfl (pv 0) rfl) (pv 1) (fun _ _ => rfl))) (pg_tupK (K := G.K) (n := 2) rfl rfl (pgs_cons (pg_name (i := 8) sc_Search_go_on_behind_run.nd rfl (by first | exact Or.inl rfl | exact Or.inr rfl)) (pgs_cons (pg_name (i := 6) sc_Search_go_on_behind_run.nd rfl (by first | exact Or.inl rfl | exact Or.inr rfl)) pgs_nil)))
    (pss_cons (ps_set (i := 9) sc_Search_go_on_behind_run.nd rfl (by first | exact Or.inl rfl | exact Or.inr rfl) (pe_call D_behind_closing.ok (hr.mono (by decide)) (by rfl) D_behind_closing.g D_behind_closing.kp D_behind_closing.b .nil (passes_call (takes_of rfl rfl rfl rfl) fun _ _ _ _ h => h) (pa_cons (pe_fldK (K := G.K) rfl (pv 0) rfl) (pa_cons (pe_fldK (K := G.K) rfl (pv 0) rfl) (pa_cons (pe_ix (ix_K (K := G.K) rfl) (pv 2) pe_int (fun _ _ => rfl)) (pa_cons (pv 6) pa_nil))))))
    (pss_one (ps_expr (pe_meth (pv 0) Z.cl_Search D_Search_put.m D_Search_put.ok (hr.mono (by decide)) D_Search_put.b .nil (passes_call (takes_of rfl rfl rfl rfl) fun _ _ _ _ h => h) (pa_cons (pe_op op_add (pv 4) pe_int) (pa_cons (pe_tup (pa_cons (pe_glob (v := .str "mark") (by rfl) g_MARK ⟨_, rfl⟩) (pa_cons (pv 8) (pa_cons (pe_tup (pa_cons (pe_ix (ix_K (K := G.K) rfl) (pv 8) pe_int (fun _ _ => rfl)) (pa_cons (pv 9) pa_nil))) pa_nil)))) (pa_cons (pe_tup (pa_cons (pv 6) (pa_cons (pv 3) (pa_cons (pe_glob (v := .int (-1)) (by rfl) g_CLOSING ⟨_, rfl⟩) pa_nil)))) pa_nil))))))))))))))), ?_⟩
  exact fn_of_ex (n := 3) (pad := 7) rfl ((exs_seq (exs_asg (ex_tup Z.M (exa_cons ex_str (exa_cons ex_var (exa_cons ex_var exa_nil)))) exg_name)
    (exs_seq (exs_asg (ex_dget (ex_fld Z.cl_Search Z.na_Search_lengths ex_var) ex_var) exg_name)
    (exs_seq (exs_drop (ex_bm (ok_append Z.M) (ex_dget (ex_fld Z.cl_Search Z.na_Search_run_starts ex_var) ex_var) (exa_cons ex_var exa_nil)))
    (exs_seq (exs_for (exi_lst (ex_dget (ex_fld Z.cl_Search Z.na_Search_mark_ends ex_var) ex_var)) exg_name
    exs_fail)
    (exs_if (ext_test (ex_2 ok_eq ex_var (ex_ctup (js := [-1, -1]) h_BEGINNING))) (exs_for (exi_lst (ex_dget (ex_fld Z.cl_Search Z.na_Search_ways ex_var) ex_var)) (exg_tup (exgs_cons exg_name (exgs_cons exg_name exgs_nil)))
    (exs_drop (ex_meth ex_var (exa_cons (ex_2 ok_add ex_var ex_int) (exa_cons (ex_tup Z.M (exa_cons ex_str (exa_cons (ex_ctup (js := [-1, -1]) h_BEGINNING) (exa_cons ex_var exa_nil)))) (exa_cons (ex_tup Z.M (exa_cons ex_var (exa_cons ex_var exa_nil))) exa_nil)))))) (exs_for (exi_lst (ex_dget (ex_fld Z.cl_Search Z.na_Search_ways_back ex_var) ex_var)) (exg_tup (exgs_cons exg_name (exgs_cons exg_name exgs_nil)))
    (exs_seq (exs_asg (ex_callP (fun _ _ => imL_nil) (exa_cons (ex_fld Z.cl_Search Z.na_Search_manner ex_var) (exa_cons (ex_fld Z.cl_Search Z.na_Search_reader ex_var) (exa_cons (ex_2 ok_ix ex_var ex_int) (exa_cons ex_var exa_nil))))) exg_name)
    (exs_drop (ex_meth ex_var (exa_cons (ex_2 ok_add ex_var ex_int) (exa_cons (ex_tup Z.M (exa_cons ex_str (exa_cons ex_var (exa_cons (ex_tup Z.M (exa_cons (ex_2 ok_ix ex_var ex_int) (exa_cons ex_var exa_nil))) exa_nil)))) (exa_cons (ex_tup Z.M (exa_cons ex_var (exa_cons ex_var (exa_cons ex_int exa_nil)))) exa_nil))))))))))))) h
theorem sc_errs_nowhere : FnScope ["question", "manner", "reader", "silent"] ["question", "manner", "reader", "silent"] (defScope (top 55)) := ⟨rfl, rfl, rfl, by decide +kernel, rfl, by decide +kernel, by decide +kernel⟩
theorem ok_errs_nowhere (Z : Fx P G.w G T mg base) {f : Addr} {fd : FuncData} (Fd : FunD G.K "errs_nowhere" "errs_nowhere" (defArgs (top 55)) (defBody (top 55)) (defScope (top 55)) [V.bl false] [] f fd)
    {a_Search_next_fault : Addr} {fd_Search_next_fault : FuncData} (D_Search_next_fault : MethX P G.w G mg base 5 (G.cl 0) "next_fault" a_Search_next_fault fd_Search_next_fault ["self"] 1 f_Search_next_fault)
    {a_Search___init__ : Addr} {fd_Search___init__ : FuncData} (D_Search___init__ : MethX P G.w G mg base 2 (G.cl 0) "__init__" a_Search___init__ fd_Search___init__ ["self", "question", "manner", "reader", "silent"] 5 f_Search___init__) :
    FnOk P G.w G.K mg base (L2.CX P G.w) 6 f fd ["question", "manner", "reader", "silent"] (spX G 4 f_errs_nowhere) := by
  refine okXD Fd sc_errs_nowhere (fun vs H Q E h => h.1) (fun Ar outer s H vs Q E hr h => ?_)
  refine ⟨_, (pss_one (ps_ret (pe_cmpR op_isN (pe_meth0 (pe_make ⟨Z.mkA_Search, D_Search___init__.m.at_, D_Search___init__.m.fn, Z.kp_Search⟩ D_Search___init__.ok (hr.mono (by decide)) (by rfl) Z.g_Search D_Search___init__.b .nil (passes_call (takes_of rfl rfl rfl rfl) fun _ _ _ _ h => h) (pa_cons (pv 0) (pa_cons (pv 1) (pa_cons (pv 2) (pa_cons (pv 3) pa_nil))))) Z.cl_Search D_Search_next_fault.m D_Search_next_fault.ok (hr.mono (by decide)) D_Search_next_fault.b .nil (passes_call (takes_of rfl rfl rfl rfl) fun _ _ _ _ h => h)) pe_non (nomark _)))), ?_⟩
  exact fn_of_ex (n := 4) (pad := 0) rfl ((exs_ret (ex_2 ok_isN (ex_meth (ex_make Z.M (exa_cons ex_var (exa_cons ex_var (exa_cons ex_var (exa_cons ex_var exa_nil))))) exa_nil) ex_non))) h
end
end Mx

/-! ### MqG6 -/
set_option Elab.async false
set_option linter.all false
set_option maxRecDepth 100000
set_option maxHeartbeats 4000000
namespace Mx
open PySem PySem.Spec PyProof.Rows L2
open GxR (TabG Tabbed)
section
variable {P : Program} {G : Gx} {T : List Addr} {mg : Str → Option Value} {base : Heap}
theorem sc_names_of : FnScope ["question"] ["question"] (defScope (top 20)) := ⟨rfl, rfl, rfl, by decide +kernel, rfl, by decide +kernel, by decide +kernel⟩
theorem ok_names_of (Z : Fx P G.w G T mg base) {f : Addr} {fd : FuncData} (Fd : Fun G.K "names_of" "names_of" (top 20) f fd) :
    FnOk P G.w G.K mg base (L2.CX P G.w) 1 f fd ["question"] (spX G 1 f_names_of) := by
  refine okXC Fd sc_names_of (fun vs H Q E h => h.1) (fun Ar outer s H vs Q E hr h => ?_)
  refine ⟨_, (pss_one (ps_ret (pe_callB (call_lenK (K := G.K) rfl) (by rfl) Z.z_len boot_len (pa_cons (pe_ix (ix_K (K := G.K) rfl) (pe_ix (ix_K (K := G.K) rfl) (pv 0) pe_int (fun _ _ => rfl)) pe_int (fun _ _ => rfl)) pa_nil)))), ?_⟩
  exact fn_of_ex (n := 1) (pad := 0) rfl ((exs_ret (ex_cb ok_len (exa_cons (ex_2 ok_ix (ex_2 ok_ix ex_var ex_int) ex_int) exa_nil)))) h
theorem sc_alike_lots : FnScope ["question", "steps", "answers", "states", "lots", "_", "state"] ["question"] (defScope (top 27)) := ⟨rfl, rfl, rfl, by decide +kernel, rfl, by decide +kernel, by decide +kernel⟩
theorem ok_alike_lots (Z : Fx P G.w G T mg base) {f : Addr} {fd : FuncData} (Fd : Fun G.K "alike_lots" "alike_lots" (top 27) f fd)
    {a_numbered : Addr} {fd_numbered : FuncData} (D_numbered : DefX P G.w G mg base 1 "numbered" a_numbered fd_numbered ["keys"] [] 1 f_numbered)
    {a_lots_behind : Addr} {fd_lots_behind : FuncData} (D_lots_behind : DefX P G.w G mg base 1 "lots_behind" a_lots_behind fd_lots_behind ["steps", "lots", "state"] [] 3 f_lots_behind) :
    FnOk P G.w G.K mg base (L2.CX P G.w) 2 f fd ["question"] (spX G 1 f_alike_lots) := by
  refine okXC Fd sc_alike_lots (fun vs H Q E h => h.1) (fun Ar outer s H vs Q E hr h => ?_)
  refine ⟨_, (pss_cons (ps_asg (pv 0) (pg_tupK (K := G.K) (n := 2) rfl rfl (pgs_cons (pg_name (i := 1) sc_alike_lots.nd rfl (by first | exact Or.inl rfl | exact Or.inr rfl)) (pgs_cons (pg_name (i := 2) sc_alike_lots.nd rfl (by first | exact Or.inl rfl | exact Or.inr rfl)) pgs_nil))))
    (pss_cons (ps_set (i := 3) sc_alike_lots.nd rfl (by first | exact Or.inl rfl | exact Or.inr rfl) (pe_callTy Mk.cr_range1 (by rfl) Z.z_range Mk.boot_range' (pa_cons (pe_callB (call_lenK (K := G.K) rfl) (by rfl) Z.z_len boot_len (pa_cons (pv 1) pa_nil)) pa_nil)))
    (pss_cons (ps_set (i := 4) sc_alike_lots.nd rfl (by first | exact Or.inl rfl | exact Or.inr rfl) (pe_call D_numbered.ok (hr.mono (by decide)) (by rfl) D_numbered.g D_numbered.kp D_numbered.b .nil (passes_call (takes_of rfl rfl rfl rfl) fun _ _ _ _ h => h) (pa_cons (pv 2) pa_nil)))
    (pss_cons (ps_for (passes_of rfl) rfl (Mk.pi_rngO (pv 3)) (pg_name (i := 5) sc_alike_lots.nd rfl (by first | exact Or.inl rfl | exact Or.inr rfl))
    (pss_one (ps_set (i := 4) sc_alike_lots.nd rfl (by first | exact Or.inl rfl | exact Or.inr rfl) (pe_call D_numbered.ok (hr.mono (by decide)) (by rfl) D_numbered.g D_numbered.kp D_numbered.b .nil (passes_call (takes_of rfl rfl rfl rfl) fun _ _ _ _ h => h) (pa_cons (pe_lc (own := [("state", 6)]) rfl sc_alike_lots.nd (Mk.pi_rngO (pv 3)) (blkOk_by (N := ["question", "steps", "answers", "states", "lots", "_", "state"]) (sc := defScope (top 27)) (by decide +kernel)) (fun _ _ _ _ _ => (pg_name (i := 6) sc_alike_lots.nd rfl (by first | exact Or.inl rfl | exact Or.inr rfl))) (fun _ _ _ _ _ => pts_nil) (fun _ _ _ _ _ => (pe_tup (pa_cons (pe_ix (ix_K (K := G.K) rfl) (pv 4) (pv 6) (fun _ _ => rfl)) (pa_cons (pe_call D_lots_behind.ok (hr.mono (by decide)) (by rfl) D_lots_behind.g D_lots_behind.kp D_lots_behind.b .nil passF (pa_cons (pv 1) (pa_cons (pv 4) (pa_cons (pv 6) pa_nil)))) pa_nil))))) pa_nil)))))
    (pss_one (ps_ret (pv 4))))))), ?_⟩
  exact fn_of_ex (n := 1) (pad := 6) rfl ((exs_seq (exs_asg ex_var (exg_tup (exgs_cons exg_name (exgs_cons exg_name exgs_nil))))
    (exs_seq (exs_asg (ex_cb (ok_rng1 Z.M) (exa_cons (ex_cb ok_len (exa_cons ex_var exa_nil)) exa_nil)) exg_name)
    (exs_seq (exs_asg (ex_call (fun _ _ => imL_nil) (exa_cons ex_var exa_nil)) exg_name)
    (exs_seq (exs_for (exi_rngO ex_var) exg_name
    (exs_asg (ex_call (fun _ _ => imL_nil) (exa_cons (ex_lc Z.M (exi_rngO ex_var) (exw_name (by decide)) ext_yes (ex_tup Z.M (exa_cons (ex_2 ok_ix ex_var ex_var) (exa_cons (ex_callP (fun _ _ => imL_nil) (exa_cons ex_var (exa_cons ex_var (exa_cons ex_var exa_nil)))) exa_nil)))) exa_nil)) exg_name))
    (exs_ret ex_var)))))) h
theorem sc_is_pair : FnScope ["value", "last"] ["value", "last"] (defScope (top 39)) := ⟨rfl, rfl, rfl, by decide +kernel, rfl, by decide +kernel, by decide +kernel⟩
theorem ok_is_pair (Z : Fx P G.w G T mg base) {f : Addr} {fd : FuncData} (Fd : Fun G.K "is_pair" "is_pair" (top 39) f fd)
    {a_is_tuple_of : Addr} {fd_is_tuple_of : FuncData} (D_is_tuple_of : DefX P G.w G mg base 1 "is_tuple_of" a_is_tuple_of fd_is_tuple_of ["value", "least", "most"] [] 3 f_is_tuple_of)
    {a_is_number : Addr} {fd_is_number : FuncData} (D_is_number : DefX P G.w G mg base 1 "is_number" a_is_number fd_is_number ["value", "least", "most"] [] 3 f_is_number) :
    FnOk P G.w G.K mg base (L2.CX P G.w) 2 f fd ["value", "last"] (spX G 2 f_is_pair) := by
  refine okXC Fd sc_is_pair (fun vs H Q E h => h.1) (fun Ar outer s H vs Q E hr h => ?_)
  refine ⟨_, (pss_one (ps_ret (pe_and (pe_call D_is_tuple_of.ok (hr.mono (by decide)) (by rfl) D_is_tuple_of.g D_is_tuple_of.kp D_is_tuple_of.b .nil (passes_call (takes_of rfl rfl rfl rfl) fun _ _ _ _ h => h) (pa_cons (pv 0) (pa_cons pe_int (pa_cons pe_int pa_nil)))) (pe_and (pe_call D_is_number.ok (hr.mono (by decide)) (by rfl) D_is_number.g D_is_number.kp D_is_number.b .nil (passes_call (takes_of rfl rfl rfl rfl) fun _ _ _ _ h => h) (pa_cons (pe_ix (ix_K (K := G.K) rfl) (pv 0) pe_int (fun _ _ => rfl)) (pa_cons pe_int (pa_cons (pv 1) pa_nil)))) (pe_one (pe_call D_is_number.ok (hr.mono (by decide)) (by rfl) D_is_number.g D_is_number.kp D_is_number.b .nil (passes_call (takes_of rfl rfl rfl rfl) fun _ _ _ _ h => h) (pa_cons (pe_ix (ix_K (K := G.K) rfl) (pv 0) pe_int (fun _ _ => rfl)) (pa_cons pe_int (pa_cons pe_int pa_nil))))))))), ?_⟩
  exact fn_of_ex (n := 2) (pad := 0) rfl ((exs_ret (ex_andV (ex_callP (fun _ _ => imL_nil) (exa_cons ex_var (exa_cons ex_int (exa_cons ex_int exa_nil)))) (ex_andV (ex_callP (fun _ _ => imL_nil) (exa_cons (ex_2 ok_ix ex_var ex_int) (exa_cons ex_int (exa_cons ex_var exa_nil)))) (ex_callP (fun _ _ => imL_nil) (exa_cons (ex_2 ok_ix ex_var ex_int) (exa_cons ex_int (exa_cons ex_int exa_nil)))))))) h
theorem sc_check_reading : FnScope ["question", "manner", "reader", "most"] ["question", "manner", "reader", "most"] (defScope (top 46)) := ⟨rfl, rfl, rfl, by decide +kernel, rfl, by decide +kernel, by decide +kernel⟩
theorem ok_check_reading (Z : Fx P G.w G T mg base) {f : Addr} {fd : FuncData} (Fd : FunD G.K "check_reading" "check_reading" (defArgs (top 46)) (defBody (top 46)) (defScope (top 46)) [V.int (6)] [] f fd)
    {a_check_question : Addr} {fd_check_question : FuncData} (D_check_question : DefX P G.w G mg base 6 "check_question" a_check_question fd_check_question ["value"] [] 1 f_check_question)
    {a_check_manner : Addr} {fd_check_manner : FuncData} (D_check_manner : DefX P G.w G mg base 1 "check_manner" a_check_manner fd_check_manner ["value"] [] 1 f_check_manner)
    {a_check_reader : Addr} {fd_check_reader : FuncData} (D_check_reader : DefX P G.w G mg base 8 "check_reader" a_check_reader fd_check_reader ["names", "manner", "value", "most"] [V.int (6)] 4 f_check_reader)
    {a_names_of : Addr} {fd_names_of : FuncData} (D_names_of : DefX P G.w G mg base 1 "names_of" a_names_of fd_names_of ["question"] [] 1 f_names_of) :
    FnOk P G.w G.K mg base (L2.CX P G.w) 9 f fd ["question", "manner", "reader", "most"] (spX G 4 f_check_reading) := by
  refine okXD Fd sc_check_reading (fun vs H Q E h => h.1) (fun Ar outer s H vs Q E hr h => ?_)
  refine ⟨_, (pss_cons (ps_expr (pe_call D_check_question.ok (hr.mono (by decide)) (by rfl) D_check_question.g D_check_question.kp D_check_question.b .nil (passes_call (takes_of rfl rfl rfl rfl) fun _ _ _ _ h => h) (pa_cons (pv 0) pa_nil)))
    (pss_cons (ps_expr (pe_call D_check_manner.ok (hr.mono (by decide)) (by rfl) D_check_manner.g D_check_manner.kp D_check_manner.b .nil (passes_call (takes_of rfl rfl rfl rfl) fun _ _ _ _ h => h) (pa_cons (pv 1) pa_nil)))
    (pss_one (ps_expr (pe_call D_check_reader.ok (hr.mono (by decide)) (by rfl) D_check_reader.g D_check_reader.kp D_check_reader.b .nil (passes_call (takes_of rfl rfl rfl rfl) fun _ _ _ _ h => h) (pa_cons (pe_call D_names_of.ok (hr.mono (by decide)) (by rfl) D_names_of.g D_names_of.kp D_names_of.b .nil (passes_call (takes_of rfl rfl rfl rfl) fun _ _ _ _ h => h) (pa_cons (pv 0) pa_nil)) (pa_cons (pv 1) (pa_cons (pv 2) (pa_cons (pv 3) pa_nil))))))))), ?_⟩
  exact fn_of_ex (n := 4) (pad := 0) rfl ((exs_seq (exs_drop (ex_callP (fun _ _ => imL_nil) (exa_cons ex_var exa_nil)))
    (exs_seq (exs_drop (ex_callP (fun _ _ => imL_nil) (exa_cons ex_var exa_nil)))
    (exs_drop (ex_callP (fun _ _ => imL_nil) (exa_cons (ex_callP (fun _ _ => imL_nil) (exa_cons ex_var exa_nil)) (exa_cons ex_var (exa_cons ex_var (exa_cons ex_var exa_nil))))))))) h
theorem sc_meeting_words : FnScope ["least", "manner", "equal_pairs", "words", "state", "pair"] ["least", "manner"] (defScope (top 61)) := ⟨rfl, rfl, rfl, by decide +kernel, rfl, by decide +kernel, by decide +kernel⟩
theorem ok_meeting_words (Z : Fx P G.w G T mg base) {f : Addr} {fd : FuncData} (Fd : Fun G.K "meeting_words" "meeting_words" (top 61) f fd)
    {a_words_to : Addr} {fd_words_to : FuncData} (D_words_to : DefX P G.w G mg base 2 "words_to" a_words_to fd_words_to ["least", "manner", "goals"] [] 3 f_words_to) :
    FnOk P G.w G.K mg base (L2.CX P G.w) 3 f fd ["least", "manner"] (spX G 2 f_meeting_words) := by
  refine okXC Fd sc_meeting_words (fun vs H Q E h => h.1) (fun Ar outer s H vs Q E hr h => ?_)
  refine ⟨_, (pss_cons (ps_setLc (i := 2) (own := [("state", 4)]) rfl sc_meeting_words.nd rfl rfl (sw_true rfl rfl rfl (by decide +kernel)) (pi_range1 (by rfl) Z.z_range (pa_cons (pe_callB (call_lenK (K := G.K) rfl) (by rfl) Z.z_len boot_len (pa_cons (pe_ix (ix_K (K := G.K) rfl) (pv 0) pe_int (fun _ _ => rfl)) pa_nil)) pa_nil)) (blkOk_by (N := ["least", "manner", "equal_pairs", "words", "state", "pair"]) (sc := defScope (top 61)) (by decide +kernel)) (fun _ _ _ _ _ => (pg_name (i := 4) sc_meeting_words.nd rfl (by first | exact Or.inl rfl | exact Or.inr rfl))) (fun _ _ _ _ _ => pts_nil) (fun _ _ _ _ _ => (pe_tup (pa_cons (pv 4) (pa_cons (pv 4) pa_nil)))))
    (pss_cons (ps_set (i := 3) sc_meeting_words.nd rfl (by first | exact Or.inl rfl | exact Or.inr rfl) (pe_call D_words_to.ok (hr.mono (by decide)) (by rfl) D_words_to.g D_words_to.kp D_words_to.b .nil (passes_call (takes_of rfl rfl rfl rfl) fun _ _ _ _ h => h) (pa_cons (pv 0) (pa_cons (pv 1) (pa_cons (pv 2) pa_nil)))))
    (pss_one (ps_ret (pe_lock (Mk.pe_xcK (K := G.K) (w := G.w) (own := [("pair", 5)]) rfl (hu64 hr) rfl sc_meeting_words.nd (Mk.pi_keysX (pv 3)) (blkOk_by (N := ["least", "manner", "equal_pairs", "words", "state", "pair"]) (sc := defScope (top 61)) (by decide +kernel)) (fun _ _ _ _ _ => (pg_name (i := 5) sc_meeting_words.nd rfl (by first | exact Or.inl rfl | exact Or.inr rfl))) (fun _ _ _ _ _ => pts_one (pt_cmpR (op_neK (K := G.K) rfl (hu64 hr)) (pe_ix (ix_K (K := G.K) rfl) (pv 5) pe_int (fun _ _ => rfl)) (pe_ix (ix_K (K := G.K) rfl) (pv 5) pe_int (fun _ _ => rfl)) (nomark _))) (fun _ _ _ _ _ => (pv 5)) (fun _ _ _ _ _ => (Mk.pe_xgetK (K := G.K) (w := G.w) rfl (hu64 hr) (pv 3) (pv 5) (fun _ _ => rfl))))))))), ?_⟩
  exact fn_of_ex (n := 2) (pad := 4) rfl ((exs_seq (exs_asg (ex_lc Z.M (exi_rng1 (exa_cons (ex_cb ok_len (exa_cons (ex_2 ok_ix ex_var ex_int) exa_nil)) exa_nil)) (exw_name (by decide)) ext_yes (ex_tup Z.M (exa_cons ex_var (exa_cons ex_var exa_nil)))) exg_name)
    (exs_seq (exs_asg (ex_call (fun _ _ => imL_nil) (exa_cons ex_var (exa_cons ex_var (exa_cons ex_var exa_nil)))) exg_name)
    (exs_ret (ex_lock Z.M (ex_xc Z.M (exi_keys ex_var) (exw_name (by decide)) (ext_test (ex_2 ok_ne (ex_2 ok_ix ex_var ex_int) (ex_2 ok_ix ex_var ex_int))) ex_var (ex_dget ex_var ex_var))))))) h
theorem sc_quiet_from : FnScope ["question", "steps", "answers", "rung", "quiet_steps", "nexts", "there"] ["question"] (defScope (top 70)) := ⟨rfl, rfl, rfl, by decide +kernel, rfl, by decide +kernel, by decide +kernel⟩
theorem ok_quiet_from (Z : Fx P G.w G T mg base) {f : Addr} {fd : FuncData} (Fd : Fun G.K "quiet_from" "quiet_from" (top 70) f fd)
    {a_names_of : Addr} {fd_names_of : FuncData} (D_names_of : DefX P G.w G mg base 1 "names_of" a_names_of fd_names_of ["question"] [] 1 f_names_of)
    {a_least_from : Addr} {fd_least_from : FuncData} (D_least_from : DefX P G.w G mg base 3 "least_from" a_least_from fd_least_from ["question", "start"] [] 2 f_least_from) :
    FnOk P G.w G.K mg base (L2.CX P G.w) 4 f fd ["question"] (spX G 1 f_quiet_from) := by
  refine okXC Fd sc_quiet_from (fun vs H Q E h => h.1) (fun Ar outer s H vs Q E hr h => ?_)
  refine ⟨_, (pss_cons (ps_asg (pv 0) (pg_tupK (K := G.K) (n := 2) rfl rfl (pgs_cons (pg_name (i := 1) sc_quiet_from.nd rfl (by first | exact Or.inl rfl | exact Or.inr rfl)) (pgs_cons (pg_name (i := 2) sc_quiet_from.nd rfl (by first | exact Or.inl rfl | exact Or.inr rfl)) pgs_nil))))
    (pss_cons (ps_set (i := 3) sc_quiet_from.nd rfl (by first | exact Or.inl rfl | exact Or.inr rfl) (pe_callB (call_lenK (K := G.K) rfl) (by rfl) Z.z_len boot_len (pa_cons (pv 1) pa_nil)))
    (pss_cons (ps_setLc (i := 4) (own := [("nexts", 5)]) rfl sc_quiet_from.nd rfl rfl (sw_true rfl rfl rfl (by decide +kernel)) (pi_tupK (K := G.K) rfl (pv 1)) (blkOk_by (N := ["question", "steps", "answers", "rung", "quiet_steps", "nexts", "there"]) (sc := defScope (top 70)) (by decide +kernel)) (fun _ _ _ _ _ => (pg_name (i := 5) sc_quiet_from.nd rfl (by first | exact Or.inl rfl | exact Or.inr rfl))) (fun _ _ _ _ _ => pts_nil) (fun _ _ _ _ _ => (pe_callTy (call_tupK (K := G.K) rfl) (by rfl) Z.z_tuple boot_tuple' (pa_cons (pe_lc (own := [("there", 6)]) rfl sc_quiet_from.nd (pi_tupK (K := G.K) rfl (pv 5)) (blkOk_by (N := ["question", "steps", "answers", "rung", "quiet_steps", "nexts", "there"]) (by rfl)) (fun _ _ _ _ _ => (pg_name (i := 6) sc_quiet_from.nd rfl (by first | exact Or.inl rfl | exact Or.inr rfl))) (fun _ _ _ _ _ => pts_nil) (fun _ _ _ _ _ => (pe_ifExp (pt_cmpR (op_eqK (K := G.K) rfl (hu64 hr)) (pe_ix (ix_K (K := G.K) rfl) (pv 2) (pv 6) (fun _ _ => rfl)) pe_int (nomark _)) (pv 3) (pv 6)))) pa_nil))))
    (pss_cons (ps_expr (pe_bmK (K := G.K) rfl PySem.F.plainAttrs_list PySem.F.slot_list_append PySem.F.type_list_append mt_append (pv 4) (pa_cons (pe_op (op_repK (K := G.K) rfl) (pe_tup (pa_cons (pv 3) pa_nil)) (pe_call D_names_of.ok (hr.mono (by decide)) (by rfl) D_names_of.g D_names_of.kp D_names_of.b .nil (passes_call (takes_of rfl rfl rfl rfl) fun _ _ _ _ h => h) (pa_cons (pv 0) pa_nil))) pa_nil)))
    (pss_one (ps_ret (pe_call D_least_from.ok (hr.mono (by decide)) (by rfl) D_least_from.g D_least_from.kp D_least_from.b .nil (passes_call (takes_of rfl rfl rfl rfl) fun _ _ _ _ h => h) (pa_cons (pe_tup (pa_cons (pe_callTy (call_tupK (K := G.K) rfl) (by rfl) Z.z_tuple boot_tuple' (pa_cons (pv 4) pa_nil)) (pa_cons (pe_op (op_catK (K := G.K) rfl) (pe_op (op_repK (K := G.K) rfl) (pe_tup (pa_cons pe_int pa_nil)) (pv 3)) (pe_tup (pa_cons pe_int pa_nil))) pa_nil))) (pa_cons pe_int pa_nil))))))))), ?_⟩
  exact fn_of_ex (n := 1) (pad := 6) rfl ((exs_seq (exs_asg ex_var (exg_tup (exgs_cons exg_name (exgs_cons exg_name exgs_nil))))
    (exs_seq (exs_asg (ex_cb ok_len (exa_cons ex_var exa_nil)) exg_name)
    (exs_seq (exs_asg (ex_lc Z.M (exi_tup ex_var) (exw_name (by decide)) ext_yes (ex_cb (ok_tuple Z.M) (exa_cons (ex_lc Z.M (exi_tup ex_var) (exw_name (by decide)) ext_yes (ex_if (ext_test (ex_2 ok_eq (ex_2 ok_ix ex_var ex_var) ex_int)) ex_var ex_var)) exa_nil))) exg_name)
    (exs_seq (exs_drop (ex_bm (ok_append Z.M) ex_var (exa_cons (ex_2 (ok_repT Z.M) (ex_tup Z.M (exa_cons ex_var exa_nil)) (ex_callP (fun _ _ => imL_nil) (exa_cons ex_var exa_nil))) exa_nil)))
    (exs_ret (ex_callP (fun _ _ => imL_nil) (exa_cons (ex_tup Z.M (exa_cons (ex_cb (ok_tuple Z.M) (exa_cons ex_var exa_nil)) (exa_cons (ex_2 (ok_catT Z.M) (ex_2 (ok_repT Z.M) (ex_tup Z.M (exa_cons ex_int exa_nil)) ex_var) (ex_tup Z.M (exa_cons ex_int exa_nil))) exa_nil))) (exa_cons ex_int exa_nil))))))))) h
theorem sc_is_ring_paper : FnScope ["quiet", "manner", "value", "way", "word", "other_word", "below", "state", "other"] ["quiet", "manner", "value"] (defScope (top 77)) := ⟨rfl, rfl, rfl, by decide +kernel, rfl, by decide +kernel, by decide +kernel⟩
theorem ok_is_ring_paper (Z : Fx P G.w G T mg base) {f : Addr} {fd : FuncData} (Fd : Fun G.K "is_ring_paper" "is_ring_paper" (top 77) f fd)
    {a_are_paths : Addr} {fd_are_paths : FuncData} (D_are_paths : DefX P G.w G mg base 6 "are_paths" a_are_paths fd_are_paths ["names", "value", "many"] [] 3 f_are_paths)
    {a_names_of : Addr} {fd_names_of : FuncData} (D_names_of : DefX P G.w G mg base 1 "names_of" a_names_of fd_names_of ["question"] [] 1 f_names_of)
    {a_are_words : Addr} {fd_are_words : FuncData} (D_are_words : DefX P G.w G mg base 1 "are_words" a_are_words fd_are_words ["manner", "word", "other_word"] [] 3 f_are_words)
    {a_state_behind : Addr} {fd_state_behind : FuncData} (D_state_behind : DefX P G.w G mg base 1 "state_behind" a_state_behind fd_state_behind ["question", "state", "path"] [] 3 f_state_behind)
    {a_answer_behind : Addr} {fd_answer_behind : FuncData} (D_answer_behind : DefX P G.w G mg base 2 "answer_behind" a_answer_behind fd_answer_behind ["question", "state", "path"] [] 3 f_answer_behind) :
    FnOk P G.w G.K mg base (L2.CX P G.w) 7 f fd ["quiet", "manner", "value"] (spX G 3 f_is_ring_paper) := by
  refine okXC Fd sc_is_ring_paper (fun vs H Q E h => h.1) (fun Ar outer s H vs Q E hr h => ?_)
  refine ⟨_, (pss_cons (ps_if (pt_not (pt_val (pe_call D_are_paths.ok (hr.mono (by decide)) (by rfl) D_are_paths.g D_are_paths.kp D_are_paths.b .nil (passes_call (takes_of rfl rfl rfl rfl) fun _ _ _ _ h => h) (pa_cons (pe_call D_names_of.ok (hr.mono (by decide)) (by rfl) D_names_of.g D_names_of.kp D_names_of.b .nil (passes_call (takes_of rfl rfl rfl rfl) fun _ _ _ _ h => h) (pa_cons (pv 0) pa_nil)) (pa_cons (pv 2) (pa_cons pe_int pa_nil)))))) (pss_one Mk.ps_fail) pss_nil)
    (pss_cons (ps_asg (pv 2) (pg_tupK (K := G.K) (n := 4) rfl rfl (pgs_cons (pg_name (i := 3) sc_is_ring_paper.nd rfl (by first | exact Or.inl rfl | exact Or.inr rfl)) (pgs_cons (pg_name (i := 4) sc_is_ring_paper.nd rfl (by first | exact Or.inl rfl | exact Or.inr rfl)) (pgs_cons (pg_name (i := 5) sc_is_ring_paper.nd rfl (by first | exact Or.inl rfl | exact Or.inr rfl)) (pgs_cons (pg_name (i := 6) sc_is_ring_paper.nd rfl (by first | exact Or.inl rfl | exact Or.inr rfl)) pgs_nil))))))
    (pss_cons (ps_if (PW.pt (pw_or (pt_not (pt_val (pe_call D_are_words.ok (hr.mono (by decide)) (by rfl) D_are_words.g D_are_words.kp D_are_words.b .nil (passes_call (takes_of rfl rfl rfl rfl) fun _ _ _ _ h => h) (pa_cons (pv 1) (pa_cons (pv 4) (pa_cons (pv 5) pa_nil)))))) (pw_or (pt_cmpR (op_eqK (K := G.K) rfl (hu64 hr)) (pe_callB (call_lenK (K := G.K) rfl) (by rfl) Z.z_len boot_len (pa_cons (pv 4) pa_nil)) pe_int (nomark _)) (pw_or1 (pt_cmpR (op_eqK (K := G.K) rfl (hu64 hr)) (pe_callB (call_lenK (K := G.K) rfl) (by rfl) Z.z_len boot_len (pa_cons (pv 6) pa_nil)) pe_int (nomark _)))))) (pss_one Mk.ps_fail) pss_nil)
    (pss_cons (ps_set (i := 7) sc_is_ring_paper.nd rfl (by first | exact Or.inl rfl | exact Or.inr rfl) (pe_call D_state_behind.ok (hr.mono (by decide)) (by rfl) D_state_behind.g D_state_behind.kp D_state_behind.b .nil (passes_call (takes_of rfl rfl rfl rfl) fun _ _ _ _ h => h) (pa_cons (pv 0) (pa_cons pe_int (pa_cons (pv 3) pa_nil)))))
    (pss_cons (ps_set (i := 8) sc_is_ring_paper.nd rfl (by first | exact Or.inl rfl | exact Or.inr rfl) (pe_call D_state_behind.ok (hr.mono (by decide)) (by rfl) D_state_behind.g D_state_behind.kp D_state_behind.b .nil (passes_call (takes_of rfl rfl rfl rfl) fun _ _ _ _ h => h) (pa_cons (pv 0) (pa_cons (pv 7) (pa_cons (pv 4) pa_nil)))))
    (pss_cons (ps_if (PW.pt (pw_or (pt_cmpR (op_neK (K := G.K) rfl (hu64 hr)) (pe_call D_state_behind.ok (hr.mono (by decide)) (by rfl) D_state_behind.g D_state_behind.kp D_state_behind.b .nil (passes_call (takes_of rfl rfl rfl rfl) fun _ _ _ _ h => h) (pa_cons (pv 0) (pa_cons (pv 8) (pa_cons (pv 5) pa_nil)))) (pv 8) (nomark _)) (pw_or1 (pt_cmpR (op_eqK (K := G.K) rfl (hu64 hr)) (pe_ix (ix_K (K := G.K) rfl) (pe_ix (ix_K (K := G.K) rfl) (pv 0) pe_int (fun _ _ => rfl)) (pv 8) (fun _ _ => rfl)) pe_int (nomark _))))) (pss_one Mk.ps_fail) pss_nil)
    (pss_one (ps_ret (pe_cmpR (op_neK (K := G.K) rfl (hu64 hr)) (pe_call D_answer_behind.ok (hr.mono (by decide)) (by rfl) D_answer_behind.g D_answer_behind.kp D_answer_behind.b .nil (passes_call (takes_of rfl rfl rfl rfl) fun _ _ _ _ h => h) (pa_cons (pv 0) (pa_cons (pv 7) (pa_cons (pv 6) pa_nil)))) (pe_call D_answer_behind.ok (hr.mono (by decide)) (by rfl) D_answer_behind.g D_answer_behind.kp D_answer_behind.b .nil (passes_call (takes_of rfl rfl rfl rfl) fun _ _ _ _ h => h) (pa_cons (pv 0) (pa_cons (pv 8) (pa_cons (pv 6) pa_nil)))) (nomark _)))))))))), ?_⟩
  exact fn_of_ex (n := 3) (pad := 6) rfl ((exs_seq (exs_if (ext_not (ext_B (ex_callP (fun _ _ => imL_nil) (exa_cons (ex_callP (fun _ _ => imL_nil) (exa_cons ex_var exa_nil)) (exa_cons ex_var (exa_cons ex_int exa_nil)))))) exs_fail exs_next)
    (exs_seq (exs_asg ex_var (exg_tup (exgs_cons exg_name (exgs_cons exg_name (exgs_cons exg_name (exgs_cons exg_name exgs_nil))))))
    (exs_seq (exs_if (ext_or (ext_not (ext_B (ex_callP (fun _ _ => imL_nil) (exa_cons ex_var (exa_cons ex_var (exa_cons ex_var exa_nil)))))) (ext_or (ext_test (ex_2 ok_eq (ex_cb ok_len (exa_cons ex_var exa_nil)) ex_int)) (ext_test (ex_2 ok_eq (ex_cb ok_len (exa_cons ex_var exa_nil)) ex_int)))) exs_fail exs_next)
    (exs_seq (exs_asg (ex_callP (fun _ _ => imL_nil) (exa_cons ex_var (exa_cons ex_int (exa_cons ex_var exa_nil)))) exg_name)
    (exs_seq (exs_asg (ex_callP (fun _ _ => imL_nil) (exa_cons ex_var (exa_cons ex_var (exa_cons ex_var exa_nil)))) exg_name)
    (exs_seq (exs_if (ext_or (ext_test (ex_2 ok_ne (ex_callP (fun _ _ => imL_nil) (exa_cons ex_var (exa_cons ex_var (exa_cons ex_var exa_nil)))) ex_var)) (ext_test (ex_2 ok_eq (ex_2 ok_ix (ex_2 ok_ix ex_var ex_int) ex_var) ex_int))) exs_fail exs_next)
    (exs_ret (ex_2 ok_ne (ex_callP (fun _ _ => imL_nil) (exa_cons ex_var (exa_cons ex_var (exa_cons ex_var exa_nil)))) (ex_callP (fun _ _ => imL_nil) (exa_cons ex_var (exa_cons ex_var (exa_cons ex_var exa_nil))))))))))))) h
theorem sc_Search_go_on_behind_mark : FnScope ["self", "start", "end", "first"] ["self", "start", "end"] (defScope (inClass (top 54) 4)) := ⟨rfl, rfl, rfl, by decide +kernel, rfl, by decide +kernel, by decide +kernel⟩
theorem ok_Search_go_on_behind_mark (Z : Fx P G.w G T mg base) {f : Addr} {fd : FuncData} (Fd : Fun G.K "go_on_behind_mark" "Search.go_on_behind_mark" (inClass (top 54) 4) f fd)
    {a_Search_put_longer_run : Addr} {fd_Search_put_longer_run : FuncData} (D_Search_put_longer_run : MethX P G.w G mg base 2 (G.cl 0) "put_longer_run" a_Search_put_longer_run fd_Search_put_longer_run ["self", "start", "middle", "end"] 4 f_Search_put_longer_run) :
    FnOk P G.w G.K mg base (L2.CX P G.w) 3 f fd ["self", "start", "end"] (spX G 3 f_Search_go_on_behind_mark) := by
  refine okXC Fd sc_Search_go_on_behind_mark (fun vs H Q E h => h.1) (fun Ar outer s H vs Q E hr h => ?_)
  refine ⟨_, (pss_cons (ps_expr (pe_bmK (K := G.K) rfl PySem.F.plainAttrs_list PySem.F.slot_list_append PySem.F.type_list_append mt_append (Mk.pe_xgetK (K := G.K) (w := G.w) rfl (hu64 hr) (pe_fldK (K := G.K) rfl (pv 0) rfl) (pv 1) (fun _ _ => rfl)) (pa_cons (pv 2) pa_nil)))
    (pss_one (ps_for (passes_of rfl) rfl (pi_lstK (K := G.K) rfl (Mk.pe_xgetK (K := G.K) (w := G.w) rfl (hu64 hr) (pe_fldK (K := G.K) rfl (pv 0) rfl) (pv 1) (fun _ _ => rfl))) (pg_name (i := 3) sc_Search_go_on_behind_mark.nd rfl (by first | exact Or.inl rfl | exact Or.inr rfl))
    (pss_one (ps_expr (pe_meth (pv 0) Z.cl_Search D_Search_put_longer_run.m D_Search_put_longer_run.ok (hr.mono (by decide)) D_Search_put_longer_run.b .nil (passes_call (takes_of rfl rfl rfl rfl) fun _ _ _ _ h => h) (pa_cons (pv 3) (pa_cons (pv 1) (pa_cons (pv 2) pa_nil))))))))), ?_⟩
  exact fn_of_ex (n := 3) (pad := 1) rfl ((exs_seq (exs_drop (ex_bm (ok_append Z.M) (ex_dget (ex_fld Z.cl_Search Z.na_Search_mark_ends ex_var) ex_var) (exa_cons ex_var exa_nil)))
    (exs_for (exi_lst (ex_dget (ex_fld Z.cl_Search Z.na_Search_run_starts ex_var) ex_var)) exg_name
    (exs_drop (ex_meth ex_var (exa_cons ex_var (exa_cons ex_var (exa_cons ex_var exa_nil)))))))) h
theorem sc_short_fault : FnScope ["question", "manner", "reader", "silent", "search", "pair", "tags"] ["question", "manner", "reader", "silent"] (defScope (top 56)) := ⟨rfl, rfl, rfl, by decide +kernel, rfl, by decide +kernel, by decide +kernel⟩
theorem ok_short_fault (Z : Fx P G.w G T mg base) {f : Addr} {fd : FuncData} (Fd : FunD G.K "short_fault" "short_fault" (defArgs (top 56)) (defBody (top 56)) (defScope (top 56)) [V.bl false] [] f fd)
    {a_Search___init__ : Addr} {fd_Search___init__ : FuncData} (D_Search___init__ : MethX P G.w G mg base 2 (G.cl 0) "__init__" a_Search___init__ fd_Search___init__ ["self", "question", "manner", "reader", "silent"] 5 f_Search___init__)
    {a_Search_next_fault : Addr} {fd_Search_next_fault : FuncData} (D_Search_next_fault : MethX P G.w G mg base 5 (G.cl 0) "next_fault" a_Search_next_fault fd_Search_next_fault ["self"] 1 f_Search_next_fault)
    {a_Search_tags_to : Addr} {fd_Search_tags_to : FuncData} (D_Search_tags_to : MethX P G.w G mg base 1 (G.cl 0) "tags_to" a_Search_tags_to fd_Search_tags_to ["self", "pair"] 2 f_Search_tags_to)
    {a_Search_wrong_name : Addr} {fd_Search_wrong_name : FuncData} (D_Search_wrong_name : MethX P G.w G mg base 1 (G.cl 0) "wrong_name" a_Search_wrong_name fd_Search_wrong_name ["self", "pair"] 2 f_Search_wrong_name) :
    FnOk P G.w G.K mg base (L2.CX P G.w) 6 f fd ["question", "manner", "reader", "silent"] (spX G 4 f_short_fault) := by
  obtain ⟨a_BEGINNING, g_BEGINNING, h_BEGINNING⟩ := Z.t_BEGINNING
  obtain ⟨t_RUN, g_RUN⟩ := Z.s_RUN
  obtain ⟨t_MOST_LENGTH, g_MOST_LENGTH⟩ := Z.i_MOST_LENGTH
  refine okXD Fd sc_short_fault (fun vs H Q E h => h.1) (fun Ar outer s H vs Q E hr h => ?_)
  refine ⟨_, (pss_cons (ps_set (i := 4) sc_short_fault.nd rfl (by first | exact Or.inl rfl | exact Or.inr rfl) (pe_make ⟨Z.mkA_Search, D_Search___init__.m.at_, D_Search___init__.m.fn, Z.kp_Search⟩ D_Search___init__.ok (hr.mono (by decide)) (by rfl) Z.g_Search D_Search___init__.b .nil (passes_call (takes_of rfl rfl rfl rfl) fun _ _ _ _ h => h) (pa_cons (pv 0) (pa_cons (pv 1) (pa_cons (pv 2) (pa_cons (pv 3) pa_nil))))))
    (pss_cons (ps_set (i := 5) sc_short_fault.nd rfl (by first | exact Or.inl rfl | exact Or.inr rfl) (pe_meth0 (pv 4) Z.cl_Search D_Search_next_fault.m D_Search_next_fault.ok (hr.mono (by decide)) D_Search_next_fault.b .nil (passes_call (takes_of rfl rfl rfl rfl) fun _ _ _ _ h => h)))
    (pss_cons (ps_if (pt_cmpR op_isN (pv 5) pe_non (nomark _)) (pss_one Mk.ps_fail) pss_nil)
    (pss_cons (ps_if (pt_cmpR op_ge (Mk.pe_xgetK (K := G.K) (w := G.w) rfl (hu64 hr) (pe_fldK (K := G.K) rfl (pv 4) rfl) (pe_tup (pa_cons (pe_glob (v := .str "run") (by rfl) g_RUN ⟨_, rfl⟩) (pa_cons (pe_glob (v := .ref a_BEGINNING) (by rfl) g_BEGINNING rfl) (pa_cons (pv 5) pa_nil)))) (fun _ _ => rfl)) (pe_glob (v := .int (2000)) (by rfl) g_MOST_LENGTH ⟨_, rfl⟩) (nomark _)) (pss_one Mk.ps_fail) pss_nil)
    (pss_cons (ps_set (i := 6) sc_short_fault.nd rfl (by first | exact Or.inl rfl | exact Or.inr rfl) (pe_meth (pv 4) Z.cl_Search D_Search_tags_to.m D_Search_tags_to.ok (hr.mono (by decide)) D_Search_tags_to.b .nil (passes_call (takes_of rfl rfl rfl rfl) fun _ _ _ _ h => h) (pa_cons (pv 5) pa_nil)))
    (pss_cons (ps_expr (pe_bmK (K := G.K) rfl PySem.F.plainAttrs_list PySem.F.slot_list_append PySem.F.type_list_append mt_append (pv 6) (pa_cons (pe_meth (pv 4) Z.cl_Search D_Search_wrong_name.m D_Search_wrong_name.ok (hr.mono (by decide)) D_Search_wrong_name.b .nil (passes_call (takes_of rfl rfl rfl rfl) fun _ _ _ _ h => h) (pa_cons (pv 5) pa_nil)) pa_nil)))
    (pss_one (ps_ret (pe_callTy (call_tupK (K := G.K) rfl) (by rfl) Z.z_tuple boot_tuple' (pa_cons (pv 6) pa_nil)))))))))), ?_⟩
  exact fn_of_ex (n := 4) (pad := 3) rfl ((exs_seq (exs_asg (ex_make Z.M (exa_cons ex_var (exa_cons ex_var (exa_cons ex_var (exa_cons ex_var exa_nil))))) exg_name)
    (exs_seq (exs_asg (ex_meth ex_var exa_nil) exg_name)
    (exs_seq (exs_if (ext_test (ex_2 ok_isN ex_var ex_non)) exs_fail exs_next)
    (exs_seq (exs_if (ext_test (ex_2 ok_ge (ex_dget (ex_fld Z.cl_Search Z.na_Search_lengths ex_var) (ex_tup Z.M (exa_cons ex_str (exa_cons (ex_ctup (js := [-1, -1]) h_BEGINNING) (exa_cons ex_var exa_nil))))) ex_int)) exs_fail exs_next)
    (exs_seq (exs_asg (ex_meth ex_var (exa_cons ex_var exa_nil)) exg_name)
    (exs_seq (exs_drop (ex_bm (ok_append Z.M) ex_var (exa_cons (ex_meth ex_var (exa_cons ex_var exa_nil)) exa_nil)))
    (exs_ret (ex_cb (ok_tuple Z.M) (exa_cons ex_var exa_nil)))))))))) h
end
end Mx

/-! ### MqG7 -/
set_option Elab.async false
set_option linter.all false
set_option maxRecDepth 100000
set_option maxHeartbeats 4000000
namespace Mx
open PySem PySem.Spec PyProof.Rows L2
open GxR (TabG Tabbed)
section
variable {P : Program} {G : Gx} {T : List Addr} {mg : Str → Option Value} {base : Heap}
theorem sc_is_path : FnScope ["names", "value", "least", "most"] ["names", "value", "least", "most"] (defScope (top 21)) := ⟨rfl, rfl, rfl, by decide +kernel, rfl, by decide +kernel, by decide +kernel⟩
theorem ok_is_path (Z : Fx P G.w G T mg base) {f : Addr} {fd : FuncData} (Fd : Fun G.K "is_path" "is_path" (top 21) f fd)
    {a_is_tuple_of : Addr} {fd_is_tuple_of : FuncData} (D_is_tuple_of : DefX P G.w G mg base 1 "is_tuple_of" a_is_tuple_of fd_is_tuple_of ["value", "least", "most"] [] 3 f_is_tuple_of)
    {a_are_numbers : Addr} {fd_are_numbers : FuncData} (D_are_numbers : DefX P G.w G mg base 3 "are_numbers" a_are_numbers fd_are_numbers ["value", "many", "most"] [] 3 f_are_numbers) :
    FnOk P G.w G.K mg base (L2.CX P G.w) 4 f fd ["names", "value", "least", "most"] (spX G 4 f_is_path) := by
  refine okXC Fd sc_is_path (fun vs H Q E h => h.1) (fun Ar outer s H vs Q E hr h => ?_)
  refine ⟨_, (pss_one (ps_ret (pe_and (pe_call D_is_tuple_of.ok (hr.mono (by decide)) (by rfl) D_is_tuple_of.g D_is_tuple_of.kp D_is_tuple_of.b .nil (passes_call (takes_of rfl rfl rfl rfl) fun _ _ _ _ h => h) (pa_cons (pv 1) (pa_cons (pv 2) (pa_cons (pv 3) pa_nil)))) (pe_one (pe_call D_are_numbers.ok (hr.mono (by decide)) (by rfl) D_are_numbers.g D_are_numbers.kp D_are_numbers.b .nil (passes_call (takes_of rfl rfl rfl rfl) fun _ _ _ _ h => h) (pa_cons (pv 1) (pa_cons (pe_callB (call_lenK (K := G.K) rfl) (by rfl) Z.z_len boot_len (pa_cons (pv 1) pa_nil)) (pa_cons (pe_op op_sub (pv 0) pe_int) pa_nil)))))))), ?_⟩
  exact fn_of_ex (n := 4) (pad := 0) rfl ((exs_ret (ex_andV (ex_callP (fun _ _ => imL_nil) (exa_cons ex_var (exa_cons ex_var (exa_cons ex_var exa_nil)))) (ex_callP (fun _ _ => imL_nil) (exa_cons ex_var (exa_cons (ex_cb ok_len (exa_cons ex_var exa_nil)) (exa_cons (ex_2 ok_sub ex_var ex_int) exa_nil))))))) h
theorem sc_least_from : FnScope ["question", "start", "steps", "answers", "lots", "chosen", "numbers", "least_steps", "nexts", "there", "state"] ["question", "start"] (defScope (top 28)) := ⟨rfl, rfl, rfl, by decide +kernel, rfl, by decide +kernel, by decide +kernel⟩
theorem ok_least_from (Z : Fx P G.w G T mg base) {f : Addr} {fd : FuncData} (Fd : Fun G.K "least_from" "least_from" (top 28) f fd)
    {a_alike_lots : Addr} {fd_alike_lots : FuncData} (D_alike_lots : DefX P G.w G mg base 2 "alike_lots" a_alike_lots fd_alike_lots ["question"] [] 1 f_alike_lots) :
    FnOk P G.w G.K mg base (L2.CX P G.w) 3 f fd ["question", "start"] (spX G 2 f_least_from) := by
  refine okXC Fd sc_least_from (fun vs H Q E h => h.1) (fun Ar outer s H vs Q E hr h => ?_)
  refine ⟨_, (pss_cons (ps_asg (pv 0) (pg_tupK (K := G.K) (n := 2) rfl rfl (pgs_cons (pg_name (i := 2) sc_least_from.nd rfl (by first | exact Or.inl rfl | exact Or.inr rfl)) (pgs_cons (pg_name (i := 3) sc_least_from.nd rfl (by first | exact Or.inl rfl | exact Or.inr rfl)) pgs_nil))))
    (pss_cons (ps_set (i := 4) sc_least_from.nd rfl (by first | exact Or.inl rfl | exact Or.inr rfl) (pe_call D_alike_lots.ok (hr.mono (by decide)) (by rfl) D_alike_lots.g D_alike_lots.kp D_alike_lots.b .nil (passes_call (takes_of rfl rfl rfl rfl) fun _ _ _ _ h => h) (pa_cons (pv 0) pa_nil)))
    (pss_cons (ps_set (i := 5) sc_least_from.nd rfl (by first | exact Or.inl rfl | exact Or.inr rfl) (pe_lst (pa_cons (pv 1) pa_nil)))
    (pss_cons (ps_set (i := 6) sc_least_from.nd rfl (by first | exact Or.inl rfl | exact Or.inr rfl) (pe_disp (pps_cons (pe_ix (ix_K (K := G.K) rfl) (pv 4) (pv 1) (fun _ _ => rfl)) pe_int pps_nil) (by rfl) (by rfl) (fun z => nomatch z) (by decide)))
    (pss_cons (ps_set (i := 7) sc_least_from.nd rfl (by first | exact Or.inl rfl | exact Or.inr rfl) (pe_lst pa_nil))
    (pss_cons (ps_while (passes_of rfl) (pt_cmpR op_lt (pe_callB (call_lenK (K := G.K) rfl) (by rfl) Z.z_len boot_len (pa_cons (pv 7) pa_nil)) (pe_callB (call_lenK (K := G.K) rfl) (by rfl) Z.z_len boot_len (pa_cons (pv 5) pa_nil)) (nomark _))
    (pss_cons (ps_set (i := 8) sc_least_from.nd rfl (by first | exact Or.inl rfl | exact Or.inr rfl) (pe_ix (ix_K (K := G.K) rfl) (pv 2) (pe_ix (ix_K (K := G.K) rfl) (pv 5) (pe_callB (call_lenK (K := G.K) rfl) (by rfl) Z.z_len boot_len (pa_cons (pv 7) pa_nil)) (fun _ _ => rfl)) (fun _ _ => rfl)))
    (pss_cons (ps_for (passes_of rfl) rfl (pi_tupK (K := G.K) rfl (pv 8)) (pg_name (i := 9) sc_least_from.nd rfl (by first | exact Or.inl rfl | exact Or.inr rfl))
    (pss_one (ps_if (pt_cmpR (Mk.op_notInXK (K := G.K) (w := G.w) rfl (hu64 hr)) (pe_ix (ix_K (K := G.K) rfl) (pv 4) (pv 9) (fun _ _ => rfl)) (pv 6) (by rfl)) (pss_cons (ps_asg (pe_callB (call_lenK (K := G.K) rfl) (by rfl) Z.z_len boot_len (pa_cons (pv 5) pa_nil)) (pg_sub (pv 6) (pe_ix (ix_K (K := G.K) rfl) (pv 4) (pv 9) (fun _ _ => rfl)) (Mk.set_XK (K := G.K) (w := G.w) rfl (hu64 hr))))
    (pss_one (ps_expr (pe_bmK (K := G.K) rfl PySem.F.plainAttrs_list PySem.F.slot_list_append PySem.F.type_list_append mt_append (pv 5) (pa_cons (pv 9) pa_nil))))) pss_nil)))
    (pss_one (ps_expr (pe_bmK (K := G.K) rfl PySem.F.plainAttrs_list PySem.F.slot_list_append PySem.F.type_list_append mt_append (pv 7) (pa_cons (pe_callTy (call_tupK (K := G.K) rfl) (by rfl) Z.z_tuple boot_tuple' (pa_cons (pe_lc (own := [("there", 9)]) rfl sc_least_from.nd (pi_tupK (K := G.K) rfl (pv 8)) (blkOk_by (N := ["question", "start", "steps", "answers", "lots", "chosen", "numbers", "least_steps", "nexts", "there", "state"]) (sc := defScope (top 28)) (by decide +kernel)) (fun _ _ _ _ _ => (pg_name (i := 9) sc_least_from.nd rfl (by first | exact Or.inl rfl | exact Or.inr rfl))) (fun _ _ _ _ _ => pts_nil) (fun _ _ _ _ _ => (Mk.pe_xgetK (K := G.K) (w := G.w) rfl (hu64 hr) (pv 6) (pe_ix (ix_K (K := G.K) rfl) (pv 4) (pv 9) (fun _ _ => rfl)) (fun _ _ => rfl)))) pa_nil)) pa_nil)))))))
    (pss_one (ps_ret (pe_tup (pa_cons (pe_callTy (call_tupK (K := G.K) rfl) (by rfl) Z.z_tuple boot_tuple' (pa_cons (pv 7) pa_nil)) (pa_cons (pe_callTy (call_tupK (K := G.K) rfl) (by rfl) Z.z_tuple boot_tuple' (pa_cons (pe_lc (own := [("state", 10)]) rfl sc_least_from.nd (pi_lstK (K := G.K) rfl (pv 5)) (blkOk_by (N := ["question", "start", "steps", "answers", "lots", "chosen", "numbers", "least_steps", "nexts", "there", "state"]) (sc := defScope (top 28)) (by decide +kernel)) (fun _ _ _ _ _ => (pg_name (i := 10) sc_least_from.nd rfl (by first | exact Or.inl rfl | exact Or.inr rfl))) (fun _ _ _ _ _ => pts_nil) (fun _ _ _ _ _ => (pe_ix (ix_K (K := G.K) rfl) (pv 3) (pv 10) (fun _ _ => rfl)))) pa_nil)) pa_nil))))))))))), ?_⟩
  exact fn_of_ex (n := 2) (pad := 9) rfl ((exs_seq (exs_asg ex_var (exg_tup (exgs_cons exg_name (exgs_cons exg_name exgs_nil))))
    (exs_seq (exs_asg (ex_callP (fun _ _ => imL_nil) (exa_cons ex_var exa_nil)) exg_name)
    (exs_seq (exs_asg (ex_lst Z.M (exa_cons ex_var exa_nil)) exg_name)
    (exs_seq (exs_asg (ex_disp Z.M (.cons (ex_2 ok_ix ex_var ex_var) ex_int .nil)) exg_name)
    (exs_seq (exs_asg (ex_lst Z.M exa_nil) exg_name)
    (exs_seq (exs_while (ext_test (ex_2 ok_lt (ex_cb ok_len (exa_cons ex_var exa_nil)) (ex_cb ok_len (exa_cons ex_var exa_nil))))
    (exs_seq (exs_asg (ex_2 ok_ix ex_var (ex_2 ok_ix ex_var (ex_cb ok_len (exa_cons ex_var exa_nil)))) exg_name)
    (exs_seq (exs_for (exi_tup ex_var) exg_name
    (exs_if (ext_test (ex_2 ok_dnotinX (ex_2 ok_ix ex_var ex_var) ex_var)) (exs_seq (exs_asg (ex_cb ok_len (exa_cons ex_var exa_nil)) (exg_subD Z.M ex_var (ex_2 ok_ix ex_var ex_var)))
    (exs_drop (ex_bm (ok_append Z.M) ex_var (exa_cons ex_var exa_nil)))) exs_next))
    (exs_drop (ex_bm (ok_append Z.M) ex_var (exa_cons (ex_cb (ok_tuple Z.M) (exa_cons (ex_lc Z.M (exi_tup ex_var) (exw_name (by decide)) ext_yes (ex_dget ex_var (ex_2 ok_ix ex_var ex_var))) exa_nil)) exa_nil))))))
    (exs_ret (ex_tup Z.M (exa_cons (ex_cb (ok_tuple Z.M) (exa_cons ex_var exa_nil)) (exa_cons (ex_cb (ok_tuple Z.M) (exa_cons (ex_lc Z.M (exi_lst ex_var) (exw_name (by decide)) ext_yes (ex_2 ok_ix ex_var ex_var)) exa_nil)) exa_nil))))))))))) h
theorem sc_are_pairs : FnScope ["value", "names", "last", "pair"] ["value", "names", "last"] (defScope (top 40)) := ⟨rfl, rfl, rfl, by decide +kernel, rfl, by decide +kernel, by decide +kernel⟩
theorem ok_are_pairs (Z : Fx P G.w G T mg base) {f : Addr} {fd : FuncData} (Fd : Fun G.K "are_pairs" "are_pairs" (top 40) f fd)
    {a_is_tuple_of : Addr} {fd_is_tuple_of : FuncData} (D_is_tuple_of : DefX P G.w G mg base 1 "is_tuple_of" a_is_tuple_of fd_is_tuple_of ["value", "least", "most"] [] 3 f_is_tuple_of)
    {a_is_pair : Addr} {fd_is_pair : FuncData} (D_is_pair : DefX P G.w G mg base 2 "is_pair" a_is_pair fd_is_pair ["value", "last"] [] 2 f_is_pair)
    {c T0 : Addr} (hT : T0 ∈ T) (O : OwnX mg base fd c T0) :
    FnOk P G.w G.K mg base (L2.CX P G.w) 4 f fd ["value", "names", "last"] (spX G 3 f_are_pairs) := by
  refine okXC Fd sc_are_pairs (fun vs H Q E h => h.1) (fun Ar outer s H vs Q E hr h => ?_)
  refine ⟨_, (pss_one (ps_ret (pe_and (pe_call D_is_tuple_of.ok (hr.mono (by decide)) (by rfl) D_is_tuple_of.g D_is_tuple_of.kp D_is_tuple_of.b .nil (passes_call (takes_of rfl rfl rfl rfl) fun _ _ _ _ h => h) (pa_cons (pv 0) (pa_cons (pv 1) (pa_cons (pv 1) pa_nil)))) (pe_one (Mk.pe_all (own := [("pair", 3)]) hr (by rfl) Z.z_all O.tb O.code (gOk_by (N := ["value", "names", "last", "pair"]) (sc := defScope (top 40)) (by decide +kernel)) sc_are_pairs.nd (pi_tupK (K := G.K) rfl (pv 0)) (fun _ _ _ _ _ _ _ => (pg_name (i := 3) sc_are_pairs.nd rfl (by first | exact Or.inl rfl | exact Or.inr rfl))) (fun _ _ _ _ _ _ _ => (pe_call D_is_pair.ok (Room.mono (room_gen hr) (by decide)) (by rfl) D_is_pair.g D_is_pair.kp D_is_pair.b .nil passF (pa_cons (pv 3) (pa_cons (pv 2) pa_nil))))))))), ?_⟩
  exact fn_of_ex (n := 3) (pad := 1) rfl ((exs_ret (ex_andV (ex_callP (fun _ _ => imL_nil) (exa_cons ex_var (exa_cons ex_var (exa_cons ex_var exa_nil)))) (ex_all Z.M hT (exi_tup ex_var) (exw_name (by decide)) (ex_callP (fun _ _ => imL_nil) (exa_cons ex_var (exa_cons ex_var exa_nil))))))) h
theorem sc_behind_closing : FnScope ["manner", "reader", "state", "name", "nexts"] ["manner", "reader", "state", "name"] (defScope (top 47)) := ⟨rfl, rfl, rfl, by decide +kernel, rfl, by decide +kernel, by decide +kernel⟩
theorem ok_behind_closing (Z : Fx P G.w G T mg base) {f : Addr} {fd : FuncData} (Fd : Fun G.K "behind_closing" "behind_closing" (top 47) f fd) :
    FnOk P G.w G.K mg base (L2.CX P G.w) 1 f fd ["manner", "reader", "state", "name"] (spX G 4 f_behind_closing) := by
  obtain ⟨t_NAMED, g_NAMED⟩ := Z.s_NAMED
  refine okXC Fd sc_behind_closing (fun vs H Q E h => h.1) (fun Ar outer s H vs Q E hr h => ?_)
  refine ⟨_, (pss_cons (ps_set (i := 4) sc_behind_closing.nd rfl (by first | exact Or.inl rfl | exact Or.inr rfl) (pe_ix (ix_K (K := G.K) rfl) (pe_ix (ix_K (K := G.K) rfl) (pv 1) pe_int (fun _ _ => rfl)) (pv 2) (fun _ _ => rfl)))
    (pss_one (ps_ret (pe_ifExp (pt_cmpR (op_eqK (K := G.K) rfl (hu64 hr)) (pv 0) (pe_glob (v := .str "named") (by rfl) g_NAMED ⟨_, rfl⟩) (nomark _)) (pe_ix (ix_K (K := G.K) rfl) (pv 4) (pv 3) (fun _ _ => rfl)) (pe_ix (ix_K (K := G.K) rfl) (pv 4) pe_int (fun _ _ => rfl)))))), ?_⟩
  exact fn_of_ex (n := 4) (pad := 1) rfl ((exs_seq (exs_asg (ex_2 ok_ix (ex_2 ok_ix ex_var ex_int) ex_var) exg_name)
    (exs_ret (ex_if (ext_test (ex_2 ok_eq ex_var ex_str)) (ex_2 ok_ix ex_var ex_var) (ex_2 ok_ix ex_var ex_int))))) h
theorem sc_clashes : FnScope ["least", "manner", "lots", "words", "pair"] ["least", "manner"] (defScope (top 62)) := ⟨rfl, rfl, rfl, by decide +kernel, rfl, by decide +kernel, by decide +kernel⟩
theorem ok_clashes (Z : Fx P G.w G T mg base) {f : Addr} {fd : FuncData} (Fd : Fun G.K "clashes" "clashes" (top 62) f fd)
    {a_lots_of_least : Addr} {fd_lots_of_least : FuncData} (D_lots_of_least : DefX P G.w G mg base 2 "lots_of_least" a_lots_of_least fd_lots_of_least ["least"] [] 1 f_lots_of_least)
    {a_meeting_words : Addr} {fd_meeting_words : FuncData} (D_meeting_words : DefX P G.w G mg base 3 "meeting_words" a_meeting_words fd_meeting_words ["least", "manner"] [] 2 f_meeting_words) :
    FnOk P G.w G.K mg base (L2.CX P G.w) 4 f fd ["least", "manner"] (spX G 2 f_clashes) := by
  refine okXC Fd sc_clashes (fun vs H Q E h => h.1) (fun Ar outer s H vs Q E hr h => ?_)
  refine ⟨_, (pss_cons (ps_set (i := 2) sc_clashes.nd rfl (by first | exact Or.inl rfl | exact Or.inr rfl) (pe_call D_lots_of_least.ok (hr.mono (by decide)) (by rfl) D_lots_of_least.g D_lots_of_least.kp D_lots_of_least.b .nil (passes_call (takes_of rfl rfl rfl rfl) fun _ _ _ _ h => h) (pa_cons (pv 0) pa_nil)))
    (pss_cons (ps_set (i := 3) sc_clashes.nd rfl (by first | exact Or.inl rfl | exact Or.inr rfl) (pe_call D_meeting_words.ok (hr.mono (by decide)) (by rfl) D_meeting_words.g D_meeting_words.kp D_meeting_words.b .nil (passes_call (takes_of rfl rfl rfl rfl) fun _ _ _ _ h => h) (pa_cons (pv 0) (pa_cons (pv 1) pa_nil))))
    (pss_one (ps_ret (pe_lock (Mk.pe_xcK (K := G.K) (w := G.w) (own := [("pair", 4)]) rfl (hu64 hr) rfl sc_clashes.nd (Mk.pi_keysX (pv 3)) (blkOk_by (N := ["least", "manner", "lots", "words", "pair"]) (sc := defScope (top 62)) (by decide +kernel)) (fun _ _ _ _ _ => (pg_name (i := 4) sc_clashes.nd rfl (by first | exact Or.inl rfl | exact Or.inr rfl))) (fun _ _ _ _ _ => pts_one (pt_cmpR (op_neK (K := G.K) rfl (hu64 hr)) (pe_ix (ix_K (K := G.K) rfl) (pv 2) (pe_ix (ix_K (K := G.K) rfl) (pv 4) pe_int (fun _ _ => rfl)) (fun _ _ => rfl)) (pe_ix (ix_K (K := G.K) rfl) (pv 2) (pe_ix (ix_K (K := G.K) rfl) (pv 4) pe_int (fun _ _ => rfl)) (fun _ _ => rfl)) (nomark _))) (fun _ _ _ _ _ => (pv 4)) (fun _ _ _ _ _ => (Mk.pe_xgetK (K := G.K) (w := G.w) rfl (hu64 hr) (pv 3) (pv 4) (fun _ _ => rfl))))))))), ?_⟩
  exact fn_of_ex (n := 2) (pad := 3) rfl ((exs_seq (exs_asg (ex_callP (fun _ _ => imL_nil) (exa_cons ex_var exa_nil)) exg_name)
    (exs_seq (exs_asg (ex_call (fun _ _ => imL_nil) (exa_cons ex_var (exa_cons ex_var exa_nil))) exg_name)
    (exs_ret (ex_lock Z.M (ex_xc Z.M (exi_keys ex_var) (exw_name (by decide)) (ext_test (ex_2 ok_ne (ex_2 ok_ix ex_var (ex_2 ok_ix ex_var ex_int)) (ex_2 ok_ix ex_var (ex_2 ok_ix ex_var ex_int)))) ex_var (ex_dget ex_var ex_var))))))) h
theorem sc_rings : FnScope ["question", "path"] ["question", "path"] (defScope (top 71)) := ⟨rfl, rfl, rfl, by decide +kernel, rfl, by decide +kernel, by decide +kernel⟩
theorem ok_rings (Z : Fx P G.w G T mg base) {f : Addr} {fd : FuncData} (Fd : Fun G.K "rings" "rings" (top 71) f fd)
    {a_check_question : Addr} {fd_check_question : FuncData} (D_check_question : DefX P G.w G mg base 6 "check_question" a_check_question fd_check_question ["value"] [] 1 f_check_question)
    {a_check_path : Addr} {fd_check_path : FuncData} (D_check_path : DefX P G.w G mg base 5 "check_path" a_check_path fd_check_path ["names", "value"] [] 2 f_check_path)
    {a_names_of : Addr} {fd_names_of : FuncData} (D_names_of : DefX P G.w G mg base 1 "names_of" a_names_of fd_names_of ["question"] [] 1 f_names_of)
    {a_answer_behind : Addr} {fd_answer_behind : FuncData} (D_answer_behind : DefX P G.w G mg base 2 "answer_behind" a_answer_behind fd_answer_behind ["question", "state", "path"] [] 3 f_answer_behind)
    {a_quiet_from : Addr} {fd_quiet_from : FuncData} (D_quiet_from : DefX P G.w G mg base 4 "quiet_from" a_quiet_from fd_quiet_from ["question"] [] 1 f_quiet_from) :
    FnOk P G.w G.K mg base (L2.CX P G.w) 7 f fd ["question", "path"] (spX G 2 f_rings) := by
  refine okXC Fd sc_rings (fun vs H Q E h => h.1) (fun Ar outer s H vs Q E hr h => ?_)
  refine ⟨_, (pss_cons (ps_expr (pe_call D_check_question.ok (hr.mono (by decide)) (by rfl) D_check_question.g D_check_question.kp D_check_question.b .nil (passes_call (takes_of rfl rfl rfl rfl) fun _ _ _ _ h => h) (pa_cons (pv 0) pa_nil)))
    (pss_cons (ps_expr (pe_call D_check_path.ok (hr.mono (by decide)) (by rfl) D_check_path.g D_check_path.kp D_check_path.b .nil (passes_call (takes_of rfl rfl rfl rfl) fun _ _ _ _ h => h) (pa_cons (pe_call D_names_of.ok (hr.mono (by decide)) (by rfl) D_names_of.g D_names_of.kp D_names_of.b .nil (passes_call (takes_of rfl rfl rfl rfl) fun _ _ _ _ h => h) (pa_cons (pv 0) pa_nil)) (pa_cons (pv 1) pa_nil))))
    (pss_one (ps_ret (pe_cmpR (op_eqK (K := G.K) rfl (hu64 hr)) (pe_call D_answer_behind.ok (hr.mono (by decide)) (by rfl) D_answer_behind.g D_answer_behind.kp D_answer_behind.b .nil (passes_call (takes_of rfl rfl rfl rfl) fun _ _ _ _ h => h) (pa_cons (pe_call D_quiet_from.ok (hr.mono (by decide)) (by rfl) D_quiet_from.g D_quiet_from.kp D_quiet_from.b .nil (passes_call (takes_of rfl rfl rfl rfl) fun _ _ _ _ h => h) (pa_cons (pv 0) pa_nil)) (pa_cons pe_int (pa_cons (pv 1) pa_nil)))) pe_int (nomark _)))))), ?_⟩
  exact fn_of_ex (n := 2) (pad := 0) rfl ((exs_seq (exs_drop (ex_callP (fun _ _ => imL_nil) (exa_cons ex_var exa_nil)))
    (exs_seq (exs_drop (ex_callP (fun _ _ => imL_nil) (exa_cons (ex_callP (fun _ _ => imL_nil) (exa_cons ex_var exa_nil)) (exa_cons ex_var exa_nil))))
    (exs_ret (ex_2 ok_eq (ex_callP (fun _ _ => imL_nil) (exa_cons (ex_callP (fun _ _ => imL_nil) (exa_cons ex_var exa_nil)) (exa_cons ex_int (exa_cons ex_var exa_nil)))) ex_int))))) h
theorem sc_shows_ring_paper : FnScope ["question", "manner", "value", "quiet"] ["question", "manner", "value"] (defScope (top 78)) := ⟨rfl, rfl, rfl, by decide +kernel, rfl, by decide +kernel, by decide +kernel⟩
theorem ok_shows_ring_paper (Z : Fx P G.w G T mg base) {f : Addr} {fd : FuncData} (Fd : Fun G.K "shows_ring_paper" "shows_ring_paper" (top 78) f fd)
    {a_checked_quiet : Addr} {fd_checked_quiet : FuncData} (D_checked_quiet : DefX P G.w G mg base 7 "checked_quiet" a_checked_quiet fd_checked_quiet ["question", "manner"] [] 2 f_checked_quiet)
    {a_is_ring_paper : Addr} {fd_is_ring_paper : FuncData} (D_is_ring_paper : DefX P G.w G mg base 7 "is_ring_paper" a_is_ring_paper fd_is_ring_paper ["quiet", "manner", "value"] [] 3 f_is_ring_paper) :
    FnOk P G.w G.K mg base (L2.CX P G.w) 8 f fd ["question", "manner", "value"] (spX G 3 f_shows_ring_paper) := by
  refine okXC Fd sc_shows_ring_paper (fun vs H Q E h => h.1) (fun Ar outer s H vs Q E hr h => ?_)
  refine ⟨_, (pss_cons (ps_set (i := 3) sc_shows_ring_paper.nd rfl (by first | exact Or.inl rfl | exact Or.inr rfl) (pe_call D_checked_quiet.ok (hr.mono (by decide)) (by rfl) D_checked_quiet.g D_checked_quiet.kp D_checked_quiet.b .nil (passes_call (takes_of rfl rfl rfl rfl) fun _ _ _ _ h => h) (pa_cons (pv 0) (pa_cons (pv 1) pa_nil))))
    (pss_cons (ps_if (pt_cmpR op_isN (pv 2) pe_non (nomark _)) (pss_one Mk.ps_fail) pss_nil)
    (pss_one (ps_ret (pe_call D_is_ring_paper.ok (hr.mono (by decide)) (by rfl) D_is_ring_paper.g D_is_ring_paper.kp D_is_ring_paper.b .nil (passes_call (takes_of rfl rfl rfl rfl) fun _ _ _ _ h => h) (pa_cons (pv 3) (pa_cons (pv 1) (pa_cons (pv 2) pa_nil)))))))), ?_⟩
  exact fn_of_ex (n := 3) (pad := 1) rfl ((exs_seq (exs_asg (ex_callP (fun _ _ => imL_nil) (exa_cons ex_var (exa_cons ex_var exa_nil))) exg_name)
    (exs_seq (exs_if (ext_test (ex_2 ok_isN ex_var ex_non)) exs_fail exs_next)
    (exs_ret (ex_callP (fun _ _ => imL_nil) (exa_cons ex_var (exa_cons ex_var (exa_cons ex_var exa_nil)))))))) h
theorem sc_Search_next_row : FnScope ["self", "length", "number", "key", "parts", "kind", "start", "end"] ["self"] (defScope (inClass (top 54) 5)) := ⟨rfl, rfl, rfl, by decide +kernel, rfl, by decide +kernel, by decide +kernel⟩
theorem ok_Search_next_row (Z : Fx P G.w G T mg base) {f : Addr} {fd : FuncData} (Fd : Fun G.K "next_row" "Search.next_row" (inClass (top 54) 5) f fd)
    {a_Search_go_on_behind_mark : Addr} {fd_Search_go_on_behind_mark : FuncData} (D_Search_go_on_behind_mark : MethX P G.w G mg base 3 (G.cl 0) "go_on_behind_mark" a_Search_go_on_behind_mark fd_Search_go_on_behind_mark ["self", "start", "end"] 3 f_Search_go_on_behind_mark)
    {a_Search_go_on_behind_run : Addr} {fd_Search_go_on_behind_run : FuncData} (D_Search_go_on_behind_run : MethX P G.w G mg base 2 (G.cl 0) "go_on_behind_run" a_Search_go_on_behind_run fd_Search_go_on_behind_run ["self", "start", "end"] 3 f_Search_go_on_behind_run) :
    FnOk P G.w G.K mg base (L2.CX P G.w) 4 f fd ["self"] (spX G 1 f_Search_next_row) := by
  obtain ⟨t_MARK, g_MARK⟩ := Z.s_MARK
  obtain ⟨a_BEGINNING, g_BEGINNING, h_BEGINNING⟩ := Z.t_BEGINNING
  refine okXC Fd sc_Search_next_row (fun vs H Q E h => h.1) (fun Ar outer s H vs Q E hr h => ?_)
  refine ⟨_, (pss_cons (ps_while (passes_of rfl) (pt_cmpR op_gt (pe_callB (call_lenK (K := G.K) rfl) (by rfl) Z.z_len boot_len (pa_cons (pe_fldK (K := G.K) rfl (pv 0) rfl) pa_nil)) pe_int (nomark _))
    (pss_cons (ps_asg (pe_callBfun (Mk.cr_hpopK (K := G.K) rfl (hu64 hr)) (by rfl) Z.b_heappop (pa_cons (pe_fldK (K := G.K) rfl (pv 0) rfl) pa_nil)) (pg_tupK (K := G.K) (n := 2) rfl rfl (pgs_cons (pg_name (i := 1) sc_Search_next_row.nd rfl (by first | exact Or.inl rfl | exact Or.inr rfl)) (pgs_cons (pg_name (i := 2) sc_Search_next_row.nd rfl (by first | exact Or.inl rfl | exact Or.inr rfl)) pgs_nil))))
    (pss_cons (ps_asg (pe_ix (ix_K (K := G.K) rfl) (pe_fldK (K := G.K) rfl (pv 0) rfl) (pv 2) (fun _ _ => rfl)) (pg_tupK (K := G.K) (n := 2) rfl rfl (pgs_cons (pg_name (i := 3) sc_Search_next_row.nd rfl (by first | exact Or.inl rfl | exact Or.inr rfl)) (pgs_cons (pg_name (i := 4) sc_Search_next_row.nd rfl (by first | exact Or.inl rfl | exact Or.inr rfl)) pgs_nil))))
    (pss_cons (ps_if (pt_cmpR (Mk.op_inXK (K := G.K) (w := G.w) rfl (hu64 hr)) (pv 3) (pe_fldK (K := G.K) rfl (pv 0) rfl) (by rfl)) (pss_one Mk.ps_fail) pss_nil)
    (pss_cons (ps_asg (pv 1) (pg_sub (pe_fldK (K := G.K) rfl (pv 0) rfl) (pv 3) (Mk.set_XK (K := G.K) (w := G.w) rfl (hu64 hr))))
    (pss_cons (ps_asg (pv 4) (pg_sub (pe_fldK (K := G.K) rfl (pv 0) rfl) (pv 3) (Mk.set_XK (K := G.K) (w := G.w) rfl (hu64 hr))))
    (pss_cons (ps_asg (pv 3) (pg_tupK (K := G.K) (n := 3) rfl rfl (pgs_cons (pg_name (i := 5) sc_Search_next_row.nd rfl (by first | exact Or.inl rfl | exact Or.inr rfl)) (pgs_cons (pg_name (i := 6) sc_Search_next_row.nd rfl (by first | exact Or.inl rfl | exact Or.inr rfl)) (pgs_cons (pg_name (i := 7) sc_Search_next_row.nd rfl (by first | exact Or.inl rfl | exact Or.inr rfl)) pgs_nil)))))
    (pss_cons (ps_if (pt_cmpR (op_eqK (K := G.K) rfl (hu64 hr)) (pv 5) (pe_glob (v := .str "mark") (by rfl) g_MARK ⟨_, rfl⟩) (nomark _)) (pss_cons (ps_expr (pe_meth (pv 0) Z.cl_Search D_Search_go_on_behind_mark.m D_Search_go_on_behind_mark.ok (hr.mono (by decide)) D_Search_go_on_behind_mark.b .nil (passes_call (takes_of rfl rfl rfl rfl) fun _ _ _ _ h => h) (pa_cons (pv 6) (pa_cons (pv 7) pa_nil))))
    (pss_one ps_continue)) pss_nil)
    (pss_cons (ps_expr (pe_meth (pv 0) Z.cl_Search D_Search_go_on_behind_run.m D_Search_go_on_behind_run.ok (hr.mono (by decide)) D_Search_go_on_behind_run.b .nil (passes_call (takes_of rfl rfl rfl rfl) fun _ _ _ _ h => h) (pa_cons (pv 6) (pa_cons (pv 7) pa_nil))))
    (pss_one (ps_if (pt_cmpR (op_eqK (K := G.K) rfl (hu64 hr)) (pv 6) (pe_glob (v := .ref a_BEGINNING) (by rfl) g_BEGINNING rfl) (nomark _)) (pss_one (ps_ret (pv 7))) pss_nil)))))))))))
    (pss_one (ps_ret pe_non))), ?_⟩
  exact fn_of_ex (n := 1) (pad := 7) rfl ((exs_seq (exs_while (ext_test (ex_2 ok_gt (ex_cb ok_len (exa_cons (ex_fld Z.cl_Search Z.na_Search_waiting ex_var) exa_nil)) ex_int))
    (exs_seq (exs_asg (ex_cb (ok_hpop Z.M) (exa_cons (ex_fld Z.cl_Search Z.na_Search_waiting ex_var) exa_nil)) (exg_tup (exgs_cons exg_name (exgs_cons exg_name exgs_nil))))
    (exs_seq (exs_asg (ex_2 ok_ix (ex_fld Z.cl_Search Z.na_Search_made ex_var) ex_var) (exg_tup (exgs_cons exg_name (exgs_cons exg_name exgs_nil))))
    (exs_seq (exs_if (ext_test (ex_2 ok_dinX ex_var (ex_fld Z.cl_Search Z.na_Search_parts ex_var))) exs_fail exs_next)
    (exs_seq (exs_asg ex_var (exg_subD Z.M (ex_fld Z.cl_Search Z.na_Search_lengths ex_var) ex_var))
    (exs_seq (exs_asg ex_var (exg_subD Z.M (ex_fld Z.cl_Search Z.na_Search_parts ex_var) ex_var))
    (exs_seq (exs_asg ex_var (exg_tup (exgs_cons exg_name (exgs_cons exg_name (exgs_cons exg_name exgs_nil)))))
    (exs_seq (exs_if (ext_test (ex_2 ok_eq ex_var ex_str)) (exs_seq (exs_drop (ex_meth ex_var (exa_cons ex_var (exa_cons ex_var exa_nil))))
    exs_cont) exs_next)
    (exs_seq (exs_drop (ex_meth ex_var (exa_cons ex_var (exa_cons ex_var exa_nil))))
    (exs_if (ext_test (ex_2 ok_eq ex_var (ex_ctup (js := [-1, -1]) h_BEGINNING))) (exs_ret ex_var) exs_next))))))))))
    (exs_ret ex_non))) h
theorem sc_rings_right : FnScope ["question", "manner", "reader"] ["question", "manner", "reader"] (defScope (top 83)) := ⟨rfl, rfl, rfl, by decide +kernel, rfl, by decide +kernel, by decide +kernel⟩
theorem ok_rings_right (Z : Fx P G.w G T mg base) {f : Addr} {fd : FuncData} (Fd : Fun G.K "rings_right" "rings_right" (top 83) f fd)
    {a_check_reading : Addr} {fd_check_reading : FuncData} (D_check_reading : DefX P G.w G mg base 9 "check_reading" a_check_reading fd_check_reading ["question", "manner", "reader", "most"] [V.int (6)] 4 f_check_reading)
    {a_errs_nowhere : Addr} {fd_errs_nowhere : FuncData} (D_errs_nowhere : DefX P G.w G mg base 6 "errs_nowhere" a_errs_nowhere fd_errs_nowhere ["question", "manner", "reader", "silent"] [V.bl false] 4 f_errs_nowhere)
    (D_kb_errs_nowhere : KBn G.K fd_errs_nowhere ["question", "manner", "reader", "silent"] 3 ["silent"] (fun us ws => us ++ ws) (fun vs zs => vs ++ zs))
    {a_quiet_from : Addr} {fd_quiet_from : FuncData} (D_quiet_from : DefX P G.w G mg base 4 "quiet_from" a_quiet_from fd_quiet_from ["question"] [] 1 f_quiet_from) :
    FnOk P G.w G.K mg base (L2.CX P G.w) 10 f fd ["question", "manner", "reader"] (spX G 3 f_rings_right) := by
  obtain ⟨t_MOST_RINGER_STATES, g_MOST_RINGER_STATES⟩ := Z.i_MOST_RINGER_STATES
  refine okXC Fd sc_rings_right (fun vs H Q E h => h.1) (fun Ar outer s H vs Q E hr h => ?_)
  refine ⟨_, (pss_cons (ps_expr (pe_call D_check_reading.ok (hr.mono (by decide)) (by rfl) D_check_reading.g D_check_reading.kp D_check_reading.b .nil (passes_call (takes_of rfl rfl rfl rfl) fun _ _ _ _ h => h) (pa_cons (pv 0) (pa_cons (pv 1) (pa_cons (pv 2) (pa_cons (pe_glob (v := .int (20)) (by rfl) g_MOST_RINGER_STATES ⟨_, rfl⟩) pa_nil))))))
    (pss_one (ps_ret (pe_callN D_errs_nowhere.ok (hr.mono (by decide)) (by rfl) D_errs_nowhere.g D_errs_nowhere.kp D_kb_errs_nowhere (passes_call (takes_of rfl rfl rfl rfl) fun _ _ _ _ h => h) (pa_cons (pe_call D_quiet_from.ok (hr.mono (by decide)) (by rfl) D_quiet_from.g D_quiet_from.kp D_quiet_from.b .nil (passes_call (takes_of rfl rfl rfl rfl) fun _ _ _ _ h => h) (pa_cons (pv 0) pa_nil)) (pa_cons (pv 1) (pa_cons (pv 2) pa_nil))) (pk_cons pe_bl pk_nil))))), ?_⟩
  exact fn_of_ex (n := 3) (pad := 0) rfl ((exs_seq (exs_drop (ex_callP (fun _ _ => imL_nil) (exa_cons ex_var (exa_cons ex_var (exa_cons ex_var (exa_cons ex_int exa_nil))))))
    (exs_ret (ex_callN (N := 4) (n := 3) (m := 1) rfl (exa_cons (ex_callP (fun _ _ => imL_nil) (exa_cons ex_var exa_nil)) (exa_cons ex_var (exa_cons ex_var exa_nil))) (exa_cons ex_bl exa_nil))))) h
end
end Mx

/-! ### MqGT -/
set_option Elab.async false
set_option linter.all false
set_option maxRecDepth 100000
set_option maxHeartbeats 4000000
namespace Mx
open PySem PySem.Spec PyProof.Rows L2
open GxR (TabG Tabbed)
abbrev sTakenX : Stmt := top 88
theorem sc_taken : FnScope ["row", "many", "found", "cell"] ["row", "many"] (defScope sTakenX) := ⟨rfl, rfl, rfl, by decide +kernel, rfl, by decide +kernel, by decide +kernel⟩
theorem ok_takenX {P : Program} {w : World} {G : Gx} {T : List Addr} {mg : Str → Option Value} {base : Heap} (M : AmX G T) (zi : mg "int" = none) (zl : mg "len" = none) {f : Addr} {fd : FuncData} (F : Fun G.K "_law_taken" "_law_taken" sTakenX f fd) : FnOk P w G.K mg base (L2.CX P w) 1 f fd ["row", "many"] (spX G 2 fTaken) := by
  refine okXC F sc_taken (fun vs H Q E h => h.1) (fun Ar outer s H vs Q E hr h => ?_)
  refine ⟨_, pss_cons (ps_if (pt_cmpR op_gt (pe_ix ix_list (pv 0) pe_int (fun _ _ => rfl)) pe_int (nomark _))
      (pss_cons (ps_set (i := 2) sc_taken.nd rfl (Or.inl rfl) (pe_op op_mod (pe_callTy call_int1 (by rfl) zi boot_int' (pa_cons (pe_ix ix_list (pv 0) pe_int (fun _ _ => rfl)) pa_nil)) (pv 1)))
      (pss_cons (ps_asg (pe_op op_fdiv (pe_ix ix_list (pv 0) pe_int (fun _ _ => rfl)) (pv 1)) (pg_sub (pv 0) pe_int set_list))
      (pss_one (ps_ret (pv 2))))) pss_nil)
    (pss_cons (ps_asg (pe_op op_add (pe_ix ix_list (pv 0) pe_int (fun _ _ => rfl)) pe_int) (pg_sub (pv 0) pe_int set_list))
    (pss_cons (ps_if (pt_cmpR op_gt (pe_ix ix_list (pv 0) pe_int (fun _ _ => rfl)) (pe_callB call_len_seq (by rfl) zl boot_len (pa_cons (pe_ix ix_list (pv 0) pe_int (fun _ _ => rfl)) pa_nil)) (nomark _))
      (pss_cons (ps_asg (pe_op op_mod (pe_callTy call_int1 (by rfl) zi boot_int' (pa_cons (pe_op op_add (pe_op op_mul (pe_ix ix_list (pv 0) pe_int (fun _ _ => rfl)) pe_int) pe_int) pa_nil)) pe_int) (pg_sub (pv 0) pe_int set_list))
      (pss_one (ps_ret (pe_op op_mod (pe_callTy call_int1 (by rfl) zi boot_int' (pa_cons (pe_op op_fdiv (pe_ix ix_list (pv 0) pe_int (fun _ _ => rfl)) pe_int) pa_nil)) (pv 1))))) pss_nil)
    (pss_cons (ps_set (i := 3) sc_taken.nd rfl (Or.inl rfl) (pe_ix ix_list (pe_ix ix_list (pv 0) pe_int (fun _ _ => rfl)) (pe_op op_sub (pe_ix ix_list (pv 0) pe_int (fun _ _ => rfl)) pe_int) (fun _ _ => rfl)))
    (pss_cons (ps_asg (pe_op op_mod (pe_callTy call_int1 (by rfl) zi boot_int' (pa_cons (pe_op op_add (pe_op op_add (pe_op op_mul (pe_ix ix_list (pv 0) pe_int (fun _ _ => rfl)) pe_int) (pv 3)) pe_int) pa_nil)) pe_int) (pg_sub (pv 0) pe_int set_list))
    (pss_cons (ps_if (pt_cmpR op_ge (pv 3) (pe_op op_pow pe_int pe_int) (nomark _))
      (pss_one (ps_asg (pe_op op_fdiv (pv 3) (pv 1)) (pg_sub (pv 0) pe_int set_list))) pss_nil)
    (pss_one (ps_ret (pe_op op_mod (pe_callTy call_int1 (by rfl) zi boot_int' (pa_cons (pv 3) pa_nil)) (pv 1))))))))), ?_⟩
  obtain ⟨hl, ι, st, as, R, il, q⟩ := h
  obtain ⟨n, many, rfl, hst, m1, m2, q⟩ : ∃ n many, as = [.ref n, .int many] ∧ st[n]? = some .dr ∧ 1 ≤ many ∧ many < 1073741824 ∧ (Mx.R.draw many.toNat fun k => .ok (A.int k, st)).holds (PE1 G ι H Q) (PXx G ι H E) := by
    unfold fTaken at q
    split at q
    · split at q
      · rename_i hst
        split at q
        · rename_i hm
          exact ⟨_, _, rfl, hst, hm.1, hm.2, q⟩
        · exact q.elim
      · exact q.elim
    · exact q.elim
  obtain ⟨v1, v2, rfl, i1, i2⟩ := imL_2 il
  obtain ⟨r, hn, rfl⟩ := im_ref' i1
  rw [im_int' i2]
  obtain ⟨a, ns, i, x, y, hr0, ha, i0⟩ := R.ob n _ r hst hn
  have hm := List.mem_of_getElem? hn
  have mp : 0 < many := by omega
  have md : ∀ z : Int, 0 ≤ z % many ∧ z % many < many := fun z => ⟨Int.emod_nonneg _ (by omega), Int.emod_lt_of_pos _ mp⟩
  have fin : ∀ {H' : Hp} {i y z k : Int}, XS r H H' → H' r = some (.lst [.ref a, .int i, .int y, .int z]) → 0 ≤ i → 0 ≤ k → k < many → Q (.int k) H' := fun x h i0 k0 k1 => taken_end M R hn hst hr0 ha x h i0 k0 k1 q
  have s0 : ScrB G.K H r a (ns.map .int) := ScrAt.mk hm ha
  refine Mk.c_seq (Mk.c_if (Mk.c_Bv (Mk.v_opb (Mk.v_ixL (Mk.v_var rfl) Mk.v_c (SqL.of hr0) rfl) Mk.v_c) ?_))
  by_cases y0 : 0 < y
  · rw [decide_eq_true y0]
    refine iteT (Mk.c_seq (Mk.c_set (Mk.c_v (v_modX (v_intX (Mk.v_ixL (Mk.v_var rfl) Mk.v_c (SqL.of hr0) rfl)) (Mk.v_var rfl) mp) ?_)))
    dsimp only
    refine Mk.c_seq (Mk.c_asg (Mk.c_v (v_divX (Mk.v_ixL (Mk.v_var rfl) Mk.v_c (SqL.of hr0) rfl) (Mk.v_var rfl) mp m2) (c_setLX (Mk.v_var rfl) Mk.v_c hr0 (j := 3) rfl ?_)))
    dsimp only
    exact Mk.c_ret (Mk.c_var rfl (fin XS.upd upd_same i0 (md y).1 (md y).2))
  · rw [decide_eq_false y0]
    refine iteF (Mk.c_next ?_)
    dsimp only
    refine Mk.c_seq (Mk.c_asg (Mk.c_v (v_addX (Mk.v_ixL (Mk.v_var rfl) Mk.v_c (SqL.of hr0) rfl) Mk.v_c) (c_setLX (Mk.v_var rfl) Mk.v_c hr0 (j := 1) rfl ?_)))
    dsimp only
    have h1 : (upd H r (.lst ([V.ref a, .int i, .int x, .int y].set 1 (.int (i + 1))))) r = some (.lst [V.ref a, .int (i + 1), .int x, .int y]) := upd_same
    have x1 : XS r H (upd H r (.lst ([V.ref a, .int i, .int x, .int y].set 1 (.int (i + 1))))) := XS.upd
    generalize (upd H r (.lst ([V.ref a, .int i, .int x, .int y].set 1 (.int (i + 1))))) = H1 at h1 x1
    have s1 := ScrB.xs x1 s0
    refine Mk.c_seq (Mk.c_if (Mk.c_Bv (Mk.v_opb (Mk.v_ixL (Mk.v_var rfl) Mk.v_c (SqL.of h1) rfl) (Mk.v_len (Mk.v_ixL (Mk.v_var rfl) Mk.v_c (SqL.of h1) rfl) (.inl s1.sql))) ?_))
    rw [List.length_map]
    by_cases il : (ns.length : Int) < i + 1
    · rw [decide_eq_true il]
      refine iteT (Mk.c_seq (Mk.c_asg (Mk.c_v (v_modX (v_intX (v_addX (v_mulX (Mk.v_ixL (Mk.v_var rfl) Mk.v_c (SqL.of h1) rfl) Mk.v_c (.inr ⟨by decide, by decide⟩)) Mk.v_c)) Mk.v_c (by decide)) (c_setLX (Mk.v_var rfl) Mk.v_c h1 (j := 2) rfl ?_))))
      dsimp only
      have h2 : (upd H1 r (.lst ([V.ref a, .int (i + 1), .int x, .int y].set 2 (.int ((x * 48271 + 11) % 2147483647))))) r = some (.lst [V.ref a, .int (i + 1), .int ((x * 48271 + 11) % 2147483647), .int y]) := upd_same
      exact Mk.c_ret (Mk.c_v (v_modX (v_intX (v_divX (Mk.v_ixL (Mk.v_var rfl) Mk.v_c (SqL.of h2) rfl) Mk.v_c (by decide) (by decide))) (Mk.v_var rfl) mp) (fin (XS.trans x1 XS.upd) h2 (by omega) (md _).1 (md _).2))
    · rw [decide_eq_false il]
      refine iteF (Mk.c_next ?_)
      dsimp only
      have il2 : i.toNat < ns.length := by omega
      have hcell : atI (ns.map V.int) (i + 1 - 1) = some (.int (ns.getD i.toNat 0)) := by
        rw [show i + 1 - 1 = i by omega]
        exact atI_mapX i0 (by omega)
      generalize ns.getD i.toNat 0 = cell at hcell
      refine Mk.c_seq (Mk.c_set (Mk.c_v (Mk.v_ixL (Mk.v_ixL (Mk.v_var rfl) Mk.v_c (SqL.of h1) rfl) (v_subX (Mk.v_ixL (Mk.v_var rfl) Mk.v_c (SqL.of h1) rfl) Mk.v_c) s1.sql hcell) ?_))
      dsimp only
      refine Mk.c_seq (Mk.c_asg (Mk.c_v (v_modX (v_intX (v_addX (v_addX (v_mulX (Mk.v_ixL (Mk.v_var rfl) Mk.v_c (SqL.of h1) rfl) Mk.v_c (.inr ⟨by decide, by decide⟩)) (Mk.v_var rfl)) Mk.v_c)) Mk.v_c (by decide)) (c_setLX (Mk.v_var rfl) Mk.v_c h1 (j := 2) rfl ?_)))
      dsimp only
      have h2 : (upd H1 r (.lst ([V.ref a, .int (i + 1), .int x, .int y].set 2 (.int ((x * 48271 + cell + 11) % 2147483647))))) r = some (.lst [V.ref a, .int (i + 1), .int ((x * 48271 + cell + 11) % 2147483647), .int y]) := upd_same
      have x2 : XS r H (upd H1 r (.lst ([V.ref a, .int (i + 1), .int x, .int y].set 2 (.int ((x * 48271 + cell + 11) % 2147483647))))) := XS.trans x1 XS.upd
      generalize (upd H1 r (.lst ([V.ref a, .int (i + 1), .int x, .int y].set 2 (.int ((x * 48271 + cell + 11) % 2147483647))))) = H2 at h2 x2
      refine Mk.c_seq (Mk.c_if (Mk.c_Bv (Mk.v_opb (Mk.v_var rfl) (fun Q q => Mk.v_c _ (Mk.v_c _ ⟨10, 18, rfl, rfl, ⟨by decide, by decide, by decide⟩, q⟩))) ?_))
      by_cases big : (10 : Int) ^ (18 : Int).toNat ≤ cell
      · rw [decide_eq_true big]
        refine iteT (Mk.c_asg (Mk.c_v (v_divX (Mk.v_var rfl) (Mk.v_var rfl) mp m2) (c_setLX (Mk.v_var rfl) Mk.v_c h2 (j := 3) rfl ?_)))
        dsimp only
        exact Mk.c_ret (Mk.c_v (v_modX (v_intX (Mk.v_var rfl)) (Mk.v_var rfl) mp) (fin (XS.trans x2 XS.upd) upd_same (by omega) (md _).1 (md _).2))
      · rw [decide_eq_false big]
        refine iteF (Mk.c_next ?_)
        dsimp only
        exact Mk.c_ret (Mk.c_v (v_modX (v_intX (Mk.v_var rfl)) (Mk.v_var rfl) mp) (fin x2 h2 (by omega) (md _).1 (md _).2))
end Mx

/-! ### MqFD -/
set_option Elab.async false
set_option linter.all false
set_option maxRecDepth 100000
set_option maxHeartbeats 8000000
namespace Mx
open PySem PySem.Spec PyProof.Rows L2
section
variable {P : Program} {w : World} {h : Heap} {K : PySem.W.Frag} {mg : Str → Option Value} {base : Heap}
theorem nT (c : Says HDl w h K) : tabP K ("law", none) ∉ gsT K := fun z => by
  obtain ⟨p, hp, e⟩ := List.mem_map.mp z
  exact of_decide_eq_true (List.all_eq_true.mp (He.ba (He.ba c.ex).2).1 p hp) e.symm
theorem glo {x : Str} (X : K.In h) (Gn : h.Ns mainGlobals mg) (c : Says HDl w h K) (i : Nat) (hi : fas[i]? = some (.glo x) := by rfl) : mg x = some (.ref (He.ga K x)) := He.glo_ok X Gn (c.fact i hi)
theorem fx (X : K.In h) (Gn : h.Ns mainGlobals mg) (c : Says HDl w h K) : Fx P w (GL w K) (gsT K) mg base where
  M := amX_of (nT c)
  z_all := He.free_ok X Gn (c.fact 67)
  z_bool := He.free_ok X Gn (c.fact 68)
  z_enumerate := He.free_ok X Gn (c.fact 69)
  z_int := He.free_ok X Gn (c.fact 70)
  z_isinstance := He.free_ok X Gn (c.fact 71)
  z_len := He.free_ok X Gn (c.fact 72)
  z_range := He.free_ok X Gn (c.fact 73)
  z_tuple := He.free_ok X Gn (c.fact 74)
  b_heappop := Mk.bltC_ok X Gn (He.ba (He.ba (He.ba c.ex).2).2).1
  b_heappush := Mk.bltC_ok X Gn (He.ba (He.ba (He.ba (He.ba c.ex).2).2).2).1
  t_BEGINNING := Mk.tupC_ok X Gn (He.ba (He.ba (He.ba (He.ba (He.ba c.ex).2).2).2).2).1
  i_CLOSING := He.int_ok X Gn (c.fact 75)
  i_MOST_LENGTH := He.int_ok X Gn (c.fact 76)
  i_MOST_NAMES := He.int_ok X Gn (c.fact 77)
  i_MOST_RINGER_STATES := He.int_ok X Gn (c.fact 78)
  i_MOST_RUNG_STATES := He.int_ok X Gn (c.fact 79)
  i_MOST_STATES := He.int_ok X Gn (c.fact 80)
  i_TIMES := He.int_ok X Gn (c.fact 81)
  s_BLIND := He.str_ok X Gn (c.fact 82)
  s_MARK := He.str_ok X Gn (c.fact 83)
  s_NAMED := He.str_ok X Gn (c.fact 84)
  s_RUN := He.str_ok X Gn (c.fact 85)
  g_Search := glo X Gn c 86
  mkA_Search := (He.mkr_ok (c.fact 88)).1
  kp_Search := He.keep_ok (c.fact 89)
  cl_Search := He.cls_ok (c.fact 87)
  na_Search_lengths := He.noat_ok (c.fact 90)
  na_Search_made := He.noat_ok (c.fact 91)
  na_Search_manner := He.noat_ok (c.fact 92)
  na_Search_mark_ends := He.noat_ok (c.fact 93)
  na_Search_parts := He.noat_ok (c.fact 94)
  na_Search_question := He.noat_ok (c.fact 95)
  na_Search_reader := He.noat_ok (c.fact 96)
  na_Search_run_starts := He.noat_ok (c.fact 97)
  na_Search_waiting := He.noat_ok (c.fact 98)
  na_Search_ways := He.noat_ok (c.fact 99)
  na_Search_ways_back := He.noat_ok (c.fact 100)
theorem D__law_taken (X : K.In h) (Gn : h.Ns mainGlobals mg) (c : Says HDl w h K) (TB : ∀ p ∈ tfs, LamX.TabB base mg (He.cT K p).1 (He.cT K p).2) : DefX P w (GL w K) mg base 1 "_law_taken" (He.fAd K ("_law_taken", none)) (fdOf K ("_law_taken", none)) ["row", "many"] [] 2 fTaken := by
  have F := fun_of (show FunD K "_law_taken" "_law_taken" (defArgs (top 88)) (defBody (top 88)) (defScope (top 88)) [] [] (He.fAd K ("_law_taken", none)) (fdOf K ("_law_taken", none)) from c.fd 0)
  have b : Binds K (fdOf K ("_law_taken", none)) ["row", "many"] [] := F.binds fun _ _ _ _ _ _ us hl => match us, hl with | [_, _], _ => rfl
  exact ⟨ok_takenX (fx (P := P) (base := base) X Gn c).M (fx (P := P) (base := base) X Gn c).z_int (fx (P := P) (base := base) X Gn c).z_len F, F.kp, b, glo X Gn c 9, [], .nil, b⟩
theorem D_is_number (X : K.In h) (Gn : h.Ns mainGlobals mg) (c : Says HDl w h K) (TB : ∀ p ∈ tfs, LamX.TabB base mg (He.cT K p).1 (He.cT K p).2) : DefX P w (GL w K) mg base 1 "is_number" (He.fAd K ("is_number", none)) (fdOf K ("is_number", none)) ["value", "least", "most"] [] 3 f_is_number := by
  have F := fun_of (show FunD K "is_number" "is_number" (defArgs (top 15)) (defBody (top 15)) (defScope (top 15)) [] [] (He.fAd K ("is_number", none)) (fdOf K ("is_number", none)) from c.fd 1)
  have b : Binds K (fdOf K ("is_number", none)) ["value", "least", "most"] [] := F.binds fun _ _ _ _ _ _ us hl => match us, hl with | [_, _, _], _ => rfl
  exact ⟨ok_is_number (G := GL w K) (fx X Gn c) F , F.kp, b, glo X Gn c 10, [], .nil, b⟩
theorem D_is_tuple_of (X : K.In h) (Gn : h.Ns mainGlobals mg) (c : Says HDl w h K) (TB : ∀ p ∈ tfs, LamX.TabB base mg (He.cT K p).1 (He.cT K p).2) : DefX P w (GL w K) mg base 1 "is_tuple_of" (He.fAd K ("is_tuple_of", none)) (fdOf K ("is_tuple_of", none)) ["value", "least", "most"] [] 3 f_is_tuple_of := by
  have F := fun_of (show FunD K "is_tuple_of" "is_tuple_of" (defArgs (top 16)) (defBody (top 16)) (defScope (top 16)) [] [] (He.fAd K ("is_tuple_of", none)) (fdOf K ("is_tuple_of", none)) from c.fd 2)
  have b : Binds K (fdOf K ("is_tuple_of", none)) ["value", "least", "most"] [] := F.binds fun _ _ _ _ _ _ us hl => match us, hl with | [_, _, _], _ => rfl
  exact ⟨ok_is_tuple_of (G := GL w K) (fx X Gn c) F , F.kp, b, glo X Gn c 11, [], .nil, b⟩
theorem D_are_numbers (X : K.In h) (Gn : h.Ns mainGlobals mg) (c : Says HDl w h K) (TB : ∀ p ∈ tfs, LamX.TabB base mg (He.cT K p).1 (He.cT K p).2) : DefX P w (GL w K) mg base 3 "are_numbers" (He.fAd K ("are_numbers", none)) (fdOf K ("are_numbers", none)) ["value", "many", "most"] [] 3 f_are_numbers := by
  have F := (show FunD K "are_numbers" "are_numbers" (defArgs (top 17)) (defBody (top 17)) (defScope (top 17)) [] [] (He.fAd K ("are_numbers", none)) (fdOf K ("are_numbers", none)) from c.fd 3)
  have b : Binds K (fdOf K ("are_numbers", none)) ["value", "many", "most"] [] := (fun_of F).binds fun _ _ _ _ _ _ us hl => match us, hl with | [_, _, _], _ => rfl
  exact ⟨ok_are_numbers (G := GL w K) (fx X Gn c) (fun_of F) (D_is_tuple_of X Gn c TB) (D_is_number X Gn c TB) (hT := List.mem_of_getElem? (i := 0) rfl) (O := own_ofX F (TB _ (List.mem_of_getElem? (i := 1) rfl))), (fun_of F).kp, b, glo X Gn c 12, [], .nil, b⟩
theorem D_are_steps (X : K.In h) (Gn : h.Ns mainGlobals mg) (c : Says HDl w h K) (TB : ∀ p ∈ tfs, LamX.TabB base mg (He.cT K p).1 (He.cT K p).2) : DefX P w (GL w K) mg base 5 "are_steps" (He.fAd K ("are_steps", none)) (fdOf K ("are_steps", none)) ["value"] [] 1 f_are_steps := by
  have F := (show FunD K "are_steps" "are_steps" (defArgs (top 18)) (defBody (top 18)) (defScope (top 18)) [] [] (He.fAd K ("are_steps", none)) (fdOf K ("are_steps", none)) from c.fd 4)
  have b : Binds K (fdOf K ("are_steps", none)) ["value"] [] := (fun_of F).binds fun _ _ _ _ _ _ us hl => match us, hl with | [_], _ => rfl
  exact ⟨ok_are_steps (G := GL w K) (fx X Gn c) (fun_of F) (D_is_tuple_of X Gn c TB) (D_are_numbers X Gn c TB) (hT := List.mem_of_getElem? (i := 1) rfl) (O := own_ofX F (TB _ (List.mem_of_getElem? (i := 2) rfl))), (fun_of F).kp, b, glo X Gn c 13, [], .nil, b⟩
theorem D_check_question (X : K.In h) (Gn : h.Ns mainGlobals mg) (c : Says HDl w h K) (TB : ∀ p ∈ tfs, LamX.TabB base mg (He.cT K p).1 (He.cT K p).2) : DefX P w (GL w K) mg base 6 "check_question" (He.fAd K ("check_question", none)) (fdOf K ("check_question", none)) ["value"] [] 1 f_check_question := by
  have F := fun_of (show FunD K "check_question" "check_question" (defArgs (top 19)) (defBody (top 19)) (defScope (top 19)) [] [] (He.fAd K ("check_question", none)) (fdOf K ("check_question", none)) from c.fd 5)
  have b : Binds K (fdOf K ("check_question", none)) ["value"] [] := F.binds fun _ _ _ _ _ _ us hl => match us, hl with | [_], _ => rfl
  exact ⟨ok_check_question (G := GL w K) (fx X Gn c) F (D_is_tuple_of X Gn c TB) (D_are_steps X Gn c TB) (D_are_numbers X Gn c TB), F.kp, b, glo X Gn c 14, [], .nil, b⟩
theorem D_names_of (X : K.In h) (Gn : h.Ns mainGlobals mg) (c : Says HDl w h K) (TB : ∀ p ∈ tfs, LamX.TabB base mg (He.cT K p).1 (He.cT K p).2) : DefX P w (GL w K) mg base 1 "names_of" (He.fAd K ("names_of", none)) (fdOf K ("names_of", none)) ["question"] [] 1 f_names_of := by
  have F := fun_of (show FunD K "names_of" "names_of" (defArgs (top 20)) (defBody (top 20)) (defScope (top 20)) [] [] (He.fAd K ("names_of", none)) (fdOf K ("names_of", none)) from c.fd 6)
  have b : Binds K (fdOf K ("names_of", none)) ["question"] [] := F.binds fun _ _ _ _ _ _ us hl => match us, hl with | [_], _ => rfl
  exact ⟨ok_names_of (G := GL w K) (fx X Gn c) F , F.kp, b, glo X Gn c 15, [], .nil, b⟩
theorem D_is_path (X : K.In h) (Gn : h.Ns mainGlobals mg) (c : Says HDl w h K) (TB : ∀ p ∈ tfs, LamX.TabB base mg (He.cT K p).1 (He.cT K p).2) : DefX P w (GL w K) mg base 4 "is_path" (He.fAd K ("is_path", none)) (fdOf K ("is_path", none)) ["names", "value", "least", "most"] [] 4 f_is_path := by
  have F := fun_of (show FunD K "is_path" "is_path" (defArgs (top 21)) (defBody (top 21)) (defScope (top 21)) [] [] (He.fAd K ("is_path", none)) (fdOf K ("is_path", none)) from c.fd 7)
  have b : Binds K (fdOf K ("is_path", none)) ["names", "value", "least", "most"] [] := F.binds fun _ _ _ _ _ _ us hl => match us, hl with | [_, _, _, _], _ => rfl
  exact ⟨ok_is_path (G := GL w K) (fx X Gn c) F (D_is_tuple_of X Gn c TB) (D_are_numbers X Gn c TB), F.kp, b, glo X Gn c 16, [], .nil, b⟩
theorem D_check_path (X : K.In h) (Gn : h.Ns mainGlobals mg) (c : Says HDl w h K) (TB : ∀ p ∈ tfs, LamX.TabB base mg (He.cT K p).1 (He.cT K p).2) : DefX P w (GL w K) mg base 5 "check_path" (He.fAd K ("check_path", none)) (fdOf K ("check_path", none)) ["names", "value"] [] 2 f_check_path := by
  have F := fun_of (show FunD K "check_path" "check_path" (defArgs (top 22)) (defBody (top 22)) (defScope (top 22)) [] [] (He.fAd K ("check_path", none)) (fdOf K ("check_path", none)) from c.fd 8)
  have b : Binds K (fdOf K ("check_path", none)) ["names", "value"] [] := F.binds fun _ _ _ _ _ _ us hl => match us, hl with | [_, _], _ => rfl
  exact ⟨ok_check_path (G := GL w K) (fx X Gn c) F (D_is_path X Gn c TB), F.kp, b, glo X Gn c 17, [], .nil, b⟩
theorem D_state_behind (X : K.In h) (Gn : h.Ns mainGlobals mg) (c : Says HDl w h K) (TB : ∀ p ∈ tfs, LamX.TabB base mg (He.cT K p).1 (He.cT K p).2) : DefX P w (GL w K) mg base 1 "state_behind" (He.fAd K ("state_behind", none)) (fdOf K ("state_behind", none)) ["question", "state", "path"] [] 3 f_state_behind := by
  have F := fun_of (show FunD K "state_behind" "state_behind" (defArgs (top 23)) (defBody (top 23)) (defScope (top 23)) [] [] (He.fAd K ("state_behind", none)) (fdOf K ("state_behind", none)) from c.fd 9)
  have b : Binds K (fdOf K ("state_behind", none)) ["question", "state", "path"] [] := F.binds fun _ _ _ _ _ _ us hl => match us, hl with | [_, _, _], _ => rfl
  exact ⟨ok_state_behind (G := GL w K) (fx X Gn c) F , F.kp, b, glo X Gn c 18, [], .nil, b⟩
theorem D_answer_behind (X : K.In h) (Gn : h.Ns mainGlobals mg) (c : Says HDl w h K) (TB : ∀ p ∈ tfs, LamX.TabB base mg (He.cT K p).1 (He.cT K p).2) : DefX P w (GL w K) mg base 2 "answer_behind" (He.fAd K ("answer_behind", none)) (fdOf K ("answer_behind", none)) ["question", "state", "path"] [] 3 f_answer_behind := by
  have F := fun_of (show FunD K "answer_behind" "answer_behind" (defArgs (top 24)) (defBody (top 24)) (defScope (top 24)) [] [] (He.fAd K ("answer_behind", none)) (fdOf K ("answer_behind", none)) from c.fd 10)
  have b : Binds K (fdOf K ("answer_behind", none)) ["question", "state", "path"] [] := F.binds fun _ _ _ _ _ _ us hl => match us, hl with | [_, _, _], _ => rfl
  exact ⟨ok_answer_behind (G := GL w K) (fx X Gn c) F (D_state_behind X Gn c TB), F.kp, b, glo X Gn c 19, [], .nil, b⟩
theorem D_numbered (X : K.In h) (Gn : h.Ns mainGlobals mg) (c : Says HDl w h K) (TB : ∀ p ∈ tfs, LamX.TabB base mg (He.cT K p).1 (He.cT K p).2) : DefX P w (GL w K) mg base 1 "numbered" (He.fAd K ("numbered", none)) (fdOf K ("numbered", none)) ["keys"] [] 1 f_numbered := by
  have F := fun_of (show FunD K "numbered" "numbered" (defArgs (top 25)) (defBody (top 25)) (defScope (top 25)) [] [] (He.fAd K ("numbered", none)) (fdOf K ("numbered", none)) from c.fd 11)
  have b : Binds K (fdOf K ("numbered", none)) ["keys"] [] := F.binds fun _ _ _ _ _ _ us hl => match us, hl with | [_], _ => rfl
  exact ⟨ok_numbered (G := GL w K) (fx X Gn c) F , F.kp, b, glo X Gn c 20, [], .nil, b⟩
theorem D_lots_behind (X : K.In h) (Gn : h.Ns mainGlobals mg) (c : Says HDl w h K) (TB : ∀ p ∈ tfs, LamX.TabB base mg (He.cT K p).1 (He.cT K p).2) : DefX P w (GL w K) mg base 1 "lots_behind" (He.fAd K ("lots_behind", none)) (fdOf K ("lots_behind", none)) ["steps", "lots", "state"] [] 3 f_lots_behind := by
  have F := fun_of (show FunD K "lots_behind" "lots_behind" (defArgs (top 26)) (defBody (top 26)) (defScope (top 26)) [] [] (He.fAd K ("lots_behind", none)) (fdOf K ("lots_behind", none)) from c.fd 12)
  have b : Binds K (fdOf K ("lots_behind", none)) ["steps", "lots", "state"] [] := F.binds fun _ _ _ _ _ _ us hl => match us, hl with | [_, _, _], _ => rfl
  exact ⟨ok_lots_behind (G := GL w K) (fx X Gn c) F , F.kp, b, glo X Gn c 21, [], .nil, b⟩
theorem D_alike_lots (X : K.In h) (Gn : h.Ns mainGlobals mg) (c : Says HDl w h K) (TB : ∀ p ∈ tfs, LamX.TabB base mg (He.cT K p).1 (He.cT K p).2) : DefX P w (GL w K) mg base 2 "alike_lots" (He.fAd K ("alike_lots", none)) (fdOf K ("alike_lots", none)) ["question"] [] 1 f_alike_lots := by
  have F := fun_of (show FunD K "alike_lots" "alike_lots" (defArgs (top 27)) (defBody (top 27)) (defScope (top 27)) [] [] (He.fAd K ("alike_lots", none)) (fdOf K ("alike_lots", none)) from c.fd 13)
  have b : Binds K (fdOf K ("alike_lots", none)) ["question"] [] := F.binds fun _ _ _ _ _ _ us hl => match us, hl with | [_], _ => rfl
  exact ⟨ok_alike_lots (G := GL w K) (fx X Gn c) F (D_numbered X Gn c TB) (D_lots_behind X Gn c TB), F.kp, b, glo X Gn c 22, [], .nil, b⟩
theorem D_least_from (X : K.In h) (Gn : h.Ns mainGlobals mg) (c : Says HDl w h K) (TB : ∀ p ∈ tfs, LamX.TabB base mg (He.cT K p).1 (He.cT K p).2) : DefX P w (GL w K) mg base 3 "least_from" (He.fAd K ("least_from", none)) (fdOf K ("least_from", none)) ["question", "start"] [] 2 f_least_from := by
  have F := fun_of (show FunD K "least_from" "least_from" (defArgs (top 28)) (defBody (top 28)) (defScope (top 28)) [] [] (He.fAd K ("least_from", none)) (fdOf K ("least_from", none)) from c.fd 14)
  have b : Binds K (fdOf K ("least_from", none)) ["question", "start"] [] := F.binds fun _ _ _ _ _ _ us hl => match us, hl with | [_, _], _ => rfl
  exact ⟨ok_least_from (G := GL w K) (fx X Gn c) F (D_alike_lots X Gn c TB), F.kp, b, glo X Gn c 23, [], .nil, b⟩
theorem D_least_question (X : K.In h) (Gn : h.Ns mainGlobals mg) (c : Says HDl w h K) (TB : ∀ p ∈ tfs, LamX.TabB base mg (He.cT K p).1 (He.cT K p).2) : DefX P w (GL w K) mg base 7 "least_question" (He.fAd K ("least_question", none)) (fdOf K ("least_question", none)) ["question"] [] 1 f_least_question := by
  have F := fun_of (show FunD K "least_question" "least_question" (defArgs (top 29)) (defBody (top 29)) (defScope (top 29)) [] [] (He.fAd K ("least_question", none)) (fdOf K ("least_question", none)) from c.fd 15)
  have b : Binds K (fdOf K ("least_question", none)) ["question"] [] := F.binds fun _ _ _ _ _ _ us hl => match us, hl with | [_], _ => rfl
  exact ⟨ok_least_question (G := GL w K) (fx X Gn c) F (D_check_question X Gn c TB) (D_least_from X Gn c TB), F.kp, b, glo X Gn c 24, [], .nil, b⟩
theorem D_lots_of_least (X : K.In h) (Gn : h.Ns mainGlobals mg) (c : Says HDl w h K) (TB : ∀ p ∈ tfs, LamX.TabB base mg (He.cT K p).1 (He.cT K p).2) : DefX P w (GL w K) mg base 2 "lots_of_least" (He.fAd K ("lots_of_least", none)) (fdOf K ("lots_of_least", none)) ["least"] [] 1 f_lots_of_least := by
  have F := fun_of (show FunD K "lots_of_least" "lots_of_least" (defArgs (top 30)) (defBody (top 30)) (defScope (top 30)) [] [] (He.fAd K ("lots_of_least", none)) (fdOf K ("lots_of_least", none)) from c.fd 16)
  have b : Binds K (fdOf K ("lots_of_least", none)) ["least"] [] := F.binds fun _ _ _ _ _ _ us hl => match us, hl with | [_], _ => rfl
  exact ⟨ok_lots_of_least (G := GL w K) (fx X Gn c) F (D_numbered X Gn c TB), F.kp, b, glo X Gn c 25, [], .nil, b⟩
theorem D_check_row (X : K.In h) (Gn : h.Ns mainGlobals mg) (c : Says HDl w h K) (TB : ∀ p ∈ tfs, LamX.TabB base mg (He.cT K p).1 (He.cT K p).2) : DefX P w (GL w K) mg base 2 "check_row" (He.fAd K ("check_row", none)) (fdOf K ("check_row", none)) ["names", "value"] [] 2 f_check_row := by
  have F := fun_of (show FunD K "check_row" "check_row" (defArgs (top 33)) (defBody (top 33)) (defScope (top 33)) [] [] (He.fAd K ("check_row", none)) (fdOf K ("check_row", none)) from c.fd 17)
  have b : Binds K (fdOf K ("check_row", none)) ["names", "value"] [] := F.binds fun _ _ _ _ _ _ us hl => match us, hl with | [_, _], _ => rfl
  exact ⟨ok_check_row (G := GL w K) (fx X Gn c) F (D_is_tuple_of X Gn c TB) (D_is_number X Gn c TB), F.kp, b, glo X Gn c 26, [], .nil, b⟩
theorem D_answers_due (X : K.In h) (Gn : h.Ns mainGlobals mg) (c : Says HDl w h K) (TB : ∀ p ∈ tfs, LamX.TabB base mg (He.cT K p).1 (He.cT K p).2) : DefX P w (GL w K) mg base 7 "answers_due" (He.fAd K ("answers_due", none)) (fdOf K ("answers_due", none)) ["question", "row"] [] 2 f_answers_due := by
  have F := fun_of (show FunD K "answers_due" "answers_due" (defArgs (top 34)) (defBody (top 34)) (defScope (top 34)) [] [] (He.fAd K ("answers_due", none)) (fdOf K ("answers_due", none)) from c.fd 18)
  have b : Binds K (fdOf K ("answers_due", none)) ["question", "row"] [] := F.binds fun _ _ _ _ _ _ us hl => match us, hl with | [_, _], _ => rfl
  exact ⟨ok_answers_due (G := GL w K) (fx X Gn c) F (D_check_question X Gn c TB) (D_check_row X Gn c TB) (D_names_of X Gn c TB), F.kp, b, glo X Gn c 27, [], .nil, b⟩
theorem D_check_manner (X : K.In h) (Gn : h.Ns mainGlobals mg) (c : Says HDl w h K) (TB : ∀ p ∈ tfs, LamX.TabB base mg (He.cT K p).1 (He.cT K p).2) : DefX P w (GL w K) mg base 1 "check_manner" (He.fAd K ("check_manner", none)) (fdOf K ("check_manner", none)) ["value"] [] 1 f_check_manner := by
  have F := fun_of (show FunD K "check_manner" "check_manner" (defArgs (top 38)) (defBody (top 38)) (defScope (top 38)) [] [] (He.fAd K ("check_manner", none)) (fdOf K ("check_manner", none)) from c.fd 19)
  have b : Binds K (fdOf K ("check_manner", none)) ["value"] [] := F.binds fun _ _ _ _ _ _ us hl => match us, hl with | [_], _ => rfl
  exact ⟨ok_check_manner (G := GL w K) (fx X Gn c) F , F.kp, b, glo X Gn c 28, [], .nil, b⟩
theorem D_is_pair (X : K.In h) (Gn : h.Ns mainGlobals mg) (c : Says HDl w h K) (TB : ∀ p ∈ tfs, LamX.TabB base mg (He.cT K p).1 (He.cT K p).2) : DefX P w (GL w K) mg base 2 "is_pair" (He.fAd K ("is_pair", none)) (fdOf K ("is_pair", none)) ["value", "last"] [] 2 f_is_pair := by
  have F := fun_of (show FunD K "is_pair" "is_pair" (defArgs (top 39)) (defBody (top 39)) (defScope (top 39)) [] [] (He.fAd K ("is_pair", none)) (fdOf K ("is_pair", none)) from c.fd 20)
  have b : Binds K (fdOf K ("is_pair", none)) ["value", "last"] [] := F.binds fun _ _ _ _ _ _ us hl => match us, hl with | [_, _], _ => rfl
  exact ⟨ok_is_pair (G := GL w K) (fx X Gn c) F (D_is_tuple_of X Gn c TB) (D_is_number X Gn c TB), F.kp, b, glo X Gn c 29, [], .nil, b⟩
theorem D_are_pairs (X : K.In h) (Gn : h.Ns mainGlobals mg) (c : Says HDl w h K) (TB : ∀ p ∈ tfs, LamX.TabB base mg (He.cT K p).1 (He.cT K p).2) : DefX P w (GL w K) mg base 4 "are_pairs" (He.fAd K ("are_pairs", none)) (fdOf K ("are_pairs", none)) ["value", "names", "last"] [] 3 f_are_pairs := by
  have F := (show FunD K "are_pairs" "are_pairs" (defArgs (top 40)) (defBody (top 40)) (defScope (top 40)) [] [] (He.fAd K ("are_pairs", none)) (fdOf K ("are_pairs", none)) from c.fd 21)
  have b : Binds K (fdOf K ("are_pairs", none)) ["value", "names", "last"] [] := (fun_of F).binds fun _ _ _ _ _ _ us hl => match us, hl with | [_, _, _], _ => rfl
  exact ⟨ok_are_pairs (G := GL w K) (fx X Gn c) (fun_of F) (D_is_tuple_of X Gn c TB) (D_is_pair X Gn c TB) (hT := List.mem_of_getElem? (i := 2) rfl) (O := own_ofX F (TB _ (List.mem_of_getElem? (i := 3) rfl))), (fun_of F).kp, b, glo X Gn c 30, [], .nil, b⟩
theorem D_are_opens (X : K.In h) (Gn : h.Ns mainGlobals mg) (c : Says HDl w h K) (TB : ∀ p ∈ tfs, LamX.TabB base mg (He.cT K p).1 (He.cT K p).2) : DefX P w (GL w K) mg base 6 "are_opens" (He.fAd K ("are_opens", none)) (fdOf K ("are_opens", none)) ["value", "names", "most"] [] 3 f_are_opens := by
  have F := (show FunD K "are_opens" "are_opens" (defArgs (top 41)) (defBody (top 41)) (defScope (top 41)) [] [] (He.fAd K ("are_opens", none)) (fdOf K ("are_opens", none)) from c.fd 22)
  have b : Binds K (fdOf K ("are_opens", none)) ["value", "names", "most"] [] := (fun_of F).binds fun _ _ _ _ _ _ us hl => match us, hl with | [_, _, _], _ => rfl
  exact ⟨ok_are_opens (G := GL w K) (fx X Gn c) (fun_of F) (D_is_tuple_of X Gn c TB) (D_are_pairs X Gn c TB) (hT := List.mem_of_getElem? (i := 3) rfl) (O := own_ofX F (TB _ (List.mem_of_getElem? (i := 4) rfl))), (fun_of F).kp, b, glo X Gn c 31, [], .nil, b⟩
theorem D_are_closes (X : K.In h) (Gn : h.Ns mainGlobals mg) (c : Says HDl w h K) (TB : ∀ p ∈ tfs, LamX.TabB base mg (He.cT K p).1 (He.cT K p).2) : DefX P w (GL w K) mg base 5 "are_closes" (He.fAd K ("are_closes", none)) (fdOf K ("are_closes", none)) ["value", "states", "ways"] [] 3 f_are_closes := by
  have F := (show FunD K "are_closes" "are_closes" (defArgs (top 42)) (defBody (top 42)) (defScope (top 42)) [] [] (He.fAd K ("are_closes", none)) (fdOf K ("are_closes", none)) from c.fd 23)
  have b : Binds K (fdOf K ("are_closes", none)) ["value", "states", "ways"] [] := (fun_of F).binds fun _ _ _ _ _ _ us hl => match us, hl with | [_, _, _], _ => rfl
  exact ⟨ok_are_closes (G := GL w K) (fx X Gn c) (fun_of F) (D_is_tuple_of X Gn c TB) (D_are_numbers X Gn c TB) (hT := List.mem_of_getElem? (i := 4) rfl) (O := own_ofX F (TB _ (List.mem_of_getElem? (i := 5) rfl))), (fun_of F).kp, b, glo X Gn c 32, [], .nil, b⟩
theorem D_ways_to_close (X : K.In h) (Gn : h.Ns mainGlobals mg) (c : Says HDl w h K) (TB : ∀ p ∈ tfs, LamX.TabB base mg (He.cT K p).1 (He.cT K p).2) : DefX P w (GL w K) mg base 1 "ways_to_close" (He.fAd K ("ways_to_close", none)) (fdOf K ("ways_to_close", none)) ["names", "manner"] [] 2 f_ways_to_close := by
  have F := fun_of (show FunD K "ways_to_close" "ways_to_close" (defArgs (top 43)) (defBody (top 43)) (defScope (top 43)) [] [] (He.fAd K ("ways_to_close", none)) (fdOf K ("ways_to_close", none)) from c.fd 24)
  have b : Binds K (fdOf K ("ways_to_close", none)) ["names", "manner"] [] := F.binds fun _ _ _ _ _ _ us hl => match us, hl with | [_, _], _ => rfl
  exact ⟨ok_ways_to_close (G := GL w K) (fx X Gn c) F , F.kp, b, glo X Gn c 33, [], .nil, b⟩
theorem D_wrong_part (X : K.In h) (Gn : h.Ns mainGlobals mg) (c : Says HDl w h K) (TB : ∀ p ∈ tfs, LamX.TabB base mg (He.cT K p).1 (He.cT K p).2) : DefX P w (GL w K) mg base 7 "wrong_part" (He.fAd K ("wrong_part", none)) (fdOf K ("wrong_part", none)) ["names", "manner", "value", "most"] [V.int (6)] 4 f_wrong_part := by
  have F := (show FunD K "wrong_part" "wrong_part" (defArgs (top 44)) (defBody (top 44)) (defScope (top 44)) [V.int (6)] [] (He.fAd K ("wrong_part", none)) (fdOf K ("wrong_part", none)) from c.fd 25)
  have b : Binds K (fdOf K ("wrong_part", none)) ["names", "manner", "value", "most"] [] := by
    obtain ⟨ds, hv, hb⟩ := F.binds1 (ps := ["names", "manner", "value", "most"]) 4 1 (by decide) rfl (fun _ _ _ _ _ _ _ us its hl hi => match us, hl, its, hi with | [_, _, _, _], _, [_], _ => ⟨_, rfl, by kernel_rfl⟩)
    cases (show Vals [] ds from hv)
    exact hb
  have bd := F.binds1 (ps := ["names", "manner", "value", "most"]) 3 0 (by decide) rfl (fun _ _ _ _ _ _ _ us its hl hi => match us, hl, its, hi with | [_, _, _], _, [_], _ => ⟨_, rfl, by kernel_rfl⟩)
  exact ⟨ok_wrong_part (G := GL w K) (fx X Gn c) F (D_is_tuple_of X Gn c TB) (D_are_opens X Gn c TB) (D_are_closes X Gn c TB) (D_ways_to_close X Gn c TB), F.kp, b, glo X Gn c 34, bd⟩
theorem D_check_reader (X : K.In h) (Gn : h.Ns mainGlobals mg) (c : Says HDl w h K) (TB : ∀ p ∈ tfs, LamX.TabB base mg (He.cT K p).1 (He.cT K p).2) : DefX P w (GL w K) mg base 8 "check_reader" (He.fAd K ("check_reader", none)) (fdOf K ("check_reader", none)) ["names", "manner", "value", "most"] [V.int (6)] 4 f_check_reader := by
  have F := (show FunD K "check_reader" "check_reader" (defArgs (top 45)) (defBody (top 45)) (defScope (top 45)) [V.int (6)] [] (He.fAd K ("check_reader", none)) (fdOf K ("check_reader", none)) from c.fd 26)
  have b : Binds K (fdOf K ("check_reader", none)) ["names", "manner", "value", "most"] [] := by
    obtain ⟨ds, hv, hb⟩ := F.binds1 (ps := ["names", "manner", "value", "most"]) 4 1 (by decide) rfl (fun _ _ _ _ _ _ _ us its hl hi => match us, hl, its, hi with | [_, _, _, _], _, [_], _ => ⟨_, rfl, by kernel_rfl⟩)
    cases (show Vals [] ds from hv)
    exact hb
  have bd := F.binds1 (ps := ["names", "manner", "value", "most"]) 3 0 (by decide) rfl (fun _ _ _ _ _ _ _ us its hl hi => match us, hl, its, hi with | [_, _, _], _, [_], _ => ⟨_, rfl, by kernel_rfl⟩)
  exact ⟨ok_check_reader (G := GL w K) (fx X Gn c) F (D_wrong_part X Gn c TB), F.kp, b, glo X Gn c 35, bd⟩
theorem D_check_reading (X : K.In h) (Gn : h.Ns mainGlobals mg) (c : Says HDl w h K) (TB : ∀ p ∈ tfs, LamX.TabB base mg (He.cT K p).1 (He.cT K p).2) : DefX P w (GL w K) mg base 9 "check_reading" (He.fAd K ("check_reading", none)) (fdOf K ("check_reading", none)) ["question", "manner", "reader", "most"] [V.int (6)] 4 f_check_reading := by
  have F := (show FunD K "check_reading" "check_reading" (defArgs (top 46)) (defBody (top 46)) (defScope (top 46)) [V.int (6)] [] (He.fAd K ("check_reading", none)) (fdOf K ("check_reading", none)) from c.fd 27)
  have b : Binds K (fdOf K ("check_reading", none)) ["question", "manner", "reader", "most"] [] := by
    obtain ⟨ds, hv, hb⟩ := F.binds1 (ps := ["question", "manner", "reader", "most"]) 4 1 (by decide) rfl (fun _ _ _ _ _ _ _ us its hl hi => match us, hl, its, hi with | [_, _, _, _], _, [_], _ => ⟨_, rfl, by kernel_rfl⟩)
    cases (show Vals [] ds from hv)
    exact hb
  have bd := F.binds1 (ps := ["question", "manner", "reader", "most"]) 3 0 (by decide) rfl (fun _ _ _ _ _ _ _ us its hl hi => match us, hl, its, hi with | [_, _, _], _, [_], _ => ⟨_, rfl, by kernel_rfl⟩)
  exact ⟨ok_check_reading (G := GL w K) (fx X Gn c) F (D_check_question X Gn c TB) (D_check_manner X Gn c TB) (D_check_reader X Gn c TB) (D_names_of X Gn c TB), F.kp, b, glo X Gn c 36, bd⟩
theorem D_behind_closing (X : K.In h) (Gn : h.Ns mainGlobals mg) (c : Says HDl w h K) (TB : ∀ p ∈ tfs, LamX.TabB base mg (He.cT K p).1 (He.cT K p).2) : DefX P w (GL w K) mg base 1 "behind_closing" (He.fAd K ("behind_closing", none)) (fdOf K ("behind_closing", none)) ["manner", "reader", "state", "name"] [] 4 f_behind_closing := by
  have F := fun_of (show FunD K "behind_closing" "behind_closing" (defArgs (top 47)) (defBody (top 47)) (defScope (top 47)) [] [] (He.fAd K ("behind_closing", none)) (fdOf K ("behind_closing", none)) from c.fd 28)
  have b : Binds K (fdOf K ("behind_closing", none)) ["manner", "reader", "state", "name"] [] := F.binds fun _ _ _ _ _ _ us hl => match us, hl with | [_, _, _, _], _ => rfl
  exact ⟨ok_behind_closing (G := GL w K) (fx X Gn c) F , F.kp, b, glo X Gn c 37, [], .nil, b⟩
theorem D_ways_to_go_on (X : K.In h) (Gn : h.Ns mainGlobals mg) (c : Says HDl w h K) (TB : ∀ p ∈ tfs, LamX.TabB base mg (He.cT K p).1 (He.cT K p).2) : DefX P w (GL w K) mg base 1 "ways_to_go_on" (He.fAd K ("ways_to_go_on", none)) (fdOf K ("ways_to_go_on", none)) ["question", "reader", "silent"] [] 3 f_ways_to_go_on := by
  have F := fun_of (show FunD K "ways_to_go_on" "ways_to_go_on" (defArgs (top 52)) (defBody (top 52)) (defScope (top 52)) [] [] (He.fAd K ("ways_to_go_on", none)) (fdOf K ("ways_to_go_on", none)) from c.fd 29)
  have b : Binds K (fdOf K ("ways_to_go_on", none)) ["question", "reader", "silent"] [] := F.binds fun _ _ _ _ _ _ us hl => match us, hl with | [_, _, _], _ => rfl
  exact ⟨ok_ways_to_go_on (G := GL w K) (fx X Gn c) F , F.kp, b, glo X Gn c 38, [], .nil, b⟩
theorem D_ways_to_come (X : K.In h) (Gn : h.Ns mainGlobals mg) (c : Says HDl w h K) (TB : ∀ p ∈ tfs, LamX.TabB base mg (He.cT K p).1 (He.cT K p).2) : DefX P w (GL w K) mg base 1 "ways_to_come" (He.fAd K ("ways_to_come", none)) (fdOf K ("ways_to_come", none)) ["ways"] [] 1 f_ways_to_come := by
  have F := fun_of (show FunD K "ways_to_come" "ways_to_come" (defArgs (top 53)) (defBody (top 53)) (defScope (top 53)) [] [] (He.fAd K ("ways_to_come", none)) (fdOf K ("ways_to_come", none)) from c.fd 30)
  have b : Binds K (fdOf K ("ways_to_come", none)) ["ways"] [] := F.binds fun _ _ _ _ _ _ us hl => match us, hl with | [_], _ => rfl
  exact ⟨ok_ways_to_come (G := GL w K) (fx X Gn c) F , F.kp, b, glo X Gn c 39, [], .nil, b⟩
theorem D_moves_of (X : K.In h) (Gn : h.Ns mainGlobals mg) (c : Says HDl w h K) (TB : ∀ p ∈ tfs, LamX.TabB base mg (He.cT K p).1 (He.cT K p).2) : DefX P w (GL w K) mg base 1 "moves_of" (He.fAd K ("moves_of", none)) (fdOf K ("moves_of", none)) ["names", "manner"] [] 2 f_moves_of := by
  have F := fun_of (show FunD K "moves_of" "moves_of" (defArgs (top 58)) (defBody (top 58)) (defScope (top 58)) [] [] (He.fAd K ("moves_of", none)) (fdOf K ("moves_of", none)) from c.fd 31)
  have b : Binds K (fdOf K ("moves_of", none)) ["names", "manner"] [] := F.binds fun _ _ _ _ _ _ us hl => match us, hl with | [_, _], _ => rfl
  exact ⟨ok_moves_of (G := GL w K) (fx X Gn c) F , F.kp, b, glo X Gn c 40, [], .nil, b⟩
theorem D_one_move_back (X : K.In h) (Gn : h.Ns mainGlobals mg) (c : Says HDl w h K) (TB : ∀ p ∈ tfs, LamX.TabB base mg (He.cT K p).1 (He.cT K p).2) : DefX P w (GL w K) mg base 1 "one_move_back" (He.fAd K ("one_move_back", none)) (fdOf K ("one_move_back", none)) ["steps", "moves", "found"] [] 3 f_one_move_back := by
  have F := fun_of (show FunD K "one_move_back" "one_move_back" (defArgs (top 59)) (defBody (top 59)) (defScope (top 59)) [] [] (He.fAd K ("one_move_back", none)) (fdOf K ("one_move_back", none)) from c.fd 32)
  have b : Binds K (fdOf K ("one_move_back", none)) ["steps", "moves", "found"] [] := F.binds fun _ _ _ _ _ _ us hl => match us, hl with | [_, _, _], _ => rfl
  exact ⟨ok_one_move_back (G := GL w K) (fx X Gn c) F , F.kp, b, glo X Gn c 41, [], .nil, b⟩
theorem D_words_to (X : K.In h) (Gn : h.Ns mainGlobals mg) (c : Says HDl w h K) (TB : ∀ p ∈ tfs, LamX.TabB base mg (He.cT K p).1 (He.cT K p).2) : DefX P w (GL w K) mg base 2 "words_to" (He.fAd K ("words_to", none)) (fdOf K ("words_to", none)) ["least", "manner", "goals"] [] 3 f_words_to := by
  have F := fun_of (show FunD K "words_to" "words_to" (defArgs (top 60)) (defBody (top 60)) (defScope (top 60)) [] [] (He.fAd K ("words_to", none)) (fdOf K ("words_to", none)) from c.fd 33)
  have b : Binds K (fdOf K ("words_to", none)) ["least", "manner", "goals"] [] := F.binds fun _ _ _ _ _ _ us hl => match us, hl with | [_, _, _], _ => rfl
  exact ⟨ok_words_to (G := GL w K) (fx X Gn c) F (D_moves_of X Gn c TB) (D_names_of X Gn c TB) (D_one_move_back X Gn c TB), F.kp, b, glo X Gn c 42, [], .nil, b⟩
theorem D_meeting_words (X : K.In h) (Gn : h.Ns mainGlobals mg) (c : Says HDl w h K) (TB : ∀ p ∈ tfs, LamX.TabB base mg (He.cT K p).1 (He.cT K p).2) : DefX P w (GL w K) mg base 3 "meeting_words" (He.fAd K ("meeting_words", none)) (fdOf K ("meeting_words", none)) ["least", "manner"] [] 2 f_meeting_words := by
  have F := fun_of (show FunD K "meeting_words" "meeting_words" (defArgs (top 61)) (defBody (top 61)) (defScope (top 61)) [] [] (He.fAd K ("meeting_words", none)) (fdOf K ("meeting_words", none)) from c.fd 34)
  have b : Binds K (fdOf K ("meeting_words", none)) ["least", "manner"] [] := F.binds fun _ _ _ _ _ _ us hl => match us, hl with | [_, _], _ => rfl
  exact ⟨ok_meeting_words (G := GL w K) (fx X Gn c) F (D_words_to X Gn c TB), F.kp, b, glo X Gn c 43, [], .nil, b⟩
theorem D_clashes (X : K.In h) (Gn : h.Ns mainGlobals mg) (c : Says HDl w h K) (TB : ∀ p ∈ tfs, LamX.TabB base mg (He.cT K p).1 (He.cT K p).2) : DefX P w (GL w K) mg base 4 "clashes" (He.fAd K ("clashes", none)) (fdOf K ("clashes", none)) ["least", "manner"] [] 2 f_clashes := by
  have F := fun_of (show FunD K "clashes" "clashes" (defArgs (top 62)) (defBody (top 62)) (defScope (top 62)) [] [] (He.fAd K ("clashes", none)) (fdOf K ("clashes", none)) from c.fd 35)
  have b : Binds K (fdOf K ("clashes", none)) ["least", "manner"] [] := F.binds fun _ _ _ _ _ _ us hl => match us, hl with | [_, _], _ => rfl
  exact ⟨ok_clashes (G := GL w K) (fx X Gn c) F (D_lots_of_least X Gn c TB) (D_meeting_words X Gn c TB), F.kp, b, glo X Gn c 44, [], .nil, b⟩
theorem D_is_readable (X : K.In h) (Gn : h.Ns mainGlobals mg) (c : Says HDl w h K) (TB : ∀ p ∈ tfs, LamX.TabB base mg (He.cT K p).1 (He.cT K p).2) : DefX P w (GL w K) mg base 5 "is_readable" (He.fAd K ("is_readable", none)) (fdOf K ("is_readable", none)) ["least", "manner"] [] 2 f_is_readable := by
  have F := fun_of (show FunD K "is_readable" "is_readable" (defArgs (top 63)) (defBody (top 63)) (defScope (top 63)) [] [] (He.fAd K ("is_readable", none)) (fdOf K ("is_readable", none)) from c.fd 36)
  have b : Binds K (fdOf K ("is_readable", none)) ["least", "manner"] [] := F.binds fun _ _ _ _ _ _ us hl => match us, hl with | [_, _], _ => rfl
  exact ⟨ok_is_readable (G := GL w K) (fx X Gn c) F (D_clashes X Gn c TB), F.kp, b, glo X Gn c 45, [], .nil, b⟩
theorem D_checked_least (X : K.In h) (Gn : h.Ns mainGlobals mg) (c : Says HDl w h K) (TB : ∀ p ∈ tfs, LamX.TabB base mg (He.cT K p).1 (He.cT K p).2) : DefX P w (GL w K) mg base 8 "checked_least" (He.fAd K ("checked_least", none)) (fdOf K ("checked_least", none)) ["question", "manner"] [] 2 f_checked_least := by
  have F := fun_of (show FunD K "checked_least" "checked_least" (defArgs (top 64)) (defBody (top 64)) (defScope (top 64)) [] [] (He.fAd K ("checked_least", none)) (fdOf K ("checked_least", none)) from c.fd 37)
  have b : Binds K (fdOf K ("checked_least", none)) ["question", "manner"] [] := F.binds fun _ _ _ _ _ _ us hl => match us, hl with | [_, _], _ => rfl
  exact ⟨ok_checked_least (G := GL w K) (fx X Gn c) F (D_check_question X Gn c TB) (D_check_manner X Gn c TB) (D_least_question X Gn c TB), F.kp, b, glo X Gn c 46, [], .nil, b⟩
theorem D_can_read (X : K.In h) (Gn : h.Ns mainGlobals mg) (c : Says HDl w h K) (TB : ∀ p ∈ tfs, LamX.TabB base mg (He.cT K p).1 (He.cT K p).2) : DefX P w (GL w K) mg base 9 "can_read" (He.fAd K ("can_read", none)) (fdOf K ("can_read", none)) ["question", "manner"] [] 2 f_can_read := by
  have F := fun_of (show FunD K "can_read" "can_read" (defArgs (top 65)) (defBody (top 65)) (defScope (top 65)) [] [] (He.fAd K ("can_read", none)) (fdOf K ("can_read", none)) from c.fd 38)
  have b : Binds K (fdOf K ("can_read", none)) ["question", "manner"] [] := F.binds fun _ _ _ _ _ _ us hl => match us, hl with | [_, _], _ => rfl
  exact ⟨ok_can_read (G := GL w K) (fx X Gn c) F (D_is_readable X Gn c TB) (D_checked_least X Gn c TB), F.kp, b, glo X Gn c 47, [], .nil, b⟩
theorem D_are_paths (X : K.In h) (Gn : h.Ns mainGlobals mg) (c : Says HDl w h K) (TB : ∀ p ∈ tfs, LamX.TabB base mg (He.cT K p).1 (He.cT K p).2) : DefX P w (GL w K) mg base 6 "are_paths" (He.fAd K ("are_paths", none)) (fdOf K ("are_paths", none)) ["names", "value", "many"] [] 3 f_are_paths := by
  have F := (show FunD K "are_paths" "are_paths" (defArgs (top 66)) (defBody (top 66)) (defScope (top 66)) [] [] (He.fAd K ("are_paths", none)) (fdOf K ("are_paths", none)) from c.fd 39)
  have b : Binds K (fdOf K ("are_paths", none)) ["names", "value", "many"] [] := (fun_of F).binds fun _ _ _ _ _ _ us hl => match us, hl with | [_, _, _], _ => rfl
  exact ⟨ok_are_paths (G := GL w K) (fx X Gn c) (fun_of F) (D_is_tuple_of X Gn c TB) (D_is_path X Gn c TB) (hT := List.mem_of_getElem? (i := 5) rfl) (O := own_ofX F (TB _ (List.mem_of_getElem? (i := 6) rfl))), (fun_of F).kp, b, glo X Gn c 48, [], .nil, b⟩
theorem D_are_words (X : K.In h) (Gn : h.Ns mainGlobals mg) (c : Says HDl w h K) (TB : ∀ p ∈ tfs, LamX.TabB base mg (He.cT K p).1 (He.cT K p).2) : DefX P w (GL w K) mg base 1 "are_words" (He.fAd K ("are_words", none)) (fdOf K ("are_words", none)) ["manner", "word", "other_word"] [] 3 f_are_words := by
  have F := fun_of (show FunD K "are_words" "are_words" (defArgs (top 67)) (defBody (top 67)) (defScope (top 67)) [] [] (He.fAd K ("are_words", none)) (fdOf K ("are_words", none)) from c.fd 40)
  have b : Binds K (fdOf K ("are_words", none)) ["manner", "word", "other_word"] [] := F.binds fun _ _ _ _ _ _ us hl => match us, hl with | [_, _, _], _ => rfl
  exact ⟨ok_are_words (G := GL w K) (fx X Gn c) F , F.kp, b, glo X Gn c 49, [], .nil, b⟩
theorem D_quiet_from (X : K.In h) (Gn : h.Ns mainGlobals mg) (c : Says HDl w h K) (TB : ∀ p ∈ tfs, LamX.TabB base mg (He.cT K p).1 (He.cT K p).2) : DefX P w (GL w K) mg base 4 "quiet_from" (He.fAd K ("quiet_from", none)) (fdOf K ("quiet_from", none)) ["question"] [] 1 f_quiet_from := by
  have F := fun_of (show FunD K "quiet_from" "quiet_from" (defArgs (top 70)) (defBody (top 70)) (defScope (top 70)) [] [] (He.fAd K ("quiet_from", none)) (fdOf K ("quiet_from", none)) from c.fd 41)
  have b : Binds K (fdOf K ("quiet_from", none)) ["question"] [] := F.binds fun _ _ _ _ _ _ us hl => match us, hl with | [_], _ => rfl
  exact ⟨ok_quiet_from (G := GL w K) (fx X Gn c) F (D_names_of X Gn c TB) (D_least_from X Gn c TB), F.kp, b, glo X Gn c 50, [], .nil, b⟩
theorem D_rings (X : K.In h) (Gn : h.Ns mainGlobals mg) (c : Says HDl w h K) (TB : ∀ p ∈ tfs, LamX.TabB base mg (He.cT K p).1 (He.cT K p).2) : DefX P w (GL w K) mg base 7 "rings" (He.fAd K ("rings", none)) (fdOf K ("rings", none)) ["question", "path"] [] 2 f_rings := by
  have F := fun_of (show FunD K "rings" "rings" (defArgs (top 71)) (defBody (top 71)) (defScope (top 71)) [] [] (He.fAd K ("rings", none)) (fdOf K ("rings", none)) from c.fd 42)
  have b : Binds K (fdOf K ("rings", none)) ["question", "path"] [] := F.binds fun _ _ _ _ _ _ us hl => match us, hl with | [_, _], _ => rfl
  exact ⟨ok_rings (G := GL w K) (fx X Gn c) F (D_check_question X Gn c TB) (D_check_path X Gn c TB) (D_names_of X Gn c TB) (D_answer_behind X Gn c TB) (D_quiet_from X Gn c TB), F.kp, b, glo X Gn c 51, [], .nil, b⟩
theorem D_first_ring (X : K.In h) (Gn : h.Ns mainGlobals mg) (c : Says HDl w h K) (TB : ∀ p ∈ tfs, LamX.TabB base mg (He.cT K p).1 (He.cT K p).2) : DefX P w (GL w K) mg base 8 "first_ring" (He.fAd K ("first_ring", none)) (fdOf K ("first_ring", none)) ["question", "row"] [] 2 f_first_ring := by
  have F := fun_of (show FunD K "first_ring" "first_ring" (defArgs (top 72)) (defBody (top 72)) (defScope (top 72)) [] [] (He.fAd K ("first_ring", none)) (fdOf K ("first_ring", none)) from c.fd 43)
  have b : Binds K (fdOf K ("first_ring", none)) ["question", "row"] [] := F.binds fun _ _ _ _ _ _ us hl => match us, hl with | [_, _], _ => rfl
  exact ⟨ok_first_ring (G := GL w K) (fx X Gn c) F (D_answers_due X Gn c TB), F.kp, b, glo X Gn c 52, [], .nil, b⟩
theorem D_confusions (X : K.In h) (Gn : h.Ns mainGlobals mg) (c : Says HDl w h K) (TB : ∀ p ∈ tfs, LamX.TabB base mg (He.cT K p).1 (He.cT K p).2) : DefX P w (GL w K) mg base 3 "confusions" (He.fAd K ("confusions", none)) (fdOf K ("confusions", none)) ["quiet", "manner"] [] 2 f_confusions := by
  have F := fun_of (show FunD K "confusions" "confusions" (defArgs (top 73)) (defBody (top 73)) (defScope (top 73)) [] [] (He.fAd K ("confusions", none)) (fdOf K ("confusions", none)) from c.fd 44)
  have b : Binds K (fdOf K ("confusions", none)) ["quiet", "manner"] [] := F.binds fun _ _ _ _ _ _ us hl => match us, hl with | [_, _], _ => rfl
  exact ⟨ok_confusions (G := GL w K) (fx X Gn c) F (D_lots_of_least X Gn c TB) (D_words_to X Gn c TB), F.kp, b, glo X Gn c 53, [], .nil, b⟩
theorem D_is_ringable (X : K.In h) (Gn : h.Ns mainGlobals mg) (c : Says HDl w h K) (TB : ∀ p ∈ tfs, LamX.TabB base mg (He.cT K p).1 (He.cT K p).2) : DefX P w (GL w K) mg base 4 "is_ringable" (He.fAd K ("is_ringable", none)) (fdOf K ("is_ringable", none)) ["quiet", "manner"] [] 2 f_is_ringable := by
  have F := fun_of (show FunD K "is_ringable" "is_ringable" (defArgs (top 74)) (defBody (top 74)) (defScope (top 74)) [] [] (He.fAd K ("is_ringable", none)) (fdOf K ("is_ringable", none)) from c.fd 45)
  have b : Binds K (fdOf K ("is_ringable", none)) ["quiet", "manner"] [] := F.binds fun _ _ _ _ _ _ us hl => match us, hl with | [_, _], _ => rfl
  exact ⟨ok_is_ringable (G := GL w K) (fx X Gn c) F (D_confusions X Gn c TB), F.kp, b, glo X Gn c 54, [], .nil, b⟩
theorem D_checked_quiet (X : K.In h) (Gn : h.Ns mainGlobals mg) (c : Says HDl w h K) (TB : ∀ p ∈ tfs, LamX.TabB base mg (He.cT K p).1 (He.cT K p).2) : DefX P w (GL w K) mg base 7 "checked_quiet" (He.fAd K ("checked_quiet", none)) (fdOf K ("checked_quiet", none)) ["question", "manner"] [] 2 f_checked_quiet := by
  have F := fun_of (show FunD K "checked_quiet" "checked_quiet" (defArgs (top 75)) (defBody (top 75)) (defScope (top 75)) [] [] (He.fAd K ("checked_quiet", none)) (fdOf K ("checked_quiet", none)) from c.fd 46)
  have b : Binds K (fdOf K ("checked_quiet", none)) ["question", "manner"] [] := F.binds fun _ _ _ _ _ _ us hl => match us, hl with | [_, _], _ => rfl
  exact ⟨ok_checked_quiet (G := GL w K) (fx X Gn c) F (D_check_question X Gn c TB) (D_check_manner X Gn c TB) (D_quiet_from X Gn c TB), F.kp, b, glo X Gn c 55, [], .nil, b⟩
theorem D_can_ring (X : K.In h) (Gn : h.Ns mainGlobals mg) (c : Says HDl w h K) (TB : ∀ p ∈ tfs, LamX.TabB base mg (He.cT K p).1 (He.cT K p).2) : DefX P w (GL w K) mg base 8 "can_ring" (He.fAd K ("can_ring", none)) (fdOf K ("can_ring", none)) ["question", "manner"] [] 2 f_can_ring := by
  have F := fun_of (show FunD K "can_ring" "can_ring" (defArgs (top 76)) (defBody (top 76)) (defScope (top 76)) [] [] (He.fAd K ("can_ring", none)) (fdOf K ("can_ring", none)) from c.fd 47)
  have b : Binds K (fdOf K ("can_ring", none)) ["question", "manner"] [] := F.binds fun _ _ _ _ _ _ us hl => match us, hl with | [_, _], _ => rfl
  exact ⟨ok_can_ring (G := GL w K) (fx X Gn c) F (D_is_ringable X Gn c TB) (D_checked_quiet X Gn c TB), F.kp, b, glo X Gn c 56, [], .nil, b⟩
theorem D_is_ring_paper (X : K.In h) (Gn : h.Ns mainGlobals mg) (c : Says HDl w h K) (TB : ∀ p ∈ tfs, LamX.TabB base mg (He.cT K p).1 (He.cT K p).2) : DefX P w (GL w K) mg base 7 "is_ring_paper" (He.fAd K ("is_ring_paper", none)) (fdOf K ("is_ring_paper", none)) ["quiet", "manner", "value"] [] 3 f_is_ring_paper := by
  have F := fun_of (show FunD K "is_ring_paper" "is_ring_paper" (defArgs (top 77)) (defBody (top 77)) (defScope (top 77)) [] [] (He.fAd K ("is_ring_paper", none)) (fdOf K ("is_ring_paper", none)) from c.fd 48)
  have b : Binds K (fdOf K ("is_ring_paper", none)) ["quiet", "manner", "value"] [] := F.binds fun _ _ _ _ _ _ us hl => match us, hl with | [_, _, _], _ => rfl
  exact ⟨ok_is_ring_paper (G := GL w K) (fx X Gn c) F (D_are_paths X Gn c TB) (D_names_of X Gn c TB) (D_are_words X Gn c TB) (D_state_behind X Gn c TB) (D_answer_behind X Gn c TB), F.kp, b, glo X Gn c 57, [], .nil, b⟩
theorem D_shows_ring_paper (X : K.In h) (Gn : h.Ns mainGlobals mg) (c : Says HDl w h K) (TB : ∀ p ∈ tfs, LamX.TabB base mg (He.cT K p).1 (He.cT K p).2) : DefX P w (GL w K) mg base 8 "shows_ring_paper" (He.fAd K ("shows_ring_paper", none)) (fdOf K ("shows_ring_paper", none)) ["question", "manner", "value"] [] 3 f_shows_ring_paper := by
  have F := fun_of (show FunD K "shows_ring_paper" "shows_ring_paper" (defArgs (top 78)) (defBody (top 78)) (defScope (top 78)) [] [] (He.fAd K ("shows_ring_paper", none)) (fdOf K ("shows_ring_paper", none)) from c.fd 49)
  have b : Binds K (fdOf K ("shows_ring_paper", none)) ["question", "manner", "value"] [] := F.binds fun _ _ _ _ _ _ us hl => match us, hl with | [_, _, _], _ => rfl
  exact ⟨ok_shows_ring_paper (G := GL w K) (fx X Gn c) F (D_checked_quiet X Gn c TB) (D_is_ring_paper X Gn c TB), F.kp, b, glo X Gn c 58, [], .nil, b⟩
theorem D_ring_rows (X : K.In h) (Gn : h.Ns mainGlobals mg) (c : Says HDl w h K) (TB : ∀ p ∈ tfs, LamX.TabB base mg (He.cT K p).1 (He.cT K p).2) : DefX P w (GL w K) mg base 8 "ring_rows" (He.fAd K ("ring_rows", none)) (fdOf K ("ring_rows", none)) ["question", "manner", "value", "states"] [] 4 f_ring_rows := by
  have F := fun_of (show FunD K "ring_rows" "ring_rows" (defArgs (top 79)) (defBody (top 79)) (defScope (top 79)) [] [] (He.fAd K ("ring_rows", none)) (fdOf K ("ring_rows", none)) from c.fd 50)
  have b : Binds K (fdOf K ("ring_rows", none)) ["question", "manner", "value", "states"] [] := F.binds fun _ _ _ _ _ _ us hl => match us, hl with | [_, _, _, _], _ => rfl
  exact ⟨ok_ring_rows (G := GL w K) (fx X Gn c) F (D_checked_quiet X Gn c TB) (D_is_ring_paper X Gn c TB) (D_is_number X Gn c TB), F.kp, b, glo X Gn c 59, [], .nil, b⟩
theorem D_checked_rung (X : K.In h) (Gn : h.Ns mainGlobals mg) (c : Says HDl w h K) (TB : ∀ p ∈ tfs, LamX.TabB base mg (He.cT K p).1 (He.cT K p).2) : DefX P w (GL w K) mg base 8 "checked_rung" (He.fAd K ("checked_rung", none)) (fdOf K ("checked_rung", none)) ["question", "manner"] [] 2 f_checked_rung := by
  have F := fun_of (show FunD K "checked_rung" "checked_rung" (defArgs (top 85)) (defBody (top 85)) (defScope (top 85)) [] [] (He.fAd K ("checked_rung", none)) (fdOf K ("checked_rung", none)) from c.fd 51)
  have b : Binds K (fdOf K ("checked_rung", none)) ["question", "manner"] [] := F.binds fun _ _ _ _ _ _ us hl => match us, hl with | [_, _], _ => rfl
  exact ⟨ok_checked_rung (G := GL w K) (fx X Gn c) F (D_checked_quiet X Gn c TB), F.kp, b, glo X Gn c 60, [], .nil, b⟩
theorem D_Search_put (X : K.In h) (Gn : h.Ns mainGlobals mg) (c : Says HDl w h K) (TB : ∀ p ∈ tfs, LamX.TabB base mg (He.cT K p).1 (He.cT K p).2) : MethX P w (GL w K) mg base 1 ((GL w K).cl 0) "put" (He.fAd K ("Search", some "put")) (fdOf K ("Search", some "put")) ["self", "length", "key", "parts"] 4 f_Search_put := by
  have F := fun_of (show FunD K "put" "Search.put" (defArgs (inClass (top 54) 1)) (defBody (inClass (top 54) 1)) (defScope (inClass (top 54) 1)) [] [] (He.fAd K ("Search", some "put")) (fdOf K ("Search", some "put")) from c.fd 52)
  have b : Binds K (fdOf K ("Search", some "put")) ["self", "length", "key", "parts"] [] := F.binds fun _ _ _ _ _ _ us hl => match us, hl with | [_, _, _, _], _ => rfl
  exact ⟨ok_Search_put (G := GL w K) (fx X Gn c) F , b, He.meth_ok (c.fact 101)⟩
theorem D_Search_put_longer_run (X : K.In h) (Gn : h.Ns mainGlobals mg) (c : Says HDl w h K) (TB : ∀ p ∈ tfs, LamX.TabB base mg (He.cT K p).1 (He.cT K p).2) : MethX P w (GL w K) mg base 2 ((GL w K).cl 0) "put_longer_run" (He.fAd K ("Search", some "put_longer_run")) (fdOf K ("Search", some "put_longer_run")) ["self", "start", "middle", "end"] 4 f_Search_put_longer_run := by
  have F := fun_of (show FunD K "put_longer_run" "Search.put_longer_run" (defArgs (inClass (top 54) 2)) (defBody (inClass (top 54) 2)) (defScope (inClass (top 54) 2)) [] [] (He.fAd K ("Search", some "put_longer_run")) (fdOf K ("Search", some "put_longer_run")) from c.fd 53)
  have b : Binds K (fdOf K ("Search", some "put_longer_run")) ["self", "start", "middle", "end"] [] := F.binds fun _ _ _ _ _ _ us hl => match us, hl with | [_, _, _, _], _ => rfl
  exact ⟨ok_Search_put_longer_run (G := GL w K) (fx X Gn c) F (D_Search_put X Gn c TB), b, He.meth_ok (c.fact 102)⟩
theorem D_Search_go_on_behind_run (X : K.In h) (Gn : h.Ns mainGlobals mg) (c : Says HDl w h K) (TB : ∀ p ∈ tfs, LamX.TabB base mg (He.cT K p).1 (He.cT K p).2) : MethX P w (GL w K) mg base 2 ((GL w K).cl 0) "go_on_behind_run" (He.fAd K ("Search", some "go_on_behind_run")) (fdOf K ("Search", some "go_on_behind_run")) ["self", "start", "end"] 3 f_Search_go_on_behind_run := by
  have F := fun_of (show FunD K "go_on_behind_run" "Search.go_on_behind_run" (defArgs (inClass (top 54) 3)) (defBody (inClass (top 54) 3)) (defScope (inClass (top 54) 3)) [] [] (He.fAd K ("Search", some "go_on_behind_run")) (fdOf K ("Search", some "go_on_behind_run")) from c.fd 54)
  have b : Binds K (fdOf K ("Search", some "go_on_behind_run")) ["self", "start", "end"] [] := F.binds fun _ _ _ _ _ _ us hl => match us, hl with | [_, _, _], _ => rfl
  exact ⟨ok_Search_go_on_behind_run (G := GL w K) (fx X Gn c) F (D_Search_put X Gn c TB) (D_behind_closing X Gn c TB), b, He.meth_ok (c.fact 103)⟩
theorem D_Search_go_on_behind_mark (X : K.In h) (Gn : h.Ns mainGlobals mg) (c : Says HDl w h K) (TB : ∀ p ∈ tfs, LamX.TabB base mg (He.cT K p).1 (He.cT K p).2) : MethX P w (GL w K) mg base 3 ((GL w K).cl 0) "go_on_behind_mark" (He.fAd K ("Search", some "go_on_behind_mark")) (fdOf K ("Search", some "go_on_behind_mark")) ["self", "start", "end"] 3 f_Search_go_on_behind_mark := by
  have F := fun_of (show FunD K "go_on_behind_mark" "Search.go_on_behind_mark" (defArgs (inClass (top 54) 4)) (defBody (inClass (top 54) 4)) (defScope (inClass (top 54) 4)) [] [] (He.fAd K ("Search", some "go_on_behind_mark")) (fdOf K ("Search", some "go_on_behind_mark")) from c.fd 55)
  have b : Binds K (fdOf K ("Search", some "go_on_behind_mark")) ["self", "start", "end"] [] := F.binds fun _ _ _ _ _ _ us hl => match us, hl with | [_, _, _], _ => rfl
  exact ⟨ok_Search_go_on_behind_mark (G := GL w K) (fx X Gn c) F (D_Search_put_longer_run X Gn c TB), b, He.meth_ok (c.fact 104)⟩
theorem D_Search_next_row (X : K.In h) (Gn : h.Ns mainGlobals mg) (c : Says HDl w h K) (TB : ∀ p ∈ tfs, LamX.TabB base mg (He.cT K p).1 (He.cT K p).2) : MethX P w (GL w K) mg base 4 ((GL w K).cl 0) "next_row" (He.fAd K ("Search", some "next_row")) (fdOf K ("Search", some "next_row")) ["self"] 1 f_Search_next_row := by
  have F := fun_of (show FunD K "next_row" "Search.next_row" (defArgs (inClass (top 54) 5)) (defBody (inClass (top 54) 5)) (defScope (inClass (top 54) 5)) [] [] (He.fAd K ("Search", some "next_row")) (fdOf K ("Search", some "next_row")) from c.fd 56)
  have b : Binds K (fdOf K ("Search", some "next_row")) ["self"] [] := F.binds fun _ _ _ _ _ _ us hl => match us, hl with | [_], _ => rfl
  exact ⟨ok_Search_next_row (G := GL w K) (fx X Gn c) F (D_Search_go_on_behind_mark X Gn c TB) (D_Search_go_on_behind_run X Gn c TB), b, He.meth_ok (c.fact 105)⟩
theorem D_Search_wrong_name (X : K.In h) (Gn : h.Ns mainGlobals mg) (c : Says HDl w h K) (TB : ∀ p ∈ tfs, LamX.TabB base mg (He.cT K p).1 (He.cT K p).2) : MethX P w (GL w K) mg base 1 ((GL w K).cl 0) "wrong_name" (He.fAd K ("Search", some "wrong_name")) (fdOf K ("Search", some "wrong_name")) ["self", "pair"] 2 f_Search_wrong_name := by
  have F := fun_of (show FunD K "wrong_name" "Search.wrong_name" (defArgs (inClass (top 54) 6)) (defBody (inClass (top 54) 6)) (defScope (inClass (top 54) 6)) [] [] (He.fAd K ("Search", some "wrong_name")) (fdOf K ("Search", some "wrong_name")) from c.fd 57)
  have b : Binds K (fdOf K ("Search", some "wrong_name")) ["self", "pair"] [] := F.binds fun _ _ _ _ _ _ us hl => match us, hl with | [_, _], _ => rfl
  exact ⟨ok_Search_wrong_name (G := GL w K) (fx X Gn c) F , b, He.meth_ok (c.fact 106)⟩
theorem D_Search_next_fault (X : K.In h) (Gn : h.Ns mainGlobals mg) (c : Says HDl w h K) (TB : ∀ p ∈ tfs, LamX.TabB base mg (He.cT K p).1 (He.cT K p).2) : MethX P w (GL w K) mg base 5 ((GL w K).cl 0) "next_fault" (He.fAd K ("Search", some "next_fault")) (fdOf K ("Search", some "next_fault")) ["self"] 1 f_Search_next_fault := by
  have F := fun_of (show FunD K "next_fault" "Search.next_fault" (defArgs (inClass (top 54) 7)) (defBody (inClass (top 54) 7)) (defScope (inClass (top 54) 7)) [] [] (He.fAd K ("Search", some "next_fault")) (fdOf K ("Search", some "next_fault")) from c.fd 58)
  have b : Binds K (fdOf K ("Search", some "next_fault")) ["self"] [] := F.binds fun _ _ _ _ _ _ us hl => match us, hl with | [_], _ => rfl
  exact ⟨ok_Search_next_fault (G := GL w K) (fx X Gn c) F (D_Search_next_row X Gn c TB) (D_Search_wrong_name X Gn c TB), b, He.meth_ok (c.fact 107)⟩
theorem D_Search_tags_to (X : K.In h) (Gn : h.Ns mainGlobals mg) (c : Says HDl w h K) (TB : ∀ p ∈ tfs, LamX.TabB base mg (He.cT K p).1 (He.cT K p).2) : MethX P w (GL w K) mg base 1 ((GL w K).cl 0) "tags_to" (He.fAd K ("Search", some "tags_to")) (fdOf K ("Search", some "tags_to")) ["self", "pair"] 2 f_Search_tags_to := by
  have F := fun_of (show FunD K "tags_to" "Search.tags_to" (defArgs (inClass (top 54) 8)) (defBody (inClass (top 54) 8)) (defScope (inClass (top 54) 8)) [] [] (He.fAd K ("Search", some "tags_to")) (fdOf K ("Search", some "tags_to")) from c.fd 59)
  have b : Binds K (fdOf K ("Search", some "tags_to")) ["self", "pair"] [] := F.binds fun _ _ _ _ _ _ us hl => match us, hl with | [_, _], _ => rfl
  exact ⟨ok_Search_tags_to (G := GL w K) (fx X Gn c) F , b, He.meth_ok (c.fact 108)⟩
theorem D_Search___init__ (X : K.In h) (Gn : h.Ns mainGlobals mg) (c : Says HDl w h K) (TB : ∀ p ∈ tfs, LamX.TabB base mg (He.cT K p).1 (He.cT K p).2) : MethX P w (GL w K) mg base 2 ((GL w K).cl 0) "__init__" (He.fAd K ("Search", some "__init__")) (fdOf K ("Search", some "__init__")) ["self", "question", "manner", "reader", "silent"] 5 f_Search___init__ := by
  have F := fun_of (show FunD K "__init__" "Search.__init__" (defArgs (inClass (top 54) 0)) (defBody (inClass (top 54) 0)) (defScope (inClass (top 54) 0)) [] [] (He.fAd K ("Search", some "__init__")) (fdOf K ("Search", some "__init__")) from c.fd 60)
  have b : Binds K (fdOf K ("Search", some "__init__")) ["self", "question", "manner", "reader", "silent"] [] := F.binds fun _ _ _ _ _ _ us hl => match us, hl with | [_, _, _, _, _], _ => rfl
  exact ⟨ok_Search___init__ (G := GL w K) (fx X Gn c) F (D_ways_to_go_on X Gn c TB) (D_ways_to_come X Gn c TB) (D_Search_put X Gn c TB), b, He.meth_ok (c.fact 109)⟩
theorem D_errs_nowhere (X : K.In h) (Gn : h.Ns mainGlobals mg) (c : Says HDl w h K) (TB : ∀ p ∈ tfs, LamX.TabB base mg (He.cT K p).1 (He.cT K p).2) : DefX P w (GL w K) mg base 6 "errs_nowhere" (He.fAd K ("errs_nowhere", none)) (fdOf K ("errs_nowhere", none)) ["question", "manner", "reader", "silent"] [V.bl false] 4 f_errs_nowhere := by
  have F := (show FunD K "errs_nowhere" "errs_nowhere" (defArgs (top 55)) (defBody (top 55)) (defScope (top 55)) [V.bl false] [] (He.fAd K ("errs_nowhere", none)) (fdOf K ("errs_nowhere", none)) from c.fd 61)
  have b : Binds K (fdOf K ("errs_nowhere", none)) ["question", "manner", "reader", "silent"] [] := by
    obtain ⟨ds, hv, hb⟩ := F.binds1 (ps := ["question", "manner", "reader", "silent"]) 4 1 (by decide) rfl (fun _ _ _ _ _ _ _ us its hl hi => match us, hl, its, hi with | [_, _, _, _], _, [_], _ => ⟨_, rfl, by kernel_rfl⟩)
    cases (show Vals [] ds from hv)
    exact hb
  have bd := F.binds1 (ps := ["question", "manner", "reader", "silent"]) 3 0 (by decide) rfl (fun _ _ _ _ _ _ _ us its hl hi => match us, hl, its, hi with | [_, _, _], _, [_], _ => ⟨_, rfl, by kernel_rfl⟩)
  exact ⟨ok_errs_nowhere (G := GL w K) (fx X Gn c) F (D_Search_next_fault X Gn c TB) (D_Search___init__ X Gn c TB), F.kp, b, glo X Gn c 61, bd⟩
theorem D_kb_errs_nowhere (X : K.In h) (Gn : h.Ns mainGlobals mg) (c : Says HDl w h K) (TB : ∀ p ∈ tfs, LamX.TabB base mg (He.cT K p).1 (He.cT K p).2) : KBn K (fdOf K ("errs_nowhere", none)) ["question", "manner", "reader", "silent"] 3 ["silent"] (fun us ws => us ++ ws) (fun vs zs => vs ++ zs) := by
  have F := (show FunD K "errs_nowhere" "errs_nowhere" (defArgs (top 55)) (defBody (top 55)) (defScope (top 55)) [V.bl false] [] (He.fAd K ("errs_nowhere", none)) (fdOf K ("errs_nowhere", none)) from c.fd 61)
  obtain ⟨its, k⟩ := F.kbindsD (ps := ["question", "manner", "reader", "silent"]) 3 ["silent"] (fun us _ ws => us ++ ws) (by decide) (fun r1 _ r2 => r1.append r2) (fun _ _ _ _ _ _ _ us its ws l1 l2 l3 => match us, l1, its, l2, ws, l3 with | [_, _, _], _, [_], _, [_], _ => ⟨_, rfl, by kernel_rfl⟩)
  exact k
theorem D_short_fault (X : K.In h) (Gn : h.Ns mainGlobals mg) (c : Says HDl w h K) (TB : ∀ p ∈ tfs, LamX.TabB base mg (He.cT K p).1 (He.cT K p).2) : DefX P w (GL w K) mg base 6 "short_fault" (He.fAd K ("short_fault", none)) (fdOf K ("short_fault", none)) ["question", "manner", "reader", "silent"] [V.bl false] 4 f_short_fault := by
  have F := (show FunD K "short_fault" "short_fault" (defArgs (top 56)) (defBody (top 56)) (defScope (top 56)) [V.bl false] [] (He.fAd K ("short_fault", none)) (fdOf K ("short_fault", none)) from c.fd 62)
  have b : Binds K (fdOf K ("short_fault", none)) ["question", "manner", "reader", "silent"] [] := by
    obtain ⟨ds, hv, hb⟩ := F.binds1 (ps := ["question", "manner", "reader", "silent"]) 4 1 (by decide) rfl (fun _ _ _ _ _ _ _ us its hl hi => match us, hl, its, hi with | [_, _, _, _], _, [_], _ => ⟨_, rfl, by kernel_rfl⟩)
    cases (show Vals [] ds from hv)
    exact hb
  have bd := F.binds1 (ps := ["question", "manner", "reader", "silent"]) 3 0 (by decide) rfl (fun _ _ _ _ _ _ _ us its hl hi => match us, hl, its, hi with | [_, _, _], _, [_], _ => ⟨_, rfl, by kernel_rfl⟩)
  exact ⟨ok_short_fault (G := GL w K) (fx X Gn c) F (D_Search___init__ X Gn c TB) (D_Search_next_fault X Gn c TB) (D_Search_tags_to X Gn c TB) (D_Search_wrong_name X Gn c TB), F.kp, b, glo X Gn c 62, bd⟩
theorem D_kb_short_fault (X : K.In h) (Gn : h.Ns mainGlobals mg) (c : Says HDl w h K) (TB : ∀ p ∈ tfs, LamX.TabB base mg (He.cT K p).1 (He.cT K p).2) : KBn K (fdOf K ("short_fault", none)) ["question", "manner", "reader", "silent"] 3 ["silent"] (fun us ws => us ++ ws) (fun vs zs => vs ++ zs) := by
  have F := (show FunD K "short_fault" "short_fault" (defArgs (top 56)) (defBody (top 56)) (defScope (top 56)) [V.bl false] [] (He.fAd K ("short_fault", none)) (fdOf K ("short_fault", none)) from c.fd 62)
  obtain ⟨its, k⟩ := F.kbindsD (ps := ["question", "manner", "reader", "silent"]) 3 ["silent"] (fun us _ ws => us ++ ws) (by decide) (fun r1 _ r2 => r1.append r2) (fun _ _ _ _ _ _ _ us its ws l1 l2 l3 => match us, l1, its, l2, ws, l3 with | [_, _, _], _, [_], _, [_], _ => ⟨_, rfl, by kernel_rfl⟩)
  exact k
theorem D_rings_right (X : K.In h) (Gn : h.Ns mainGlobals mg) (c : Says HDl w h K) (TB : ∀ p ∈ tfs, LamX.TabB base mg (He.cT K p).1 (He.cT K p).2) : DefX P w (GL w K) mg base 10 "rings_right" (He.fAd K ("rings_right", none)) (fdOf K ("rings_right", none)) ["question", "manner", "reader"] [] 3 f_rings_right := by
  have F := fun_of (show FunD K "rings_right" "rings_right" (defArgs (top 83)) (defBody (top 83)) (defScope (top 83)) [] [] (He.fAd K ("rings_right", none)) (fdOf K ("rings_right", none)) from c.fd 63)
  have b : Binds K (fdOf K ("rings_right", none)) ["question", "manner", "reader"] [] := F.binds fun _ _ _ _ _ _ us hl => match us, hl with | [_, _, _], _ => rfl
  exact ⟨ok_rings_right (G := GL w K) (fx X Gn c) F (D_check_reading X Gn c TB) (D_errs_nowhere X Gn c TB) (D_kb_errs_nowhere X Gn c TB) (D_quiet_from X Gn c TB), F.kp, b, glo X Gn c 63, [], .nil, b⟩
theorem D_ring_fault (X : K.In h) (Gn : h.Ns mainGlobals mg) (c : Says HDl w h K) (TB : ∀ p ∈ tfs, LamX.TabB base mg (He.cT K p).1 (He.cT K p).2) : DefX P w (GL w K) mg base 10 "ring_fault" (He.fAd K ("ring_fault", none)) (fdOf K ("ring_fault", none)) ["question", "manner", "reader"] [] 3 f_ring_fault := by
  have F := fun_of (show FunD K "ring_fault" "ring_fault" (defArgs (top 84)) (defBody (top 84)) (defScope (top 84)) [] [] (He.fAd K ("ring_fault", none)) (fdOf K ("ring_fault", none)) from c.fd 64)
  have b : Binds K (fdOf K ("ring_fault", none)) ["question", "manner", "reader"] [] := F.binds fun _ _ _ _ _ _ us hl => match us, hl with | [_, _, _], _ => rfl
  exact ⟨ok_ring_fault (G := GL w K) (fx X Gn c) F (D_check_reading X Gn c TB) (D_short_fault X Gn c TB) (D_kb_short_fault X Gn c TB) (D_quiet_from X Gn c TB), F.kp, b, glo X Gn c 64, [], .nil, b⟩
theorem D_shows_ringer (X : K.In h) (Gn : h.Ns mainGlobals mg) (c : Says HDl w h K) (TB : ∀ p ∈ tfs, LamX.TabB base mg (He.cT K p).1 (He.cT K p).2) : DefX P w (GL w K) mg base 9 "shows_ringer" (He.fAd K ("shows_ringer", none)) (fdOf K ("shows_ringer", none)) ["question", "manner", "value"] [] 3 f_shows_ringer := by
  have F := fun_of (show FunD K "shows_ringer" "shows_ringer" (defArgs (top 86)) (defBody (top 86)) (defScope (top 86)) [] [] (He.fAd K ("shows_ringer", none)) (fdOf K ("shows_ringer", none)) from c.fd 65)
  have b : Binds K (fdOf K ("shows_ringer", none)) ["question", "manner", "value"] [] := F.binds fun _ _ _ _ _ _ us hl => match us, hl with | [_, _, _], _ => rfl
  exact ⟨ok_shows_ringer (G := GL w K) (fx X Gn c) F (D_checked_rung X Gn c TB) (D_wrong_part X Gn c TB) (D_names_of X Gn c TB) (D_errs_nowhere X Gn c TB) (D_kb_errs_nowhere X Gn c TB), F.kp, b, glo X Gn c 65, [], .nil, b⟩
theorem all_law (hold : (m_law (env0 10 1) [.dr]).holds True9 fun _ _ => False) (X : K.In h) (Gn : h.Ns mainGlobals mg) (c : Says HDl w h K) (TB : ∀ p ∈ tfs, LamX.TabB base mg (He.cT K p).1 (He.cT K p).2) : FnOk P w K mg base (L2.CX P w) 11 (He.fAd K ("law", none)) (fdOf K ("law", none)) ["script"] (spLawX (GL w K)) := by
  have F := (show FunD K "law" "law" (defArgs (top 89)) (defBody (top 89)) (defScope (top 89)) [] [] (He.fAd K ("law", none)) (fdOf K ("law", none)) from c.fd 66)
  
  exact ok_law (G := GL w K) (by with_reducible exact hold) (fx X Gn c) (fun_of F) (D_can_ring X Gn c TB) (D_can_read X Gn c TB) (D_shows_ring_paper X Gn c TB) (D_ring_rows X Gn c TB) (D_rings X Gn c TB) (D_first_ring X Gn c TB) (D_shows_ringer X Gn c TB) (D_rings_right X Gn c TB) (D_ring_fault X Gn c TB) (D__law_taken X Gn c TB) 
theorem room1 : Room 11 callerA := ⟨rfl, by decide, by decide⟩
theorem at_law (hold : (m_law (env0 10 1) [.dr]).holds True9 fun _ _ => False) (w : World) (mg : Str → Option Value) (fa : Addr) (h : Heap) (Y : (hkX HDl).says w h) (Gn : h.Ns mainGlobals mg) (hmg : mg "law" = some (.ref fa)) :
    ∃ K : PySem.W.Frag, K.In h ∧ LamX.LawAtS PySem.Challenge.rw_markspass_k16_known_rings w K (L2.CX PySem.Challenge.rw_markspass_k16_known_rings.prog w) 11 63 "script" mg fa h := by
  obtain ⟨K, X, c⟩ := Y
  have FD := (show FunD K "law" "law" (defArgs (top 89)) (defBody (top 89)) (defScope (top 89)) [] [] (He.fAd K ("law", none)) (fdOf K ("law", none)) from c.fd 66)
  have F := fun_of FD
  have e := hmg.symm.trans (glo X Gn c 66)
  cases e
  have b : Binds K (fdOf K ("law", none)) ["script"] [] := F.binds fun _ _ _ _ _ _ us hl => match us, hl with | [_], _ => rfl
  refine ⟨K, X, fdOf K ("law", none), tfs.map fun p => He.cT K p, spLawX (GL w K), fun p hp => ?_, fun p hp => ?_, fun p hp => ?_, fun s u => ?_, fun H a ns hl _ hT hS => ⟨a, ns, rfl, hS, amL_start fun T hT2 => ?_, fun _ => rfl⟩, fun base _ _ TB => ?_⟩
  · obtain ⟨q, hq, rfl⟩ := List.mem_map.mp hp
    exact c.x.empty q hq
  · obtain ⟨q, hq, rfl⟩ := List.mem_map.mp hp
    exact c.x.out q hq
  · obtain ⟨q, hq, rfl⟩ := List.mem_map.mp hp
    exact PySem.W.codeHd_of_K X (c.x.hd q hq)
  · obtain ⟨oc, od, kV, doc, pm, an, cdv, ct, osl, e, lk, hcd⟩ := F.ex
    rw [e]
    exact .of_eq rfl
  · have hm : ∃ q ∈ tfs, T = (He.cT K q).2 := by
      rcases List.mem_cons.mp hT2 with z | z
      · exact ⟨("law", none), List.mem_cons_self, z⟩
      · obtain ⟨q, hq, e⟩ := List.mem_map.mp z
        exact ⟨q, List.mem_of_mem_tail hq, e.symm⟩
    obtain ⟨q, hq, rfl⟩ := hm
    exact hT _ (List.mem_map.mpr ⟨q, hq, rfl⟩)
  · exact all_law (by with_reducible exact hold) X Gn c fun p hp => TB _ (List.mem_map.mpr ⟨p, hp, rfl⟩)
end
end Mx

/-! ### MkChkB -/
set_option Elab.async false
set_option linter.all false
set_option maxRecDepth 100000
namespace Mx
open PySem PySem.Spec
/-- what a closed law answers, by evaluation -/
def R.chk {α : Type} : R α → (α → Bool) → Bool
  | .ok a, f => f a
  | .exc _ _, _ => false
  | .fail, _ => false
  | .draw n k, f => (List.range n).all fun i => (k i).chk f
def okE (r : Fl × Sto) : Bool := match r.1 with
  | .rt (.bl b) => b
  | _ => false
theorem okE_ok {r : Fl × Sto} (h : okE r = true) : True9 r := by
  unfold okE at h
  split at h
  · rename_i b e
    subst h
    exact e
  · cases h
theorem chk_holds : ∀ {r : R (Fl × Sto)}, r.chk okE = true → r.holds True9 fun _ _ => False
  | .ok a, h => okE_ok h
  | .exc _ _, h => by cases h
  | .fail, h => by cases h
  | .draw n k, h => fun i hi => chk_holds (List.all_eq_true.mp (show ((List.range n).all fun i => (k i).chk okE) = true from h) i (List.mem_range.mpr hi))
end Mx

/-! ### MqHold -/
set_option Elab.async false
set_option linter.all false
set_option maxRecDepth 100000
set_option maxHeartbeats 0
namespace Mx
open PySem PySem.Spec
theorem hold_c : ((m_law (env0 10 1) [.dr]).chk okE) = true := by decide +kernel
theorem hold_g (r : R (Fl × Sto)) (e : m_law (env0 10 1) [.dr] = r) (k : r.chk okE = true) : r.holds True9 fun _ _ => False := chk_holds k
theorem hold : (m_law (env0 10 1) [.dr]).holds True9 fun _ _ => False := by
  have k := hold_c
  generalize m_law (env0 10 1) [.dr] = r at k ⊢
  exact chk_holds k
end Mx

/-! ### MqFE -/
set_option Elab.async false
set_option linter.all false
set_option maxRecDepth 100000
set_option maxHeartbeats 8000000
namespace Mx
open PySem PySem.Spec PyProof.Rows L2
end Mx
open PySem PySem.W PySem.Calls PyProof.Rows
set_option maxRecDepth 100000 in
set_option maxHeartbeats 8000000 in
theorem PySem.Challenge.cw_markspass_k16_known_rings_holds : PySem.Challenge.rw_markspass_k16_known_rings.Holds := by
  w_on; o_law
  refine HandSHeadRun.head_imp (r := Mx.RR) (q := view Mx.RR.prog [0, 89]) (H := Mx.hkX Mx.HDl) (ob := Mx.obX Mx.HDl) (M := 40000) (loose := Mx.looseN) (d := HandSHeadRun.topDef Mx.RR.prog 89) (kwd := []) (Mx.obX_eq Mx.HDl)
    Mx.run (by kernel_rfl) (by kernel_rfl) (by kernel_rfl) (by rfl) (by first | assumption | decide +kernel) (by decide +kernel) ⟨rfl, rfl, rfl, rfl, rfl, by decide +kernel⟩ ?hw ?hc
  case hw => w_witness2
  case hc =>
    refine LamX.walk_ofTsE (l := PySem.Challenge.rw_markspass_k16_known_rings) (n := 63) (k := 11) (x := "script") (CX := fun w => L2.CX PySem.Challenge.rw_markspass_k16_known_rings.prog w) rfl (by decide) (by kernel_rfl) Mx.room1 ?F (fun _ _ _ _ _ z => by obtain ⟨_, _, _, _, _, _, _, _, _, _, _, _, z⟩ := z; exact z)
    intro w mg fa h Y G hmg0
    have hmg : mg ("law" : PySem.Str) = some (.ref fa) := by
      have e : (HandSHeadRun.topDef Mx.RR.prog 89).name = ("law" : PySem.Str) := by kernel_rfl
      rw [← e]
      exact hmg0
    exact Mx.at_law (by with_reducible exact Mx.hold) w mg fa h Y G hmg

