import PyProof.Rows.All
import Wide.All
import OpenK.AllK
import Wide.FinOn
import HandS.ForMost
import HandS.GenOver
import HandS.AnyAll
import PyProof.GenQ
import PyProof.CodeObjX
import KE.KNest
import HandS.IsInst
import HandS.Zip
import HandS.TupAny
import HandS.TupMul
import HandS.Walk
import HandS.Lambda
import HandS.EndTab
import PyProof.ReprRoads
import PyProof.ReprLen
import PyProof.CallFns
import KE.GoesMore
import KE.GoesEnum
import PyProof.EnumMake
import HandS.Sort
import PyProof.Rows.RuleN_abs
import PyProof.FactsAll.bool
import PyProof.FactsAll.int
import KE.GoesZip
import HandS.Gcd
import PyProof.NeKinds
import PyProof.NoPylong
import KE.KRevSl
import PyProof.Rows.IntBool
import HandS.Text
import KE.KEqDict
import PyProof.EqKinds
import PyProof.WalksMore
import PyProof.Rows.TupIter
import HandS.Wide
import HandS.TupLe
import HandS.Flow
import HandS.Style
import KE.KEqSeq
import HandS.SortRule
import PyProof.CompFree
import HandS.NoneIn
import HandS.Deep
import HandS.Dict
import Flt.RightSqrt
import HandS.ExcInit
import HandS.ExcSuper
import HandS.ExcField
import HandS.WordsExc
import KE.KExcIs
import HandS.ExcIs
import KE.KStrOpen
import PyProof.Rows.ReprOcc
import PyProof.ReprText
import PySem.Challenge.RW_nearsteps_k13_spots_and_plain_places_amo
set_option Elab.async false
set_option linter.all false
set_option maxRecDepth 100000
set_option maxHeartbeats 4000000
/-! all and any of a generator expression over whatever a for may walk; its element may call defs that hold such expressions themselves. -/
namespace Gz
open PySem PySem.Spec PyProof.Rows L2 GxR GenW
open Sem (wp)

/-- the environment of the expression's own frame -/
abbrev gEnv (env : Env) (scope : Scope) (C : Addr) (code : Value) : Env :=
  genEnv scope (cloFrom env.cells scope.names []) C code builtinsNs env
/-- the context of that frame; pn: the generator's own object -/
abbrev gCx (X : Cx) (s : Shared) (H : Hp) (e : Env) (fp : List Addr) (pn : List (Addr × Obj)) (A : Around) : Cx :=
  { X with A := A, s_0 := s, H_0 := H, env := e, outer := X.stack, stack := e :: X.stack, ex := fp,
           fn := fun _ => false, pn := pn, xe := fun _ _ => False }

/-- what is wanted of a generator expression's scope -/
structure GScope (N : List Str) (sc scope : Scope) (own : List (Str × Nat)) : Prop where
  blk : BlkOk N sc scope own
  co : scope.isCoroutine = false
  cell : ∀ y ∈ scope.names, y.2 ≠ .cell
  dot : scope.names.lookup (".0" : Str) = some NameKind.local

section
variable {X : Cx} {pins : List (Addr × Obj)} {σ : L2.St} {H H2 : Hp} {s : Shared}

/-- the frame's first state -/
theorem gen_start {scope : Scope} {own : List (Str × Nat)} {fp : List Addr} {code : Value} {h5 : Heap} {gens5 : Array GenState} {tk5 : Nat} {A' : Around} {m5 : Str → Option Value} {C a : Addr} {ob : Obj}
    (I : Inv X pins σ H s) (I2 : Inv X pins σ H2 { s with heap := h5, gens := gens5, toks := tk5 }) (ok : GScope X.N X.env.scope scope own) (hN : X.N.Nodup)
    (hfp : ∀ b ∈ fp, FpOk X pins H b ∧ b < s.heap.objs.size) (un : Un (frs X.stack) fp H H2 s.heap h5)
    (hA : A'.handled = none) (hF : A'.frames = some (gEnv X.env scope C code :: X.stack))
    (hC : s.heap.objs.size ≤ C) (hns : h5.Ns C m5) (hCn : H2 C = none)
    (ha : h5.get? a = some ob) (hac : C ≠ a) (hal : s.heap.objs.size ≤ a) (han : H2 a = none) (hob : ∀ v, ob.data ≠ .cell v) :
    Inv (gCx X s H (gEnv X.env scope C code) fp [(a, ob)] A') [] (wipe σ (own.map (·.2))) H2
      { s with heap := h5, gens := gens5, toks := tk5 } := by
  have hfree : ∀ y ∈ scope.names, y.2 = .free → ∃ c, X.env.cells.lookup y.1 = some c := fun y hy e => by
    rcases ok.blk.free y hy e with k | k
    · exact I.ok.has _ (.inl k)
    · exact I.ok.has _ (.inr k)
  have cm : ∀ {y c}, (gEnv X.env scope C code).cells.lookup y = some c →
      X.env.cells.lookup y = some c ∧ c < s.heap.objs.size := fun {y c} e => by
    have e1 : (cloFrom X.env.cells scope.names []).lookup y = some c := e
    rcases cloFrom_mem (PySem.mem_of_lookup e1) with z | ⟨z, rfl⟩
    · cases z
    · obtain ⟨c', hc⟩ := hfree _ z rfl
      rw [hc]
      obtain ⟨w', q⟩ := I.cell _ _ hc
      exact ⟨rfl, q.lt⟩
  have look : ∀ {y}, scope.names.lookup y = some .free →
      ∃ c, (gEnv X.env scope C code).cells.lookup y = some c ∧ X.env.cells.lookup y = some c := fun {y} hl => by
    obtain ⟨c', e'⟩ := mem_lookup (cloFrom_has (cells := X.env.cells) (acc := []) (PySem.mem_of_lookup hl))
    have e2 : (gEnv X.env scope C code).cells.lookup y = some c' := e'
    exact ⟨c', e2, (cm e2).1⟩
  have nocell : ∀ {y}, scope.names.lookup y ≠ some .cell := fun {y} h => ok.cell _ (PySem.mem_of_lookup h) rfl
  have okG : (gCx X s H (gEnv X.env scope C code) fp [(a, ob)] A').Ok := by
    constructor
    · exact I.ok.mod
    · exact ok.blk.kind
    · exact I.ok.glob
    · rfl
    · exact hC
    · intro y z c e1 e2
      exact I.ok.inj y z c (cm e1).1 (cm e2).1
    · intro y hy
      rcases hy with hy | hy
      · exact (nocell hy).elim
      · obtain ⟨c, q, _⟩ := look hy
        exact ⟨c, q⟩
    · intro y c z _
      have z' : false = true := z
      cases z'
    · exact fun _ => hA
    · exact hF
    · exact .inr ⟨rfl, rfl⟩
    · intro b hb
      refine ⟨fun z => ?_, fun y c e z => ?_⟩
      · have z' : b = C := z
        have q := (hfp b hb).2
        rw [z'] at q
        exact absurd (Nat.lt_of_lt_of_le q hC) (Nat.lt_irrefl _)
      · exact (hfp b hb).1.2.2.2.2.1 y c (cm e).1 z
    · exact I.bs
    · exact Nat.le_trans I.ok.bsz I.sz
    · intro b o e hb
      rcases (hfp b hb).1.2.2.2.1 with z | z
      · exact I.ok.noex b o e z
      · exact absurd (Nat.lt_of_lt_of_le (Heap.lt_size e) (Nat.le_trans I.ok.bsz z)) (Nat.lt_irrefl _)
    · intro b hb z
      rcases List.mem_cons.mp (I.stkSub b z) with z | z
      · exact (hfp b hb).1.2.1 z
      · exact (hfp b hb).1.2.2.1 z
    · exact I.stack
    · exact I.stkFree
  constructor
  · exact okG
  · rfl
  · exact I2.bare
  · exact un
  · refine ⟨m5, hns, fun i y av e1 e2 e3 => ?_⟩
    obtain ⟨e2, hne⟩ := wipe_some e2
    have own' : ¬ (scope.names.lookup y = some .local ∨ scope.names.lookup y = some .cell) := fun hh => by
      have hm : ∃ k, (y, k) ∈ scope.names ∧ (k = .local ∨ k = .cell) := by
        rcases hh with q | q
        · exact ⟨_, PySem.mem_of_lookup q, .inl rfl⟩
        · exact ⟨_, PySem.mem_of_lookup q, .inr rfl⟩
      obtain ⟨k, hm, hk⟩ := hm
      rcases ok.blk.own _ hm hk with e' | e'
      · obtain ⟨p, hp, hpy⟩ := List.mem_map.mp e'
        have e4 := ok.blk.ix p hp
        have hpy' : p.1 = y := hpy
        rw [hpy'] at e4
        exact hne (List.mem_map.mpr ⟨p, hp, nodup_ix hN e4 e1⟩)
      · exact e' (List.mem_of_getElem? e1)
    have hfr : scope.names.lookup y = some .free := by
      rcases e3 with e3 | e3 | e3
      · exact absurd (.inl e3) own'
      · exact absurd (.inr e3) own'
      · exact e3
    obtain ⟨m, hn, hl⟩ := I2.loc
    have hv : Vis X.env.scope y := (ok.blk.free _ (PySem.mem_of_lookup hfr) rfl).elim (fun k => .inr (.inl k)) fun k => .inr (.inr k)
    obtain ⟨u, r, q⟩ := hl i y av e1 e2 hv
    refine ⟨u, r, .inr ⟨.inr hfr, ?_⟩⟩
    obtain ⟨c, h1, h2⟩ := look hfr
    rcases q with ⟨k, _⟩ | ⟨_, c', e', z⟩
    · have k : X.env.scope.names.lookup y = some .local := k
      rcases ok.blk.free _ (PySem.mem_of_lookup hfr) rfl with k' | k'
      · rw [show X.env.scope.names.lookup y = _ from k'] at k; cases k
      · rw [show X.env.scope.names.lookup y = _ from k'] at k; cases k
    · rw [h2] at e'; cases e'
      exact ⟨c, h1, z⟩
  · intro y c e
    exact I2.cell y c (cm e).1
  · exact hCn
  · intro y c e
    exact I2.freeC y c (cm e).1
  · intro p hp
    have hp' : p ∈ [(a, ob)] ++ ([] : List (Addr × Obj)) := hp
    rw [List.append_nil] at hp'
    have e : p = (a, ob) := List.mem_singleton.mp hp'
    subst e
    refine ⟨ha, han, fun z => hac z.symm, fun z => ?_, hob⟩
    obtain ⟨_, o, ho, _⟩ := I.stack.mem z
    exact absurd (Nat.lt_of_lt_of_le (Heap.lt_size ho) hal) (Nat.lt_irrefl _)
  · exact I2.hok
  · rw [wipe_length]; exact I2.len
end

/-! ### the expression's turns -/
/-- the walked thing's turns by measure, the element's value: as long as it is kb the consumer goes on -/
structure GW where
  J : It
  g : TG
  tt : TT
  te : TE
  σ : L2.St
  vs : List Nat
  W : Nat → Nat → Hp → Prop
  kb : Bool
  Q : VK
def GW.turn (G : GW) : Prop := ∀ i m H, G.W i m H → (G.J.stop i H ∧ G.Q (.bl G.kb) H) ∨ (G.J.go i H ∧ ∃ Nx : Hp → Prop, (∀ H', Nx H' → ∃ m', m' < m ∧ G.W (i + 1) m' H') ∧
  ∀ x H', G.J.yld i H x H' → G.g x (wipe G.σ G.vs) H' fun σ8 H8 => wipe σ8 G.vs = wipe G.σ G.vs ∧ G.tt σ8 H8 fun b H9 =>
    if b = true then G.te σ8 H9 fun y H10 => ∃ c : Bool, y = .bl c ∧ if c = G.kb then Nx H10 else G.Q (.bl c) H10 else Nx H9)
/-- the state while the expression sleeps -/
def Dozed (s s' : Shared) : Prop := s'.os = s.os ∧ s'.heap = s.heap ∧ AllBare s'.gens
/-- what it hands out -/
def GY (Y : Cx) (G : GW) : Protocol := fun n s₀ v s kap =>
  ∃ (c : Bool) (pl : List (Addr × Obj)) (σ8 : L2.St) (H9 : Hp), v = .bool c ∧ Inv Y pl σ8 H9 s ∧
    (c = G.kb → ∀ s', Dozed s s' → kap (.send .none) s') ∧ (c ≠ G.kb → G.Q (.bl c) H9)
def GE (Y : Cx) (G : GW) : Nat → Shared → Shared → Prop := fun n s₀ s => ∃ (σ8 : L2.St) (H9 : Hp), Inv Y [] σ8 H9 s ∧ G.Q (.bl G.kb) H9

section
variable {X Y : Cx}
theorem inv_doze {pl : List (Addr × Obj)} {σ : L2.St} {H : Hp} {s s' : Shared} (I : Inv Y pl σ H s) (d : Dozed s s') : Inv Y pl σ H s' := by
  obtain ⟨d1, d2, d3⟩ := d
  obtain ⟨h', g', dr', t', os'⟩ := s'
  have e1 : os' = s.os := d1
  have e2 : h' = s.heap := d2
  subst e1 e2
  exact I.step (g' := g') (d' := dr') (t' := t') (ch := []) (fun _ z => nomatch z) (fun b o _ _ _ e _ => e) (fun b o _ _ _ e _ => ⟨o.slots, e⟩)
    (fun _ _ _ _ n => n) (fun b o _ e => ⟨o, e⟩) (fun _ _ e => e) (fun _ _ _ e => e) (fun b ps e => ⟨#[], by rw [e]; simp⟩) (fun m h => h)
    (fun b u e => I.hok b u e) d3

theorem gen_loop {elt tg iter : Expr} {ifs : List Expr} {scope : Scope} {pos : Pos} {fp : List Addr} {tn : Nat → Heap → Prop} {it : Addr} {G : GW} {B : Around}
    (hYA : Y.A = B.over (.compLoop (.GeneratorExp elt [⟨tg, iter, ifs, 0⟩] scope pos) 0 (.ref it) .none Y.env) [])
    (hc : Y.calm = true) (hxe : Y.xe = fun _ _ => False) (hex : Y.ex = fp) (hpn : ∀ p ∈ Y.pn, ∀ b ∈ fp, p.1 ≠ b)
    (hco : Y.env.scope.isCoroutine = false) (T : Turn Y.prog Y.w Y.K tg G.J fp it tn) (pg : PG Y tg G.g) (pt : PTs Y ifs G.tt) (pe : PE Y elt G.te) (turn : G.turn) :
    ∀ (m n i : Nat) (s₀ s : Shared) (H : Hp), m < n → Inv Y [] (wipe G.σ G.vs) H s → tn i s.heap → (∀ b ∈ fp, H b = none) → G.W i m H →
      Seg (model Y.prog Y.w) B (fun n s₀ r s₁ => r = .ok .next ∧ GE Y G n s₀ s₁) (GY Y G) n s₀
        (.compLoop (.GeneratorExp elt [⟨tg, iter, ifs, 0⟩] scope pos) 0 (.ref it) .none Y.env)
        ((model Y.prog Y.w).den (.compLoop (.GeneratorExp elt [⟨tg, iter, ifs, 0⟩] scope pos) 0 (.ref it) .none Y.env)) [] s := by
  have stat : ∀ {σ' : L2.St} {H' : Hp} {s' : Shared}, Inv Y [] σ' H' s' → (∀ b ∈ fp, H' b = none) → ∀ b ∈ fp, FpOk Y [] H' b := fun {σ' H' s'} I' hn b hb =>
    ⟨hn b hb, (I'.ok.exf b (by rw [hex]; exact hb)).1, I'.ok.exfs b (by rw [hex]; exact hb), .inl (by rw [hex]; exact hb),
      fun x c e => (I'.ok.exf b (by rw [hex]; exact hb)).2 x c e, fun p hp => hpn p (by simpa using hp) b hb⟩
  intro m
  induction m using Nat.strongRecOn with
  | ind m ih =>
    intro n i s₀ s H hmn I st fn w
    show Seg _ B _ _ _ s₀ _ ((compTurn (.GeneratorExp elt [⟨tg, iter, ifs, 0⟩] scope pos) 0 (.ref it) .none Y.env).onRaise (leaving Y.env)) [] s
    rw [compTurn_gen, Sem.onRaise_eq_wrap]
    refine seg_bind_wrap (wpAny_standAt ?_)
    rcases turn i m H w with ⟨stop, q⟩ | ⟨go, Nx, hNx, step⟩
    · refine seg_bind_wrap ?_
      rw [← hYA]
      refine wpAny_mono (T.done Y rfl rfl rfl hc i [] s _ H (fun _ _ => False) I (stat I fn) st stop) (fun r s1 ⟨hr, I1⟩ => ?_) fun _ _ z => False.elim z
      subst hr
      exact seg_end (.ok .next) ⟨rfl, _, _, I1, q⟩
    · refine seg_bind_wrap ?_
      rw [← hYA]
      refine wpAny_mono (T.item Y rfl rfl rfl hc i [] s _ H (fun _ _ => False) I (stat I fn) st go) (fun r s1 ⟨u, hr, h1⟩ => ?_) fun _ _ z => False.elim z
      subst hr
      refine seg_bind_wrap ?_
      rw [← hYA]
      refine wpAny_mono h1 (fun _ s2 ⟨x, H2, I2, r2, y2, st2, n2⟩ => ?_) fun _ _ z => False.elim z
      have I2' := I2.pinned (stat I2 n2) (T.obj _ _ st2)
      refine seg_bind_wrap ?_
      rw [← hYA]
      have hg := pg.run _ s2 _ H2 x u _ I2' r2 (step x H2 y2)
      rw [hxe] at hg
      refine wpAny_mono hg (fun _ s3 ⟨σ3, H3, I3, hw3, q3⟩ => ?_) fun _ _ z => False.elim z
      refine seg_bind_wrap ?_
      rw [← hYA]
      have ht := pt.run _ s3 σ3 H3 _ I3 q3
      rw [hxe] at ht
      refine wpAny_mono ht (fun b s4 ⟨H4, I4, q4⟩ => ?_) fun _ _ z => False.elim z
      have fin : ∀ {s' : Shared} {H' : Hp} (n' : Nat) (s0 : Shared), m ≤ n' → Inv Y ([] ++ pinsAt fp s2.heap) σ3 H' s' → Nx H' →
          Seg (model Y.prog Y.w) B (fun n s₀ r s₁ => r = .ok .next ∧ GE Y G n s₀ s₁) (GY Y G) n' s0
            (.compLoop (.GeneratorExp elt [⟨tg, iter, ifs, 0⟩] scope pos) 0 (.ref it) .none Y.env)
            ((model Y.prog Y.w).den (.compLoop (.GeneratorExp elt [⟨tg, iter, ifs, 0⟩] scope pos) 0 (.ref it) .none Y.env)) [] s' := fun {s' H'} n' s0 hn' I' nx => by
        obtain ⟨m', hm, w'⟩ := hNx H' nx
        have pin' : ∀ b ∈ fp, ∀ o, s2.heap.get? b = some o → s'.heap.get? b = some o ∧ H' b = none := fun b hb o e =>
          let z := I'.pin (b, o) (List.mem_append_right _ (List.mem_append_right _ (mem_pinsAt hb e)))
          ⟨z.1, z.2.1⟩
        have hl : (wipe G.σ G.vs).length = σ3.length := by rw [← hw3, wipe_length]
        refine ih m' hm n' (i + 1) s0 s' H' (by omega) ((I'.unpinned (pins := [])).weak hl fun j v e => ?_) (T.keep _ _ _ st2 fun b hb o e => (pin' b hb o e).1) (fun b hb => ?_) w'
        · rw [← hw3] at e
          exact (wipe_some e).1
        · obtain ⟨o, e, _⟩ := T.obj _ _ st2 b hb
          exact (pin' b hb o e).2
      cases b with
      | false =>
        simp only [Bool.false_eq_true, if_false] at q4 ⊢
        exact seg_again rfl (fin n s₀ (by omega) I4 q4)
      | true =>
        simp only [if_true] at q4 ⊢
        have hy : ∀ v, yieldOut Y.env v = yieldValue v := fun v => by simp only [yieldOut, hco, Bool.false_eq_true, if_false]
        simp only [hy]
        rw [Sem.bind_eq_wrap', Sem.bind_eq_wrap', Sem.wrap_wrap, Sem.wrap_wrap]
        refine seg_wrap ?_
        rw [← hYA]
        have hel := pe.run _ s4 σ3 H4 _ I4 q4
        rw [hxe] at hel
        refine wpAny_mono hel (fun z s5 ⟨yv, H5, I5, r5, c, hyv, q5⟩ => ?_) fun _ _ z => False.elim z
        subst hyv
        have r5' : z = .bool c := r5
        subst r5'
        obtain ⟨n', rfl⟩ : ∃ n', n = n' + 1 := ⟨n - 1, by omega⟩
        refine seg_at (seg_yield rfl rfl rfl ⟨c, _, σ3, H5, rfl, I5, fun hcc s' hd => ?_, fun hcc => ?_⟩)
        · rw [if_pos hcc] at q5
          exact seg_again rfl (fin n' s' (by omega) (inv_doze I5 hd) q5)
        · rw [if_neg hcc] at q5
          exact q5
end
end Gz
set_option Elab.async false
set_option linter.all false
set_option maxRecDepth 100000
set_option maxHeartbeats 4000000
namespace Gz
open PySem PySem.Spec PyProof.Rows L2 GxR GenW
open Sem (wp)

section
variable {X Y : Cx}
theorem gen_first {elt tg iter : Expr} {ifs : List Expr} {scope : Scope} {pos : Pos} {tn : Nat → Heap → Prop} {it : Addr} {B : Around} {R : GenEnd} {Z : Protocol} {P : Program} {w : World} {env : Env} {n : Nat} {s₀ s : Shared}
    (self : ∀ (A : Around) (i : Nat) (s : Shared) (Q : Value → Shared → Prop) (E : Value → Shared → Prop), tn i s.heap → Q (.ref it) s → wpAny (model P w) A (pyIter (.ref it)) Q E s)
    (hst : tn 0 s.heap)
    (loop : Seg (model P w) B R Z n s₀ (.compLoop (.GeneratorExp elt [⟨tg, iter, ifs, 0⟩] scope pos) 0 (.ref it) .none env)
        ((model P w).den (.compLoop (.GeneratorExp elt [⟨tg, iter, ifs, 0⟩] scope pos) 0 (.ref it) .none env)) [] s) :
    Seg (model P w) B R Z n s₀ (.compStart (.GeneratorExp elt [⟨tg, iter, ifs, 0⟩] scope pos) 0 (.ref it) .none env)
        ((model P w).den (.compStart (.GeneratorExp elt [⟨tg, iter, ifs, 0⟩] scope pos) 0 (.ref it) .none env)) [] s := by
  show Seg _ B _ _ _ s₀ _ ((compStart (.GeneratorExp elt [⟨tg, iter, ifs, 0⟩] scope pos) 0 (.ref it) .none env).onRaise (leaving env)) [] s
  unfold compStart
  rw [Sem.onRaise_eq_wrap]
  show Seg _ B _ _ _ s₀ _ ((ask >>= _).wrap _ _ _ _) [] s
  refine seg_bind_wrap (wpAny_askSetting ?_)
  split
  · exact seg_again rfl loop
  · first
      | exact seg_bind_wrap (wpAny_rule (seg_bind_wrap (wpAny_standAt (seg_bind_wrap (self _ 0 s _ _ hst (seg_again rfl loop))))))
      | (refine seg_bind_wrap (wpAny_rule ?_)
         show Seg _ B _ _ _ s₀ _ ((standAt iter.pos >>= _).wrap _ _ _ _) [] s
         exact seg_bind_wrap (wpAny_standAt (seg_bind_wrap (self _ 0 s _ _ hst (seg_again rfl loop)))))

theorem bare_set {s : Shared} {g : Nat} {x : GenState} (h : AllBare s.gens) (hx : x.bare = true) : AllBare (s.setGen g x).gens := fun y hy => by
  obtain ⟨i, hi, e⟩ := Array.mem_iff_getElem.mp hy
  have q1 : (s.setGen g x).gens[i]? = some y := by rw [Array.getElem?_eq_getElem hi, e]
  have q2 : (s.gens.setIfInBounds g x)[i]? = some y := q1
  by_cases z : i = g
  · subst z
    rw [Array.getElem?_setIfInBounds] at q2
    simp only [if_true] at q2
    split at q2
    · cases q2; exact hx
    · cases q2
  · rw [Array.getElem?_setIfInBounds_ne (Ne.symm z)] at q2
    exact h y (Array.mem_of_getElem? q2)
theorem set_at {s : Shared} {g : Nat} {x : GenState} (h : g < s.gens.size) : (s.setGen g x).gens[g]? = some x := by
  show (s.gens.setIfInBounds g x)[g]? = some x
  simp [h]

/-- the consumers «all», «any»: each turn of their loop -/
theorem all_turns {G : GW} {a : Addr} {g : Nat} {ob : Obj} {A : Around} {R : Result → Shared → Prop} (hkb : G.kb = true)
    (hh : A.handled = none) (hd : A.depth < recursionLimit) (hg : ∀ h : Heap, h.get? a = some ob → h.IsGen a g) (hpn : (a, ob) ∈ Y.pn)
    (fin : ∀ (c : Bool) (pl : List (Addr × Obj)) (σ8 : L2.St) (H9 : Hp) (s' : Shared), Inv Y pl σ8 H9 s' → G.Q (.bl c) H9 → R (.ok (.ret (.bool c))) s') :
    ∀ (n : Nat) (pl : List (Addr × Obj)) (σ8 : L2.St) (H9 : Hp) (s : Shared), Inv Y pl σ8 H9 s →
      (∃ gs, s.gens[g]? = some gs ∧ gs.Goes (model Y.prog Y.w) A.in1.in1 (fun n s₀ r s₁ => r = .ok .next ∧ GE Y G n s₀ s₁) (GY Y G) n (.send .none) (s.setGen g .running)) →
      codeAny (model Y.prog Y.w) A (.builtin "all.loop" ⟨[.ref a], []⟩) R s := by
  intro n
  induction n with
  | zero =>
    intro pl σ8 H9 s I ⟨gs, hgs, hgo⟩
    have hag : s.heap.IsGen a g := hg _ (I.pin (a, ob) (List.mem_append_left _ hpn)).1
    refine codeAny_builtin F.entry_all_loop ?_
    rw [Around.under_plainId F.plain_all_loop _]
    show wpAny _ A.in1 (pyNext (.ref a) >>= _) _ _ s
    refine wpAny_bind (wpAny_pyNext_genexpQ (A := A.in1) hh I.nolimit hd hag hgs hgo (fun v s₁ gs' hbare hv => ?_) (fun s₁ hp h' hk => ?_))
    · obtain ⟨c, pl', σ', H', rfl, I1, hk, hs⟩ := hv
      refine wpAny_bind (wpAny_holding (wpAny_truthy_bool (wpAny_bind (wpAny_letGo ?_))))
      cases c with
      | true => exact (hk hkb.symm s₁ ⟨rfl, rfl, I1.bare⟩).elim
      | false =>
        simp only [Bool.false_eq_true, if_false]
        exact wpAny_bind (wpAny_rule (wpAny_pure (fin false _ _ _ _ (inv_doze I1 ⟨rfl, rfl, bare_set I1.bare hbare⟩) (hs (by rw [hkb]; decide)))))
    · obtain ⟨σ', H', I1, q⟩ := hp
      have I2 := inv_doze (I1.kept (t' := s₁.toks) hk) (s' := { s₁.setGen g .finished with heap := h' }) ⟨rfl, rfl, bare_set I1.bare rfl⟩
      rw [hkb] at q
      exact wpAny_bind (wpAny_rule (wpAny_pure (fin true _ _ _ _ I2 q)))
  | succ n ih =>
    intro pl σ8 H9 s I ⟨gs, hgs, hgo⟩
    have hgl : g < s.gens.size := (Array.getElem?_eq_some_iff.mp hgs).1
    have hag : s.heap.IsGen a g := hg _ (I.pin (a, ob) (List.mem_append_left _ hpn)).1
    refine codeAny_builtin F.entry_all_loop ?_
    rw [Around.under_plainId F.plain_all_loop _]
    show wpAny _ A.in1 (pyNext (.ref a) >>= _) _ _ s
    refine wpAny_bind (wpAny_gsz (n := g + 1) hgl (wpAny_pyNext_genexpQ (A := A.in1) hh I.nolimit hd hag hgs hgo (fun v s₁ gs' hbare hv => ?_) (fun s₁ hp h' hk => ?_)))
    · intro hsz
      have hsz1 : g < s₁.gens.size := by
        have q : (s₁.setGen g gs').gens.size = s₁.gens.size := setGen_size _ _ _
        omega
      obtain ⟨c, pl', σ', H', rfl, I1, hk, hs⟩ := hv
      refine wpAny_bind (wpAny_holding (wpAny_truthy_bool (wpAny_bind (wpAny_letGo ?_))))
      have J := inv_doze I1 (s' := s₁.setGen g gs') ⟨rfl, rfl, bare_set I1.bare hbare⟩
      cases c with
      | true =>
        simp only [if_true]
        refine wpAny_pure ⟨plainId_quiet F.plain_all_loop _, ih pl' σ' H' _ J ⟨gs', set_at hsz1, ?_⟩⟩
        exact hk hkb.symm ((s₁.setGen g gs').setGen g .running) ⟨rfl, rfl, bare_set (bare_set I1.bare hbare) rfl⟩
      | false =>
        simp only [Bool.false_eq_true, if_false]
        exact wpAny_bind (wpAny_rule (wpAny_pure (fin false _ _ _ _ J (hs (by rw [hkb]; decide)))))
    · intro hsz
      obtain ⟨σ', H', I1, q⟩ := hp
      have I2 := inv_doze (I1.kept (t' := s₁.toks) hk) (s' := { s₁.setGen g .finished with heap := h' }) ⟨rfl, rfl, bare_set I1.bare rfl⟩
      rw [hkb] at q
      exact wpAny_bind (wpAny_rule (wpAny_pure (fin true _ _ _ _ I2 q)))
end
end Gz
set_option Elab.async false
set_option linter.all false
set_option maxRecDepth 100000
set_option maxHeartbeats 4000000
namespace Gz
open PySem PySem.Spec PyProof.Rows L2 GxR GenW
open Sem (wp)

/-- all(elt for tg in iter if ..): kb true; any(..): kb false -/
def tGen (kb : Bool) (P : Addr) (wi : TI) (g : TG) (tt : TT) (te : TE) (vs : List Nat) : TE := fun σ H Q => wi σ H fun J H1 => TabG H1 P ∧ ∀ H2, Tabbed P H1 H2 →
  ∃ W : Nat → Nat → Hp → Prop, (∃ m, W 0 m H2) ∧ (GW.mk J g tt te σ vs W kb Q).turn

section
variable {X : Cx}
/-- the expression made: what its consumer then finds -/
theorem gen_made {c P : Addr} {elt tg iter : Expr} {ifs : List Expr} {scope : Scope} {own : List (Str × Nat)} {gpos : Pos} {wi : TI} {g : TG} {tt : TT} {te : TE} {k : Nat} {kb : Bool}
    {pins : List (Addr × Obj)} {s : Shared} {σ : L2.St} {H : Hp} {Q : VK} {Q' : Value → Shared → Prop}
    (hr : Room (k + 1) X.A) (TB : TabB X.base X.mg c P) (hcode : X.env.code = .ref c) (S : GScope X.N X.env.scope scope own) (hN : X.N.Nodup) (hc : X.calm = true) (hi : PI X tg iter wi)
    (pg : ∀ s H C code fp pn A', PG (gCx X s H (gEnv X.env scope C code) fp pn A') tg g)
    (pt : ∀ s H C code fp pn A', Room k A' → PTs (gCx X s H (gEnv X.env scope C code) fp pn A') ifs tt)
    (pe : ∀ s H C code fp pn A', Room k A' → PE (gCx X s H (gEnv X.env scope C code) fp pn A') elt te)
    (hs : ∀ v, genFold iter X.env v = pure v) (I : Inv X pins σ H s) (h : tGen kb P wi g tt te (own.map (·.2)) σ H Q)
    (hQ : ∀ (Y : Cx) (G : GW) (a : Addr) (gn : Nat) (ob : Obj) (n : Nat) (s5 : Shared) (H5 : Hp) (gs : GenState), Y.prog = X.prog → Y.w = X.w → G.kb = kb → G.Q = Q →
      (∀ h : Heap, h.get? a = some ob → h.IsGen a gn) → (a, ob) ∈ Y.pn → Inv Y [] (wipe G.σ G.vs) H5 s5 → s5.gens[gn]? = some gs →
      gs.Goes (model Y.prog Y.w) X.A.in1.in1 (fun n s₀ r s₁ => r = .ok .next ∧ GE Y G n s₀ s₁) (GY Y G) n (.send .none) (s5.setGen gn .running) →
      (∀ pl σ8 H9 s', Inv Y pl σ8 H9 s' → Inv X pins σ H9 s') → Q' (.ref a) s5) :
    wpAny (model X.prog X.w) X.A (eval (.GeneratorExp elt [⟨tg, iter, ifs, 0⟩] scope gpos) X.env) Q' X.xe s := by
  have hfree : ∀ y ∈ scope.names, y.2 = .free → ∃ c, X.env.cells.lookup y.1 = some c := fun y hy e => by
    rcases S.blk.free y hy e with q | q
    · exact I.ok.has _ (.inl q)
    · exact I.ok.has _ (.inr q)
  refine wpAny_GeneratorExp_make S.co (closure_ok hfree) S.cell S.dot S.blk.kind hr.depth ?_ hs
  refine thn (hi.run pins s σ H _ I h) fun xv s1 h1 => thn h1 fun itv s2 h2 => ?_
  obtain ⟨it, fp, tn, J, H2, e, I2, T, st2, f2, hT, q⟩ := h2
  subst e
  refine ⟨I2.nolimit, ?_⟩
  obtain ⟨ps, hP, ht⟩ := hT
  have hPs : s2.heap.get? P = some { cls := .none, data := .fields ps } := I2.hok P _ hP
  have cd : PySem.W.CodeHd s2.heap c P := TB.code.keeps I2.bk
  have szf : ∀ b ∈ fp, b < s2.heap.objs.size := fun b hb => let ⟨_, e, _⟩ := T.obj _ _ st2 b hb; Heap.lt_size e
  have cont : ∀ (code : Value) (h3 : Heap) (tk : Nat) (ps' : Array Value), Heap.ExtBut P s2.heap h3 → s2.heap.objs.size ≤ h3.objs.size → h3.get? P = some { cls := .none, data := .fields ps' } →
      (∃ more, ps' = ps ++ more) → TriplesOk ps'.toList →
      wpAny (model X.prog X.w) X.A (builtinsFor X.env.globals X.env.builtins) (fun bi s₄ =>
        ∀ h', h'.Ns s₄.heap.objs.size (fun y => if y = ".0" then some (.ref it) else none) → Heap.SameBut s₄.heap.objs.size (s₄.heap.push { cls := .type "frame", data := .dict #[] }) h' →
          Q' (.ref h'.objs.size) { s₄ with
            gens := s₄.gens.push (.fresh (.compStart (.GeneratorExp elt [⟨tg, iter, ifs, 0⟩] scope gpos) 0 (.ref it) .none (genEnv scope (cloFrom X.env.cells scope.names []) s₄.heap.objs.size code bi X.env))),
            toks := s₄.toks + 1 + 1 + 1,
            heap := h'.push { cls := .type "generator", data := .fields #[.int s₄.gens.size 0, .str "<genexpr>" (s₄.toks + 1), .str (X.env.qual ++ "<genexpr>") (s₄.toks + 1 + 1)] } }) X.xe { s2 with heap := h3, toks := tk } := by
    intro code h3 tk ps' hx hsz hP3 hmore ht3
    obtain ⟨bm, obm, e1, e2, e3, e4, e5, e6, e7, e8⟩ := TB.bm
    have keep3 : ∀ b u, b ≠ P → s2.heap.get? b = some u → h3.get? b = some u := fun b u hb e => hx b u hb e
    refine wpAny_builtinsFor (m := X.mg) (by rw [I2.ok.glob]; exact (I2.mod.glob.keeps I2.bk).extBut hx TB.gP) e1 e2 (keep3 _ _ e4 (I2.bk _ _ e5)) e6 e7 e8 ?_
    intro h' hn' hs'
    obtain ⟨more, rfl⟩ := hmore
    have hs1 : h'.objs.size = h3.objs.size + 1 := by rw [hs'.1, Heap.size_push]
    have kept : ∀ (o5 : Obj) b u, h3.get? b = some u → (h'.push o5).get? b = some u := fun o5 b u e =>
      Heap.get?_push_of_some _ ((hs'.2 b (Nat.ne_of_lt (Heap.lt_size e))).trans (Heap.get?_push_of_some _ e))
    generalize hob : ({ cls := .type "generator", data := .fields #[.int s2.gens.size 0, .str "<genexpr>" (tk + 1), .str (X.env.qual ++ "<genexpr>") (tk + 1 + 1)] } : Obj) = ob
    have hgen : ∀ h : Heap, h.get? h'.objs.size = some ob → h.IsGen h'.objs.size s2.gens.size := fun h e => by
      rw [← hob] at e
      exact ⟨_, _, _, e, rfl, rfl, rfl⟩
    have keep5 : ∀ b u, b ≠ P → s2.heap.get? b = some u → (h'.push ob).get? b = some u := fun b u hb e => kept ob b u (keep3 b u hb e)
    have tab5 : (h'.push ob).get? P = some { cls := .none, data := .fields (ps ++ more) } := kept ob P _ hP3
    have bare5 : AllBare (s2.gens.push (.fresh (.compStart (.GeneratorExp elt [⟨tg, iter, ifs, 0⟩] scope gpos) 0 (.ref it) .none (gEnv X.env scope h3.objs.size code)))) := I2.bare.push rfl
    have J2 := inv_tab (more := more) (h' := h'.push ob) (d' := s2.drawn) (t' := tk + 1 + 1 + 1) I2 hP keep5 tab5 bare5
    have nP : ∀ b, H2 b = none → b ≠ P := fun b e z => by rw [z, hP] at e; cases e
    have nT : ∀ b u, H2 b = some u → (∀ z, u ≠ .tbl z) → b ≠ P := fun b u e q z => by
      rw [z, hP] at e
      exact q ps (Option.some.inj e).symm
    have un : Un (frs X.stack) fp H2 (upd H2 P (.tbl (ps ++ more))) s2.heap (h'.push ob) := by
      constructor
      · exact fun b o e n _ _ => keep5 b o (nP b n) e
      · exact fun b o e n _ _ => ⟨o.slots, keep5 b o (nP b n) e⟩
      · intro b o e n _
        rw [upd_ne (nP b n)]; exact n
      · intro b o e _
        by_cases hb : b = P
        · subst hb; exact ⟨_, tab5⟩
        · exact ⟨o, keep5 b o hb e⟩
      · intro b xs e
        rw [upd_ne (nT b _ e fun z q => by cases q)]; exact e
      · intro b o u e
        rw [upd_ne (nT b _ e fun z q => by cases q)]; exact e
      · intro b qs e
        by_cases hb : b = P
        · subst hb
          rw [hP] at e
          cases e
          exact ⟨more, upd_same⟩
        · rw [upd_ne hb, e]
          exact ⟨#[], by simp⟩
    generalize hA' : X.A.in1.in1.over (.compLoop (.GeneratorExp elt [⟨tg, iter, ifs, 0⟩] scope gpos) 0 (.ref it) .none (gEnv X.env scope h3.objs.size code)) [] = A'
    have hdep : A'.depth = X.A.depth + 1 := by rw [← hA']; rfl
    have huni : A'.units = X.A.units + 1 + 1 + 3 := by rw [← hA']; rfl
    have hhd : A'.handled = none := by rw [← hA']; exact hr.hd
    have hfr : A'.frames = some (gEnv X.env scope h3.objs.size code :: X.stack) := by
      have e0 : A'.frames = pushEnvs [gEnv X.env scope h3.objs.size code] X.A.frames := by rw [← hA']; rfl
      rw [e0, I2.ok.frames]
      rfl
    have hrA : Room k A' := ⟨hhd, by have := hr.dp; rw [hdep]; omega, by have := hr.un; rw [huni]; omega⟩
    have sz5 : (h'.push ob).objs.size = h'.objs.size + 1 := Heap.size_push ..
    have fresh : ∀ b, s2.heap.objs.size ≤ b → upd H2 P (.tbl (ps ++ more)) b = none := fun b hb => by
      have n0 := I2.hok.fresh hb
      rw [upd_ne (nP b n0)]; exact n0
    have hns5 : (h'.push ob).Ns h3.objs.size (fun y => if y = ".0" then some (.ref it) else none) := hn'.push ob
    have I5 := gen_start (code := code) (C := h3.objs.size) (a := h'.objs.size) (ob := ob) (A' := A') (fp := fp) I2 J2 S hN (fun b hb => ⟨f2 b hb, szf b hb⟩) un hhd hfr hsz hns5 (fresh _ hsz)
      (Heap.get?_push_size _ (by rw [← hob]; rfl)) (by rw [hs1]; exact Nat.ne_of_lt (Nat.lt_succ_self _)) (by rw [hs1]; exact Nat.le_succ_of_le hsz) (fresh _ (by rw [hs1]; exact Nat.le_succ_of_le hsz))
      (fun v z => by rw [← hob] at z; cases z)
    obtain ⟨W, ⟨m0, w0⟩, turn⟩ := q (upd H2 P (.tbl (ps ++ more))) ⟨⟨_, upd_same, ht3⟩, fun b hb => upd_ne hb⟩
    have st5 : tn 0 (h'.push ob) := T.keep _ _ _ st2 fun b hb o e => keep5 b o (nP b (f2 b hb).1) e
    refine hQ (gCx X s2 H2 (gEnv X.env scope h3.objs.size code) fp [(h'.objs.size, ob)] A') (GW.mk J g tt te σ (own.map (·.2)) W kb Q) h'.objs.size s2.gens.size ob (m0 + 1) _ _ _
      rfl rfl rfl rfl hgen (List.mem_singleton.mpr rfl) I5 (Array.getElem?_push_size ..) ⟨rfl, ?_⟩ ?_
    · refine gen_first (fun A i s Q E => T.self A i s Q E) st5 ?_
      have hpn : ∀ p ∈ [(h'.objs.size, ob)], ∀ b ∈ fp, p.1 ≠ b := fun p hp b hb z => by
        have e : p = (h'.objs.size, ob) := List.mem_singleton.mp hp
        rw [e] at z
        have l := szf b hb
        have z' : h'.objs.size = b := z
        rw [← z', hs1] at l
        exact absurd (Nat.lt_of_lt_of_le l hsz) (Nat.not_lt.mpr (Nat.le_succ _))
      exact gen_loop (Y := gCx X s2 H2 (gEnv X.env scope h3.objs.size code) fp [(h'.objs.size, ob)] A') (G := GW.mk J g tt te σ (own.map (·.2)) W kb Q) hA'.symm hc rfl rfl hpn S.co T
        (pg ..) (pt _ _ _ _ _ _ _ hrA) (pe _ _ _ _ _ _ _ hrA) turn m0 (m0 + 1) 0 _ _ _ (Nat.lt_succ_self _)
        (inv_doze I5 ⟨rfl, rfl, bare_set bare5 rfl⟩) st5 (fun b hb => by rw [upd_ne (nP b (f2 b hb).1)]; exact (f2 b hb).1) w0
    · intro pl σ8 H9 s' I9
      exact I2.call' (ch := fp) I9.os I9.base I9.hok I9.bare fun b hb => ⟨(f2 b hb).2.2.2.1, (f2 b hb).2.1, (f2 b hb).2.2.2.2.1, (f2 b hb).2.2.2.2.2⟩
  cases hf : codeAmong gpos ps.toList with
  | none =>
    refine wpAny_genexprCodeX hcode (cd.code hPs ht) (cd.tab hPs) hf fun c' h' tk hx hge hlt hco' _ htab' _ => ?_
    obtain ⟨o1, vs, f1, tf, fl, tg, inF, tx, tt, op, _, _, _, _, _, _, _, _, _, htr, _⟩ := hco'
    exact cont _ h' tk _ hx (Nat.le_trans hge (Nat.le_of_lt hlt)) htab'.2 ⟨_, rfl⟩ htr
  | some cv =>
    refine wpAny_genexprCode_hit hcode (cd.code hPs ht) hf ?_
    exact cont cv s2.heap s2.toks ps (Heap.ExtBut.refl _ _) (Nat.le_refl _) hPs ⟨#[], by simp⟩ ht

theorem pe_allG {c P : Addr} {elt tg iter : Expr} {ifs : List Expr} {scope : Scope} {own : List (Str × Nat)} {p pos gpos : Pos} {wi : TI} {g : TG} {tt : TT} {te : TE} {k : Nat}
    (hr : Room (k + 1) X.A) (hg : Gl X "all") (hm : X.mg "all" = none) (TB : TabB X.base X.mg c P) (hcode : X.env.code = .ref c) (S : GScope X.N X.env.scope scope own) (hN : X.N.Nodup) (hc : X.calm = true) (hi : PI X tg iter wi)
    (pg : ∀ s H C code fp pn A', PG (gCx X s H (gEnv X.env scope C code) fp pn A') tg g)
    (pt : ∀ s H C code fp pn A', Room k A' → PTs (gCx X s H (gEnv X.env scope C code) fp pn A') ifs tt)
    (pe : ∀ s H C code fp pn A', Room k A' → PE (gCx X s H (gEnv X.env scope C code) fp pn A') elt te)
    (hs : ∀ v, genFold iter X.env v = pure v := by intro _; rfl) (hb : bootBuiltins "all" = some (.builtin "all") := by decide +kernel)
    (he : starEach [.GeneratorExp elt [⟨tg, iter, ifs, 0⟩] scope gpos] X.env = (false, eval (.GeneratorExp elt [⟨tg, iter, ifs, 0⟩] scope gpos) X.env) :: starEach [] X.env := by rfl) :
    PE X (.Call (.Name "all" p) [.GeneratorExp elt [⟨tg, iter, ifs, 0⟩] scope gpos] [] pos) (tGen true P wi g tt te (own.map (·.2))) := by
  refine ⟨fun pins s σ H Q I h => ?_⟩
  refine wpAny_Call_Name_kw (ld_blt I hg hm hb ?_)
  refine PyProof.Rows.callWith_builtin1 ?_ he (by rfl)
  rw [he]
  show wpAny _ _ (spliced ((false, eval (.GeneratorExp elt [⟨tg, iter, ifs, 0⟩] scope gpos) X.env) :: backTo pos (starEach [] X.env))) _ _ s
  refine Calls.spliced_cons (gen_made (Q := Q) hr TB hcode S hN hc hi pg pt pe hs I h fun Y G a gn ob n s5 H5 gs hP hw hk hQ hgen hpn I5 hgs hgo back => ?_)
  refine Calls.spliced_nil ?_
  refine call_function_tree F.kind_all F.plain_all F.entry_all (F.args_all1 _) ?_
  unfold Builtin.«all»
  refine wpAny_bind (m := oneArg "all" _) (wpAny_pure ?_)
  refine wpAny_bind (wpAny_pyIter_gen (hgen _ (I5.pin (a, ob) (List.mem_append_left _ hpn)).1) ?_)
  refine wpAny_pure ⟨plainId_quiet F.plain_all_loop _, ?_⟩
  rw [← hP, ← hw]
  refine all_turns (A := X.A) hk hr.hd hr.depth hgen hpn (fun c pl σ8 H9 s' I9 q => ?_) n [] _ H5 s5 I5 ⟨gs, hgs, hgo⟩
  rw [hQ] at q
  exact ⟨.bl c, H9, back _ _ _ _ I9, rfl, q⟩
end
end Gz
set_option Elab.async false
set_option linter.all false
set_option maxRecDepth 100000
set_option maxHeartbeats 4000000
/-! Kz: data in the heap, what is kept, what an expression evaluates to -/
namespace Kz
open PySem PySem.Spec PyProof.Rows L2

/-! ### what is kept -/
abbrev NT (o : HO) : Prop := ∀ ps, o ≠ .tbl ps
/-- an object that is no code object -/
abbrev NC (o : HO) : Prop := ∀ c q, o ≠ LamX.CodeO c q
/-- which tables are those of generators; what the lambdas of the others are called -/
class GT where
  g : Addr → Prop
  q : Addr → Str
instance (priority := 100) gtAll : GT := ⟨fun _ => True, fun _ => ""⟩
variable [GT]
def TabH (H : Hp) (P : Addr) : Prop := (GT.g P ∧ GxR.TabG H P) ∨ (¬ GT.g P ∧ LamX.TabS H P (GT.q P))
theorem TabH.gen {H : Hp} {P : Addr} (h : TabH H P) (g : GT.g P) : GxR.TabG H P := h.elim (fun z => z.2) fun z => (z.1 g).elim
theorem TabH.lam {H : Hp} {P : Addr} (h : TabH H P) (g : ¬ GT.g P) : LamX.TabS H P (GT.q P) := h.elim (fun z => (g z.1).elim) fun z => z.2
theorem code_ne {c : Addr} {q : Str} {o : HO} (h : ∀ F, o ≠ .ext F) : o ≠ LamX.CodeO c q := fun z => by
  unfold LamX.CodeO at z
  exact h _ z
theorem code_nt {c : Addr} {q : Str} : NT (LamX.CodeO c q) := fun ps z => by
  unfold LamX.CodeO at z
  cases z
theorem TabH.at_ {H H' : Hp} {P : Addr} (h : TabH H P) (hp : H' P = H P) (hc : ∀ c q, H c = some (LamX.CodeO c q) → H' c = some (LamX.CodeO c q)) : TabH H' P := by
  rcases h with ⟨g, ps, e, t⟩ | ⟨g, ps, e, t, a⟩
  · exact .inl ⟨g, ps, by rw [hp]; exact e, t⟩
  · exact .inr ⟨g, ps, by rw [hp]; exact e, t, fun pos cv z => by
      obtain ⟨c, e1, e2⟩ := a pos cv z
      exact ⟨c, e1, hc c _ e2⟩⟩
theorem TabH.tbl {H : Hp} {P : Addr} (h : TabH H P) : ∃ ps, H P = some (.tbl ps) := by
  rcases h with ⟨g, ps, e, t⟩ | ⟨g, ps, e, t, a⟩
  · exact ⟨ps, e⟩
  · exact ⟨ps, e⟩
theorem TabH.ne {H : Hp} {P a : Addr} {u o : HO} (h : TabH H P) (e : H a = some u) (hu : NT u) (hc : NC u) : TabH (upd H a o) P := by
  obtain ⟨ps, hp⟩ := h.tbl
  refine h.at_ (upd_ne fun z => ?_) fun c q hq => ?_
  · rw [z, e] at hp
    cases hp
    exact hu ps rfl
  · rw [upd_ne fun z => ?_]
    · exact hq
    · rw [z, e] at hq
      cases hq
      exact hc c q (by rw [z])
theorem TabH.fresh {H : Hp} {P a : Addr} {o : HO} (h : TabH H P) (e : H a = none) : TabH (upd H a o) P := by
  obtain ⟨ps, hp⟩ := h.tbl
  exact h.at_ (upd_ne (ne_of_none hp e)) fun c q hq => by rw [upd_ne (ne_of_none hq e)]; exact hq
/-- all that is tracked outside Z is kept; tables may grow -/
structure Kq (Z : Addr → Prop) (H H' : Hp) : Prop where
  at_ : ∀ a o, ¬ Z a → H a = some o → NT o → H' a = some o
  tab : ∀ P, TabH H P → TabH H' P
  nn : ∀ a, H a ≠ none → H' a ≠ none
abbrev Z0 : Addr → Prop := fun _ => False
abbrev Kp (H H' : Hp) : Prop := Kq Z0 H H'
section
variable {Z Z' : Addr → Prop} {H H1 H2 : Hp}
theorem nn_upd {p : Addr} {o : HO} : ∀ a, H a ≠ none → upd H p o a ≠ none := fun a h => by
  unfold upd
  split
  · simp
  · exact h
theorem Kq.refl (H : Hp) : Kq Z H H := ⟨fun _ _ _ h _ => h, fun _ h => h, fun _ h => h⟩
theorem Kq.trans (a : Kq Z H H1) (b : Kq Z H1 H2) : Kq Z H H2 := ⟨fun x o z h n => b.at_ x o z (a.at_ x o z h n) n, fun P h => b.tab P (a.tab P h), fun x h => b.nn x (a.nn x h)⟩
theorem Kq.mono (a : Kq Z H H1) (h : ∀ x, Z x → Z' x) : Kq Z' H H1 := ⟨fun x o z e n => a.at_ x o (fun q => z (h x q)) e n, a.tab, a.nn⟩
theorem Kq.up (a : Kp H H1) : Kq Z H H1 := a.mono fun _ h => h.elim
theorem Kq.new {p : Addr} {o : HO} (h : H p = none) : Kq Z H (upd H p o) := ⟨fun x u _ e _ => by
    rw [upd_ne (ne_of_none e h)]; exact e, fun P t => t.fresh h, nn_upd⟩
theorem Kq.tbl {P : Addr} (t : GxR.Tabbed P H H1) (h : GxR.TabG H P) (g : GT.g P) : Kq Z H H1 := by
  obtain ⟨t1, t2⟩ := t
  obtain ⟨ps, hP, _⟩ := h
  refine ⟨fun x o _ e n => ?_, fun P' h' => ?_, fun x n => ?_⟩
  · by_cases q : x = P
    · rw [q, hP] at e
      cases e
      exact (n ps rfl).elim
    · rw [t2 x q]; exact e
  · by_cases q : P' = P
    · rw [q]; exact .inl ⟨g, t1⟩
    · refine h'.at_ (t2 P' q) fun c r hc => ?_
      rw [t2 c fun z => ?_]
      · exact hc
      · rw [z, hP] at hc
        exact code_nt ps (Option.some.inj hc).symm
  · by_cases q : x = P
    · obtain ⟨qs, e, _⟩ := t1
      rw [q, e]; simp
    · rw [t2 x q]; exact n
/-- a tracked object that may change -/
theorem Kq.put {p : Addr} {o u : HO} (e : H p = some u) (hu : NT u) (hc : NC u) (hz : Z p) : Kq Z H (upd H p o) := ⟨fun x w z h _ => by
    have ne : x ≠ p := fun q => z (q ▸ hz)
    rw [upd_ne ne]; exact h, fun P t => t.ne e hu hc, nn_upd⟩
/-- an object unknown ahead, changed now -/
theorem Kq.own {p : Addr} {o u : HO} (k : Kq Z H H1) (n : H p = none) (e : H1 p = some u) (hu : NT u) (hc : NC u) : Kq Z H (upd H1 p o) := ⟨fun x w z h t => by
    rw [upd_ne (ne_of_none h n)]; exact k.at_ x w z h t, fun P h => (k.tab P h).ne e hu hc, fun a h => nn_upd a (k.nn a h)⟩
theorem Kq.back (k : Kq Z H H1) {a : Addr} (h : H1 a = none) : H a = none := by
  cases e : H a with
  | none => rfl
  | some o => exact absurd h (k.nn a (by rw [e]; simp))
theorem nt_lst {xs : List V} : NT (.lst xs) := fun _ q => by cases q
theorem nt_tup {xs : List V} : NT (.tup xs) := fun _ q => by cases q
theorem nc_lst {xs : List V} : NC (.lst xs) := fun _ _ => code_ne fun _ z => by cases z
theorem nc_dK {xs : List (Key × V)} : NC (.dK xs) := fun _ _ => code_ne fun _ z => by cases z
theorem nt_dK {xs : List (Key × V)} : NT (.dK xs) := fun _ q => by cases q
end

/-! ### data -/
def keyD : Key → PyData
  | .inl i => .int i
  | .inr x => .str x
mutual
/-- the value stands for the datum; none of its objects is at an address of S -/
inductive Dv (S : Addr → Prop) (H : Hp) : V → PyData → Prop
  | non : Dv S H .non .none
  | bl (b : Bool) : Dv S H (.bl b) (.bool b)
  | int (i : Int) : Dv S H (.int i) (.int i)
  | str (x : Str) : Dv S H (.str x) (.str x)
  | lst {a : Addr} {xs : List V} {ds : List PyData} : ¬ S a → H a = some (.lst xs) → DvL S H xs ds → Dv S H (.ref a) (.list ds)
  | tup {a : Addr} {xs : List V} {ds : List PyData} : ¬ S a → H a = some (.tup xs) → DvL S H xs ds → Dv S H (.ref a) (.tuple ds)
  | dct {a : Addr} {kvs : List (Key × V)} {ps : List (PyData × PyData)} : ¬ S a → H a = some (.dK kvs) → DvK S H kvs ps → Dv S H (.ref a) (.dict ps)
inductive DvL (S : Addr → Prop) (H : Hp) : List V → List PyData → Prop
  | nil : DvL S H [] []
  | cons {v : V} {vs : List V} {d : PyData} {ds : List PyData} : Dv S H v d → DvL S H vs ds → DvL S H (v :: vs) (d :: ds)
inductive DvK (S : Addr → Prop) (H : Hp) : List (Key × V) → List (PyData × PyData) → Prop
  | nil : DvK S H [] []
  | cons {k : Key} {v : V} {vs : List (Key × V)} {d : PyData} {ds : List (PyData × PyData)} : Dv S H v d → DvK S H vs ds → DvK S H ((k, v) :: vs) ((keyD k, d) :: ds)
end
section
variable {S S' : Addr → Prop} {H H' : Hp}
mutual
theorem Dv.map (hS : ∀ a, ¬ S a → H a ≠ none → ¬ S' a) (hk : ∀ a o, ¬ S a → H a = some o → NT o → H' a = some o) : ∀ (d : PyData) (v : V), Dv S H v d → Dv S' H' v d
  | .none, _, h => by cases h; exact .non
  | .bool _, _, h => by cases h; exact .bl _
  | .int _, _, h => by cases h; exact .int _
  | .str _, _, h => by cases h; exact .str _
  | .list ds, _, h => by
    cases h with
    | lst n e r => exact .lst (hS _ n (by rw [e]; simp)) (hk _ _ n e nt_lst) (DvL.map hS hk ds _ r)
  | .tuple ds, _, h => by
    cases h with
    | tup n e r => exact .tup (hS _ n (by rw [e]; simp)) (hk _ _ n e nt_tup) (DvL.map hS hk ds _ r)
  | .dict ps, _, h => by
    cases h with
    | dct n e r => exact .dct (hS _ n (by rw [e]; simp)) (hk _ _ n e nt_dK) (DvK.map hS hk ps _ r)
theorem DvL.map (hS : ∀ a, ¬ S a → H a ≠ none → ¬ S' a) (hk : ∀ a o, ¬ S a → H a = some o → NT o → H' a = some o) : ∀ (ds : List PyData) (vs : List V), DvL S H vs ds → DvL S' H' vs ds
  | [], _, h => by cases h; exact .nil
  | d :: ds, _, h => by
    cases h with
    | cons h1 h2 => exact .cons (Dv.map hS hk d _ h1) (DvL.map hS hk ds _ h2)
theorem DvK.map (hS : ∀ a, ¬ S a → H a ≠ none → ¬ S' a) (hk : ∀ a o, ¬ S a → H a = some o → NT o → H' a = some o) : ∀ (ds : List (PyData × PyData)) (vs : List (Key × V)), DvK S H vs ds → DvK S' H' vs ds
  | [], _, h => by cases h; exact .nil
  | (k, d) :: ds, _, h => by
    cases h with
    | cons h1 h2 => exact .cons (Dv.map hS hk d _ h1) (DvK.map hS hk ds _ h2)
end
theorem Dv.kq {Z : Addr → Prop} {v : V} {d : PyData} (h : Dv S H v d) (k : Kq Z H H') (hz : ∀ a, Z a → S a) : Dv S H' v d := h.map (fun _ n _ => n) (fun a o n e t => k.at_ a o (fun z => n (hz a z)) e t)
theorem DvL.kq {Z : Addr → Prop} {v : List V} {d : List PyData} (h : DvL S H v d) (k : Kq Z H H') (hz : ∀ a, Z a → S a) : DvL S H' v d := h.map (fun _ n _ => n) (fun a o n e t => k.at_ a o (fun z => n (hz a z)) e t)
theorem Dv.kp {v : V} {d : PyData} (h : Dv S H v d) (k : Kp H H') : Dv S H' v d := h.kq k fun _ z => z.elim
theorem DvL.kp {v : List V} {d : List PyData} (h : DvL S H v d) (k : Kp H H') : DvL S H' v d := h.kq k fun _ z => z.elim
theorem DvL.length {vs : List V} {ds : List PyData} : DvL S H vs ds → vs.length = ds.length := by
  intro h
  induction ds generalizing vs with
  | nil => cases h; rfl
  | cons d ds ih =>
    cases h with
    | cons h1 h2 => simp only [List.length_cons, ih h2]
theorem DvL.get {vs : List V} {ds : List PyData} {i : Nat} {v : V} (h : DvL S H vs ds) (e : vs[i]? = some v) : ∃ d, ds[i]? = some d ∧ Dv S H v d := by
  induction ds generalizing vs i with
  | nil => cases h; simp at e
  | cons d ds ih =>
    cases h with
    | cons h1 h2 =>
      cases i with
      | zero => simp only [List.getElem?_cons_zero, Option.some.injEq] at e; subst e; exact ⟨d, rfl, h1⟩
      | succ i => simpa using ih h2 (by simpa using e)
theorem DvL.getD {vs : List V} {ds : List PyData} {i : Nat} {d : PyData} (h : DvL S H vs ds) (e : ds[i]? = some d) : ∃ v, vs[i]? = some v ∧ Dv S H v d := by
  have hl := h.length
  have hi : i < vs.length := by rw [hl]; exact (List.getElem?_eq_some_iff.mp e).1
  obtain ⟨d', e', h'⟩ := h.get (List.getElem?_eq_getElem hi)
  rw [e] at e'
  cases e'
  exact ⟨_, List.getElem?_eq_getElem hi, h'⟩
theorem DvL.append {vs ws : List V} {ds es : List PyData} (h : DvL S H vs ds) (k : DvL S H ws es) : DvL S H (vs ++ ws) (ds ++ es) := by
  induction ds generalizing vs with
  | nil => cases h; exact k
  | cons d ds ih =>
    cases h with
    | cons h1 h2 => exact .cons h1 (ih h2)
theorem DvL.take {vs : List V} {ds : List PyData} (n : Nat) (h : DvL S H vs ds) : DvL S H (vs.take n) (ds.take n) := by
  induction ds generalizing vs n with
  | nil => cases h; simp only [List.take_nil]; exact .nil
  | cons d ds ih =>
    cases h with
    | cons h1 h2 =>
      cases n with
      | zero => exact .nil
      | succ n => exact .cons h1 (ih n h2)
theorem DvL.drop {vs : List V} {ds : List PyData} (n : Nat) (h : DvL S H vs ds) : DvL S H (vs.drop n) (ds.drop n) := by
  induction ds generalizing vs n with
  | nil => cases h; simp only [List.drop_nil]; exact .nil
  | cons d ds ih =>
    cases n with
    | zero => exact h
    | succ n =>
      cases h with
      | cons h1 h2 => exact ih n h2
theorem DvL.one {v : V} {d : PyData} (h : Dv S H v d) : DvL S H [v] [d] := .cons h .nil
/-- ints by themselves -/
theorem DvL.ints (ns : List Int) : DvL S H (ns.map V.int) (ns.map PyData.int) := by
  induction ns with
  | nil => exact .nil
  | cons n ns ih => exact .cons (.int n) ih
theorem DvL.ints_inv {vs : List V} {ns : List Int} (h : DvL S H vs (ns.map PyData.int)) : vs = ns.map V.int := by
  induction ns generalizing vs with
  | nil => cases h; rfl
  | cons n ns ih =>
    cases h with
    | cons h1 h2 =>
      cases h1
      rw [ih h2]; rfl
theorem DvL.bools_inv {vs : List V} {ns : List Bool} (h : DvL S H vs (ns.map PyData.bool)) : vs = ns.map V.bl := by
  induction ns generalizing vs with
  | nil => cases h; rfl
  | cons n ns ih =>
    cases h with
    | cons h1 h2 =>
      cases h1
      rw [ih h2]; rfl
end
end Kz
set_option Elab.async false
set_option linter.all false
set_option maxRecDepth 100000
set_option maxHeartbeats 4000000
/-! Kz: own trees; the data of a def's names; what its expressions, tests and statements come to -/
namespace Kz
open PySem PySem.Spec PyProof.Rows L2
variable [GT]

/-! ### own trees -/
inductive Ot where
  | dat (d : PyData)
  | lst (xs : List Ot)
  | tup (xs : List Ot)
  | dk (kvs : List (Key × Ot))
mutual
def Ot.d : Ot → PyData
  | .dat d => d
  | .lst xs => .list (Ot.ds xs)
  | .tup xs => .tuple (Ot.ds xs)
  | .dk kvs => .dict (Ot.dks kvs)
def Ot.ds : List Ot → List PyData
  | [] => []
  | x :: xs => x.d :: Ot.ds xs
def Ot.dks : List (Key × Ot) → List (PyData × PyData)
  | [] => []
  | (k, x) :: xs => (keyD k, x.d) :: Ot.dks xs
end
mutual
/-- the value stands for the tree; its own objects stand at the addresses told, each once; no datum of it has an object in S -/
inductive Ow (S : Addr → Prop) (H : Hp) : V → Ot → List Addr → Prop
  | dat {v : V} {d : PyData} : Dv S H v d → Ow S H v (.dat d) []
  | lst {a : Addr} {vs : List V} {xs : List Ot} {as : List Addr} : H a = some (.lst vs) → OwL S H vs xs as → a ∉ as → Ow S H (.ref a) (.lst xs) (a :: as)
  | tup {a : Addr} {vs : List V} {xs : List Ot} {as : List Addr} : ¬ S a → H a = some (.tup vs) → OwL S H vs xs as → Ow S H (.ref a) (.tup xs) as
  | dk {a : Addr} {vs : List (Key × V)} {xs : List (Key × Ot)} {as : List Addr} : H a = some (.dK vs) → OwK S H vs xs as → a ∉ as → Ow S H (.ref a) (.dk xs) (a :: as)
inductive OwL (S : Addr → Prop) (H : Hp) : List V → List Ot → List Addr → Prop
  | nil : OwL S H [] [] []
  | cons {v : V} {vs : List V} {x : Ot} {xs : List Ot} {as bs : List Addr} : Ow S H v x as → OwL S H vs xs bs → (∀ a ∈ as, a ∉ bs) → OwL S H (v :: vs) (x :: xs) (as ++ bs)
inductive OwK (S : Addr → Prop) (H : Hp) : List (Key × V) → List (Key × Ot) → List Addr → Prop
  | nil : OwK S H [] [] []
  | cons {k : Key} {v : V} {vs : List (Key × V)} {x : Ot} {xs : List (Key × Ot)} {as bs : List Addr} : Ow S H v x as → OwK S H vs xs bs → (∀ a ∈ as, a ∉ bs) → OwK S H ((k, v) :: vs) ((k, x) :: xs) (as ++ bs)
end
section
variable {S S' : Addr → Prop} {H H' : Hp}
mutual
theorem Ow.map (hS : ∀ a, ¬ S a → H a ≠ none → ¬ S' a) (hk : ∀ a o, ¬ S a → H a = some o → NT o → H' a = some o) : ∀ (t : Ot) (v : V) (as : List Addr), Ow S H v t as → (∀ a ∈ as, ∀ o, H a = some o → NT o → H' a = some o) → Ow S' H' v t as
  | .dat _, _, _, h, _ => by cases h with | dat h => exact .dat (h.map hS hk)
  | .lst xs, _, _, h, w => by
    cases h with
    | lst e r n => exact .lst (w _ (by simp) _ e nt_lst) (OwL.map hS hk xs _ _ r fun a m => w a (List.mem_cons_of_mem _ m)) n
  | .tup xs, _, _, h, w => by
    cases h with
    | tup n e r => exact .tup (hS _ n (by rw [e]; simp)) (hk _ _ n e nt_tup) (OwL.map hS hk xs _ _ r w)
  | .dk xs, _, _, h, w => by
    cases h with
    | dk e r n => exact .dk (w _ (by simp) _ e nt_dK) (OwK.map hS hk xs _ _ r fun a m => w a (List.mem_cons_of_mem _ m)) n
theorem OwL.map (hS : ∀ a, ¬ S a → H a ≠ none → ¬ S' a) (hk : ∀ a o, ¬ S a → H a = some o → NT o → H' a = some o) : ∀ (ts : List Ot) (vs : List V) (as : List Addr), OwL S H vs ts as → (∀ a ∈ as, ∀ o, H a = some o → NT o → H' a = some o) → OwL S' H' vs ts as
  | [], _, _, h, _ => by cases h; exact .nil
  | x :: xs, _, _, h, w => by
    cases h with
    | cons h1 h2 n => exact .cons (Ow.map hS hk x _ _ h1 fun a m => w a (List.mem_append_left _ m)) (OwL.map hS hk xs _ _ h2 fun a m => w a (List.mem_append_right _ m)) n
theorem OwK.map (hS : ∀ a, ¬ S a → H a ≠ none → ¬ S' a) (hk : ∀ a o, ¬ S a → H a = some o → NT o → H' a = some o) : ∀ (ts : List (Key × Ot)) (vs : List (Key × V)) (as : List Addr), OwK S H vs ts as → (∀ a ∈ as, ∀ o, H a = some o → NT o → H' a = some o) → OwK S' H' vs ts as
  | [], _, _, h, _ => by cases h; exact .nil
  | (k, x) :: xs, _, _, h, w => by
    cases h with
    | cons h1 h2 n => exact .cons (Ow.map hS hk x _ _ h1 fun a m => w a (List.mem_append_left _ m)) (OwK.map hS hk xs _ _ h2 fun a m => w a (List.mem_append_right _ m)) n
end
/-! own trees as data -/
mutual
theorem Ow.dv (hS : ∀ a, ¬ S a → ¬ S' a) : ∀ (t : Ot) (v : V) (as : List Addr), Ow S H v t as → (∀ a ∈ as, ¬ S' a) → Dv S' H v t.d
  | .dat d, _, _, h, _ => by cases h with | dat h => exact h.map (fun a n _ => hS a n) fun _ _ _ e _ => e
  | .lst xs, _, _, h, w => by
    cases h with
    | lst e r n => exact .lst (w _ (by simp)) e (OwL.dv hS xs _ _ r fun a m => w a (List.mem_cons_of_mem _ m))
  | .tup xs, _, _, h, w => by
    cases h with
    | tup n e r => exact .tup (hS _ n) e (OwL.dv hS xs _ _ r w)
  | .dk xs, _, _, h, w => by
    cases h with
    | dk e r n => exact .dct (w _ (by simp)) e (OwK.dv hS xs _ _ r fun a m => w a (List.mem_cons_of_mem _ m))
theorem OwL.dv (hS : ∀ a, ¬ S a → ¬ S' a) : ∀ (ts : List Ot) (vs : List V) (as : List Addr), OwL S H vs ts as → (∀ a ∈ as, ¬ S' a) → DvL S' H vs (Ot.ds ts)
  | [], _, _, h, _ => by cases h; exact .nil
  | x :: xs, _, _, h, w => by
    cases h with
    | cons h1 h2 n => exact .cons (Ow.dv hS x _ _ h1 fun a m => w a (List.mem_append_left _ m)) (OwL.dv hS xs _ _ h2 fun a m => w a (List.mem_append_right _ m))
theorem OwK.dv (hS : ∀ a, ¬ S a → ¬ S' a) : ∀ (ts : List (Key × Ot)) (vs : List (Key × V)) (as : List Addr), OwK S H vs ts as → (∀ a ∈ as, ¬ S' a) → DvK S' H vs (Ot.dks ts)
  | [], _, _, h, _ => by cases h; exact .nil
  | (k, x) :: xs, _, _, h, w => by
    cases h with
    | cons h1 h2 n => exact .cons (Ow.dv hS x _ _ h1 fun a m => w a (List.mem_append_left _ m)) (OwK.dv hS xs _ _ h2 fun a m => w a (List.mem_append_right _ m))
end
theorem OwL.length {vs : List V} {ts : List Ot} {as : List Addr} (h : OwL S H vs ts as) : vs.length = ts.length := by
  induction ts generalizing vs as with
  | nil => cases h; rfl
  | cons t ts ih => cases h with | cons h1 h2 n => simp only [List.length_cons, ih h2]
theorem OwL.append {vs ws : List V} {ts us : List Ot} {as bs : List Addr} (h : OwL S H vs ts as) (k : OwL S H ws us bs) (n : ∀ a ∈ as, a ∉ bs) : OwL S H (vs ++ ws) (ts ++ us) (as ++ bs) := by
  induction ts generalizing vs as with
  | nil => cases h; exact k
  | cons t ts ih =>
    cases h with
    | @cons _ _ _ _ cs ds h1 h2 m =>
      rw [List.append_assoc]
      refine .cons h1 (ih h2 fun a q => n a (List.mem_append_right _ q)) fun a q z => ?_
      rcases List.mem_append.mp z with z | z
      · exact m a q z
      · exact n a (List.mem_append_left _ q) z
theorem OwL.dats {vs : List V} {ds : List PyData} (h : DvL S H vs ds) : OwL S H vs (ds.map .dat) [] := by
  induction ds generalizing vs with
  | nil => cases h; exact .nil
  | cons d ds ih => cases h with | cons h1 h2 => exact OwL.cons (as := []) (.dat h1) (ih h2) (by simp)
theorem OwL.dats_inv {vs : List V} {ds : List PyData} {as : List Addr} (h : OwL S H vs (ds.map .dat) as) : as = [] ∧ DvL S H vs ds := by
  induction ds generalizing vs as with
  | nil => cases h; exact ⟨rfl, .nil⟩
  | cons d ds ih =>
    cases h with
    | cons h1 h2 n =>
      cases h1 with
      | dat h1 =>
        obtain ⟨e, h3⟩ := ih h2
        subst e
        exact ⟨rfl, .cons h1 h3⟩
/-- the item at a place, taken out -/
theorem OwL.get {vs : List V} {ts : List Ot} {as : List Addr} {i : Nat} {t : Ot} (h : OwL S H vs ts as) (e : ts[i]? = some t) : ∃ v bs, vs[i]? = some v ∧ Ow S H v t bs ∧ (∀ a ∈ bs, a ∈ as) ∧
    ∀ (S' : Addr → Prop) (H' : Hp) (w : V) (u : Ot) (cs : List Addr), (∀ a, ¬ S a → H a ≠ none → ¬ S' a) → (∀ a o, ¬ S a → H a = some o → NT o → H' a = some o) → (∀ a ∈ as, a ∉ bs → ∀ o, H a = some o → NT o → H' a = some o) →
      Ow S' H' w u cs → (∀ a ∈ cs, a ∉ as ∨ a ∈ bs) → ∃ ds, OwL S' H' (vs.set i w) (ts.set i u) ds ∧ (∀ a ∈ ds, a ∈ as ∧ a ∉ bs ∨ a ∈ cs) := by
  induction ts generalizing vs as i with
  | nil => simp at e
  | cons x ts ih =>
    cases h with
    | @cons v vs _ _ as1 as2 h1 h2 n =>
      cases i with
      | zero =>
        simp only [List.getElem?_cons_zero, Option.some.injEq] at e
        subst e
        refine ⟨v, as1, rfl, h1, fun a m => List.mem_append_left _ m, fun S' H' w u cs hS hk hw hu hc => ⟨cs ++ as2, .cons hu (h2.map hS hk _ _ _ fun a m o q t => hw a (List.mem_append_right _ m) (fun z => n a z m) o q t) fun a m z => ?_, fun a m => ?_⟩⟩
        · rcases hc a m with q | q
          · exact q (List.mem_append_right _ z)
          · exact n a q z
        · rcases List.mem_append.mp m with q | q
          · exact .inr q
          · exact .inl ⟨List.mem_append_right _ q, fun z => n a z q⟩
      | succ i =>
        obtain ⟨v', bs, g1, g2, g3, g4⟩ := ih h2 (by simpa using e)
        refine ⟨v', bs, by simpa using g1, g2, fun a m => List.mem_append_right _ (g3 a m), fun S' H' w u cs hS hk hw hu hc => ?_⟩
        obtain ⟨ds, q1, q2⟩ := g4 S' H' w u cs hS hk (fun a m => hw a (List.mem_append_right _ m)) hu fun a m => (hc a m).imp (fun z y => z (List.mem_append_right _ y)) id
        have off : ∀ a ∈ as1, a ∉ bs := fun a m z => n a m (g3 a z)
        refine ⟨as1 ++ ds, .cons (h1.map hS hk _ _ _ fun a m o q t => hw a (List.mem_append_left _ m) (off a m) o q t) q1 fun a m z => ?_, fun a m => ?_⟩
        · rcases q2 a z with ⟨y, _⟩ | y
          · exact n a m y
          · rcases hc a y with y | y
            · exact y (List.mem_append_left _ m)
            · exact off a m y
        · rcases List.mem_append.mp m with q | q
          · exact .inl ⟨List.mem_append_left _ q, off a q⟩
          · exact (q2 a q).imp (fun z => ⟨List.mem_append_right _ z.1, z.2⟩) id
end
/-- flat, and lists of flat lists -/
abbrev oL (ds : List PyData) : Ot := .lst (ds.map .dat)
abbrev oLL (rs : List (List PyData)) : Ot := .lst (rs.map oL)
abbrev oDK (kvs : List (Key × PyData)) : Ot := .dk (kvs.map fun p => (p.1, .dat p.2))
theorem ds_dats (ds : List PyData) : Ot.ds (ds.map .dat) = ds := by
  induction ds with
  | nil => rfl
  | cons d ds ih => simp only [List.map_cons, Ot.ds, Ot.d, ih]
theorem oL_d (ds : List PyData) : (oL ds).d = .list ds := by simp only [oL, Ot.d, ds_dats]
theorem ds_oLs (rs : List (List PyData)) : Ot.ds (rs.map oL) = rs.map .list := by
  induction rs with
  | nil => rfl
  | cons d ds ih => simp only [List.map_cons, Ot.ds, oL_d, ih]
theorem oLL_d (rs : List (List PyData)) : (oLL rs).d = .list (rs.map .list) := by simp only [oLL, Ot.d, ds_oLs]
theorem dks_dats (ds : List (Key × PyData)) : Ot.dks (ds.map fun p => (p.1, .dat p.2)) = ds.map fun p => (keyD p.1, p.2) := by
  induction ds with
  | nil => rfl
  | cons d ds ih => simp only [List.map_cons, Ot.dks, Ot.d, ih]
theorem oDK_d (ds : List (Key × PyData)) : (oDK ds).d = .dict (ds.map fun p => (keyD p.1, p.2)) := by simp only [oDK, Ot.d, dks_dats]

/-! ### the environment -/
/-- S: addresses that no datum has; Z: those whose objects may be changed; M: what holds of them; Ts: tables of code objects -/
structure Pm where
  S : Addr → Prop
  Z : Addr → Prop
  M : Hp → Prop
  Ts : List Addr
  zs : ∀ a, Z a → S a
  ms : ∀ H H', M H → (∀ a, S a → H' a = H a) → M H'
structure Ok (p : Pm) (H : Hp) : Prop where
  tr : ∀ a, p.S a → ∃ o, H a = some o ∧ NT o
  tb : ∀ P ∈ p.Ts, TabH H P
  mm : p.M H
theorem Ok.kp {p : Pm} {H H' : Hp} (h : Ok p H) (k : Kp H H') : Ok p H' :=
  ⟨fun a s => let ⟨o, e, n⟩ := h.tr a s; ⟨o, k.at_ a o (fun z => z) e n, n⟩, fun P m => k.tab P (h.tb P m),
    p.ms H H' h.mm fun a s => let ⟨o, e, n⟩ := h.tr a s; by rw [e, k.at_ a o (fun z => z) e n]⟩
/-- a slot: a datum; an own tree; any one value; a range object -/
inductive Sl where
  | dat (d : PyData)
  | own (t : Ot)
  | raw (v : V)
  | rng (lo hi : Int)
abbrev Rho := List (Option Sl)
abbrev SO (p : Pm) (O : Addr → Prop) : Addr → Prop := fun a => p.S a ∨ O a
def Has (p : Pm) (O : Addr → Prop) (σ : L2.St) (H : Hp) (i : Nat) (as : List Addr) : Sl → Prop
  | .dat d => ∃ v, σ[i]? = some (some v) ∧ Dv (SO p O) H v d
  | .own t => ∃ v, σ[i]? = some (some v) ∧ Ow (SO p O) H v t as ∧ ∀ a ∈ as, O a
  | .raw v => σ[i]? = some (some v)
  | .rng lo hi => ∃ a, σ[i]? = some (some (.ref a)) ∧ ¬ SO p O a ∧ H a = some (.rng lo hi)
/-- a base: a heap, and the objects of this def's own that stood in it -/
structure Bs where
  h : Hp
  o : Addr → Prop
abbrev ZO (p : Pm) (O : Addr → Prop) : Addr → Prop := fun a => p.Z a ∨ O a
structure En (p : Pm) (H0 : Bs) (O : Addr → Prop) (σ : L2.St) (H : Hp) (ρ : Rho) : Prop where
  fr : Kq (ZO p H0.o) H0.h H
  ok : Ok p H
  ow : ∀ a, O a → (H0.o a ∨ H0.h a = none) ∧ ¬ p.S a ∧ ∃ o, H a = some o ∧ NT o
  sl : ∃ ad : Nat → List Addr, (∀ (i : Nat) (s : Sl), ρ[i]? = some (some s) → Has p O σ H i (ad i) s) ∧ (∀ (i j : Nat) (t u : Ot) (a : Addr), i ≠ j → ρ[i]? = some (some (.own t)) → ρ[j]? = some (some (.own u)) → a ∈ ad i → a ∉ ad j)
  ln : σ.length = ρ.length
section
variable {p : Pm} {H0 : Bs} {H H' : Hp} {O O' : Addr → Prop} {σ : L2.St} {ρ ρ' : Rho}
theorem so_trk (e : En p H0 O σ H ρ) : ∀ a, SO p O a → ∃ o, H a = some o ∧ NT o := fun a s => by
  rcases s with s | s
  · exact e.ok.tr a s
  · exact (e.ow a s).2.2
theorem so_z : ∀ a, p.Z a → SO p O a := fun a z => .inl (p.zs a z)
theorem so_zo : ∀ a, ZO p O a → SO p O a := fun a z => z.elim (fun z => .inl (p.zs a z)) .inr
theorem fresh_so (e : En p H0 O σ H ρ) {a : Addr} (h : H a = none) : ¬ SO p O a := fun z => by
  obtain ⟨o, ho, _⟩ := so_trk e a z
  rw [h] at ho; cases ho
theorem nt_rng {lo hi : Int} : NT (.rng lo hi) := fun _ q => by cases q
/-- a slot under another heap -/
theorem Has.to {i : Nat} {as : List Addr} {s : Sl} (h : Has p O σ H i as s) (hS : ∀ a, ¬ SO p O a → H a ≠ none → ¬ SO p O' a) (hO : ∀ a, O a → O' a) (hk : ∀ a o, ¬ SO p O a → H a = some o → NT o → H' a = some o) (hw : ∀ a, O a → a ∈ as → ∀ o, H a = some o → NT o → H' a = some o) : Has p O' σ H' i as s := by
  cases s with
  | dat d => obtain ⟨v, h1, h2⟩ := h; exact ⟨v, h1, h2.map hS hk⟩
  | own t =>
    obtain ⟨v, h1, h2, h3⟩ := h
    exact ⟨v, h1, h2.map hS hk _ _ _ fun a m => hw a (h3 a m) m, fun a m => hO a (h3 a m)⟩
  | raw v => exact h
  | rng lo hi =>
    obtain ⟨a, h1, h2, h3⟩ := h
    exact ⟨a, h1, hS a h2 (by rw [h3]; simp), hk a _ h2 h3 nt_rng⟩
theorem Has.slot {i : Nat} {as : List Addr} {s : Sl} {τ : L2.St} (h : Has p O σ H i as s) (e : τ[i]? = σ[i]?) : Has p O τ H i as s := by
  cases s with
  | dat d => obtain ⟨v, h1, h2⟩ := h; exact ⟨v, by rw [e]; exact h1, h2⟩
  | own t => obtain ⟨v, h1, h2⟩ := h; exact ⟨v, by rw [e]; exact h1, h2⟩
  | raw v => exact e.trans h
  | rng lo hi => obtain ⟨a, h1, h2⟩ := h; exact ⟨a, by rw [e]; exact h1, h2⟩
theorem En.kq (e : En p H0 O σ H ρ) (k : Kq p.Z H H') (o : Ok p H') : En p H0 O σ H' ρ :=
  ⟨e.fr.trans (k.mono fun _ z => .inl z), o, fun a z => let ⟨n, ns, x, h, t⟩ := e.ow a z; ⟨n, ns, x, k.at_ a _ (fun q => ns (p.zs a q)) h t, t⟩,
    let ⟨ad, g1, g2⟩ := e.sl
    ⟨ad, fun i s h => (g1 i s h).to (fun _ n _ => n) (fun _ z => z) (fun a o n q t => k.at_ a o (fun z => n (so_z a z)) q t) (fun a z _ o q t => k.at_ a o (fun z' => (e.ow a z).2.1 (p.zs a z')) q t), g2⟩, e.ln⟩
theorem En.kp (e : En p H0 O σ H ρ) (k : Kp H H') : En p H0 O σ H' ρ := e.kq k.up (e.ok.kp k)
/-- less is known -/
inductive Le : Rho → Rho → Prop
  | nil : Le [] []
  | same {x : Option Sl} {r r' : Rho} : Le r r' → Le (x :: r) (x :: r')
  | drop {x : Option Sl} {r r' : Rho} : Le r r' → Le (none :: r) (x :: r')
theorem Le.len {r r' : Rho} (h : Le r r') : r.length = r'.length := by
  induction h with
  | nil => rfl
  | same _ ih => simp [ih]
  | drop _ ih => simp [ih]
theorem Le.get {r r' : Rho} (h : Le r r') : ∀ {i : Nat} {s : Sl}, r[i]? = some (some s) → r'[i]? = some (some s) := by
  induction h with
  | nil => intro i s h; exact h
  | same _ ih =>
    intro i s h
    cases i with
    | zero => exact h
    | succ i => simpa using ih (by simpa using h)
  | drop _ ih =>
    intro i s h
    cases i with
    | zero => simp at h
    | succ i => simpa using ih (by simpa using h)
theorem En.le (e : En p H0 O σ H ρ') (h : Le ρ ρ') : En p H0 O σ H ρ :=
  ⟨e.fr, e.ok, e.ow, let ⟨ad, g1, g2⟩ := e.sl; ⟨ad, fun i s q => g1 i s (h.get q), fun i j t u a n q1 q2 => g2 i j t u a n (h.get q1) (h.get q2)⟩, by rw [e.ln, h.len]⟩
theorem Le.refl : ∀ r : Rho, Le r r
  | [] => .nil
  | _ :: r => .same (Le.refl r)
/-- slots stored under no own tree: the datum d at i -/
theorem En.set (e : En p H0 O σ H ρ) {i : Nat} {v : V} {d : PyData} (h : Dv (SO p O) H v d) : En p H0 O (σ.set i (some v)) H (ρ.set i (some (.dat d))) := by
  obtain ⟨ad, g1, g2⟩ := e.sl
  have hne : ∀ {m : Nat} {t : Ot}, (ρ.set i (some (.dat d)))[m]? = some (some (.own t)) → i ≠ m ∧ ρ[m]? = some (some (.own t)) := fun {m t} hm => by
    by_cases z : i = m
    · subst z
      have hi : i < ρ.length := by
        have := (List.getElem?_eq_some_iff.mp hm).1
        rwa [List.length_set] at this
      rw [List.getElem?_set_self hi] at hm
      cases hm
    · rw [List.getElem?_set_ne z] at hm
      exact ⟨z, hm⟩
  refine ⟨e.fr, e.ok, e.ow, ⟨ad, fun j s hj => ?_, fun j l t u a n q1 q2 => g2 j l t u a n (hne q1).2 (hne q2).2⟩, by rw [List.length_set, List.length_set, e.ln]⟩
  by_cases z : i = j
  · subst z
    have hi : i < ρ.length := by
      have := (List.getElem?_eq_some_iff.mp hj).1
      rwa [List.length_set] at this
    rw [List.getElem?_set_self hi] at hj
    cases hj
    exact ⟨v, List.getElem?_set_self (by rw [e.ln]; exact hi), h⟩
  · rw [List.getElem?_set_ne z] at hj
    exact (g1 j s hj).slot (List.getElem?_set_ne z)
/-- a new own tree at i, its objects not held by any other slot -/
theorem En.setO (e : En p H0 O σ H ρ) {i : Nat} {v : V} {t : Ot} {as : List Addr} (h : Ow (SO p O) H v t as) (hO : ∀ a ∈ as, O a) (hn : ∀ ad : Nat → List Addr, (∀ (j : Nat) (s : Sl), ρ[j]? = some (some s) → Has p O σ H j (ad j) s) → ∀ (j : Nat) (u : Ot), ρ[j]? = some (some (.own u)) → i ≠ j → ∀ a ∈ as, a ∉ ad j) : En p H0 O (σ.set i (some v)) H (ρ.set i (some (.own t))) := by
  obtain ⟨ad, g1, g2⟩ := e.sl
  refine ⟨e.fr, e.ok, e.ow, ⟨fun j => if i = j then as else ad j, fun j s hj => ?_, fun j l t1 u a n q1 q2 m => ?_⟩, by rw [List.length_set, List.length_set, e.ln]⟩
  · by_cases z : i = j
    · subst z
      have hi : i < ρ.length := by
        have := (List.getElem?_eq_some_iff.mp hj).1
        rwa [List.length_set] at this
      rw [List.getElem?_set_self hi] at hj
      cases hj
      dsimp only
      rw [if_pos rfl]
      exact ⟨v, List.getElem?_set_self (by rw [e.ln]; exact hi), h, hO⟩
    · rw [List.getElem?_set_ne z] at hj
      dsimp only
      rw [if_neg z]
      exact (g1 j s hj).slot (List.getElem?_set_ne z)
  · dsimp only at m ⊢
    by_cases z : i = j
    · subst z
      rw [if_pos rfl] at m
      rw [if_neg n]
      rw [List.getElem?_set_ne n] at q2
      exact hn ad g1 l u q2 n a m
    · rw [if_neg z] at m
      rw [List.getElem?_set_ne z] at q1
      by_cases y : i = l
      · subst y
        rw [if_pos rfl]
        exact fun w => hn ad g1 j t1 q1 z a w m
      · rw [if_neg y]
        rw [List.getElem?_set_ne y] at q2
        exact g2 j l t1 u a n q1 q2 m
end

/-! ### what comes out -/
def Ex (p : Pm) (te : TE) (ρ : Rho) (P : PyData → Prop) : Prop := ∀ H0 O σ H, En p H0 O σ H ρ → ∀ Q : VK, (∀ v H2 d, Kq p.Z H H2 → Ok p H2 → Dv (SO p O) H2 v d → P d → Q v H2) → te σ H Q
def Ea (p : Pm) (ta : TA) (ρ : Rho) (P : List PyData → Prop) : Prop := ∀ H0 O σ H, En p H0 O σ H ρ → ∀ Q : List V → Hp → Prop, (∀ vs H2 ds, Kq p.Z H H2 → Ok p H2 → DvL (SO p O) H2 vs ds → P ds → Q vs H2) → ta σ H Q
def Et (p : Pm) (tt : TT) (ρ : Rho) (P : Bool → Prop) : Prop := ∀ H0 O σ H, En p H0 O σ H ρ → ∀ Q : Bool → Hp → Prop, (∀ b H2, Kq p.Z H H2 → Ok p H2 → P b → Q b H2) → tt σ H Q
/-- an expression gives a new own tree -/
def Eo (p : Pm) (te : TE) (ρ : Rho) (P : Ot → Prop) : Prop := ∀ H0 O σ H, En p H0 O σ H ρ → ∀ Q : VK, (∀ v H2 t as, Kq p.Z H H2 → Ok p H2 → Ow (fun a => SO p O a ∨ a ∈ as) H2 v t as → (∀ a ∈ as, H a = none) → P t → Q v H2) → te σ H Q
/-- a value that is no datum -/
def Er (p : Pm) (te : TE) (ρ : Rho) (v : V) : Prop := ∀ H0 O σ H, En p H0 O σ H ρ → ∀ Q : VK, (∀ H2, Kq p.Z H H2 → Ok p H2 → Q v H2) → te σ H Q
structure Po where
  N : Rho → Prop
  R : PyData → Prop
  B : Rho → Prop := fun _ => False
  C : Rho → Prop := fun _ => False
def Rn (p : Pm) (ts : TS) (ρ : Rho) (w : Po) : Prop := ∀ H0 O σ H D, En p H0 O σ H ρ → (∀ O' σ' H' ρ', En p H0 O' σ' H' ρ' → w.N ρ' → D.nx σ' H') →
  (∀ v d H', Kq (ZO p H0.o) H0.h H' → Ok p H' → Dv p.S H' v d → w.R d → D.rt v H') → (∀ O' σ' H' ρ', En p H0 O' σ' H' ρ' → w.B ρ' → D.bk σ' H') → (∀ O' σ' H' ρ', En p H0 O' σ' H' ρ' → w.C ρ' → D.ct σ' H') → ts D σ H
/-! in terms of what is wanted -/
abbrev W (α : Type) := (α → Prop) → Prop
def EM (p : Pm) (te : TE) (ρ : Rho) (m : W PyData) : Prop := ∀ P, m P → Ex p te ρ P
def EA (p : Pm) (ta : TA) (ρ : Rho) (m : W (List PyData)) : Prop := ∀ P, m P → Ea p ta ρ P
def ET (p : Pm) (tt : TT) (ρ : Rho) (m : W Bool) : Prop := ∀ P, m P → Et p tt ρ P
def EO (p : Pm) (te : TE) (ρ : Rho) (m : W Ot) : Prop := ∀ P, m P → Eo p te ρ P
end Kz
set_option Elab.async false
set_option linter.all false
set_option maxRecDepth 100000
set_option maxHeartbeats 4000000
/-! Kz: defs that show values (repr), and the end of a law that calls them; keywords alone -/
namespace Kz
open PySem PySem.Spec PyProof.Rows L2

/-! ### repr -/
mutual
theorem Dv.dp {K : PySem.W.Frag} {S : Addr → Prop} {H : Hp} : ∀ (d : PyData) (v : V), d.hasDict = false → Dv S H v d → Dp K H v d
  | .none, _, _, h => by cases h; exact .non
  | .bool _, _, _, h => by cases h; exact .bl _
  | .int _, _, _, h => by cases h; exact .int _
  | .str _, _, _, h => by cases h; exact .str _
  | .list ds, _, n, h => by
    cases h with
    | lst _ e r => exact .lst (.inl (.inl e)) (DvL.dp ds _ (by simpa only [PyData.hasDict] using n) r)
  | .tuple ds, _, n, h => by
    cases h with
    | tup _ e r => exact .tup (.inl (.inl e)) (DvL.dp ds _ (by simpa only [PyData.hasDict] using n) r)
  | .dict _, _, n, _ => by simp only [PyData.hasDict] at n; cases n
theorem DvL.dp {K : PySem.W.Frag} {S : Addr → Prop} {H : Hp} : ∀ (ds : List PyData) (vs : List V), PyData.hasDictAll ds = false → DvL S H vs ds → DpAll K H vs ds
  | [], _, _, h => by cases h; exact .nil
  | d :: ds, _, n, h => by
    cases h with
    | cons h1 h2 =>
      have n' : d.hasDict = false ∧ PyData.hasDictAll ds = false := by simpa only [PyData.hasDictAll, Bool.or_eq_false_iff] using n
      exact .cons (Dv.dp d _ n'.1 h1) (DvL.dp ds _ n'.2 h2)
end
/-- a datum that may be shown -/
structure Shw (d : PyData) : Prop where
  nd : d.hasDict = false
  sh : d.showable = true
  dp : d.depth ≤ 20
  sz : d.shown.length ≤ sizeLine
def rRepr (K : PySem.W.Frag) : List V → Hp → VK → Prop := fun vs H Q => ∃ v d, vs = [v] ∧ Dp K H v d ∧ Shw d ∧ Q (.str d.shown) H
theorem call_repr {X : Cx} (hG : X.A.guards = some []) (hu : X.A.units + 64 < cLine) : CallR X (.builtin "repr") (rRepr X.K) := by
  intro pins s σ H vs us Q I r h
  obtain ⟨v, d, rfl, hd, sh, q⟩ := h
  obtain ⟨u, rfl, ru⟩ : ∃ u, us = [u] ∧ RelV v u := by
    cases r with
    | cons a b => cases b; exact ⟨_, rfl, a⟩
  obtain ⟨as, hr⟩ := Dp.reads I d v u hd ru
  have fin : ∀ tk, EP X pins σ Q (.str d.shown tk) { s with toks := s.toks + 1 } := fun tk => ⟨.str d.shown, H, I.tok _, ⟨tk, rfl⟩, q⟩
  have ref : ∀ a, u = Value.ref a → wpAny (model X.prog X.w) X.A (call (.builtin "repr") [u]) (EP X pins σ Q) X.xe s := fun a e => by
    subst e
    exact repr_of_reads' hr sh.sh (fun z => by rw [sh.nd] at z; cases z) hG (by have := sh.dp; omega) (fun _ _ e => e) (fun h' t tk k => ⟨.str d.shown, H, I.kept k, ⟨t, rfl⟩, q⟩) sh.sz
  cases hd with
  | non => cases ru; exact PySem.P.repr_of_none (fin _)
  | bl b => cases ru; exact PySem.P.repr_of_bool (fin _)
  | int i =>
    obtain ⟨t, rfl⟩ := ru
    exact PySem.P.repr_of_int (by have := sh.sh; simpa only [PyData.showable, decide_eq_true_eq] using this) (fin _)
  | str x =>
    obtain ⟨t, rfl⟩ := ru
    exact PySem.P.repr_of_str (fin _) sh.sz
  | lst _ _ => exact ref _ ru
  | tup _ _ => exact ref _ ru
/-! ### defs with a clear stack of shown values -/
structure FnG (P : Program) (w : World) (K : PySem.W.Frag) (mg : Str → Option Value) (base : Heap) (k : Nat) (f : Addr) (fd : FuncData) (ps : List Str) (sp : Sp) : Prop where
  len : ∀ vs H Q E, sp vs H Q E → vs.length = ps.length
  run : ∀ (A : Around) (outer : List PySem.Env) (s : Shared) (H : Hp) (args : Args) (us : List Value) (vs : List V) (Q : VK), Room k A → A.guards = some [] → Env0 P w K mg base A outer s H →
    BindsTo s fd args (ps.zip us) → Vals vs us → sp vs H Q E0 → codeAny (model P w) A (.call (.ref f) args) (CR CX0 outer P w H s Q E0) s
theorem FnOk.g {P : Program} {w : World} {K : PySem.W.Frag} {mg : Str → Option Value} {base : Heap} {k : Nat} {f : Addr} {fd : FuncData} {ps : List Str} {sp : Sp} (F : FnOk P w K mg base CX0 k f fd ps sp) : FnG P w K mg base k f fd ps sp :=
  ⟨F.len, fun A outer s H args us vs Q hr _ e b r h => F.run A outer s H args us vs Q E0 hr e b r h⟩
theorem fng_of {P : Program} {w : World} {K : PySem.W.Frag} {mg : Str → Option Value} {base : Heap} {x qual : Str} {st : Stmt} {f : Addr} {fd : FuncData} {N ps : List Str} {k : Nat} {sp : Sp} (F : Fun K x qual st f fd) (Sc : FnScope N ps (defScope st)) (len : ∀ vs H Q E, sp vs H Q E → vs.length = ps.length)
    (hbody : ∀ (cdv : Value) (A : Around) (outer : List PySem.Env) (s : Shared) (H : Hp) (vs : List V) (Q : VK), Room k (A.deeper (envOfC qual (defScope st) s.heap.objs.size f cdv)) →
      (A.deeper (envOfC qual (defScope st) s.heap.objs.size f cdv)).guards = some [] → sp vs H Q E0 →
      ∃ t, PSs (cxOf CX0 P w K mg base N qual (defScope st) f cdv A outer s H E0).nox (defBody st) t ∧ t { nx := fun _ H' => Q .non H', rt := Q } (L2.start N vs) H) : FnG P w K mg base (k + 1) f fd ps sp := by
  obtain ⟨oc, od, kV, doc, pm, an, cdv, ct, osl, rfl, lk, hcd⟩ := F.ex
  refine ⟨len, fun A outer s H args us vs Q hr hG e0 hb r hsp => ?_⟩
  have hl := len _ _ _ _ hsp
  have KX : K.In s.heap := e0.mod.kin.keeps fun b o e => (e0.bs b o e).1
  have lim : s.heap.NoLimit := e0.mod.nolimit.keeps fun b o e => (e0.bs b o e).1
  have kinds : ∀ y ∈ ps.zip us, (defScope st).names.lookup y.1 = some .local ∨ ((defScope st).names.lookup y.1 = some .cell ∧ ((cellsFrom (s.heap.objs.size + 1) (defScope st).names []).lookup y.1).isSome = true) := by
    rintro ⟨n, v⟩ hy
    rcases Sc.par n (List.of_mem_zip hy).1 with q | q
    · exact .inl q
    · exact .inr ⟨q, PySem.W.cellsFrom_some _ _ _ (.inl q)⟩
  refine codeAny_call_function hr.depth (KX _ _ lk) rfl Sc.co Sc.gen rfl (PySem.W.codeRec_of KX hcd) (hb _ _ _ _ ?_)
  refine wpAny_newFunctionEnv_cells Sc.kind kinds fun env he s1 x => ?_
  subst he
  refine ⟨lim.keeps x.toInCall.keep, codeAny_func ?_⟩
  obtain ⟨t, ht, hq⟩ := hbody cdv A outer s H vs Q (hr.deeper _) hG hsp
  have I : Inv (cxOf CX0 P w K mg base N qual (defScope st) f cdv A outer s H E0) [] (L2.start N vs) H s1 := inv_start Sc hr.hd e0 hl r x
  refine wpAny_mono (ht.nox.run [] s1 (L2.start N vs) H _ I hq) (fun fl s' hs => ?_) fun e s' hs => hs
  cases fl with
  | ret u =>
    obtain ⟨v, σ', H', J, rv, q⟩ := hs
    exact ⟨v, H', J.os, J.bare, J.base, J.hok, rv, q⟩
  | next =>
    obtain ⟨σ', H', J, q⟩ := hs
    exact ⟨V.non, H', J.os, J.bare, J.base, J.hok, rfl, q⟩
  | brk => exact hs.elim fun _ z => z.elim fun _ z => z.2.elim
  | cont => exact hs.elim fun _ z => z.elim fun _ z => z.2.elim
section
variable {X : Cx} {k : Nat} {f : Addr} {fd : FuncData} {ps ks : List Str} {sp : Sp} {x : Str} {p pos : Pos} {e : Expr} {es : List Expr} {kws : List Keyword} {t tk : TA} {g : List Value → List Value → List Value} {gV : List V → List V → List V}
theorem run_fnG {pins : List (Addr × Obj)} {σ : L2.St} {H : Hp} {s : Shared} {Q : VK} {us : List Value} {vs : List V} (F : FnG X.prog X.w X.K X.mg X.base k f fd ps sp) (hr : Room k X.A) (hG : X.A.guards = some []) (hb : Binds X.K fd ps [])
    (I : Inv X pins σ H s) (r : Vals vs us) (h : sp vs H Q E0) : wpAny (model X.prog X.w) X.A (call (.ref f) us) (EP X pins σ Q) X.xe s := by
  have hl : (us ++ []).length = ps.length := by rw [List.append_nil, ← r.length]; exact F.len _ _ _ _ h
  have hb' := hb s us I.kIn hl
  rw [List.append_nil] at hb'
  refine wpAny_call (codeAny_mono (F.run X.A X.stack s H ⟨us, []⟩ us vs Q hr hG I.env0 hb' r h) fun r s' hq => ?_)
  cases r with
  | error e => exact False.elim hq
  | ok fl =>
    cases fl with
    | ret u => exact I.after hq
    | next => exact False.elim hq
    | brk => exact False.elim hq
    | cont => exact False.elim hq
theorem pe_callG (F : FnG X.prog X.w X.K X.mg X.base k f fd ps sp) (hr : Room k X.A) (hG : X.A.guards = some []) (hg : Gl X x) (hm : X.mg x = some (.ref f)) (hk : PySem.W.keepIn X.K (.ref f) = true) (hb : Binds X.K fd ps [])
    (ha : PA X (e :: es) t) (hdb : (x == ("__debug__" : Str)) = false := by decide) (he : starEach (e :: es) X.env = (false, eval e X.env) :: starEach es X.env := by rfl) (hpl : (backTo pos (starEach es X.env)).any (·.1) = false := by rfl) :
    PE X (.Call (.Name x p) (e :: es) [] pos) (tCall sp [] E0 t) := by
  refine ⟨fun pins s σ H Q I h => ?_⟩
  refine wpAny_Call_Name_kw (ld_glob I hg hm ?_ hdb)
  refine PySem.W.callWith_K (h₀ := X.base) I.ok.mod.kin hk (thn (ha.run pos pins s σ H _ I h) fun us s1 ⟨vs, H1, I1, r, q⟩ => ⟨I1.kIn, ?_⟩) he hpl
  have q' : sp (vs ++ []) H1 Q E0 := q
  rw [List.append_nil] at q'
  exact run_fnG F hr hG hb I1 r q'
/-- f(k = v, ..): keywords alone -/
theorem pe_callK0 {CX : CXT} {E : XK} (F : FnOk X.prog X.w X.K X.mg X.base CX k f fd ps sp) (hr : Room k X.A) (hg : Gl X x) (hm : X.mg x = some (.ref f)) (hk : PySem.W.keepIn X.K (.ref f) = true) (hb : KBinds X.K fd ps ks g gV) (hx : Passes CX X E)
    (hkw : PK X kws tk) (hall : (backToKw pos (keywordEach kws X.env)).all (·.1.isSome) = true := by rfl) (hks : (backToKw pos (keywordEach kws X.env)).filterMap (·.1) = ks := by rfl)
    (hdb : (x == ("__debug__" : Str)) = false := by decide) (hpl : ((backTo pos (starEach [] X.env)).any (·.1) || (backToKw pos (keywordEach kws X.env)).any (·.1.isNone)) = false := by rfl) :
    PE X (.Call (.Name x p) [] kws pos) (tCallK sp gV E tNil tk) := by
  refine ⟨fun pins s σ H Q I h => ?_⟩
  refine wpAny_Call_Name_kw (ld_glob I hg hm ?_ hdb)
  refine PySem.W.callWith_KW0 (h₀ := X.base) I.ok.mod.kin hk hall ?_ hpl
  refine thn (hkw.run pos pins s σ H _ I h) fun ws s2 ⟨zs, H2, I2, rz, q2⟩ => ⟨I2.kIn, ?_⟩
  rw [hks]
  exact run_fnk F hr hb hx I2 .nil rz q2
end

/-! ### the end of a law -/
theorem law_callG {P : Program} {w : World} {K : PySem.W.Frag} {mg mb : Str → Option Value} {k : Nat} {fa a : Addr} {cs : List (Addr × Addr)} {fd : FuncData} {x : Str} {sp : Sp} {s₁ : Shared} {vs : List Value} {ns : List Int}
    (KX : K.In s₁.heap) (hns : s₁.heap.Ns mainGlobals mg) (hb : s₁.heap.Ns builtinsNs mb) (hbb : ∀ x : Str, x ≠ "__name__" → mb x = bootBuiltins x) (hlim : s₁.heap.NoLimit) (hg : s₁.gens = #[])
    (hT : ∀ p ∈ cs, s₁.heap.get? p.2 = some { cls := .none, data := .fields #[] }) (nT : ∀ p ∈ cs, K.lookup p.2 = none) (C : ∀ p ∈ cs, PySem.W.CodeHd s₁.heap p.1 p.2)
    (hbm : ∃ (bm : Addr) (ob : Obj), mg "__builtins__" = some (.ref bm) ∧ bm ≠ builtinsNs ∧ s₁.heap.get? bm = some ob ∧ ob.cls = .type "module" ∧ ob.dict = some builtinsNs ∧ ob.data = .plain)
    (ha : s₁.heap.get? a = some { cls := .type "list", data := .seq vs.toArray }) (hi : IntsAre vs ns) (hl : ns.length ≤ sizeLine) (hr : Room k callerA)
    (F : ∀ base : Heap, K.In base → base.Ns mainGlobals mg → (∀ p ∈ cs, GxR.TabB base mg p.1 p.2) → FnG P w K mg base k fa fd [x] sp) (hbind : ∀ (s : Shared) (u : Value), BindsTo s fd ⟨[u], []⟩ [(x, u)])
    (hsp : ∀ H : Hp, (∀ p ∈ cs, H p.2 = some (.tbl #[])) → SqL K H a (ns.map V.int) → sp [.ref a] H (fun v _ => v = .bl true) E0) :
    codeAny (model P w) callerA (.call (.ref fa) ⟨[.ref a], []⟩) (fun r s' => r = .ok (.ret (.bool true)) ∧ OldK s₁.heap s'.heap ∧ s'.os = s₁.os ∧ AllBare s'.gens) s₁ := by
  have rv := vals_ints hi
  have lenV := hi.length
  have isT : ∀ b : Addr, b ∈ cs.map (·.2) → s₁.heap.get? b = some { cls := .none, data := .fields #[] } := by
    intro b hb
    obtain ⟨p, hp, e⟩ := List.mem_map.mp hb
    rw [← e]
    exact hT p hp
  have memT : ∀ p ∈ cs, p.2 ∈ cs.map (·.2) := fun p hp => List.mem_map_of_mem hp
  have aT : a ∉ cs.map (·.2) := by
    intro z
    have q := isT a z
    rw [ha] at q
    have z' := congrArg Obj.data (Option.some.inj q)
    cases z'
  have core : ∀ H : Hp, (∀ p ∈ cs, H p.2 = some (.tbl #[])) → (∀ b, H b = none ∨ b ∈ cs.map (·.2) ∨ ∃ o xs, H b = some (.frz o (.lst xs))) → SqL K H a (ns.map V.int) → HOk P w H s₁.heap →
      (∀ b, H b ≠ none → b = a ∨ b ∈ cs.map (·.2)) → (H a ≠ none → K.lookup a = none) →
      codeAny (model P w) callerA (.call (.ref fa) ⟨[.ref a], []⟩) (fun r s' => r = .ok (.ret (.bool true)) ∧ OldK s₁.heap s'.heap ∧ s'.os = s₁.os ∧ AllBare s'.gens) s₁ := by
    intro H hH hO hS hok hA hK
    have out : ∀ {b : Addr} {o : Obj}, s₁.heap.get? b = some o → H b = none → (hidT s₁.heap H).get? b = some o := fun e n => hidT_get e n
    -- an object that is neither the script nor a table is not tracked
    have off : ∀ {b : Addr} {o : Obj}, s₁.heap.get? b = some o → (∀ us n, o.data ≠ .seq us n) → o.data ≠ .fields #[] → H b = none := by
      intro b o e h1 h2
      cases q : H b with
      | none => rfl
      | some u =>
        rcases hA b (by rw [q]; simp) with e' | e'
        · subst e'
          rw [ha] at e
          cases e
          exact absurd rfl (h1 _ _)
        · rw [isT b e'] at e
          cases e
          exact absurd rfl h2
    have nsK : ∀ {b : Addr} {m : Str → Option Value}, s₁.heap.Ns b m → (hidT s₁.heap H).Ns b m := by
      rintro b m ⟨o, es, ep, e, d, r⟩
      refine ⟨o, es, ep, out e (off e (fun us n z => ?_) fun z => ?_), d, r⟩
      · rw [d] at z; cases z
      · rw [d] at z; cases z
    have hKb : K.In (hidT s₁.heap H) := by
      intro b o e
      refine out (KX b o e) ?_
      cases q : H b with
      | none => rfl
      | some u =>
        exfalso
        rcases hA b (by rw [q]; simp) with e' | e'
        · subst e'
          rw [hK (by rw [q]; simp)] at e
          cases e
        · obtain ⟨p, hp, ep⟩ := List.mem_map.mp e'
          rw [← ep, nT p hp] at e
          cases e
    have hM : L2.Mod K mg (hidT s₁.heap H) := ⟨hKb, nsK hns, ⟨mb, nsK hb, hbb⟩, let ⟨mc, h1, h2⟩ := hlim; ⟨mc, nsK h1, h2⟩⟩
    have TB : ∀ p ∈ cs, GxR.TabB (hidT s₁.heap H) mg p.1 p.2 := by
      intro p hp
      have hTp := hT p hp
      refine ⟨?_, ?_, fun z => ?_⟩
      · obtain ⟨o, us, file, tf, flags, tg, inF, text, tt, e1, r1, r2, r3, rest⟩ := C p hp
        refine ⟨o, us, file, tf, flags, tg, inF, text, tt, out e1 (off e1 (fun vs n z => ?_) fun z => ?_), r1, r2, r3, rest⟩
        · rw [r2] at z; cases z
        · rw [r2] at z
          cases z
          simp at r3
      · obtain ⟨bm, ob, b1, b2, b3, b4, b5, b6⟩ := hbm
        refine ⟨bm, ob, b1, b2, fun q => ?_, fun q => ?_, out b3 (off b3 (fun vs n z => ?_) fun z => ?_), b4, b5, b6⟩
        · obtain ⟨o, es, ep, e, hd, _⟩ := hns
          rw [q, e] at b3
          cases b3
          rw [hd] at b6; cases b6
        · rw [q, hTp] at b3
          cases b3
          cases b6
        · rw [b6] at z; cases z
        · rw [b6] at z; cases z
      · obtain ⟨o, es, ep, e, hd, _⟩ := hns
        rw [z, hTp] at e
        cases e
        cases hd
    have e0 : Env0 P w K mg (hidT s₁.heap H) callerA [] s₁ H := ⟨rfl, hM, fun b o e => of_hidT e, Nat.le_of_eq (hidT_size _ _), trivial, fun b hb => absurd (show b ∈ ([] : List Addr) from hb) (by simp), hok, .of_eq hg⟩
    refine codeAny_mono ((F _ hKb (nsK hns) TB).run callerA [] s₁ H ⟨[.ref a], []⟩ [.ref a] [.ref a] _ hr rfl e0 (hbind s₁ (.ref a)) (.cons rfl .nil) (hsp H hH hS)) fun r s' h => ?_
    cases r with
    | error e => exact False.elim h
    | ok fl =>
      cases fl with
      | next => exact False.elim h
      | brk => exact False.elim h
      | cont => exact False.elim h
      | ret u =>
        obtain ⟨v, H', os, bare, un, hok', r', q⟩ := h
        have q' : v = .bl true := q
        subst q'
        obtain rfl : u = Value.bool true := r'
        have key : ∀ b o, b ∉ cs.map (·.2) → s₁.heap.get? b = some o → s'.heap.get? b = some o := by
          intro b o nb e
          rcases hO b with q | z | ⟨ob, xs, z⟩
          · exact un.keep b o e q (by intro z; exact absurd (show b ∈ ([] : List Addr) from z) (by simp)) (by simp)
          · exact absurd z nb
          · obtain ⟨e1, _⟩ := hok b _ z
            obtain ⟨e2, _⟩ := hok' b _ (un.frzs b ob _ z)
            rw [e] at e1; cases e1
            exact e2
        have grown : ∀ p ∈ cs, ∃ more : Array Value, s'.heap.get? p.2 = some { cls := .none, data := .fields more } := by
          intro p hp
          obtain ⟨more, z⟩ := un.tbls p.2 #[] (hH p hp)
          exact ⟨_, hok' p.2 _ z⟩
        refine ⟨rfl, ⟨fun b o e => ?_, fun b o e => ?_⟩, os, bare⟩
        · by_cases hb : b ∈ cs.map (·.2)
          · obtain ⟨p, hp, ep⟩ := List.mem_map.mp hb
            obtain ⟨more, hm⟩ := grown p hp
            rw [← ep] at e ⊢
            rw [hT p hp] at e
            cases e
            exact .inr (.inl ⟨((C p hp).tab (hT p hp)).isCodeTable, rfl, #[], more, rfl, by rw [Array.empty_append]; exact hm⟩)
          · exact .inl (key b o hb e)
        · by_cases hb : b ∈ cs.map (·.2)
          · obtain ⟨p, hp, ep⟩ := List.mem_map.mp hb
            obtain ⟨more, hm⟩ := grown p hp
            rw [← ep]
            exact ⟨_, hm⟩
          · exact ⟨o, key b o hb e⟩
  have hTb : ∀ (H : Hp) (b : Addr), H b = some (.tbl #[]) → b ∈ cs.map (·.2) → ObjOk P w H s₁.heap b (.tbl #[]) := fun H b _ hb => isT b hb
  cases hk : K.lookup a with
  | some o =>
    have e := KX a o hk
    rw [ha] at e
    cases e
    let H : Hp := fun b => if b ∈ cs.map (·.2) then some (.tbl #[]) else none
    have hin : ∀ b, b ∈ cs.map (·.2) → H b = some (.tbl #[]) := fun b h => if_pos h
    have hno : ∀ b, b ∉ cs.map (·.2) → H b = none := fun b h => if_neg h
    refine core H (fun p hp => hin _ (memT p hp)) (fun b => ?_) (.inr ⟨_, vs.toArray, _, hk, rfl, rfl, rfl, by rw [List.size_toArray, lenV]; exact hl, by simpa using rv⟩) (fun b u z => ?_) (fun b z => ?_) fun z => absurd (hno a aT) z
    · by_cases hb : b ∈ cs.map (·.2)
      · exact .inr (.inl hb)
      · exact .inl (hno b hb)
    · by_cases hb : b ∈ cs.map (·.2)
      · rw [hin b hb] at z; cases z
        exact isT b hb
      · rw [hno b hb] at z; cases z
    · by_cases hb : b ∈ cs.map (·.2)
      · exact .inr hb
      · exact absurd (hno b hb) z
  | none =>
    let H : Hp := fun b => if b = a then some (.frz { cls := .type "list", data := .seq vs.toArray } (.lst (ns.map V.int))) else if b ∈ cs.map (·.2) then some (.tbl #[]) else none
    have hat : H a = some (.frz { cls := .type "list", data := .seq vs.toArray } (.lst (ns.map V.int))) := if_pos rfl
    have hin : ∀ b, b ∈ cs.map (·.2) → H b = some (.tbl #[]) := fun b h => (if_neg (show ¬ b = a from fun z => aT (by rw [← z]; exact h))).trans (if_pos h)
    have hno : ∀ b, b ≠ a → b ∉ cs.map (·.2) → H b = none := fun b h1 h2 => (if_neg h1).trans (if_neg h2)
    refine core H (fun p hp => hin _ (memT p hp)) (fun b => ?_) (.inl (.inr ⟨_, hat⟩)) (fun b u z => ?_) (fun b z => ?_) fun _ => hk
    · by_cases hb : b = a
      · exact .inr (.inr ⟨_, _, by rw [hb]; exact hat⟩)
      · by_cases hb2 : b ∈ cs.map (·.2)
        · exact .inr (.inl hb2)
        · exact .inl (hno b hb hb2)
    · by_cases hb : b = a
      · subst hb
        rw [hat] at z; cases z
        exact ⟨ha, by rw [List.length_map]; exact hl, vs, _, rv, ha⟩
      · by_cases hb2 : b ∈ cs.map (·.2)
        · rw [hin b hb2] at z; cases z
          exact isT b hb2
        · rw [hno b hb hb2] at z; cases z
    · by_cases hb : b = a
      · exact .inl hb
      · by_cases hb2 : b ∈ cs.map (·.2)
        · exact .inr hb2
        · exact absurd (hno b hb hb2) z
/-- the goal that the head leaves: tn, the names of the defs that hold generator expressions -/
theorem walk_G {l : PySem.W.OpenLaw} {n k : Nat} {q : Program} {loose : List Str} {XP : (Str → Option Value) → Heap → Prop} {YP : World → Heap → Prop} {d : DefRec} {K : Params → PySem.W.Frag} {x : Str} (tn : List Str)
    (hn : l.most = some n) (hn2 : n ≤ sizeLine) (hdf : d.params.defaults = []) (hr : Room k callerA) (hY : ∀ (w : World) (h : Heap), YP w h → (K w.params).In h)
    (htn : ∀ y ∈ tn, ∃ r, (recsOf q).find? (fun e => e.name == y) = some r)
    (F : ∀ (w : World) (mg : Str → Option Value) (fa : Addr) (h : Heap), (K w.params).In h → h.Ns mainGlobals mg → mg d.name = some (.ref fa) →
      ∃ (fd : FuncData) (cs : List (Addr × Addr)) (sp : Sp), (∀ p ∈ cs, ∃ y ∈ tn, PySem.W.tabIn (K w.params) y = some p) ∧ (∀ p ∈ cs, (K w.params).lookup p.2 = none) ∧ (∀ (s : Shared) (u : Value), BindsTo s fd ⟨[u], []⟩ [(x, u)]) ∧
        (∀ (H : Hp) (a : Addr) (ns : List Int), ns.length ≤ n → (∀ z ∈ ns, Builtin.Int.intBits z ≤ 1048576) → (∀ p ∈ cs, H p.2 = some (.tbl #[])) → SqL (K w.params) H a (ns.map V.int) → sp [.ref a] H (fun v _ => v = .bl true) E0) ∧
        ∀ base : Heap, (K w.params).In base → base.Ns mainGlobals mg → (∀ p ∈ cs, GxR.TabB base mg p.1 p.2) → FnG l.prog w (K w.params) mg base k fa fd [x] sp) :
    PySem.W.WalkO q loose XP YP l.row.toRowW d [] (fun f vs => PySem.call f vs) := by
  refine Att.attach_callB hn hdf fun w s₀ s₁ mg mb fa o pm cd doc a vs ns G Y ho hd hcd hmg hobj hints hlen hbits hg => ?_
  have KX := hY w _ Y
  obtain ⟨fd, cs, sp, ht, nT, hb, hsp, hF⟩ := F w mg fa _ KX G.T.g hmg
  have tabs : ∀ p ∈ cs, PySem.W.CodeHd s₁.heap p.1 p.2 ∧ s₁.heap.get? p.2 = some (PySem.W.tabObj #[]) := fun p hp => by
    obtain ⟨y, hy, e⟩ := ht p hp
    obtain ⟨r, hr⟩ := htn y hy
    exact PySem.W.tab_of (c := p.1) (P := p.2) G.T KX hr e
  exact law_callG KX G.T.g G.T.b G.T.builtins G.T.nolimit hg (fun p hp => (tabs p hp).2) nT (fun p hp => (tabs p hp).1) G.T.bmain hobj hints (Nat.le_trans hlen hn2) hr hF hb (fun H hH hS => hsp H a ns hlen hbits hH hS)
end Kz
set_option Elab.async false
set_option linter.all false
set_option maxRecDepth 100000
set_option maxHeartbeats 4000000
/-! Kz: enumerate of a tuple; range(n) as a value -/
namespace Kz
open PySem PySem.Spec PyProof.Rows L2
open AutoSeq1 (wpAny_loadPart')
variable [GT]

theorem meets_enum1 {v : Value} {o : Obj} {H : Heap → Prop} (B : Begins v o H) : Meets (Builtin.«enumerate.__new__» ⟨[.type "enumerate", v], []⟩) (fun _ R s => H s.heap ∧
      R (.ok (.ret (.ref (s.heap.push o).objs.size))) { s with heap := (s.heap.push o).push { cls := .type "enumerate", data := .fields #[.none, .bool false, .ref s.heap.objs.size, rawInt 0, .none, .none] } }) :=
  .of_wp fun prog w A R s h => by
    obtain ⟨hp, g, d, tk, os⟩ := s
    obtain ⟨h1, h⟩ := h
    have hsub := sub_enumerate
    have q1 : ∀ {A' : Around} {E : Value → Shared → Prop} {Q : Value → Shared → Prop}, Q (.ref hp.objs.size) ⟨hp.push o, g, d, tk, os⟩ → wpAny (model prog w) A' (pyIter v) Q E ⟨hp, g, d, tk, os⟩ :=
      fun q => B.iter prog w _ _ ⟨hp, g, d, tk, os⟩ _ h1 q
    wp_walk using q1
    refine wpAny_stack_any fun st => wpAny_pure ?_
    split
    · rename_i c _ _ _ _ _
      cases (c == Value.type "enumerate")
      · wp_walk using q1
        exact ⟨_, rfl, h⟩
      · wp_walk using q1
        exact ⟨_, rfl, h⟩
    · wp_walk using q1
      exact ⟨_, rfl, h⟩
section
variable {prog : Program} {w : World} {A : Around} {E : Value → Shared → Prop} {s : Shared}
theorem call_enum1 {v : Value} {o : Obj} {H : Heap → Prop} {Q : Value → Shared → Prop} (B : Begins v o H) (h1 : H s.heap) (h : ∀ h', IsEnum h' (s.heap.objs.size + 1) s.heap.objs.size 0 .none → h'.get? s.heap.objs.size = some o → h'.objs.size = s.heap.objs.size + 2 →
      (∀ b o, s.heap.get? b = some o → h'.get? b = some o) → Q (.ref (s.heap.objs.size + 1)) { s with heap := h' }) : wpAny (model prog w) A (call (.type "enumerate") [v]) Q E s := by
  refine callType_new F.called_enumerate (by decide) (F.typeCall_enumerate_1 _) (F.newCall_enumerate_1 _) (fun obj => F.args_object_init_2 obj _) F.entry_enumerate_new (meets_enum1 B) ⟨h1, ?_⟩
  have hz : (s.heap.push o).objs.size = s.heap.objs.size + 1 := Heap.size_push ..
  show _ ∧ _
  rw [hz]
  have he : IsEnum ((s.heap.push o).push { cls := .type "enumerate", data := .fields #[.none, .bool false, .ref s.heap.objs.size, rawInt 0, .none, .none] }) (s.heap.objs.size + 1) s.heap.objs.size 0 .none := by
    have q := Heap.get?_push_size (s.heap.push o) (o := { cls := .type "enumerate", data := .fields #[.none, .bool false, .ref s.heap.objs.size, rawInt 0, .none, .none] }) rfl
    rw [hz] at q
    exact q
  exact ⟨⟨_, he, rfl⟩, h _ he (Heap.get?_push_of_some _ (Heap.get?_push_size _ B.free)) (by rw [Heap.size_push, hz]) fun b o x => Heap.get?_push_of_some _ (Heap.get?_push_of_some _ x)⟩
end
/-- the tuple at a, each item in a new pair with its place -/
def IteT (K : PySem.W.Frag) (a : Addr) : It :=
  ⟨fun i H => ∃ (xs : List V) (x : V), SqT K H a xs ∧ xs[i]? = some x, fun i H v H' => ∃ T x, v = .ref T ∧ H T = none ∧ H' = upd H T (.tup [.int (i : Nat), x]) ∧ ∀ xs, SqT K H a xs → xs[i]? = some x,
   fun i H => ∃ xs : List V, SqT K H a xs ∧ xs.length ≤ i⟩
theorem turn_enumT {P : Program} {w : World} {K : PySem.W.Frag} {elts : List Expr} {kk : Nat} {tpos : Pos} (a e it : Addr) :
    Turn P w K (.Tuple elts kk tpos) (IteT K a) [e, it] e (fun i h => (∃ old, IsEnum h e it ((i : Nat) : Int) old) ∧ h.IsTupleIter it a i ∧ e ≠ it ∧ a ≠ it ∧ e ≠ a) where
  mem := by simp
  obj := by
    rintro i h ⟨⟨old, he⟩, ⟨o, ho, hc, hd⟩, _⟩ b hb
    have e' : b = e ∨ b = it := by simpa using hb
    rcases e' with z | z
    · rw [z]; exact ⟨_, he, fun v q => nomatch q⟩
    · rw [z]; exact ⟨o, ho, fun v q => by rw [hd] at q; cases q⟩
  keep := fun i h h' st k => let ⟨⟨old, he⟩, hi, hne⟩ := st; ⟨⟨old, k e (by simp) _ he⟩, hi.at fun o q => k it (by simp) o q, hne⟩
  item := by
    intro X hP hw hK hc i pins s σ H E I hf st hg
    subst hP hw hK
    obtain ⟨⟨old, he⟩, hit, hne, hai, hea⟩ := st
    obtain ⟨xs, x, hq, hx⟩ := hg
    obtain ⟨its, rv, p, hz⟩ := I.tuple hq
    obtain ⟨u, hu, ru⟩ := rv.get hx
    have hel : e < s.heap.objs.size := Heap.lt_size he
    have hil : it < s.heap.objs.size := by obtain ⟨_, q, _⟩ := hit; exact Heap.lt_size q
    have hlt : i < its.toArray.size := by
      rw [List.size_toArray]
      exact (List.getElem?_eq_some_iff.mp hu).1
    have D := Draws.tuple (prog := X.prog) (w := X.w) (A := X.A.in1) (I.ok.hd hc) it a hai its.toArray
    refine wpAny_pyNext_enum_itemD D he ⟨hit, p⟩ hlt hne (by simp [hne, hea]) fun u' h' tk hu' ho hst hT hsz hk => ?_
    obtain ⟨hit', _⟩ := hst
    have eu : u' = u := by
      rw [List.getElem?_toArray, hu] at hu'
      exact (Option.some.inj hu').symm
    subst eu
    refine ⟨_, rfl, wpAny_letOwnedTupleGo_enum (s := { s with heap := h', toks := tk + 1 }) ho fun h'' he' sb => ?_⟩
    have hT2 : h''.get? s.heap.objs.size = some { cls := .type "tuple", data := .seq #[.int i tk, u'] } := (sb.2 _ (Nat.ne_of_gt hel)).trans hT
    have new : ObjOk X.prog X.w (upd H s.heap.objs.size (.tup [.int (i : Nat), x])) h'' s.heap.objs.size (.tup [.int (i : Nat), x]) :=
      ⟨by show 2 ≤ sizeLine; decide, [.int i tk, u'], .cons ⟨_, rfl⟩ (.cons ru .nil), ⟨_, hT2, rfl, _, rfl⟩⟩
    have I1 : Inv X pins σ (upd H s.heap.objs.size (.tup [.int (i : Nat), x])) { s with heap := h'', toks := tk + 1 } :=
      I.turnedNew (ch := [e, it]) (fun b ob hb q => (sb.2 b (fun z => hb (by simp [z]))).trans (hk b ob (fun z => hb (by simp [z])) (fun z => hb (by simp [z])) q)) hf (Nat.le_refl _) new
    refine ⟨.ref s.heap.objs.size, _, I1, rfl, ⟨_, x, rfl, I.hok.fresh (Nat.le_refl _), rfl, fun ys hy => by rw [I.tuple_inj hy hq]; exact hx⟩, ⟨⟨u', ?_⟩, hit'.at fun o q => (sb.2 it (Ne.symm hne)).trans q, hne, hai, hea⟩, fun b hb => ?_⟩
    · have e1 : ((i + 1 : Nat) : Int) = (i : Int) + 1 := by omega
      rw [e1]; exact he'
    · have hb' : b < s.heap.objs.size := by
        have e' : b = e ∨ b = it := by simpa using hb
        rcases e' with z | z
        · rw [z]; exact hel
        · rw [z]; exact hil
      rw [upd_ne (Nat.ne_of_lt hb')]
      exact (hf b hb).1
  done := by
    intro X hP hw hK hc i pins s σ H E I hf st hg
    subst hP hw hK
    obtain ⟨⟨old, he⟩, hit, hne, hai, hea⟩ := st
    obtain ⟨xs, hq, hx⟩ := hg
    obtain ⟨its, rv, p, hz⟩ := I.tuple hq
    obtain ⟨f0, f1, f2, f3, f4, f5⟩ := hf it (by simp)
    have hl := rv.length
    by_cases hi : i = its.toArray.size
    · have D := Draws.tuple (prog := X.prog) (w := X.w) (A := X.A.in1) (I.ok.hd hc) it a hai its.toArray
      exact wpAny_pyNext_enum_endD D he ⟨hi ▸ hit, p⟩ fun h' eb => ⟨rfl, I.turned (t' := s.toks) (fun b o hb q => eb b o hb q) f0 f1 f3 f4 f5⟩
    · have nx : its.toArray[i]? = none := by
        rw [List.getElem?_toArray]
        exact List.getElem?_eq_none (by rw [← hl]; exact hx)
      have hTy : s.TypeIs (.ref e) "enumerate" := ⟨_, he, rfl⟩
      unfold pyNext
      refine wpAny_bind (wpAny_attempt (wpAny_callSpecial?_slot (name := Str.ofString "__next__") hTy F.slot_enumerate_next (wpAny_call_entry F.slot_enumerate_next hTy F.entry_enumerate_next ?_ (F.args_enumerate_next_1 _))))
      show wpAny _ _ (field (.ref e) 2 >>= _) _ _ _
      refine wpAny_bind (wpAny_field he rfl (x := .ref it) rfl ?_)
      refine wpAny_bind (wpAny_nextOf_tuple_end (I.ok.hd hc) hit p nx fun h' x he' hx' => ?_)
      obtain ⟨o, ho, hcl⟩ := hx'
      refine wpAny_bind (wpAny_isInstance (T := "StopIteration") (b := true) ⟨o, ho, hcl⟩ isSubtype_stop ?_)
      exact wpAny_pure ⟨rfl, I.turned (t' := s.toks) (fun b o hb q => he' b o hb q) f0 f1 f3 f4 f5⟩
  self := fun A i s Q E st h => let ⟨⟨_, he⟩, _⟩ := st; wpAny_pyIter_enum he h
def iEnumT (K : PySem.W.Frag) (ta : TA) : TI := fun σ H R => ta σ H fun vs H1 => ∃ a xs, vs = [.ref a] ∧ SqT K H1 a xs ∧ R (IteT K a) H1
theorem pi_enumT {X : Cx} {e : Expr} {ta : TA} {p pos tpos : Pos} {elts : List Expr} {kk : Nat} (hg : Gl X "enumerate") (hm : X.mg "enumerate" = none) (ha : PA X [e] ta) (hs : starEach [e] X.env = [(false, eval e X.env)] := by rfl) :
    PI X (.Tuple elts kk tpos) (.Call (.Name "enumerate" p) [e] [] pos) (iEnumT X.K ta) := by
  refine ⟨fun pins s σ H R I h => ?_⟩
  refine Call_ (ld_blt I hg hm boot_enumerate (PyProof.Rows.callWith_type1 (thn (ha.run pos pins s σ H _ I h) fun us s1 ⟨vs, H1, I1, r1, q1⟩ => ?_) hs rfl))
  obtain ⟨a, xs, ex, hq, q⟩ := q1
  subst ex
  cases r1 with
  | cons r rr =>
    cases rr
    cases r
    obtain ⟨its, rv, p', hz⟩ := I1.tuple hq
    have hal : a < s1.heap.objs.size := p'.lt
    refine call_enum1 (begins_tuple a its.toArray) p' fun h' he hit hsz hk => wpAny_pyIter_enum he ?_
    have I2 : Inv X pins σ H1 { s1 with heap := h' } := I1.kept (t' := s1.toks) hk
    refine ⟨s1.heap.objs.size + 1, [s1.heap.objs.size + 1, s1.heap.objs.size], _, _, H1, rfl, I2, turn_enumT a (s1.heap.objs.size + 1) s1.heap.objs.size,
      ⟨⟨.none, he⟩, ⟨_, hit, rfl, rfl⟩, Nat.succ_ne_self _, Nat.ne_of_lt hal, Nat.ne_of_gt (Nat.lt_succ_of_lt hal)⟩, fun b hb => ?_, q⟩
    have e' : b = s1.heap.objs.size + 1 ∨ b = s1.heap.objs.size := by simpa using hb
    have hle : s1.heap.objs.size ≤ b := by
      rcases e' with z | z
      · rw [z]; exact Nat.le_add_right _ _
      · rw [z]; exact Nat.le_refl _
    exact I1.fpOk hle (I1.hok.fresh hle)
section
variable {p : Pm} {ρ : Rho} {ta : TE}
end
theorem cr_range1 {X : Cx} : CallR X (.type "range") (fun vs H Q => ∃ i, vs = [V.int i] ∧ ∀ p, H p = none → Q (.ref p) (upd H p (.rng 0 i))) := by
  intro pins s σ H vs us Q I r h
  obtain ⟨i, rfl, q⟩ := h
  obtain ⟨u1, rfl, ri⟩ : ∃ u, us = [u] ∧ RelV (.int i) u := by
    cases r with
    | cons a b => cases b; exact ⟨_, rfl, a⟩
  obtain ⟨t, rfl⟩ := ri
  refine call_range_1 ⟨.ref s.heap.objs.size, upd H s.heap.objs.size (.rng 0 i), I.laid (t' := s.toks + 1 + 1) (fun b o e => Heap.get?_push_of_some _ e) (Nat.le_refl _) ?_, rfl, q _ (I.hok.fresh (Nat.le_refl _))⟩
  exact ⟨s.toks, t, _, Heap.get?_push_size _ rfl⟩
end Kz
set_option Elab.async false
set_option linter.all false
set_option maxRecDepth 100000
set_option maxHeartbeats 4000000
/-! Kz: short words for the constructs of a text -/
namespace Kz
open PySem PySem.Spec PyProof.Rows L2
section
open PySem.Calls
section
variable {prog : Program} {w : World} {A : Around} {E : Value → Shared → Prop} {s : Shared}
theorem call_abs_bool {a : Bool} {Q : Value → Shared → Prop} (h : ∀ u tk, Q (.int (if a then 1 else 0) u) { s with toks := tk }) : wpAny (model prog w) A (call (.builtin "abs") [.bool a]) Q E s := by
  refine call_function_entry kind_abs plain_abs entry_abs (args_abs _) ?_
  unfold Builtin.«abs»
  refine wpAny_bind (m := oneArg "abs" _) (wpAny_pure ?_)
  refine wpAny_bind (m := callSpecial? (.bool a) (Str.ofString "__abs__")) (wpAny_callSpecial?_slot (name := Str.ofString "__abs__") (PySem.typeIs_bool s a) PySem.F.slot_bool_abs
    (wpAny_call_entry PySem.F.slot_bool_abs (PySem.typeIs_bool s a) PySem.F.entry_int_abs ?_ (PySem.F.args_int_abs_1 _)))
  cases a with
  | true =>
    show wpAny _ _ (if (1 : Int) < 0 then retInt (-1) else retInt 1) _ _ s
    rw [if_neg (by decide)]
    exact wpAny_ret_mkInt (wpAny_pure ⟨_, rfl, h s.toks (s.toks + 1)⟩)
  | false =>
    show wpAny _ _ (if (0 : Int) < 0 then retInt (-0) else retInt 0) _ _ s
    rw [if_neg (by decide)]
    exact wpAny_ret_mkInt (wpAny_pure ⟨_, rfl, h s.toks (s.toks + 1)⟩)
end
end
/-- the built-ins' names, not stored by the module -/
structure Bn (mg : Str → Option Value) : Prop where
  len : mg "len" = none
  all : mg "all" = none
  isinstance : mg "isinstance" = none
  int : mg "int" = none
  bool : mg "bool" = none
  tuple : mg "tuple" = none
  str : mg "str" = none
  range : mg "range" = none
  enumerate : mg "enumerate" = none
  zip : mg "zip" = none
  sum : mg "sum" = none
  max : mg "max" = none
  min : mg "min" = none
  abs : mg "abs" = none
  list : mg "list" = none
  repr : mg "repr" = none
  any : mg "any" = none
  sorted : mg "sorted" = none
  set : mg "set" = none
  dict : mg "dict" = none
/-- a def that may be called by its name -/
structure Cl (P : Program) (w : World) (K : PySem.W.Frag) (mg : Str → Option Value) (base : Heap) (x : Str) (ps : List Str) (k : Nat) (sp : Sp) where
  f : Addr
  fd : FuncData
  G : FnOk P w K mg base CX0 k f fd ps sp
  g : mg x = some (.ref f)
  kp : PySem.W.keepIn K (.ref f) = true
  b : Binds K fd ps []
/-- what stands of a def before its body is walked -/
structure Df (K : PySem.W.Frag) (mg : Str → Option Value) (x : Str) (ps : List Str) (st : Stmt) where
  f : Addr
  fd : FuncData
  F : Fun K x x st f fd
  g : mg x = some (.ref f)
  b : Binds K fd ps []
section
variable {P : Program} {w : World} {K : PySem.W.Frag} {mg : Str → Option Value} {base : Heap} {x : Str} {ps : List Str} {k : Nat} {sp : Sp} {st : Stmt}
def Df.cl (D : Df K mg x ps st) (G : FnOk P w K mg base CX0 k D.f D.fd ps sp) : Cl P w K mg base x ps k sp := ⟨D.f, D.fd, G, D.g, D.F.kp, D.b⟩
end
section
variable {X : Cx} {e a b : Expr} {es : List Expr} {te ta tb : TE} {t : TA} {p pos apos : Pos}
abbrev rLn (K : PySem.W.Frag) : List V → Hp → VK → Prop := fun xs H Q => ∃ p ys, xs = [.ref p] ∧ (SqL K H p ys ∨ SqT K H p ys) ∧ Q (.int ys.length) H
abbrev rTp (K : PySem.W.Frag) : List V → Hp → VK → Prop := fun xs H Q => ∃ p ys, xs = [.ref p] ∧ ((SqL K H p ys ∧ ∀ l, H l = none → Q (.ref l) (upd H l (.tup ys))) ∨ (SqT K H p ys ∧ Q (.ref p) H))
abbrev rLs (K : PySem.W.Frag) : List V → Hp → VK → Prop := fun xs H Q => ∃ p ys, xs = [.ref p] ∧ (SqL K H p ys ∨ SqT K H p ys) ∧ ∀ l, H l = none → Q (.ref l) (upd H l (.lst ys))
abbrev rIt : List V → Hp → VK → Prop := fun xs H Q => (∃ i, xs = [.int i] ∧ Q (.int i) H) ∨ ∃ k, xs = [.bl k] ∧ Q (.int (if k then 1 else 0)) H
abbrev rAb : List V → Hp → VK → Prop := fun xs H Q => (∃ i, xs = [.int i] ∧ Q (.int (if i < 0 then -i else i)) H) ∨ ∃ b : Bool, xs = [.bl b] ∧ Q (.int (if b then 1 else 0)) H
abbrev rMx2 : List V → Hp → VK → Prop := fun xs H Q => ∃ i j, xs = [.int i, .int j] ∧ Q (.int (if j > i then j else i)) H
theorem pLen (B : Bn X.mg) (h : PE X e te) (hg : Gl X "len" := by rfl) (he : starEach [e] X.env = (false, eval e X.env) :: starEach [] X.env := by rfl) : PE X (.Call (.Name "len" p) [e] [] pos) (tCB (rLn X.K) (tCons te tNil)) :=
  pe_callB call_len_seq hg B.len PySem.boot_len (pa_cons h pa_nil he) (by decide) (by decide) he
theorem pTuple (B : Bn X.mg) (h : PE X e te) (hg : Gl X "tuple" := by rfl) (he : starEach [e] X.env = (false, eval e X.env) :: starEach [] X.env := by rfl) : PE X (.Call (.Name "tuple" p) [e] [] pos) (tCB (rTp X.K) (tCons te tNil)) :=
  pe_callTy call_tuple_of hg B.tuple (by decide +kernel) (pa_cons h pa_nil he) (by decide) (by decide) he
theorem pList (B : Bn X.mg) (h : PE X e te) (hg : Gl X "list" := by rfl) (he : starEach [e] X.env = (false, eval e X.env) :: starEach [] X.env := by rfl) : PE X (.Call (.Name "list" p) [e] [] pos) (tCB (rLs X.K) (tCons te tNil)) :=
  pe_callTy call_list_of hg B.list (by decide +kernel) (pa_cons h pa_nil he) (by decide) (by decide) he
theorem pInt (B : Bn X.mg) (h : PE X e te) (hg : Gl X "int" := by rfl) (he : starEach [e] X.env = (false, eval e X.env) :: starEach [] X.env := by rfl) : PE X (.Call (.Name "int" p) [e] [] pos) (tCB rIt (tCons te tNil)) :=
  pe_callTy call_int1 hg B.int (by decide +kernel) (pa_cons h pa_nil he) (by decide) (by decide) he
theorem pSum (B : Bn X.mg) (hc : X.calm = true) (h : PE X e te) (hg : Gl X "sum" := by rfl) (he : starEach [e] X.env = (false, eval e X.env) :: starEach [] X.env := by rfl) : PE X (.Call (.Name "sum" p) [e] [] pos) (tCB (rSum X.K) (tCons te tNil)) :=
  pe_callB (cr_sum hc) hg B.sum (by decide +kernel) (pa_cons h pa_nil he) (by decide) (by decide) he
theorem pMax (B : Bn X.mg) (hc : X.calm = true) (h : PE X e te) (hg : Gl X "max" := by rfl) (he : starEach [e] X.env = (false, eval e X.env) :: starEach [] X.env := by rfl) : PE X (.Call (.Name "max" p) [e] [] pos) (tCB (rMax X.K) (tCons te tNil)) :=
  pe_callB (cr_max hc) hg B.max (by decide +kernel) (pa_cons h pa_nil he) (by decide) (by decide) he
theorem pAllL (B : Bn X.mg) (hc : X.calm = true) (h : PE X e te) (hg : Gl X "all" := by rfl) (he : starEach [e] X.env = (false, eval e X.env) :: starEach [] X.env := by rfl) : PE X (.Call (.Name "all" p) [e] [] pos) (tCB (rAll X.K) (tCons te tNil)) :=
  pe_callB (cr_all hc) hg B.all (by decide +kernel) (pa_cons h pa_nil he) (by decide) (by decide) he
theorem call_abs2 : CallR X (.builtin "abs") rAb := by
  intro pins s σ H xs us Q I r h
  rcases h with ⟨i, rfl, q⟩ | ⟨b, rfl, q⟩
  · obtain ⟨u, rfl, t, rfl⟩ := vals1 r
    exact call_abs_int fun u tk => ⟨.int (if i < 0 then -i else i), H, I.tok _, ⟨_, rfl⟩, q⟩
  · obtain ⟨u, rfl, ru⟩ := vals1 r
    cases ru
    exact call_abs_bool fun u tk => ⟨.int (if b then 1 else 0), H, I.tok _, ⟨_, rfl⟩, q⟩
theorem pAbs (B : Bn X.mg) (h : PE X e te) (hg : Gl X "abs" := by rfl) (he : starEach [e] X.env = (false, eval e X.env) :: starEach [] X.env := by rfl) : PE X (.Call (.Name "abs" p) [e] [] pos) (tCB rAb (tCons te tNil)) :=
  pe_callB call_abs2 hg B.abs (by decide +kernel) (pa_cons h pa_nil he) (by decide) (by decide) he
theorem pIsi (B : Bn X.mg) (h : PE X a ta) (k : PE X b tb) (hg : Gl X "isinstance" := by rfl) (he : starEach [a, b] X.env = (false, eval a X.env) :: starEach [b] X.env := by rfl) (he2 : starEach [b] X.env = (false, eval b X.env) :: starEach [] X.env := by rfl)
    (hpl : (backTo pos (starEach [b] X.env)).any (·.1) = false := by rfl) : PE X (.Call (.Name "isinstance" p) [a, b] [] pos) (tCB (rIsi X.K) (tCons ta (tCons tb tNil))) :=
  pe_callB call_isi hg B.isinstance (by decide +kernel) (pa_cons h (pa_cons k pa_nil he2) he) (by decide) (by decide) he hpl
theorem pMax2 (B : Bn X.mg) (hc : X.calm = true) (h : PE X a ta) (k : PE X b tb) (hg : Gl X "max" := by rfl) (he : starEach [a, b] X.env = (false, eval a X.env) :: starEach [b] X.env := by rfl) (he2 : starEach [b] X.env = (false, eval b X.env) :: starEach [] X.env := by rfl)
    (hpl : (backTo pos (starEach [b] X.env)).any (·.1) = false := by rfl) : PE X (.Call (.Name "max" p) [a, b] [] pos) (tCB rMx2 (tCons ta (tCons tb tNil))) :=
  pe_callB (call_max2 hc) hg B.max (by decide +kernel) (pa_cons h (pa_cons k pa_nil he2) he) (by decide) (by decide) he hpl
theorem nInt (B : Bn X.mg) (hg : Gl X "int" := by rfl) : PE X (.Name "int" pos) (tC (.ty "int")) := pe_bltn hg B.int (by decide +kernel) rfl
theorem nBool (B : Bn X.mg) (hg : Gl X "bool" := by rfl) : PE X (.Name "bool" pos) (tC (.ty "bool")) := pe_bltn hg B.bool (by decide +kernel) rfl
theorem nTuple (B : Bn X.mg) (hg : Gl X "tuple" := by rfl) : PE X (.Name "tuple" pos) (tC (.ty "tuple")) := pe_bltn hg B.tuple (by decide +kernel) rfl
theorem nStr (B : Bn X.mg) (hg : Gl X "str" := by rfl) : PE X (.Name "str" pos) (tC (.ty "str")) := pe_bltn hg B.str (by decide +kernel) rfl
/-- a call of a def by its place -/
theorem pCall {x : Str} {ps : List Str} {k j : Nat} {sp : Sp} (C : Cl X.prog X.w X.K X.mg X.base x ps k sp) (hr : Room j X.A) (hk : k ≤ j) (ha : PA X (e :: es) t) (hg : Gl X x := by rfl) (hdb : (x == ("__debug__" : Str)) = false := by decide)
    (he : starEach (e :: es) X.env = (false, eval e X.env) :: starEach es X.env := by rfl) (hpl : (backTo pos (starEach es X.env)).any (·.1) = false := by rfl) : PE X (.Call (.Name x p) (e :: es) [] pos) (tCall sp [] E0 t) :=
  pe_call C.G (hr.mono hk) hg C.g C.kp C.b .nil pass0 ha hdb he hpl
end
section

end
end Kz
set_option Elab.async false
set_option linter.all false
set_option maxRecDepth 100000
set_option maxHeartbeats 4000000
/-! Kz: zip of a list and a tuple, in any order; while; gcd; min -/
namespace Kz
open PySem PySem.Spec PyProof.Rows L2
def SqK (k : Bool) (K : PySem.W.Frag) (H : Hp) (a : Addr) (xs : List V) : Prop := if k = true then SqL K H a xs else SqT K H a xs
def HsK (k : Bool) (h : Heap) (a : Addr) (its : Array Value) : Prop := if k = true then h.IsList a its else h.IsTuple a its
def HiK (k : Bool) (h : Heap) (i a : Addr) (n : Nat) : Prop := if k = true then h.IsListIter i a n else h.IsTupleIter i a n
def itO (k : Bool) (a : Addr) : Obj := if k = true then { cls := .type "list_iterator", data := .fields #[.ref a, .int 0 0] } else { cls := .type "tuple_iterator", data := .fields #[.ref a, .int 0 0] }
theorem sqk_its {X : Cx} {pins : List (Addr × Obj)} {σ : L2.St} {H : Hp} {s : Shared} (I : Inv X pins σ H s) {k : Bool} {a : Addr} {xs : List V} (h : SqK k X.K H a xs) : ∃ us : List Value, Vals xs us ∧ HsK k s.heap a us.toArray := by
  cases k with
  | true => obtain ⟨us, r, q, _⟩ := I.list (show SqL X.K H a xs from h); exact ⟨us, r, q.isList⟩
  | false => obtain ⟨us, r, q, _⟩ := I.tuple (show SqT X.K H a xs from h); exact ⟨us, r, q⟩
theorem sqk_inj {X : Cx} {pins : List (Addr × Obj)} {σ : L2.St} {H : Hp} {s : Shared} (I : Inv X pins σ H s) {k : Bool} {a : Addr} {xs ys : List V} (h : SqK k X.K H a xs) (h' : SqK k X.K H a ys) : xs = ys := by
  cases k with
  | true => exact I.list_inj h h'
  | false => exact I.tuple_inj h h'
theorem hsk_lt {k : Bool} {h : Heap} {a : Addr} {us : Array Value} (q : HsK k h a us) : a < h.objs.size := by
  cases k with
  | true => obtain ⟨o, e, _⟩ := (show h.IsList a us from q); exact Heap.lt_size e
  | false => obtain ⟨o, e, _⟩ := (show h.IsTuple a us from q); exact Heap.lt_size e
theorem hik_obj {k : Bool} {h : Heap} {i a : Addr} {n : Nat} (q : HiK k h i a n) : ∃ o, h.get? i = some o ∧ ∀ v, o.data ≠ .cell v := by
  cases k with
  | true => obtain ⟨o, e, _, d⟩ := (show h.IsListIter i a n from q); exact ⟨o, e, fun v z => by rw [d] at z; cases z⟩
  | false => obtain ⟨o, e, _, d⟩ := (show h.IsTupleIter i a n from q); exact ⟨o, e, fun v z => by rw [d] at z; cases z⟩
theorem hik_at {k : Bool} {h h' : Heap} {i a : Addr} {n : Nat} (q : HiK k h i a n) (t : ∀ o, h.get? i = some o → h'.get? i = some o) : HiK k h' i a n := by
  cases k with
  | true => exact Heap.IsListIter.at (show h.IsListIter i a n from q) t
  | false => exact Heap.IsTupleIter.at (show h.IsTupleIter i a n from q) t
theorem begK (k : Bool) (a : Addr) (us : Array Value) : Begins (.ref a) (itO k a) fun h => HsK k h a us := by
  cases k with
  | true => exact begins_list a us
  | false => exact begins_tuple a us
theorem drwK {prog : Program} {w : World} {A : Around} (hh : A.handled = none) (k : Bool) (i a : Addr) (hne : a ≠ i) (us : Array Value) :
    Draws prog w A i [i, a] us.size (fun n v => us[n]? = some v) (fun n h => HiK k h i a n ∧ HsK k h a us) := by
  cases k with
  | true => exact Draws.list hh i a hne us
  | false => exact Draws.tuple hh i a hne us
theorem begK_it {k : Bool} {h : Heap} {i a : Addr} (e : h.get? i = some (itO k a)) : HiK k h i a 0 := by
  cases k with
  | true => exact ⟨_, e, rfl, rfl⟩
  | false => exact ⟨_, e, rfl, rfl⟩
/-- what two sequences of any kind give, item by item -/
def ItM (K : PySem.W.Frag) (k1 k2 : Bool) (a b : Addr) : It :=
  ⟨fun n H => ∃ (xs ys : List V) (x y : V), SqK k1 K H a xs ∧ SqK k2 K H b ys ∧ xs[n]? = some x ∧ ys[n]? = some y,
   fun n H v H' => ∃ T x y, v = .ref T ∧ H T = none ∧ H' = upd H T (.tup [x, y]) ∧ (∀ xs, SqK k1 K H a xs → xs[n]? = some x) ∧ (∀ ys, SqK k2 K H b ys → ys[n]? = some y),
   fun n H => ∃ xs ys : List V, SqK k1 K H a xs ∧ SqK k2 K H b ys ∧ n ≤ xs.length ∧ n ≤ ys.length ∧ (n = xs.length ∨ n = ys.length)⟩
theorem turnM {P : Program} {w : World} {K : PySem.W.Frag} {elts : List Expr} {kk : Nat} {tpos : Pos} {k1 k2 : Bool} {a b z TI TO i1 i2 : Addr} (S : ZipSep2 z TI TO i1 i2 [i1, a] [i2, b]) (na : a ≠ i1) (nb : b ≠ i2) :
    Turn P w K (.Tuple elts kk tpos) (ItM K k1 k2 a b) [z, TI, TO, i1, i2] z (fun n h => IsZip h z TI TO .none ∧ IsPair h TI (.ref i1) (.ref i2) ∧ (∃ x y, IsPair h TO x y) ∧ HiK k1 h i1 a n ∧ HiK k2 h i2 b n) where
  mem := List.mem_cons_self
  obj := fun n h st c hc => by
    obtain ⟨hz, hTI, ⟨x, y, hTO⟩, h1, h2⟩ := st
    have e' : c = z ∨ c = TI ∨ c = TO ∨ c = i1 ∨ c = i2 := by simpa using hc
    rcases e' with rfl | rfl | rfl | rfl | rfl
    · exact ⟨_, hz, fun v z => nomatch z⟩
    · exact ⟨_, hTI, fun v z => nomatch z⟩
    · exact ⟨_, hTO, fun v z => nomatch z⟩
    · exact hik_obj h1
    · exact hik_obj h2
  keep := fun n h h' st t => by
    obtain ⟨hz, hTI, ⟨x, y, hTO⟩, h1, h2⟩ := st
    exact ⟨t z (by simp) _ hz, t TI (by simp) _ hTI, ⟨x, y, t TO (by simp) _ hTO⟩, hik_at h1 fun o e => t i1 (by simp) o e, hik_at h2 fun o e => t i2 (by simp) o e⟩
  item := by
    intro X hP hw hK hc n pins s σ H E I hf st hg
    subst hP hw hK
    obtain ⟨hz, hTI, ⟨x0, y0, hTO⟩, h1, h2⟩ := st
    obtain ⟨xs, ys, x, y, q1, q2, hx, hy⟩ := hg
    obtain ⟨us, rx, p1⟩ := sqk_its I q1
    obtain ⟨ws, ry, p2⟩ := sqk_its I q2
    obtain ⟨u, hu, ru⟩ := rx.get hx
    obtain ⟨u2, hu2, ru2⟩ := ry.get hy
    have hzl : z < s.heap.objs.size := Heap.lt_size hz
    have l1 : n < us.toArray.size := by rw [List.size_toArray]; exact (List.getElem?_eq_some_iff.mp hu).1
    have l2 : n < ws.toArray.size := by rw [List.size_toArray]; exact (List.getElem?_eq_some_iff.mp hu2).1
    have D1 := drwK (prog := X.prog) (w := X.w) (A := X.A.in1) (I.ok.hd hc) k1 i1 a na us.toArray
    have D2 := drwK (prog := X.prog) (w := X.w) (A := X.A.in1) (I.ok.hd hc) k2 i2 b nb ws.toArray
    refine wpAny_pyNext_zipD2_item S D1 D2 hz hTI hTO ⟨h1, p1⟩ ⟨h2, p2⟩ l1 l2 fun v1 v2 h' tk e1 e2 z' TO' st1 st2 hT hsz hk => ?_
    have ev : v1 = u := by rw [List.getElem?_toArray, hu] at e1; exact (Option.some.inj e1).symm
    have ev2 : v2 = u2 := by rw [List.getElem?_toArray, hu2] at e2; exact (Option.some.inj e2).symm
    subst ev ev2
    refine ⟨_, rfl, wpAny_letOwnedTupleGo_zip (s := { s with heap := h', toks := tk }) z' fun h'' z'' sb => ?_⟩
    have hT2 : h''.get? s.heap.objs.size = some { cls := .type "tuple", data := .seq #[v1, v2] } := (sb.2 _ (Nat.ne_of_gt hzl)).trans hT
    have new : ObjOk X.prog X.w (upd H s.heap.objs.size (.tup [x, y])) h'' s.heap.objs.size (.tup [x, y]) := ⟨by show 2 ≤ sizeLine; decide, [v1, v2], .cons ru (.cons ru2 .nil), ⟨_, hT2, rfl, _, rfl⟩⟩
    have kp : ∀ c o, c ∉ [z, TI, TO, i1, i2] → s.heap.get? c = some o → h''.get? c = some o := fun c o hb e => (sb.2 c (fun r => hb (by simp [r]))).trans (hk c o (fun r => hb (by simp [r])) (fun r => hb (by simp [r])) (fun r => hb (by simp [r])) (fun r => hb (by simp [r])) e)
    refine ⟨.ref s.heap.objs.size, _, I.turnedNew (ch := [z, TI, TO, i1, i2]) kp hf (Nat.le_refl _) new, rfl, ⟨_, x, y, rfl, I.hok.fresh (Nat.le_refl _), rfl, fun l hl => by rw [sqk_inj I hl q1]; exact hx, fun l hl => by rw [sqk_inj I hl q2]; exact hy⟩, ⟨z'', ?_, ⟨v1, v2, ?_⟩, ?_, ?_⟩, fun c hcm => ?_⟩
    · exact (sb.2 _ S.TIz).trans (hk _ _ S.TIz S.TITO S.TIi1 S.TIi2 hTI)
    · exact (sb.2 _ S.TOz).trans TO'
    · exact hik_at st1.1 fun o e => (sb.2 _ (Ne.symm S.zi1)).trans e
    · exact hik_at st2.1 fun o e => (sb.2 _ (Ne.symm S.zi2)).trans e
    · have hlt : c < s.heap.objs.size := by
        have e' : c = z ∨ c = TI ∨ c = TO ∨ c = i1 ∨ c = i2 := by simpa using hcm
        rcases e' with rfl | rfl | rfl | rfl | rfl
        · exact hzl
        · exact Heap.lt_size hTI
        · exact Heap.lt_size hTO
        · obtain ⟨_, e, _⟩ := hik_obj h1; exact Heap.lt_size e
        · obtain ⟨_, e, _⟩ := hik_obj h2; exact Heap.lt_size e
      rw [upd_ne (Nat.ne_of_lt hlt)]
      exact (hf c hcm).1
  done := by
    intro X hP hw hK hc n pins s σ H E I hf st hg
    subst hP hw hK
    obtain ⟨hz, hTI, ⟨x0, y0, hTO⟩, h1, h2⟩ := st
    obtain ⟨xs, ys, q1, q2, n1, n2, he⟩ := hg
    obtain ⟨us, rx, p1⟩ := sqk_its I q1
    obtain ⟨ws, ry, p2⟩ := sqk_its I q2
    have e1 := rx.length
    have e2 := ry.length
    have D1 := drwK (prog := X.prog) (w := X.w) (A := X.A.in1) (I.ok.hd hc) k1 i1 a na us.toArray
    have D2 := drwK (prog := X.prog) (w := X.w) (A := X.A.in1) (I.ok.hd hc) k2 i2 b nb ws.toArray
    exact wpAny_pyNext_zipD2_end S D1 D2 hz hTI hTO ⟨h1, p1⟩ ⟨h2, p2⟩ (by rw [List.size_toArray]; omega) (by rw [List.size_toArray]; omega) (by rw [List.size_toArray, List.size_toArray]; omega) fun h' tk hk => ⟨rfl, I.turnedL (t' := tk) (ch := [z, TI, TO, i1, i2])
      (fun c o hb e => hk c o (fun r => hb (by simp [r])) (fun r => hb (by simp [r])) (fun r => hb (by simp [r])) (fun r => hb (by simp [r])) e) hf⟩
  self := fun A n s Q E st h => wpAny_pyIter_zip st.1 h
def iZipM (K : PySem.W.Frag) (ta : TA) : TI := fun σ H R => ta σ H fun vs H1 => ∃ k1 k2 a b xs ys, vs = [.ref a, .ref b] ∧ SqK k1 K H1 a xs ∧ SqK k2 K H1 b ys ∧ R (ItM K k1 k2 a b) H1
theorem nin2 {x y z : Nat} (h1 : x ≠ y) (h2 : x ≠ z) : x ∉ [y, z] := by simp [h1, h2]
theorem sepM0 {I a b : Nat} (ha : a < I) (hb : b < I) : ZipSep2 (I + 4) (I + 2) (I + 3) I (I + 1) [I, a] [I + 1, b] :=
  ⟨(by omega : (I + 2 : Nat) ≠ I + 4), (by omega : (I + 3 : Nat) ≠ I + 4), (by omega : (I + 2 : Nat) ≠ I + 3), (by omega : (I + 2 : Nat) ≠ I), List.mem_cons_self, nin2 (by omega) (by omega), nin2 (by omega) (by omega),
   (by omega : (I + 2 : Nat) ≠ I + 1), List.mem_cons_self, nin2 (by omega) (by omega), nin2 (by omega) (by omega), nin2 (by omega) (by omega), nin2 (by omega) (by omega)⟩
theorem sepM {I a b : Addr} (ha : a < I) (hb : b < I) : ZipSep2 (I + 4) (I + 2) (I + 3) I (I + 1) [I, a] [I + 1, b] := sepM0 ha hb
theorem pi_zipM {X : Cx} {e e2 : Expr} {ta : TA} {p pos tpos : Pos} {elts : List Expr} {kk : Nat} (hg : Gl X "zip") (hm : X.mg "zip" = none) (ha : PA X [e, e2] ta)
    (hs : starEach [e, e2] X.env = (false, eval e X.env) :: starEach [e2] X.env := by rfl) (hpl : (backTo pos (starEach [e2] X.env)).any (·.1) = false := by rfl) : PI X (.Tuple elts kk tpos) (.Call (.Name "zip" p) [e, e2] [] pos) (iZipM X.K ta) := by
  refine ⟨fun pins s σ H R I h => Call_ (ld_blt I hg hm PyProof.Rows.boot_zip (PyProof.Rows.callWith_type1 (thn (ha.run pos pins s σ H _ I h) fun us s1 ⟨vs, H1, I1, r1, q1⟩ => ?_) hs hpl))⟩
  obtain ⟨k1, k2, a, b, xs, ys, rfl, qx, qy, q⟩ := q1
  cases r1 with
  | cons r rr =>
    cases rr with
    | cons r' rr =>
      cases rr
      cases r
      cases r'
      obtain ⟨us, _, p1⟩ := sqk_its I1 qx
      obtain ⟨ws, _, p2⟩ := sqk_its I1 qy
      have la := hsk_lt p1
      have lb := hsk_lt p2
      refine zip_begins2 (begK k1 a us.toArray) (begK k2 b ws.toArray) p1 p2 fun h' hz hTI hTO h1 h2 hsz hk => wpAny_pyIter_zip hz ?_
      have I2 : Inv X pins σ H1 { s1 with heap := h' } := I1.kept (t' := s1.toks) hk
      refine ⟨s1.heap.objs.size + 4, [s1.heap.objs.size + 4, s1.heap.objs.size + 2, s1.heap.objs.size + 3, s1.heap.objs.size, s1.heap.objs.size + 1], _, _, H1, rfl, I2, turnM (sepM la lb) (Nat.ne_of_lt la) (Nat.ne_of_lt (Nat.lt_succ_of_lt lb)), ⟨hz, hTI, ⟨_, _, hTO⟩, begK_it h1, begK_it h2⟩, fun c hcm => ?_, q⟩
      have hle : s1.heap.objs.size ≤ c := by
        simp only [List.mem_cons, List.not_mem_nil, or_false] at hcm
        rcases hcm with z | z | z | z | z <;> rw [z] <;> first | exact Nat.le_refl _ | exact Nat.le_add_right _ _
      exact I1.fpOk hle (I1.hok.fresh hle)
section

abbrev rMn2 : List V → Hp → VK → Prop := fun xs H Q => ∃ i j, xs = [.int i, .int j] ∧ Q (.int (if j < i then j else i)) H
end
section
variable {X : Cx} {e a b : Expr} {te ta tb : TE} {p pos : Pos}
theorem pMin2' (B : Bn X.mg) (hc : X.calm = true) (h : PE X a ta) (k : PE X b tb) (hg : Gl X "min" := by rfl) (he : starEach [a, b] X.env = (false, eval a X.env) :: starEach [b] X.env := by rfl) (he2 : starEach [b] X.env = (false, eval b X.env) :: starEach [] X.env := by rfl)
    (hpl : (backTo pos (starEach [b] X.env)).any (·.1) = false := by rfl) : PE X (.Call (.Name "min" p) [a, b] [] pos) (tCB rMn2 (tCons ta (tCons tb tNil))) := pe_callB (call_min2 hc) hg B.min (by decide +kernel) (pa_cons h (pa_cons k pa_nil he2) he) (by decide) (by decide) he hpl
theorem pMax2' (B : Bn X.mg) (hc : X.calm = true) (h : PE X a ta) (k : PE X b tb) (hg : Gl X "max" := by rfl) (he : starEach [a, b] X.env = (false, eval a X.env) :: starEach [b] X.env := by rfl) (he2 : starEach [b] X.env = (false, eval b X.env) :: starEach [] X.env := by rfl)
    (hpl : (backTo pos (starEach [b] X.env)).any (·.1) = false := by rfl) : PE X (.Call (.Name "max" p) [a, b] [] pos) (tCB rMx2 (tCons ta (tCons tb tNil))) := pMax2 B hc h k hg he he2 hpl
theorem pGcd (hm : X.mg "gcd" = some (.builtin "math.gcd")) (h : PE X a ta) (k : PE X b tb) (hg : Gl X "gcd" := by rfl) (he : starEach [a, b] X.env = (false, eval a X.env) :: starEach [b] X.env := by rfl) (he2 : starEach [b] X.env = (false, eval b X.env) :: starEach [] X.env := by rfl)
    (hpl : (backTo pos (starEach [b] X.env)).any (·.1) = false := by rfl) : PE X (.Call (.Name "gcd" p) [a, b] [] pos) (tCB rGcd (tCons ta (tCons tb tNil))) := pe_callBfun cr_gcd hg hm (pa_cons h (pa_cons k pa_nil he2) he) (by decide) he hpl
theorem piM (K : PySem.W.Frag) (B : Bn X.mg) {tpos : Pos} {elts : List Expr} {kk : Nat} (ha : PE X a ta) (hb : PE X b tb) (hK : X.K = K := by rfl) (hg : Gl X "zip" := by rfl) (hs : starEach [a, b] X.env = (false, eval a X.env) :: starEach [b] X.env := by rfl) (hs2 : starEach [b] X.env = (false, eval b X.env) :: starEach [] X.env := by rfl) (hpl : (backTo pos (starEach [b] X.env)).any (·.1) = false := by rfl) :
    PI X (.Tuple elts kk tpos) (.Call (.Name "zip" p) [a, b] [] pos) (iZipM K (tCons ta (tCons tb tNil))) := hK ▸ pi_zipM hg B.zip (pa_cons ha (pa_cons hb pa_nil hs2) hs) hs hpl
end
end Kz
set_option Elab.async false
set_option linter.all false
set_option maxRecDepth 100000
set_option maxHeartbeats 4000000
/-! Kz: a tuple times 0 or 1 (the library has it from 2 on) -/
namespace Kz
open PySem PySem.Spec PyProof.Rows L2
theorem tuple_mul1 (l : Addr) (items : Array Value) (n : Nat) (dd : Option Addr) (sl : Array (Option Value)) (u : Tok) :
    Meets (Builtin.«tuple.__mul__» ⟨[.ref l, .int 1 u], []⟩) (fun _ R s => s.heap.get? l = some { cls := .type "tuple", dict := dd, data := .seq items n, slots := sl } ∧ R (.ok (.ret (Value.ref l))) s) :=
  .of_wp fun prog w A R s h => by
    obtain ⟨hp, g, d, tk, os⟩ := s
    obtain ⟨hl, h⟩ := h
    have f1 := AutoSeq1.idx_int
    have c1 : (items.isEmpty || (1 : Int) == 1) = true := by simp
    wp_walk using wpAny_loadPart' hl
    repeat (first
      | (refine wpAny_ite_false (decide_eq_false (by decide)) ?_; wp_walk using wpAny_loadPart' hl)
      | (refine wpAny_ite_true (decide_eq_true c1) ?_; wp_walk using wpAny_loadPart' hl))
    exact ⟨_, rfl, h⟩
theorem tuple_mul0 (l : Addr) (items : Array Value) (n : Nat) (dd : Option Addr) (sl : Array (Option Value)) (u : Tok) (hi : items.isEmpty = false) :
    Meets (Builtin.«tuple.__mul__» ⟨[.ref l, .int 0 u], []⟩) (fun _ R s => s.heap.get? l = some { cls := .type "tuple", dict := dd, data := .seq items n, slots := sl } ∧
      R (.ok (.ret (Value.ref s.heap.objs.size))) { s with heap := s.heap.push { cls := Value.type "tuple", data := Data.seq #[] }, toks := s.toks }) :=
  .of_wp fun prog w A R s h => by
    obtain ⟨hp, g, d, tk, os⟩ := s
    obtain ⟨hl, h⟩ := h
    have f1 := AutoSeq1.idx_int
    have c1 : (items.isEmpty || (0 : Int) == 1) = false := by rw [hi]; rfl
    have c2 : (decide ((0 : Int) ≤ 0) || items.isEmpty) = true := by simp
    wp_walk using wpAny_loadPart' hl
    repeat (first
      | (refine wpAny_ite_false (decide_eq_false (by rw [c1]; exact Bool.false_ne_true)) ?_; wp_walk using wpAny_loadPart' hl)
      | (refine wpAny_ite_true (decide_eq_true c2) ?_; wp_walk using wpAny_loadPart' hl))
    exact ⟨_, rfl, h⟩
def rRep01 (K : PySem.W.Frag) : R2 := fun x y H Q => ∃ l k xs, x = .ref l ∧ y = .int k ∧ SqT K H l xs ∧ xs ≠ [] ∧ ((k = 1 ∧ Q (.ref l) H) ∨ (k = 0 ∧ ∀ p, H p = none → Q (.ref p) (upd H p (.tup []))))
theorem op_rep01 {X : Cx} : OpR X (binaryOp .Mult) (rRep01 X.K) := by
  intro pins s σ H x y v u Q I rx ry h
  obtain ⟨l, k, xs, rfl, rfl, hT, hne, h⟩ := h
  cases rx
  obtain ⟨t, rfl⟩ := ry
  obtain ⟨its, r, ⟨⟨cls, dd, data, sl⟩, ho, hc, n, hd⟩, hs⟩ := I.tuple hT
  simp only at hc hd
  subst hc hd
  have hle : its.length = xs.length := r.length.symm
  have hn : its ≠ [] := fun e => hne (by
    rw [e] at hle
    exact List.eq_nil_of_length_eq_zero hle.symm)
  have hi : its.toArray.isEmpty = false := by
    cases its with
    | nil => exact absurd rfl hn
    | cons a b => rfl
  rcases h with ⟨rfl, q⟩ | ⟨rfl, q⟩
  · exact wpAny_binaryOp_repeat_ref (T := "tuple") (U := "int") (by decide) ⟨_, ho, rfl⟩ (fun s' => typeIs_int s' 1 t) noFill_tuple_mul F.fills_int_mul F.slot_int_rmul repeat_tuple F.slot_int_index.lookup
      (call_meets F.slot_int_rmul (typeIs_int s 1 t) F.entry_int_rmul (F.args_int_rmul_2 _ _) (int_rmul_tuple 1 t l its.toArray n dd sl)
        ⟨ho, rfl, ⟨_, ho, rfl⟩, call_meets F.slot_tuple_mul ⟨_, ho, rfl⟩ F.entry_tuple_mul (F.args_tuple_mul_2 _ _) (tuple_mul1 l its.toArray n dd sl t) ⟨ho, ⟨.ref l, H, I, rfl, q⟩⟩⟩)
  · refine wpAny_binaryOp_repeat_ref (T := "tuple") (U := "int") (by decide) ⟨_, ho, rfl⟩ (fun s' => typeIs_int s' 0 t) noFill_tuple_mul F.fills_int_mul F.slot_int_rmul repeat_tuple F.slot_int_index.lookup
      (call_meets F.slot_int_rmul (typeIs_int s 0 t) F.entry_int_rmul (F.args_int_rmul_2 _ _) (int_rmul_tuple 0 t l its.toArray n dd sl)
        ⟨ho, rfl, ⟨_, ho, rfl⟩, call_meets F.slot_tuple_mul ⟨_, ho, rfl⟩ F.entry_tuple_mul (F.args_tuple_mul_2 _ _) (tuple_mul0 l its.toArray n dd sl t hi) ⟨ho, ?_⟩⟩)
    refine ⟨.ref s.heap.objs.size, _, I.laid (t' := s.toks) (o := .tup []) (fun b ob q => Heap.get?_push_of_some _ q) (Nat.le_refl _) ?_, rfl, q _ (I.hok.fresh (Nat.le_refl _))⟩
    exact ⟨Nat.zero_le _, [], .nil, IsTup.new _ _⟩
/-- a tuple times an int from 0 on -/
def rRepA (K : PySem.W.Frag) : R2 := fun x y H Q => rRep01 K x y H Q ∨ rRepT K x y H Q
theorem op_repA {X : Cx} : OpR X (binaryOp .Mult) (rRepA X.K) := fun pins s σ H x y v u Q I rx ry h => h.elim (op_rep01 pins s σ H x y v u Q I rx ry) (op_repT pins s σ H x y v u Q I rx ry)
section

end
end Kz
set_option Elab.async false
set_option linter.all false
set_option maxRecDepth 100000
set_option maxHeartbeats 4000000
/-! Kz: values of all kinds: shown, held against an empty one -/
namespace Kz
open PySem PySem.Spec PyProof.Rows L2
/-- something stands at the place of the modules -/
abbrev Hsb (base : Heap) : Prop := ∃ o, base.get? sysModules = some o
section
variable {X : Cx} {pins : List (Addr × Obj)} {σ : L2.St} {H : Hp} {s : Shared} {S : Addr → Prop}
theorem not_sys (I : Inv X pins σ H s) (hb : Hsb X.base) {a : Addr} {o : HO} (e : H a = some o) : a ≠ sysModules := fun z => by
  obtain ⟨ob, h⟩ := hb
  have q := (I.bs _ _ h).2
  rw [← z, e] at q
  cases q
mutual
theorem Dv.rds (I : Inv X pins σ H s) (hb : Hsb X.base) : ∀ (d : PyData) (v : V) (u : Value), Dv S H v d → RelV v u → ∃ as, Reads s.heap u d as ∧ sysModules ∉ as
  | .none, _, _, h, r => by
    cases h; cases r
    exact ⟨_, .none, by simp⟩
  | .bool b, _, _, h, r => by
    cases h; cases r
    exact ⟨_, .bool b, by simp⟩
  | .int i, _, _, h, r => by
    cases h
    obtain ⟨t, rfl⟩ := r
    exact ⟨_, .int i t, by simp⟩
  | .str x, _, _, h, r => by
    cases h
    obtain ⟨t, rfl⟩ := r
    exact ⟨_, .str x t, by simp⟩
  | .list ds, _, _, h, r => by
    cases h with
    | lst _ e q =>
      cases r
      obtain ⟨us, rv, ⟨o, n, ho, hc, _, hd⟩, _⟩ := I.list (.inl (.inl e))
      obtain ⟨as, hr, hn⟩ := DvL.rds I hb ds _ us q rv
      exact ⟨_, .list ho hc hd hr, by simp only [List.mem_cons, not_or]; exact ⟨fun z => not_sys I hb e z.symm, hn⟩⟩
  | .tuple ds, _, _, h, r => by
    cases h with
    | tup _ e q =>
      cases r
      obtain ⟨us, rv, ⟨o, ho, hc, n, hd⟩, _⟩ := I.tuple (.inl (.inl e))
      obtain ⟨as, hr, hn⟩ := DvL.rds I hb ds _ us q rv
      exact ⟨_, .tuple ho hc hd hr, hn⟩
  | .dict ps, _, _, h, r => by
    cases h with
    | dct _ e q =>
      cases r
      obtain ⟨_, _, vs, rel, o, es, ep, ho, hx, hd, _, hp, _⟩ := dk_of I.hok e
      obtain ⟨as, bs, h1, h2, h3, h4⟩ := DvK.rds I hb ps _ vs es.toList q rel hp
      refine ⟨_, .dict ho hx.1 hd h1 h2, ?_⟩
      simp only [List.cons_append, List.mem_cons, List.mem_append, not_or]
      exact ⟨fun z => not_sys I hb e z.symm, h3, h4⟩
theorem DvL.rds (I : Inv X pins σ H s) (hb : Hsb X.base) : ∀ (ds : List PyData) (vs : List V) (us : List Value), DvL S H vs ds → Vals vs us → ∃ as, ReadsAll s.heap us ds as ∧ sysModules ∉ as
  | [], _, _, h, r => by
    cases h; cases r
    exact ⟨_, .nil, by simp⟩
  | d :: ds, _, _, h, r => by
    cases h with
    | cons h1 h2 =>
      cases r with
      | cons r1 r2 =>
        obtain ⟨as, q1, n1⟩ := Dv.rds I hb d _ _ h1 r1
        obtain ⟨bs, q2, n2⟩ := DvL.rds I hb ds _ _ h2 r2
        exact ⟨_, .cons q1 q2, by simp only [List.mem_append, not_or]; exact ⟨n1, n2⟩⟩
theorem DvK.rds (I : Inv X pins σ H s) (hb : Hsb X.base) : ∀ (ps : List (PyData × PyData)) (kvs : List (Key × V)) (vs : List (Key × Value)) (es : List DictEntry), DvK S H kvs ps → KV kvs vs → Pairs (mixKind X.prog X.w) es vs → ∃ as bs, ReadsAll s.heap (es.map (·.key)) (ps.map (·.1)) as ∧ ReadsAll s.heap (es.map (·.val)) (ps.map (·.2)) bs ∧ sysModules ∉ as ∧ sysModules ∉ bs
  | [], _, _, _, h, r, p => by
    cases h; cases r; cases p
    exact ⟨_, _, .nil, .nil, by simp, by simp⟩
  | (_, d) :: ps, _, _, _, h, r, p => by
    cases h with
    | cons h1 h2 =>
      cases r with
      | cons r1 r2 =>
        cases p with
        | cons p1 p2 p3 =>
          obtain ⟨as, q1, n1⟩ := Dv.rds I hb d _ _ h1 r1.2
          obtain ⟨bs, cs, q2, q3, n2, n3⟩ := DvK.rds I hb ps _ _ _ h2 r2 p3
          have ek := r1.1
          rcases keyIs_shape p1 with ⟨i, t, e1, e2⟩ | ⟨x, t, e1, e2⟩
          · rw [← ek] at e1
            dsimp only at e1
            subst e1
            refine ⟨_, _, .cons (by dsimp only; rw [e2]; exact .int i t) q2, .cons (by dsimp only; rw [p2]; exact q1) q3, by simpa using n2, by simp only [List.mem_append, not_or]; exact ⟨n1, n3⟩⟩
          · rw [← ek] at e1
            dsimp only at e1
            subst e1
            refine ⟨_, _, .cons (by dsimp only; rw [e2]; exact .str x t) q2, .cons (by dsimp only; rw [p2]; exact q1) q3, by simpa using n2, by simp only [List.mem_append, not_or]; exact ⟨n1, n3⟩⟩
end
end
/-- a datum of any kind that may be shown -/
structure Shv (d : PyData) : Prop where
  sh : d.showable = true
  dp : d.depth ≤ 20
  sz : d.shown.length ≤ sizeLine
def rRepv : List V → Hp → VK → Prop := fun vs H Q => ∃ v d S, vs = [v] ∧ Dv S H v d ∧ Shv d ∧ Q (.str d.shown) H
theorem call_repv {X : Cx} (hb : Hsb X.base) (hG : X.A.guards = some []) (hu : X.A.units + 64 < cLine) : CallR X (.builtin "repr") rRepv := by
  intro pins s σ H vs us Q I r h
  obtain ⟨v, d, S, rfl, hd, sh, q⟩ := h
  obtain ⟨u, rfl, ru⟩ : ∃ u, us = [u] ∧ RelV v u := by
    cases r with
    | cons a b => cases b; exact ⟨_, rfl, a⟩
  obtain ⟨as, hr, hn⟩ := Dv.rds I hb d v u hd ru
  have fin : ∀ tk, EP X pins σ Q (.str d.shown tk) { s with toks := s.toks + 1 } := fun tk => ⟨.str d.shown, H, I.tok _, ⟨tk, rfl⟩, q⟩
  have ref : ∀ a, u = Value.ref a → wpAny (model X.prog X.w) X.A (call (.builtin "repr") [u]) (EP X pins σ Q) X.xe s := fun a e => by
    subst e
    exact repr_of_reads' hr sh.sh (fun _ => hn) hG (by have := sh.dp; omega) (fun _ _ e => e) (fun h' t tk k => ⟨.str d.shown, H, I.kept k, ⟨t, rfl⟩, q⟩) sh.sz
  cases hd with
  | non => cases ru; exact PySem.P.repr_of_none (fin _)
  | bl b => cases ru; exact PySem.P.repr_of_bool (fin _)
  | int i =>
    obtain ⟨t, rfl⟩ := ru
    exact PySem.P.repr_of_int (by have := sh.sh; simpa only [PyData.showable, decide_eq_true_eq] using this) (fin _)
  | str x =>
    obtain ⟨t, rfl⟩ := ru
    exact PySem.P.repr_of_str (fin _) sh.sz
  | lst _ _ _ => exact ref _ ru
  | tup _ _ _ => exact ref _ ru
  | dct _ _ _ => exact ref _ ru
section

end
section
variable {X : Cx} {e : Expr} {te : TE} {p pos : Pos}
theorem pRepv (B : Bn X.mg) (hb : Hsb X.base) (hG : X.A.guards = some []) (hu : X.A.units + 64 < cLine) (h : PE X e te) (hg : Gl X "repr" := by rfl) (he : starEach [e] X.env = (false, eval e X.env) :: starEach [] X.env := by rfl) : PE X (.Call (.Name "repr" p) [e] [] pos) (tCB rRepv (tCons te tNil)) :=
  pe_callB (call_repv hb hG hu) hg B.repr (by decide +kernel) (pa_cons h pa_nil he) (by decide) (by decide) he
/-! x == [], x != () -/
def rEqZ (K : PySem.W.Frag) : R2 := fun x y H Q => ∃ a b xs, x = .ref a ∧ y = .ref b ∧ SqL K H a xs ∧ SqL K H b [] ∧ Q (.bl xs.isEmpty) H
def rNeZ (K : PySem.W.Frag) : R2 := fun x y H Q => ∃ a b xs, x = .ref a ∧ y = .ref b ∧ SqT K H a xs ∧ SqT K H b [] ∧ Q (.bl (!xs.isEmpty)) H
theorem op_eqZ (hu : X.A.units < cLine) : OpR X (compareOp .Eq) (rEqZ X.K) := by
  intro pins s σ H x y v u Q I rx ry h
  obtain ⟨a, b, xs, rfl, rfl, h1, h2, q⟩ := h
  cases rx
  cases ry
  obtain ⟨us, r1, p1, _⟩ := I.list h1
  obtain ⟨ws, r2, p2, _⟩ := I.list h2
  cases r2
  have fin : EP X pins σ Q (.bool xs.isEmpty) s := ⟨.bl _, H, I, rfl, q⟩
  cases r1 with
  | nil => exact SeqAt.eq_listAt (e := fun _ => true) p1.isList p2.isList rfl hu (fun j h1 _ => absurd h1 (Nat.not_lt_zero j)) fin
  | cons _ _ => exact SeqAt.eq_list_lengthsAt p1.isList p2.isList (by simp) hu fin
theorem op_neZ (hu : X.A.units < cLine) : OpR X (compareOp .NotEq) (rNeZ X.K) := by
  intro pins s σ H x y v u Q I rx ry h
  obtain ⟨a, b, xs, rfl, rfl, h1, h2, q⟩ := h
  cases rx
  cases ry
  obtain ⟨us, r1, p1, _⟩ := I.tuple h1
  obtain ⟨ws, r2, p2, _⟩ := I.tuple h2
  cases r2
  have fin : EP X pins σ Q (.bool (!xs.isEmpty)) s := ⟨.bl _, H, I, rfl, q⟩
  have key := SeqAt.RcNeAt.tuples (A := X.A) (e := fun _ => true) p1 p2 hu (fun j _ h2 => absurd h2 (Nat.not_lt_zero j))
  refine key X.prog X.w X.xe _ ?_
  cases r1 with
  | nil => exact fin
  | cons _ _ => simpa using fin
theorem opEqZ (K : PySem.W.Frag) (hu : X.A.units + 64 < cLine) (h : X.K = K := by rfl) : OpR X (compareOp .Eq) (rEqZ K) := h ▸ op_eqZ (by omega)
theorem opNeZ (K : PySem.W.Frag) (hu : X.A.units + 64 < cLine) (h : X.K = K := by rfl) : OpR X (compareOp .NotEq) (rNeZ K) := h ▸ op_neZ (by omega)
end
section

end
end Kz
set_option Elab.async false
set_option linter.all false
set_option maxRecDepth 100000
set_option maxHeartbeats 4000000
/-! Kz: the end of a law whose values are of all kinds -/
namespace Kz
open PySem PySem.Spec PyProof.Rows L2
theorem law_callS {P : Program} {w : World} {K : PySem.W.Frag} {mg mb : Str → Option Value} {k : Nat} {fa a : Addr} {cs : List (Addr × Addr)} {fd : FuncData} {x : Str} {sp : Sp} {s₁ : Shared} {vs : List Value} {ns : List Int}
    (KX : K.In s₁.heap) (hns : s₁.heap.Ns mainGlobals mg) (hb : s₁.heap.Ns builtinsNs mb) (hbb : ∀ x : Str, x ≠ "__name__" → mb x = bootBuiltins x) (hsm : ∃ o es ep, s₁.heap.get? sysModules = some o ∧ o.data = .dict es ep) (hlim : s₁.heap.NoLimit) (hg : s₁.gens = #[])
    (hT : ∀ p ∈ cs, s₁.heap.get? p.2 = some { cls := .none, data := .fields #[] }) (nT : ∀ p ∈ cs, K.lookup p.2 = none) (C : ∀ p ∈ cs, PySem.W.CodeHd s₁.heap p.1 p.2)
    (hbm : ∃ (bm : Addr) (ob : Obj), mg "__builtins__" = some (.ref bm) ∧ bm ≠ builtinsNs ∧ s₁.heap.get? bm = some ob ∧ ob.cls = .type "module" ∧ ob.dict = some builtinsNs ∧ ob.data = .plain)
    (ha : s₁.heap.get? a = some { cls := .type "list", data := .seq vs.toArray }) (hi : IntsAre vs ns) (hl : ns.length ≤ sizeLine) (hr : Room k callerA)
    (F : ∀ base : Heap, K.In base → base.Ns mainGlobals mg → Hsb base → (∀ p ∈ cs, GxR.TabB base mg p.1 p.2) → FnG P w K mg base k fa fd [x] sp) (hbind : ∀ (s : Shared) (u : Value), BindsTo s fd ⟨[u], []⟩ [(x, u)])
    (hsp : ∀ H : Hp, (∀ p ∈ cs, H p.2 = some (.tbl #[])) → SqL K H a (ns.map V.int) → sp [.ref a] H (fun v _ => v = .bl true) E0) :
    codeAny (model P w) callerA (.call (.ref fa) ⟨[.ref a], []⟩) (fun r s' => r = .ok (.ret (.bool true)) ∧ OldK s₁.heap s'.heap ∧ s'.os = s₁.os ∧ AllBare s'.gens) s₁ := by
  have rv := vals_ints hi
  have lenV := hi.length
  have isT : ∀ b : Addr, b ∈ cs.map (·.2) → s₁.heap.get? b = some { cls := .none, data := .fields #[] } := by
    intro b hb
    obtain ⟨p, hp, e⟩ := List.mem_map.mp hb
    rw [← e]
    exact hT p hp
  have memT : ∀ p ∈ cs, p.2 ∈ cs.map (·.2) := fun p hp => List.mem_map_of_mem hp
  have aT : a ∉ cs.map (·.2) := by
    intro z
    have q := isT a z
    rw [ha] at q
    have z' := congrArg Obj.data (Option.some.inj q)
    cases z'
  have core : ∀ H : Hp, (∀ p ∈ cs, H p.2 = some (.tbl #[])) → (∀ b, H b = none ∨ b ∈ cs.map (·.2) ∨ ∃ o xs, H b = some (.frz o (.lst xs))) → SqL K H a (ns.map V.int) → HOk P w H s₁.heap →
      (∀ b, H b ≠ none → b = a ∨ b ∈ cs.map (·.2)) → (H a ≠ none → K.lookup a = none) →
      codeAny (model P w) callerA (.call (.ref fa) ⟨[.ref a], []⟩) (fun r s' => r = .ok (.ret (.bool true)) ∧ OldK s₁.heap s'.heap ∧ s'.os = s₁.os ∧ AllBare s'.gens) s₁ := by
    intro H hH hO hS hok hA hK
    have out : ∀ {b : Addr} {o : Obj}, s₁.heap.get? b = some o → H b = none → (hidT s₁.heap H).get? b = some o := fun e n => hidT_get e n
    -- an object that is neither the script nor a table is not tracked
    have off : ∀ {b : Addr} {o : Obj}, s₁.heap.get? b = some o → (∀ us n, o.data ≠ .seq us n) → o.data ≠ .fields #[] → H b = none := by
      intro b o e h1 h2
      cases q : H b with
      | none => rfl
      | some u =>
        rcases hA b (by rw [q]; simp) with e' | e'
        · subst e'
          rw [ha] at e
          cases e
          exact absurd rfl (h1 _ _)
        · rw [isT b e'] at e
          cases e
          exact absurd rfl h2
    have nsK : ∀ {b : Addr} {m : Str → Option Value}, s₁.heap.Ns b m → (hidT s₁.heap H).Ns b m := by
      rintro b m ⟨o, es, ep, e, d, r⟩
      refine ⟨o, es, ep, out e (off e (fun us n z => ?_) fun z => ?_), d, r⟩
      · rw [d] at z; cases z
      · rw [d] at z; cases z
    have hKb : K.In (hidT s₁.heap H) := by
      intro b o e
      refine out (KX b o e) ?_
      cases q : H b with
      | none => rfl
      | some u =>
        exfalso
        rcases hA b (by rw [q]; simp) with e' | e'
        · subst e'
          rw [hK (by rw [q]; simp)] at e
          cases e
        · obtain ⟨p, hp, ep⟩ := List.mem_map.mp e'
          rw [← ep, nT p hp] at e
          cases e
    have hM : L2.Mod K mg (hidT s₁.heap H) := ⟨hKb, nsK hns, ⟨mb, nsK hb, hbb⟩, let ⟨mc, h1, h2⟩ := hlim; ⟨mc, nsK h1, h2⟩⟩
    have TB : ∀ p ∈ cs, GxR.TabB (hidT s₁.heap H) mg p.1 p.2 := by
      intro p hp
      have hTp := hT p hp
      refine ⟨?_, ?_, fun z => ?_⟩
      · obtain ⟨o, us, file, tf, flags, tg, inF, text, tt, e1, r1, r2, r3, rest⟩ := C p hp
        refine ⟨o, us, file, tf, flags, tg, inF, text, tt, out e1 (off e1 (fun vs n z => ?_) fun z => ?_), r1, r2, r3, rest⟩
        · rw [r2] at z; cases z
        · rw [r2] at z
          cases z
          simp at r3
      · obtain ⟨bm, ob, b1, b2, b3, b4, b5, b6⟩ := hbm
        refine ⟨bm, ob, b1, b2, fun q => ?_, fun q => ?_, out b3 (off b3 (fun vs n z => ?_) fun z => ?_), b4, b5, b6⟩
        · obtain ⟨o, es, ep, e, hd, _⟩ := hns
          rw [q, e] at b3
          cases b3
          rw [hd] at b6; cases b6
        · rw [q, hTp] at b3
          cases b3
          cases b6
        · rw [b6] at z; cases z
        · rw [b6] at z; cases z
      · obtain ⟨o, es, ep, e, hd, _⟩ := hns
        rw [z, hTp] at e
        cases e
        cases hd
    have e0 : Env0 P w K mg (hidT s₁.heap H) callerA [] s₁ H := ⟨rfl, hM, fun b o e => of_hidT e, Nat.le_of_eq (hidT_size _ _), trivial, fun b hb => absurd (show b ∈ ([] : List Addr) from hb) (by simp), hok, .of_eq hg⟩
    refine codeAny_mono ((F _ hKb (nsK hns) (let ⟨o, es, ep, e, d⟩ := hsm; ⟨o, out e (off e (fun us n z => by rw [d] at z; cases z) fun z => by rw [d] at z; cases z)⟩) TB).run callerA [] s₁ H ⟨[.ref a], []⟩ [.ref a] [.ref a] _ hr rfl e0 (hbind s₁ (.ref a)) (.cons rfl .nil) (hsp H hH hS)) fun r s' h => ?_
    cases r with
    | error e => exact False.elim h
    | ok fl =>
      cases fl with
      | next => exact False.elim h
      | brk => exact False.elim h
      | cont => exact False.elim h
      | ret u =>
        obtain ⟨v, H', os, bare, un, hok', r', q⟩ := h
        have q' : v = .bl true := q
        subst q'
        obtain rfl : u = Value.bool true := r'
        have key : ∀ b o, b ∉ cs.map (·.2) → s₁.heap.get? b = some o → s'.heap.get? b = some o := by
          intro b o nb e
          rcases hO b with q | z | ⟨ob, xs, z⟩
          · exact un.keep b o e q (by intro z; exact absurd (show b ∈ ([] : List Addr) from z) (by simp)) (by simp)
          · exact absurd z nb
          · obtain ⟨e1, _⟩ := hok b _ z
            obtain ⟨e2, _⟩ := hok' b _ (un.frzs b ob _ z)
            rw [e] at e1; cases e1
            exact e2
        have grown : ∀ p ∈ cs, ∃ more : Array Value, s'.heap.get? p.2 = some { cls := .none, data := .fields more } := by
          intro p hp
          obtain ⟨more, z⟩ := un.tbls p.2 #[] (hH p hp)
          exact ⟨_, hok' p.2 _ z⟩
        refine ⟨rfl, ⟨fun b o e => ?_, fun b o e => ?_⟩, os, bare⟩
        · by_cases hb : b ∈ cs.map (·.2)
          · obtain ⟨p, hp, ep⟩ := List.mem_map.mp hb
            obtain ⟨more, hm⟩ := grown p hp
            rw [← ep] at e ⊢
            rw [hT p hp] at e
            cases e
            exact .inr (.inl ⟨((C p hp).tab (hT p hp)).isCodeTable, rfl, #[], more, rfl, by rw [Array.empty_append]; exact hm⟩)
          · exact .inl (key b o hb e)
        · by_cases hb : b ∈ cs.map (·.2)
          · obtain ⟨p, hp, ep⟩ := List.mem_map.mp hb
            obtain ⟨more, hm⟩ := grown p hp
            rw [← ep]
            exact ⟨_, hm⟩
          · exact ⟨o, key b o hb e⟩
  have hTb : ∀ (H : Hp) (b : Addr), H b = some (.tbl #[]) → b ∈ cs.map (·.2) → ObjOk P w H s₁.heap b (.tbl #[]) := fun H b _ hb => isT b hb
  cases hk : K.lookup a with
  | some o =>
    have e := KX a o hk
    rw [ha] at e
    cases e
    let H : Hp := fun b => if b ∈ cs.map (·.2) then some (.tbl #[]) else none
    have hin : ∀ b, b ∈ cs.map (·.2) → H b = some (.tbl #[]) := fun b h => if_pos h
    have hno : ∀ b, b ∉ cs.map (·.2) → H b = none := fun b h => if_neg h
    refine core H (fun p hp => hin _ (memT p hp)) (fun b => ?_) (.inr ⟨_, vs.toArray, _, hk, rfl, rfl, rfl, by rw [List.size_toArray, lenV]; exact hl, by simpa using rv⟩) (fun b u z => ?_) (fun b z => ?_) fun z => absurd (hno a aT) z
    · by_cases hb : b ∈ cs.map (·.2)
      · exact .inr (.inl hb)
      · exact .inl (hno b hb)
    · by_cases hb : b ∈ cs.map (·.2)
      · rw [hin b hb] at z; cases z
        exact isT b hb
      · rw [hno b hb] at z; cases z
    · by_cases hb : b ∈ cs.map (·.2)
      · exact .inr hb
      · exact absurd (hno b hb) z
  | none =>
    let H : Hp := fun b => if b = a then some (.frz { cls := .type "list", data := .seq vs.toArray } (.lst (ns.map V.int))) else if b ∈ cs.map (·.2) then some (.tbl #[]) else none
    have hat : H a = some (.frz { cls := .type "list", data := .seq vs.toArray } (.lst (ns.map V.int))) := if_pos rfl
    have hin : ∀ b, b ∈ cs.map (·.2) → H b = some (.tbl #[]) := fun b h => (if_neg (show ¬ b = a from fun z => aT (by rw [← z]; exact h))).trans (if_pos h)
    have hno : ∀ b, b ≠ a → b ∉ cs.map (·.2) → H b = none := fun b h1 h2 => (if_neg h1).trans (if_neg h2)
    refine core H (fun p hp => hin _ (memT p hp)) (fun b => ?_) (.inl (.inr ⟨_, hat⟩)) (fun b u z => ?_) (fun b z => ?_) fun _ => hk
    · by_cases hb : b = a
      · exact .inr (.inr ⟨_, _, by rw [hb]; exact hat⟩)
      · by_cases hb2 : b ∈ cs.map (·.2)
        · exact .inr (.inl hb2)
        · exact .inl (hno b hb hb2)
    · by_cases hb : b = a
      · subst hb
        rw [hat] at z; cases z
        exact ⟨ha, by rw [List.length_map]; exact hl, vs, _, rv, ha⟩
      · by_cases hb2 : b ∈ cs.map (·.2)
        · rw [hin b hb2] at z; cases z
          exact isT b hb2
        · rw [hno b hb hb2] at z; cases z
    · by_cases hb : b = a
      · exact .inl hb
      · by_cases hb2 : b ∈ cs.map (·.2)
        · exact .inr hb2
        · exact absurd (hno b hb hb2) z
/-- the goal that the head leaves: tn, the names of the defs that hold generator expressions -/
theorem walk_S {l : PySem.W.OpenLaw} {n k : Nat} {q : Program} {loose : List Str} {XP : (Str → Option Value) → Heap → Prop} {YP : World → Heap → Prop} {d : DefRec} {K : Params → PySem.W.Frag} {x : Str} (tn : List Str)
    (hq : importsNone q = true) (hn : l.most = some n) (hn2 : n ≤ sizeLine) (hdf : d.params.defaults = []) (hr : Room k callerA) (hY : ∀ (w : World) (h : Heap), YP w h → (K w.params).In h)
    (htn : ∀ y ∈ tn, ∃ r, (recsOf q).find? (fun e => e.name == y) = some r)
    (F : ∀ (w : World) (mg : Str → Option Value) (fa : Addr) (h : Heap), (K w.params).In h → h.Ns mainGlobals mg → mg d.name = some (.ref fa) →
      ∃ (fd : FuncData) (cs : List (Addr × Addr)) (sp : Sp), (∀ p ∈ cs, ∃ y ∈ tn, PySem.W.tabIn (K w.params) y = some p) ∧ (∀ p ∈ cs, (K w.params).lookup p.2 = none) ∧ (∀ (s : Shared) (u : Value), BindsTo s fd ⟨[u], []⟩ [(x, u)]) ∧
        (∀ (H : Hp) (a : Addr) (ns : List Int), ns.length ≤ n → (∀ z ∈ ns, Builtin.Int.intBits z ≤ 1048576) → (∀ p ∈ cs, H p.2 = some (.tbl #[])) → SqL (K w.params) H a (ns.map V.int) → sp [.ref a] H (fun v _ => v = .bl true) E0) ∧
        ∀ base : Heap, (K w.params).In base → base.Ns mainGlobals mg → Hsb base → (∀ p ∈ cs, GxR.TabB base mg p.1 p.2) → FnG l.prog w (K w.params) mg base k fa fd [x] sp) :
    PySem.W.WalkO q loose XP YP l.row.toRowW d [] (fun f vs => PySem.call f vs) := by
  refine Att.attach_callB hn hdf fun w s₀ s₁ mg mb fa o pm cd doc a vs ns G Y ho hd hcd hmg hobj hints hlen hbits hg => ?_
  have KX := hY w _ Y
  obtain ⟨fd, cs, sp, ht, nT, hb, hsp, hF⟩ := F w mg fa _ KX G.T.g hmg
  have tabs : ∀ p ∈ cs, PySem.W.CodeHd s₁.heap p.1 p.2 ∧ s₁.heap.get? p.2 = some (PySem.W.tabObj #[]) := fun p hp => by
    obtain ⟨y, hy, e⟩ := ht p hp
    obtain ⟨r, hr⟩ := htn y hy
    exact PySem.W.tab_of (c := p.1) (P := p.2) G.T KX hr e
  exact law_callS KX G.T.g G.T.b G.T.builtins (let ⟨mm, ⟨o, es, ep, e, d, _⟩, _⟩ := (G.T.seer hq).mods; ⟨o, es, ep, e, d⟩) G.T.nolimit hg (fun p hp => (tabs p hp).2) nT (fun p hp => (tabs p hp).1) G.T.bmain hobj hints (Nat.le_trans hlen hn2) hr hF hb (fun H hH hS => hsp H a ns hlen hbits hH hS)
end Kz
set_option Elab.async false
set_option linter.all false
set_option maxRecDepth 100000
set_option maxHeartbeats 4000000
/-! Kz: a tuple turned about; ints that may be bools; texts -/
namespace Kz
open PySem PySem.Spec PyProof.Rows L2
section
variable {prog : Program} {w : World} {A : Around} {E : Value → Shared → Prop} {s : Shared}
theorem adj_rev (n : Nat) : Builtin.Slice.sliceAdjust none none (-1) (n : Int) = ((n : Int) - 1, -1) := rfl
theorem plc_rev (n : Nat) : Builtin.Slice.slicePlaces ((n : Int) - 1) (-1) (-1) = n := by
  unfold Builtin.Slice.slicePlaces
  have h1 : ¬ ((-1 : Int) > 0) := by omega
  simp only [h1, if_false]
  have e : (- (-1 : Int)) = 1 := rfl
  rw [e, Int.ediv_one]
  split <;> omega
theorem applied_rev {sl : Addr} {vk : Value} {n : Nat} {Q : Int × Int × Nat → Shared → Prop} (hs : s.heap.IsSliceOf sl .none .none vk) (pk : IsPart vk (some (-1))) (h : Q ((n : Int) - 1, -1, n) s) :
    wpAny (model prog w) A (Builtin.Slice.sliceApplied (.ref sl) (pure (n : Int))) Q E s := by
  obtain ⟨os, hos, hcs, hds⟩ := id hs
  unfold Builtin.Slice.sliceApplied Builtin.Slice.sliceFields
  refine wpAny_bind (wpAny_bind (wpAny_field hos hds (x := .none) rfl (wpAny_bind (wpAny_field hos hds (x := .none) rfl (wpAny_bind (wpAny_field hos hds (x := vk) rfl (wpAny_pure ?_)))))))
  refine wpAny_bind (HT.slicePart_ pk ?_)
  show wpAny _ _ (if ((-1 : Int) == 0) = true then _ else _) _ _ s
  rw [if_neg (by decide)]
  refine wpAny_bind (HT.slicePart_ .none (wpAny_bind (HT.slicePart_ .none (wpAny_bind (wpAny_pure ?_)))))
  show wpAny _ _ (match Builtin.Slice.sliceAdjust none none (-1) (n : Int) with | (lo, hi) => pure (lo, (-1 : Int), Builtin.Slice.slicePlaces lo hi (-1))) _ _ s
  rw [adj_rev n]
  show wpAny _ _ (pure ((n : Int) - 1, (-1 : Int), Builtin.Slice.slicePlaces ((n : Int) - 1) (-1) (-1))) _ _ s
  rw [plc_rev]
  exact wpAny_pure h
theorem fm_rev {α : Type} (xs : List α) : ∀ n, n ≤ xs.length → (List.range n).filterMap (fun k => xs[n - 1 - k]?) = (xs.take n).reverse
  | 0, _ => rfl
  | n + 1, h => by
    have ih := fm_rev xs n (by omega)
    rw [List.range_succ_eq_map, List.filterMap_cons]
    have e0 : xs[n + 1 - 1 - 0]? = some (xs[n]'(by omega)) := List.getElem?_eq_getElem (by omega)
    rw [e0]
    simp only [List.filterMap_map]
    have e1 : ((fun k => xs[n + 1 - 1 - k]?) ∘ Nat.succ) = fun k => xs[n - 1 - k]? := by
      funext k
      show xs[n + 1 - 1 - (k + 1)]? = _
      congr 1
      omega
    rw [e1, ih, List.take_add_one, List.getElem?_eq_getElem (show n < xs.length by omega), List.reverse_append]
    rfl
theorem fm_congr {α β : Type} {f g : α → Option β} : ∀ {l : List α}, (∀ m ∈ l, f m = g m) → l.filterMap f = l.filterMap g
  | [], _ => rfl
  | a :: l, h => by
    rw [List.filterMap_cons, List.filterMap_cons, h a (by simp), fm_congr fun m hm => h m (List.mem_cons_of_mem _ hm)]
theorem pick_rev (xs : Array Value) : ((List.range xs.size).filterMap fun (m : Nat) => xs[((xs.size : Int) - 1 + (m : Int) * (-1)).toNat]?).toArray = xs.toList.reverse.toArray := by
  have h := fm_rev xs.toList xs.size (by simp)
  have e : ∀ m, m ∈ List.range xs.size → xs[((xs.size : Int) - 1 + (m : Int) * (-1)).toNat]? = xs.toList[xs.size - 1 - m]? := fun m hm => by
    have := List.mem_range.mp hm
    have e2 : ((xs.size : Int) - 1 + (m : Int) * (-1)).toNat = xs.size - 1 - m := by omega
    rw [e2, Array.getElem?_toList]
  rw [fm_congr e, h]
  rw [List.take_of_length_le (by simp)]
theorem getItem_tup_rev {t sl : Addr} {items : Array Value} {vk : Value} {Q : Value → Shared → Prop} (ht : IsTup s.heap t items) (hs : s.heap.IsSliceOf sl .none .none vk) (pk : IsPart vk (some (-1)))
    (h : Q (.ref s.heap.objs.size) { s with heap := s.heap.push { cls := .type "tuple", data := .seq items.toList.reverse.toArray } }) (hz : items.size ≤ sizeLine) : wpAny (model prog w) A (getItem (.ref t) (.ref sl)) Q E s := by
  have htake : sizeOk (.seq items.toList.reverse.toArray) := by
    show items.toList.reverse.toArray.size ≤ sizeLine
    simpa using hz
  obtain ⟨os, hos, hcs, hds⟩ := id hs
  have hTs : s.TypeIs (.ref sl) "slice" := ⟨os, hos, hcs⟩
  unfold getItem
  try with_reducible refine wpAny_holding ?_
  first | refine wpAny_bind (wpAny_pure ?_) | skip
  refine wpAny_bind (wpAny_sequenceKey ht.typeIs (by decide) ?_)
  refine wpAny_bind (wpAny_callSpecial?_slot (name := Str.ofString "__getitem__") ht.typeIs PyProof.Rows.slot_tuple_getitem (wpAny_call_entry PyProof.Rows.slot_tuple_getitem ht.typeIs PyProof.Rows.entry_tuple_getitem ?_ (PyProof.Rows.args_tuple_getitem _ _)))
  show wpAny _ _ (Builtin.Tuple.tupleItemsOf (.ref t) >>= _) _ _ s
  refine wpAny_bind (PyProof.Rows.tupleItemsOf_ ht ?_)
  refine wpAny_bind (wpAny_typeOf hTs ?_)
  rw [if_pos (by decide)]
  refine wpAny_bind (applied_rev hs pk ?_)
  have hno : ¬ (((items.size : Int) - 1 == 0 && (-1 : Int) == 1 && items.size == items.size) = true) := by
    intro q
    rw [Bool.and_eq_true, Bool.and_eq_true] at q
    exact absurd (eq_of_beq q.1.2) (by decide)
  show wpAny _ _ (if ((items.size : Int) - 1 == 0 && (-1 : Int) == 1 && items.size == items.size) = true then _ else _) _ _ s
  rw [if_neg hno, pick_rev]
  first
    | exact wpAny_bind (m := Builtin.Tuple.tupleExact _) (wpAny_newObj_type (wpAny_pure ⟨_, rfl, wpAny_pure h⟩) htake)
    | exact wpAny_bind (m := Builtin.Tuple.tupleExact _) (wpAny_newObj_type (wpAny_bind (wpAny_pure (wpAny_pure ⟨_, rfl, wpAny_pure h⟩))) htake)
    | exact wpAny_bind (wpAny_bind (m := Builtin.Tuple.tupleExact _) (wpAny_newObj_type (wpAny_pure (wpAny_pure ⟨_, rfl, wpAny_pure h⟩)) htake))
    | exact wpAny_bind (wpAny_bind (m := Builtin.Tuple.tupleExact _) (wpAny_newObj_type (wpAny_pure ⟨_, rfl, wpAny_pure h⟩) htake))
end
section
variable {X : Cx}
def tRevT (K : PySem.W.Frag) (te : TE) : TE := fun σ H Q => te σ H fun x H1 => ∃ a xs, x = .ref a ∧ SqT K H1 a xs ∧ ∀ p, H1 p = none → Q (.ref p) (upd H1 p (.tup xs.reverse))
theorem pe_revT {e : Expr} {te : TE} {k : Nat} {p1 p2 p3 pos : Pos} (he : PE X e te) : PE X (.Subscript e (.Slice none none (some (.UnaryOp .USub (.Constant (.int 1) k p1) p2)) p3) pos) (tRevT X.K te) := by
  refine ⟨fun pins s σ H Q I h => Subscript_ (thn (he.run pins s σ H _ I h) fun v s1 ⟨x, H1, I1, r1, q1⟩ => ?_)⟩
  obtain ⟨a, xs, rfl, hx, q⟩ := q1
  cases r1
  have hst : PO X (some (.UnaryOp .USub (.Constant (.int 1) k p1) p2)) (tPart (tUn (rU fun i => .int (-i)) (tC (.int 1)))) := po_some (pe_un un_neg pe_int)
  refine wpAny_Slice (thn (po_none.run pins s1 σ H1 (fun o H2 => o = none ∧ H2 = H1) I1 ⟨rfl, rfl⟩) fun vl s2 ⟨l, H2, I2, pl, el, e2⟩ => ?_)
  subst el e2
  refine thn (po_none.run pins s2 σ H2 (fun o H3 => o = none ∧ H3 = H2) I2 ⟨rfl, rfl⟩) fun vu s3 ⟨u, H3, I3, pu, eu, e3⟩ => ?_
  subst eu e3
  refine thn (hst.run pins s3 σ H3 (fun o H4 => o = some (-1) ∧ H4 = H3) I3 ⟨1, rfl, -1, rfl, rfl, rfl⟩) fun vs s4 ⟨o, H4, I4, ps, eo, e4⟩ => ?_
  subst eo e4
  cases pl
  cases pu
  have I5 : Inv X pins σ H4 { s4 with heap := s4.heap.push { cls := .type "slice", data := .fields #[.none, .none, vs] } } := I4.kept (t' := s4.toks) fun b ob q => Heap.get?_push_of_some _ q
  obtain ⟨us, r, ht, hz⟩ := I5.tuple hx
  have hlen := r.length
  show wpAny (model X.prog X.w) X.A (subscriptTail e (.Slice none none (some (.UnaryOp .USub (.Constant (.int 1) k p1) p2)) p3) (.ref a) (.ref s4.heap.objs.size)) (EP X pins σ Q) X.xe { s4 with heap := s4.heap.push { cls := .type "slice", data := .fields #[.none, .none, vs] } }
  refine tail_any (ops := [.ref a, .ref s4.heap.objs.size]) ht.typeIs (PyProof.Rows.slot_tuple_getitem.lookup) ?_ (by with_unfolding_all rfl)
  refine getItem_tup_rev ht (Heap.IsSliceOf.new _ .none .none vs) ps ?_ (by rw [List.size_toArray]; omega)
  refine ⟨.ref _, _, I5.laid (t' := s4.toks) (o := .tup xs.reverse) (fun b ob q => Heap.get?_push_of_some _ q) (Nat.le_refl _) ?_, rfl, q _ (I5.hok.fresh (Nat.le_refl _))⟩
  exact ⟨by rw [List.length_reverse]; exact hz, _, r.reverse, IsTup.new _ _⟩
/-! ints that may be bools -/
def NbV (x : V) (i : Int) : Prop := x = .int i ∨ ∃ b : Bool, x = .bl b ∧ i = if b = true then 1 else 0
def rNbL (f : Int → Int → V) : R2 := fun x y H Q => ∃ i j, NbV x i ∧ y = .int j ∧ Q (f i j) H
def rNbR (f : Int → Int → V) : R2 := fun x y H Q => ∃ i j, x = .int i ∧ NbV y j ∧ Q (f i j) H
theorem op_addNb : OpR X (binaryOp .Add) (rNbL fun i j => .int (i + j)) := by
  intro pins s σ H x y v u Q I rx ry h
  obtain ⟨i, j, hx, rfl, q⟩ := h
  obtain ⟨tj, rfl⟩ := ry
  rcases hx with rfl | ⟨b, rfl, rfl⟩
  · obtain ⟨ti, rfl⟩ := rx
    exact PyProof.Rows.add_int ⟨.int _, H, I.tok _, ⟨_, rfl⟩, q⟩
  · cases rx
    exact PySem.IntBool.add_bool_int ⟨.int _, H, I.tok _, ⟨_, rfl⟩, q⟩
theorem op_subNb : OpR X (binaryOp .Sub) (rNbL fun i j => .int (i - j)) := by
  intro pins s σ H x y v u Q I rx ry h
  obtain ⟨i, j, hx, rfl, q⟩ := h
  obtain ⟨tj, rfl⟩ := ry
  rcases hx with rfl | ⟨b, rfl, rfl⟩
  · obtain ⟨ti, rfl⟩ := rx
    exact PyProof.Rows.sub_int ⟨.int _, H, I.tok _, ⟨_, rfl⟩, q⟩
  · cases rx
    exact PySem.IntBool.sub_bool_int ⟨.int _, H, I.tok _, ⟨_, rfl⟩, q⟩
theorem op_subNbR : OpR X (binaryOp .Sub) (rNbR fun i j => .int (i - j)) := by
  intro pins s σ H x y v u Q I rx ry h
  obtain ⟨i, j, rfl, hy, q⟩ := h
  obtain ⟨ti, rfl⟩ := rx
  rcases hy with rfl | ⟨b, rfl, rfl⟩
  · obtain ⟨tj, rfl⟩ := ry
    exact PyProof.Rows.sub_int ⟨.int _, H, I.tok _, ⟨_, rfl⟩, q⟩
  · cases ry
    exact PySem.IntBool.sub_int_bool ⟨.int _, H, I.tok _, ⟨_, rfl⟩, q⟩
theorem op_eqNb : OpR X (compareOp .Eq) (rNbL fun i j => .bl (i == j)) := by
  intro pins s σ H x y v u Q I rx ry h
  obtain ⟨i, j, hx, rfl, q⟩ := h
  obtain ⟨tj, rfl⟩ := ry
  rcases hx with rfl | ⟨b, rfl, rfl⟩
  · obtain ⟨ti, rfl⟩ := rx
    exact SeqAt.RcAt.int_int _ _ _ _ _ _ _ _ ⟨.bl _, H, I, rfl, q⟩
  · cases rx
    exact SeqAt.RcAt.bool_int _ _ _ _ _ _ _ ⟨.bl _, H, I, rfl, q⟩
theorem call_strNb : CallR X (.type "str") (fun xs H Q => (∃ i, xs = [.int i] ∧ i.natAbs.log2 < 1920 ∧ Q (.str (toString i)) H) ∨ ∃ b : Bool, xs = [.bl b] ∧ Q (.str (if b then "True" else "False")) H) := by
  intro pins s σ H xs us Q I r h
  rcases h with ⟨i, rfl, hz, q⟩ | ⟨b, rfl, q⟩
  · obtain ⟨u, rfl, t, rfl⟩ := vals1 r
    exact PySem.P.str_of_int hz ⟨.str _, H, I.tok _, ⟨_, rfl⟩, q⟩
  · cases r with
    | cons a r =>
      cases r
      cases a
      exact PySem.P.str_of_bool ⟨.str _, H, I.tok _, ⟨_, rfl⟩, q⟩
end
end Kz
set_option Elab.async false
set_option linter.all false
set_option maxRecDepth 100000
set_option maxHeartbeats 4000000
/-! Kz: any value and a text: ==, != -/
namespace Kz
open PySem PySem.Spec PyProof.Rows L2
open AutoSeq1 (wpAny_loadPart')
open MeetsSeq
theorem str_eq_decl_dict (b : Str) (u : Tok) (l : Addr) (c : Value) (es : Array DictEntry) (ep : Nat) (dd : Option Addr) (sl : Array (Option Value)) :
    Meets (Builtin.«str.__eq__» ⟨[.str b u, .ref l], []⟩) (fun _ R s => s.heap.get? l = some { cls := c, dict := dd, data := .dict es ep, slots := sl } ∧ R (.ok (.ret .notImplemented)) s) :=
  .of_wp fun prog w A R s h => by obtain ⟨hp, g, d, tk, os⟩ := s; obtain ⟨hl, h⟩ := h; wp_walk using wpAny_loadPart' hl, wpAny_load hl; exact ⟨_, rfl, h⟩
theorem str_ne_decl_dict (b : Str) (u : Tok) (l : Addr) (c : Value) (es : Array DictEntry) (ep : Nat) (dd : Option Addr) (sl : Array (Option Value)) :
    Meets (Builtin.«str.__ne__» ⟨[.str b u, .ref l], []⟩) (fun _ R s => s.heap.get? l = some { cls := c, dict := dd, data := .dict es ep, slots := sl } ∧ R (.ok (.ret .notImplemented)) s) :=
  .of_wp fun prog w A R s h => by obtain ⟨hp, g, d, tk, os⟩ := s; obtain ⟨hl, h⟩ := h; wp_walk using wpAny_loadPart' hl, wpAny_load hl; exact ⟨_, rfl, h⟩
section
variable {A : Around} {s : Shared}
/-- a plain dict stands there -/
structure Dct (s : Shared) (l : Addr) : Prop where
  ty : s.TypeIs (.ref l) "dict"
  ob : ∃ cls es ep dd sl, s.heap.get? l = some { cls := cls, dict := dd, data := .dict es ep, slots := sl }
theorem dct_of {prog : Program} {w : World} {Kk : Type} [DecidableEq Kk] {knd : PySem.KeyKind prog w Kk} {l : Addr} {kvs : List (Kk × Value)} (hd : s.heap.DictOf knd l kvs) : Dct s l := by
  obtain ⟨⟨cls, dd, data, sl⟩, es, ep, ho, hx, hdt, _⟩ := id hd
  have hdt' : data = .dict es ep := hdt
  subst hdt'
  exact ⟨hd.typeIs, _, _, _, _, _, ho⟩
theorem rc_dict_str {l : Addr} (b : Str) (u : Tok) (hd : Dct s l) (hu : A.units < cLine) : SeqAt.RcAt A s (.ref l) (.str b u) false := fun prog w E Q h => by
  obtain ⟨ty, cls, es, ep, dd, sl, ho⟩ := hd
  refine SeqAt.rc_eq_decline_or (k := false) ty (typeIs_str s b u) (by decide) F.sub_str_dict F.slot_dict_eq F.slot_str_eq_refl
    (fun Q' hq => wpAny_call_entry F.slot_dict_eq ty F.entry_dict_eq ?_ (F.args_dict_eq_2 _ _))
    (fun _ hq => call_meets F.slot_str_eq_refl (typeIs_str s b u) F.entry_str_eq (F.args_str_eq_2 _ _) (str_eq_decl_dict b u l cls es ep dd sl) ⟨ho, hq⟩)
    (fun _ hq => wpAny_of_eq (rfl : isSame (.ref l) (.str b u) = pure false) hq) (.inr hu) h
  show wpAny _ _ (Builtin.Dict.dictSlotArgs "__eq__" ⟨[.ref l, .str b u], []⟩ >>= _) _ _ s
  refine wpAny_bind ?_
  unfold Builtin.Dict.dictSlotArgs
  refine wpAny_bind (wpAny_notOrdered_dict ty ?_)
  show wpAny _ _ (pure (Value.ref l, Value.str b u)) _ _ s
  refine wpAny_pure ?_
  refine wpAny_bind (wpAny_isInstance (T := "str") (typeIs_str s b u) F.sub_str_dict ?_)
  simp only [Bool.not_false, if_true]
  refine wpAny_bind (wpAny_rule ?_)
  exact wpAny_pure ⟨_, rfl, hq⟩
theorem rcNe_dict_str {l : Addr} (b : Str) (u : Tok) (hd : Dct s l) (hu : A.units < cLine) : SeqAt.RcNeAt A s (.ref l) (.str b u) true := fun prog w E Q h => by
  obtain ⟨ty, cls, es, ep, dd, sl, ho⟩ := hd
  refine SeqAt.rc_ne_decline_or (k := false) ty (typeIs_str s b u) (by decide) F.sub_str_dict F.slot_dict_ne F.slot_str_ne_refl
    (fun Q' hq => wpAny_call_entry F.slot_dict_ne ty F.entry_dict_ne ?_ (F.args_dict_ne_2 _ _))
    (fun _ hq => call_meets F.slot_str_ne_refl (typeIs_str s b u) F.entry_str_ne (F.args_str_ne_2 _ _) (str_ne_decl_dict b u l cls es ep dd sl) ⟨ho, hq⟩)
    (fun _ hq => wpAny_of_eq (rfl : isSame (.ref l) (.str b u) = pure false) hq) (.inr hu) h
  show wpAny _ _ (Builtin.Dict.dictSlotArgs "__ne__" ⟨[.ref l, .str b u], []⟩ >>= _) _ _ s
  refine wpAny_bind ?_
  unfold Builtin.Dict.dictSlotArgs
  refine wpAny_bind (wpAny_notOrdered_dict ty ?_)
  show wpAny _ _ (pure (Value.ref l, Value.str b u)) _ _ s
  refine wpAny_pure ?_
  refine wpAny_bind (wpAny_isInstance (T := "str") (typeIs_str s b u) F.sub_str_dict ?_)
  simp only [Bool.not_false, if_true]
  refine wpAny_bind (wpAny_rule ?_)
  exact wpAny_pure ⟨_, rfl, hq⟩
end
/-- is the text c -/
def eqS (d : PyData) (c : Str) : Bool := match d with
  | .str x => x == c
  | _ => false
section
variable {X : Cx}
theorem eq_any_str {pins : List (Addr × Obj)} {σ : L2.St} {H : Hp} {s : Shared} {S : Addr → Prop} {A : Around} {E : Value → Shared → Prop} (I : Inv X pins σ H s) (hu : A.units < cLine) {d : PyData} {x : V} {v : Value} {c : Str} {t : Tok} {Q : Value → Shared → Prop} (hd : Dv S H x d) (rx : RelV x v) (h : Q (.bool (eqS d c)) s) : wpAny (model X.prog X.w) A (compareOp .Eq v (.str c t)) Q E s := by
  cases hd with
  | non => cases rx; exact SeqAt.RcAt.none_str c t _ _ _ _ h
  | bl b => cases rx; exact SeqAt.RcAt.bool_str b c t _ _ _ _ h
  | int i => obtain ⟨k, rfl⟩ := rx; exact SeqAt.RcAt.int_str i k c t _ _ _ _ h
  | str y => obtain ⟨k, rfl⟩ := rx; exact SeqAt.RcAt.str_str y k c t _ _ _ _ h
  | lst _ e _ =>
    cases rx
    obtain ⟨us, r1, p1, _⟩ := I.list (.inl (.inl e))
    exact SeqAt.RcAt.list_str c t p1.isList hu _ _ _ _ h
  | tup _ e _ =>
    cases rx
    obtain ⟨us, r1, p1, _⟩ := I.tuple (.inl (.inl e))
    exact SeqAt.RcAt.tuple_str c t p1 hu _ _ _ _ h
  | dct _ e _ =>
    cases rx
    obtain ⟨_, _, vs, rel, hdo⟩ := dk_of I.hok e
    exact rc_dict_str c t (dct_of hdo) hu _ _ _ _ h
theorem ne_any_str {pins : List (Addr × Obj)} {σ : L2.St} {H : Hp} {s : Shared} {S : Addr → Prop} {A : Around} {E : Value → Shared → Prop} (I : Inv X pins σ H s) (hu : A.units < cLine) {d : PyData} {x : V} {v : Value} {c : Str} {t : Tok} {Q : Value → Shared → Prop} (hd : Dv S H x d) (rx : RelV x v) (h : Q (.bool (!eqS d c)) s) : wpAny (model X.prog X.w) A (compareOp .NotEq v (.str c t)) Q E s := by
  cases hd with
  | non => cases rx; exact SeqAt.RcNeAt.none_str c t _ _ _ _ h
  | bl b => cases rx; exact SeqAt.RcNeAt.bool_str b c t _ _ _ _ h
  | int i => obtain ⟨k, rfl⟩ := rx; exact SeqAt.RcNeAt.int_str i k c t _ _ _ _ h
  | str y => obtain ⟨k, rfl⟩ := rx; exact SeqAt.RcNeAt.str_str y k c t _ _ _ _ h
  | lst _ e _ =>
    cases rx
    obtain ⟨us, r1, p1, _⟩ := I.list (.inl (.inl e))
    exact SeqAt.RcNeAt.list_str c t p1.isList hu _ _ _ _ h
  | tup _ e _ =>
    cases rx
    obtain ⟨us, r1, p1, _⟩ := I.tuple (.inl (.inl e))
    exact SeqAt.RcNeAt.tuple_str c t p1 hu _ _ _ _ h
  | dct _ e _ =>
    cases rx
    obtain ⟨_, _, vs, rel, hdo⟩ := dk_of I.hok e
    exact rcNe_dict_str c t (dct_of hdo) hu _ _ _ _ h
abbrev rEqSt : R2 := fun x y H Q => ∃ d S c, Dv S H x d ∧ y = .str c ∧ Q (.bl (eqS d c)) H
abbrev rNeSt : R2 := fun x y H Q => ∃ d S c, Dv S H x d ∧ y = .str c ∧ Q (.bl (!eqS d c)) H
theorem op_eqSt (hu : X.A.units + 64 < cLine) : OpR X (compareOp .Eq) rEqSt := by
  intro pins s σ H x y v u Q I rx ry h
  obtain ⟨d, S, c, hd, rfl, q⟩ := h
  obtain ⟨t, rfl⟩ := ry
  exact eq_any_str I (by omega) hd rx ⟨.bl _, H, I, rfl, q⟩
theorem op_neSt (hu : X.A.units + 64 < cLine) : OpR X (compareOp .NotEq) rNeSt := by
  intro pins s σ H x y v u Q I rx ry h
  obtain ⟨d, S, c, hd, rfl, q⟩ := h
  obtain ⟨t, rfl⟩ := ry
  exact ne_any_str I (by omega) hd rx ⟨.bl _, H, I, rfl, q⟩
end

theorem eqAt_dict_str {A : Around} {s : Shared} {l : Addr} (b : Str) (u : Tok) (hd : Dct s l) (hu : A.units < cLine) : SeqAt.EqAt A s (.ref l) (.str b u) false := fun prog w E Q h => by
  unfold eqBool
  refine wpAny_holding ?_
  refine wpAny_ite_split (fun hab => absurd (eq_of_beq hab) nofun) (fun _ => ?_)
  exact wpAny_bind (rc_dict_str b u hd hu prog w E _ (wpAny_truthy_bool h))
/-- a tuple of this one text -/
def eqT1 (ds : List PyData) (c : Str) : Bool := match ds with
  | [d] => eqS d c
  | _ => false
section
variable {X : Cx}
theorem eqAt_any_str {pins : List (Addr × Obj)} {σ : L2.St} {H : Hp} {s : Shared} {S : Addr → Prop} {A : Around} (I : Inv X pins σ H s) (hu : A.units < cLine) {d : PyData} {x : V} {v : Value} {c : Str} {t : Tok} (hd : Dv S H x d) (rx : RelV x v) : SeqAt.EqAt A s v (.str c t) (eqS d c) := by
  cases hd with
  | non => cases rx; exact SeqAt.EqAt.none_str c t
  | bl b => cases rx; exact SeqAt.EqAt.bool_str b c t
  | int i => obtain ⟨k, rfl⟩ := rx; exact SeqAt.EqAt.int_str i k c t
  | str y => obtain ⟨k, rfl⟩ := rx; exact SeqAt.EqAt.str_str y k c t
  | lst _ e _ =>
    cases rx
    obtain ⟨us, r1, p1, _⟩ := I.list (.inl (.inl e))
    exact SeqAt.EqAt.list_str c t p1.isList hu
  | tup _ e _ =>
    cases rx
    obtain ⟨us, r1, p1, _⟩ := I.tuple (.inl (.inl e))
    exact SeqAt.EqAt.tuple_str c t p1 hu
  | dct _ e _ =>
    cases rx
    obtain ⟨_, _, vs, rel, hdo⟩ := dk_of I.hok e
    exact eqAt_dict_str c t (dct_of hdo) hu
abbrev rEqT1 (K : PySem.W.Frag) : R2 := fun x y H Q => ∃ a b S xs ds c, x = .ref a ∧ y = .ref b ∧ SqT K H a xs ∧ DvL S H xs ds ∧ SqT K H b [.str c] ∧ Q (.bl (eqT1 ds c)) H
theorem op_eqT1 (hu : X.A.units + 64 < cLine) : OpR X (compareOp .Eq) (rEqT1 X.K) := by
  intro pins s σ H x y v u Q I rx ry h
  obtain ⟨a, b, S, xs, ds, c, rfl, rfl, h1, hd, h2, q⟩ := h
  cases rx
  cases ry
  obtain ⟨us, r1, p1, _⟩ := I.tuple h1
  obtain ⟨ws, r2, p2, _⟩ := I.tuple h2
  obtain ⟨t, rfl⟩ : ∃ t, ws = [Value.str c t] := by
    cases r2 with
    | cons a b =>
      cases b
      obtain ⟨t, rfl⟩ := a
      exact ⟨t, rfl⟩
  have fin : EP X pins σ Q (.bool (eqT1 ds c)) s := ⟨.bl _, H, I, rfl, q⟩
  cases hd with
  | nil =>
    cases r1
    exact SeqAt.RcAt.tuples (e := fun _ => true) p1 p2 (by omega) (fun j h1 _ => absurd h1 (Nat.not_lt_zero j)) _ _ _ _ fin
  | @cons x1 vs d1 ds1 d r =>
    cases r1 with
    | @cons _ u1 _ us1 ra rb =>
      have key := SeqAt.RcAt.tuples (A := X.A) (e := fun _ => eqS d1 c) p1 p2 (by omega) (fun j h1 h2 => by
        have hj : j = 0 := by simp at h2; omega
        subst hj
        exact eqAt_any_str I (by show X.A.units + 1 < cLine; omega) d ra)
      have e2 : ((List.range (min (u1 :: us1).toArray.size [Value.str c t].toArray.size)).all (fun _ => eqS d1 c) && (u1 :: us1).toArray.size == [Value.str c t].toArray.size) = eqT1 (d1 :: ds1) c := by
        have hl : us1.length = ds1.length := by rw [← rb.length, r.length]
        have hm : min (u1 :: us1).toArray.size [Value.str c t].toArray.size = 1 := by simp
        rw [hm]
        cases ds1 with
        | nil =>
          have : us1 = [] := List.length_eq_zero_iff.mp hl
          subst this
          simp [eqT1, List.range_succ]
        | cons d2 ds2 =>
          have : ((u1 :: us1).toArray.size == [Value.str c t].toArray.size) = false := by
            simp only [List.size_toArray, List.length_cons, List.length_nil, hl]
            simp
          rw [this, Bool.and_false]
          rfl
      rw [e2] at key
      exact key _ _ _ _ fin
end
end Kz
set_option Elab.async false
set_option linter.all false
set_option maxRecDepth 100000
set_option maxHeartbeats 4000000
/-! Kz: any(..) of a tuple of ints -/
namespace Kz
open PySem PySem.Spec PyProof.Rows L2
theorem truth_ints {prog : Program} {w : World} {A : Around} {ns : List Int} {its : List Value} (e : Vals (ns.map V.int) its) :
    TruthOf prog w A (fun i v => its.toArray[i]? = some v) (fun i => ns.getD i 0 != 0) := fun i v s Q E hv hq => by
  have hv' : its[i]? = some v := by simpa using hv
  obtain ⟨x, hx, t, rfl⟩ : ∃ x, ns[i]? = some x ∧ ∃ t, v = .int x t := by
    clear hq hv
    induction ns generalizing its i with
    | nil => cases e; simp at hv'
    | cons n ns ih =>
      cases e with
      | cons a b =>
        cases i with
        | zero =>
          obtain ⟨t, rfl⟩ := a
          simp at hv'
          exact ⟨n, rfl, t, hv'.symm⟩
        | succ i => exact ih b i (by simpa using hv')
  have hg : ns.getD i 0 = x := by rw [List.getD_eq_getElem?_getD, hx]; rfl
  have hq' : Q (ns.getD i 0 != 0) s := hq
  rw [hg] at hq'
  exact PySem.P.truthy_int hq'
theorem any_rangeI : ∀ ns : List Int, (List.range ns.length).any (fun i => ns.getD i 0 != 0) = ns.any (· != 0)
  | [] => rfl
  | b :: bs => by
    rw [List.length_cons, List.range_succ_eq_map, List.any_cons, List.any_map, List.any_cons, ← any_rangeI bs]
    all_goals rfl
section
variable {X : Cx}
def rAnyT (K : PySem.W.Frag) : List V → Hp → VK → Prop := fun vs H Q => ∃ (a : Addr) (ns : List Int), vs = [V.ref a] ∧ SqT K H a (ns.map V.int) ∧ Q (.bl (ns.any (· != 0))) H
theorem cr_anyT (hc : X.calm = true) : CallR X (.builtin "any") (rAnyT X.K) := by
  intro pins s σ H vs us Q I r h
  obtain ⟨a, ns, rfl, hs, q⟩ := h
  obtain ⟨its, rv, hl, _⟩ := I.tuple hs
  rw [Vals.ref1 r]
  have hlt : a < s.heap.objs.size := by obtain ⟨_, e, _⟩ := hl; exact Heap.lt_size e
  refine call_any_walk (iter_tuple hl ?_)
  refine ⟨_, _, _, _, _, _, _, rfl, Walks.tuple (A := X.A.in1) (I.ok.hd hc) _ a (Nat.ne_of_lt hlt) its.toArray, ⟨⟨_, Heap.get?_push_size _ rfl, rfl, rfl⟩, hl.push _⟩, truth_ints rv, fun h' tk hk => ?_⟩
  refine ⟨.bl _, H, I.kept fun b o eo => hk b o (fun hmem => ?_) (Heap.get?_push_of_some _ eo), ?_, q⟩
  · rcases List.mem_cons.mp hmem with e1 | hmem
    · exact absurd (e1 ▸ Heap.lt_size eo) (Nat.lt_irrefl _)
    · cases hmem
  · show Value.bool _ = Value.bool _
    rw [← any_rangeI, List.size_toArray, ← rv.length, List.length_map]
end
end Kz
set_option Elab.async false
set_option linter.all false
set_option maxRecDepth 100000
set_option maxHeartbeats 4000000
/-! Kz: what operators and expressions come to, in terms of what is wanted -/
namespace Kz
open PySem PySem.Spec PyProof.Rows L2
variable [GT]

/-! ### the operators on data -/
abbrev oneB (b : Bool) : Int := if b = true then 1 else 0
def addW : PyData → PyData → W PyData
  | .int i, .int j, P => P (.int (i + j))
  | .bool b, .int j, P => P (.int (oneB b + j))
  | .tuple a, .tuple b, P => a.length + b.length ≤ 1000000 ∧ P (.tuple (a ++ b))
  | .list a, .list b, P => a.length + b.length ≤ 1000000 ∧ P (.list (a ++ b))
  | .str a, .str b, P => a.length + b.length ≤ 1000000 ∧ P (.str (a ++ b))
  | _, _, _ => False
def subW : PyData → PyData → W PyData
  | .int i, .int j, P => P (.int (i - j))
  | .bool b, .int j, P => P (.int (oneB b - j))
  | .int i, .bool b, P => P (.int (i - oneB b))
  | _, _, _ => False
def bits (i : Int) : Nat := i.natAbs.log2
def mulW : PyData → PyData → W PyData
  | .int i, .int j, P => bits i + bits j < 1000000 ∧ P (.int (i * j))
  | .tuple a, .int k, P => (a ≠ [] ∧ 0 ≤ k ∧ k ≤ 1000 ∧ a.length ≤ 1000) ∧ P (.tuple (List.replicate k.toNat a).flatten)
  | .list a, .int k, P => (k ≤ 1000 ∧ -1000 ≤ k ∧ a.length ≤ 1000) ∧ P (.list (List.replicate k.toNat a).flatten)
  | _, _, _ => False
def fdivW : PyData → PyData → W PyData
  | .int i, .int j, P => (j ≠ 0 ∧ bits j < 9000) ∧ P (.int (i.fdiv j))
  | _, _, _ => False
def modW : PyData → PyData → W PyData
  | .int i, .int j, P => j ≠ 0 ∧ P (.int (i.fmod j))
  | _, _, _ => False
def powW : PyData → PyData → W PyData
  | .int i, .int j, P => (0 ≤ j ∧ j ≤ 1000000 ∧ i.natAbs < 2 ^ 64) ∧ P (.int (i ^ j.toNat))
  | _, _, _ => False
def shlW : PyData → PyData → W PyData
  | .int i, .int j, P => (0 ≤ j ∧ j ≤ 1000000 ∧ i.natAbs < 2 ^ 64) ∧ P (.int (i * 2 ^ j.toNat))
  | _, _, _ => False
def shrW : PyData → PyData → W PyData
  | .int i, .int j, P => 0 ≤ j ∧ P (.int (i / 2 ^ j.toNat))
  | _, _, _ => False
def bandW : PyData → PyData → W PyData
  | .int i, .int j, P => P (.int (Builtin.bitAnd i j))
  | _, _, _ => False
def bxorW : PyData → PyData → W PyData
  | .int i, .int j, P => P (.int (Builtin.bitXor i j))
  | _, _, _ => False
def negW : PyData → W PyData
  | .int i, P => P (.int (-i))
  | _, _ => False
def ltW : PyData → PyData → W PyData
  | .int i, .int j, P => P (.bool (decide (i < j)))
  | _, _, _ => False
def leW : PyData → PyData → W PyData
  | .int i, .int j, P => P (.bool (decide (i ≤ j)))
  | _, _, _ => False
def gtW : PyData → PyData → W PyData
  | .int i, .int j, P => P (.bool (decide (j < i)))
  | _, _, _ => False
def geW : PyData → PyData → W PyData
  | .int i, .int j, P => P (.bool (decide (j ≤ i)))
  | _, _, _ => False
/-- an item by its place -/
def idxW : PyData → PyData → W PyData
  | .tuple ds, .int i, P => ∃ d, atI ds i = some d ∧ P d
  | .list ds, .int i, P => ∃ d, atI ds i = some d ∧ P d
  | _, _, _ => False
def cutD (ds : List PyData) (lo hi : Option Int) : List PyData := (ds.drop (HT.sIx ds.length 0 lo)).take (HT.sIx ds.length ds.length hi - HT.sIx ds.length 0 lo)
/-- a slice's part; None: none -/
def partW : PyData → W (Option Int)
  | .none, P => P none
  | .int i, P => P (some i)
  | _, _ => False
def partIW : PyData → W (Option Int)
  | .int i, P => P (some i)
  | _, _ => False
def cutW : PyData → Option Int → Option Int → W PyData
  | .tuple ds, lo, hi, P => P (.tuple (cutD ds lo hi))
  | .list ds, lo, hi, P => P (.list (cutD ds lo hi))
  | .str x, lo, hi, P => x.length ≤ 1000000 ∧ P (.str (cutS x lo hi))
  | _, _, _, _ => False
/-- d[::-1] -/
def revW : PyData → W PyData
  | .tuple ds, P => ds.length ≤ 1000000 ∧ P (.tuple ds.reverse)
  | _, _ => False
/-! truth -/
def boolW : PyData → W Bool
  | .bool b, P => P b
  | _, _ => False
def truthW : PyData → W Bool
  | .none, P => P false
  | .bool b, P => P b
  | .int i, P => P (i != 0)
  | .str x, P => x.length ≤ 1000000 ∧ P ((x.length : Int) != 0)
  | .list ds, P => P (!ds.isEmpty)
  | .tuple ds, P => P (!ds.isEmpty)
  | .dict ds, P => P (!ds.isEmpty)
def cW (b : Bool) (A B : Prop) : Prop := match b with | true => A | false => B
def isNone : PyData → Bool
  | .none => true
  | _ => false
def tyD : PyData → String
  | .none => "NoneType"
  | .bool _ => "bool"
  | .int _ => "int"
  | .str _ => "str"
  | .list _ => "list"
  | .tuple _ => "tuple"
  | .dict _ => "dict"
def isiW (d : PyData) (T : String) : W PyData := fun P => ∃ b, kitB (tyD d) T = some b ∧ P (.bool b)
/-! built-ins -/
def intsOf : List PyData → Option (List Int)
  | [] => some []
  | .int i :: r => (intsOf r).map (i :: ·)
  | _ => none
def boolsOf : List PyData → Option (List Bool)
  | [] => some []
  | .bool i :: r => (boolsOf r).map (i :: ·)
  | _ => none
def lenW : PyData → W PyData
  | .list ds, P => P (.int ds.length)
  | .tuple ds, P => P (.int ds.length)
  | _, _ => False
def tupleW : PyData → W PyData
  | .list ds, P => P (.tuple ds)
  | .tuple ds, P => P (.tuple ds)
  | _, _ => False
def listW : PyData → W PyData
  | .list ds, P => P (.list ds)
  | .tuple ds, P => P (.list ds)
  | _, _ => False
def intW : PyData → W PyData
  | .int i, P => P (.int i)
  | .bool b, P => P (.int (oneB b))
  | _, _ => False
def absW : PyData → W PyData
  | .int i, P => P (.int (if i < 0 then -i else i))
  | .bool b, P => P (.int (if b then 1 else 0))
  | _, _ => False
def sumW : PyData → W PyData
  | .list ds, P => match intsOf ds with | some ns => P (.int ns.sum) | none => False
  | _, _ => False
def maxL : List Int → Option Int
  | [] => none
  | [i] => some i
  | i :: j :: r => (maxL (j :: r)).map fun m => if m < i then i else m
def minL : List Int → Option Int
  | [] => none
  | [i] => some i
  | i :: j :: r => (minL (j :: r)).map fun m => if i < m then i else m
def maxW : PyData → W PyData
  | .list ds, P => match (intsOf ds).bind maxL with | some m => P (.int m) | none => False
  | _, _ => False
def minW : PyData → W PyData
  | .list ds, P => match (intsOf ds).bind minL with | some m => P (.int m) | none => False
  | _, _ => False
def max2W : PyData → PyData → W PyData
  | .int i, .int j, P => P (.int (if j > i then j else i))
  | _, _, _ => False
def min2W : PyData → PyData → W PyData
  | .int i, .int j, P => P (.int (if j < i then j else i))
  | _, _, _ => False
def allW : PyData → W PyData
  | .list ds, P => match boolsOf ds with | some ns => P (.bool (ns.all id)) | none => False
  | _, _ => False

theorem intsOf_eq {ds : List PyData} {ns : List Int} (h : intsOf ds = some ns) : ds = ns.map .int := by
  induction ds generalizing ns with
  | nil => cases h; rfl
  | cons d ds ih =>
    cases d with
    | int i =>
      unfold intsOf at h
      obtain ⟨ms, h1, rfl⟩ := Option.map_eq_some_iff.mp h
      rw [ih h1]; rfl
    | _ => cases h
theorem boolsOf_eq {ds : List PyData} {ns : List Bool} (h : boolsOf ds = some ns) : ds = ns.map .bool := by
  induction ds generalizing ns with
  | nil => cases h; rfl
  | cons d ds ih =>
    cases d with
    | bool i =>
      unfold boolsOf at h
      obtain ⟨ms, h1, rfl⟩ := Option.map_eq_some_iff.mp h
      rw [ih h1]; rfl
    | _ => cases h
theorem maxL_ok : ∀ {ns : List Int} {m : Int}, maxL ns = some m → m ∈ ns ∧ ∀ y ∈ ns, y ≤ m
  | [], _, h => by cases h
  | [i], m, h => by cases h; simp
  | i :: j :: r, m, h => by
    unfold maxL at h
    obtain ⟨m', h1, rfl⟩ := Option.map_eq_some_iff.mp h
    obtain ⟨g1, g2⟩ := maxL_ok h1
    by_cases hc : m' < i
    · rw [if_pos hc]
      refine ⟨by simp, fun y hy => ?_⟩
      rcases List.mem_cons.mp hy with rfl | hy
      · exact Int.le_refl _
      · have := g2 y hy; omega
    · rw [if_neg hc]
      refine ⟨List.mem_cons_of_mem _ g1, fun y hy => ?_⟩
      rcases List.mem_cons.mp hy with rfl | hy
      · omega
      · exact g2 y hy
theorem minL_ok : ∀ {ns : List Int} {m : Int}, minL ns = some m → m ∈ ns ∧ ∀ y ∈ ns, m ≤ y
  | [], _, h => by cases h
  | [i], m, h => by cases h; simp
  | i :: j :: r, m, h => by
    unfold minL at h
    obtain ⟨m', h1, rfl⟩ := Option.map_eq_some_iff.mp h
    obtain ⟨g1, g2⟩ := minL_ok h1
    by_cases hc : i < m'
    · rw [if_pos hc]
      refine ⟨by simp, fun y hy => ?_⟩
      rcases List.mem_cons.mp hy with rfl | hy
      · exact Int.le_refl _
      · have := g2 y hy; omega
    · rw [if_neg hc]
      refine ⟨List.mem_cons_of_mem _ g1, fun y hy => ?_⟩
      rcases List.mem_cons.mp hy with rfl | hy
      · omega
      · exact g2 y hy

/-! ### rules on values -/
def rOr (r s : R2) : R2 := fun x y H Q => r x y H Q ∨ s x y H Q
theorem op_or2 {X : Cx} {f : Value → Value → Sem Value} {r s : R2} (h : OpR X f r) (k : OpR X f s) : OpR X f (rOr r s) := fun pins s0 σ H x y v u Q I rx ry q => q.elim (h pins s0 σ H x y v u Q I rx ry) (k pins s0 σ H x y v u Q I rx ry)
section
variable {X : Cx}
abbrev rAddS : R2 := fun x y H Q => ∃ i j, x = .str i ∧ y = .str j ∧ i.length + j.length ≤ sizeLine ∧ Q (.str (i ++ j)) H
def rAddU (K : PySem.W.Frag) : R2 := rOr (rNbL fun i j => .int (i + j)) (rOr (rCatA K) (rOr rCat rAddS))
theorem opAdd (K : PySem.W.Frag) (h : X.K = K := by rfl) : OpR X (binaryOp .Add) (rAddU K) := h ▸ op_or2 op_addNb (op_or2 op_catA (op_or2 op_cat op_add_str))
def rSubU : R2 := rOr (rNbL fun i j => .int (i - j)) (rNbR fun i j => .int (i - j))
theorem opSub : OpR X (binaryOp .Sub) rSubU := op_or2 op_subNb op_subNbR
end

/-! ### from values to data -/
def R2x (p : Pm) (r : R2) (d e : PyData) (P : PyData → Prop) : Prop := ∀ H0 O σ (ρ : Rho) H x y, En p H0 O σ H ρ → Dv (SO p O) H x d → Dv (SO p O) H y e → ∀ Q : VK, (∀ v H2 f, Kq p.Z H H2 → Ok p H2 → Dv (SO p O) H2 v f → P f → Q v H2) → r x y H Q
def RS (r : R2) (f : PyData → PyData → W PyData) : Prop := ∀ (p : Pm) d e P, f d e P → R2x p r d e P
/-- a value of no own objects comes back -/
theorem fin {p : Pm} {H0 : Bs} {O : Addr → Prop} {σ : L2.St} {H : Hp} {ρ : Rho} (e : En p H0 O σ H ρ) {Q : VK} {P : PyData → Prop} (q : ∀ v H2 d, Kq p.Z H H2 → Ok p H2 → Dv (SO p O) H2 v d → P d → Q v H2) {v : V} {d : PyData} (h : Dv (SO p O) H v d) (hp : P d) : Q v H := q v H d (Kq.refl H) e.ok h hp
/-- a new object comes back -/
theorem finN {p : Pm} {H0 : Bs} {O : Addr → Prop} {σ : L2.St} {H : Hp} {ρ : Rho} (e : En p H0 O σ H ρ) {Q : VK} {P : PyData → Prop} (q : ∀ v H2 d, Kq p.Z H H2 → Ok p H2 → Dv (SO p O) H2 v d → P d → Q v H2) {a : Addr} {o : HO} {d : PyData} (ha : H a = none) (h : Kp H (upd H a o) → Dv (SO p O) (upd H a o) (.ref a) d) (hp : P d) : Q (.ref a) (upd H a o) :=
  have k : Kp H (upd H a o) := Kq.new ha
  q _ _ d k.up (e.ok.kp k) (h k) hp
theorem rs_lst {S : Addr → Prop} {H : Hp} {a : Addr} {vs : List V} {ds : List PyData} (na : H a = none) (n : ¬ S a) (r : DvL S H vs ds) (k : Kp H (upd H a (.lst vs))) : Dv S (upd H a (.lst vs)) (.ref a) (.list ds) := .lst n upd_same (r.kp k)
theorem rs_tup {S : Addr → Prop} {H : Hp} {a : Addr} {vs : List V} {ds : List PyData} (na : H a = none) (n : ¬ S a) (r : DvL S H vs ds) (k : Kp H (upd H a (.tup vs))) : Dv S (upd H a (.tup vs)) (.ref a) (.tuple ds) := .tup n upd_same (r.kp k)
theorem sz1 {n : Nat} (h : n ≤ 1000000) : n ≤ sizeLine := Nat.le_trans h (by decide)
section
variable {K : PySem.W.Frag}
theorem rs_add : RS (rAddU K) addW := fun p d e P h H0 O σ ρ H x y en hx hy Q q => by
  cases d with
  | int i => cases e with
    | int j => cases hx; cases hy; exact .inl ⟨i, j, .inl rfl, rfl, fin en q (.int _) h⟩
    | _ => exact h.elim
  | bool b => cases e with
    | int j => cases hx; cases hy; exact .inl ⟨_, j, .inr ⟨b, rfl, rfl⟩, rfl, fin en q (.int _) h⟩
    | _ => exact h.elim
  | str a => cases e with
    | str b => cases hx; cases hy; exact .inr (.inr (.inr ⟨a, b, rfl, rfl, sz1 h.1, fin en q (.str _) h.2⟩))
    | _ => exact h.elim
  | list ds => cases e with
    | list es =>
      cases hx with | lst n ea r => cases hy with | lst m eb r' =>
        refine .inr (.inr (.inl ⟨_, _, _, _, rfl, rfl, ea, eb, sz1 (by rw [r.length, r'.length]; exact h.1), fun l hl => finN en q hl (rs_lst hl (fresh_so en hl) (r.append r')) h.2⟩))
    | _ => exact h.elim
  | tuple ds => cases e with
    | tuple es =>
      cases hx with | @tup a xs _ n ea r => cases hy with | @tup b ys _ m eb r' =>
        have l1 := r.length
        have l2 := r'.length
        refine .inr (.inl ⟨a, b, xs, ys, rfl, rfl, .inl (.inl ea), .inl (.inl eb), sz1 (by rw [l1, l2]; exact h.1), fun h0 => ?_, fun _ h0 => ?_, fun _ _ l hl => finN en q hl (rs_tup hl (fresh_so en hl) (r.append r')) h.2⟩)
        · subst h0
          cases ds with
          | nil => exact fin en q (.tup m eb r') h.2
          | cons _ _ => simp at l1
        · subst h0
          cases es with
          | nil => exact fin en q (.tup n ea (by rw [List.append_nil]; exact r)) h.2
          | cons _ _ => simp at l2
    | _ => exact h.elim
  | _ => exact h.elim
theorem rs_sub : RS rSubU subW := fun p d e P h H0 O σ ρ H x y en hx hy Q q => by
  cases d with
  | int i => cases e with
    | int j => cases hx; cases hy; exact .inl ⟨i, j, .inl rfl, rfl, fin en q (.int _) h⟩
    | bool b => cases hx; cases hy; exact .inr ⟨i, _, rfl, .inr ⟨b, rfl, rfl⟩, fin en q (.int _) h⟩
    | _ => exact h.elim
  | bool b => cases e with
    | int j => cases hx; cases hy; exact .inl ⟨_, j, .inr ⟨b, rfl, rfl⟩, rfl, fin en q (.int _) h⟩
    | _ => exact h.elim
  | _ => exact h.elim
def rMulU (K : PySem.W.Frag) : R2 := rOr (rI CMulW fun i j => .int (i * j)) (rOr (rRepA K) rRep)
theorem opMul {X : Cx} (K : PySem.W.Frag) (h : X.K = K := by rfl) : OpR X (binaryOp .Mult) (rMulU K) := h ▸ op_or2 op_mulW (op_or2 op_repA op_rep)
theorem flat_dv {S : Addr → Prop} {H : Hp} {xs : List V} {ds : List PyData} (r : DvL S H xs ds) (m : Nat) : DvL S H (List.replicate m xs).flatten (List.replicate m ds).flatten := by
  induction m with
  | zero => exact .nil
  | succ m ih => rw [List.replicate_succ, List.replicate_succ, List.flatten_cons, List.flatten_cons]; exact r.append ih
theorem rs_mul : RS (rMulU K) mulW := fun p d e P h H0 O σ ρ H x y en hx hy Q q => by
  cases d with
  | int i => cases e with
    | int j => cases hx; cases hy; exact .inl ⟨i, j, rfl, rfl, h.1, fin en q (.int _) h.2⟩
    | _ => exact h.elim
  | list ds => cases e with
    | int k =>
      obtain ⟨⟨h1, h0, hz⟩, hp⟩ := h
      cases hx with | @lst a xs _ n ea r =>
        cases hy
        refine .inr (.inr ⟨a, k, xs, rfl, rfl, ea, by omega, by omega, ?_, fun l hl => finN en q hl (rs_lst hl (fresh_so en hl) (flat_dv r _)) hp⟩)
        have h2 : xs.length * k.toNat ≤ 1000 * 1000 := Nat.mul_le_mul (by rw [r.length]; exact hz) (by omega)
        exact sz1 h2
    | _ => exact h.elim
  | tuple ds => cases e with
    | int k =>
      obtain ⟨⟨hne, h0, h1, hz⟩, hp⟩ := h
      cases hx with
      | @tup a xs _ n ea r =>
        cases hy
        have hxn : xs ≠ [] := fun z => by
          have := r.length
          rw [z] at this
          exact hne (List.eq_nil_of_length_eq_zero this.symm)
        have h3 : k = 0 ∨ k = 1 ∨ 2 ≤ k := by omega
        refine .inr (.inl ?_)
        rcases h3 with rfl | rfl | h2
        · exact .inl ⟨a, 0, xs, rfl, rfl, .inl (.inl ea), hxn, .inr ⟨rfl, fun l hl => finN en q hl (fun k => .tup (fresh_so en hl) upd_same .nil) hp⟩⟩
        · exact .inl ⟨a, 1, xs, rfl, rfl, .inl (.inl ea), hxn, .inl ⟨rfl, fin en q (.tup n ea (by simpa using r)) hp⟩⟩
        · exact .inr ⟨a, k, xs, rfl, rfl, .inl (.inl ea), hxn, h2, h1, by rw [r.length]; exact hz, fun l hl => finN en q hl (rs_tup hl (fresh_so en hl) (flat_dv r _)) hp⟩
    | _ => exact h.elim
  | _ => exact h.elim
theorem rs_int {C : Int → Int → Prop} {g : Int → Int → V} {g' : Int → Int → PyData} {f : PyData → PyData → W PyData} (hg : ∀ S H i j, Dv S H (g i j) (g' i j)) (hf : ∀ d e P, f d e P → ∃ i j, d = .int i ∧ e = .int j ∧ C i j ∧ P (g' i j)) : RS (rI C g) f := fun p d e P h H0 O σ ρ H x y en hx hy Q q => by
  obtain ⟨i, j, rfl, rfl, hc, hp⟩ := hf d e P h
  cases hx; cases hy
  exact ⟨i, j, rfl, rfl, hc, fin en q (hg _ _ _ _) hp⟩
theorem rs_int0 {g : Int → Int → V} {g' : Int → Int → PyData} {f : PyData → PyData → W PyData} (hg : ∀ S H i j, Dv S H (g i j) (g' i j)) (hf : ∀ d e P, f d e P → ∃ i j, d = .int i ∧ e = .int j ∧ P (g' i j)) : RS (rI0 g) f := fun p d e P h H0 O σ ρ H x y en hx hy Q q => by
  obtain ⟨i, j, rfl, rfl, hp⟩ := hf d e P h
  cases hx; cases hy
  exact ⟨i, j, rfl, rfl, fin en q (hg _ _ _ _) hp⟩
end
def CDivA (_ j : Int) : Prop := j ≠ 0 ∧ bits j < 9000
theorem opFdiv {X : Cx} : OpR X (binaryOp .FloorDiv) (rI CDivA fun i j => .int (i.fdiv j)) := opI fun _ _ _ _ _ _ _ hc q => floordiv_int hc.1 q (.inl (PyProof.noPylong_of_log2 hc.2))
theorem rs_fdiv : RS (rI CDivA fun i j => .int (i.fdiv j)) fdivW := rs_int (g' := fun i j => .int (i.fdiv j)) (fun _ _ _ _ => .int _) (by intro d e P h; cases d <;> cases e <;> first | exact h.elim | exact ⟨_, _, rfl, rfl, h⟩ | exact ⟨_, _, rfl, rfl, h.1, h.2⟩)
theorem rs_mod : RS (rI (fun _ j => j ≠ 0) fun i j => .int (i.fmod j)) modW := rs_int (g' := fun i j => .int (i.fmod j)) (fun _ _ _ _ => .int _) (by intro d e P h; cases d <;> cases e <;> first | exact h.elim | exact ⟨_, _, rfl, rfl, h⟩ | exact ⟨_, _, rfl, rfl, h.1, h.2⟩)
theorem rs_pow : RS (rI CPow fun i j => .int (i ^ j.toNat)) powW := rs_int (g' := fun i j => .int (i ^ j.toNat)) (fun _ _ _ _ => .int _) (by intro d e P h; cases d <;> cases e <;> first | exact h.elim | exact ⟨_, _, rfl, rfl, h⟩ | exact ⟨_, _, rfl, rfl, h.1, h.2⟩)
theorem rs_shl : RS (rI CPow fun i j => .int (i * 2 ^ j.toNat)) shlW := rs_int (g' := fun i j => .int (i * 2 ^ j.toNat)) (fun _ _ _ _ => .int _) (by intro d e P h; cases d <;> cases e <;> first | exact h.elim | exact ⟨_, _, rfl, rfl, h⟩ | exact ⟨_, _, rfl, rfl, h.1, h.2⟩)
theorem rs_shr : RS (rI (fun _ j => 0 ≤ j) fun i j => .int (i / 2 ^ j.toNat)) shrW := rs_int (g' := fun i j => .int (i / 2 ^ j.toNat)) (fun _ _ _ _ => .int _) (by intro d e P h; cases d <;> cases e <;> first | exact h.elim | exact ⟨_, _, rfl, rfl, h⟩ | exact ⟨_, _, rfl, rfl, h.1, h.2⟩)
theorem rs_band : RS (rI0 fun i j => .int (Builtin.bitAnd i j)) bandW := rs_int0 (g' := fun i j => .int (Builtin.bitAnd i j)) (fun _ _ _ _ => .int _) (by intro d e P h; cases d <;> cases e <;> first | exact h.elim | exact ⟨_, _, rfl, rfl, h⟩ | exact ⟨_, _, rfl, rfl, h.1, h.2⟩)
theorem rs_bxor : RS (rI0 fun i j => .int (Builtin.bitXor i j)) bxorW := rs_int0 (g' := fun i j => .int (Builtin.bitXor i j)) (fun _ _ _ _ => .int _) (by intro d e P h; cases d <;> cases e <;> first | exact h.elim | exact ⟨_, _, rfl, rfl, h⟩ | exact ⟨_, _, rfl, rfl, h.1, h.2⟩)
theorem rs_lt : RS (rI0 fun i j => .bl (decide (i < j))) ltW := rs_int0 (g' := fun i j => .bool (decide (i < j))) (fun _ _ _ _ => .bl _) (by intro d e P h; cases d <;> cases e <;> first | exact h.elim | exact ⟨_, _, rfl, rfl, h⟩ | exact ⟨_, _, rfl, rfl, h.1, h.2⟩)
theorem rs_le : RS (rI0 fun i j => .bl (decide (i ≤ j))) leW := rs_int0 (g' := fun i j => .bool (decide (i ≤ j))) (fun _ _ _ _ => .bl _) (by intro d e P h; cases d <;> cases e <;> first | exact h.elim | exact ⟨_, _, rfl, rfl, h⟩ | exact ⟨_, _, rfl, rfl, h.1, h.2⟩)
theorem rs_gt : RS (rI0 fun i j => .bl (decide (j < i))) gtW := rs_int0 (g' := fun i j => .bool (decide (j < i))) (fun _ _ _ _ => .bl _) (by intro d e P h; cases d <;> cases e <;> first | exact h.elim | exact ⟨_, _, rfl, rfl, h⟩ | exact ⟨_, _, rfl, rfl, h.1, h.2⟩)
theorem rs_ge : RS (rI0 fun i j => .bl (decide (j ≤ i))) geW := rs_int0 (g' := fun i j => .bool (decide (j ≤ i))) (fun _ _ _ _ => .bl _) (by intro d e P h; cases d <;> cases e <;> first | exact h.elim | exact ⟨_, _, rfl, rfl, h⟩ | exact ⟨_, _, rfl, rfl, h.1, h.2⟩)
end Kz
set_option Elab.async false
set_option linter.all false
set_option maxRecDepth 100000
set_option maxHeartbeats 4000000
/-! Kz: expressions, tests and calls of built-ins, in terms of what is wanted -/
namespace Kz
open PySem PySem.Spec PyProof.Rows L2
variable [GT]

/-! ### equality -/
def isStr : PyData → Bool
  | .str _ => true
  | _ => false
def isTup : PyData → Bool
  | .tuple _ => true
  | _ => false
def isLst : PyData → Bool
  | .list _ => true
  | _ => false
/-- no dict, of a depth that == reads -/
def flatD (d : PyData) : Bool := !d.hasDict && SeqAt.shaped d
def strsOf : List PyData → Option (List Str)
  | [] => some []
  | .str x :: r => (strsOf r).map (x :: ·)
  | _ => none
def tupS : PyData → Option (List Str)
  | .tuple ds => strsOf ds
  | _ => none
def eqOk (d e : PyData) : Bool := (flatD d && flatD e) || isStr e || (isTup d && (tupS e).isSome) || (isLst d && match e with | .list [] => true | _ => false)
def eqW (d e : PyData) : W PyData := fun P => eqOk d e = true ∧ P (.bool (PyData.eqv d e))
def neW (d e : PyData) : W PyData := fun P => eqOk d e = true ∧ P (.bool (!PyData.eqv d e))

theorem eqv_eqS (d : PyData) (c : Str) : PyData.eqv d (.str c) = eqS d c := by cases d <;> rfl
theorem tupS_eq {d : PyData} {cs : List Str} (h : tupS d = some cs) : d = .tuple (cs.map .str) := by
  cases d with
  | tuple ds =>
    congr 1
    replace h : strsOf ds = some cs := h
    induction ds generalizing cs with
    | nil => cases h; rfl
    | cons x ds ih =>
      cases x with
      | str y =>
        unfold strsOf at h
        obtain ⟨cs', h1, rfl⟩ := Option.map_eq_some_iff.mp h
        rw [ih h1]; rfl
      | _ => cases h
  | _ => cases h
theorem eqvAll_len : ∀ (a b : List PyData), a.length ≠ b.length → PyData.eqvAll a b = false
  | [], [], h => absurd rfl h
  | [], _ :: _, _ => rfl
  | _ :: _, [], _ => rfl
  | x :: a, y :: b, h => by
    show (PyData.eqv x y && PyData.eqvAll a b) = false
    rw [eqvAll_len a b (by simpa using h), Bool.and_false]
theorem eqvAll_range (ds : List PyData) (cs : List Str) (e : Nat → Bool) (he : ∀ j d c, ds[j]? = some d → cs[j]? = some c → e j = eqS d c) : ((List.range (min ds.length cs.length)).all e && ds.length == cs.length) = PyData.eqvAll ds (cs.map .str) := by
  induction ds generalizing cs e with
  | nil => cases cs <;> simp [PyData.eqvAll]
  | cons d ds ih =>
    cases cs with
    | nil => simp [PyData.eqvAll]
    | cons c cs =>
      show _ = (PyData.eqv d (.str c) && PyData.eqvAll ds (cs.map .str))
      rw [← ih cs (fun j => e (j + 1)) (fun j d' c' h1 h2 => he (j + 1) d' c' (by simpa using h1) (by simpa using h2)), eqv_eqS, ← he 0 d c rfl rfl]
      simp only [List.length_cons, Nat.succ_min_succ]
      rw [show Nat.succ (min ds.length cs.length) = min ds.length cs.length + 1 from rfl, List.range_succ_eq_map, List.all_cons, List.all_map, Bool.and_assoc]
      congr 1
      congr 1
      rw [Bool.eq_iff_iff, beq_iff_eq, beq_iff_eq]
      omega
section
variable {X : Cx}
abbrev rEqTS (K : PySem.W.Frag) : R2 := fun x y H Q => ∃ (a b : Addr) (S : Addr → Prop) (xs : List V) (ds : List PyData) (cs : List Str), x = .ref a ∧ y = .ref b ∧ SqT K H a xs ∧ DvL S H xs ds ∧ SqT K H b (cs.map V.str) ∧ Q (.bl (PyData.eqvAll ds (cs.map .str))) H
abbrev rNeTS (K : PySem.W.Frag) : R2 := fun x y H Q => ∃ (a b : Addr) (S : Addr → Prop) (xs : List V) (ds : List PyData) (cs : List Str), x = .ref a ∧ y = .ref b ∧ SqT K H a xs ∧ DvL S H xs ds ∧ SqT K H b (cs.map V.str) ∧ Q (.bl (!PyData.eqvAll ds (cs.map .str))) H
theorem vals_strs {cs : List Str} {us : List Value} (h : Vals (cs.map V.str) us) : ∀ (j : Nat) (u : Value), us[j]? = some u → ∃ c t, cs[j]? = some c ∧ u = .str c t := by
  induction cs generalizing us with
  | nil => cases h; intro j u e; simp at e
  | cons c cs ih =>
    cases h with
    | cons a b =>
      intro j u e
      cases j with
      | zero => obtain ⟨t, rfl⟩ := a; simp at e; exact ⟨c, t, rfl, e.symm⟩
      | succ j => simpa using ih b j u (by simpa using e)
theorem dvl_vals {S : Addr → Prop} {H : Hp} {xs : List V} {ds : List PyData} {us : List Value} (h : DvL S H xs ds) (r : Vals xs us) : ∀ (j : Nat) (u : Value), us[j]? = some u → ∃ d x, ds[j]? = some d ∧ Dv S H x d ∧ RelV x u := by
  induction ds generalizing xs us with
  | nil => cases h; cases r; intro j u e; simp at e
  | cons d ds ih =>
    cases h with
    | cons h1 h2 =>
      cases r with
      | cons a b =>
        intro j u e
        cases j with
        | zero => simp at e; subst e; exact ⟨d, _, rfl, h1, a⟩
        | succ j => simpa using ih h2 b j u (by simpa using e)
theorem eqTS_items {pins : List (Addr × Obj)} {σ : L2.St} {H : Hp} {s : Shared} {S : Addr → Prop} {A : Around} (I : Inv X pins σ H s) (hu : A.units < cLine) {xs : List V} {ds : List PyData} {cs : List Str} {us ws : List Value} (hd : DvL S H xs ds) (r1 : Vals xs us) (r2 : Vals (cs.map V.str) ws) :
    ∀ (j : Nat) (h1 : j < us.toArray.size) (h2 : j < ws.toArray.size), SeqAt.EqAt A s us.toArray[j] ws.toArray[j] (match ds[j]?, cs[j]? with | some d, some c => eqS d c | _, _ => true) := by
  intro j h1 h2
  have h1' : j < us.length := by simpa using h1
  have h2' : j < ws.length := by simpa using h2
  obtain ⟨d, x, hdj, hx, rx⟩ := dvl_vals hd r1 j _ (List.getElem?_eq_getElem h1')
  obtain ⟨c, t, hc, hw⟩ := vals_strs r2 j _ (List.getElem?_eq_getElem h2')
  rw [hdj, hc]
  show SeqAt.EqAt A s us[j] ws[j] (eqS d c)
  rw [hw]
  exact eqAt_any_str I hu hx rx
theorem op_eqTS (hu : X.A.units + 64 < cLine) : OpR X (compareOp .Eq) (rEqTS X.K) := by
  intro pins s σ H x y v u Q I rx ry h
  obtain ⟨a, b, S, xs, ds, cs, rfl, rfl, h1, hd, h2, q⟩ := h
  cases rx
  cases ry
  obtain ⟨us, r1, p1, _⟩ := I.tuple h1
  obtain ⟨ws, r2, p2, _⟩ := I.tuple h2
  have key := SeqAt.RcAt.tuples (A := X.A) p1 p2 (by omega) (eqTS_items I (A := X.A.in1) (by show X.A.units + 1 < cLine; omega) hd r1 r2)
  have l1 : us.length = ds.length := by rw [← r1.length, hd.length]
  have l2 : ws.length = cs.length := by have := r2.length; simpa using this.symm
  rw [List.size_toArray, List.size_toArray, l1, l2, eqvAll_range ds cs _ (fun j d c e1 e2 => by rw [e1, e2])] at key
  exact key _ _ _ _ ⟨.bl _, H, I, rfl, q⟩
theorem op_neTS (hu : X.A.units + 64 < cLine) : OpR X (compareOp .NotEq) (rNeTS X.K) := by
  intro pins s σ H x y v u Q I rx ry h
  obtain ⟨a, b, S, xs, ds, cs, rfl, rfl, h1, hd, h2, q⟩ := h
  cases rx
  cases ry
  obtain ⟨us, r1, p1, _⟩ := I.tuple h1
  obtain ⟨ws, r2, p2, _⟩ := I.tuple h2
  have key := SeqAt.RcNeAt.tuples (A := X.A) p1 p2 (by omega) (eqTS_items I (A := X.A.in1) (by show X.A.units + 1 < cLine; omega) hd r1 r2)
  have l1 : us.length = ds.length := by rw [← r1.length, hd.length]
  have l2 : ws.length = cs.length := by have := r2.length; simpa using this.symm
  rw [List.size_toArray, List.size_toArray, l1, l2, eqvAll_range ds cs _ (fun j d c e1 e2 => by rw [e1, e2])] at key
  exact key _ _ _ _ ⟨.bl _, H, I, rfl, q⟩
def rNeZL (K : PySem.W.Frag) : R2 := fun x y H Q => ∃ a b xs, x = .ref a ∧ y = .ref b ∧ SqL K H a xs ∧ SqL K H b [] ∧ Q (.bl (!xs.isEmpty)) H
theorem op_neZL (hu : X.A.units < cLine) : OpR X (compareOp .NotEq) (rNeZL X.K) := by
  intro pins s σ H x y v u Q I rx ry h
  obtain ⟨a, b, xs, rfl, rfl, h1, h2, q⟩ := h
  cases rx
  cases ry
  obtain ⟨us, r1, p1, _⟩ := I.list h1
  obtain ⟨ws, r2, p2, _⟩ := I.list h2
  cases r2
  have fin : EP X pins σ Q (.bool (!xs.isEmpty)) s := ⟨.bl _, H, I, rfl, q⟩
  cases r1 with
  | nil => exact SeqAt.RcNeAt.lists (A := X.A) (e := fun _ => true) p1.isList p2.isList rfl hu (fun j h1 _ => absurd h1 (Nat.not_lt_zero j)) X.prog X.w X.xe _ fin
  | cons _ _ => exact SeqAt.RcNeAt.lists_lengths (A := X.A) p1.isList p2.isList (by simp) hu X.prog X.w X.xe _ fin
def rEqU (K : PySem.W.Frag) : R2 := rOr (rEqD K) (rOr rEqSt (rOr (rEqTS K) (rEqZ K)))
def rNeU (K : PySem.W.Frag) : R2 := rOr (rNeD K) (rOr rNeSt (rOr (rNeTS K) (rNeZL K)))
theorem opEq (K : PySem.W.Frag) (hu : X.A.units + 64 < cLine) (h : X.K = K := by rfl) : OpR X (compareOp .Eq) (rEqU K) := h ▸ op_or2 (op_eqD hu) (op_or2 (op_eqSt hu) (op_or2 (op_eqTS hu) (op_eqZ (by omega))))
theorem opNe (K : PySem.W.Frag) (hu : X.A.units + 64 < cLine) (h : X.K = K := by rfl) : OpR X (compareOp .NotEq) (rNeU K) := h ▸ op_or2 (op_neD hu) (op_or2 (op_neSt hu) (op_or2 (op_neTS hu) (op_neZL (by omega))))
end
theorem rs_eq {K : PySem.W.Frag} : RS (rEqU K) eqW := fun p d e P h H0 O σ ρ H x y en hx hy Q q => by
  obtain ⟨ho, hp⟩ := h
  have F := fin en q (.bl (PyData.eqv d e)) hp
  unfold eqOk at ho
  simp only [Bool.or_eq_true, Bool.and_eq_true] at ho
  rcases ho with ((ho | ho) | ho) | ho
  · unfold flatD at ho
    simp only [Bool.and_eq_true, Bool.not_eq_true'] at ho
    exact .inl ⟨d, e, hx.dp _ _ ho.1.1, hy.dp _ _ ho.2.1, ho.1.2, ho.2.2, F⟩
  · cases e with
    | str c => cases hy; exact .inr (.inl ⟨d, _, c, hx, rfl, by rw [← eqv_eqS]; exact F⟩)
    | _ => cases ho
  · obtain ⟨h1, h2⟩ := ho
    obtain ⟨cs, h2⟩ := Option.isSome_iff_exists.mp h2
    have e2 := tupS_eq h2
    subst e2
    cases d with
    | tuple ds =>
      cases hx with | tup _ e1 r1 => cases hy with | tup _ e2 r2 =>
        have : ∀ {cs : List Str} {vs : List V} {S : Addr → Prop} {H : Hp}, DvL S H vs (cs.map PyData.str) → vs = cs.map V.str := by
          intro cs
          induction cs with
          | nil => intro vs S H h; cases h; rfl
          | cons c cs ih => intro vs S H h; cases h with | cons a b => cases a; rw [ih b]; rfl
        have er := this r2
        subst er
        exact .inr (.inr (.inl ⟨_, _, _, _, ds, cs, rfl, rfl, .inl (.inl e1), r1, .inl (.inl e2), F⟩))
    | _ => cases h1
  · obtain ⟨h1, h2⟩ := ho
    cases d with
    | list ds => cases e with
      | list es => cases es with
        | nil =>
          cases hx with | lst _ e1 r1 => cases hy with | lst _ e2 r2 =>
            cases r2
            refine .inr (.inr (.inr ⟨_, _, _, rfl, rfl, .inl (.inl e1), .inl (.inl e2), ?_⟩))
            cases r1 <;> exact F
        | cons _ _ => cases h2
      | _ => cases h2
    | _ => cases h1
theorem rs_ne {K : PySem.W.Frag} : RS (rNeU K) neW := fun p d e P h H0 O σ ρ H x y en hx hy Q q => by
  obtain ⟨ho, hp⟩ := h
  have F := fin en q (.bl (!PyData.eqv d e)) hp
  unfold eqOk at ho
  simp only [Bool.or_eq_true, Bool.and_eq_true] at ho
  rcases ho with ((ho | ho) | ho) | ho
  · unfold flatD at ho
    simp only [Bool.and_eq_true, Bool.not_eq_true'] at ho
    exact .inl ⟨d, e, hx.dp _ _ ho.1.1, hy.dp _ _ ho.2.1, ho.1.2, ho.2.2, F⟩
  · cases e with
    | str c => cases hy; exact .inr (.inl ⟨d, _, c, hx, rfl, by rw [← eqv_eqS]; exact F⟩)
    | _ => cases ho
  · obtain ⟨h1, h2⟩ := ho
    obtain ⟨cs, h2⟩ := Option.isSome_iff_exists.mp h2
    have e2 := tupS_eq h2
    subst e2
    cases d with
    | tuple ds =>
      cases hx with | tup _ e1 r1 => cases hy with | tup _ e2 r2 =>
        have : ∀ {cs : List Str} {vs : List V} {S : Addr → Prop} {H : Hp}, DvL S H vs (cs.map PyData.str) → vs = cs.map V.str := by
          intro cs
          induction cs with
          | nil => intro vs S H h; cases h; rfl
          | cons c cs ih => intro vs S H h; cases h with | cons a b => cases a; rw [ih b]; rfl
        have er := this r2
        subst er
        exact .inr (.inr (.inl ⟨_, _, _, _, ds, cs, rfl, rfl, .inl (.inl e1), r1, .inl (.inl e2), F⟩))
    | _ => cases h1
  · obtain ⟨h1, h2⟩ := ho
    cases d with
    | list ds => cases e with
      | list es => cases es with
        | nil =>
          cases hx with | lst _ e1 r1 => cases hy with | lst _ e2 r2 =>
            cases r2
            refine .inr (.inr (.inr ⟨_, _, _, rfl, rfl, .inl (.inl e1), .inl (.inl e2), ?_⟩))
            cases r1 <;> exact F
        | cons _ _ => cases h2
      | _ => cases h2
    | _ => cases h1

/-! ### expressions -/
section
variable {p : Pm} {ρ : Rho} {ta tb tc te : TE} {tt tu : TT} {m m1 m2 m3 : W PyData}
theorem em_var {i : Nat} {d : PyData} (h : ρ[i]? = some (some (.dat d))) : EM p (tVar i) ρ (fun P => P d) := fun P hp H0 O σ H e Q q => by
  obtain ⟨ad, g1, g2⟩ := e.sl
  obtain ⟨v, h1, h2⟩ := g1 i _ h
  exact ⟨v, h1, q v H d (Kq.refl H) e.ok h2 hp⟩
theorem er_var {i : Nat} {v : V} (h : ρ[i]? = some (some (.raw v))) : Er p (tVar i) ρ v := fun H0 O σ H e Q q => by
  obtain ⟨ad, g1, g2⟩ := e.sl
  exact ⟨v, g1 i _ h, q H (Kq.refl H) e.ok⟩
theorem er_c {v : V} : Er p (tC v) ρ v := fun H0 O σ H e Q q => q H (Kq.refl H) e.ok
theorem em_int {i : Int} : EM p (tC (.int i)) ρ (fun P => P (.int i)) := fun P hp H0 O σ H e Q q => fin e q (.int i) hp
theorem em_bl {b : Bool} : EM p (tC (.bl b)) ρ (fun P => P (.bool b)) := fun P hp H0 O σ H e Q q => fin e q (.bl b) hp
theorem em_non : EM p (tC .non) ρ (fun P => P .none) := fun P hp H0 O σ H e Q q => fin e q .non hp
theorem em_str {x : Str} : EM p (tC (.str x)) ρ (fun P => P (.str x)) := fun P hp H0 O σ H e Q q => fin e q (.str x) hp
theorem ea_nil : EA p tNil ρ (fun P => P []) := fun P hp H0 O σ H e Q q => q [] H [] (Kq.refl H) e.ok .nil hp
theorem ea_cons {tr : TA} {ma : W (List PyData)} (h : EM p ta ρ m) (k : EA p tr ρ ma) : EA p (tCons ta tr) ρ (fun P => m fun d => ma fun ds => P (d :: ds)) := fun P hp H0 O σ H e Q q => by
  refine h _ hp H0 O σ H e _ fun v H2 d k2 o2 hd pd => ?_
  refine k _ pd H0 O σ H2 (e.kq k2 o2) _ fun vs H3 ds k3 o3 hds pds => ?_
  exact q (v :: vs) H3 (d :: ds) (k2.trans k3) o3 (.cons (hd.kq k3 so_z) hds) pds
theorem em_tup {t : TA} {ma : W (List PyData)} (h : EA p t ρ ma) : EM p (tTup t) ρ (fun P => ma fun ds => ds.length ≤ 1000 ∧ P (.tuple ds)) := fun P hp H0 O σ H e Q q => by
  refine h _ hp H0 O σ H e _ fun vs H2 ds k2 o2 hds pds => ?_
  have e2 := e.kq k2 o2
  refine ⟨by rw [hds.length]; exact Nat.le_trans pds.1 (by decide), fun a na => ?_⟩
  exact finN e2 (fun v H3 d k3 o3 hd pd => q v H3 d (k2.trans k3) o3 hd pd) na (rs_tup na (fresh_so e2 na) hds) pds.2
theorem em_lst {t : TA} {ma : W (List PyData)} (h : EA p t ρ ma) : EM p (tLst t) ρ (fun P => ma fun ds => ds.length ≤ 1000 ∧ P (.list ds)) := fun P hp H0 O σ H e Q q => by
  refine h _ hp H0 O σ H e _ fun vs H2 ds k2 o2 hds pds => ?_
  have e2 := e.kq k2 o2
  refine ⟨by rw [hds.length]; exact Nat.le_trans pds.1 (by decide), fun a na => ?_⟩
  exact finN e2 (fun v H3 d k3 o3 hd pd => q v H3 d (k2.trans k3) o3 hd pd) na (rs_lst na (fresh_so e2 na) hds) pds.2
theorem em_op {r : R2} {f : PyData → PyData → W PyData} (hr : RS r f) (h : EM p ta ρ m1) (k : EM p tb ρ m2) : EM p (tOp r ta tb) ρ (fun P => m1 fun x => m2 fun y => f x y P) := fun P hp H0 O σ H e Q q => by
  refine h _ hp H0 O σ H e _ fun v H2 d k2 o2 hd pd => ?_
  have e2 := e.kq k2 o2
  refine k _ pd H0 O σ H2 e2 _ fun u H3 d' k3 o3 hd' pd' => ?_
  exact hr p d d' P pd' H0 O σ ρ H3 v u (e2.kq k3 o3) (hd.kq k3 so_z) hd' Q fun v H4 f k4 o4 hv pf => q v H4 f ((k2.trans k3).trans k4) o4 hv pf
theorem em_neg (h : EM p ta ρ m) : EM p (tUn (rU fun i => .int (-i)) ta) ρ (fun P => m fun x => negW x P) := fun P hp H0 O σ H e Q q => by
  refine h _ hp H0 O σ H e _ fun v H2 d k2 o2 hd pd => ?_
  cases d with
  | int i => cases hd; exact ⟨i, rfl, q _ H2 _ k2 o2 (.int _) pd⟩
  | _ => exact pd.elim
theorem em_then {tb' : V → Hp → VK → Prop} {f : PyData → W PyData} (h : EM p ta ρ m) (hf : ∀ (H0 : Bs) (O : Addr → Prop) (σ : L2.St) (H : Hp) (v : V) (d : PyData) (P : PyData → Prop), En p H0 O σ H ρ → Dv (SO p O) H v d → f d P → ∀ Q : VK, (∀ v H2 d, Kq p.Z H H2 → Ok p H2 → Dv (SO p O) H2 v d → P d → Q v H2) → tb' v H Q) : EM p (fun σ H Q => ta σ H fun x H1 => tb' x H1 Q) ρ (fun P => m fun x => f x P) := fun P hp H0 O σ H e Q q => by
  refine h _ hp H0 O σ H e _ fun v H2 d k2 o2 hd pd => ?_
  exact hf H0 O σ H2 v d P (e.kq k2 o2) hd pd Q fun v H4 f k4 o4 hv pf => q v H4 f (k2.trans k4) o4 hv pf

/-! truth, tests -/
theorem tru_dv {K : PySem.W.Frag} {S : Addr → Prop} {H : Hp} {v : V} {d : PyData} {P : Bool → Prop} (h : Dv S H v d) (hp : truthW d P) : ∃ k, TruV K v H k ∧ P k := by
  have em : ∀ {vs : List V} {ds : List PyData}, DvL S H vs ds → vs.isEmpty = ds.isEmpty := fun h => by cases h <;> rfl
  cases h with
  | non => exact ⟨_, rfl, hp⟩
  | bl b => exact ⟨_, rfl, hp⟩
  | int i => exact ⟨_, rfl, hp⟩
  | str x => exact ⟨_, ⟨sz1 hp.1, rfl⟩, hp.2⟩
  | lst n e r => exact ⟨_, .inl ⟨_, .inl (.inl e), rfl⟩, by rw [em r]; exact hp⟩
  | tup n e r => exact ⟨_, .inr (.inl ⟨_, .inl (.inl e), rfl⟩), by rw [em r]; exact hp⟩
  | dct n e r => exact ⟨_, .inr (.inr ⟨_, e, rfl⟩), by cases r <;> exact hp⟩
theorem et_bool (h : EM p te ρ m) : ET p (tTest te) ρ (fun P => m fun x => boolW x P) := fun P hp H0 O σ H e Q q => by
  refine h _ hp H0 O σ H e _ fun v H2 d k2 o2 hd pd => ?_
  cases d with
  | bool b => cases hd; exact ⟨b, rfl, q b H2 k2 o2 pd⟩
  | _ => exact pd.elim
theorem et_truth {K : PySem.W.Frag} (h : EM p te ρ m) : ET p (fun σ H Q => te σ H fun x H' => ∃ k, TruV K x H' k ∧ Q k H') ρ (fun P => m fun x => truthW x P) := fun P hp H0 O σ H e Q q => by
  refine h _ hp H0 O σ H e _ fun v H2 d k2 o2 hd pd => ?_
  obtain ⟨k, h1, h2⟩ := tru_dv (K := K) hd pd
  exact ⟨k, h1, q k H2 k2 o2 h2⟩
theorem et_not {mt : W Bool} (h : ET p tt ρ mt) : ET p (tNot tt) ρ (fun P => mt fun b => P (!b)) := fun P hp H0 O σ H e Q q => h _ hp H0 O σ H e _ fun b H2 k o pb => q (!b) H2 k o pb
theorem et_and {mt mu : W Bool} (h : ET p tt ρ mt) (k : ET p tu ρ mu) : ET p (tAnd tt tu) ρ (fun P => mt fun b => cW b (mu P) (P false)) := fun P hp H0 O σ H e Q q => by
  refine h _ hp H0 O σ H e _ fun c H2 k2 o2 pc => ?_
  cases c with
  | false => exact q false H2 k2 o2 pc
  | true => exact k _ pc H0 O σ H2 (e.kq k2 o2) _ fun d H3 k3 o3 pd => q d H3 (k2.trans k3) o3 pd
theorem et_or {mt mu : W Bool} (h : ET p tt ρ mt) (k : ET p tu ρ mu) : ET p (tOr tt tu) ρ (fun P => mt fun b => cW b (P true) (mu P)) := fun P hp H0 O σ H e Q q => by
  refine h _ hp H0 O σ H e _ fun c H2 k2 o2 pc => ?_
  cases c with
  | true => exact q true H2 k2 o2 pc
  | false => exact k _ pc H0 O σ H2 (e.kq k2 o2) _ fun d H3 k3 o3 pd => q d H3 (k2.trans k3) o3 pd
/-! and, or, not as values -/
theorem em_and {K : PySem.W.Frag} (h : EM p ta ρ m1) (k : EM p tb ρ m2) : EM p (tAndT K ta tb) ρ (fun P => m1 fun x => truthW x fun b => cW b (m2 P) (P x)) := fun P hp H0 O σ H e Q q => by
  refine h _ hp H0 O σ H e _ fun v H2 d k2 o2 hd pd => ?_
  obtain ⟨b, h1, h2⟩ := tru_dv (K := K) hd pd
  refine ⟨b, h1, ?_⟩
  cases b with
  | true => rw [if_pos rfl]; exact k _ h2 H0 O σ H2 (e.kq k2 o2) _ fun v H3 d k3 o3 hd pd => q v H3 d (k2.trans k3) o3 hd pd
  | false => rw [if_neg (by decide)]; exact q _ H2 _ k2 o2 hd h2
theorem em_or {K : PySem.W.Frag} (h : EM p ta ρ m1) (k : EM p tb ρ m2) : EM p (tOrT K ta tb) ρ (fun P => m1 fun x => truthW x fun b => cW b (P x) (m2 P)) := fun P hp H0 O σ H e Q q => by
  refine h _ hp H0 O σ H e _ fun v H2 d k2 o2 hd pd => ?_
  obtain ⟨b, h1, h2⟩ := tru_dv (K := K) hd pd
  refine ⟨b, h1, ?_⟩
  cases b with
  | true => rw [if_pos rfl]; exact q _ H2 _ k2 o2 hd h2
  | false => rw [if_neg (by decide)]; exact k _ h2 H0 O σ H2 (e.kq k2 o2) _ fun v H3 d k3 o3 hd pd => q v H3 d (k2.trans k3) o3 hd pd
theorem em_not {K : PySem.W.Frag} (h : EM p ta ρ m) : EM p (tNotT K ta) ρ (fun P => m fun x => truthW x fun b => P (.bool (!b))) := fun P hp H0 O σ H e Q q => by
  refine h _ hp H0 O σ H e _ fun v H2 d k2 o2 hd pd => ?_
  obtain ⟨b, h1, h2⟩ := tru_dv (K := K) hd pd
  exact ⟨b, h1, q _ H2 _ k2 o2 (.bl _) h2⟩
theorem em_ifE {mt : W Bool} (h : ET p tt ρ mt) (k1 : EM p ta ρ m1) (k2 : EM p tb ρ m2) : EM p (tIf tt ta tb) ρ (fun P => mt fun b => cW b (m1 P) (m2 P)) := fun P hp H0 O σ H e Q q => by
  refine h _ hp H0 O σ H e _ fun c H2 k o pc => ?_
  cases c with
  | true => exact k1 _ pc H0 O σ H2 (e.kq k o) _ fun v H3 d k3 o3 hd pd => q v H3 d (k.trans k3) o3 hd pd
  | false => exact k2 _ pc H0 O σ H2 (e.kq k o) _ fun v H3 d k3 o3 hd pd => q v H3 d (k.trans k3) o3 hd pd
theorem dv_none {S : Addr → Prop} {H : Hp} {v : V} {d : PyData} (h : Dv S H v d) : decide (v = V.non) = isNone d := by
  cases h <;> first | rfl | exact decide_eq_false (fun z => by cases z)
theorem em_isN (h : EM p ta ρ m) : EM p (tIsN ta) ρ (fun P => m fun x => P (.bool (isNone x))) := fun P hp H0 O σ H e Q q => by
  refine h _ hp H0 O σ H e _ fun v H2 d k o hd pd => ?_
  show Q (.bl (decide (v = .non))) H2
  rw [dv_none hd]
  exact q _ H2 _ k o (.bl _) pd
theorem em_notN (h : EM p ta ρ m) : EM p (tNotN ta) ρ (fun P => m fun x => P (.bool (!isNone x))) := fun P hp H0 O σ H e Q q => by
  refine h _ hp H0 O σ H e _ fun v H2 d k o hd pd => ?_
  show Q (.bl (!decide (v = .non))) H2
  rw [dv_none hd]
  exact q _ H2 _ k o (.bl _) pd
theorem em_chain {r r' : R2} {f g : PyData → PyData → W PyData} (hr : RS r f) (hr' : RS r' g) (h1 : EM p ta ρ m1) (h2 : EM p tb ρ m2) (h3 : EM p tc ρ m3) : EM p (tChain r r' ta tb tc) ρ (fun P => m1 fun x => m2 fun y => f x y fun t => boolW t fun b => cW b (m3 fun z => g y z P) (P (.bool false))) := fun P hp H0 O σ H e Q q => by
  refine h1 _ hp H0 O σ H e _ fun v H2 d k2 o2 hd pd => ?_
  have e2 := e.kq k2 o2
  refine h2 _ pd H0 O σ H2 e2 _ fun u H3 d' k3 o3 hd' pd' => ?_
  have e3 := e2.kq k3 o3
  refine hr p d d' _ pd' H0 O σ ρ H3 v u e3 (hd.kq k3 so_z) hd' _ fun t H4 f' k4 o4 ht pt => ?_
  have e4 := e3.kq k4 o4
  cases f' with
  | bool b =>
    cases ht
    refine ⟨b, rfl, ?_⟩
    cases b with
    | true =>
      refine h3 _ pt H0 O σ H4 e4 _ fun w H5 d3 k5 o5 hd5 pd5 => ?_
      exact hr' p d' d3 P pd5 H0 O σ ρ H5 u w (e4.kq k5 o5) ((hd'.kq k4 so_z).kq k5 so_z) hd5 Q fun v H6 f k6 o6 hv pf => q v H6 f ((((k2.trans k3).trans k4).trans k5).trans k6) o6 hv pf
    | false => exact q _ H4 _ ((k2.trans k3).trans k4) o4 (.bl _) pt
  | _ => exact pt.elim
end
theorem rs_ix {K : PySem.W.Frag} : RS (rIx K) idxW := fun p d e P h H0 O σ ρ H x y en hx hy Q q => by
  have go : ∀ {vs : List V} {ds : List PyData} {i : Int} {d : PyData}, DvL (SO p O) H vs ds → atI ds i = some d → ∃ v, atI vs i = some v ∧ Dv (SO p O) H v d := fun {vs ds i d} r hi => by
    unfold atI at hi
    rw [← r.length] at hi
    obtain ⟨j, hj, e2⟩ := Option.bind_eq_some_iff.mp hi
    obtain ⟨v, hv, hd⟩ := r.getD e2
    exact ⟨v, by unfold atI; rw [hj]; exact hv, hd⟩
  cases d with
  | tuple ds => cases e with
    | int i =>
      obtain ⟨d, hi, hp⟩ := h
      cases hx with | tup n ea r =>
        cases hy
        obtain ⟨v, hv, hd⟩ := go r hi
        exact .inr (.inl ⟨_, _, i, v, rfl, rfl, .inl (.inl ea), hv, fin en q hd hp⟩)
    | _ => exact h.elim
  | list ds => cases e with
    | int i =>
      obtain ⟨d, hi, hp⟩ := h
      cases hx with | lst n ea r =>
        cases hy
        obtain ⟨v, hv, hd⟩ := go r hi
        exact .inl ⟨_, _, i, v, rfl, rfl, .inl (.inl ea), hv, fin en q hd hp⟩
    | _ => exact h.elim
  | _ => exact h.elim
theorem ixU {X : Cx} (K : PySem.W.Frag) (h : X.K = K := by rfl) : IxR X (rIx K) := h ▸ ix_seq

/-! ### slices -/
def EP' (p : Pm) (to : TO) (ρ : Rho) (m : W (Option Int)) : Prop := ∀ P, m P → ∀ H0 O σ H, En p H0 O σ H ρ → ∀ Q : Option Int → Hp → Prop, (∀ o H2, Kq p.Z H H2 → Ok p H2 → P o → Q o H2) → to σ H Q
theorem ep_no {p : Pm} {ρ : Rho} : EP' p tNoPart ρ (fun P => P none) := fun P hp H0 O σ H e Q q => q _ H (Kq.refl H) e.ok hp
theorem ep_part {p : Pm} {ρ : Rho} {ta : TE} {m : W PyData} (h : EM p ta ρ m) : EP' p (tPart ta) ρ (fun P => m fun x => partIW x P) := fun P hp H0 O σ H e Q q => by
  refine h _ hp H0 O σ H e _ fun v H2 d k2 o2 hd pd => ?_
  cases d with
  | int i => cases hd; exact ⟨i, rfl, q _ H2 k2 o2 pd⟩
  | _ => exact pd.elim
end Kz
set_option Elab.async false
set_option linter.all false
set_option maxRecDepth 100000
set_option maxHeartbeats 4000000
/-! Kz: what is walked; slices; built-ins; comprehensions -/
namespace Kz
open PySem PySem.Spec PyProof.Rows L2
variable [GT]

/-! ### slices, the row turned about -/
theorem em_slice {p : Pm} {ρ : Rho} {ta : TE} {m : W PyData} {ml mh : W (Option Int)} {K : PySem.W.Frag} {tl th : TO} (h : EM p ta ρ m) (hl : EP' p tl ρ ml) (hh : EP' p th ρ mh) : EM p (tSl (fun x lo hi H Q => (rSlA K x lo hi H Q ∨ rSlL K x lo hi H Q) ∨ rSlS x lo hi H Q) ta tl th) ρ (fun P => m fun x => ml fun l => mh fun r => cutW x l r P) := fun P hp H0 O σ H e Q q => by
  refine h _ hp H0 O σ H e _ fun v H2 d k2 o2 hd pd => ?_
  have e2 := e.kq k2 o2
  refine hl _ pd H0 O σ H2 e2 _ fun lo H3 k3 o3 pl => ?_
  have e3 := e2.kq k3 o3
  refine hh _ pl H0 O σ H3 e3 _ fun hi H4 k4 o4 pr => ?_
  have e4 := e3.kq k4 o4
  have kk := (k2.trans k3).trans k4
  have hd4 := (hd.kq k3 so_z).kq k4 so_z
  have q' : ∀ v H2 d, Kq p.Z H4 H2 → Ok p H2 → Dv (SO p O) H2 v d → P d → Q v H2 := fun v H5 d k5 => q v H5 d (kk.trans k5)
  have cut : ∀ {xs : List V} {ds : List PyData}, DvL (SO p O) H4 xs ds → DvL (SO p O) H4 (cutV xs lo hi) (cutD ds lo hi) := fun r => by
    unfold cutV cutD
    rw [r.length]
    exact (r.drop _).take _
  cases d with
  | tuple ds =>
    cases hd4 with
    | @tup a xs _ n ea r =>
      have hcut := cut r
      refine .inl (.inl ⟨a, xs, rfl, .inl (.inl ea), fun hw => ?_, fun _ l hl => finN e4 q' hl (rs_tup hl (fresh_so e4 hl) hcut) pr⟩)
      have e5 : cutV xs lo hi = xs := by
        unfold cutV
        rw [hw.1, hw.2]
        simp
      rw [e5] at hcut
      exact fin e4 q' (.tup n ea hcut) pr
  | list ds =>
    cases hd4 with
    | @lst a xs _ n ea r =>
      exact .inl (.inr ⟨a, xs, rfl, .inl (.inl ea), fun l hl => finN e4 q' hl (rs_lst hl (fresh_so e4 hl) (cut r)) pr⟩)
  | str x => cases hd4; exact .inr ⟨x, rfl, sz1 pr.1, fin e4 q' (.str _) pr.2⟩
  | _ => exact pr.elim
theorem slU {X : Cx} (K : PySem.W.Frag) (h : X.K = K := by rfl) : SlR X (fun x lo hi H Q => (rSlA K x lo hi H Q ∨ rSlL K x lo hi H Q) ∨ rSlS x lo hi H Q) := h ▸ SlR.or (SlR.or sl_tupA sl_list) sl_str
theorem em_rev {p : Pm} {ρ : Rho} {ta : TE} {m : W PyData} {K : PySem.W.Frag} (h : EM p ta ρ m) : EM p (tRevT K ta) ρ (fun P => m fun x => revW x P) := fun P hp H0 O σ H e Q q => by
  refine h _ hp H0 O σ H e _ fun v H2 d k2 o2 hd pd => ?_
  have e2 := e.kq k2 o2
  have q' : ∀ v H5 d, Kq p.Z H2 H5 → Ok p H5 → Dv (SO p O) H5 v d → P d → Q v H5 := fun v H5 d k5 => q v H5 d (k2.trans k5)
  cases d with
  | tuple ds =>
    cases hd with
    | @tup a xs _ n ea r =>
      have rr : DvL (SO p O) H2 xs.reverse ds.reverse := by
        clear pd
        induction ds generalizing xs with
        | nil => cases r; exact .nil
        | cons d ds ih =>
          cases r with
          | cons h1 h2 =>
            rw [List.reverse_cons, List.reverse_cons]
            have : ∀ {xs : List V} {ds : List PyData}, DvL (SO p O) H2 xs ds → DvL (SO p O) H2 xs.reverse ds.reverse := by
              intro xs ds
              induction ds generalizing xs with
              | nil => intro r; cases r; exact .nil
              | cons d ds ih => intro r; cases r with | cons h1 h2 => rw [List.reverse_cons, List.reverse_cons]; exact (ih h2).append (.one h1)
            exact (this h2).append (.one h1)
      exact ⟨a, xs, rfl, .inl (.inl ea), fun l hl => finN e2 q' hl (rs_tup hl (fresh_so e2 hl) rr) pd.2⟩
  | _ => exact pd.elim

/-! ### built-ins by name -/
def Bc (p : Pm) (r : List V → Hp → VK → Prop) (ds : List PyData) (P : PyData → Prop) : Prop := ∀ H0 O σ (ρ : Rho) H vs, En p H0 O σ H ρ → DvL (SO p O) H vs ds → ∀ Q : VK, (∀ v H2 f, Kq p.Z H H2 → Ok p H2 → Dv (SO p O) H2 v f → P f → Q v H2) → r vs H Q
def B1 (r : List V → Hp → VK → Prop) (f : PyData → W PyData) : Prop := ∀ (p : Pm) d P, f d P → Bc p r [d] P
def B2 (r : List V → Hp → VK → Prop) (f : PyData → PyData → W PyData) : Prop := ∀ (p : Pm) d e P, f d e P → Bc p r [d, e] P
theorem DvL.one_inv {S : Addr → Prop} {H : Hp} {vs : List V} {d : PyData} (h : DvL S H vs [d]) : ∃ v, vs = [v] ∧ Dv S H v d := by
  cases h with | cons h1 h2 => cases h2; exact ⟨_, rfl, h1⟩
theorem DvL.two_inv {S : Addr → Prop} {H : Hp} {vs : List V} {d e : PyData} (h : DvL S H vs [d, e]) : ∃ v w, vs = [v, w] ∧ Dv S H v d ∧ Dv S H w e := by
  cases h with | cons h1 h2 => cases h2 with | cons h2 h3 => cases h3; exact ⟨_, _, rfl, h1, h2⟩
section
variable {p : Pm} {ρ : Rho} {ta tb te : TE} {m m1 m2 : W PyData} {K : PySem.W.Frag}
theorem em_b1 {r : List V → Hp → VK → Prop} {f : PyData → W PyData} (hb : B1 r f) (h : EM p ta ρ m) : EM p (tCB r (tCons ta tNil)) ρ (fun P => m fun x => f x P) := fun P hp H0 O σ H e Q q => by
  refine h _ hp H0 O σ H e _ fun v H2 d k2 o2 hd pd => ?_
  exact hb p d P pd H0 O σ ρ H2 [v] (e.kq k2 o2) (.one hd) Q fun v H3 f k3 o3 hv pf => q v H3 f (k2.trans k3) o3 hv pf
theorem em_b2 {r : List V → Hp → VK → Prop} {f : PyData → PyData → W PyData} (hb : B2 r f) (h : EM p ta ρ m1) (k : EM p tb ρ m2) : EM p (tCB r (tCons ta (tCons tb tNil))) ρ (fun P => m1 fun x => m2 fun y => f x y P) := fun P hp H0 O σ H e Q q => by
  refine h _ hp H0 O σ H e _ fun v H2 d k2 o2 hd pd => ?_
  have e2 := e.kq k2 o2
  refine k _ pd H0 O σ H2 e2 _ fun u H3 d' k3 o3 hd' pd' => ?_
  exact hb p d d' P pd' H0 O σ ρ H3 [v, u] (e2.kq k3 o3) (.cons (hd.kq k3 so_z) (.one hd')) Q fun v H4 f k4 o4 hv pf => q v H4 f ((k2.trans k3).trans k4) o4 hv pf
theorem b_len : B1 (rLn K) lenW := fun p d P h H0 O σ ρ H vs e hv Q q => by
  obtain ⟨v, rfl, hw⟩ := hv.one_inv
  cases d with
  | list ds => cases hw with | lst n ea r => exact ⟨_, _, rfl, .inl (.inl (.inl ea)), by rw [r.length]; exact fin e q (.int _) h⟩
  | tuple ds => cases hw with | tup n ea r => exact ⟨_, _, rfl, .inr (.inl (.inl ea)), by rw [r.length]; exact fin e q (.int _) h⟩
  | _ => exact h.elim
theorem b_tuple : B1 (rTp K) tupleW := fun p d P h H0 O σ ρ H vs e hv Q q => by
  obtain ⟨v, rfl, hw⟩ := hv.one_inv
  cases d with
  | list ds => cases hw with | lst n ea r => exact ⟨_, _, rfl, .inl ⟨.inl (.inl ea), fun l hl => finN e q hl (rs_tup hl (fresh_so e hl) r) h⟩⟩
  | tuple ds => cases hw with | tup n ea r => exact ⟨_, _, rfl, .inr ⟨.inl (.inl ea), fin e q (.tup n ea r) h⟩⟩
  | _ => exact h.elim
theorem b_list : B1 (rLs K) listW := fun p d P h H0 O σ ρ H vs e hv Q q => by
  obtain ⟨v, rfl, hw⟩ := hv.one_inv
  cases d with
  | list ds => cases hw with | lst n ea r => exact ⟨_, _, rfl, .inl (.inl (.inl ea)), fun l hl => finN e q hl (rs_lst hl (fresh_so e hl) r) h⟩
  | tuple ds => cases hw with | tup n ea r => exact ⟨_, _, rfl, .inr (.inl (.inl ea)), fun l hl => finN e q hl (rs_lst hl (fresh_so e hl) r) h⟩
  | _ => exact h.elim
theorem b_int : B1 rIt intW := fun p d P h H0 O σ ρ H vs e hv Q q => by
  obtain ⟨v, rfl, hw⟩ := hv.one_inv
  cases d with
  | int i => cases hw; exact .inl ⟨i, rfl, fin e q (.int i) h⟩
  | bool b => cases hw; exact .inr ⟨b, rfl, fin e q (.int _) h⟩
  | _ => exact h.elim
theorem b_abs : B1 rAb absW := fun p d P h H0 O σ ρ H vs e hv Q q => by
  obtain ⟨v, rfl, hw⟩ := hv.one_inv
  cases d with
  | int i => cases hw; exact .inl ⟨i, rfl, fin e q (.int _) h⟩
  | bool b => cases hw; exact .inr ⟨b, rfl, fin e q (.int _) h⟩
  | _ => exact h.elim
theorem b_sum : B1 (rSum K) sumW := fun p d P h H0 O σ ρ H vs e hv Q q => by
  obtain ⟨v, rfl, hw⟩ := hv.one_inv
  cases d with
  | list ds =>
    have h' : (match intsOf ds with | some ns => P (.int ns.sum) | none => False) := h
    split at h'
    · rename_i ns hn
      have := intsOf_eq hn
      subst this
      cases hw with | lst n ea r =>
        have er := r.ints_inv
        subst er
        exact ⟨_, ns, rfl, .inl (.inl ea), fin e q (.int _) h'⟩
    · exact h'.elim
  | _ => exact h.elim
theorem b_max : B1 (rMax K) maxW := fun p d P h H0 O σ ρ H vs e hv Q q => by
  obtain ⟨v, rfl, hw⟩ := hv.one_inv
  cases d with
  | list ds =>
    have h' : (match (intsOf ds).bind maxL with | some m => P (.int m) | none => False) := h
    split at h'
    · rename_i m hm
      obtain ⟨ns, hn, hm'⟩ := Option.bind_eq_some_iff.mp hm
      have := intsOf_eq hn
      subst this
      obtain ⟨g1, g2⟩ := maxL_ok hm'
      cases hw with | lst n ea r =>
        have er := r.ints_inv
        subst er
        refine ⟨_, ns, rfl, .inl (.inl ea), List.length_pos_of_mem g1, fun m' hm' hy => ?_⟩
        have : m' = m := Int.le_antisymm (g2 m' hm') (hy m g1)
        subst this
        exact fin e q (.int _) h'
    · exact h'.elim
  | _ => exact h.elim
theorem b_min : B1 (rMin K) minW := fun p d P h H0 O σ ρ H vs e hv Q q => by
  obtain ⟨v, rfl, hw⟩ := hv.one_inv
  cases d with
  | list ds =>
    have h' : (match (intsOf ds).bind minL with | some m => P (.int m) | none => False) := h
    split at h'
    · rename_i m hm
      obtain ⟨ns, hn, hm'⟩ := Option.bind_eq_some_iff.mp hm
      have := intsOf_eq hn
      subst this
      obtain ⟨g1, g2⟩ := minL_ok hm'
      cases hw with | lst n ea r =>
        have er := r.ints_inv
        subst er
        refine ⟨_, ns, rfl, .inl (.inl ea), List.length_pos_of_mem g1, fun m' hm' hy => ?_⟩
        have : m' = m := Int.le_antisymm (hy m g1) (g2 m' hm')
        subst this
        exact fin e q (.int _) h'
    · exact h'.elim
  | _ => exact h.elim
theorem b_max2 : B2 rMx2 max2W := fun p d d2 P h H0 O σ ρ H vs e hv Q q => by
  obtain ⟨v, w, rfl, hw, hw'⟩ := hv.two_inv
  cases d with
  | int i => cases d2 with
    | int j => cases hw; cases hw'; exact ⟨i, j, rfl, fin e q (.int _) h⟩
    | _ => exact h.elim
  | _ => exact h.elim
theorem b_min2 : B2 rMn2 min2W := fun p d d2 P h H0 O σ ρ H vs e hv Q q => by
  obtain ⟨v, w, rfl, hw, hw'⟩ := hv.two_inv
  cases d with
  | int i => cases d2 with
    | int j => cases hw; cases hw'; exact ⟨i, j, rfl, fin e q (.int _) h⟩
    | _ => exact h.elim
  | _ => exact h.elim
theorem b_all : B1 (rAll K) allW := fun p d P h H0 O σ ρ H vs e hv Q q => by
  obtain ⟨v, rfl, hw⟩ := hv.one_inv
  cases d with
  | list ds =>
    have h' : (match boolsOf ds with | some ns => P (.bool (ns.all id)) | none => False) := h
    split at h'
    · rename_i ns hn
      have := boolsOf_eq hn
      subst this
      cases hw with | lst n ea r =>
        have er := r.bools_inv
        subst er
        exact ⟨_, ns, rfl, .inl (.inl ea), fin e q (.bl _) h'⟩
    · exact h'.elim
  | _ => exact h.elim
def gcdW : PyData → PyData → W PyData
  | .int i, .int j, P => P (.int ((Nat.gcd i.natAbs j.natAbs : Nat) : Int))
  | _, _, _ => False
theorem b_gcd : B2 rGcd gcdW := fun p d d2 P h H0 O σ ρ H vs e hv Q q => by
  obtain ⟨v, w, rfl, hw, hw'⟩ := hv.two_inv
  cases d with
  | int i => cases d2 with
    | int j => cases hw; cases hw'; exact ⟨i, j, rfl, fin e q (.int _) h⟩
    | _ => exact h.elim
  | _ => exact h.elim
def anyTW : PyData → W PyData
  | .tuple ds, P => match intsOf ds with | some ns => P (.bool (ns.any (· != 0))) | none => False
  | _, _ => False
theorem b_anyT : B1 (rAnyT K) anyTW := fun p d P h H0 O σ ρ H vs e hv Q q => by
  obtain ⟨v, rfl, hw⟩ := hv.one_inv
  cases d with
  | tuple ds =>
    have h' : (match intsOf ds with | some ns => P (.bool (ns.any (· != 0))) | none => False) := h
    split at h'
    · rename_i ns hn
      have := intsOf_eq hn
      subst this
      cases hw with | tup n ea r =>
        have er := r.ints_inv
        subst er
        exact ⟨_, ns, rfl, .inl (.inl ea), fin e q (.bl _) h'⟩
    · exact h'.elim
  | _ => exact h.elim
def reprW (d : PyData) : W PyData := fun P => Shv d ∧ P (.str d.shown)
theorem b_repr : B1 rRepv reprW := fun p d P h H0 O σ ρ H vs e hv Q q => by
  obtain ⟨v, rfl, hw⟩ := hv.one_inv
  exact ⟨v, d, _, rfl, hw, h.1, fin e q (.str _) h.2⟩
def strW : PyData → W PyData
  | .int i, P => bits i < 1920 ∧ P (.str (toString i))
  | .bool b, P => P (.str (if b then "True" else "False"))
  | _, _ => False
theorem b_str : B1 (fun xs H Q => (∃ i, xs = [.int i] ∧ i.natAbs.log2 < 1920 ∧ Q (.str (toString i)) H) ∨ ∃ b : Bool, xs = [.bl b] ∧ Q (.str (if b then "True" else "False")) H) strW := fun p d P h H0 O σ ρ H vs e hv Q q => by
  obtain ⟨v, rfl, hw⟩ := hv.one_inv
  cases d with
  | int i => cases hw; exact .inl ⟨i, rfl, h.1, fin e q (.str _) h.2⟩
  | bool b => cases hw; exact .inr ⟨b, rfl, fin e q (.str _) h⟩
  | _ => exact h.elim
/-! isinstance with a built-in type -/
theorem tyx {S : Addr → Prop} {H : Hp} {v : V} {d : PyData} (h : Dv S H v d) : TyX K H v (.type (tyD d)) := by
  cases h with
  | non => exact .base .non
  | bl b => exact .base (.bl b)
  | int i => exact .base (.int i)
  | str x => exact .base (.str x)
  | lst _ e _ => exact .base (.lst e)
  | tup _ e _ => exact .base (.tup e)
  | dct _ e _ => exact .base (.dK e)
theorem em_isi {T : String} (h : EM p ta ρ m) (k : Er p tb ρ (.ty T)) : EM p (tCB (rIsi K) (tCons ta (tCons tb tNil))) ρ (fun P => m fun x => isiW x T P) := fun P hp H0 O σ H e Q q => by
  refine h _ hp H0 O σ H e _ fun v H2 d' k2 o2 hd pd => ?_
  obtain ⟨b, hb, pb⟩ := pd
  refine k H0 O σ H2 (e.kq k2 o2) _ fun H3 k3 o3 => ?_
  exact ⟨v, .ty T, _, _, b, rfl, .ty T, tyx (hd.kq k3 so_z), kit_ty hb, q _ H3 _ (k2.trans k3) o3 (.bl b) pb⟩
end

/-! ### what is walked -/
/-- a later heap; objects of this def's own may have come -/
structure Lat (p : Pm) (O : Addr → Prop) (Hs : Hp) (O' : Addr → Prop) (H' : Hp) : Prop where
  k : Kq (ZO p O) Hs H'
  new : ∀ a, O' a → O a ∨ Hs a = none
  ok : Ok p H'
  ow : ∀ a, O' a → ∃ o, H' a = some o ∧ NT o
structure Wk (p : Pm) (O : Addr → Prop) (Hs : Hp) (J : It) (ds : List PyData) : Prop where
  go : ∀ O' H' i, Lat p O Hs O' H' → i < ds.length → J.go i H'
  stop : ∀ O' H', Lat p O Hs O' H' → J.stop ds.length H'
  yld : ∀ O' H' i x H'' d, Lat p O Hs O' H' → ds[i]? = some d → J.yld i H' x H'' → Kp H' H'' ∧ Dv (SO p O') H'' x d
def Ii (p : Pm) (wi : TI) (ρ : Rho) (P : List PyData → Prop) : Prop := ∀ H0 O σ H, En p H0 O σ H ρ → ∀ R : It → Hp → Prop, (∀ J H2 ds, Kq p.Z H H2 → Ok p H2 → P ds → Wk p O H2 J ds → R J H2) → wi σ H R
def EI (p : Pm) (wi : TI) (ρ : Rho) (m : W (List PyData)) : Prop := ∀ P, m P → Ii p wi ρ P
def seqD : PyData → Option (List PyData)
  | .list ds => some ds
  | .tuple ds => some ds
  | _ => none
def rngD (lo : Int) (n : Nat) : List PyData := (List.range n).map fun (i : Nat) => .int (lo + i)
def zipD (ds es : List PyData) : List PyData := List.zipWith (fun a b => .tuple [a, b]) ds es
def enumD (ds : List PyData) : List PyData := ds.zipIdx.map fun q => .tuple [.int q.2, q.1]
def iterW (d : PyData) : W (List PyData) := fun P => match seqD d with | some ds => P ds | none => False
def zipW (d e : PyData) : W (List PyData) := fun P => match seqD d, seqD e with | some ds, some es => P (zipD ds es) | _, _ => False
def enumW (d : PyData) : W (List PyData) := fun P => match seqD d with | some ds => P (enumD ds) | none => False
def rng1W : PyData → W (List PyData)
  | .int i, P => (-(2 ^ 62) ≤ i ∧ i < 2 ^ 62) ∧ P (rngD 0 i.toNat)
  | _, _ => False
def rng2W : PyData → PyData → W (List PyData)
  | .int i, .int j, P => (-(2 ^ 62) ≤ i ∧ i < 2 ^ 62 ∧ -(2 ^ 62) ≤ j ∧ j < 2 ^ 62) ∧ P (rngD i (j - i).toNat)
  | _, _, _ => False
section
variable {p : Pm} {ρ : Rho} {ta tb te : TE} {tt : TT} {H0 : Bs} {H Hs H' : Hp} {O O' : Addr → Prop} {σ : L2.St} {m m1 m2 : W PyData} {K : PySem.W.Frag}
theorem Lat.dv {v : V} {d : PyData} (l : Lat p O Hs O' H') (h : Dv (SO p O) Hs v d) : Dv (SO p O') H' v d := h.map (fun a n t z => by
    rcases z with z | z
    · exact n (.inl z)
    · rcases l.new a z with z | z
      · exact n (.inr z)
      · exact t z) fun a o n e t => l.k.at_ a o (fun z => n (so_zo a z)) e t
theorem Lat.fresh {a : Addr} (l : Lat p O Hs O' H') (h : H' a = none) : ¬ SO p O' a := fun z => by
  rcases z with z | z
  · obtain ⟨o, e, _⟩ := l.ok.tr a z
    rw [h] at e; cases e
  · obtain ⟨o, e, _⟩ := l.ow a z
    rw [h] at e; cases e
theorem Lat.refl (e : En p H0 O σ H ρ) : Lat p O H O H := ⟨Kq.refl H, fun _ h => .inl h, e.ok, fun a h => (e.ow a h).2.2⟩
theorem tup_stays {a : Addr} {xs : List V} (l : Lat p O Hs O' H') (n : ¬ SO p O a) (h : Hs a = some (.tup xs)) : H' a = some (.tup xs) := l.k.at_ a _ (fun z => n (so_zo a z)) h nt_tup
theorem lst_stays {a : Addr} {xs : List V} (l : Lat p O Hs O' H') (n : ¬ SO p O a) (h : Hs a = some (.lst xs)) : H' a = some (.lst xs) := l.k.at_ a _ (fun z => n (so_zo a z)) h nt_lst
/-- a list or tuple, whichever -/
def iAny (K : PySem.W.Frag) (tl : TE) : TI := fun σ H R => tl σ H fun x H1 => ∃ a, x = .ref a ∧ (((∃ xs, SqL K H1 a xs) ∧ R (Itl K a) H1) ∨ ((∃ xs, SqT K H1 a xs) ∧ R (Itt K a) H1))
theorem pi_any {X : Cx} {tg l : Expr} {tl : TE} (hl : PE X l tl) : PI X tg l (iAny X.K tl) := by
  refine ⟨fun pins s σ H R I h => ?_⟩
  refine thn (hl.run pins s σ H _ I h) fun v s1 ⟨x, H1, I1, r1, q1⟩ => ?_
  obtain ⟨a, e, q1⟩ := q1
  subst e
  cases r1
  rcases q1 with ⟨⟨xs, hq⟩, q⟩ | ⟨⟨xs, hq⟩, q⟩
  · obtain ⟨its, rv, p, hz⟩ := I1.list hq
    refine wpAny_pyIter_list p.isList ?_
    refine ⟨s1.heap.objs.size, [s1.heap.objs.size], _, _, H1, rfl, I1.kept (t' := s1.toks) fun b o e => Heap.get?_push_of_some _ e, turn_list a _, ⟨_, Heap.get?_push_size _ rfl, rfl, rfl⟩, fun b hb => ?_, q⟩
    have e : b = s1.heap.objs.size := by simpa using hb
    subst e
    exact I1.fpOk (Nat.le_refl _) (I1.hok.fresh (Nat.le_refl _))
  · obtain ⟨its, rv, p, hz⟩ := I1.tuple hq
    refine wpAny_pyIter_tuple (show s1.heap.IsTuple a its.toArray from p) ?_
    refine ⟨s1.heap.objs.size, [s1.heap.objs.size], _, _, H1, rfl, I1.kept (t' := s1.toks) fun b o e => Heap.get?_push_of_some _ e, turn_tuple a _, ⟨_, Heap.get?_push_size _ rfl, rfl, rfl⟩, fun b hb => ?_, q⟩
    have e : b = s1.heap.objs.size := by simpa using hb
    subst e
    exact I1.fpOk (Nat.le_refl _) (I1.hok.fresh (Nat.le_refl _))
theorem piA {X : Cx} {tg l : Expr} {tl : TE} (K : PySem.W.Frag) (hl : PE X l tl) (h : X.K = K := by rfl) : PI X tg l (iAny K tl) := h ▸ pi_any hl
theorem ei_any (h : EM p ta ρ m) : EI p (iAny K ta) ρ (fun P => m fun x => iterW x P) := fun P hp H0 O σ H e R q => by
  refine h _ hp H0 O σ H e _ fun v H2 d k2 o2 hd pd => ?_
  cases d with
  | list ds =>
    cases hd with
    | @lst a xs _ n ea r =>
      refine ⟨a, rfl, .inl ⟨⟨xs, .inl (.inl ea)⟩, q _ H2 ds k2 o2 pd ⟨fun O' H' i l hi => ?_, fun O' H' l => ?_, fun O' H' i x H'' d l hd y => ?_⟩⟩⟩
      · have hi' : i < xs.length := by rw [r.length]; exact hi
        exact ⟨xs, xs[i], .inl (.inl (lst_stays l n ea)), List.getElem?_eq_getElem hi'⟩
      · exact ⟨xs, .inl (.inl (lst_stays l n ea)), by rw [r.length]; exact Nat.le_refl _⟩
      · obtain ⟨e1, hy⟩ := y
        subst e1
        obtain ⟨d', hd', hv⟩ := r.get (hy xs (.inl (.inl (lst_stays l n ea))))
        rw [hd] at hd'
        cases hd'
        exact ⟨Kq.refl _, l.dv hv⟩
  | tuple ds =>
    cases hd with
    | @tup a xs _ n ea r =>
      refine ⟨a, rfl, .inr ⟨⟨xs, .inl (.inl ea)⟩, q _ H2 ds k2 o2 pd ⟨fun O' H' i l hi => ?_, fun O' H' l => ?_, fun O' H' i x H'' d l hd y => ?_⟩⟩⟩
      · have hi' : i < xs.length := by rw [r.length]; exact hi
        exact ⟨xs, xs[i], .inl (.inl (tup_stays l n ea)), List.getElem?_eq_getElem hi'⟩
      · exact ⟨xs, .inl (.inl (tup_stays l n ea)), by rw [r.length]; exact Nat.le_refl _⟩
      · obtain ⟨e1, hy⟩ := y
        subst e1
        obtain ⟨d', hd', hv⟩ := r.get (hy xs (.inl (.inl (tup_stays l n ea))))
        rw [hd] at hd'
        cases hd'
        exact ⟨Kq.refl _, l.dv hv⟩
  | _ => exact pd.elim
theorem wk_rng {lo : Int} {n : Nat} : Wk p O Hs (Itr lo n) (rngD lo n) :=
  ⟨fun O' H' i _ hi => by show i < n; simpa [rngD] using hi, fun O' H' _ => by simp [Itr, rngD], fun O' H' i x H'' d _ hd y => by
    obtain ⟨e1, e2⟩ := y
    subst e1 e2
    unfold rngD at hd
    rw [List.getElem?_map] at hd
    obtain ⟨j, hj, rfl⟩ := Option.map_eq_some_iff.mp hd
    have : j = i := by rw [List.getElem?_range (by have := (List.getElem?_eq_some_iff.mp hj).1; simpa using this)] at hj; cases hj; rfl
    subst this
    exact ⟨Kq.refl _, .int _⟩⟩
theorem ei_rng1 (h : EM p ta ρ m) : EI p (iRng1 (tCons ta tNil)) ρ (fun P => m fun x => rng1W x P) := fun P hp H0 O σ H e R q => by
  refine h _ hp H0 O σ H e _ fun v H2 d k2 o2 hd pd => ?_
  cases d with
  | int i => cases hd; exact ⟨i, rfl, pd.1.1, pd.1.2, q _ H2 _ k2 o2 pd.2 wk_rng⟩
  | _ => exact pd.elim
theorem ei_rng2 (h : EM p ta ρ m1) (k : EM p tb ρ m2) : EI p (iRng2 (tCons ta (tCons tb tNil))) ρ (fun P => m1 fun x => m2 fun y => rng2W x y P) := fun P hp H0 O σ H e R q => by
  refine h _ hp H0 O σ H e _ fun v H2 d k2 o2 hd pd => ?_
  refine k _ pd H0 O σ H2 (e.kq k2 o2) _ fun u H3 d' k3 o3 hd' pd' => ?_
  cases d with
  | int i => cases d' with
    | int j => cases hd; cases hd'; exact ⟨i, j, rfl, pd'.1, q _ H3 _ (k2.trans k3) o3 pd'.2 wk_rng⟩
    | _ => exact pd'.elim
  | _ => exact pd'.elim
theorem seq_sq {S : Addr → Prop} {H : Hp} {v : V} {d : PyData} {ds : List PyData} (s : seqD d = some ds) (h : Dv S H v d) : ∃ k a xs, v = .ref a ∧ ¬ S a ∧ H a = some (if k = true then HO.lst xs else HO.tup xs) ∧ DvL S H xs ds := by
  cases d with
  | list es => cases s; cases h with | lst n e r => exact ⟨true, _, _, rfl, n, by rw [if_pos rfl]; exact e, r⟩
  | tuple es => cases s; cases h with | tup n e r => exact ⟨false, _, _, rfl, n, by rw [if_neg (by decide)]; exact e, r⟩
  | _ => cases s
theorem sqk_of {k : Bool} {a : Addr} {xs : List V} (h : H a = some (if k = true then HO.lst xs else HO.tup xs)) : SqK k K H a xs := by
  unfold SqK
  cases k with
  | true => rw [if_pos rfl] at h ⊢; exact .inl (.inl h)
  | false => rw [if_neg (by decide)] at h ⊢; exact .inl (.inl h)
theorem sq_stays {k : Bool} {a : Addr} {xs : List V} (l : Lat p O Hs O' H') (n : ¬ SO p O a) (h : Hs a = some (if k = true then HO.lst xs else HO.tup xs)) : H' a = some (if k = true then HO.lst xs else HO.tup xs) := by
  cases k with
  | true => exact lst_stays l n h
  | false => exact tup_stays l n h
theorem pair_dv {T : Addr} {x y : V} {a b : PyData} (l : Lat p O Hs O' H') (hT : H' T = none) (hx : Dv (SO p O') H' x a) (hy : Dv (SO p O') H' y b) : Kp H' (upd H' T (.tup [x, y])) ∧ Dv (SO p O') (upd H' T (.tup [x, y])) (.ref T) (.tuple [a, b]) := by
  have k : Kp H' (upd H' T (.tup [x, y])) := Kq.new hT
  exact ⟨k, .tup (l.fresh hT) upd_same (.cons (hx.kp k) (.one (hy.kp k)))⟩
theorem ei_zip (h : EM p ta ρ m1) (k : EM p tb ρ m2) : EI p (iZipM K (tCons ta (tCons tb tNil))) ρ (fun P => m1 fun x => m2 fun y => zipW x y P) := fun P hp H0 O σ H e R q => by
  refine h _ hp H0 O σ H e _ fun v H2 d k2 o2 hd pd => ?_
  refine k _ pd H0 O σ H2 (e.kq k2 o2) _ fun u H3 d' k3 o3 hd' pd' => ?_
  have hd3 := hd.kq k3 so_z
  unfold zipW at pd'
  split at pd'
  · rename_i ds es s1 s2
    obtain ⟨k1, a, xs, rfl, n1, e1, r1⟩ := seq_sq s1 hd3
    obtain ⟨k2', b, ys, rfl, n2, e2, r2⟩ := seq_sq s2 hd'
    refine ⟨k1, k2', a, b, xs, ys, rfl, sqk_of e1, sqk_of e2, q _ H3 _ (k2.trans k3) o3 pd' ⟨fun O' H' i l hi => ?_, fun O' H' l => ?_, fun O' H' i x H'' d l hd y => ?_⟩⟩
    · have hl : (zipD ds es).length = min ds.length es.length := by unfold zipD; rw [List.length_zipWith]
      rw [hl] at hi
      have h1 : i < xs.length := by rw [r1.length]; omega
      have h2 : i < ys.length := by rw [r2.length]; omega
      exact ⟨xs, ys, xs[i], ys[i], sqk_of (sq_stays l n1 e1), sqk_of (sq_stays l n2 e2), List.getElem?_eq_getElem h1, List.getElem?_eq_getElem h2⟩
    · have hl : (zipD ds es).length = min ds.length es.length := by unfold zipD; rw [List.length_zipWith]
      refine ⟨xs, ys, sqk_of (sq_stays l n1 e1), sqk_of (sq_stays l n2 e2), ?_⟩
      rw [hl, r1.length, r2.length]
      omega
    · obtain ⟨T, x', y', rfl, hT, rfl, g1, g2⟩ := y
      have hx := g1 xs (sqk_of (sq_stays l n1 e1))
      have hy := g2 ys (sqk_of (sq_stays l n2 e2))
      obtain ⟨da, hda, va⟩ := r1.get hx
      obtain ⟨db, hdb, vb⟩ := r2.get hy
      have : d = .tuple [da, db] := by
        unfold zipD at hd
        rw [List.getElem?_zipWith] at hd
        rw [hda, hdb] at hd
        simpa using hd.symm
      subst this
      exact pair_dv l hT (l.dv va) (l.dv vb)
  · exact pd'.elim
end
end Kz
set_option Elab.async false
set_option linter.all false
set_option maxRecDepth 100000
set_option maxHeartbeats 4000000
/-! Kz: enumerate of a list or tuple; targets; comprehensions -/
namespace Kz
open PySem PySem.Spec PyProof.Rows L2
variable [GT]

/-- the list or tuple at a, each item in a new pair with its place -/
def ItE (K : PySem.W.Frag) (k : Bool) (a : Addr) : It :=
  ⟨fun i H => ∃ (xs : List V) (x : V), SqK k K H a xs ∧ xs[i]? = some x, fun i H v H' => ∃ T x, v = .ref T ∧ H T = none ∧ H' = upd H T (.tup [.int (i : Nat), x]) ∧ ∀ xs, SqK k K H a xs → xs[i]? = some x,
   fun i H => ∃ xs : List V, SqK k K H a xs ∧ xs.length = i⟩
theorem turn_enumE {P : Program} {w : World} {K : PySem.W.Frag} {k : Bool} {elts : List Expr} {kk : Nat} {tpos : Pos} (a e it : Addr) :
    Turn P w K (.Tuple elts kk tpos) (ItE K k a) [e, it] e (fun i h => (∃ old, IsEnum h e it ((i : Nat) : Int) old) ∧ HiK k h it a i ∧ e ≠ it ∧ a ≠ it ∧ e ≠ a) where
  mem := by simp
  obj := by
    rintro i h ⟨⟨old, he⟩, hi, _⟩ b hb
    have e' : b = e ∨ b = it := by simpa using hb
    rcases e' with z | z
    · rw [z]; exact ⟨_, he, fun v q => nomatch q⟩
    · rw [z]; exact hik_obj hi
  keep := fun i h h' st k => let ⟨⟨old, he⟩, hi, hne⟩ := st; ⟨⟨old, k e (by simp) _ he⟩, hik_at hi fun o q => k it (by simp) o q, hne⟩
  item := by
    intro X hP hw hK hc i pins s σ H E I hf st hg
    subst hP hw hK
    obtain ⟨⟨old, he⟩, hit, hne, hai, hea⟩ := st
    obtain ⟨xs, x, hq, hx⟩ := hg
    obtain ⟨its, rv, p⟩ := sqk_its I hq
    obtain ⟨u, hu, ru⟩ := rv.get hx
    have hel : e < s.heap.objs.size := Heap.lt_size he
    have hil : it < s.heap.objs.size := by obtain ⟨_, q, _⟩ := hik_obj hit; exact Heap.lt_size q
    have hlt : i < its.toArray.size := by
      rw [List.size_toArray]
      exact (List.getElem?_eq_some_iff.mp hu).1
    have D := drwK (prog := X.prog) (w := X.w) (A := X.A.in1) (I.ok.hd hc) k it a hai its.toArray
    refine wpAny_pyNext_enum_itemD D he ⟨hit, p⟩ hlt hne (by simp [hne, hea]) fun u' h' tk hu' ho hst hT hsz hk => ?_
    obtain ⟨hit', _⟩ := hst
    have eu : u' = u := by
      rw [List.getElem?_toArray, hu] at hu'
      exact (Option.some.inj hu').symm
    subst eu
    refine ⟨_, rfl, wpAny_letOwnedTupleGo_enum (s := { s with heap := h', toks := tk + 1 }) ho fun h'' he' sb => ?_⟩
    have hT2 : h''.get? s.heap.objs.size = some { cls := .type "tuple", data := .seq #[.int i tk, u'] } := (sb.2 _ (Nat.ne_of_gt hel)).trans hT
    have new : ObjOk X.prog X.w (upd H s.heap.objs.size (.tup [.int (i : Nat), x])) h'' s.heap.objs.size (.tup [.int (i : Nat), x]) :=
      ⟨by show 2 ≤ sizeLine; decide, [.int i tk, u'], .cons ⟨_, rfl⟩ (.cons ru .nil), ⟨_, hT2, rfl, _, rfl⟩⟩
    have I1 : Inv X pins σ (upd H s.heap.objs.size (.tup [.int (i : Nat), x])) { s with heap := h'', toks := tk + 1 } :=
      I.turnedNew (ch := [e, it]) (fun b ob hb q => (sb.2 b (fun z => hb (by simp [z]))).trans (hk b ob (fun z => hb (by simp [z])) (fun z => hb (by simp [z])) q)) hf (Nat.le_refl _) new
    refine ⟨.ref s.heap.objs.size, _, I1, rfl, ⟨_, x, rfl, I.hok.fresh (Nat.le_refl _), rfl, fun ys hy => by rw [sqk_inj I hy hq]; exact hx⟩, ⟨⟨u', ?_⟩, hik_at hit' fun o q => (sb.2 it (Ne.symm hne)).trans q, hne, hai, hea⟩, fun b hb => ?_⟩
    · have e1 : ((i + 1 : Nat) : Int) = (i : Int) + 1 := by omega
      rw [e1]; exact he'
    · have hb' : b < s.heap.objs.size := by
        have e' : b = e ∨ b = it := by simpa using hb
        rcases e' with z | z
        · rw [z]; exact hel
        · rw [z]; exact hil
      rw [upd_ne (Nat.ne_of_lt hb')]
      exact (hf b hb).1
  done := by
    intro X hP hw hK hc i pins s σ H E I hf st hg
    subst hP hw hK
    obtain ⟨⟨old, he⟩, hit, hne, hai, hea⟩ := st
    obtain ⟨xs, hq, hx⟩ := hg
    obtain ⟨its, rv, p⟩ := sqk_its I hq
    obtain ⟨f0, f1, f2, f3, f4, f5⟩ := hf it (by simp)
    have hl := rv.length
    have hi : i = its.toArray.size := by rw [List.size_toArray]; omega
    have D := drwK (prog := X.prog) (w := X.w) (A := X.A.in1) (I.ok.hd hc) k it a hai its.toArray
    exact wpAny_pyNext_enum_endD D he ⟨hi ▸ hit, p⟩ fun h' eb => ⟨rfl, I.turned (t' := s.toks) (fun b o hb q => eb b o hb q) f0 f1 f3 f4 f5⟩
  self := fun A i s Q E st h => let ⟨⟨_, he⟩, _⟩ := st; wpAny_pyIter_enum he h
def iEnumE (K : PySem.W.Frag) (ta : TA) : TI := fun σ H R => ta σ H fun vs H1 => ∃ k a xs, vs = [.ref a] ∧ SqK k K H1 a xs ∧ R (ItE K k a) H1
theorem pi_enumE {X : Cx} {e : Expr} {ta : TA} {p pos tpos : Pos} {elts : List Expr} {kk : Nat} (hg : Gl X "enumerate") (hm : X.mg "enumerate" = none) (ha : PA X [e] ta) (hs : starEach [e] X.env = [(false, eval e X.env)] := by rfl) :
    PI X (.Tuple elts kk tpos) (.Call (.Name "enumerate" p) [e] [] pos) (iEnumE X.K ta) := by
  refine ⟨fun pins s σ H R I h => ?_⟩
  refine Call_ (ld_blt I hg hm boot_enumerate (PyProof.Rows.callWith_type1 (thn (ha.run pos pins s σ H _ I h) fun us s1 ⟨vs, H1, I1, r1, q1⟩ => ?_) hs rfl))
  obtain ⟨k, a, xs, ex, hq, q⟩ := q1
  subst ex
  cases r1 with
  | cons r rr =>
    cases rr
    cases r
    obtain ⟨its, rv, p'⟩ := sqk_its I1 hq
    have hal : a < s1.heap.objs.size := hsk_lt p'
    refine call_enum1 (begK k a its.toArray) p' fun h' he hit hsz hk => wpAny_pyIter_enum he ?_
    have I2 : Inv X pins σ H1 { s1 with heap := h' } := I1.kept (t' := s1.toks) hk
    refine ⟨s1.heap.objs.size + 1, [s1.heap.objs.size + 1, s1.heap.objs.size], _, _, H1, rfl, I2, turn_enumE a (s1.heap.objs.size + 1) s1.heap.objs.size,
      ⟨⟨.none, he⟩, begK_it hit, Nat.succ_ne_self _, Nat.ne_of_lt hal, Nat.ne_of_gt (Nat.lt_succ_of_lt hal)⟩, fun b hb => ?_, q⟩
    have e' : b = s1.heap.objs.size + 1 ∨ b = s1.heap.objs.size := by simpa using hb
    have hle : s1.heap.objs.size ≤ b := by
      rcases e' with z | z
      · rw [z]; exact Nat.le_add_right _ _
      · rw [z]; exact Nat.le_refl _
    exact I1.fpOk hle (I1.hok.fresh hle)
section
variable {X : Cx} {e a b : Expr} {te ta tb : TE} {p pos : Pos}
theorem piE (K : PySem.W.Frag) (B : Bn X.mg) {tpos : Pos} {elts : List Expr} {kk : Nat} (ha : PE X a ta) (hK : X.K = K := by rfl) (hg : Gl X "enumerate" := by rfl) (hs : starEach [a] X.env = (false, eval a X.env) :: starEach [] X.env := by rfl) :
    PI X (.Tuple elts kk tpos) (.Call (.Name "enumerate" p) [a] [] pos) (iEnumE K (tCons ta tNil)) := hK ▸ pi_enumE hg B.enumerate (pa_cons ha pa_nil hs) hs
theorem piR (B : Bn X.mg) {tg : Expr} (ha : PE X a ta) (hg : Gl X "range" := by rfl) (hs : starEach [a] X.env = (false, eval a X.env) :: starEach [] X.env := by rfl) : PI X tg (.Call (.Name "range" p) [a] [] pos) (iRng1 (tCons ta tNil)) := pi_range1 hg B.range (pa_cons ha pa_nil hs) hs
theorem piR2 (B : Bn X.mg) {tg : Expr} (ha : PE X a ta) (hb : PE X b tb) (hg : Gl X "range" := by rfl) (hs : starEach [a, b] X.env = (false, eval a X.env) :: starEach [b] X.env := by rfl) (hs2 : starEach [b] X.env = (false, eval b X.env) :: starEach [] X.env := by rfl) : PI X tg (.Call (.Name "range" p) [a, b] [] pos) (iRng2 (tCons ta (tCons tb tNil))) := pi_range2 hg B.range (pa_cons ha (pa_cons hb pa_nil hs2) hs) (by rw [hs, hs2]; rfl) (by rw [hs2]; rfl)
end
section
variable {p : Pm} {ρ : Rho} {ta tb te : TE} {tt : TT} {H0 : Bs} {H Hs H' : Hp} {O O' : Addr → Prop} {σ : L2.St} {m m1 m2 : W PyData} {K : PySem.W.Frag}
theorem ei_enum (h : EM p ta ρ m) : EI p (iEnumE K (tCons ta tNil)) ρ (fun P => m fun x => enumW x P) := fun P hp H0 O σ H e R q => by
  refine h _ hp H0 O σ H e _ fun v H2 d k2 o2 hd pd => ?_
  unfold enumW at pd
  split at pd
  · rename_i ds s1
    obtain ⟨k1, a, xs, rfl, n1, e1, r1⟩ := seq_sq s1 hd
    have hl : (enumD ds).length = ds.length := by unfold enumD; rw [List.length_map, List.length_zipIdx]
    refine ⟨k1, a, xs, rfl, sqk_of e1, q _ H2 _ k2 o2 pd ⟨fun O' H' i l hi => ?_, fun O' H' l => ?_, fun O' H' i x H'' d l hd y => ?_⟩⟩
    · rw [hl] at hi
      have h1 : i < xs.length := by rw [r1.length]; omega
      exact ⟨xs, xs[i], sqk_of (sq_stays l n1 e1), List.getElem?_eq_getElem h1⟩
    · exact ⟨xs, sqk_of (sq_stays l n1 e1), by rw [hl, r1.length]⟩
    · obtain ⟨T, x', rfl, hT, rfl, g1⟩ := y
      have hx := g1 xs (sqk_of (sq_stays l n1 e1))
      obtain ⟨da, hda, va⟩ := r1.get hx
      have : d = .tuple [.int i, da] := by
        unfold enumD at hd
        rw [List.getElem?_map, List.getElem?_zipIdx, hda] at hd
        simpa using hd.symm
      subst this
      exact pair_dv l hT (.int _) (l.dv va)
  · exact pd.elim

/-! ### targets -/
/-- the slots at ts are stored; ρ' is what stands then -/
def Tg (p : Pm) (g : TG) (ts : List Nat) (ρ : Rho) (d : PyData) (ρ' : Rho) : Prop := ∀ H0 O σ H x, En p H0 O σ H ρ → Dv (SO p O) H x d → ∀ Q : L2.St → Hp → Prop,
  (∀ σ', En p H0 O σ' H ρ' → (∀ vs, (∀ i ∈ ts, i ∈ vs) → wipe σ' vs = wipe σ vs) → Q σ' H) → g x σ H Q
theorem wipe_off (σ : L2.St) {i : Nat} : ∀ {vs : List Nat}, i ∉ vs → (wipe σ vs)[i]? = σ[i]?
  | [], _ => rfl
  | v :: vs, h => by
    have h1 : v ≠ i := fun e => h (by simp [e])
    have h2 : i ∉ vs := fun e => h (List.mem_cons_of_mem _ e)
    unfold wipe
    rw [List.getElem?_set_ne h1]
    exact wipe_off σ h2
theorem wipe_at (σ : L2.St) {i : Nat} : ∀ {vs : List Nat}, i ∈ vs → i < σ.length → (wipe σ vs)[i]? = some none
  | v :: vs, h, hl => by
    unfold wipe
    by_cases e : v = i
    · subst e
      exact List.getElem?_set_self (by rw [wipe_length]; exact hl)
    · rw [List.getElem?_set_ne e]
      rcases List.mem_cons.mp h with z | z
      · exact absurd z.symm e
      · exact wipe_at σ z hl
theorem wipe_ext {σ τ : L2.St} {vs : List Nat} (hl : σ.length = τ.length) (h : ∀ i, i ∉ vs → σ[i]? = τ[i]?) : wipe σ vs = wipe τ vs := by
  apply List.ext_getElem?
  intro i
  by_cases hi : i ∈ vs
  · by_cases hil : i < σ.length
    · rw [wipe_at σ hi hil, wipe_at τ hi (hl ▸ hil)]
    · rw [List.getElem?_eq_none (by rw [wipe_length]; omega), List.getElem?_eq_none (by rw [wipe_length]; omega)]
  · rw [wipe_off σ hi, wipe_off τ hi, h i hi]
def wipeR (ρ : Rho) : List Nat → Rho
  | [] => ρ
  | v :: vs => (wipeR ρ vs).set v none
theorem wipeR_len (ρ : Rho) : ∀ vs, (wipeR ρ vs).length = ρ.length
  | [] => rfl
  | v :: vs => by unfold wipeR; rw [List.length_set, wipeR_len ρ vs]
theorem wipeR_some {ρ : Rho} {i : Nat} {s : Sl} : ∀ {vs : List Nat}, (wipeR ρ vs)[i]? = some (some s) → ρ[i]? = some (some s) ∧ i ∉ vs
  | [], h => ⟨h, by simp⟩
  | v :: vs, h => by
    unfold wipeR at h
    by_cases e : v = i
    · subst e
      by_cases hv : v < (wipeR ρ vs).length
      · rw [List.getElem?_set_self hv] at h; cases h
      · rw [List.getElem?_eq_none (by simpa using hv)] at h; cases h
    · rw [List.getElem?_set_ne e] at h
      obtain ⟨h1, h2⟩ := wipeR_some h
      exact ⟨h1, by simp only [List.mem_cons, not_or]; exact ⟨fun z => e z.symm, h2⟩⟩
theorem En.wipe (e : En p H0 O σ H ρ) (vs : List Nat) : En p H0 O (wipe σ vs) H (wipeR ρ vs) := by
  obtain ⟨ad, g1, g2⟩ := e.sl
  exact ⟨e.fr, e.ok, e.ow, ⟨ad, fun i s h => (g1 i s (wipeR_some h).1).slot (wipe_off σ (wipeR_some h).2), fun i j t u a n h1 h2 => g2 i j t u a n (wipeR_some h1).1 (wipeR_some h2).1⟩, by rw [wipe_length, wipeR_len, e.ln]⟩
theorem tg_name {i : Nat} {d : PyData} : Tg p (gName i) [i] ρ d (ρ.set i (some (.dat d))) := fun H0 O σ H x e h Q q =>
  q _ (e.set h) fun vs hv => wipe_ext (by rw [List.length_set]) fun j hj => List.getElem?_set_ne fun z => hj (hv j (by rw [z]; exact List.mem_singleton.mpr rfl))
def TgL (p : Pm) (g : TGs) (ts : List Nat) (ρ : Rho) (ds : List PyData) (ρ' : Rho) : Prop := ∀ H0 O σ H xs, En p H0 O σ H ρ → DvL (SO p O) H xs ds → ∀ Q : L2.St → Hp → Prop,
  (∀ σ', En p H0 O σ' H ρ' → (∀ vs, (∀ i ∈ ts, i ∈ vs) → wipe σ' vs = wipe σ vs) → Q σ' H) → g xs σ H Q
theorem tgs_nil : TgL p gNil [] ρ [] ρ := fun H0 O σ H x e h Q q => by cases h; exact ⟨rfl, q σ e fun _ _ => rfl⟩
theorem tgs_cons {g : TG} {gs : TGs} {t1 t2 : List Nat} {d : PyData} {ds : List PyData} {ρ1 ρ2 : Rho} (h1 : Tg p g t1 ρ d ρ1) (h2 : TgL p gs t2 ρ1 ds ρ2) : TgL p (gCons g gs) (t1 ++ t2) ρ (d :: ds) ρ2 := fun H0 O σ H x e h Q q => by
  cases h with
  | cons hv hw =>
    refine ⟨_, _, rfl, h1 H0 O σ H _ e hv _ fun σ' e' wp => h2 H0 O σ' H _ e' hw _ fun σ'' e'' wp' => q σ'' e'' fun vs hm => ?_⟩
    rw [wp' vs fun i hi => hm i (List.mem_append_right _ hi), wp vs fun i hi => hm i (List.mem_append_left _ hi)]
theorem tg_tup {n : Nat} {gs : TGs} {ts : List Nat} {ds : List PyData} {ρ' : Rho} (h : TgL p gs ts ρ ds ρ') (hn : ds.length = n) : Tg p (gTup K n gs) ts ρ (.tuple ds) ρ' := fun H0 O σ H x e hd Q q => by
  cases hd with
  | tup _ ea r => exact ⟨_, _, rfl, .inl (.inl ea), by rw [r.length]; exact hn, h H0 O σ H _ e r Q q⟩

/-! ### comprehensions -/
/-- what the items' elements come to, in a row -/
def lcW {α : Type} (g : PyData → W (List α)) : List PyData → W (List α)
  | [], P => P []
  | d :: ds, P => g d fun es => lcW g ds fun r => P (es ++ r)
def unp2W (d : PyData) (k : PyData → PyData → Prop) : Prop := match d with | .tuple [a, b] => k a b | _ => False
def unp3W (d : PyData) (k : PyData → PyData → PyData → Prop) : Prop := match d with | .tuple [a, b, c] => k a b c | _ => False
theorem unp2_inv {d : PyData} {k : PyData → PyData → Prop} (h : unp2W d k) : ∃ a b, d = .tuple [a, b] ∧ k a b := by
  unfold unp2W at h
  split at h
  · exact ⟨_, _, rfl, h⟩
  · exact h.elim
theorem unp3_inv {d : PyData} {k : PyData → PyData → PyData → Prop} (h : unp3W d k) : ∃ a b c, d = .tuple [a, b, c] ∧ k a b c := by
  unfold unp3W at h
  split at h
  · exact ⟨_, _, _, rfl, h⟩
  · exact h.elim
theorem eo_of_em (h : EM p te ρ m) : EO p te ρ (fun P => m fun d => P (.dat d)) := fun P hp H0 O σ H e Q q => h _ hp H0 O σ H e _ fun v H2 d k o hd pd =>
  q v H2 (.dat d) [] k o (.dat (hd.map (fun a n _ z => z.elim n (by simp)) fun _ _ _ e _ => e)) (by simp) pd
theorem em_of_eo {mo : W Ot} (h : EO p te ρ mo) : EM p te ρ (fun P => mo fun t => P t.d) := fun P hp H0 O σ H e Q q => h _ hp H0 O σ H e _ fun v H2 t as k o ht ha pt =>
  q v H2 t.d k o (ht.dv (fun a n z => n (.inl z)) _ _ _ fun a m => fresh_so e (ha a m)) pt
/-- one item's part: the test, then the element -/
structure LcItem (p : Pm) (g : TG) (tt : TT) (te : TE) (vs : List Nat) (ρ : Rho) (d : PyData) (K : List Ot → Prop) : Prop where
  ex : ∃ (ts : List Nat) (ρ' : Rho), (∀ i ∈ ts, i ∈ vs) ∧ Tg p g ts (wipeR ρ vs) d ρ' ∧ Et p tt ρ' (fun b => (b = true → Eo p te ρ' (fun t => K [t])) ∧ (b = false → K []))
theorem lc_item {g : TG} {vs ts : List Nat} {ρ' : Rho} {d : PyData} {K : List Ot → Prop} {mt : W Bool} {me : W Ot} (hts : ∀ i ∈ ts, i ∈ vs) (tg : Tg p g ts (wipeR ρ vs) d ρ') (ht : ET p tt ρ' mt) (he : EO p te ρ' me) (h : mt (fun b => cW b (me fun t => K [t]) (K []))) : LcItem p g tt te vs ρ d K :=
  ⟨ts, ρ', hts, tg, fun H0 O σ H e Q q => ht _ h H0 O σ H e Q fun b H2 k o pb => q b H2 k o ⟨fun eb => by subst eb; exact he _ pb, fun eb => by subst eb; exact pb⟩⟩
theorem lc_item1 {g : TG} {vs ts : List Nat} {ρ' : Rho} {d : PyData} {K : List Ot → Prop} {me : W Ot} (hts : ∀ i ∈ ts, i ∈ vs) (tg : Tg p g ts (wipeR ρ vs) d ρ') (he : EO p te ρ' me) (h : me fun t => K [t]) : LcItem p g tYes te vs ρ d K :=
  ⟨ts, ρ', hts, tg, fun H0 O σ H e Q q => q true H (Kq.refl H) e.ok ⟨fun _ => he _ h, fun eb => by cases eb⟩⟩
theorem nt_up {D : Addr} {o : HO} {H : Hp} {a : Addr} (h : ∃ o, H a = some o ∧ NT o) (ho : NT o) : ∃ o', upd H D o a = some o' ∧ NT o' := by
  by_cases q : a = D
  · rw [q]; exact ⟨o, upd_same, ho⟩
  · obtain ⟨x, e, t⟩ := h; exact ⟨x, by rw [upd_ne q]; exact e, t⟩
theorem ow_trk {S : Addr → Prop} {H : Hp} : ∀ {vs : List V} {ts : List Ot} {as : List Addr}, OwL S H vs ts as → ∀ a ∈ as, ∃ o, H a = some o ∧ NT o := by
  have key : ∀ (n : Nat), (∀ (t : Ot) (v : V) (as : List Addr), sizeOf t < n → Ow S H v t as → ∀ a ∈ as, ∃ o, H a = some o ∧ NT o) ∧ (∀ (ts : List Ot) (vs : List V) (as : List Addr), sizeOf ts < n → OwL S H vs ts as → ∀ a ∈ as, ∃ o, H a = some o ∧ NT o) ∧ (∀ (ts : List (Key × Ot)) (vs : List (Key × V)) (as : List Addr), sizeOf ts < n → OwK S H vs ts as → ∀ a ∈ as, ∃ o, H a = some o ∧ NT o) := by
    intro n
    induction n with
    | zero => exact ⟨fun _ _ _ h => absurd h (Nat.not_lt_zero _), fun _ _ _ h => absurd h (Nat.not_lt_zero _), fun _ _ _ h => absurd h (Nat.not_lt_zero _)⟩
    | succ n ih =>
      obtain ⟨i1, i2, i3⟩ := ih
      refine ⟨fun t v as hs h a ha => ?_, fun ts vs as hs h a ha => ?_, fun ts vs as hs h a ha => ?_⟩
      · cases h with
        | dat _ => simp at ha
        | lst e r _ =>
          rcases List.mem_cons.mp ha with rfl | m
          · exact ⟨_, e, nt_lst⟩
          · exact i2 _ _ _ (by simp at hs; omega) r a m
        | tup _ e r => exact i2 _ _ _ (by simp at hs; omega) r a ha
        | dk e r _ =>
          rcases List.mem_cons.mp ha with rfl | m
          · exact ⟨_, e, nt_dK⟩
          · exact i3 _ _ _ (by simp at hs; omega) r a m
      · cases h with
        | nil => simp at ha
        | cons h1 h2 _ =>
          simp at hs
          rcases List.mem_append.mp ha with m | m
          · exact i1 _ _ _ (by omega) h1 a m
          · exact i2 _ _ _ (by omega) h2 a m
      · cases h with
        | nil => simp at ha
        | cons h1 h2 _ =>
          simp at hs
          rcases List.mem_append.mp ha with m | m
          · exact i1 _ _ _ (by omega) h1 a m
          · exact i3 _ _ _ (by omega) h2 a m
  intro vs ts as h
  exact (key (sizeOf ts + 1)).2.1 ts vs as (Nat.lt_succ_self _) h
/-- what stands while a comprehension's list at D grows -/
structure Lcs (p : Pm) (O : Addr → Prop) (H1 : Hp) (D : Addr) (H' : Hp) (xs : List V) (ts : List Ot) (as : List Addr) : Prop where
  k : Kq p.Z H1 H'
  ok : Ok p H'
  at_ : H' D = some (.lst xs)
  ow : OwL (SO p fun a => O a ∨ a = D ∨ a ∈ as) H' xs ts as
  fr : ∀ a ∈ as, H1 a = none ∧ a ≠ D
section
variable {H1 H2 : Hp} {D : Addr} {xs : List V} {ts : List Ot} {as : List Addr}
theorem Lcs.lat (l : Lcs p O H1 D H' xs ts as) (e1 : En p H0 O σ H1 ρ) (hD : H1 D = none) : Lat p O H1 (fun a => O a ∨ a = D ∨ a ∈ as) H' := by
  refine ⟨l.k.mono fun _ z => .inl z, fun a h => ?_, l.ok, fun a h => ?_⟩
  · rcases h with h | h | h
    · exact .inl h
    · rw [h]; exact .inr hD
    · exact .inr (l.fr a h).1
  · rcases h with h | h | h
    · obtain ⟨n, ns, o, ho, t⟩ := e1.ow a h
      exact ⟨o, l.k.at_ a _ (fun z => ns (p.zs a z)) ho t, t⟩
    · rw [h]; exact ⟨_, l.at_, nt_lst⟩
    · exact ow_trk l.ow a h
theorem Lcs.en (l : Lcs p O H1 D H' xs ts as) (e1 : En p H0 O σ H1 ρ) (hD : H1 D = none) : En p H0 (fun a => O a ∨ a = D ∨ a ∈ as) σ H' ρ := by
  have la := l.lat e1 hD
  have ek := e1.kq l.k l.ok
  obtain ⟨ad, g1, g2⟩ := e1.sl
  refine ⟨ek.fr, l.ok, fun a h => ?_, ⟨ad, fun i s h => ?_, g2⟩, ek.ln⟩
  · rcases h with h | h | h
    · exact ek.ow a h
    · rw [h]; exact ⟨.inr (e1.fr.back hD), fun z => fresh_so e1 hD (.inl z), _, l.at_, nt_lst⟩
    · exact ⟨.inr (e1.fr.back (l.fr a h).1), fun z => fresh_so e1 (l.fr a h).1 (.inl z), ow_trk l.ow a h⟩
  · refine (g1 i s h).to (fun a n t z => ?_) (fun a h => .inl h) (fun a o n q t => l.k.at_ a o (fun z => n (so_z a z)) q t) fun a z _ o q t => l.k.at_ a o (fun z' => (e1.ow a z).2.1 (p.zs a z')) q t
    rcases z with z | z | z | z
    · exact n (.inl z)
    · exact n (.inr z)
    · exact t (by rw [z]; exact hD)
    · exact t (l.fr a z).1
theorem Lcs.kq (l : Lcs p O H1 D H' xs ts as) (hD : ¬ p.S D) (hfr : ∀ a ∈ as, ¬ p.S a) (k : Kq p.Z H' H2) (o : Ok p H2) : Lcs p O H1 D H2 xs ts as :=
  ⟨l.k.trans k, o, k.at_ D _ (fun z => hD (p.zs D z)) l.at_ nt_lst, l.ow.map (fun _ n _ => n) (fun a o n q t => k.at_ a o (fun z => n (so_z a z)) q t) _ _ _ fun a m o q t => k.at_ a o (fun z => hfr a m (p.zs a z)) q t, l.fr⟩
/-- one more item at the end -/
theorem Lcs.push {v : V} {t : Ot} {bs : List Addr} (l : Lcs p O H1 D H' xs ts as) (hD0 : H1 D = none) (hD : ¬ p.S D) (hfr : ∀ a, H1 a = none → ¬ p.S a) (k : Kq p.Z H' H2) (o : Ok p H2) (ht : Ow (fun a => SO p (fun a => O a ∨ a = D ∨ a ∈ as) a ∨ a ∈ bs) H2 v t bs) (hb0 : ∀ a ∈ bs, H' a = none) :
    Lcs p O H1 D (upd H2 D (.lst (xs ++ [v]))) (xs ++ [v]) (ts ++ [t]) (as ++ bs) := by
  have l2 := l.kq hD (fun a m => hfr a (l.fr a m).1) k o
  have hb1 : ∀ a ∈ bs, a ≠ D := fun a m z => by
    have q := hb0 a m
    rw [z, l.at_] at q
    cases q
  have hb2 : ∀ a ∈ bs, a ∉ as := fun a m z => by
    obtain ⟨o, e, _⟩ := ow_trk l.ow a z
    rw [hb0 a m] at e; cases e
  have hb : ∀ a ∈ bs, H1 a = none ∧ a ≠ D ∧ a ∉ as := fun a m => ⟨l.k.back (hb0 a m), hb1 a m, hb2 a m⟩
  have ko : ∀ a, p.S a → upd H2 D (.lst (xs ++ [v])) a = H2 a := fun a z => upd_ne fun q => hD (q ▸ z)
  have okd : Ok p (upd H2 D (.lst (xs ++ [v]))) := by
    refine ⟨fun a z => by rw [ko a z]; exact o.tr a z, fun P hP => ?_, p.ms _ _ o.mm ko⟩
    exact (o.tb P hP).ne l2.at_ nt_lst nc_lst
  have off : ∀ {a : Addr} {o : HO}, a ≠ D → H2 a = some o → upd H2 D (.lst (xs ++ [v])) a = some o := fun n q => by rw [upd_ne n]; exact q
  refine ⟨Kq.own l2.k hD0 l2.at_ nt_lst nc_lst, okd, upd_same, ?_, fun a m => ?_⟩
  · have h1 := OwL.map (S' := SO p fun a => O a ∨ a = D ∨ a ∈ as ++ bs) (H' := upd H2 D (.lst (xs ++ [v]))) (fun a n hn z => ?_) (fun a o' n q t => off (fun z => n (.inr (.inr (.inl z)))) (k.at_ a o' (fun z => n (so_z a z)) q t)) _ _ _ l.ow fun a m o' q t => off (l.fr a m).2 (k.at_ a o' (fun z => hfr a (l.fr a m).1 (p.zs a z)) q t)
    have h2 := Ow.map (S' := SO p fun a => O a ∨ a = D ∨ a ∈ as ++ bs) (H' := upd H2 D (.lst (xs ++ [v]))) (fun a n hn z => ?_) (fun a o n q _ => off (fun z => n (.inl (.inr (.inr (.inl z))))) q) _ _ _ ht fun a m o q _ => off (hb a m).2.1 q
    have h3 := OwL.append h1 (.cons h2 .nil (by simp)) (fun a m z => (hb a (by simpa using z)).2.2 m)
    · simpa using h3
    · rcases z with z | z | z | z
      · exact n (.inl (.inl z))
      · exact n (.inl (.inr (.inl z)))
      · exact n (.inl (.inr (.inr (.inl z))))
      · rcases List.mem_append.mp z with z | z
        · exact n (.inl (.inr (.inr (.inr z))))
        · exact n (.inr z)
    · rcases z with z | z | z | z
      · exact n (.inl z)
      · exact n (.inr (.inl z))
      · exact n (.inr (.inr (.inl z)))
      · rcases List.mem_append.mp z with z | z
        · exact n (.inr (.inr (.inr z)))
        · exact hn (hb0 a z)
  · rcases List.mem_append.mp m with z | z
    · exact l.fr a z
    · exact ⟨(hb a z).1, (hb a z).2.1⟩
theorem Lcs.new (e1 : En p H0 O σ H1 ρ) (hD : H1 D = none) : Lcs p O H1 D (upd H1 D (.lst [])) [] [] [] :=
  ⟨Kq.new hD, e1.ok.kp (Kq.new hD), upd_same, .nil, by simp⟩
theorem Lcs.kp {H2 : Hp} (l : Lcs p O H1 D H' xs ts as) (hD : ¬ p.S D) (hfr : ∀ a, H1 a = none → ¬ p.S a) (k : Kp H' H2) : Lcs p O H1 D H2 xs ts as := l.kq hD (fun a m => hfr a (l.fr a m).1) k.up (l.ok.kp k)
end
theorem eo_lc {wi : TI} {g : TG} {vs : List Nat} {mi : W (List PyData)} (G : PyData → W (List Ot)) (hi : EI p wi ρ mi) (hs : ∀ d K, G d K → LcItem p g tt te vs ρ d K) :
    EO p (tLc wi g tt te vs) ρ (fun P => mi fun ds => ds.length ≤ 1000000 ∧ lcW G ds fun ts => P (.lst ts)) := fun P hp H0 O σ H e Q q => by
  refine hi _ hp H0 O σ H e _ fun J H1 ds k1 o1 pi w => ?_
  obtain ⟨hz, pi⟩ := pi
  intro D hD
  have e1 := e.kq k1 o1
  have hwi : wipe (wipe σ vs) vs = wipe σ vs := wipe_ext (wipe_length _ _) fun i hi => wipe_off σ hi
  have hnS : ¬ p.S D := fun z => fresh_so e1 hD (.inl z)
  have hfr : ∀ a, H1 a = none → ¬ p.S a := fun a h z => fresh_so e1 h (.inl z)
  have ew := e1.wipe vs
  let St : Nat → Hp → Prop := fun i H' => i ≤ ds.length ∧ ∃ xs ts as, Lcs p O H1 D H' xs ts as ∧ xs.length ≤ i ∧ lcW G (ds.drop i) fun r => P (.lst (ts ++ r))
  refine ⟨fun i m H' => m = ds.length - i ∧ St i H', ⟨ds.length, by simp, Nat.zero_le _, [], [], [], Lcs.new e1 hD, Nat.le_refl _, by simpa using pi⟩, ?_⟩
  rintro i m H' ⟨rfl, hil, xs, ts, as, l, hxl, iv⟩
  have la := l.lat e1 hD
  by_cases hlt : i < ds.length
  · refine .inr ⟨w.go _ H' i la hlt, St (i + 1), fun H'' s => ⟨ds.length - (i + 1), by omega, rfl, s⟩, fun x H2 y => ?_⟩
    have hdi : ds[i]? = some ds[i] := List.getElem?_eq_getElem hlt
    obtain ⟨k2, hx⟩ := w.yld _ H' i x H2 ds[i] la hdi y
    rw [List.drop_eq_getElem_cons hlt] at iv
    obtain ⟨tns, ρ', hts, tg, et⟩ := (hs ds[i] _ iv).ex
    have l2 := l.kp hnS hfr k2
    have e2 := l2.en ew hD
    refine tg H0 _ _ H2 x e2 hx _ fun σ3 e3 wp => ⟨by rw [wp vs hts, hwi], ?_⟩
    refine et H0 _ σ3 H2 e3 _ fun b H4 k4 o4 pb => ?_
    have l4 := l2.kq hnS (fun a m => hfr a (l2.fr a m).1) k4 o4
    cases b with
    | false =>
      rw [if_neg (by decide)]
      exact ⟨hlt, xs, ts, as, l4, Nat.le_succ_of_le hxl, by simpa using pb.2 rfl⟩
    | true =>
      rw [if_pos rfl]
      refine pb.1 rfl H0 _ σ3 H4 (e3.kq k4 o4) _ fun v H5 t bs k5 o5 ht hb iv' => ?_
      have l5 := l4.push hD hnS hfr k5 o5 ht hb
      have hD5 : H5 D = some (.lst xs) := k5.at_ D _ (fun z => hnS (p.zs D z)) l4.at_ nt_lst
      refine ⟨xs, hD5, Nat.lt_of_lt_of_le (show xs.length < 1000001 by omega) (by decide), hlt, xs ++ [v], ts ++ [t], as ++ bs, l5, by rw [List.length_append]; exact Nat.succ_le_succ hxl, ?_⟩
      simpa using iv'
  · have he : i = ds.length := by omega
    subst he
    rw [List.drop_length] at iv
    refine .inl ⟨w.stop _ H' la, q (.ref D) H' (.lst ts) (D :: as) (k1.trans l.k) l.ok (.lst l.at_ (l.ow.map (fun a n hn z => ?_) (fun _ _ _ e _ => e) _ _ _ fun _ _ _ e _ => e) fun z => (l.fr D z).2 rfl) (fun a m => ?_) ?_⟩
    · rcases z with z | z
      · rcases z with z | z
        · exact n (.inl z)
        · exact n (.inr (.inl z))
      · rcases List.mem_cons.mp z with z | z
        · exact n (.inr (.inr (.inl z)))
        · exact n (.inr (.inr (.inr z)))
    · rcases List.mem_cons.mp m with z | z
      · rw [z]; exact k1.back hD
      · exact k1.back (l.fr a z).1
    · have iv2 : P (.lst (ts ++ [])) := iv
      simpa using iv2
theorem lcW_map {α β : Type} (f : α → β) (g : PyData → W (List α)) (ds : List PyData) (P : List β → Prop) : lcW (fun d K => g d fun es => K (es.map f)) ds P = lcW g ds fun es => P (es.map f) := by
  induction ds generalizing P with
  | nil => rfl
  | cons d ds ih =>
    show g d _ = g d _
    congr 1
    funext es
    dsimp only
    rw [ih]
    simp only [List.map_append]
/-- of data alone -/
theorem em_lc {wi : TI} {g : TG} {vs : List Nat} {mi : W (List PyData)} (G : PyData → W (List PyData)) (hi : EI p wi ρ mi) (hs : ∀ d K, (G d fun es => K (es.map .dat)) → LcItem p g tt te vs ρ d K) :
    EM p (tLc wi g tt te vs) ρ (fun P => mi fun ds => ds.length ≤ 1000000 ∧ lcW G ds fun es => P (.list es)) := fun P hp => by
  refine em_of_eo (eo_lc (fun d K => G d fun es => K (es.map .dat)) hi hs) P ?_
  have key : ∀ ds : List PyData, (lcW (fun d K => G d fun es => K (es.map Ot.dat)) ds fun ts => P (Ot.lst ts).d) = lcW G ds fun es => P (.list es) := fun ds => by
    rw [lcW_map Ot.dat G ds (fun ts => P (Ot.lst ts).d)]
    simp only [Ot.d, ds_dats]
  show mi (fun ds => ds.length ≤ 1000000 ∧ lcW (fun d K => G d fun es => K (es.map Ot.dat)) ds fun ts => P (Ot.lst ts).d)
  simp only [key]
  exact hp
end
end Kz
set_option Elab.async false
set_option linter.all false
set_option maxRecDepth 100000
set_option maxHeartbeats 4000000
/-! Kz: comprehensions of two clauses; own trees seen as data -/
namespace Kz
open PySem PySem.Spec PyProof.Rows L2
variable [GT]
def noOwn : Rho → Bool
  | [] => true
  | some (.own _) :: _ => false
  | none :: r => noOwn r
  | some (.dat _) :: r => noOwn r
  | some (.raw _) :: r => noOwn r
  | some (.rng _ _) :: r => noOwn r
theorem noOwn_at : ∀ {r : Rho} {i : Nat} {t : Ot}, noOwn r = true → r[i]? ≠ some (some (.own t))
  | [], _, _, _, e => by simp at e
  | some (.own _) :: _, _, _, h, _ => by cases h
  | none :: r, 0, _, h, e => by simp at e
  | none :: r, i + 1, _, h, e => noOwn_at (r := r) h (by simpa using e)
  | some (.dat _) :: r, 0, _, h, e => by simp at e
  | some (.dat _) :: r, i + 1, _, h, e => noOwn_at (r := r) h (by simpa using e)
  | some (.raw _) :: r, 0, _, h, e => by simp at e
  | some (.raw _) :: r, i + 1, _, h, e => noOwn_at (r := r) h (by simpa using e)
  | some (.rng _ _) :: r, 0, _, h, e => by simp at e
  | some (.rng _ _) :: r, i + 1, _, h, e => noOwn_at (r := r) h (by simpa using e)
section
variable {p : Pm} {ρ : Rho} {ta tb te : TE} {tt : TT} {H0 : Bs} {H Hs H' : Hp} {O O' : Addr → Prop} {σ : L2.St} {m m1 m2 : W PyData} {K : PySem.W.Frag}
structure Lc2Item (p : Pm) (g : TG) (tt : TT) (wi1 : TI) (g1 : TG) (tt1 : TT) (te : TE) (vs vs1 : List Nat) (ρ : Rho) (d : PyData) (K : List Ot → Prop) : Prop where
  ex : ∃ (ts : List Nat) (ρ' : Rho) (G1 : PyData → W (List Ot)), (∀ i ∈ ts, i ∈ vs) ∧ Tg p g ts (wipeR ρ vs) d ρ' ∧ noOwn ρ' = true ∧
    Et p tt ρ' (fun b => (b = true → Ii p wi1 ρ' (fun ds1 => ds1.length ≤ 1000 ∧ lcW G1 ds1 K)) ∧ (b = false → K [])) ∧ ∀ d1 K1, G1 d1 K1 → LcItem p g1 tt1 te vs1 ρ' d1 K1
theorem eo_lc2 {wi wi1 : TI} {g g1 : TG} {tt1 : TT} {vs vs1 : List Nat} {mi : W (List PyData)} (G : PyData → W (List Ot)) (hi : EI p wi ρ mi) (hs : ∀ d K, G d K → Lc2Item p g tt wi1 g1 tt1 te vs vs1 ρ d K) :
    EO p (tLc2 wi g tt wi1 g1 tt1 te vs vs1) ρ (fun P => mi fun ds => ds.length ≤ 10000 ∧ lcW G ds fun ts => P (.lst ts)) := fun P hp H0 O σ H e Q q => by
  refine hi _ hp H0 O σ H e _ fun J H1 ds k1 o1 pi w => ?_
  obtain ⟨hz, pi⟩ := pi
  intro D hD
  have e1 := e.kq k1 o1
  have hwi : wipe (wipe σ vs) vs = wipe σ vs := wipe_ext (wipe_length _ _) fun i hi => wipe_off σ hi
  have hnS : ¬ p.S D := fun z => fresh_so e1 hD (.inl z)
  have hfr : ∀ a, H1 a = none → ¬ p.S a := fun a h z => fresh_so e1 h (.inl z)
  have ew := e1.wipe vs
  let St : Nat → Hp → Prop := fun i H' => i ≤ ds.length ∧ ∃ xs ts as, Lcs p O H1 D H' xs ts as ∧ xs.length ≤ i * 1000 ∧ lcW G (ds.drop i) fun r => P (.lst (ts ++ r))
  refine ⟨fun i m H' => m = ds.length - i ∧ St i H', ⟨ds.length, by simp, Nat.zero_le _, [], [], [], Lcs.new e1 hD, Nat.zero_le _, by simpa using pi⟩, ?_⟩
  rintro i m H' ⟨rfl, hil, xs, ts, as, l, hxl, iv⟩
  have la := l.lat e1 hD
  by_cases hlt : i < ds.length
  · refine .inr ⟨w.go _ H' i la hlt, St (i + 1), fun H'' s => ⟨ds.length - (i + 1), by omega, rfl, s⟩, fun x H2 y => ?_⟩
    have hdi : ds[i]? = some ds[i] := List.getElem?_eq_getElem hlt
    obtain ⟨k2, hx⟩ := w.yld _ H' i x H2 ds[i] la hdi y
    rw [List.drop_eq_getElem_cons hlt] at iv
    obtain ⟨tns, ρ', G1, hts, tg, hno, et, hs1⟩ := (hs ds[i] _ iv).ex
    have l2 := l.kp hnS hfr k2
    have e2 := l2.en ew hD
    refine tg H0 _ _ H2 x e2 hx _ fun σ3 e3 wp => ⟨by rw [wp vs hts, hwi], ?_⟩
    refine et H0 _ σ3 H2 e3 _ fun b H3 k3 o3 pb => ?_
    have l3 := l2.kq hnS (fun a m => hfr a (l2.fr a m).1) k3 o3
    have e3' := e3.kq k3 o3
    cases b with
    | false =>
      rw [if_neg (by decide)]
      exact ⟨hlt, xs, ts, as, l3, by omega, by simpa using pb.2 rfl⟩
    | true =>
      rw [if_pos rfl]
      refine pb.1 rfl H0 _ σ3 H3 e3' _ fun J1 H4 ds1 k4 o4 p1 w1 => ?_
      obtain ⟨hz1, p1⟩ := p1
      have e4 := e3'.kq k4 o4
      have l4 := l3.kq hnS (fun a m => hfr a (l3.fr a m).1) k4 o4
      have hwi1 : wipe (wipe σ3 vs1) vs1 = wipe σ3 vs1 := wipe_ext (wipe_length _ _) fun i hi => wipe_off σ3 hi
      let St1 : Nat → Hp → Prop := fun j H' => j ≤ ds1.length ∧ ∃ ys us bs, Lcs p O H1 D H' ys us bs ∧ Kq (fun a => p.Z a ∨ a = D) H4 H' ∧ (∀ a ∈ as, a ∈ bs) ∧ (∀ a ∈ bs, a ∈ as ∨ H4 a = none) ∧ ys.length ≤ i * 1000 + j ∧
        lcW G1 (ds1.drop j) fun es => lcW G (ds.drop (i + 1)) fun r => P (.lst (us ++ (es ++ r)))
      refine ⟨fun j m H' => m = ds1.length - j ∧ St1 j H', ⟨ds1.length, by simp, Nat.zero_le _, xs, ts, as, l4, Kq.refl _, fun _ m => m, fun _ m => .inl m, by omega, by simpa using p1⟩, ?_⟩
      rintro j m H5 ⟨rfl, hjl, ys, us, bs, l5, kk, hsub, hnew, hyl, iv1⟩
      have la5 := l5.lat e1 hD
      have lat5 : Lat p (fun a => O a ∨ a = D ∨ a ∈ as) H4 (fun a => O a ∨ a = D ∨ a ∈ bs) H5 := by
        refine ⟨kk.mono fun a z => z.elim .inl fun z => .inr (.inr (.inl z)), fun a z => ?_, l5.ok, la5.ow⟩
        rcases z with z | z | z
        · exact .inl (.inl z)
        · exact .inl (.inr (.inl z))
        · exact (hnew a z).elim (fun z => .inl (.inr (.inr z))) .inr
      have e5 : En p H0 (fun a => O a ∨ a = D ∨ a ∈ bs) σ3 H5 ρ' := by
        have eb := l5.en e1 hD
        obtain ⟨ad, g1, g2⟩ := e4.sl
        refine ⟨eb.fr, eb.ok, eb.ow, ⟨ad, fun i' s h => ?_, fun i' j' t u a n h => absurd h (noOwn_at hno)⟩, e4.ln⟩
        have q := g1 i' s h
        cases s with
        | dat d => obtain ⟨v, q1, q2⟩ := q; exact ⟨v, q1, lat5.dv q2⟩
        | own t => exact absurd h (noOwn_at hno)
        | raw v => exact q
        | rng lo hi =>
          obtain ⟨a, q1, q2, q3⟩ := q
          refine ⟨a, q1, fun z => ?_, kk.at_ a _ (fun z => q2 (z.elim (so_z a) fun z => .inr (.inr (.inl z)))) q3 nt_rng⟩
          rcases z with z | z
          · exact q2 (.inl z)
          · rcases lat5.new a z with z | z
            · exact q2 (.inr z)
            · rw [z] at q3; cases q3
      by_cases hjlt : j < ds1.length
      · refine .inr ⟨w1.go _ H5 j lat5 hjlt, St1 (j + 1), fun H'' s => ⟨ds1.length - (j + 1), by omega, rfl, s⟩, fun x1 H6 y1 => ?_⟩
        have hdj : ds1[j]? = some ds1[j] := List.getElem?_eq_getElem hjlt
        obtain ⟨k6, hx1⟩ := w1.yld _ H5 j x1 H6 ds1[j] lat5 hdj y1
        rw [List.drop_eq_getElem_cons hjlt] at iv1
        obtain ⟨tns1, ρ'', hts1, tg1, et1⟩ := (hs1 ds1[j] _ iv1).ex
        have l6 := l5.kp hnS hfr k6
        refine tg1 H0 _ _ H6 x1 ((e5.wipe vs1).kp k6) hx1 _ fun σ7 e7 wp1 => ⟨by rw [wp1 vs1 hts1, hwi1], ?_⟩
        refine et1 H0 _ σ7 H6 e7 _ fun b H8 k8 o8 pb1 => ?_
        have l8 := l6.kq hnS (fun a m => hfr a (l6.fr a m).1) k8 o8
        have kk8 : Kq (fun a => p.Z a ∨ a = D) H4 H8 := (kk.trans k6.up).trans (k8.mono fun _ z => .inl z)
        cases b with
        | false =>
          rw [if_neg (by decide)]
          exact ⟨hjlt, ys, us, bs, l8, kk8, hsub, hnew, by omega, by simpa using pb1.2 rfl⟩
        | true =>
          rw [if_pos rfl]
          refine pb1.1 rfl H0 _ σ7 H8 (e7.kq k8 o8) _ fun v H9 t cs k9 o9 ht hb iv' => ?_
          have l9 := l8.push hD hnS hfr k9 o9 ht hb
          have hD9 : H9 D = some (.lst ys) := k9.at_ D _ (fun z => hnS (p.zs D z)) l8.at_ nt_lst
          refine ⟨ys, hD9, ?_, hjlt, ys ++ [v], us ++ [t], bs ++ cs, l9, (kk8.trans (k9.mono fun _ z => .inl z)).trans (Kq.put hD9 nt_lst nc_lst (.inr rfl)), fun a m => List.mem_append_left _ (hsub a m), fun a m => ?_, by rw [List.length_append]; simp; omega, ?_⟩
          · have h1 : i * 1000 ≤ 10000 * 1000 := Nat.mul_le_mul_right _ (by omega)
            exact Nat.lt_of_lt_of_le (show ys.length < 10002001 by omega) (by decide)
          · rcases List.mem_append.mp m with z | z
            · exact hnew a z
            · exact .inr (kk8.back (hb a z))
          · simpa using iv'
      · have he : j = ds1.length := by omega
        subst he
        rw [List.drop_length] at iv1
        refine .inl ⟨w1.stop _ H5 lat5, hlt, ys, us, bs, l5, by omega, ?_⟩
        have iv2 : lcW G (ds.drop (i + 1)) fun r => P (.lst (us ++ ([] ++ r))) := iv1
        simpa using iv2
  · have he : i = ds.length := by omega
    subst he
    rw [List.drop_length] at iv
    refine .inl ⟨w.stop _ H' la, q (.ref D) H' (.lst ts) (D :: as) (k1.trans l.k) l.ok (.lst l.at_ (l.ow.map (fun a n hn z => ?_) (fun _ _ _ e _ => e) _ _ _ fun _ _ _ e _ => e) fun z => (l.fr D z).2 rfl) (fun a m => ?_) ?_⟩
    · rcases z with z | z
      · rcases z with z | z
        · exact n (.inl z)
        · exact n (.inr (.inl z))
      · rcases List.mem_cons.mp z with z | z
        · exact n (.inr (.inr (.inl z)))
        · exact n (.inr (.inr (.inr z)))
    · rcases List.mem_cons.mp m with z | z
      · rw [z]; exact k1.back hD
      · exact k1.back (l.fr a z).1
    · have iv2 : P (.lst (ts ++ [])) := iv
      simpa using iv2
theorem lc2_item {g g1 : TG} {wi1 : TI} {tt1 : TT} {vs vs1 ts : List Nat} {ρ' : Rho} {d : PyData} {K : List Ot → Prop} {mi1 : W (List PyData)} (G1 : PyData → W (List Ot)) (hts : ∀ i ∈ ts, i ∈ vs) (tg : Tg p g ts (wipeR ρ vs) d ρ') (hno : noOwn ρ' = true) (hi1 : EI p wi1 ρ' mi1) (hs1 : ∀ d1 K1, G1 d1 K1 → LcItem p g1 tt1 te vs1 ρ' d1 K1)
    (h : mi1 fun ds1 => ds1.length ≤ 1000 ∧ lcW G1 ds1 K) : Lc2Item p g tYes wi1 g1 tt1 te vs vs1 ρ d K :=
  ⟨ts, ρ', G1, hts, tg, hno, fun H0 O σ H e Q q => q true H (Kq.refl H) e.ok ⟨fun _ => hi1 _ h, fun eb => by cases eb⟩, hs1⟩
/-- .. with tests behind the first clause -/
theorem lc2_itemT {g g1 : TG} {wi1 : TI} {tt1 : TT} {vs vs1 ts : List Nat} {ρ' : Rho} {d : PyData} {K : List Ot → Prop} {mi1 : W (List PyData)} {mt : W Bool} (G1 : PyData → W (List Ot)) (hts : ∀ i ∈ ts, i ∈ vs) (tg : Tg p g ts (wipeR ρ vs) d ρ') (hno : noOwn ρ' = true) (ht : ET p tt ρ' mt) (hi1 : EI p wi1 ρ' mi1) (hs1 : ∀ d1 K1, G1 d1 K1 → LcItem p g1 tt1 te vs1 ρ' d1 K1)
    (h : mt fun b => cW b (mi1 fun ds1 => ds1.length ≤ 1000 ∧ lcW G1 ds1 K) (K [])) : Lc2Item p g tt wi1 g1 tt1 te vs vs1 ρ d K :=
  ⟨ts, ρ', G1, hts, tg, hno, fun H0 O σ H e Q q => ht _ h H0 O σ H e Q fun b H2 k o pb => q b H2 k o ⟨fun eb => by subst eb; exact hi1 _ pb, fun eb => by subst eb; exact pb⟩, hs1⟩
theorem em_lc2 {wi wi1 : TI} {g g1 : TG} {tt1 : TT} {vs vs1 : List Nat} {mi : W (List PyData)} (G : PyData → W (List PyData)) (hi : EI p wi ρ mi) (hs : ∀ d K, (G d fun es => K (es.map .dat)) → Lc2Item p g tt wi1 g1 tt1 te vs vs1 ρ d K) :
    EM p (tLc2 wi g tt wi1 g1 tt1 te vs vs1) ρ (fun P => mi fun ds => ds.length ≤ 10000 ∧ lcW G ds fun es => P (.list es)) := fun P hp => by
  refine em_of_eo (eo_lc2 (fun d K => G d fun es => K (es.map .dat)) hi hs) P ?_
  have key : ∀ ds : List PyData, (lcW (fun d K => G d fun es => K (es.map Ot.dat)) ds fun ts => P (Ot.lst ts).d) = lcW G ds fun es => P (.list es) := fun ds => by
    rw [lcW_map Ot.dat G ds (fun ts => P (Ot.lst ts).d)]
    simp only [Ot.d, ds_dats]
  show mi (fun ds => ds.length ≤ 10000 ∧ lcW (fun d K => G d fun es => K (es.map Ot.dat)) ds fun ts => P (Ot.lst ts).d)
  simp only [key]
  exact hp

/-! ### own trees seen as data -/
mutual
/-- no list, no dict within -/
def lfree : PyData → Bool
  | .list _ => false
  | .dict _ => false
  | .tuple ds => lfrees ds
  | _ => true
def lfrees : List PyData → Bool
  | [] => true
  | d :: ds => lfree d && lfrees ds
end
def seen : Option Sl → Option Sl
  | some (.own t) => some (.dat t.d)
  | x => x
def view (ρ : Rho) : Rho := ρ.map seen
mutual
theorem lf_dv {S S' : Addr → Prop} {H : Hp} (hS : ∀ a, ¬ S a → (∀ xs, H a = some (.tup xs) → ¬ S' a)) : ∀ (d : PyData) (v : V), lfree d = true → Dv S H v d → Dv S' H v d
  | .none, _, _, h => by cases h; exact .non
  | .bool _, _, _, h => by cases h; exact .bl _
  | .int _, _, _, h => by cases h; exact .int _
  | .str _, _, _, h => by cases h; exact .str _
  | .list _, _, l, _ => by simp [lfree] at l
  | .dict _, _, l, _ => by simp [lfree] at l
  | .tuple ds, _, l, h => by
    cases h with
    | tup n e r => exact .tup (hS _ n _ e) e (lf_dvs hS ds _ (by simpa [lfree] using l) r)
theorem lf_dvs {S S' : Addr → Prop} {H : Hp} (hS : ∀ a, ¬ S a → (∀ xs, H a = some (.tup xs) → ¬ S' a)) : ∀ (ds : List PyData) (vs : List V), lfrees ds = true → DvL S H vs ds → DvL S' H vs ds
  | [], _, _, h => by cases h; exact .nil
  | d :: ds, _, l, h => by
    have l' : lfree d = true ∧ lfrees ds = true := by simpa [lfrees] using l
    cases h with
    | cons h1 h2 => exact .cons (lf_dv hS d _ l'.1 h1) (lf_dvs hS ds _ l'.2 h2)
end
end
end Kz
set_option Elab.async false
set_option linter.all false
set_option maxRecDepth 100000
set_option maxHeartbeats 4000000
/-! Kz: views, statements, loops -/
namespace Kz
open PySem PySem.Spec PyProof.Rows L2
variable [GT]
section
variable {p : Pm} {ρ : Rho} {ta tb tc te : TE} {tt : TT} {H0 : Bs} {H Hs H' : Hp} {O O' : Addr → Prop} {σ : L2.St} {m m1 m2 m3 : W PyData} {K : PySem.W.Frag}
/-! own objects are lists or dicts -/
def Mut (o : HO) : Prop := (∃ xs, o = .lst xs) ∨ ∃ xs, o = .dK xs
theorem ow_mut {S : Addr → Prop} {H : Hp} {t : Ot} {v : V} {as : List Addr} (h : Ow S H v t as) : ∀ a ∈ as, ∃ o, H a = some o ∧ Mut o := by
  have key : ∀ (n : Nat), (∀ (t : Ot) (v : V) (as : List Addr), sizeOf t < n → Ow S H v t as → ∀ a ∈ as, ∃ o, H a = some o ∧ Mut o) ∧ (∀ (ts : List Ot) (vs : List V) (as : List Addr), sizeOf ts < n → OwL S H vs ts as → ∀ a ∈ as, ∃ o, H a = some o ∧ Mut o) ∧ (∀ (ts : List (Key × Ot)) (vs : List (Key × V)) (as : List Addr), sizeOf ts < n → OwK S H vs ts as → ∀ a ∈ as, ∃ o, H a = some o ∧ Mut o) := by
    intro n
    induction n with
    | zero => exact ⟨fun _ _ _ h => absurd h (Nat.not_lt_zero _), fun _ _ _ h => absurd h (Nat.not_lt_zero _), fun _ _ _ h => absurd h (Nat.not_lt_zero _)⟩
    | succ n ih =>
      obtain ⟨i1, i2, i3⟩ := ih
      refine ⟨fun t v as hs h a ha => ?_, fun ts vs as hs h a ha => ?_, fun ts vs as hs h a ha => ?_⟩
      · cases h with
        | dat _ => simp at ha
        | lst e r _ =>
          rcases List.mem_cons.mp ha with rfl | m
          · exact ⟨_, e, .inl ⟨_, rfl⟩⟩
          · exact i2 _ _ _ (by simp at hs; omega) r a m
        | tup _ e r => exact i2 _ _ _ (by simp at hs; omega) r a ha
        | dk e r _ =>
          rcases List.mem_cons.mp ha with rfl | m
          · exact ⟨_, e, .inr ⟨_, rfl⟩⟩
          · exact i3 _ _ _ (by simp at hs; omega) r a m
      · cases h with
        | nil => simp at ha
        | cons h1 h2 _ =>
          simp at hs
          rcases List.mem_append.mp ha with m | m
          · exact i1 _ _ _ (by omega) h1 a m
          · exact i2 _ _ _ (by omega) h2 a m
      · cases h with
        | nil => simp at ha
        | cons h1 h2 _ =>
          simp at hs
          rcases List.mem_append.mp ha with m | m
          · exact i1 _ _ _ (by omega) h1 a m
          · exact i3 _ _ _ (by omega) h2 a m
  exact (key (sizeOf t + 1)).1 t v as (Nat.lt_succ_self _) h
theorem view_get {i : Nat} {s : Sl} (h : (view ρ)[i]? = some (some s)) : (ρ[i]? = some (some s) ∧ ∀ t, s ≠ .own t) ∨ ∃ t, ρ[i]? = some (some (.own t)) ∧ s = .dat t.d := by
  unfold view at h
  rw [List.getElem?_map] at h
  obtain ⟨x, hx, e⟩ := Option.map_eq_some_iff.mp h
  cases x with
  | none => cases e
  | some x => cases x with
    | own t => cases e; exact .inr ⟨t, hx, rfl⟩
    | dat d => cases e; exact .inl ⟨hx, fun _ q => by cases q⟩
    | raw v => cases e; exact .inl ⟨hx, fun _ q => by cases q⟩
    | rng a b => cases e; exact .inl ⟨hx, fun _ q => by cases q⟩
/-- all own trees seen as data -/
theorem En.view (e : En p H0 O σ H ρ) : ∃ O', (∀ a, O' a → O a) ∧ (∀ a, O a → ¬ O' a → ∃ o, H a = some o ∧ Mut o) ∧ En p H0 O' σ H (view ρ) ∧ En p ⟨H, O'⟩ O' σ H (view ρ) := by
  obtain ⟨ad, g1, g2⟩ := e.sl
  let O' : Addr → Prop := fun a => O a ∧ ∀ i t, ρ[i]? = some (some (.own t)) → a ∉ ad i
  have hOO : ∀ a, O' a → O a := fun a h => h.1
  have hS : ∀ a, ¬ SO p O a → ¬ SO p O' a := fun a n z => n (z.elim .inl fun z => .inr z.1)
  have hsl : ∃ ad' : Nat → List Addr, (∀ (i : Nat) (s : Sl), (Kz.view ρ)[i]? = some (some s) → Has p O' σ H i (ad' i) s) ∧ (∀ (i j : Nat) (t u : Ot) (a : Addr), i ≠ j → (Kz.view ρ)[i]? = some (some (.own t)) → (Kz.view ρ)[j]? = some (some (.own u)) → a ∈ ad' i → a ∉ ad' j) := by
    refine ⟨ad, fun i s h => ?_, fun i j t u a n h => ?_⟩
    · rcases view_get h with ⟨h', hn⟩ | ⟨t, h', rfl⟩
      · have q := g1 i s h'
        cases s with
        | dat d => obtain ⟨v, q1, q2⟩ := q; exact ⟨v, q1, q2.map (fun a n _ => hS a n) fun _ _ _ e _ => e⟩
        | own t => exact absurd rfl (hn t)
        | raw v => exact q
        | rng lo hi => obtain ⟨a, q1, q2, q3⟩ := q; exact ⟨a, q1, hS a q2, q3⟩
      · obtain ⟨v, q1, q2, q3⟩ := g1 i _ h'
        exact ⟨v, q1, q2.dv hS _ _ _ fun a m z => z.elim (e.ow a (q3 a m)).2.1 fun z => z.2 i t h' m⟩
    · rcases view_get h with ⟨h, hn⟩ | ⟨t', h, z⟩
      · exact absurd rfl (hn t)
      · cases z
  have hln : σ.length = (Kz.view ρ).length := by unfold Kz.view; rw [List.length_map, e.ln]
  refine ⟨O', hOO, fun a h n => ?_, ⟨e.fr, e.ok, fun a h => e.ow a h.1, hsl, hln⟩, ⟨Kq.refl H, e.ok, fun a h => ⟨.inl h, (e.ow a h.1).2⟩, hsl, hln⟩⟩
  have : ∃ i t, ρ[i]? = some (some (.own t)) ∧ a ∈ ad i := Classical.byContradiction fun w => n ⟨h, fun i t hi hm => w ⟨i, t, hi, hm⟩⟩
  obtain ⟨i, t, hi, hm⟩ := this
  obtain ⟨v, q1, q2, q3⟩ := g1 i _ hi
  exact ow_mut q2 a hm
theorem em_view (h : EM p te (view ρ) m) : EM p te ρ (fun P => m fun d => lfree d = true ∧ P d) := fun P hp H0 O σ H e Q q => by
  obtain ⟨O', hOO, hmut, _, e2⟩ := e.view
  refine h _ hp _ O' σ H e2 Q fun v H2 d k o hd pd => q v H2 d k o (lf_dv (fun a n xs ha z => ?_) d v pd.1 hd) pd.2
  rcases z with z | z
  · exact n (.inl z)
  · obtain ⟨u, hu, mu⟩ := hmut a z fun y => n (.inr y)
    have nt : NT u := by rcases mu with ⟨xs, rfl⟩ | ⟨xs, rfl⟩ <;> exact fun _ q => by cases q
    have := k.at_ a u (fun y => (e.ow a z).2.1 (p.zs a y)) hu nt
    rw [ha] at this
    cases this
    rcases mu with ⟨xs, q⟩ | ⟨xs, q⟩ <;> cases q
theorem et_view {mt : W Bool} (h : ET p tt (view ρ) mt) : ET p tt ρ mt := fun P hp H0 O σ H e Q q => by
  obtain ⟨O', hOO, hmut, _, e2⟩ := e.view
  exact h _ hp _ O' σ H e2 Q fun b H2 k o pb => q b H2 k o pb
mutual
/-- no list, no dict but own ones within -/
def ofree : Ot → Bool
  | .dat d => lfree d
  | .lst xs => ofrees xs
  | .tup xs => ofrees xs
  | .dk kvs => ofreek kvs
def ofrees : List Ot → Bool
  | [] => true
  | x :: xs => ofree x && ofrees xs
def ofreek : List (Key × Ot) → Bool
  | [] => true
  | (_, x) :: xs => ofree x && ofreek xs
end
mutual
theorem lf_ow {S S' : Addr → Prop} {H : Hp} (hS : ∀ a, ¬ S a → (∀ xs, H a = some (.tup xs) → ¬ S' a)) : ∀ (t : Ot) (v : V) (as : List Addr), ofree t = true → Ow S H v t as → Ow S' H v t as
  | .dat d, _, _, l, h => by cases h with | dat h => exact .dat (lf_dv hS d _ (by simpa [ofree] using l) h)
  | .lst xs, _, _, l, h => by cases h with | lst e r n => exact .lst e (lf_ows hS xs _ _ (by simpa [ofree] using l) r) n
  | .tup xs, _, _, l, h => by cases h with | tup n e r => exact .tup (hS _ n _ e) e (lf_ows hS xs _ _ (by simpa [ofree] using l) r)
  | .dk xs, _, _, l, h => by cases h with | dk e r n => exact .dk e (lf_owk hS xs _ _ (by simpa [ofree] using l) r) n
theorem lf_ows {S S' : Addr → Prop} {H : Hp} (hS : ∀ a, ¬ S a → (∀ xs, H a = some (.tup xs) → ¬ S' a)) : ∀ (ts : List Ot) (vs : List V) (as : List Addr), ofrees ts = true → OwL S H vs ts as → OwL S' H vs ts as
  | [], _, _, _, h => by cases h; exact .nil
  | x :: xs, _, _, l, h => by
    have l' : ofree x = true ∧ ofrees xs = true := by simpa [ofrees] using l
    cases h with | cons h1 h2 n => exact .cons (lf_ow hS x _ _ l'.1 h1) (lf_ows hS xs _ _ l'.2 h2) n
theorem lf_owk {S S' : Addr → Prop} {H : Hp} (hS : ∀ a, ¬ S a → (∀ xs, H a = some (.tup xs) → ¬ S' a)) : ∀ (ts : List (Key × Ot)) (vs : List (Key × V)) (as : List Addr), ofreek ts = true → OwK S H vs ts as → OwK S' H vs ts as
  | [], _, _, _, h => by cases h; exact .nil
  | (k, x) :: xs, _, _, l, h => by
    have l' : ofree x = true ∧ ofreek xs = true := by simpa [ofreek] using l
    cases h with | cons h1 h2 n => exact .cons (lf_ow hS x _ _ l'.1 h1) (lf_owk hS xs _ _ l'.2 h2) n
end
theorem eo_view {mo : W Ot} (h : EO p te (view ρ) mo) : EO p te ρ (fun P => mo fun t => ofree t = true ∧ P t) := fun P hp H0 O σ H e Q q => by
  obtain ⟨O', hOO, hmut, _, e2⟩ := e.view
  refine h _ hp _ O' σ H e2 Q fun v H2 t as k o ht hfr pt => q v H2 t as k o (lf_ow (fun a n xs ha z => ?_) t v as pt.1 ht) hfr pt.2
  rcases z with z | z
  · rcases z with z | z
    · exact n (.inl (.inl z))
    · obtain ⟨u, hu, mu⟩ := hmut a z fun y => n (.inl (.inr y))
      have nt : NT u := by rcases mu with ⟨xs, rfl⟩ | ⟨xs, rfl⟩ <;> exact fun _ q => by cases q
      have := k.at_ a u (fun y => (e.ow a z).2.1 (p.zs a y)) hu nt
      rw [ha] at this
      cases this
      rcases mu with ⟨xs, q⟩ | ⟨xs, q⟩ <;> cases q
  · exact n (.inr z)

/-! ### statements -/
variable {w : Po} {tu tv tw : TS}
theorem dv_out {O : Addr → Prop} {H : Hp} {v : V} {d : PyData} (h : Dv (SO p O) H v d) : Dv p.S H v d := h.map (fun _ n _ z => n (.inl z)) fun _ _ _ e _ => e
theorem rn_next (h : w.N ρ) : Rn p tNext ρ w := fun H0 O σ H D e n _ _ _ => n O σ H ρ e h
theorem rm_le {ρ' : Rho} (l : Le ρ ρ') (h : Rn p tu ρ w) : Rn p tu ρ' w := fun H0 O σ H D e n r b c => h H0 O σ H D (e.le l) n r b c
/-- no own tree is changed any more -/
theorem rm_freeze (h : Rn p tu (view ρ) w) : Rn p tu ρ w := fun H0 O σ H D e n r b c => by
  obtain ⟨O', _, _, e2, _⟩ := e.view
  exact h H0 O' σ H D e2 n r b c
theorem mut_nt {o : HO} (h : Mut o) : NT o := by rcases h with ⟨xs, rfl⟩ | ⟨xs, rfl⟩ <;> exact fun _ q => by cases q
theorem mut_nc {o : HO} (h : Mut o) : NC o := by
  rcases h with ⟨xs, rfl⟩ | ⟨xs, rfl⟩
  · exact nc_lst
  · exact nc_dK
/-- a new own tree in slot i -/
theorem En.putO {H2 : Hp} {i : Nat} {v : V} {t : Ot} {as : List Addr} (e : En p H0 O σ H ρ) (k2 : Kq p.Z H H2) (o2 : Ok p H2) (ht : Ow (fun a => SO p O a ∨ a ∈ as) H2 v t as) (hfr : ∀ a ∈ as, H a = none) : En p H0 (fun a => O a ∨ a ∈ as) (σ.set i (some v)) H2 (ρ.set i (some (.own t))) := by
  have e2 := e.kq k2 o2
  have hnO : ∀ a ∈ as, ¬ SO p O a := fun a m => fresh_so e (hfr a m)
  obtain ⟨ad, g1, g2⟩ := e.sl
  have old : ∀ (j : Nat) (u : Ot), ρ[j]? = some (some (.own u)) → ∀ a ∈ ad j, a ∉ as := fun j u hj a m z => by
    obtain ⟨x, q1, q2, q3⟩ := g1 j _ hj
    obtain ⟨o, h, _⟩ := ow_mut q2 a m
    rw [hfr a z] at h; cases h
  refine ⟨e2.fr, o2, fun a z => ?_, ⟨fun j => if i = j then as else ad j, fun j s hj => ?_, fun j l t1 u a n q1 q2 m => ?_⟩, by rw [List.length_set, List.length_set, e.ln]⟩
  · rcases z with z | z
    · exact e2.ow a z
    · refine ⟨.inr (e.fr.back (hfr a z)), fun y => hnO a z (.inl y), ?_⟩
      obtain ⟨o, q1, q2⟩ := ow_mut ht a z
      exact ⟨o, q1, mut_nt q2⟩
  · by_cases z : i = j
    · subst z
      have hi : i < ρ.length := by
        have := (List.getElem?_eq_some_iff.mp hj).1
        rwa [List.length_set] at this
      rw [List.getElem?_set_self hi] at hj
      cases hj
      dsimp only
      rw [if_pos rfl]
      refine ⟨v, List.getElem?_set_self (by rw [e.ln]; exact hi), ht.map (fun a n' _ z => ?_) (fun _ _ _ e _ => e) _ _ _ fun _ _ _ e _ => e, fun a m => .inr m⟩
      rcases z with z | z | z
      · exact n' (.inl (.inl z))
      · exact n' (.inl (.inr z))
      · exact n' (.inr z)
    · rw [List.getElem?_set_ne z] at hj
      dsimp only
      rw [if_neg z]
      refine ((g1 j s hj).to (fun a n' t' z => ?_) (fun a z => .inl z) (fun a o n' q t' => k2.at_ a o (fun z => n' (so_z a z)) q t') fun a z _ o q t' => k2.at_ a o (fun y => (e.ow a z).2.1 (p.zs a y)) q t').slot (List.getElem?_set_ne z)
      rcases z with z | z | z
      · exact n' (.inl z)
      · exact n' (.inr z)
      · exact t' (hfr a z)
  · dsimp only at m ⊢
    by_cases z : i = j
    · subst z
      rw [if_pos rfl] at m
      rw [if_neg n]
      rw [List.getElem?_set_ne n] at q2
      exact fun y => old l u q2 a y m
    · rw [if_neg z] at m
      rw [List.getElem?_set_ne z] at q1
      by_cases y : i = l
      · subst y
        rw [if_pos rfl]
        exact old j t1 q1 a m
      · rw [if_neg y]
        rw [List.getElem?_set_ne y] at q2
        exact g2 j l t1 u a n q1 q2 m
theorem rm_setO {i : Nat} {mo : W Ot} {K' : Ot → Prop} (he : EO p te ρ mo) (h : mo K') (k : ∀ t, K' t → Rn p tw (ρ.set i (some (.own t))) w) : Rn p (tSeq (tAsg te (gName i)) tw) ρ w := fun H0 O σ H D e n r b c =>
  he _ h H0 O σ H e _ fun v H2 t as k2 o2 ht hfr pt => k t pt H0 _ _ H2 D (e.putO k2 o2 ht hfr) n r b c
theorem rm_asg {g : TG} {K' : PyData → Prop} (he : EM p te ρ m) (h : m K') (k : ∀ d, K' d → ∃ ts ρ', Tg p g ts ρ d ρ' ∧ Rn p tw ρ' w) : Rn p (tSeq (tAsg te g) tw) ρ w := fun H0 O σ H D e n r b c =>
  he _ h H0 O σ H e _ fun v H2 d k2 o2 hd pd => by
    obtain ⟨ts, ρ', tg, q⟩ := k d pd
    exact tg H0 O σ H2 v (e.kq k2 o2) hd _ fun σ' e' _ => q H0 O σ' H2 D e' n r b c
theorem rm_par {i j : Nat} {K' : PyData → PyData → Prop} (h1 : EM p ta ρ m1) (h2 : EM p tb ρ m2) (h : m1 fun x => m2 fun y => K' x y) (k : ∀ x y, K' x y → Rn p tw ((ρ.set i (some (.dat x))).set j (some (.dat y))) w) : Rn p (tSeq (tPar i j (tCons ta (tCons tb tNil))) tw) ρ w := fun H0 O σ H D e n r b c => by
  refine h1 _ h H0 O σ H e _ fun v H2 d k2 o2 hd pd => ?_
  have e2 := e.kq k2 o2
  refine h2 _ pd H0 O σ H2 e2 _ fun u H3 d' k3 o3 hd' pd' => ?_
  exact ⟨v, u, rfl, k d d' pd' H0 O _ H3 D (((e2.kq k3 o3).set (hd.kq k3 so_z)).set hd') n r b c⟩
theorem rm_par3 {i j l : Nat} {K' : PyData → PyData → PyData → Prop} (h1 : EM p ta ρ m1) (h2 : EM p tb ρ m2) (h3 : EM p tc ρ m3) (h : m1 fun x => m2 fun y => m3 fun z => K' x y z) (k : ∀ x y z, K' x y z → Rn p tw (((ρ.set i (some (.dat x))).set j (some (.dat y))).set l (some (.dat z))) w) : Rn p (tSeq (tPar3 i j l (tCons ta (tCons tb (tCons tc tNil)))) tw) ρ w := fun H0 O σ H D e n r b c => by
  refine h1 _ h H0 O σ H e _ fun v H2 d k2 o2 hd pd => ?_
  have e2 := e.kq k2 o2
  refine h2 _ pd H0 O σ H2 e2 _ fun u H3 d' k3 o3 hd' pd' => ?_
  have e3 := e2.kq k3 o3
  refine h3 _ pd' H0 O σ H3 e3 _ fun x H4 d3 k4 o4 hd3 pd3 => ?_
  exact ⟨v, u, x, rfl, k d d' d3 pd3 H0 O _ H4 D ((((e3.kq k4 o4).set ((hd.kq k3 so_z).kq k4 so_z)).set (hd'.kq k4 so_z)).set hd3) n r b c⟩
/-- x += e, ints -/
def iaddW : PyData → PyData → W PyData
  | .int i, .int j, P => P (.int (i + j))
  | _, _, _ => False
theorem rm_aug {i : Nat} {d0 : PyData} {K' : PyData → Prop} (hx : ρ[i]? = some (some (.dat d0))) (he : EM p te ρ m) (h : m fun y => iaddW d0 y K') (k : ∀ d, K' d → Rn p tw (ρ.set i (some (.dat d))) w) : Rn p (tSeq (tAug i te (ipI fun i j => i + j)) tw) ρ w := fun H0 O σ H D e n r bk c => by
  obtain ⟨ad, g1, g2⟩ := e.sl
  obtain ⟨v, h1, h2⟩ := g1 i _ hx
  refine ⟨_, h1, he _ h H0 O σ H e _ fun u H2 d k2 o2 hd pd => ?_⟩
  cases d0 with
  | int a => cases d with
    | int b => cases h2; cases hd; exact ⟨a, b, rfl, rfl, k _ pd H0 O _ H2 D ((e.kq k2 o2).set (.int _)) n r bk c⟩
    | _ => exact pd.elim
  | _ => cases d <;> exact pd.elim
theorem rm_ret {K' : PyData → Prop} (he : EM p te ρ m) (h : m K') (k : ∀ d, K' d → w.R d) : Rn p (tSeq (tRet te) tw) ρ w := fun H0 O σ H D e n r b c =>
  he _ h H0 O σ H e _ fun v H2 d k2 o2 hd pd => r v d H2 (e.kq k2 o2).fr o2 (dv_out hd) (k d pd)
theorem rm_retN (h : w.R .none) : Rn p (tSeq tRetN tw) ρ w := fun H0 O σ H D e n r b c => r .non .none H e.fr e.ok .non h
theorem rm_expr {K' : PyData → Prop} (he : EM p te ρ m) (h : m K') (k : ∀ d, K' d → Rn p tw ρ w) : Rn p (tSeq (tDrop te) tw) ρ w := fun H0 O σ H D e n r b c =>
  he _ h H0 O σ H e _ fun v H2 d k2 o2 hd pd => k d pd H0 O σ H2 D (e.kq k2 o2) n r b c
theorem rm_brk (h : w.B ρ) : Rn p (tSeq tBreak tw) ρ w := fun H0 O σ H D e n r b c => b O σ H ρ e h
theorem rm_cnt (h : w.C ρ) : Rn p (tSeq tCont tw) ρ w := fun H0 O σ H D e n r b c => c O σ H ρ e h
theorem rm_nev (h : False) : Rn p (tSeq tNever tw) ρ w := h.elim
/-- if; what follows is reached from one branch alone, or from none -/
theorem rm_if {mt : W Bool} {K' : Bool → Prop} (ht : ET p tt ρ mt) (h : mt K') (k1 : K' true → Rn p (tSeq tu tw) ρ w) (k2 : K' false → Rn p (tSeq tv tw) ρ w) : Rn p (tSeq (tIfS tt tu tv) tw) ρ w := fun H0 O σ H D e n r b c =>
  ht _ h H0 O σ H e _ fun t H2 kk o2 pt => by
    have e2 := e.kq kk o2
    cases t with
    | true => rw [if_pos rfl]; exact k1 pt H0 O σ H2 D e2 n r b c
    | false => rw [if_neg (by decide)]; exact k2 pt H0 O σ H2 D e2 n r b c
/-- an inner block, then what follows -/
theorem rm_assoc (h : Rn p (tSeq tu (tSeq tv tw)) ρ w) : Rn p (tSeq (tSeq tu tv) tw) ρ w := h
theorem rm_skip (h : Rn p tw ρ w) : Rn p (tSeq tNext tw) ρ w := h
/-- what follows an if, reached from several ways -/
def joinW {S : Type} (k : S → Prop) (body : (S → Prop) → Prop) : Prop := body k
abbrev Dn {S : Type} (rho : S → Rho) (k : S → Prop) : Rho → Prop := fun ρ' => ∃ s, Le (rho s) ρ' ∧ k s
theorem rm_join {S : Type} (rho : S → Rho) {kk : S → Prop} {body : (S → Prop) → Prop} (h : joinW kk body) (hb : ∀ k : S → Prop, body k → Rn p tu ρ { w with N := Dn rho k }) (hk : ∀ s, kk s → Rn p tw (rho s) w) : Rn p (tSeq tu tw) ρ w := fun H0 O σ H D e n r b c =>
  hb kk h H0 O σ H _ e (fun O' σ' H' ρ' e' ⟨s, l, q⟩ => hk s q H0 O' σ' H' D (e'.le l) n r b c) r b c

/-! loops -/
def forW {S : Type} (body : PyData → S → (S → Prop) → (S → Prop) → Prop) : List PyData → S → (S → Prop) → Prop
  | [], s, K => K s
  | d :: ds, s, K => body d s (fun s' => forW body ds s' K) K
def whileN {S : Type} (t : S → W Bool) (body : S → (S → Prop) → (S → Prop) → Prop) (K : S → Prop) : Nat → S → Prop
  | 0, _ => False
  | n + 1, s => t s fun b => cW b (body s (whileN t body K n) K) (K s)
def whileW {S : Type} (t : S → W Bool) (body : S → (S → Prop) → (S → Prop) → Prop) (s : S) (K : S → Prop) : Prop := ∃ n, whileN t body K n s
theorem frame_in {H1 H3 : Hp} (e : En p H0 O σ H1 ρ) (k : Kq (ZO p O) H1 H3) : Kq (ZO p H0.o) H0.h H3 :=
  ⟨fun a o n h t => k.at_ a o (fun z => by
      rcases z with z | z
      · exact n (.inl z)
      · rcases (e.ow a z).1 with q | q
        · exact n (.inr q)
        · rw [q] at h; cases h) (e.fr.at_ a o n h t) t, fun P h => k.tab P (e.fr.tab P h), fun a h => k.nn a (e.fr.nn a h)⟩
theorem En.rebase {H1 : Hp} {r : Rho} (e : En p H0 O' σ H' r) (l : Lat p O H1 O' H') : En p ⟨H1, O⟩ O' σ H' r :=
  ⟨l.k, l.ok, fun a h => ⟨l.new a h, (e.ow a h).2⟩, e.sl, e.ln⟩
theorem En.back {H1 : Hp} {σ' : L2.St} {r : Rho} (e1 : En p H0 O σ H1 ρ) (e : En p ⟨H1, O⟩ O' σ' H' r) : En p H0 O' σ' H' r :=
  ⟨frame_in e1 e.fr, e.ok, fun a h => ⟨by
      rcases (e.ow a h).1 with z | z
      · exact (e1.ow a z).1
      · exact .inr (e1.fr.back z), (e.ow a h).2⟩, e.sl, e.ln⟩
theorem En.lat {H1 : Hp} {r : Rho} (e : En p ⟨H1, O⟩ O' σ H' r) : Lat p O H1 O' H' :=
  ⟨e.fr, fun a h => (e.ow a h).1, e.ok, fun a h => (e.ow a h).2.2⟩
theorem rm_for {S : Type} {wi : TI} {g : TG} {mi : W (List PyData)} (rho : S → Rho) {body : PyData → S → (S → Prop) → (S → Prop) → Prop} {s0 : S} {kk : S → Prop} (hi : EI p wi ρ mi) (h : mi fun ds => forW body ds s0 kk) (h0 : Le (rho s0) ρ)
    (hb : ∀ (d : PyData) (s : S) (nx bk : S → Prop), body d s nx bk → ∃ ts ρ', Tg p g ts (rho s) d ρ' ∧ Rn p tu ρ' { N := Dn rho nx, C := Dn rho nx, B := Dn rho bk, R := w.R }) (hk : ∀ s, kk s → Rn p tw (rho s) w) : Rn p (tSeq (tFor wi g tu) tw) ρ w := fun H0 O σ H D e n rt bk c => by
  refine hi _ h H0 O σ H e _ fun J H1 ds k1 o1 pi wk => ?_
  have e1 := e.kq k1 o1
  let St : Nat → L2.St → Hp → Prop := fun i σ' H' => i ≤ ds.length ∧ ∃ O' s, En p ⟨H1, O⟩ O' σ' H' (rho s) ∧ forW body (ds.drop i) s kk
  have out : ∀ (O' : Addr → Prop) (σ' : L2.St) (H' : Hp) (s : S), En p ⟨H1, O⟩ O' σ' H' (rho s) → kk s → tw D σ' H' := fun O' σ' H' s e' q => hk s q H0 O' σ' H' D (e1.back e') n rt bk c
  refine ⟨fun i m σ' H' => m = ds.length - i ∧ St i σ' H', ⟨ds.length, by simp, Nat.zero_le _, O, s0, (e1.rebase (Lat.refl e1)).le h0, by simpa using pi⟩, ?_⟩
  rintro i m σ' H' ⟨rfl, hil, O', s, eL, iv⟩
  have l := eL.lat
  by_cases hlt : i < ds.length
  · refine .inr ⟨wk.go _ H' i l hlt, St (i + 1), fun σ2 H2 s => ⟨ds.length - (i + 1), by omega, rfl, s⟩, fun x H2 y => ?_⟩
    have hdi : ds[i]? = some ds[i] := List.getElem?_eq_getElem hlt
    obtain ⟨k2, hx⟩ := wk.yld _ H' i x H2 ds[i] l hdi y
    rw [List.drop_eq_getElem_cons hlt] at iv
    obtain ⟨ts, r', tg, hr⟩ := hb ds[i] s _ _ iv
    refine tg _ _ _ H2 x (eL.kp k2) hx _ fun σ3 e3 _ => ?_
    refine hr _ _ _ _ _ e3 (fun O2 σ2 H3 r2 e4 ⟨s', q1, q2⟩ => ⟨hlt, O2, s', e4.le q1, q2⟩) (fun v d' H3 k3 o3 hv q => rt v d' H3 (frame_in e1 k3) o3 hv q)
      (fun O2 σ2 H3 r2 e4 ⟨s', q1, q2⟩ => out O2 σ2 H3 s' (e4.le q1) q2) (fun O2 σ2 H3 r2 e4 ⟨s', q1, q2⟩ => ⟨hlt, O2, s', e4.le q1, q2⟩)
  · have he : i = ds.length := by omega
    subst he
    rw [List.drop_length] at iv
    exact .inl ⟨wk.stop _ H' l, out O' σ' H' s eL iv⟩
theorem rm_while {S : Type} (rho : S → Rho) {t : S → W Bool} {body : S → (S → Prop) → (S → Prop) → Prop} {s0 : S} {kk : S → Prop} (h : whileW t body s0 kk) (h0 : Le (rho s0) ρ) (ht : ∀ s, ET p tt (rho s) (t s))
    (hb : ∀ (s : S) (nx bk : S → Prop), body s nx bk → Rn p tu (rho s) { N := Dn rho nx, C := Dn rho nx, B := Dn rho bk, R := w.R }) (hk : ∀ s, kk s → Rn p tw (rho s) w) : Rn p (tSeq (tWhile tt tu) tw) ρ w := fun H0 O σ H D e n rt bk c => by
  obtain ⟨n0, h⟩ := h
  have out : ∀ (O' : Addr → Prop) (σ' : L2.St) (H' : Hp) (s : S), En p ⟨H, O⟩ O' σ' H' (rho s) → kk s → tw D σ' H' := fun O' σ' H' s e' q => hk s q H0 O' σ' H' D (e.back e') n rt bk c
  refine ⟨fun m σ' H' => ∃ O' s, En p ⟨H, O⟩ O' σ' H' (rho s) ∧ whileN t body kk m s, ⟨n0, O, s0, (e.rebase (Lat.refl e)).le h0, h⟩, ?_⟩
  rintro m σ' H' ⟨O', s, eL, iv⟩
  cases m with
  | zero => exact iv.elim
  | succ m =>
    refine ht s _ iv _ _ _ _ eL _ fun b H2 k2 o2 pb => ?_
    have e2 := eL.kq k2 o2
    cases b with
    | false => rw [if_neg (by decide)]; exact out O' σ' H2 s e2 pb
    | true =>
      rw [if_pos rfl]
      refine ⟨fun σ3 H3 => ∃ O' s, En p ⟨H, O⟩ O' σ3 H3 (rho s) ∧ whileN t body kk m s, fun σ3 H3 q => ⟨m, Nat.lt_succ_self _, q⟩, ?_⟩
      exact hb s _ _ pb _ _ _ _ _ e2 (fun O2 σ2 H3 r2 e4 ⟨s', q1, q2⟩ => ⟨O2, s', e4.le q1, q2⟩) (fun v d' H3 k3 o3 hv q => rt v d' H3 (frame_in e k3) o3 hv q)
        (fun O2 σ2 H3 r2 e4 ⟨s', q1, q2⟩ => out O2 σ2 H3 s' (e4.le q1) q2) (fun O2 σ2 H3 r2 e4 ⟨s', q1, q2⟩ => ⟨O2, s', e4.le q1, q2⟩)
end
end Kz
set_option Elab.async false
set_option linter.all false
set_option maxRecDepth 100000
set_option maxHeartbeats 4000000
/-! Kz: own trees made and changed -/
namespace Kz
open PySem PySem.Spec PyProof.Rows L2
variable [GT]
section
variable {p : Pm} {ρ : Rho} {ta tb tc te ti tj : TE} {tt : TT} {H0 : Bs} {H Hs H' H2 : Hp} {O O' : Addr → Prop} {σ : L2.St} {m m1 m2 m3 : W PyData} {K : PySem.W.Frag} {w : Po} {tu tv tw : TS}
/-! ### new ones -/
def EL (p : Pm) (te : TE) (ρ : Rho) (m : W (List PyData)) : Prop := EO p te ρ (fun P => m fun r => P (oL r))
/-- a new list of data -/
theorem newL {vs : List V} {ds : List PyData} {a : Addr} (na : H2 a = none) (r : DvL (SO p O) H2 vs ds) : Ow (fun b => SO p O b ∨ b ∈ [a]) (upd H2 a (.lst vs)) (.ref a) (oL ds) [a] := by
  have kn : Kp H2 (upd H2 a (.lst vs)) := Kq.new na
  refine .lst upd_same (OwL.dats (r.map (fun b n hb z => ?_) fun b o n e t => kn.at_ b o (fun z => z) e t)) (by simp)
  rcases z with z | z
  · exact n z
  · have : b = a := by simpa using z
    exact hb (by rw [this]; exact na)
theorem newL_fr {k2 : Kq p.Z H H2} {a : Addr} (na : H2 a = none) : ∀ b ∈ [a], H b = none := fun b m => by
  have : b = a := by simpa using m
  rw [this]; exact k2.back na
theorem finL {P : Ot → Prop} {Q : VK} (k2 : Kq p.Z H H2) (o2 : Ok p H2) (q : ∀ v H2 t as, Kq p.Z H H2 → Ok p H2 → Ow (fun a => SO p O a ∨ a ∈ as) H2 v t as → (∀ a ∈ as, H a = none) → P t → Q v H2) {a : Addr} {vs : List V} {ds : List PyData} (na : H2 a = none) (r : DvL (SO p O) H2 vs ds) (hp : P (oL ds)) : Q (.ref a) (upd H2 a (.lst vs)) :=
  have kn : Kp H2 (upd H2 a (.lst vs)) := Kq.new na
  q _ _ (oL ds) [a] (k2.trans kn.up) (o2.kp kn) (newL na r) (newL_fr (k2 := k2) na) hp
theorem el_lst {t : TA} {ma : W (List PyData)} (h : EA p t ρ ma) : EL p (tLst t) ρ (fun P => ma fun ds => ds.length ≤ 1000 ∧ P ds) := fun P hp H0 O σ H e Q q => by
  refine h _ hp H0 O σ H e _ fun vs H2 ds k2 o2 hds pds => ?_
  refine ⟨by rw [hds.length]; exact Nat.le_trans pds.1 (by decide), fun a na => ?_⟩
  have kn : Kp H2 (upd H2 a (.lst vs)) := Kq.new na
  exact q _ _ (oL ds) [a] (k2.trans kn.up) (o2.kp kn) (newL na hds) (newL_fr (k2 := k2) na) pds.2
theorem el_list (h : EM p ta ρ m) : EL p (tCB (rLs K) (tCons ta tNil)) ρ (fun P => m fun d => iterW d P) := fun P hp H0 O σ H e Q q => by
  refine h _ hp H0 O σ H e _ fun v H2 d k2 o2 hd pd => ?_
  cases d with
  | list ds =>
    cases hd with | lst n ea r =>
      exact ⟨_, _, rfl, .inl (.inl (.inl ea)), fun a na => finL k2 o2 q na r pd⟩
  | tuple ds =>
    cases hd with | tup n ea r =>
      exact ⟨_, _, rfl, .inr (.inl (.inl ea)), fun a na => finL k2 o2 q na r pd⟩
  | _ => exact pd.elim
/-- [..] * n -/
def repLW : PyData → PyData → W (List PyData)
  | .list a, .int k, P => (k ≤ 1000 ∧ -1000 ≤ k ∧ a.length ≤ 1000) ∧ P (List.replicate k.toNat a).flatten
  | _, _, _ => False
theorem el_rep (h : EM p ta ρ m1) (k : EM p tb ρ m2) : EL p (tOp (rMulU K) ta tb) ρ (fun P => m1 fun x => m2 fun y => repLW x y P) := fun P hp H0 O σ H e Q q => by
  refine h _ hp H0 O σ H e _ fun v H2 d k2 o2 hd pd => ?_
  refine k _ pd H0 O σ H2 (e.kq k2 o2) _ fun u H3 d' k3 o3 hd' pd' => ?_
  have hd3 := hd.kq k3 so_z
  cases d with
  | list ds => cases d' with
    | int n =>
      cases hd3 with | @lst a xs _ nn ea r => cases hd'
                                              obtain ⟨⟨h1, h0, hz⟩, hp⟩ := pd'
                                              refine .inr (.inr ⟨a, n, xs, rfl, rfl, ea, by omega, by omega, ?_, fun b nb => ?_⟩)
                                              · have h2 : xs.length * n.toNat ≤ 1000 * 1000 := Nat.mul_le_mul (by rw [r.length]; exact hz) (by omega)
                                                exact sz1 h2
                                              · exact finL (k2.trans k3) o3 q nb (flat_dv r _) hp
    | _ => exact pd'.elim
  | _ => cases d' <;> exact pd'.elim
/-- two lists, one behind the other -/
def catLW : PyData → PyData → W (List PyData)
  | .list a, .list b, P => a.length + b.length ≤ 1000000 ∧ P (a ++ b)
  | _, _, _ => False
theorem el_cat (h : EM p ta ρ m1) (k : EM p tb ρ m2) : EL p (tOp (rAddU K) ta tb) ρ (fun P => m1 fun x => m2 fun y => catLW x y P) := fun P hp H0 O σ H e Q q => by
  refine h _ hp H0 O σ H e _ fun v H2 d k2 o2 hd pd => ?_
  refine k _ pd H0 O σ H2 (e.kq k2 o2) _ fun u H3 d' k3 o3 hd' pd' => ?_
  have hd3 := hd.kq k3 so_z
  cases d with
  | list ds => cases d' with
    | list es =>
      cases hd3 with | lst _ ea r => cases hd' with | lst _ eb r' =>
        refine .inr (.inr (.inl ⟨_, _, _, _, rfl, rfl, ea, eb, sz1 (by rw [r.length, r'.length]; exact pd'.1), fun b nb => ?_⟩))
        exact finL (k2.trans k3) o3 q nb (r.append r') pd'.2
    | _ => exact pd'.elim
  | _ => cases d' <;> exact pd'.elim
theorem el_lc {wi : TI} {g : TG} {vs : List Nat} {mi : W (List PyData)} (G : PyData → W (List PyData)) (hi : EI p wi ρ mi) (hs : ∀ d K, (G d fun es => K (es.map .dat)) → LcItem p g tt te vs ρ d K) :
    EL p (tLc wi g tt te vs) ρ (fun P => mi fun ds => ds.length ≤ 1000000 ∧ lcW G ds P) := fun P hp => by
  refine eo_lc (fun d K => G d fun es => K (es.map .dat)) hi hs P ?_
  have key : ∀ ds : List PyData, (lcW (fun d K => G d fun es => K (es.map Ot.dat)) ds fun ts => P (Ot.lst ts)) = lcW G ds fun es => P (oL es) := fun ds => lcW_map Ot.dat G ds (fun ts => P (Ot.lst ts))
  show mi (fun ds => ds.length ≤ 1000000 ∧ lcW (fun d K => G d fun es => K (es.map Ot.dat)) ds fun ts => P (Ot.lst ts))
  simp only [key]
  exact hp
theorem el_lc2 {wi wi1 : TI} {g g1 : TG} {tt1 : TT} {vs vs1 : List Nat} {mi : W (List PyData)} (G : PyData → W (List PyData)) (hi : EI p wi ρ mi) (hs : ∀ d K, (G d fun es => K (es.map .dat)) → Lc2Item p g tt wi1 g1 tt1 te vs vs1 ρ d K) :
    EL p (tLc2 wi g tt wi1 g1 tt1 te vs vs1) ρ (fun P => mi fun ds => ds.length ≤ 10000 ∧ lcW G ds P) := fun P hp => by
  refine eo_lc2 (fun d K => G d fun es => K (es.map .dat)) hi hs P ?_
  have key : ∀ ds : List PyData, (lcW (fun d K => G d fun es => K (es.map Ot.dat)) ds fun ts => P (Ot.lst ts)) = lcW G ds fun es => P (oL es) := fun ds => lcW_map Ot.dat G ds (fun ts => P (Ot.lst ts))
  show mi (fun ds => ds.length ≤ 10000 ∧ lcW (fun d K => G d fun es => K (es.map Ot.dat)) ds fun ts => P (Ot.lst ts))
  simp only [key]
  exact hp
/-- rows that are new themselves -/
def ELL (p : Pm) (te : TE) (ρ : Rho) (m : W (List (List PyData))) : Prop := EO p te ρ (fun P => m fun r => P (oLL r))
theorem ell_lc {wi : TI} {g : TG} {vs : List Nat} {mi : W (List PyData)} (G : PyData → W (List (List PyData))) (hi : EI p wi ρ mi) (hs : ∀ d K, (G d fun rs => K (rs.map oL)) → LcItem p g tt te vs ρ d K) :
    ELL p (tLc wi g tt te vs) ρ (fun P => mi fun ds => ds.length ≤ 1000000 ∧ lcW G ds P) := fun P hp => by
  refine eo_lc (fun d K => G d fun rs => K (rs.map oL)) hi hs P ?_
  have key : ∀ ds : List PyData, (lcW (fun d K => G d fun rs => K (rs.map oL)) ds fun ts => P (Ot.lst ts)) = lcW G ds fun rs => P (oLL rs) := fun ds => lcW_map oL G ds (fun ts => P (Ot.lst ts))
  show mi (fun ds => ds.length ≤ 1000000 ∧ lcW (fun d K => G d fun rs => K (rs.map oL)) ds fun ts => P (Ot.lst ts))
  simp only [key]
  exact hp
theorem ell_nil : ELL p (tLst tNil) ρ (fun P => P []) := fun P hp H0 O σ H e Q q => by
  refine ⟨Nat.zero_le _, fun a na => ?_⟩
  exact finL (p := p) (P := P) (ds := []) (Kq.refl H) e.ok q na .nil hp
theorem oL_inj {r r' : List PyData} (e : oL r = oL r') : r = r' := by
  have h : r.map Ot.dat = r'.map Ot.dat := by injection e
  have := congrArg Ot.ds h
  rwa [ds_dats, ds_dats] at this
theorem oLs_inj : ∀ {r r' : List (List PyData)}, r.map oL = r'.map oL → r = r'
  | [], [], _ => rfl
  | [], _ :: _, e => by cases e
  | _ :: _, [], e => by cases e
  | a :: r, b :: r', e => by
    rw [List.map_cons, List.map_cons] at e
    injection e with e1 e2
    rw [oL_inj e1, oLs_inj e2]
theorem oLL_inj {r r' : List (List PyData)} (e : oLL r = oLL r') : r = r' := by
  have h : r.map oL = r'.map oL := by injection e
  exact oLs_inj h
theorem oL_wish (K' : List PyData → Prop) : (fun r => ∃ r', oL r = oL r' ∧ K' r') = K' := funext fun r => propext ⟨fun ⟨r', e, q⟩ => by rw [oL_inj e]; exact q, fun q => ⟨r, rfl, q⟩⟩
theorem oLL_wish (K' : List (List PyData) → Prop) : (fun r => ∃ r', oLL r = oLL r' ∧ K' r') = K' := funext fun r => propext ⟨fun ⟨r', e, q⟩ => by rw [oLL_inj e]; exact q, fun q => ⟨r, rfl, q⟩⟩
theorem rm_setL {i : Nat} {ml : W (List PyData)} {K' : List PyData → Prop} (he : EL p te ρ ml) (h : ml K') (k : ∀ r, K' r → Rn p tw (ρ.set i (some (.own (oL r)))) w) : Rn p (tSeq (tAsg te (gName i)) tw) ρ w :=
  rm_setO (K' := fun t => ∃ r, t = oL r ∧ K' r) he (show ml (fun r => ∃ r', oL r = oL r' ∧ K' r') by rw [oL_wish]; exact h) fun t ⟨r, e, q⟩ => by subst e; exact k r q
theorem rm_setLL {i : Nat} {ml : W (List (List PyData))} {K' : List (List PyData) → Prop} (he : ELL p te ρ ml) (h : ml K') (k : ∀ r, K' r → Rn p tw (ρ.set i (some (.own (oLL r)))) w) : Rn p (tSeq (tAsg te (gName i)) tw) ρ w :=
  rm_setO (K' := fun t => ∃ r, t = oLL r ∧ K' r) he (show ml (fun r => ∃ r', oLL r = oLL r' ∧ K' r') by rw [oLL_wish]; exact h) fun t ⟨r, e, q⟩ => by subst e; exact k r q

/-! ### changes -/
/-- one object of the own tree in slot i is changed; new own objects at bs may come into it -/
theorem En.edit (e : En p H0 O σ H ρ) {i : Nat} {t : Ot} (hi : ρ[i]? = some (some (.own t))) {bs : List Addr} (k2 : Kq p.Z H H2) (o2 : Ok p H2) (hfr : ∀ a ∈ bs, H a = none) (hbm : ∀ a ∈ bs, ∃ o, H2 a = some o ∧ Mut o) :
    ∃ v as, σ[i]? = some (some v) ∧ Ow (SO p O) H v t as ∧ Ow (fun a => SO p O a ∨ a ∈ bs) H2 v t as ∧ (∀ a ∈ as, O a) ∧ (∀ a ∈ as, ¬ p.Z a) ∧ (∀ a ∈ as, a ∉ bs) ∧
      ∀ (b : Addr) (o : HO) (t' : Ot) (as' : List Addr), b ∈ as → Mut o → Ow (fun a => SO p O a ∨ a ∈ bs) (upd H2 b o) v t' as' → (∀ a ∈ as', a ∈ as ∨ a ∈ bs) →
        En p H0 (fun a => O a ∨ a ∈ bs) σ (upd H2 b o) (ρ.set i (some (.own t'))) := by
  obtain ⟨ad, g1, g2⟩ := e.sl
  have e2 := e.kq k2 o2
  obtain ⟨v, q1, q2, q3⟩ := g1 i _ hi
  have nb : ∀ a ∈ bs, ¬ SO p O a := fun a m => fresh_so e (hfr a m)
  have nz : ∀ a, O a → ¬ p.Z a := fun a h z => (e.ow a h).2.1 (p.zs a z)
  have up : ∀ a, ¬ SO p O a → H a ≠ none → ¬ SO p (fun a => O a ∨ a ∈ bs) a := fun a n t z => by
    rcases z with z | z | z
    · exact n (.inl z)
    · exact n (.inr z)
    · exact t (hfr a z)
  refine ⟨v, ad i, q1, q2, q2.map (fun a n t z => ?_) (fun a o n q t => k2.at_ a o (fun z => n (so_z a z)) q t) _ _ _ fun a m o q t => k2.at_ a o (fun z => nz a (q3 a m) z) q t, q3, fun a m => nz a (q3 a m), fun a m z => ?_, fun b o t' as' hb ho ht' has => ?_⟩
  · rcases z with z | z
    · exact n z
    · exact t (hfr a z)
  · exact nb a z (.inr (q3 a m))
  · have hbO := q3 b hb
    obtain ⟨ob, hob, mob⟩ := ow_mut q2 b hb
    have hob2 : H2 b = some ob := k2.at_ b _ (nz b hbO) hob (mut_nt mob)
    have nS := (e.ow b hbO).2.1
    have ko : ∀ a, p.S a → upd H2 b o a = H2 a := fun a z => upd_ne fun q => nS (q ▸ z)
    have okd : Ok p (upd H2 b o) := by
      refine ⟨fun a z => by rw [ko a z]; exact o2.tr a z, fun P hP => ?_, p.ms _ _ o2.mm ko⟩
      exact (o2.tb P hP).ne hob2 (mut_nt mob) (mut_nc mob)
    have hlen : i < ρ.length := (List.getElem?_eq_some_iff.mp hi).1
    refine ⟨?_, okd, fun a z => ?_, ⟨fun j => if i = j then as' else ad j, fun j s hj => ?_, fun j l t1 u a n r1 r2 m => ?_⟩, by rw [List.length_set, e.ln]⟩
    · by_cases h0 : H0.o b
      · exact e2.fr.trans (Kq.put hob2 (mut_nt mob) (mut_nc mob) (.inr h0))
      · exact Kq.own e2.fr ((e.ow b hbO).1.resolve_left h0) hob2 (mut_nt mob) (mut_nc mob)
    · by_cases q : a = b
      · subst q; exact ⟨(e.ow a hbO).1, nS, o, upd_same, mut_nt ho⟩
      · rcases z with z | z
        · obtain ⟨r1, r2, u, r3, r4⟩ := e2.ow a z
          exact ⟨r1, r2, u, by rw [upd_ne q]; exact r3, r4⟩
        · obtain ⟨u, r3, r4⟩ := hbm a z
          exact ⟨.inr (e.fr.back (hfr a z)), fun y => nb a z (.inl y), u, by rw [upd_ne q]; exact r3, mut_nt r4⟩
    · by_cases z : i = j
      · subst z
        rw [List.getElem?_set_self hlen] at hj
        cases hj
        dsimp only
        rw [if_pos rfl]
        refine ⟨v, q1, ht'.map (fun a n _ z => ?_) (fun _ _ _ e _ => e) _ _ _ fun _ _ _ e _ => e, fun a m => (has a m).imp (q3 a) id⟩
        rcases z with z | z | z
        · exact n (.inl (.inl z))
        · exact n (.inl (.inr z))
        · exact n (.inr z)
      · rw [List.getElem?_set_ne z] at hj
        dsimp only
        rw [if_neg z]
        have keep : ∀ a x, H a = some x → NT x → ¬ p.Z a → a ≠ b → upd H2 b o a = some x := fun a x q t nz' ne => by rw [upd_ne ne]; exact k2.at_ a x nz' q t
        cases s with
        | own u =>
          obtain ⟨v', r1, r2, r3⟩ := g1 j _ hj
          refine ⟨v', r1, r2.map up (fun a x n q t => keep a x q t (fun z => n (so_z a z)) fun y => n (.inr (by rw [y]; exact hbO))) _ _ _ fun a m x q tn => keep a x q tn (nz a (r3 a m)) fun y => g2 i j t u b z hi hj hb (by rw [← y]; exact m), fun a m => .inl (r3 a m)⟩
        | dat d =>
          obtain ⟨v', r1, r2⟩ := g1 j _ hj
          exact ⟨v', r1, r2.map up fun a x n q t => keep a x q t (fun z => n (so_z a z)) fun y => n (.inr (by rw [y]; exact hbO))⟩
        | raw v' => exact g1 j _ hj
        | rng lo hi' =>
          obtain ⟨a, r1, r2, r3⟩ := g1 j _ hj
          exact ⟨a, r1, up a r2 (by rw [r3]; simp), keep a _ r3 nt_rng (fun z => r2 (so_z a z)) fun y => r2 (.inr (by rw [y]; exact hbO))⟩
    · dsimp only at m ⊢
      have other : ∀ l u, i ≠ l → ρ[l]? = some (some (.own u)) → ∀ a ∈ as', a ∉ ad l := fun l u n hl a m z => by
        rcases has a m with y | y
        · exact g2 i l t u a n hi hl y z
        · obtain ⟨x, s1, s2, s3⟩ := g1 l _ hl
          exact nb a y (.inr (s3 a z))
      by_cases z : i = j
      · subst z
        rw [if_pos rfl] at m
        rw [if_neg n]
        rw [List.getElem?_set_ne n] at r2
        exact other l u n r2 a m
      · rw [if_neg z] at m
        rw [List.getElem?_set_ne z] at r1
        by_cases y : i = l
        · subst y
          rw [if_pos rfl]
          exact fun w => other j t1 z r1 a w m
        · rw [if_neg y]
          rw [List.getElem?_set_ne y] at r2
          exact g2 j l t1 u a n r1 r2 m
/-- the root list holds other items -/
theorem En.root (e : En p H0 O σ H ρ) {i : Nat} {xs : List Ot} (hi : ρ[i]? = some (some (.own (.lst xs)))) {bs : List Addr} (k2 : Kq p.Z H H2) (o2 : Ok p H2) (hfr : ∀ a ∈ bs, H a = none) (hbm : ∀ a ∈ bs, ∃ o, H2 a = some o ∧ Mut o) :
    ∃ a vs as, σ[i]? = some (some (.ref a)) ∧ H a = some (.lst vs) ∧ H2 a = some (.lst vs) ∧ OwL (fun a => SO p O a ∨ a ∈ bs) H2 vs xs as ∧ a ∉ as ∧ O a ∧ (∀ b ∈ as, b ∉ bs) ∧ a ∉ bs ∧
      ∀ (vs' : List V) (xs' : List Ot) (as' : List Addr), OwL (fun a => SO p O a ∨ a ∈ bs) H2 vs' xs' as' → (∀ b ∈ as', b ∈ as ∨ b ∈ bs) → En p H0 (fun a => O a ∨ a ∈ bs) σ (upd H2 a (.lst vs')) (ρ.set i (some (.own (.lst xs')))) := by
  obtain ⟨v, as0, q1, q2, q2', q3, qz, qb, fin⟩ := e.edit hi k2 o2 hfr hbm
  cases q2 with
  | @lst a vs _ as ea r na =>
    have ea2 : H2 a = some (.lst vs) := k2.at_ a _ (qz a (by simp)) ea nt_lst
    cases q2' with
    | @lst _ vs2 _ as2 ea2' r2 na2 =>
      rw [ea2] at ea2'
      cases ea2'
      refine ⟨a, vs, as, q1, ea, ea2, ?_, na, q3 a (by simp), fun b m => qb b (List.mem_cons_of_mem _ m), qb a (by simp), fun vs' xs' as' h' hs => ?_⟩
      · exact r2
      · have nin : a ∉ as' := fun z => (hs a z).elim na (qb a (by simp))
        refine fin a _ (.lst xs') (a :: as') (by simp) (.inl ⟨_, rfl⟩) (.lst upd_same (h'.map (fun _ n _ => n) (fun b o n q _ => ?_) _ _ _ fun b m o q _ => ?_) nin) fun b m => ?_
        · rw [upd_ne fun y => n (.inl (.inr (by rw [y]; exact q3 a (by simp))))]; exact q
        · rw [upd_ne fun y => nin (by rw [← y]; exact m)]; exact q
        · rcases List.mem_cons.mp m with z | z
          · exact .inl (by rw [z]; simp)
          · exact (hs b z).imp (List.mem_cons_of_mem _) id
theorem rm_append {i : Nat} {xs : List Ot} {mo : W Ot} {K' : List Ot → Prop} (hi : ρ[i]? = some (some (.own (.lst xs)))) (he : EO p te ρ mo) (h : mo fun t => xs.length ≤ 1000000 ∧ K' (xs ++ [t])) (k : ∀ ts, K' ts → Rn p tw (ρ.set i (some (.own (.lst ts)))) w) :
    Rn p (tSeq (tDrop (tBM K "list" rAppend (tVar i) (tCons te tNil))) tw) ρ w := fun H0 O σ H D e n r b c => by
  obtain ⟨a, vs, as, q1, ea, _⟩ := e.root (bs := []) hi (Kq.refl H) e.ok (by simp) (by simp)
  refine ⟨_, q1, .inl ⟨rfl, _, .inl (.inl ea)⟩, he _ h H0 O σ H e _ fun v H2 t bs k2 o2 ht hfr pt => ?_⟩
  obtain ⟨a', vs', as', q1', ea', ea2, r2, na, hO, nb, nab, fin⟩ := e.root hi k2 o2 hfr (ow_mut ht)
  rw [q1] at q1'
  cases q1'
  rw [ea] at ea'
  cases ea'
  refine ⟨a, vs, v, rfl, rfl, ea2, ?_, ?_⟩
  · have := r2.length
    exact Nat.lt_of_lt_of_le (show vs.length < 1000001 by have := pt.1; omega) (by decide)
  · refine k _ pt.2 H0 _ σ _ D (fin _ _ (as' ++ (bs ++ [])) (r2.append (.cons ht .nil (by simp)) fun x m z => nb x m (by simpa using z)) fun x m => ?_) n r b c
    rcases List.mem_append.mp m with z | z
    · exact .inl z
    · exact .inr (by simpa using z)
/-- .. data to a flat list -/
theorem rm_appendL {i : Nat} {ds : List PyData} {K' : List PyData → Prop} (hi : ρ[i]? = some (some (.own (oL ds)))) (he : EM p te ρ m) (h : m fun d => ds.length ≤ 1000000 ∧ K' (ds ++ [d])) (k : ∀ es, K' es → Rn p tw (ρ.set i (some (.own (oL es)))) w) :
    Rn p (tSeq (tDrop (tBM K "list" rAppend (tVar i) (tCons te tNil))) tw) ρ w :=
  rm_append (K' := fun ts => ∃ es, ts = es.map .dat ∧ K' es) hi (eo_of_em he) (by
    refine (show (fun d => ds.length ≤ 1000000 ∧ K' (ds ++ [d])) = (fun d => (ds.map Ot.dat).length ≤ 1000000 ∧ ∃ es, ds.map Ot.dat ++ [Ot.dat d] = es.map Ot.dat ∧ K' es) from funext fun d => propext ?_) ▸ h
    rw [List.length_map]
    refine and_congr_right fun _ => ⟨fun q => ⟨ds ++ [d], by simp, q⟩, fun ⟨es, e1, q⟩ => ?_⟩
    have : ds ++ [d] = es := by
      have := congrArg Ot.ds (show (ds ++ [d]).map Ot.dat = es.map Ot.dat by simpa using e1)
      rwa [ds_dats, ds_dats] at this
    rw [this]; exact q) fun ts ⟨es, e1, q⟩ => by subst e1; exact k es q
/-- .. a new list to a list of such -/
theorem rm_appendLL {i : Nat} {rs : List (List PyData)} {ml : W (List PyData)} {K' : List (List PyData) → Prop} (hi : ρ[i]? = some (some (.own (oLL rs)))) (he : EL p te ρ ml) (h : ml fun d => rs.length ≤ 1000000 ∧ K' (rs ++ [d])) (k : ∀ es, K' es → Rn p tw (ρ.set i (some (.own (oLL es)))) w) :
    Rn p (tSeq (tDrop (tBM K "list" rAppend (tVar i) (tCons te tNil))) tw) ρ w :=
  rm_append (K' := fun ts => ∃ es, ts = es.map oL ∧ K' es) hi he (by
    refine (show (fun d => rs.length ≤ 1000000 ∧ K' (rs ++ [d])) = (fun d => (rs.map oL).length ≤ 1000000 ∧ ∃ es, rs.map oL ++ [oL d] = es.map oL ∧ K' es) from funext fun d => propext ?_) ▸ h
    rw [List.length_map]
    refine and_congr_right fun _ => ⟨fun q => ⟨rs ++ [d], by simp, q⟩, fun ⟨es, e1, q⟩ => ?_⟩
    have : rs ++ [d] = es := oLs_inj (show (rs ++ [d]).map oL = es.map oL by simpa using e1)
    rw [this]; exact q) fun ts ⟨es, e1, q⟩ => by subst e1; exact k es q
end
end Kz
set_option Elab.async false
set_option linter.all false
set_option maxRecDepth 100000
set_option maxHeartbeats 4000000
/-! Kz: items of own lists changed, taken out, exchanged -/
namespace Kz
open PySem PySem.Spec PyProof.Rows L2
variable [GT]
theorem set_self {α : Type} : ∀ {l : List α} {n : Nat} {x : α}, l[n]? = some x → l.set n x = l
  | [], _, _, h => by simp at h
  | a :: l, 0, x, h => by simp at h; subst h; rfl
  | a :: l, n + 1, x, h => by
    show a :: l.set n x = a :: l
    rw [set_self (by simpa using h)]
def ixD (n : Nat) (d : PyData) (k : Nat → Prop) : Prop := match d with
  | .int i => match ixN n i with | some m => k m | none => False
  | _ => False
theorem ixD_inv {n : Nat} {d : PyData} {k : Nat → Prop} (h : ixD n d k) : ∃ i m, d = .int i ∧ ixN n i = some m ∧ k m := by
  cases d with
  | int i =>
    have h' : (match ixN n i with | some m => k m | none => False) := h
    split at h'
    · exact ⟨i, _, rfl, by assumption, h'⟩
    · exact h'.elim
  | _ => exact h.elim
theorem ixN_lt {n : Nat} {i : Int} {m : Nat} (h : ixN n i = some m) : m < n := by
  unfold ixN at h
  split at h
  · split at h
    · cases h; omega
    · cases h
  · split at h
    · cases h; omega
    · cases h
/-- the row at a place -/
def atRow (rs : List (List PyData)) (x : PyData) (k : Nat → List PyData → Prop) : Prop := ixD rs.length x fun m => match rs[m]? with | some r => k m r | none => False
theorem atRow_inv {rs : List (List PyData)} {x : PyData} {k : Nat → List PyData → Prop} (h : atRow rs x k) : ∃ i m r, x = .int i ∧ ixN rs.length i = some m ∧ rs[m]? = some r ∧ k m r := by
  obtain ⟨i, m, e1, e2, q⟩ := ixD_inv h
  split at q
  · exact ⟨i, m, _, e1, e2, by assumption, q⟩
  · exact q.elim
section
variable {p : Pm} {ρ : Rho} {ta tb tc te ti tj tk : TE} {tt : TT} {H0 : Bs} {H Hs H' H2 : Hp} {O O' : Addr → Prop} {σ : L2.St} {m m1 m2 m3 mi mj : W PyData} {K : PySem.W.Frag} {w : Po} {tu tv tw : TS}
theorem OwL.set {S : Addr → Prop} {H : Hp} {vs : List V} {xs : List Ot} {as : List Addr} (h : OwL S H vs xs as) {j : Nat} (hj : j < xs.length) {v : V} {t : Ot} {bs : List Addr} (ht : Ow S H v t bs) (hb : ∀ a ∈ bs, a ∉ as) : ∃ ds, OwL S H (vs.set j v) (xs.set j t) ds ∧ ∀ a ∈ ds, a ∈ as ∨ a ∈ bs := by
  obtain ⟨v0, cs, g1, g2, g3, g4⟩ := h.get (List.getElem?_eq_getElem hj)
  obtain ⟨ds, q1, q2⟩ := g4 S H v t bs (fun _ n _ => n) (fun _ _ _ e _ => e) (fun _ _ _ _ e _ => e) ht fun a m => .inl (hb a m)
  exact ⟨ds, q1, fun a m => (q2 a m).imp (fun z => z.1) id⟩
/-- x[j] = e -/
theorem rm_setitem {i : Nat} {xs : List Ot} {mo : W Ot} {K' : List Ot → Prop} (hi : ρ[i]? = some (some (.own (.lst xs)))) (he : EO p te ρ mo) (hj : EM p tj ρ mj) (h : mo fun t => mj fun j => ixD xs.length j fun n => K' (xs.set n t)) (k : ∀ ts, K' ts → Rn p tw (ρ.set i (some (.own (.lst ts)))) w) :
    Rn p (tSeq (tAsg te (gSub (tVar i) tj rSetL)) tw) ρ w := fun H0 O σ H D e n r b c => by
  refine he _ h H0 O σ H e _ fun v H2 t bs k2 o2 ht hfr pt => ?_
  have e2 := e.kq k2 o2
  obtain ⟨ad, g1, g2⟩ := e2.sl
  obtain ⟨v0, q1, _⟩ := g1 i _ hi
  refine ⟨_, q1, hj _ pt H0 O σ H2 e2 _ fun u H3 dj k3 o3 hd pj => ?_⟩
  obtain ⟨ji, jm, rfl, hjm, pk⟩ := ixD_inv pj
  cases hd
  have hbm2 : ∀ a ∈ bs, ∃ o, H3 a = some o ∧ Mut o := fun a m => by
    obtain ⟨o, q, mo⟩ := ow_mut ht a m
    exact ⟨o, k3.at_ a o (fun z => fresh_so e (hfr a m) (.inl (p.zs a z))) q (mut_nt mo), mo⟩
  obtain ⟨a, vs, as, q1', ea, ea2, r2, na, hO, nb, nab, fin⟩ := e.root hi (k2.trans k3) o3 hfr hbm2
  rw [q1] at q1'
  cases q1'
  have ht3 : Ow (fun a => SO p O a ∨ a ∈ bs) H3 v t bs := ht.map (fun _ n _ => n) (fun a o n q t => k3.at_ a o (fun z => n (.inl (so_z a z))) q t) _ _ _ fun a m o q t => k3.at_ a o (fun z => fresh_so e (hfr a m) (.inl (p.zs a z))) q t
  obtain ⟨ds, s1, s2⟩ := r2.set (ixN_lt hjm) ht3 fun a m z => nb a z m
  refine ⟨a, vs, ji, jm, rfl, rfl, ea2, by rw [r2.length]; exact hjm, k _ pk H0 _ σ _ D (fin _ _ ds s1 s2) n r b c⟩
theorem map_set {α β : Type} (f : α → β) (l : List α) (n : Nat) (x : α) : (l.map f).set n (f x) = (l.set n x).map f := by rw [List.map_set]
theorem rm_setitemL {i : Nat} {ds : List PyData} {K' : List PyData → Prop} (hi : ρ[i]? = some (some (.own (oL ds)))) (he : EM p te ρ m) (hj : EM p tj ρ mj) (h : m fun d => mj fun j => ixD ds.length j fun n => K' (ds.set n d)) (k : ∀ es, K' es → Rn p tw (ρ.set i (some (.own (oL es)))) w) :
    Rn p (tSeq (tAsg te (gSub (tVar i) tj rSetL)) tw) ρ w :=
  rm_setitem (K' := fun ts => ∃ es, ts = es.map .dat ∧ K' es) hi (eo_of_em he) hj (by
    refine (show (fun d => mj fun j => ixD ds.length j fun n => K' (ds.set n d)) = (fun d => mj fun j => ixD (ds.map Ot.dat).length j fun n => ∃ es, (ds.map Ot.dat).set n (.dat d) = es.map Ot.dat ∧ K' es) from funext fun d => ?_) ▸ h
    congr 1
    funext j
    rw [List.length_map]
    congr 1
    funext n
    rw [map_set]
    exact propext ⟨fun q => ⟨_, rfl, q⟩, fun ⟨es, e1, q⟩ => by
      have : ds.set n d = es := by
        have := congrArg Ot.ds e1
        rwa [ds_dats, ds_dats] at this
      rw [this]; exact q⟩) fun ts ⟨es, e1, q⟩ => by subst e1; exact k es q
theorem rm_setitemLL {i : Nat} {rs : List (List PyData)} {ml : W (List PyData)} {K' : List (List PyData) → Prop} (hi : ρ[i]? = some (some (.own (oLL rs)))) (he : EL p te ρ ml) (hj : EM p tj ρ mj) (h : ml fun d => mj fun j => ixD rs.length j fun n => K' (rs.set n d)) (k : ∀ es, K' es → Rn p tw (ρ.set i (some (.own (oLL es)))) w) :
    Rn p (tSeq (tAsg te (gSub (tVar i) tj rSetL)) tw) ρ w :=
  rm_setitem (K' := fun ts => ∃ es, ts = es.map oL ∧ K' es) hi he hj (by
    refine (show (fun d => mj fun j => ixD rs.length j fun n => K' (rs.set n d)) = (fun d => mj fun j => ixD (rs.map oL).length j fun n => ∃ es, (rs.map oL).set n (oL d) = es.map oL ∧ K' es) from funext fun d => ?_) ▸ h
    congr 1
    funext j
    rw [List.length_map]
    congr 1
    funext n
    rw [map_set]
    exact propext ⟨fun q => ⟨_, rfl, q⟩, fun ⟨es, e1, q⟩ => by rw [oLs_inj e1]; exact q⟩) fun ts ⟨es, e1, q⟩ => by subst e1; exact k es q
/-- x[i][j] = e -/
theorem rm_set2 {i : Nat} {rs : List (List PyData)} {K' : List (List PyData) → Prop} (hi : ρ[i]? = some (some (.own (oLL rs)))) (he : EM p te ρ m) (hx : EM p ti ρ mi) (hj : EM p tj ρ mj) (h : m fun d => mi fun x => atRow rs x fun n r => mj fun y => ixD r.length y fun l => K' (rs.set n (r.set l d))) (k : ∀ es, K' es → Rn p tw (ρ.set i (some (.own (oLL es)))) w) :
    Rn p (tSeq (tAsg te (gSub (tOp (rIx K) (tVar i) ti) tj rSetL)) tw) ρ w := fun H0 O σ H D e n r b c => by
  refine he _ h H0 O σ H e _ fun v H2 d k2 o2 hd pd => ?_
  have e2 := e.kq k2 o2
  obtain ⟨ad, g1, g2⟩ := e2.sl
  obtain ⟨v0, q1, _⟩ := g1 i _ hi
  refine ⟨_, q1, hx _ pd H0 O σ H2 e2 _ fun u H3 di k3 o3 hdi pi => ?_⟩
  have e3 := e2.kq k3 o3
  obtain ⟨ii, n0, row, rfl, hn0, hrow, pi⟩ := atRow_inv pi
  cases hdi
  obtain ⟨v1, as1, s1, ow3, _, hO3, hZ3, _, _⟩ := e3.edit (bs := []) hi (Kq.refl H3) o3 (by simp) (by simp)
  rw [q1] at s1
  cases s1
  cases ow3 with
  | @lst a vs _ as ea r3 na =>
    obtain ⟨vb, cs, c1, c2, c3, _⟩ := r3.get (show (rs.map oL)[n0]? = some (oL row) by rw [List.getElem?_map, hrow]; rfl)
    cases c2 with
    | @lst bb ws _ es eb rb nb =>
      have hvl : vs.length = rs.length := by rw [r3.length, List.length_map]
      refine .inl ⟨a, vs, ii, .ref bb, rfl, rfl, .inl (.inl ea), by unfold atI; rw [hvl, hn0]; exact c1, ?_⟩
      refine hj _ pi H0 O σ H3 e3 _ fun uj H4 dj k4 o4 hdj pj => ?_
      obtain ⟨jj, l0, rfl, hl0, pj⟩ := ixD_inv pj
      cases hdj
      have e4 := e3.kq k4 o4
      obtain ⟨v1', as1', s1', ow4, _, hO4, hZ4, _, fin⟩ := e4.edit (bs := []) hi (Kq.refl H4) o4 (by simp) (by simp)
      rw [q1] at s1'
      cases s1'
      have eb4 : H4 bb = some (.lst ws) := k4.at_ bb _ (hZ3 bb (List.mem_cons_of_mem _ (c3 bb (by simp)))) eb nt_lst
      have ea4 : H4 a = some (.lst vs) := k4.at_ a _ (hZ3 a (by simp)) ea nt_lst
      cases ow4 with
      | @lst _ vs4 _ as4 ea4' r4 na4 =>
        rw [ea4] at ea4'
        cases ea4'
        obtain ⟨vb4, cs4, d1, d2, d3, d4⟩ := r4.get (show (rs.map oL)[n0]? = some (oL row) by rw [List.getElem?_map, hrow]; rfl)
        rw [c1] at d1
        cases d1
        cases d2 with
        | @lst _ ws4 _ es4 eb4' rb4 nb4 =>
          rw [eb4] at eb4'
          cases eb4'
          obtain ⟨rfl, rd⟩ := OwL.dats_inv rb4
          have hd4 := (hd.kq k3 so_z).kq k4 so_z
          have hbO : O bb := hO4 bb (List.mem_cons_of_mem _ (d3 bb (by simp)))
          have rd' : DvL (SO p O) H4 (ws.set l0 v) (row.set l0 d) := by
            have : ∀ {vs : List V} {ds : List PyData} (m : Nat), DvL (SO p O) H4 vs ds → DvL (SO p O) H4 (vs.set m v) (ds.set m d) := by
              intro vs ds m h
              induction ds generalizing vs m with
              | nil => cases h; exact .nil
              | cons x ds ih =>
                cases h with
                | cons h1 h2 =>
                  cases m with
                  | zero => exact .cons hd4 h2
                  | succ m => exact .cons h1 (ih m h2)
            exact this l0 rd
          refine ⟨bb, ws, jj, l0, rfl, rfl, eb4, by rw [rd.length]; exact hl0, ?_⟩
          have off : ∀ (x : Addr) (o : HO), ¬ (fun a => SO p O a ∨ a ∈ ([] : List Addr)) x → H4 x = some o → NT o → upd H4 bb (.lst (ws.set l0 v)) x = some o := fun x o n q _ => by
            rw [upd_ne fun y => n (.inl (.inr (by rw [y]; exact hbO)))]; exact q
          have hS : ∀ x, ¬ SO p O x → H4 x ≠ none → ¬ (fun a => SO p O a ∨ a ∈ ([] : List Addr)) x := fun x n _ z => z.elim n (by simp)
          obtain ⟨ds, f1, f2⟩ := d4 (fun a => SO p O a ∨ a ∈ ([] : List Addr)) (upd H4 bb (.lst (ws.set l0 v))) (.ref bb) (oL (row.set l0 d)) [bb] hS (fun x o n q t => off x o (fun z => z.elim n (by simp)) q t)
            (fun x mx nx o q _ => by rw [upd_ne fun y => nx (by rw [y]; simp)]; exact q)
            (.lst upd_same (OwL.dats (rd'.map hS fun x o n q t => off x o (fun z => z.elim n (by simp)) q t)) (by simp)) (fun x mx => .inr mx)
          have hab : a ≠ bb := fun y => na4 (by rw [y]; exact d3 bb (by simp))
          refine k _ pj H0 O σ _ D ?_ n r b c
          have ef := fin bb (.lst (ws.set l0 v)) (oLL (rs.set n0 (row.set l0 d))) (a :: ds) (List.mem_cons_of_mem _ (d3 bb (by simp))) (.inl ⟨_, rfl⟩) (.lst (by rw [upd_ne hab]; exact ea4) ?_ fun z => ?_) fun x mx => ?_
          · have : (fun a => O a ∨ a ∈ ([] : List Addr)) = O := funext fun a => propext ⟨fun z => z.elim id (by simp), .inl⟩
            rw [this] at ef
            exact ef
          · have hvs : vs.set n0 (.ref bb) = vs := set_self c1
            rw [hvs, map_set] at f1
            exact f1
          · rcases f2 a z with y | y
            · exact na4 y.1
            · exact hab (by simpa using y)
          · left
            rcases List.mem_cons.mp mx with y | y
            · rw [y]; simp
            · refine List.mem_cons_of_mem _ ?_
              rcases f2 x y with z | z
              · exact z.1
              · have : x = bb := by simpa using z
                rw [this]; exact d3 bb (by simp)
/-! ### the list made longer by another -/
theorem rm_extendL {i : Nat} {ds : List PyData} {K' : List PyData → Prop} (hi : ρ[i]? = some (some (.own (oL ds)))) (he : EM p te ρ m) (h : m fun d => match d with | .list es => ds.length + es.length ≤ 1000000 ∧ K' (ds ++ es) | _ => False) (k : ∀ es, K' es → Rn p tw (ρ.set i (some (.own (oL es)))) w) :
    Rn p (tSeq (tDrop (tBM K "list" rExtend (tVar i) (tCons te tNil))) tw) ρ w := fun H0 O σ H D e n r b c => by
  obtain ⟨a, vs, as, q1, ea, _⟩ := e.root (bs := []) hi (Kq.refl H) e.ok (by simp) (by simp)
  refine ⟨_, q1, .inl ⟨rfl, _, .inl (.inl ea)⟩, he _ h H0 O σ H e _ fun v H2 d k2 o2 hd pd => ?_⟩
  cases d with
  | list es =>
    cases hd with
    | @lst l zs _ nl el rl =>
      obtain ⟨a', vs', as', q1', ea', ea2, r2, na, hO, nb, nab, fin⟩ := e.root (bs := []) hi k2 o2 (by simp) (by simp)
      rw [q1] at q1'
      cases q1'
      rw [ea] at ea'
      cases ea'
      have hlen : vs.length = ds.length := by rw [r2.length, List.length_map]
      refine ⟨a, l, vs, zs, rfl, rfl, ea2, el, sz1 (by rw [hlen, rl.length]; exact pd.1), ?_⟩
      have e0 : (fun a => O a ∨ a ∈ ([] : List Addr)) = O := funext fun a => propext ⟨fun z => z.elim id (by simp), .inl⟩
      have rl' : DvL (fun a => SO p O a ∨ a ∈ ([] : List Addr)) H2 zs es := rl.map (fun a n _ z => z.elim n (by simp)) fun _ _ _ e _ => e
      have ef := fin (vs ++ zs) ((ds ++ es).map .dat) (as' ++ []) (by rw [List.map_append]; exact r2.append (OwL.dats rl') (by simp)) (fun x mx => .inl (by simpa using mx))
      rw [e0] at ef
      exact k _ pd.2 H0 O σ _ D ef n r b c
  | _ => exact pd.elim

/-! ### expressions that take an item out of an own list -/
def Es (p : Pm) (te : TE) (ρ : Rho) (P : PyData → Rho → Prop) : Prop := ∀ H0 O σ H, En p H0 O σ H ρ → ∀ Q : VK, (∀ v H2 d ρ', En p H0 O σ H2 ρ' → Dv (SO p O) H2 v d → P d ρ' → Q v H2) → te σ H Q
theorem DvL.erase {S : Addr → Prop} {H : Hp} : ∀ {vs : List V} {ds : List PyData} (m : Nat), DvL S H vs ds → DvL S H (vs.eraseIdx m) (ds.eraseIdx m)
  | _, _, _, .nil => .nil
  | _, _, 0, .cons _ b => b
  | _, _, m + 1, .cons a b => .cons a (DvL.erase m b)
/-- what l.pop(k) asks -/
def popW (ds : List PyData) (x : PyData) (k : PyData → List PyData → Prop) : Prop := ixD ds.length x fun n => match ds[n]? with | some d => ds.length ≤ 1000000 ∧ k d (ds.eraseIdx n) | none => False
theorem seqIx {n : Nat} {i : Int} {m : Nat} (h : ixN n i = some m) (hn : n ≤ 1000000) : seqIndex? i n = some m ∧ -(2 ^ 63) ≤ i ∧ i < 2 ^ 63 := by
  unfold ixN at h
  unfold seqIndex?
  split at h
  · rename_i h0
    split at h
    · rename_i h1
      cases h
      refine ⟨?_, by omega, by omega⟩
      have : ¬ i < 0 := by omega
      simp only [this, if_false]
      simp
      omega
    · cases h
  · rename_i h0
    split at h
    · rename_i h1
      cases h
      refine ⟨?_, by omega, by omega⟩
      have : i < 0 := by omega
      simp only [this, if_true]
      simp
      omega
    · cases h
theorem es_pop {i : Nat} {ds : List PyData} {P : PyData → Rho → Prop} (hi : ρ[i]? = some (some (.own (oL ds)))) (hk : EM p tk ρ m) (h : m fun x => popW ds x fun d es => P d (ρ.set i (some (.own (oL es))))) : Es p (tBM K "list" rPopAt (tVar i) (tCons tk tNil)) ρ P := fun H0 O σ H e Q q => by
  obtain ⟨a, vs, as, q1, ea, _⟩ := e.root (bs := []) hi (Kq.refl H) e.ok (by simp) (by simp)
  refine ⟨_, q1, .inl ⟨rfl, _, .inl (.inl ea)⟩, hk _ h H0 O σ H e _ fun v H2 dk k2 o2 hd pd => ?_⟩
  obtain ⟨ii, n0, rfl, hn, pd⟩ := ixD_inv pd
  cases hd
  split at pd
  · rename_i d hdn
    obtain ⟨a', vs', as', q1', ea', ea2, r2, na, hO, nb, nab, fin⟩ := e.root (bs := []) hi k2 o2 (by simp) (by simp)
    rw [q1] at q1'
    cases q1'
    rw [ea] at ea'
    cases ea'
    obtain ⟨rfl, rd⟩ := OwL.dats_inv r2
    obtain ⟨v, hv, dv⟩ := rd.getD hdn
    have hlen : vs.length = ds.length := rd.length
    obtain ⟨g1, g2, g3⟩ := seqIx hn pd.1
    refine ⟨a, vs, ii, n0, v, rfl, rfl, ea2, g2, g3, by rw [hlen]; exact g1, hv, ?_⟩
    have e0 : (fun a => O a ∨ a ∈ ([] : List Addr)) = O := funext fun a => propext ⟨fun z => z.elim id (by simp), .inl⟩
    have ef := fin (vs.eraseIdx n0) ((ds.eraseIdx n0).map .dat) [] (OwL.dats (DvL.erase n0 rd)) (by simp)
    rw [e0] at ef
    refine q v _ d _ ef ?_ pd.2
    exact dv.map (fun a n _ z => n (.inl z)) fun x o n eo _ => by rw [upd_ne fun y => n (.inl (.inr (by rw [y]; exact hO)))]; exact eo
  · exact pd.elim
/-- what l.pop() asks -/
def pop0W (ds : List PyData) (k : PyData → List PyData → Prop) : Prop := match ds.getLast? with | some d => k d ds.dropLast | none => False
theorem es_pop0 {i : Nat} {ds : List PyData} {P : PyData → Rho → Prop} (hi : ρ[i]? = some (some (.own (oL ds)))) (h : pop0W ds fun d es => P d (ρ.set i (some (.own (oL es))))) : Es p (tBM0 K "list" rPop (tVar i)) ρ P := fun H0 O σ H e Q q => by
  obtain ⟨a, vs, as, q1, ea, ea2, r2, na, hO, nb, nab, fin⟩ := e.root (bs := []) hi (Kq.refl H) e.ok (by simp) (by simp)
  refine ⟨_, q1, .inl ⟨rfl, _, .inl (.inl ea)⟩, ?_⟩
  unfold pop0W at h
  split at h
  · rename_i d hdn
    obtain ⟨rfl, rd⟩ := OwL.dats_inv r2
    rw [List.getLast?_eq_getElem?] at hdn
    obtain ⟨v, hv, dv⟩ := rd.getD hdn
    have hlen : vs.length = ds.length := rd.length
    refine ⟨a, vs, v, rfl, rfl, ea, by rw [hlen]; exact hv, ?_⟩
    have e0 : (fun a => O a ∨ a ∈ ([] : List Addr)) = O := funext fun a => propext ⟨fun z => z.elim id (by simp), .inl⟩
    have hd : DvL (fun a => SO p O a ∨ a ∈ ([] : List Addr)) H vs.dropLast ds.dropLast := by
      rw [List.dropLast_eq_take, List.dropLast_eq_take, hlen]
      exact rd.take _
    have ef := fin vs.dropLast (ds.dropLast.map .dat) [] (OwL.dats hd) (by simp)
    rw [e0] at ef
    refine q v _ d _ ef ?_ h
    exact dv.map (fun a n _ z => n (.inl z)) fun x o n eo _ => by rw [upd_ne fun y => n (.inl (.inr (by rw [y]; exact hO)))]; exact eo
  · exact h.elim
theorem rm_setS {i : Nat} {P : PyData → Rho → Prop} (he : Es p te ρ P) (k : ∀ d ρ', P d ρ' → Rn p tw (ρ'.set i (some (.dat d))) w) : Rn p (tSeq (tAsg te (gName i)) tw) ρ w := fun H0 O σ H D e n r b c =>
  he H0 O σ H e _ fun v H2 d ρ' e2 hd pd => k d ρ' pd H0 O _ H2 D (e2.set hd) n r b c
theorem rm_exprS {P : PyData → Rho → Prop} (he : Es p te ρ P) (k : ∀ d ρ', P d ρ' → Rn p tw ρ' w) : Rn p (tSeq (tDrop te) tw) ρ w := fun H0 O σ H D e n r b c =>
  he H0 O σ H e _ fun v H2 d ρ' e2 hd pd => k d ρ' pd H0 O _ H2 D e2 n r b c
/-- x, y = (l.pop(k), e) -/
theorem rm_popPair {i j : Nat} {P : PyData → Rho → Prop} (he : Es p te ρ P) (k : ∀ d ρ', P d ρ' → ∃ (mb : W PyData) (K' : PyData → Prop), EM p tb ρ' mb ∧ mb K' ∧ ∀ y, K' y → Rn p tw ((ρ'.set i (some (.dat d))).set j (some (.dat y))) w) :
    Rn p (tSeq (tAsg (tTup (tCons te (tCons tb tNil))) (gTup K 2 (gCons (gName i) (gCons (gName j) gNil)))) tw) ρ w := fun H0 O σ H D e n r b c => by
  refine he H0 O σ H e _ fun v H2 d ρ' e2 hd pd => ?_
  obtain ⟨mb, K', hb, hm, hk⟩ := k d ρ' pd
  refine hb _ hm H0 O σ H2 e2 _ fun u H3 y k3 o3 hy py => ?_
  have e3 := e2.kq k3 o3
  refine ⟨by show 2 ≤ sizeLine; decide, fun a na => ?_⟩
  have kn : Kp H3 (upd H3 a (.tup [v, u])) := Kq.new na
  refine ⟨a, [v, u], rfl, .inl (.inl upd_same), rfl, v, [u], rfl, u, [], rfl, rfl, ?_⟩
  exact hk y py H0 O _ _ D ((((e3.kp kn).set ((hd.kq k3 so_z).kp kn))).set (hy.kp kn)) n r b c
/-- f.append(l.pop(k)): two own lists -/
theorem rm_appendS {i : Nat} {ds : List PyData} {P : PyData → Rho → Prop} {K' : List PyData → Rho → Prop} (hi : ρ[i]? = some (some (.own (oL ds)))) (he : Es p te ρ P) (h : ∀ d ρ', P d ρ' → ρ'[i]? = some (some (.own (oL ds))) ∧ ds.length ≤ 1000000 ∧ K' (ds ++ [d]) ρ') (k : ∀ es ρ', K' es ρ' → Rn p tw (ρ'.set i (some (.own (oL es)))) w) :
    Rn p (tSeq (tDrop (tBM K "list" rAppend (tVar i) (tCons te tNil))) tw) ρ w := fun H0 O σ H D e n r b c => by
  obtain ⟨a, vs, as, q1, ea, _⟩ := e.root (bs := []) hi (Kq.refl H) e.ok (by simp) (by simp)
  refine ⟨_, q1, .inl ⟨rfl, _, .inl (.inl ea)⟩, he H0 O σ H e _ fun v H2 d ρ' e2 hd pd => ?_⟩
  obtain ⟨hi', hl, hk⟩ := h d ρ' pd
  obtain ⟨a', vs', as', q1', ea', ea2, r2, na, hO, nb, nab, fin⟩ := e2.root (bs := []) hi' (Kq.refl H2) e2.ok (by simp) (by simp)
  rw [q1] at q1'
  cases q1'
  have hlen : vs'.length = ds.length := by rw [r2.length, List.length_map]
  refine ⟨a, vs', v, rfl, rfl, ea', ?_, ?_⟩
  · exact Nat.lt_of_lt_of_le (show vs'.length < 1000001 by omega) (by decide)
  · have e0 : (fun a => O a ∨ a ∈ ([] : List Addr)) = O := funext fun a => propext ⟨fun z => z.elim id (by simp), .inl⟩
    have hd' : Ow (fun a => SO p O a ∨ a ∈ ([] : List Addr)) H2 v (.dat d) [] := .dat (hd.map (fun a n _ z => z.elim n (by simp)) fun _ _ _ e _ => e)
    have ef := fin (vs' ++ [v]) ((ds ++ [d]).map .dat) (as' ++ ([] ++ [])) (by rw [List.map_append]; exact r2.append (.cons hd' .nil (by simp)) (by simp)) (fun x mx => .inl (by simpa using mx))
    rw [e0] at ef
    exact k _ ρ' hk H0 O σ _ D ef n r b c
/-- an item of an own flat list -/
theorem em_ixO {i : Nat} {ds : List PyData} (hi : ρ[i]? = some (some (.own (oL ds)))) (hk : EM p tk ρ m) : EM p (tOp (rIx K) (tVar i) tk) ρ (fun P => m fun x => idxW (.list ds) x P) := fun P hp H0 O σ H e Q q => by
  obtain ⟨a, vs, as, q1, ea, _⟩ := e.root (bs := []) hi (Kq.refl H) e.ok (by simp) (by simp)
  refine ⟨_, q1, hk _ hp H0 O σ H e _ fun v H2 dk k2 o2 hd pd => ?_⟩
  obtain ⟨a', vs', as', q1', ea', ea2, r2, na, hO, nb, nab, fin⟩ := e.root (bs := []) hi k2 o2 (by simp) (by simp)
  rw [q1] at q1'
  cases q1'
  obtain ⟨rfl, rd⟩ := OwL.dats_inv r2
  cases dk with
  | int ii =>
    cases hd
    obtain ⟨d, hd, hp⟩ := pd
    unfold atI at hd
    obtain ⟨j, hj, e2⟩ := Option.bind_eq_some_iff.mp hd
    obtain ⟨v, hv, dv⟩ := rd.getD e2
    refine .inl ⟨a, vs', ii, v, rfl, rfl, .inl (.inl ea2), by unfold atI; rw [rd.length, hj]; exact hv, q v H2 d k2 o2 (dv.map (fun a n _ z => n (.inl z)) fun _ _ _ e _ => e) hp⟩
  | _ => exact pd.elim
theorem em_lenO {i : Nat} {t : List Ot} (hi : ρ[i]? = some (some (.own (.lst t)))) : EM p (tCB (rLn K) (tCons (tVar i) tNil)) ρ (fun P => P (.int t.length)) := fun P hp H0 O σ H e Q q => by
  obtain ⟨a, vs, as, q1, ea, ea2, r2, _⟩ := e.root (bs := []) hi (Kq.refl H) e.ok (by simp) (by simp)
  refine ⟨_, q1, a, vs, rfl, .inl (.inl (.inl ea)), ?_⟩
  rw [r2.length]
  exact fin e q (.int _) hp
/-- x[i], x[j] = (d, e) -/
theorem rm_swapL {i : Nat} {ds : List PyData} {K' : List PyData → Prop} {t1 t2 : TE} {mx my : W PyData} (hi : ρ[i]? = some (some (.own (oL ds)))) (ha : EM p ta ρ m1) (hb : EM p tb ρ m2) (hx : EM p t1 ρ mx) (hy : ∀ es, EM p t2 (ρ.set i (some (.own (oL es)))) my)
    (h : m1 fun d => m2 fun e => mx fun x => ixD ds.length x fun a => my fun y => ixD ds.length y fun b => K' ((ds.set a d).set b e)) (k : ∀ es, K' es → Rn p tw (ρ.set i (some (.own (oL es)))) w) :
    Rn p (tSeq (tAsg (tTup (tCons ta (tCons tb tNil))) (gTup K 2 (gCons (gSub (tVar i) t1 rSetL) (gCons (gSub (tVar i) t2 rSetL) gNil)))) tw) ρ w := fun H0 O σ H D e n r b c => by
  refine ha _ h H0 O σ H e _ fun v H2 d k2 o2 hd pd => ?_
  have e2 := e.kq k2 o2
  refine hb _ pd H0 O σ H2 e2 _ fun u H3 d' k3 o3 hd' pd' => ?_
  have e3 := e2.kq k3 o3
  refine ⟨by show 2 ≤ sizeLine; decide, fun l nl => ?_⟩
  have kn : Kp H3 (upd H3 l (.tup [v, u])) := Kq.new nl
  have e4 := e3.kp kn
  have hv := (hd.kq k3 so_z).kp kn
  have hu := hd'.kp kn
  refine ⟨l, [v, u], rfl, .inl (.inl upd_same), rfl, v, [u], rfl, ?_⟩
  generalize upd H3 l (.tup [v, u]) = H4 at *
  obtain ⟨a, vs, as, q1, ea, _⟩ := e4.root (bs := []) hi (Kq.refl H4) e4.ok (by simp) (by simp)
  refine ⟨_, q1, hx _ pd' H0 O σ H4 e4 _ fun xi H5 dx k5 o5 hdx px => ?_⟩
  obtain ⟨ii, n1, rfl, hn1, px⟩ := ixD_inv px
  cases hdx
  have e0 : (fun a => O a ∨ a ∈ ([] : List Addr)) = O := funext fun a => propext ⟨fun z => z.elim id (by simp), .inl⟩
  obtain ⟨a', vs', as', q1', ea', ea5, r5, na, hO, nb, nab, fin⟩ := e4.root (bs := []) hi k5 o5 (by simp) (by simp)
  rw [q1] at q1'
  cases q1'
  rw [ea] at ea'
  cases ea'
  obtain ⟨rfl, rd⟩ := OwL.dats_inv r5
  have setDv : ∀ {S : Addr → Prop} {H : Hp} {vs : List V} {ds : List PyData} {v : V} {d : PyData} (m : Nat), Dv S H v d → DvL S H vs ds → DvL S H (vs.set m v) (ds.set m d) := by
    intro S H vs ds v d m hd h
    induction ds generalizing vs m with
    | nil => cases h; exact .nil
    | cons x ds ih =>
      cases h with
      | cons h1 h2 =>
        cases m with
        | zero => exact .cons hd h2
        | succ m => exact .cons h1 (ih m h2)
  have upS : ∀ {v : V} {d : PyData} {H : Hp}, Dv (SO p O) H v d → Dv (fun a => SO p O a ∨ a ∈ ([] : List Addr)) H v d := fun h => h.map (fun a n _ z => z.elim n (by simp)) fun _ _ _ e _ => e
  have hv5 := hv.kq k5 so_z
  have hu5 := hu.kq k5 so_z
  have ef := fin (vs.set n1 v) ((ds.set n1 d).map .dat) [] (OwL.dats (setDv n1 (upS hv5) rd)) (by simp)
  rw [e0] at ef
  have hu6 : Dv (SO p O) (upd H5 a (.lst (vs.set n1 v))) u d' := hu5.map (fun _ n _ => n) fun x o n eo _ => by rw [upd_ne fun y => n (.inr (by rw [y]; exact hO))]; exact eo
  refine ⟨a, vs, ii, n1, rfl, rfl, ea5, by rw [rd.length]; exact hn1, u, [], rfl, ?_⟩
  generalize hH6 : upd H5 a (.lst (vs.set n1 v)) = H6 at *
  have ea6 : H6 a = some (.lst (vs.set n1 v)) := by rw [← hH6]; exact upd_same
  refine ⟨_, q1, hy _ _ px H0 O σ H6 ef _ fun yi H7 dy k7 o7 hdy py => ?_⟩
  obtain ⟨jj, n2, rfl, hn2, py⟩ := ixD_inv py
  cases hdy
  have hlen : i < ρ.length := (List.getElem?_eq_some_iff.mp hi).1
  have hi' : (ρ.set i (some (.own (oL (ds.set n1 d)))))[i]? = some (some (.own (oL (ds.set n1 d)))) := List.getElem?_set_self hlen
  obtain ⟨a', vs', as', q1', ea', ea7, r7, na7, hO7, nb7, nab7, fin7⟩ := ef.root (bs := []) hi' k7 o7 (by simp) (by simp)
  rw [q1] at q1'
  cases q1'
  rw [ea6] at ea'
  cases ea'
  obtain ⟨rfl, rd7⟩ := OwL.dats_inv r7
  have hu7 := hu6.kq k7 so_z
  have ef7 := fin7 ((vs.set n1 v).set n2 u) (((ds.set n1 d).set n2 d').map .dat) [] (OwL.dats (setDv n2 (upS hu7) rd7)) (by simp)
  rw [e0] at ef7
  refine ⟨a, _, jj, n2, rfl, rfl, ea7, by rw [rd7.length, List.length_set]; exact hn2, rfl, ?_⟩
  refine k _ py H0 O σ _ D ?_ n r b c
  rw [List.set_set] at ef7
  exact ef7
end
end Kz
set_option Elab.async false
set_option linter.all false
set_option maxRecDepth 100000
set_option maxHeartbeats 4000000
/-! Kz: what defs promise, in terms of what is wanted; calls; the deck -/
namespace Kz
open PySem PySem.Spec PyProof.Rows L2
variable [GT]

/-! ### promises -/
def pureM (Ts : List Addr) (n : Nat) (m : List PyData → W PyData) : Sp := fun vs H Q _ => vs.length = n ∧ ∃ (S : Addr → Prop) (ds : List PyData) (P : PyData → Prop),
  (∀ a, S a → ∃ o, H a = some o ∧ NT o) ∧ (∀ T ∈ Ts, TabH H T) ∧ DvL S H vs ds ∧ m ds P ∧ ∀ v H' d, Kp H H' → Dv S H' v d → P d → Q v H'
abbrev kC : Key := .inr "cells"
abbrev kM : Key := .inr "mixed"
def DkOk (nm : Str) (dk cl : Addr) (H : Hp) : Prop := ∃ (ns : List Int) (m d : Int), H dk = some (.dK [(kC, .ref cl), (kM, .int m), (.inr nm, .int d)]) ∧ H cl = some (.lst (ns.map .int)) ∧ ns.length ≤ 64
def Zd (dk cl : Addr) : Addr → Prop := fun a => a = dk ∨ a = cl
def dPm (nm : Str) (S : Addr → Prop) (dk cl : Addr) (h1 : S dk) (h2 : S cl) (Ts : List Addr) : Pm := ⟨S, Zd dk cl, DkOk nm dk cl, Ts, fun a z => z.elim (fun e => e ▸ h1) (fun e => e ▸ h2),
  fun H H' ⟨ns, m, d, e1, e2, l⟩ hk => ⟨ns, m, d, by rw [hk dk h1]; exact e1, by rw [hk cl h2]; exact e2, l⟩⟩
/-- a def with the deck as its first parameter -/
def deckM (nm : Str) (Ts : List Addr) (n : Nat) (m : List PyData → W PyData) : Sp := fun vs H Q _ => ∃ (dk cl : Addr) (ws : List V) (ds : List PyData) (P : PyData → Prop), vs = .ref dk :: ws ∧ ws.length = n ∧
  ∃ (S : Addr → Prop) (h1 : S dk) (h2 : S cl), Ok (dPm nm S dk cl h1 h2 Ts) H ∧ DvL S H ws ds ∧ m ds P ∧ ∀ v H' d, Kq (Zd dk cl) H H' → Ok (dPm nm S dk cl h1 h2 Ts) H' → Dv S H' v d → P d → Q v H'
def startR (N : List Str) (ds : List PyData) : Rho := ds.map (fun d => some (.dat d)) ++ List.replicate (N.length - ds.length) none
def startD (N : List Str) (dk : Addr) (ds : List PyData) : Rho := some (.raw (.ref dk)) :: ds.map (fun d => some (.dat d)) ++ List.replicate (N.length - (ds.length + 1)) none
/-- a def that only reckons, by its body -/
def pPm (S : Addr → Prop) (Ts : List Addr) : Pm := ⟨S, Z0, fun _ => True, Ts, fun _ h => h.elim, fun _ _ _ _ => trivial⟩
theorem start_get {N : List Str} {vs : List V} {ds : List PyData} {S : Addr → Prop} {H : Hp} (h : DvL S H vs ds) : ∀ (i : Nat) (s : Sl), (startR N ds)[i]? = some (some s) → ∃ d v, s = .dat d ∧ (start N vs)[i]? = some (some v) ∧ Dv S H v d := by
  intro i s hs
  unfold startR at hs
  unfold L2.start
  by_cases hi : i < ds.length
  · rw [List.getElem?_append_left (by rw [List.length_map]; exact hi), List.getElem?_map] at hs
    obtain ⟨d, hd, e⟩ := Option.map_eq_some_iff.mp hs
    cases e
    obtain ⟨v, hv, dv⟩ := h.getD hd
    refine ⟨d, v, rfl, ?_, dv⟩
    rw [List.getElem?_append_left (by rw [List.length_map, h.length]; exact hi), List.getElem?_map, hv]
    rfl
  · rw [List.getElem?_append_right (by rw [List.length_map]; omega), List.getElem?_replicate] at hs
    split at hs <;> cases hs
section
variable {P : Program} {w : World} {K : PySem.W.Frag} {mg : Str → Option Value} {base : Heap}
theorem pure_body {N ps : List Str} {n : Nat} {Ts : List Addr} {m : List PyData → W PyData} {t : TS} {vs : List V} {H : Hp} {Q : VK} {E : XK} (hn : n ≤ N.length)
    (h : pureM Ts n m vs H Q E) (hb : ∀ (p : Pm) (ds : List PyData) (R : PyData → Prop), (∀ P ∈ Ts, P ∈ p.Ts) → ds.length = n → m ds R → Rn p t (startR N ds) { N := fun _ => R .none, R := R }) :
    t { nx := fun _ H' => Q .non H', rt := Q } (start N vs) H := by
  obtain ⟨hl, S, ds, R, tr, tb, hd, hp, q⟩ := h
  have hz : ∀ a : Addr, ¬ ZO (pPm S Ts) (fun _ => False) a := fun a z => z.elim (fun z => z) (fun z => z)
  refine hb (pPm S Ts) ds R (fun _ h => h) (by rw [← hd.length]; exact hl) hp ⟨H, fun _ => False⟩ (fun _ => False) _ H _ ⟨Kq.refl H, ⟨tr, tb, trivial⟩, fun a h => h.elim, ⟨fun _ => [], fun i s hs => ?_, fun i j t u a _ h1 => ?_⟩, ?_⟩
    (fun O' σ' H' ρ' e pn => q .non H' .none (e.fr.mono fun a z => (hz a z).elim) .non pn) (fun v d H' k o hv pr => q v H' d (k.mono fun a z => (hz a z).elim) hv pr) (fun _ _ _ _ _ z => False.elim z) (fun _ _ _ _ _ z => False.elim z)
  · obtain ⟨d, v, rfl, h1, h2⟩ := start_get (N := N) hd i s hs
    exact ⟨v, h1, h2.map (fun a n _ z => z.elim n fun z => z) fun _ _ _ e _ => e⟩
  · obtain ⟨d, v, z, _⟩ := start_get (N := N) hd i _ h1
    cases z
  · unfold L2.start startR
    rw [List.length_append, List.length_append, List.length_map, List.length_map, List.length_replicate, List.length_replicate, hd.length]
theorem ok_pureM {x qual : Str} {st : Stmt} {f : Addr} {fd : FuncData} {N ps : List Str} {k n : Nat} {Ts : List Addr} {m : List PyData → W PyData} (F : Fun K x qual st f fd) (Sc : FnScope N ps (defScope st)) (hps : ps.length = n) (hn : n ≤ N.length)
    (hb : ∀ (cdv : Value) (A : Around) (outer : List PySem.Env) (s : Shared) (H : Hp) (E : XK), Room k (A.deeper (envOfC qual (defScope st) s.heap.objs.size f cdv)) →
      ∃ t, PSs (cxOf CX0 P w K mg base N qual (defScope st) f cdv A outer s H E).nox (defBody st) t ∧
        ∀ (p : Pm) (ds : List PyData) (R : PyData → Prop), (∀ P ∈ Ts, P ∈ p.Ts) → ds.length = n → m ds R → Rn p t (startR N ds) { N := fun _ => R .none, R := R }) : FnOk P w K mg base CX0 (k + 1) f fd ps (pureM Ts n m) := by
  refine F.ok Sc (fun vs H Q E h => by rw [h.1, hps]) (fun cdv A outer s H vs Q E hr h => ?_)
  obtain ⟨t, ht, hR⟩ := hb cdv A outer s H E hr
  exact ⟨t, ht, pure_body (ps := ps) hn h hR⟩
/-- .. with what repr wants -/
theorem ok_pureMG {x qual : Str} {st : Stmt} {f : Addr} {fd : FuncData} {N ps : List Str} {k n : Nat} {Ts : List Addr} {m : List PyData → W PyData} (F : Fun K x qual st f fd) (Sc : FnScope N ps (defScope st)) (hps : ps.length = n) (hn : n ≤ N.length)
    (hb : ∀ (cdv : Value) (A : Around) (outer : List PySem.Env) (s : Shared) (H : Hp), Room k (A.deeper (envOfC qual (defScope st) s.heap.objs.size f cdv)) → (A.deeper (envOfC qual (defScope st) s.heap.objs.size f cdv)).guards = some [] →
      ∃ t, PSs (cxOf CX0 P w K mg base N qual (defScope st) f cdv A outer s H E0).nox (defBody st) t ∧
        ∀ (p : Pm) (ds : List PyData) (R : PyData → Prop), (∀ P ∈ Ts, P ∈ p.Ts) → ds.length = n → m ds R → Rn p t (startR N ds) { N := fun _ => R .none, R := R }) : FnG P w K mg base (k + 1) f fd ps (pureM Ts n m) := by
  refine fng_of F Sc (fun vs H Q E h => by rw [h.1, hps]) fun cdv A outer s H vs Q hr hG h => ?_
  obtain ⟨t, ht, hR⟩ := hb cdv A outer s H hr hG
  exact ⟨t, ht, pure_body (ps := ps) hn h hR⟩
/-- a def whose code object is the one at c -/
structure FunC (K : PySem.W.Frag) (x qual : Str) (st : Stmt) (f : Addr) (fd : FuncData) (c : Addr) : Prop where
  ex : ∃ (oc : Value) (od : Option Addr) (kV doc pm : Value) (an : Option Addr) (ct : Value) (osl : Array (Option Value)),
    fd = PySem.W.fnOf x qual (defArgs st) (defBody st) (defScope st) .none kV doc pm an (.ref c) ct ∧ K.lookup f = some ⟨oc, od, .func fd, osl⟩ ∧ PySem.W.codeIn K (.ref c) qual = true
  kp : PySem.W.keepIn K (.ref f) = true
theorem FunC.fn {x qual : Str} {st : Stmt} {f c : Addr} {fd : FuncData} (F : FunC K x qual st f fd c) : Fun K x qual st f fd :=
  ⟨let ⟨oc, od, kV, doc, pm, an, ct, osl, h1, h2, h3⟩ := F.ex; ⟨oc, od, kV, doc, pm, an, _, ct, osl, h1, h2, h3⟩, F.kp⟩
theorem ok_pureMC {x qual : Str} {st : Stmt} {f c : Addr} {fd : FuncData} {N ps : List Str} {k n : Nat} {Ts : List Addr} {m : List PyData → W PyData} (F : FunC K x qual st f fd c) (Sc : FnScope N ps (defScope st)) (hps : ps.length = n) (hn : n ≤ N.length)
    (hb : ∀ (A : Around) (outer : List PySem.Env) (s : Shared) (H : Hp) (E : XK), Room k (A.deeper (envOfC qual (defScope st) s.heap.objs.size f (.ref c))) →
      ∃ t, PSs (cxOf CX0 P w K mg base N qual (defScope st) f (.ref c) A outer s H E).nox (defBody st) t ∧
        ∀ (p : Pm) (ds : List PyData) (R : PyData → Prop), (∀ P ∈ Ts, P ∈ p.Ts) → ds.length = n → m ds R → Rn p t (startR N ds) { N := fun _ => R .none, R := R }) : FnOk P w K mg base CX0 (k + 1) f fd ps (pureM Ts n m) := by
  obtain ⟨oc, od, kV, doc, pm, an, ct, osl, rfl, lk, hcd⟩ := F.ex
  refine fn_of lk hcd Sc (fun vs H Q E h => by rw [h.1, hps]) fun A outer s H vs Q E hr h => ?_
  obtain ⟨t, ht, hR⟩ := hb A outer s H E hr
  exact ⟨t, ht.nox, pure_body (ps := ps) hn h hR⟩
theorem deck_body {nm : Str} {N : List Str} {n : Nat} {Ts : List Addr} {m : List PyData → W PyData} {t : TS} {vs : List V} {H : Hp} {Q : VK} {E : XK} (hn : n + 1 ≤ N.length)
    (h : deckM nm Ts n m vs H Q E) (hR : ∀ (S : Addr → Prop) (dk cl : Addr) (h1 : S dk) (h2 : S cl) (ds : List PyData) (R : PyData → Prop), ds.length = n → m ds R → Rn (dPm nm S dk cl h1 h2 Ts) t (startD N dk ds) { N := fun _ => R .none, R := R }) :
    t { nx := fun _ H' => Q .non H', rt := Q } (start N vs) H := by
  obtain ⟨dk, cl, ws, ds, R, rfl, hl, S, h1, h2, o, hd, hm, q⟩ := h
  have hz : ∀ a : Addr, ZO (dPm nm S dk cl h1 h2 Ts) (fun _ => False) a → Zd dk cl a := fun a z => z.elim (fun z => z) (fun z => z.elim)
  have hlen : ds.length = n := by rw [← hd.length]; exact hl
  have hs0 : ∀ (i : Nat) (s : Sl), (startD N dk ds)[i + 1]? = some (some s) → (startR (List.replicate (N.length - 1) default) ds)[i]? = some (some s) := fun i s hs => by
    unfold startR
    rw [List.length_replicate]
    have e : N.length - 1 - ds.length = N.length - (ds.length + 1) := by omega
    rw [e]
    exact hs
  refine hR S dk cl h1 h2 ds R hlen hm ⟨H, fun _ => False⟩ (fun _ => False) _ H _ ⟨Kq.refl H, o, fun a h => h.elim, ⟨fun _ => [], fun i s hs => ?_, fun i j t u a _ h1 => ?_⟩, ?_⟩
    (fun O' σ' H' ρ' e pn => q .non H' .none (e.fr.mono hz) e.ok .non pn) (fun v d H' k o hv pr => q v H' d (k.mono hz) o hv pr) (fun _ _ _ _ _ z => False.elim z) (fun _ _ _ _ _ z => False.elim z)
  · cases i with
    | zero => cases hs; rfl
    | succ i =>
      obtain ⟨d, v, rfl, g1, g2⟩ := start_get (N := List.replicate (N.length - 1) default) hd i s (hs0 i s hs)
      refine ⟨v, ?_, g2.map (fun a n _ z => z.elim n fun z => z) fun _ _ _ e _ => e⟩
      unfold L2.start at g1 ⊢
      rw [List.length_replicate] at g1
      rw [List.length_cons]
      have e : N.length - 1 - ws.length = N.length - (ws.length + 1) := by omega
      rw [← e]
      exact g1
  · cases i with
    | zero => cases h1
    | succ i =>
      obtain ⟨d, v, z, _⟩ := start_get (N := List.replicate (N.length - 1) default) hd i _ (hs0 i _ h1)
      cases z
  · unfold L2.start startD
    simp [hl, hlen]
theorem deck_len {nm : Str} {n : Nat} {Ts : List Addr} {m : List PyData → W PyData} {vs : List V} {H : Hp} {Q : VK} {E : XK} (h : deckM nm Ts n m vs H Q E) : vs.length = n + 1 := by
  obtain ⟨dk, cl, ws, ds, R, rfl, hl, _⟩ := h
  rw [List.length_cons, hl]
theorem ok_deckM {nm : Str} {x qual : Str} {st : Stmt} {f : Addr} {fd : FuncData} {N ps : List Str} {k n : Nat} {Ts : List Addr} {m : List PyData → W PyData} (F : Fun K x qual st f fd) (Sc : FnScope N ps (defScope st)) (hps : ps.length = n + 1) (hn : n + 1 ≤ N.length)
    (hb : ∀ (cdv : Value) (A : Around) (outer : List PySem.Env) (s : Shared) (H : Hp) (E : XK), Room k (A.deeper (envOfC qual (defScope st) s.heap.objs.size f cdv)) →
      ∃ t, PSs (cxOf CX0 P w K mg base N qual (defScope st) f cdv A outer s H E).nox (defBody st) t ∧
        ∀ (S : Addr → Prop) (dk cl : Addr) (h1 : S dk) (h2 : S cl) (ds : List PyData) (R : PyData → Prop), ds.length = n → m ds R → Rn (dPm nm S dk cl h1 h2 Ts) t (startD N dk ds) { N := fun _ => R .none, R := R }) : FnOk P w K mg base CX0 (k + 1) f fd ps (deckM nm Ts n m) := by
  refine F.ok Sc (fun vs H Q E h => by rw [deck_len h, hps]) (fun cdv A outer s H vs Q E hr h => ?_)
  obtain ⟨t, ht, hR⟩ := hb cdv A outer s H E hr
  exact ⟨t, ht, deck_body hn h hR⟩
theorem ok_deckMG {nm : Str} {x qual : Str} {st : Stmt} {f : Addr} {fd : FuncData} {N ps : List Str} {k n : Nat} {Ts : List Addr} {m : List PyData → W PyData} (F : Fun K x qual st f fd) (Sc : FnScope N ps (defScope st)) (hps : ps.length = n + 1) (hn : n + 1 ≤ N.length)
    (hb : ∀ (cdv : Value) (A : Around) (outer : List PySem.Env) (s : Shared) (H : Hp), Room k (A.deeper (envOfC qual (defScope st) s.heap.objs.size f cdv)) → (A.deeper (envOfC qual (defScope st) s.heap.objs.size f cdv)).guards = some [] →
      ∃ t, PSs (cxOf CX0 P w K mg base N qual (defScope st) f cdv A outer s H E0).nox (defBody st) t ∧
        ∀ (S : Addr → Prop) (dk cl : Addr) (h1 : S dk) (h2 : S cl) (ds : List PyData) (R : PyData → Prop), ds.length = n → m ds R → Rn (dPm nm S dk cl h1 h2 Ts) t (startD N dk ds) { N := fun _ => R .none, R := R }) : FnG P w K mg base (k + 1) f fd ps (deckM nm Ts n m) := by
  refine fng_of F Sc (fun vs H Q E h => by rw [deck_len h, hps]) fun cdv A outer s H vs Q hr hG h => ?_
  obtain ⟨t, ht, hR⟩ := hb cdv A outer s H hr hG
  exact ⟨t, ht, deck_body hn h hR⟩
end

/-! ### calls -/
section
variable {p : Pm} {ρ : Rho} {ta tb tc te : TE} {tt : TT} {K : PySem.W.Frag}
theorem em_call {Ts : List Addr} {n : Nat} {mf : List PyData → W PyData} {ma : W (List PyData)} {E : XK} {t : TA} (hT : ∀ T ∈ Ts, T ∈ p.Ts) (L : ∀ ds P, mf ds P → ds.length = n) (h : EA p t ρ ma) : EM p (tCall (pureM Ts n mf) [] E t) ρ (fun P => ma fun ds => mf ds P) := fun P hp H0 O σ H e Q q => by
  refine h _ hp H0 O σ H e _ fun vs H2 ds k2 o2 hd pd => ?_
  have e2 := e.kq k2 o2
  exact ⟨by rw [List.append_nil, hd.length]; exact L _ _ pd, SO p O, ds, P, so_trk e2, fun T m => o2.tb T (hT T m), by rw [List.append_nil]; exact hd, pd, fun v H3 d k3 hv hp => q v H3 d (k2.trans k3.up) (o2.kp k3) hv hp⟩
/-- keywords: the values in the parameters' order; a of them by position -/
def perm {α : Type} (z : α) (a : Nat) (ix : List Nat) (us ws : List α) : List α := if us.length = a ∧ a + ws.length = ix.length then ix.map fun i => (us ++ ws).getD i z else []
theorem perm_dv {S : Addr → Prop} {H : Hp} {a : Nat} {ix : List Nat} {vs zs : List V} {ds es : List PyData} (h : DvL S H vs ds) (k : DvL S H zs es) : DvL S H (perm .non a ix vs zs) (perm .none a ix ds es) := by
  have hk := h.append k
  have hl := hk.length
  unfold perm
  rw [← h.length, ← k.length]
  split
  · rename_i hc; clear hc
    induction ix with
    | nil => exact .nil
    | cons i ix ih =>
      refine .cons ?_ ih
      dsimp only
      rw [List.getD_eq_getElem?_getD, List.getD_eq_getElem?_getD]
      by_cases hi : i < (ds ++ es).length
      · obtain ⟨v, hv, dv⟩ := hk.getD (List.getElem?_eq_getElem hi)
        rw [hv, List.getElem?_eq_getElem hi]
        exact dv
      · rw [List.getElem?_eq_none (by omega), List.getElem?_eq_none (by omega)]
        exact .non
  · exact .nil
theorem perm_vals {a : Nat} {ix : List Nat} {vs zs : List V} {us ws : List Value} (h : Vals vs us) (k : Vals zs ws) : Vals (perm .non a ix vs zs) (perm .none a ix us ws) := by
  have hk := h.append k
  have hl := hk.length
  unfold perm
  rw [← h.length, ← k.length]
  split
  · rename_i hc; clear hc
    induction ix with
    | nil => exact .nil
    | cons i ix ih =>
      refine .cons ?_ ih
      dsimp only
      rw [List.getD_eq_getElem?_getD, List.getD_eq_getElem?_getD]
      by_cases hi : i < (vs ++ zs).length
      · obtain ⟨u, hu, r⟩ := hk.get (List.getElem?_eq_getElem hi)
        rw [hu, List.getElem?_eq_getElem hi]
        exact r
      · rw [List.getElem?_eq_none (by omega), List.getElem?_eq_none (by omega)]
        rfl
  · exact .nil
theorem kb_mk {fd : FuncData} {ps ks : List Str} {a : Nat} {ix : List Nat} (h0 : ps.length = ix.length) (hp : 0 < ix.length) (h2 : ∀ (s : Shared) (us ws : List Value), us.length = a → a + ws.length = ix.length → BindsTo s fd ⟨us, ks.zip ws⟩ (ps.zip (ix.map fun i => (us ++ ws).getD i .none))) : KBinds K fd ps ks (perm .none a ix) (perm .non a ix) :=
  ⟨fun s us ws _ hl => by
    unfold perm at hl ⊢
    split at hl
    · next hc => rw [if_pos hc]; exact h2 s us ws hc.1 hc.2
    · simp at hl; omega, fun r z => perm_vals r z⟩
theorem em_callK {Ts : List Addr} {n a : Nat} {mf : List PyData → W PyData} {ma mk : W (List PyData)} {ix : List Nat} {E : XK} {t tk : TA} (hT : ∀ T ∈ Ts, T ∈ p.Ts) (L : ∀ ds P, mf ds P → ds.length = n) (h : EA p t ρ ma) (k : EA p tk ρ mk) : EM p (tCallK (pureM Ts n mf) (perm .non a ix) E t tk) ρ (fun P => ma fun ds => mk fun es => mf (perm .none a ix ds es) P) := fun P hp H0 O σ H e Q q => by
  refine h _ hp H0 O σ H e _ fun vs H2 ds k2 o2 hd pd => ?_
  have e2 := e.kq k2 o2
  refine k _ pd H0 O σ H2 e2 _ fun zs H3 es k3 o3 hz pz => ?_
  have e3 := e2.kq k3 o3
  have hp := perm_dv (a := a) (ix := ix) (hd.kq k3 so_z) hz
  exact ⟨by rw [hp.length]; exact L _ _ pz, SO p O, _, P, so_trk e3, fun T m => o3.tb T (hT T m), hp, pz, fun v H4 d k4 hv hp => q v H4 d ((k2.trans k3).trans k4.up) (o3.kp k4) hv hp⟩
/-- all(.. for ..) -/
def allGW (g : PyData → W PyData) : List PyData → W PyData
  | [], P => P (.bool true)
  | d :: ds, P => g d fun r => boolW r fun b => cW b (allGW g ds P) (P (.bool false))
theorem em_allG {T : Addr} {wi : TI} {g : TG} {vs : List Nat} {mi : W (List PyData)} (G : PyData → W PyData) (hT : T ∈ p.Ts ∧ GT.g T) (hi : EI p wi ρ mi) (hs : ∀ d K', G d K' → ∃ (ts : List Nat) (ρ' : Rho), (∀ i ∈ ts, i ∈ vs) ∧ Tg p g ts (wipeR ρ vs) d ρ' ∧ Ex p te ρ' K') :
    EM p (Gz.tGen true T wi g tYes te vs) ρ (fun P => mi fun ds => allGW G ds P) := fun P hp H0 O σ H e Q q => by
  refine hi _ hp H0 O σ H e _ fun J H1 ds k1 o1 pi w => ?_
  have e1 := e.kq k1 o1
  refine ⟨(o1.tb T hT.1).gen hT.2, fun H2 ht => ?_⟩
  have kt : Kp H1 H2 := Kq.tbl ht ((o1.tb T hT.1).gen hT.2) hT.2
  have hwi : wipe (wipe σ vs) vs = wipe σ vs := wipe_ext (wipe_length _ _) fun i hi => wipe_off σ hi
  refine ⟨fun i m H' => m = ds.length - i ∧ i ≤ ds.length ∧ Kq p.Z H1 H' ∧ Ok p H' ∧ allGW G (ds.drop i) P, ⟨ds.length, by simp, Nat.zero_le _, kt.up, o1.kp kt, pi⟩, ?_⟩
  rintro i m H' ⟨rfl, hil, k', o', iv⟩
  have el := (e1.wipe vs).kq k' o'
  have l : Lat p O H1 O H' := ⟨k'.mono fun _ z => .inl z, fun _ h => .inl h, o', fun a h => ((e1.kq k' o').ow a h).2.2⟩
  by_cases hlt : i < ds.length
  · refine .inr ⟨w.go _ H' i l hlt, fun H'' => i < ds.length ∧ Kq p.Z H1 H'' ∧ Ok p H'' ∧ allGW G (ds.drop (i + 1)) P, fun H'' s => ⟨ds.length - (i + 1), by omega, rfl, s.1, s.2⟩, fun x H3 y => ?_⟩
    have hdi : ds[i]? = some ds[i] := List.getElem?_eq_getElem hlt
    obtain ⟨k3, hx⟩ := w.yld _ H' i x H3 ds[i] l hdi y
    rw [List.drop_eq_getElem_cons hlt] at iv
    obtain ⟨ts, ρ', hts, tg, he⟩ := hs ds[i] _ iv
    refine tg H0 _ _ H3 x (el.kp k3) hx _ fun σ4 e4 wp => ⟨by rw [wp vs hts]; exact hwi, ?_⟩
    dsimp only [tYes]
    rw [if_pos rfl]
    refine he H0 O σ4 H3 e4 _ fun v H5 f' k5 o5 hv hf => ?_
    cases f' with
    | bool b =>
      cases hv
      refine ⟨b, rfl, ?_⟩
      cases b with
      | true => rw [if_pos rfl]; exact ⟨hlt, (k'.trans k3.up).trans k5, o5, hf⟩
      | false => rw [if_neg (by decide)]; exact q _ H5 (.bool false) ((k1.trans k').trans (k3.up.trans k5)) o5 (.bl _) hf
    | _ => exact hf.elim
  · have he : i = ds.length := by omega
    subst he
    rw [List.drop_length] at iv
    exact .inl ⟨w.stop _ H' l, q _ H' _ (k1.trans k') o' (.bl true) iv⟩
end
section
variable {nm : Str} {S : Addr → Prop} {dk cl : Addr} {h1 : S dk} {h2 : S cl} {Ts' : List Addr} {ρ : Rho}
theorem em_callD {Ts : List Addr} {n i : Nat} {mf : List PyData → W PyData} {ma : W (List PyData)} {E : XK} {t : TA} (hT : ∀ P ∈ Ts, P ∈ Ts') (L : ∀ ds P, mf ds P → ds.length = n) (hd : ρ[i]? = some (some (.raw (.ref dk)))) (h : EA (dPm nm S dk cl h1 h2 Ts') t ρ ma) :
    EM (dPm nm S dk cl h1 h2 Ts') (tCall (deckM nm Ts n mf) [] E (tCons (tVar i) t)) ρ (fun P => ma fun ds => mf ds P) := fun P hp H0 O σ H e Q q => by
  refine er_var hd H0 O σ H e (fun x H1 => t σ H1 fun xs H2 => deckM nm Ts n mf ((x :: xs) ++ []) H2 Q E) fun H1 k1 o1 => ?_
  refine h _ hp H0 O σ H1 (e.kq k1 o1) _ fun ws H2 ds k2 o2 hws pd => ?_
  have e2 := (e.kq k1 o1).kq k2 o2
  refine ⟨dk, cl, ws, ds, P, by rw [List.append_nil], by rw [hws.length]; exact L _ _ pd, SO (dPm nm S dk cl h1 h2 Ts') O, .inl h1, .inl h2, ⟨so_trk e2, fun P hP => o2.tb P (hT P hP), o2.mm⟩, hws, pd, fun v H3 d k3 o3 hv hp => ?_⟩
  refine q v H3 d ((k1.trans k2).trans k3) ⟨fun a s => o3.tr a (.inl s), fun P hP => ?_, o3.mm⟩ hv hp
  exact k3.tab P (o2.tb P hP)
end
end Kz
set_option Elab.async false
set_option linter.all false
set_option maxRecDepth 100000
set_option maxHeartbeats 4000000
/-! Kz: contracts with a ghost, comprehensions item by item -/
namespace Kz
open PySem PySem.Spec PyProof.Rows L2
section

end
section
variable {P : Program} {w : World} {K : PySem.W.Frag} {mg : Str → Option Value} {base : Heap}
end
section

end
section
variable {X : Cx}
/-- a name that is stored -/
theorem gN (i : Nat) {x : Str} {pos : Pos} (hN : X.N.Nodup) (hi : X.N[i]? = some x := by rfl) (hx : Loc X.env.scope x := by first | exact Or.inl rfl | exact Or.inr rfl) (hf : X.fn x = true ∨ X.env.scope.names.lookup x = some .local := by first | exact .inl rfl | exact .inr rfl) : PG X (.Name x pos) (gName i) := pg_name hN hi hx hf
theorem gP (i j : Nat) {x y : Str} {p1 p2 pos : Pos} {k : Nat} (hc : X.calm = true) (hN : X.N.Nodup) (hi : X.N[i]? = some x := by rfl) (hx : Loc X.env.scope x := by first | exact Or.inl rfl | exact Or.inr rfl) (hf : X.fn x = true ∨ X.env.scope.names.lookup x = some .local := by first | exact .inl rfl | exact .inr rfl)
    (hj : X.N[j]? = some y := by rfl) (hy : Loc X.env.scope y := by first | exact Or.inl rfl | exact Or.inr rfl) (hfy : X.fn y = true ∨ X.env.scope.names.lookup y = some .local := by first | exact .inl rfl | exact .inr rfl) : PG X (.Tuple [.Name x p1, .Name y p2] k pos) (gTup X.K 2 (gCons (gName i) (gCons (gName j) gNil))) :=
  pg_tup hc (pgs_cons (gN i hN hi hx hf) (pgs_cons (gN j hN hj hy hfy) pgs_nil))
end
section
variable {X : Cx} {e a b : Expr} {es : List Expr} {te ta tb : TE} {t : TA} {p pos apos : Pos}
/-! the same with the pinned objects named -/
theorem slA (K : PySem.W.Frag) (h : X.K = K := by rfl) : SlR X (rSlA K) := h ▸ sl_tupA
theorem opCat (K : PySem.W.Frag) (h : X.K = K := by rfl) : OpR X (binaryOp .Add) (rCatA K) := h ▸ op_catA
theorem ixT (K : PySem.W.Frag) (h : X.K = K := by rfl) : IxR X (rIxT K) := h ▸ ix_tup
theorem ixL (K : PySem.W.Frag) (h : X.K = K := by rfl) : IxR X (rIxL K) := h ▸ ix_list
theorem pTup' (K : PySem.W.Frag) (B : Bn X.mg) (h : PE X e te) (hK : X.K = K := by rfl) (hg : Gl X "tuple" := by rfl) (he : starEach [e] X.env = (false, eval e X.env) :: starEach [] X.env := by rfl) : PE X (.Call (.Name "tuple" p) [e] [] pos) (tCB (rTp K) (tCons te tNil)) := hK ▸ pTuple B h hg he
theorem pLen' (K : PySem.W.Frag) (B : Bn X.mg) (h : PE X e te) (hK : X.K = K := by rfl) (hg : Gl X "len" := by rfl) (he : starEach [e] X.env = (false, eval e X.env) :: starEach [] X.env := by rfl) : PE X (.Call (.Name "len" p) [e] [] pos) (tCB (rLn K) (tCons te tNil)) := hK ▸ pLen B h hg he
theorem pSum' (K : PySem.W.Frag) (B : Bn X.mg) (hc : X.calm = true) (h : PE X e te) (hK : X.K = K := by rfl) (hg : Gl X "sum" := by rfl) (he : starEach [e] X.env = (false, eval e X.env) :: starEach [] X.env := by rfl) : PE X (.Call (.Name "sum" p) [e] [] pos) (tCB (rSum K) (tCons te tNil)) := hK ▸ pSum B hc h hg he
theorem pMax' (K : PySem.W.Frag) (B : Bn X.mg) (hc : X.calm = true) (h : PE X e te) (hK : X.K = K := by rfl) (hg : Gl X "max" := by rfl) (he : starEach [e] X.env = (false, eval e X.env) :: starEach [] X.env := by rfl) : PE X (.Call (.Name "max" p) [e] [] pos) (tCB (rMax K) (tCons te tNil)) := hK ▸ pMax B hc h hg he
theorem pIsi' (K : PySem.W.Frag) (B : Bn X.mg) (h : PE X a ta) (k : PE X b tb) (hK : X.K = K := by rfl) (hg : Gl X "isinstance" := by rfl) (he : starEach [a, b] X.env = (false, eval a X.env) :: starEach [b] X.env := by rfl) (he2 : starEach [b] X.env = (false, eval b X.env) :: starEach [] X.env := by rfl)
    (hpl : (backTo pos (starEach [b] X.env)).any (·.1) = false := by rfl) : PE X (.Call (.Name "isinstance" p) [a, b] [] pos) (tCB (rIsi K) (tCons ta (tCons tb tNil))) := hK ▸ pIsi B h k hg he he2 hpl
theorem piT (K : PySem.W.Frag) {tg : Expr} (h : PE X e te) (hK : X.K = K := by rfl) : PI X tg e (iTup K te) := hK ▸ pi_tup h
theorem piL (K : PySem.W.Frag) {tg : Expr} (h : PE X e te) (hK : X.K = K := by rfl) : PI X tg e (iList K te) := hK ▸ pi_list h
theorem piZ (K : PySem.W.Frag) (B : Bn X.mg) {tpos : Pos} {elts : List Expr} {kk : Nat} (ha : PE X a ta) (hb : PE X b tb) (hK : X.K = K := by rfl) (hg : Gl X "zip" := by rfl) (hs : starEach [a, b] X.env = (false, eval a X.env) :: starEach [b] X.env := by rfl) (hs2 : starEach [b] X.env = (false, eval b X.env) :: starEach [] X.env := by rfl) (hpl : (backTo pos (starEach [b] X.env)).any (·.1) = false := by rfl) :
    PI X (.Tuple elts kk tpos) (.Call (.Name "zip" p) [a, b] [] pos) (RZ.iZipA K (tCons ta (tCons tb tNil))) := hK ▸ RZ.pi_zipA hg B.zip (pa_cons ha (pa_cons hb pa_nil hs2) hs) hs hpl
theorem gP' (K : PySem.W.Frag) (i j : Nat) {x y : Str} {p1 p2 pos : Pos} {k : Nat} (hc : X.calm = true) (hN : X.N.Nodup) (hK : X.K = K := by rfl) (hi : X.N[i]? = some x := by rfl) (hx : Loc X.env.scope x := by first | exact Or.inl rfl | exact Or.inr rfl) (hf : X.fn x = true ∨ X.env.scope.names.lookup x = some .local := by first | exact .inl rfl | exact .inr rfl)
    (hj : X.N[j]? = some y := by rfl) (hy : Loc X.env.scope y := by first | exact Or.inl rfl | exact Or.inr rfl) (hfy : X.fn y = true ∨ X.env.scope.names.lookup y = some .local := by first | exact .inl rfl | exact .inr rfl) : PG X (.Tuple [.Name x p1, .Name y p2] k pos) (gTup K 2 (gCons (gName i) (gCons (gName j) gNil))) :=
  hK ▸ gP i j hc hN hi hx hf hj hy hfy
end
end Kz
set_option Elab.async false
set_option linter.all false
set_option maxRecDepth 100000
set_option maxHeartbeats 4000000
/-! Kz: statements as the maker prints them -/
namespace Kz
open PySem PySem.Spec PyProof.Rows L2
variable [GT]
def letW {α : Type} (m : W α) (K : α → Prop) : Prop := m K
/-! ### several values at once -/
structure EnA (p : Pm) (H0 : Bs) (O : Addr → Prop) (σ : L2.St) (H : Hp) (ρ : Rho) (ad : Nat → List Addr) : Prop where
  fr : Kq (ZO p H0.o) H0.h H
  ok : Ok p H
  ow : ∀ a, O a → (H0.o a ∨ H0.h a = none) ∧ ¬ p.S a ∧ ∃ o, H a = some o ∧ NT o
  g1 : ∀ (i : Nat) (s : Sl), ρ[i]? = some (some s) → Has p O σ H i (ad i) s
  g2 : ∀ (i j : Nat) (t u : Ot) (a : Addr), i ≠ j → ρ[i]? = some (some (.own t)) → ρ[j]? = some (some (.own u)) → a ∈ ad i → a ∉ ad j
  ln : σ.length = ρ.length
section
variable {p : Pm} {H0 : Bs} {H H' H2 : Hp} {O O' : Addr → Prop} {σ : L2.St} {ρ ρ' : Rho} {ad : Nat → List Addr}
theorem EnA.en (e : EnA p H0 O σ H ρ ad) : En p H0 O σ H ρ := ⟨e.fr, e.ok, e.ow, ⟨ad, e.g1, e.g2⟩, e.ln⟩
theorem En.a (e : En p H0 O σ H ρ) : ∃ ad, EnA p H0 O σ H ρ ad := let ⟨ad, g1, g2⟩ := e.sl; ⟨ad, e.fr, e.ok, e.ow, g1, g2, e.ln⟩
/-- new objects have come -/
theorem EnA.more (e : EnA p H0 O σ H ρ ad) (k2 : Kq p.Z H H2) (o2 : Ok p H2) {as : List Addr} (hm : ∀ a ∈ as, ∃ o, H2 a = some o ∧ Mut o) (hfr : ∀ a ∈ as, H a = none) :
    EnA p H0 (fun a => O a ∨ a ∈ as) σ H2 ρ ad ∧ ∀ (j : Nat) (u : Ot), ρ[j]? = some (some (.own u)) → ∀ a ∈ as, a ∉ ad j := by
  have e2 := e.en.kq k2 o2
  have hnO : ∀ a ∈ as, ¬ SO p O a := fun a m => fresh_so e.en (hfr a m)
  refine ⟨⟨e2.fr, o2, fun a z => ?_, fun j s hj => ?_, e.g2, e.ln⟩, fun j u hj a z m => ?_⟩
  · rcases z with z | z
    · exact e2.ow a z
    · refine ⟨.inr (e.fr.back (hfr a z)), fun y => hnO a z (.inl y), ?_⟩
      obtain ⟨o, q1, q2⟩ := hm a z
      exact ⟨o, q1, mut_nt q2⟩
  · refine (e.g1 j s hj).to (fun a n' t' z => ?_) (fun a z => .inl z) (fun a o n' q t' => k2.at_ a o (fun z => n' (so_z a z)) q t') fun a z _ o q t' => k2.at_ a o (fun y => (e.ow a z).2.1 (p.zs a y)) q t'
    rcases z with z | z | z
    · exact n' (.inl z)
    · exact n' (.inr z)
    · exact t' (hfr a z)
  · obtain ⟨x, q1, q2, q3⟩ := e.g1 j _ hj
    obtain ⟨o, h, _⟩ := ow_mut q2 a m
    rw [hfr a z] at h; cases h
/-- what a slot bears that stores the tree -/
def slO : Ot → Sl
  | .dat d => .dat d
  | .lst xs => .own (.lst xs)
  | .tup xs => .own (.tup xs)
  | .dk kvs => .own (.dk kvs)
theorem has_slO {i : Nat} {v : V} {t : Ot} {as : List Addr} (h1 : σ[i]? = some (some v)) (h : Ow (SO p O) H v t as) (hO : ∀ a ∈ as, O a) : Has p O σ H i as (slO t) := by
  cases t with
  | dat d => cases h with | dat h => exact ⟨v, h1, h⟩
  | lst xs => exact ⟨v, h1, h, hO⟩
  | tup xs => exact ⟨v, h1, h, hO⟩
  | dk xs => exact ⟨v, h1, h, hO⟩
theorem EnA.put (e : EnA p H0 O σ H ρ ad) {i : Nat} {v : V} {t : Ot} {as : List Addr} (h : Ow (SO p O) H v t as) (hO : ∀ a ∈ as, O a) (hn : ∀ (j : Nat) (u : Ot), ρ[j]? = some (some (.own u)) → i ≠ j → ∀ a ∈ as, a ∉ ad j) : EnA p H0 O (σ.set i (some v)) H (ρ.set i (some (slO t))) (fun j => if i = j then as else ad j) := by
  refine ⟨e.fr, e.ok, e.ow, fun j s hj => ?_, fun j l t1 u a n q1 q2 m => ?_, by rw [List.length_set, List.length_set, e.ln]⟩
  · by_cases z : i = j
    · subst z
      have hi : i < ρ.length := by
        have := (List.getElem?_eq_some_iff.mp hj).1
        rwa [List.length_set] at this
      rw [List.getElem?_set_self hi] at hj
      cases hj
      rw [if_pos rfl]
      exact has_slO (List.getElem?_set_self (by rw [e.ln]; exact hi)) h hO
    · rw [List.getElem?_set_ne z] at hj
      rw [if_neg z]
      exact (e.g1 j s hj).slot (List.getElem?_set_ne z)
  · by_cases z : i = j
    · subst z
      rw [if_pos rfl] at m
      rw [if_neg n]
      rw [List.getElem?_set_ne n] at q2
      exact hn l u q2 n a m
    · rw [if_neg z] at m
      rw [List.getElem?_set_ne z] at q1
      by_cases y : i = l
      · subst y
        rw [if_pos rfl]
        exact fun w => hn j t1 q1 z a w m
      · rw [if_neg y]
        rw [List.getElem?_set_ne y] at q2
        exact e.g2 j l t1 u a n q1 q2 m
def stS : List Nat → List V → L2.St → L2.St
  | i :: is, v :: vs, σ => stS is vs (σ.set i (some v))
  | _, _, σ => σ
def stR : List Nat → List Ot → Rho → Rho
  | i :: is, t :: ts, ρ => stR is ts (ρ.set i (some (slO t)))
  | _, _, ρ => ρ
theorem EnA.puts : ∀ {is : List Nat} {vs : List V} {ts : List Ot} {as : List Addr} {σ : L2.St} {ρ : Rho} {ad : Nat → List Addr}, EnA p H0 O σ H ρ ad → OwL (SO p O) H vs ts as → (∀ a ∈ as, O a) → (∀ (j : Nat) (u : Ot), ρ[j]? = some (some (.own u)) → ∀ a ∈ as, a ∉ ad j) → ∃ ad', EnA p H0 O (stS is vs σ) H (stR is ts ρ) ad' := by
  intro is
  induction is with
  | nil => intro vs ts as σ ρ ad e _ _ _; cases vs <;> cases ts <;> exact ⟨ad, e⟩
  | cons i is ih =>
    intro vs ts as σ ρ ad e h hO hn
    cases h with
    | nil => exact ⟨ad, e⟩
    | @cons v vs t ts as1 as2 h1 h2 hd =>
      refine ih (e.put (i := i) h1 (fun a m => hO a (List.mem_append_left _ m)) fun j u hj _ a m => hn j u hj a (List.mem_append_left _ m)) h2 (fun a m => hO a (List.mem_append_right _ m)) fun j u hj a m => ?_
      by_cases z : i = j
      · rw [if_pos z]
        exact fun y => hd a y m
      · rw [if_neg z]
        rw [List.getElem?_set_ne z] at hj
        exact hn j u hj a (List.mem_append_right _ m)
/-- a row of expressions, each giving a tree of its own or data -/
def EAO (p : Pm) (ta : TA) (ρ : Rho) (m : W (List Ot)) : Prop := ∀ P, m P → ∀ H0 O σ H, En p H0 O σ H ρ → ∀ Q : List V → Hp → Prop, (∀ vs H2 ts as, Kq p.Z H H2 → Ok p H2 → OwL (fun a => SO p O a ∨ a ∈ as) H2 vs ts as → (∀ a ∈ as, H a = none) → P ts → Q vs H2) → ta σ H Q
theorem eao_nil : EAO p tNil ρ (fun P => P []) := fun P hp H0 O σ H e Q q => q [] H [] [] (Kq.refl H) e.ok .nil (by simp) hp
theorem owl_mut {S : Addr → Prop} {H : Hp} : ∀ {vs : List V} {ts : List Ot} {as : List Addr}, OwL S H vs ts as → ∀ a ∈ as, ∃ o, H a = some o ∧ Mut o := by
  intro vs ts
  induction ts generalizing vs with
  | nil => intro as h; cases h; simp
  | cons t ts ih =>
    intro as h
    cases h with
    | cons h1 h2 n =>
      intro a m
      rcases List.mem_append.mp m with m | m
      · exact ow_mut h1 a m
      · exact ih h2 a m
theorem eao_cons {te : TE} {tr : TA} {mo : W Ot} {mr : W (List Ot)} (h : EO p te ρ mo) (k : EAO p tr ρ mr) : EAO p (tCons te tr) ρ (fun P => mo fun t => mr fun ts => P (t :: ts)) := fun P hp H0 O σ H e Q q => by
  refine h _ hp H0 O σ H e _ fun v H1 t as k1 o1 ht hf pt => ?_
  obtain ⟨ad, ea⟩ := e.a
  have e1 := (ea.more k1 o1 (ow_mut ht) hf).1.en
  refine k _ pt H0 _ σ H1 e1 _ fun vs H2 ts bs k2 o2 hts hb ps => ?_
  have nab : ∀ a ∈ as, a ∉ bs := fun a m z => by
    obtain ⟨o, q, _⟩ := ow_mut ht a m
    rw [hb a z] at q; cases q
  refine q (v :: vs) H2 (t :: ts) (as ++ bs) (k1.trans k2) o2 (.cons (ht.map (fun a n t z => ?_) (fun a o n q t => k2.at_ a o (fun z => n (.inl (so_z a z))) q t) _ _ _ fun a m o q t => k2.at_ a o (fun z => fresh_so e (hf a m) (so_z a z)) q t) (hts.map (fun a n t z => ?_) (fun _ _ _ e _ => e) _ _ _ fun _ _ _ e _ => e) nab) (fun a m => ?_) ps
  · rcases z with z | z
    · exact n (.inl z)
    · rcases List.mem_append.mp z with z | z
      · exact n (.inr z)
      · exact t (hb a z)
  · rcases z with z | z
    · rcases z with z | z
      · exact n (.inl (.inl z))
      · exact n (.inl (.inr (.inl z)))
    · rcases List.mem_append.mp z with z | z
      · exact n (.inl (.inr (.inr z)))
      · exact n (.inr z)
  · rcases List.mem_append.mp m with m | m
    · exact hf a m
    · exact k1.back (hb a m)
/-- a stored row -/
theorem EAO.store {ta : TA} {m : W (List Ot)} {P : List Ot → Prop} (h : EAO p ta ρ m) (hp : m P) (e : En p H0 O σ H ρ) (is : List Nat) {Q : List V → Hp → Prop} (q : ∀ vs H2 ts O', vs.length = ts.length → En p H0 O' (stS is vs σ) H2 (stR is ts ρ) → Kq p.Z H H2 → Ok p H2 → P ts → Q vs H2) : ta σ H Q :=
  h P hp H0 O σ H e Q fun vs H2 ts as k2 o2 hts hf ps => by
    obtain ⟨ad, ea⟩ := e.a
    obtain ⟨e1, nd⟩ := ea.more k2 o2 (owl_mut hts) hf
    obtain ⟨ad', e3⟩ := e1.puts (is := is) (ts := ts) (hts.map (S' := SO p fun a => O a ∨ a ∈ as) (H' := H2) (fun a n _ z => by
      rcases z with z | z | z
      · exact n (.inl (.inl z))
      · exact n (.inl (.inr z))
      · exact n (.inr z)) (fun _ _ _ e _ => e) _ _ _ fun _ _ _ e _ => e) (fun a m => .inr m) nd
    exact q vs H2 ts _ hts.length e3.en k2 o2 ps
end
/-! kinds of what a name bears -/
structure Kd (α : Type) where
  emb : α → Ot
  inj : ∀ x y, emb x = emb y → x = y
def kD : Kd PyData := ⟨.dat, fun _ _ h => by injection h⟩
def kL : Kd (List PyData) := ⟨oL, fun _ _ h => oL_inj h⟩
def kLL : Kd (List (List PyData)) := ⟨oLL, fun _ _ h => oLL_inj h⟩
theorem oDK_inj {r r' : List (Key × PyData)} (e : oDK r = oDK r') : r = r' := by
  injection e with e
  induction r generalizing r' with
  | nil => cases r' with
    | nil => rfl
    | cons => cases e
  | cons a r ih => cases r' with
    | nil => cases e
    | cons b r' =>
      simp only [List.map_cons] at e
      injection e with e1 e2
      rw [ih e2]
      obtain ⟨a1, a2⟩ := a
      obtain ⟨b1, b2⟩ := b
      injection e1 with e1 e3
      injection e3 with e3
      rw [show a1 = b1 from e1, show a2 = b2 from e3]
def kDK : Kd (List (Key × PyData)) := ⟨oDK, fun _ _ h => oDK_inj h⟩
def EK {α : Type} (k : Kd α) (p : Pm) (te : TE) (ρ : Rho) (m : W α) : Prop := EO p te ρ (fun P => m fun x => P (k.emb x))
section
variable {p : Pm} {ρ : Rho} {ta tb tc td te : TE} {w : Po} {tw tu tv : TS} {K : PySem.W.Frag}
theorem ek_d {m : W PyData} (h : EM p te ρ m) : EK kD p te ρ m := eo_of_em h
theorem ek_l {m : W (List PyData)} (h : EL p te ρ m) : EK kL p te ρ m := h
theorem ek_ll {m : W (List (List PyData))} (h : ELL p te ρ m) : EK kLL p te ρ m := h
theorem kwish {α : Type} (k : Kd α) (K' : α → Prop) : (fun x => ∃ x', k.emb x = k.emb x' ∧ K' x') = K' := funext fun x => propext ⟨fun ⟨x', e, h⟩ => by rw [k.inj _ _ e]; exact h, fun h => ⟨x, rfl, h⟩⟩
theorem kwish2 {α β : Type} (k : Kd α) (l : Kd β) (K' : α → β → Prop) : (fun x y => ∃ x' y', [k.emb x, l.emb y] = [k.emb x', l.emb y'] ∧ K' x' y') = K' := funext fun x => funext fun y => propext ⟨fun ⟨x', y', e, h⟩ => by
  injection e with e1 e2
  injection e2 with e2 _
  rw [k.inj _ _ e1, l.inj _ _ e2]; exact h, fun h => ⟨x, y, rfl, h⟩⟩
theorem kwish3 {α β γ : Type} (k : Kd α) (l : Kd β) (q : Kd γ) (K' : α → β → γ → Prop) : (fun x y z => ∃ x' y' z', [k.emb x, l.emb y, q.emb z] = [k.emb x', l.emb y', q.emb z'] ∧ K' x' y' z') = K' := funext fun x => funext fun y => funext fun z => propext ⟨fun ⟨x', y', z', e, h⟩ => by
  injection e with e1 e2
  injection e2 with e2 e3
  injection e3 with e3 _
  rw [k.inj _ _ e1, l.inj _ _ e2, q.inj _ _ e3]; exact h, fun h => ⟨x, y, z, rfl, h⟩⟩
theorem kwish4 {α β γ δ : Type} (k : Kd α) (l : Kd β) (q : Kd γ) (r : Kd δ) (K' : α → β → γ → δ → Prop) : (fun x y z u => ∃ x' y' z' u', [k.emb x, l.emb y, q.emb z, r.emb u] = [k.emb x', l.emb y', q.emb z', r.emb u'] ∧ K' x' y' z' u') = K' := funext fun x => funext fun y => funext fun z => funext fun u => propext ⟨fun ⟨x', y', z', u', e, h⟩ => by
  injection e with e1 e2
  injection e2 with e2 e3
  injection e3 with e3 e4
  injection e4 with e4 _
  rw [k.inj _ _ e1, l.inj _ _ e2, q.inj _ _ e3, r.inj _ _ e4]; exact h, fun h => ⟨x, y, z, u, rfl, h⟩⟩
/-! ### stores -/
/-- x = e, data -/
theorem rx_set {i : Nat} {m : W PyData} {K' : PyData → Prop} (he : EM p te ρ m) (h : letW m K') (k : ∀ d, K' d → Rn p tw (ρ.set i (some (.dat d))) w) : Rn p (tSeq (tAsg te (gName i)) tw) ρ w :=
  rm_asg he h fun d hd => ⟨_, _, tg_name, k d hd⟩
/-- x = e, a tree of its own -/
theorem rx_own {α : Type} {i : Nat} {kd : Kd α} {m : W α} {K' : α → Prop} (he : EK kd p te ρ m) (h : letW m K') (k : ∀ d, K' d → Rn p tw (ρ.set i (some (.own (kd.emb d)))) w) : Rn p (tSeq (tAsg te (gName i)) tw) ρ w :=
  rm_setO (K' := fun t => ∃ r, t = kd.emb r ∧ K' r) he (by have := kwish kd K'; rw [← this] at h; exact h) fun t ⟨r, e, hr⟩ => by rw [e]; exact k r hr
/-- two targets at once -/
theorem rx_par {i j : Nat} {α β : Type} {k1 : Kd α} {k2 : Kd β} {m1 : W α} {m2 : W β} {K' : α → β → Prop} (h1 : EK k1 p ta ρ m1) (h2 : EK k2 p tb ρ m2) (h : m1 fun x => m2 fun y => K' x y) (k : ∀ x y, K' x y → Rn p tw ((ρ.set i (some (slO (k1.emb x)))).set j (some (slO (k2.emb y)))) w) : Rn p (tSeq (tPar i j (tCons ta (tCons tb tNil))) tw) ρ w := fun H0 O σ H D e n r b c => by
  rw [← kwish2 k1 k2 K'] at h
  unfold tSeq tPar
  refine (eao_cons h1 (eao_cons h2 eao_nil)).store (P := fun ts => ∃ x y, ts = [k1.emb x, k2.emb y] ∧ K' x y) h e [i, j] fun vs H2 ts O' hl e2 kq o2 ⟨x, y, et, hk⟩ => ?_
  subst et
  match vs, hl with
  | [v, u], _ => exact ⟨v, u, rfl, k x y hk H0 O' _ H2 D e2 n r b c⟩
theorem rx_par3 {i j l : Nat} {α β γ : Type} {k1 : Kd α} {k2 : Kd β} {k3 : Kd γ} {m1 : W α} {m2 : W β} {m3 : W γ} {K' : α → β → γ → Prop} (h1 : EK k1 p ta ρ m1) (h2 : EK k2 p tb ρ m2) (h3 : EK k3 p tc ρ m3) (h : m1 fun x => m2 fun y => m3 fun z => K' x y z)
    (k : ∀ x y z, K' x y z → Rn p tw (((ρ.set i (some (slO (k1.emb x)))).set j (some (slO (k2.emb y)))).set l (some (slO (k3.emb z)))) w) : Rn p (tSeq (tPar3 i j l (tCons ta (tCons tb (tCons tc tNil)))) tw) ρ w := fun H0 O σ H D e n r b c => by
  rw [← kwish3 k1 k2 k3 K'] at h
  unfold tSeq tPar3
  refine (eao_cons h1 (eao_cons h2 (eao_cons h3 eao_nil))).store (P := fun ts => ∃ x y z, ts = [k1.emb x, k2.emb y, k3.emb z] ∧ K' x y z) h e [i, j, l] fun vs H2 ts O' hl e2 kq o2 ⟨x, y, z, et, hk⟩ => ?_
  subst et
  match vs, hl with
  | [v, u, t], _ => exact ⟨v, u, t, rfl, k x y z hk H0 O' _ H2 D e2 n r b c⟩
theorem tup_at {H2 : Hp} {p : Pm} {H0 : Bs} {O : Addr → Prop} {σ : L2.St} {ρ : Rho} (e : En p H0 O σ H2 ρ) {a : Addr} {vs : List V} (ha : H2 a = none) : En p H0 O σ (upd H2 a (.tup vs)) ρ := e.kp (Kq.new ha)
/-- .. by way of a tuple -/
theorem rx_tup2 {i j : Nat} {α β : Type} {k1 : Kd α} {k2 : Kd β} {m1 : W α} {m2 : W β} {K' : α → β → Prop} (h1 : EK k1 p ta ρ m1) (h2 : EK k2 p tb ρ m2) (h : m1 fun x => m2 fun y => K' x y) (k : ∀ x y, K' x y → Rn p tw ((ρ.set i (some (slO (k1.emb x)))).set j (some (slO (k2.emb y)))) w) : Rn p (tSeq (tAsg (tTup (tCons ta (tCons tb tNil))) (gTup K 2 (gCons (gName i) (gCons (gName j) gNil)))) tw) ρ w := fun H0 O σ H D e n r b c => by
  rw [← kwish2 k1 k2 K'] at h
  unfold tSeq tAsg tTup
  refine (eao_cons h1 (eao_cons h2 eao_nil)).store (P := fun ts => ∃ x y, ts = [k1.emb x, k2.emb y] ∧ K' x y) h e [i, j] fun vs H2 ts O' hl e2 kq o2 hx => ?_
  obtain ⟨x, y, et, hk⟩ := hx
  subst et
  refine ⟨by rw [hl]; exact Nat.le_trans (show _ ≤ 1000 by simp) (by decide), fun a ha => ?_⟩
  match vs, hl with
  | [v, u], _ =>
    refine ⟨a, [v, u], rfl, ?_, rfl, v, [u], rfl, u, [], rfl, rfl, k x y hk H0 O' _ _ D (tup_at e2 ha) n r b c⟩
    exact .inl (.inl upd_same)
theorem rx_tup3 {i j l : Nat} {α β γ : Type} {k1 : Kd α} {k2 : Kd β} {k3 : Kd γ} {m1 : W α} {m2 : W β} {m3 : W γ} {K' : α → β → γ → Prop} (h1 : EK k1 p ta ρ m1) (h2 : EK k2 p tb ρ m2) (h3 : EK k3 p tc ρ m3) (h : m1 fun x => m2 fun y => m3 fun z => K' x y z)
    (k : ∀ x y z, K' x y z → Rn p tw (((ρ.set i (some (slO (k1.emb x)))).set j (some (slO (k2.emb y)))).set l (some (slO (k3.emb z)))) w) : Rn p (tSeq (tAsg (tTup (tCons ta (tCons tb (tCons tc tNil)))) (gTup K 3 (gCons (gName i) (gCons (gName j) (gCons (gName l) gNil))))) tw) ρ w := fun H0 O σ H D e n r b c => by
  rw [← kwish3 k1 k2 k3 K'] at h
  unfold tSeq tAsg tTup
  refine (eao_cons h1 (eao_cons h2 (eao_cons h3 eao_nil))).store (P := fun ts => ∃ x y z, ts = [k1.emb x, k2.emb y, k3.emb z] ∧ K' x y z) h e [i, j, l] fun vs H2 ts O' hl e2 kq o2 hx => ?_
  obtain ⟨x, y, z, et, hk⟩ := hx
  subst et
  refine ⟨by rw [hl]; exact Nat.le_trans (show _ ≤ 1000 by simp) (by decide), fun a ha => ?_⟩
  match vs, hl with
  | [v, u, t], _ =>
    refine ⟨a, [v, u, t], rfl, ?_, rfl, v, [u, t], rfl, u, [t], rfl, t, [], rfl, rfl, k x y z hk H0 O' _ _ D (tup_at e2 ha) n r b c⟩
    exact .inl (.inl upd_same)
theorem rx_tup4 {i j l q : Nat} {α β γ δ : Type} {k1 : Kd α} {k2 : Kd β} {k3 : Kd γ} {k4 : Kd δ} {m1 : W α} {m2 : W β} {m3 : W γ} {m4 : W δ} {K' : α → β → γ → δ → Prop} (h1 : EK k1 p ta ρ m1) (h2 : EK k2 p tb ρ m2) (h3 : EK k3 p tc ρ m3) (h4 : EK k4 p td ρ m4) (h : m1 fun x => m2 fun y => m3 fun z => m4 fun u => K' x y z u)
    (k : ∀ x y z u, K' x y z u → Rn p tw ((((ρ.set i (some (slO (k1.emb x)))).set j (some (slO (k2.emb y)))).set l (some (slO (k3.emb z)))).set q (some (slO (k4.emb u)))) w) : Rn p (tSeq (tAsg (tTup (tCons ta (tCons tb (tCons tc (tCons td tNil))))) (gTup K 4 (gCons (gName i) (gCons (gName j) (gCons (gName l) (gCons (gName q) gNil)))))) tw) ρ w := fun H0 O σ H D e n r b c => by
  rw [← kwish4 k1 k2 k3 k4 K'] at h
  unfold tSeq tAsg tTup
  refine (eao_cons h1 (eao_cons h2 (eao_cons h3 (eao_cons h4 eao_nil)))).store (P := fun ts => ∃ x y z u, ts = [k1.emb x, k2.emb y, k3.emb z, k4.emb u] ∧ K' x y z u) h e [i, j, l, q] fun vs H2 ts O' hl e2 kq o2 hx => ?_
  obtain ⟨x, y, z, u, et, hk⟩ := hx
  subst et
  refine ⟨by rw [hl]; exact Nat.le_trans (show _ ≤ 1000 by simp) (by decide), fun a ha => ?_⟩
  match vs, hl with
  | [v1, v2, v3, v4], _ =>
    refine ⟨a, [v1, v2, v3, v4], rfl, ?_, rfl, v1, [v2, v3, v4], rfl, v2, [v3, v4], rfl, v3, [v4], rfl, v4, [], rfl, rfl, k x y z u hk H0 O' _ _ D (tup_at e2 ha) n r b c⟩
    exact .inl (.inl upd_same)
/-- a branch, each end by itself -/
theorem rm_ifE {mt : W Bool} {K' : Bool → Prop} {tt : TT} (ht : ET p tt ρ mt) (h : mt K') (k1 : K' true → Rn p tu ρ w) (k2 : K' false → Rn p tv ρ w) : Rn p (tIfS tt tu tv) ρ w := fun H0 O σ H D e n r b c =>
  ht _ h H0 O σ H e _ fun t H2 kk o2 pt => by
    have e2 := e.kq kk o2
    cases t with
    | true => rw [if_pos rfl]; exact k1 pt H0 O σ H2 D e2 n r b c
    | false => rw [if_neg (by decide)]; exact k2 pt H0 O σ H2 D e2 n r b c
end
end Kz
set_option Elab.async false
set_option linter.all false
set_option maxRecDepth 100000
set_option maxHeartbeats 4000000
/-! Kz: calls, views, loops, as the maker prints them -/
namespace Kz
open PySem PySem.Spec PyProof.Rows L2
variable [GT]
/-! ### arguments -/
def ap1 (m : PyData → W PyData) : List PyData → W PyData
  | [a], P => m a P
  | _, _ => False
theorem ap1_len {m : PyData → W PyData} : ∀ (ds : List PyData) (P : PyData → Prop), ap1 m ds P → ds.length = 1 := fun ds P h => by
  unfold ap1 at h
  split at h
  · rfl
  · exact h.elim
theorem ap1_inv {m : PyData → W PyData} {ds : List PyData} {P : PyData → Prop} (h : ap1 m ds P) : ∃ a, ds = [a] ∧ m a P := by
  unfold ap1 at h
  split at h
  · exact ⟨_, rfl, h⟩
  · exact h.elim
def ap2 (m : PyData → PyData → W PyData) : List PyData → W PyData
  | [a, b], P => m a b P
  | _, _ => False
theorem ap2_len {m : PyData → PyData → W PyData} : ∀ (ds : List PyData) (P : PyData → Prop), ap2 m ds P → ds.length = 2 := fun ds P h => by
  unfold ap2 at h
  split at h
  · rfl
  · exact h.elim
theorem ap2_inv {m : PyData → PyData → W PyData} {ds : List PyData} {P : PyData → Prop} (h : ap2 m ds P) : ∃ a b, ds = [a, b] ∧ m a b P := by
  unfold ap2 at h
  split at h
  · exact ⟨_, _, rfl, h⟩
  · exact h.elim
def ap3 (m : PyData → PyData → PyData → W PyData) : List PyData → W PyData
  | [a, b, c], P => m a b c P
  | _, _ => False
theorem ap3_len {m : PyData → PyData → PyData → W PyData} : ∀ (ds : List PyData) (P : PyData → Prop), ap3 m ds P → ds.length = 3 := fun ds P h => by
  unfold ap3 at h
  split at h
  · rfl
  · exact h.elim
theorem ap3_inv {m : PyData → PyData → PyData → W PyData} {ds : List PyData} {P : PyData → Prop} (h : ap3 m ds P) : ∃ a b c, ds = [a, b, c] ∧ m a b c P := by
  unfold ap3 at h
  split at h
  · exact ⟨_, _, _, rfl, h⟩
  · exact h.elim
def ap4 (m : PyData → PyData → PyData → PyData → W PyData) : List PyData → W PyData
  | [a, b, c, d], P => m a b c d P
  | _, _ => False
theorem ap4_len {m : PyData → PyData → PyData → PyData → W PyData} : ∀ (ds : List PyData) (P : PyData → Prop), ap4 m ds P → ds.length = 4 := fun ds P h => by
  unfold ap4 at h
  split at h
  · rfl
  · exact h.elim
theorem ap4_inv {m : PyData → PyData → PyData → PyData → W PyData} {ds : List PyData} {P : PyData → Prop} (h : ap4 m ds P) : ∃ a b c d, ds = [a, b, c, d] ∧ m a b c d P := by
  unfold ap4 at h
  split at h
  · exact ⟨_, _, _, _, rfl, h⟩
  · exact h.elim
def ap5 (m : PyData → PyData → PyData → PyData → PyData → W PyData) : List PyData → W PyData
  | [a, b, c, d, e], P => m a b c d e P
  | _, _ => False
theorem ap5_len {m : PyData → PyData → PyData → PyData → PyData → W PyData} : ∀ (ds : List PyData) (P : PyData → Prop), ap5 m ds P → ds.length = 5 := fun ds P h => by
  unfold ap5 at h
  split at h
  · rfl
  · exact h.elim
theorem ap5_inv {m : PyData → PyData → PyData → PyData → PyData → W PyData} {ds : List PyData} {P : PyData → Prop} (h : ap5 m ds P) : ∃ a b c d e, ds = [a, b, c, d, e] ∧ m a b c d e P := by
  unfold ap5 at h
  split at h
  · exact ⟨_, _, _, _, _, rfl, h⟩
  · exact h.elim
def ap6 (m : PyData → PyData → PyData → PyData → PyData → PyData → W PyData) : List PyData → W PyData
  | [a, b, c, d, e, f], P => m a b c d e f P
  | _, _ => False
theorem ap6_len {m : PyData → PyData → PyData → PyData → PyData → PyData → W PyData} : ∀ (ds : List PyData) (P : PyData → Prop), ap6 m ds P → ds.length = 6 := fun ds P h => by
  unfold ap6 at h
  split at h
  · rfl
  · exact h.elim
theorem ap6_inv {m : PyData → PyData → PyData → PyData → PyData → PyData → W PyData} {ds : List PyData} {P : PyData → Prop} (h : ap6 m ds P) : ∃ a b c d e f, ds = [a, b, c, d, e, f] ∧ m a b c d e f P := by
  unfold ap6 at h
  split at h
  · exact ⟨_, _, _, _, _, _, rfl, h⟩
  · exact h.elim
def ap7 (m : PyData → PyData → PyData → PyData → PyData → PyData → PyData → W PyData) : List PyData → W PyData
  | [a, b, c, d, e, f, g], P => m a b c d e f g P
  | _, _ => False
theorem ap7_len {m : PyData → PyData → PyData → PyData → PyData → PyData → PyData → W PyData} : ∀ (ds : List PyData) (P : PyData → Prop), ap7 m ds P → ds.length = 7 := fun ds P h => by
  unfold ap7 at h
  split at h
  · rfl
  · exact h.elim
theorem ap7_inv {m : PyData → PyData → PyData → PyData → PyData → PyData → PyData → W PyData} {ds : List PyData} {P : PyData → Prop} (h : ap7 m ds P) : ∃ a b c d e f g, ds = [a, b, c, d, e, f, g] ∧ m a b c d e f g P := by
  unfold ap7 at h
  split at h
  · exact ⟨_, _, _, _, _, _, _, rfl, h⟩
  · exact h.elim
def ap8 (m : PyData → PyData → PyData → PyData → PyData → PyData → PyData → PyData → W PyData) : List PyData → W PyData
  | [a, b, c, d, e, f, g, h], P => m a b c d e f g h P
  | _, _ => False
theorem ap8_len {m : PyData → PyData → PyData → PyData → PyData → PyData → PyData → PyData → W PyData} : ∀ (ds : List PyData) (P : PyData → Prop), ap8 m ds P → ds.length = 8 := fun ds P h => by
  unfold ap8 at h
  split at h
  · rfl
  · exact h.elim
theorem ap8_inv {m : PyData → PyData → PyData → PyData → PyData → PyData → PyData → PyData → W PyData} {ds : List PyData} {P : PyData → Prop} (h : ap8 m ds P) : ∃ a b c d e f g h, ds = [a, b, c, d, e, f, g, h] ∧ m a b c d e f g h P := by
  unfold ap8 at h
  split at h
  · exact ⟨_, _, _, _, _, _, _, _, rfl, h⟩
  · exact h.elim
def ap9 (m : PyData → PyData → PyData → PyData → PyData → PyData → PyData → PyData → PyData → W PyData) : List PyData → W PyData
  | [a, b, c, d, e, f, g, h, i], P => m a b c d e f g h i P
  | _, _ => False
theorem ap9_len {m : PyData → PyData → PyData → PyData → PyData → PyData → PyData → PyData → PyData → W PyData} : ∀ (ds : List PyData) (P : PyData → Prop), ap9 m ds P → ds.length = 9 := fun ds P h => by
  unfold ap9 at h
  split at h
  · rfl
  · exact h.elim
theorem ap9_inv {m : PyData → PyData → PyData → PyData → PyData → PyData → PyData → PyData → PyData → W PyData} {ds : List PyData} {P : PyData → Prop} (h : ap9 m ds P) : ∃ a b c d e f g h i, ds = [a, b, c, d, e, f, g, h, i] ∧ m a b c d e f g h i P := by
  unfold ap9 at h
  split at h
  · exact ⟨_, _, _, _, _, _, _, _, _, rfl, h⟩
  · exact h.elim
def ap10 (m : PyData → PyData → PyData → PyData → PyData → PyData → PyData → PyData → PyData → PyData → W PyData) : List PyData → W PyData
  | [a, b, c, d, e, f, g, h, i, j], P => m a b c d e f g h i j P
  | _, _ => False
theorem ap10_len {m : PyData → PyData → PyData → PyData → PyData → PyData → PyData → PyData → PyData → PyData → W PyData} : ∀ (ds : List PyData) (P : PyData → Prop), ap10 m ds P → ds.length = 10 := fun ds P h => by
  unfold ap10 at h
  split at h
  · rfl
  · exact h.elim
theorem ap10_inv {m : PyData → PyData → PyData → PyData → PyData → PyData → PyData → PyData → PyData → PyData → W PyData} {ds : List PyData} {P : PyData → Prop} (h : ap10 m ds P) : ∃ a b c d e f g h i j, ds = [a, b, c, d, e, f, g, h, i, j] ∧ m a b c d e f g h i j P := by
  unfold ap10 at h
  split at h
  · exact ⟨_, _, _, _, _, _, _, _, _, _, rfl, h⟩
  · exact h.elim
def ap0 (m : W PyData) : List PyData → W PyData
  | [], P => m P
  | _, _ => False
theorem ap0_len {m : W PyData} : ∀ (ds : List PyData) (P : PyData → Prop), ap0 m ds P → ds.length = 0 := fun ds P h => by
  unfold ap0 at h
  split at h
  · rfl
  · exact h.elim
theorem ap0_inv {m : W PyData} {ds : List PyData} {P : PyData → Prop} (h : ap0 m ds P) : ds = [] ∧ m P := by
  unfold ap0 at h
  split at h
  · exact ⟨rfl, h⟩
  · exact h.elim
/-! ### views -/
section
variable {p : Pm} {ρ ρ' : Rho} {ta tb te : TE} {tt : TT} {w : Po} {tw tu tv : TS} {K : PySem.W.Frag}
theorem em_varV {i : Nat} {t : Ot} {d : PyData} (h : ρ[i]? = some (some (.own t))) (e : t.d = d) : EM p (tVar i) (view ρ) (fun P => P d) := em_var (by
  unfold view
  rw [List.getElem?_map, h, ← e]
  rfl)
theorem em_varL {i : Nat} {ds : List PyData} (h : ρ[i]? = some (some (.own (oL ds)))) : EM p (tVar i) (view ρ) (fun P => P (.list ds)) := em_varV h (oL_d ds)
theorem em_varLL {i : Nat} {ds : List (List PyData)} (h : ρ[i]? = some (some (.own (oLL ds)))) : EM p (tVar i) (view ρ) (fun P => P (.list (ds.map .list))) := em_varV h (oLL_d ds)
theorem em_varDK {i : Nat} {ds : List (Key × PyData)} (h : ρ[i]? = some (some (.own (oDK ds)))) : EM p (tVar i) (view ρ) (fun P => P (.dict (ds.map fun p => (keyD p.1, p.2)))) := em_varV h (oDK_d ds)
/-- what is seen of the slots -/
inductive Vu : Rho → Rho → Prop
  | nil : Vu [] []
  | non {r r' : Rho} : Vu r r' → Vu (none :: r) (none :: r')
  | dat {d : PyData} {r r' : Rho} : Vu r r' → Vu (some (.dat d) :: r) (some (.dat d) :: r')
  | raw {v : V} {r r' : Rho} : Vu r r' → Vu (some (.raw v) :: r) (some (.raw v) :: r')
  | rng {lo hi : Int} {r r' : Rho} : Vu r r' → Vu (some (.rng lo hi) :: r) (some (.rng lo hi) :: r')
  | l {ds : List PyData} {r r' : Rho} : Vu r r' → Vu (some (.own (oL ds)) :: r) (some (.dat (.list ds)) :: r')
  | ll {ds : List (List PyData)} {r r' : Rho} : Vu r r' → Vu (some (.own (oLL ds)) :: r) (some (.dat (.list (ds.map .list))) :: r')
  | dk {ds : List (Key × PyData)} {r r' : Rho} : Vu r r' → Vu (some (.own (oDK ds)) :: r) (some (.dat (.dict (ds.map fun p => (keyD p.1, p.2)))) :: r')
theorem Vu.eq (h : Vu ρ ρ') : view ρ = ρ' := by
  induction h with
  | nil => rfl
  | non _ ih => unfold view at ih ⊢; rw [List.map_cons, ih]; rfl
  | dat _ ih => unfold view at ih ⊢; rw [List.map_cons, ih]; rfl
  | raw _ ih => unfold view at ih ⊢; rw [List.map_cons, ih]; rfl
  | rng _ ih => unfold view at ih ⊢; rw [List.map_cons, ih]; rfl
  | l _ ih => unfold view at ih ⊢; rw [List.map_cons, ih, ← oL_d]; rfl
  | ll _ ih => unfold view at ih ⊢; rw [List.map_cons, ih, ← oLL_d]; rfl
  | dk _ ih => unfold view at ih ⊢; rw [List.map_cons, ih, ← oDK_d]; rfl
/-- no own tree is changed any more -/
theorem rx_frz (v : Vu ρ ρ') (h : Rn p tu ρ' w) : Rn p tu ρ w := rm_freeze (by rw [v.eq]; exact h)
/-! ### ends, branches, loops -/
theorem rx_ret {m : W PyData} (he : EM p te ρ m) (h : letW m w.R) : Rn p (tSeq (tRet te) tw) ρ w := rm_ret he h fun _ h => h
theorem rx_if {mt : W Bool} {A B : Prop} (ht : ET p tt ρ mt) (h : letW mt fun b => cW b A B) (k1 : A → Rn p (tSeq tu tw) ρ w) (k2 : B → Rn p (tSeq tv tw) ρ w) : Rn p (tSeq (tIfS tt tu tv) tw) ρ w :=
  rm_if ht h (fun h => k1 h) (fun h => k2 h)
theorem rx_ifE {mt : W Bool} {A B : Prop} (ht : ET p tt ρ mt) (h : letW mt fun b => cW b A B) (k1 : A → Rn p tu ρ w) (k2 : B → Rn p tv ρ w) : Rn p (tIfS tt tu tv) ρ w :=
  rm_ifE ht h (fun h => k1 h) (fun h => k2 h)
theorem rx_aug {i : Nat} {d0 : PyData} {m : W PyData} {K' : PyData → Prop} (hx : ρ[i]? = some (some (.dat d0))) (he : EM p te ρ m) (h : letW (fun P => m fun y => iaddW d0 y P) K') (k : ∀ d, K' d → Rn p tw (ρ.set i (some (.dat d))) w) : Rn p (tSeq (tAug i te (ipI fun i j => i + j)) tw) ρ w := rm_aug hx he h k
theorem rx_expr {m : W PyData} {K' : Prop} (he : EM p te ρ m) (h : letW m fun _ => K') (k : K' → Rn p tw ρ w) : Rn p (tSeq (tDrop te) tw) ρ w := rm_expr he h fun _ h => k h
theorem rx_unp2 {g1 g2 : TG} {ts1 ts2 : List Nat} {m : W PyData} {K' : PyData → PyData → Prop} {r1 : PyData → Rho} {r2 : PyData → PyData → Rho} (he : EM p te ρ m) (h : letW m fun d => unp2W d K') (t1 : ∀ a, Tg p g1 ts1 ρ a (r1 a)) (t2 : ∀ a b, Tg p g2 ts2 (r1 a) b (r2 a b)) (k : ∀ a b, K' a b → Rn p tw (r2 a b) w) : Rn p (tSeq (tAsg te (gTup K 2 (gCons g1 (gCons g2 gNil)))) tw) ρ w :=
  rm_asg he h fun d hd => by
    obtain ⟨a, b, rfl, hk⟩ := unp2_inv hd
    exact ⟨_, _, tg_tup (tgs_cons (t1 a) (tgs_cons (t2 a b) tgs_nil)) rfl, k a b hk⟩
def forL {S : Type} (mi : W (List PyData)) (body : PyData → S → (S → Prop) → (S → Prop) → Prop) (s0 : S) (K : S → Prop) : Prop := mi fun ds => forW body ds s0 K
theorem rx_for {S : Type} {wi : TI} {g : TG} {mi : W (List PyData)} (rho : S → Rho) {body : PyData → S → (S → Prop) → (S → Prop) → Prop} {s0 : S} {kk : S → Prop} (hi : EI p wi ρ mi) (h : forL mi body s0 kk) (h0 : Le (rho s0) ρ)
    (hb : ∀ (d : PyData) (s : S) (nx bk : S → Prop), body d s nx bk → ∃ ts ρ', Tg p g ts (rho s) d ρ' ∧ Rn p tu ρ' { N := Dn rho nx, C := Dn rho nx, B := Dn rho bk, R := w.R }) (hk : ∀ s, kk s → Rn p tw (rho s) w) : Rn p (tSeq (tFor wi g tu) tw) ρ w := rm_for rho hi h h0 hb hk
/-! ### calls -/
theorem pg_tupN {X : Cx} {es : List Expr} {k : Nat} {pos : Pos} {t : TGs} (K : PySem.W.Frag) (n : Nat) (hc : X.calm = true) (h : PGs X es t) (hK : X.K = K := by rfl) (hn : (assignEach es X.env).length = n := by rfl) (hst : (assignEach es X.env).findIdx? (·.1) = none := by rfl) : PG X (.Tuple es k pos) (gTup K n t) := by
  subst hK
  exact pg_tup hc h hn hst
end
section
variable {P : Program} {w : World} {K : PySem.W.Frag} {mg : Str → Option Value} {base : Heap}
/-- a def that may show -/
structure ClG (P : Program) (w : World) (K : PySem.W.Frag) (mg : Str → Option Value) (base : Heap) (x : Str) (ps : List Str) (k : Nat) (sp : Sp) where
  f : Addr
  fd : FuncData
  G : FnG P w K mg base k f fd ps sp
  g : mg x = some (.ref f)
  kp : PySem.W.keepIn K (.ref f) = true
  b : Binds K fd ps []
end
section
variable {X : Cx} {e : Expr} {es : List Expr} {te : TE} {t : TA} {p pos : Pos}
theorem pCallG {x : Str} {ps : List Str} {k j : Nat} {sp : Sp} (C : ClG X.prog X.w X.K X.mg X.base x ps k sp) (hr : Room j X.A) (hG : X.A.guards = some []) (hk : k ≤ j) (ha : PA X (e :: es) t) (hg : Gl X x := by rfl) (hdb : (x == ("__debug__" : Str)) = false := by decide)
    (he : starEach (e :: es) X.env = (false, eval e X.env) :: starEach es X.env := by rfl) (hpl : (backTo pos (starEach es X.env)).any (·.1) = false := by rfl) : PE X (.Call (.Name x p) (e :: es) [] pos) (tCall sp [] E0 t) :=
  pe_callG C.G (hr.mono hk) hG hg C.g C.kp C.b ha hdb he hpl
end
end Kz
set_option Elab.async false
set_option linter.all false
set_option maxRecDepth 100000
set_option maxHeartbeats 4000000
/-! Kz: the deck -/
namespace Kz
open PySem PySem.Spec PyProof.Rows L2
variable [GT]
theorem kCM : ¬ kC = kM := by decide
theorem nt_dk {xs : List (Key × V)} : NT (.dK xs) := fun _ q => by cases q
theorem hdA : ∀ ns : List Int, PyData.hasDictAll (ns.map PyData.int) = false
  | [] => rfl
  | _ :: r => by simp [PyData.hasDictAll, PyData.hasDict, hdA r]
theorem hdI (ns : List Int) : (PyData.list (ns.map PyData.int)).hasDict = false := by simp [PyData.hasDict, hdA]
theorem shI (ns : List Int) : SeqAt.shaped (.list (ns.map PyData.int)) = true := PySem.W.ke_shaped_ints ns
/-- the names of the deck's keys stand apart -/
structure Nm (nm : Str) : Prop where
  c : ¬ kC = (.inr nm : Key)
  m : ¬ kM = (.inr nm : Key)
section
variable {nm : Str} {S : Addr → Prop} {dk cl : Addr} {h1 : S dk} {h2 : S cl} {Ts : List Addr} {ρ : Rho} {ta tb te : TE} {w : Po} {tw tu : TS}
theorem dk_ne {H : Hp} (h : DkOk nm dk cl H) : dk ≠ cl := fun e => by
  obtain ⟨ns, m, d, e1, e2, _⟩ := h
  rw [e, e2] at e1
  cases e1
theorem ok_putD {H : Hp} {a : Addr} {u o : HO} (k : Ok (dPm nm S dk cl h1 h2 Ts) H) (e : H a = some u) (hu : NT u) (hc : NC u) (ho : NT o) (m : DkOk nm dk cl (upd H a o)) : Ok (dPm nm S dk cl h1 h2 Ts) (upd H a o) := by
  refine ⟨fun b z => ?_, fun P hP => ?_, m⟩
  · by_cases q : b = a
    · rw [q]; exact ⟨o, upd_same, ho⟩
    · rw [upd_ne q]; exact k.tr b z
  · exact (k.tb P hP).ne e hu hc
theorem val_D (N : Nm nm) {v a b : V} : valV [(kC, a), (kM, b), (.inr nm, v)] (.inr nm) = some v := by
  rw [valV_neg N.c, valV_neg N.m, valV_pos rfl]
theorem val_M {v a b : V} : valV [(kC, a), (kM, v), (.inr nm, b)] kM = some v := by
  rw [valV_neg kCM, valV_pos rfl]
theorem val_C {v a b : V} : valV [(kC, v), (kM, a), (.inr nm, b)] kC = some v := by
  rw [valV_pos rfl]
abbrev anyI : W PyData := fun P => ∀ k : Int, P (.int k)
theorem em_dkD (N : Nm nm) {i : Nat} (h : ρ[i]? = some (some (.raw (.ref dk)))) : EM (dPm nm S dk cl h1 h2 Ts) (tDGet (tVar i) (tC (.str nm))) ρ anyI := fun P hp H0 O σ H e Q q => by
  obtain ⟨ns, m, d, e1, e2, hl⟩ := e.ok.mm
  obtain ⟨ad, g1, g2⟩ := e.sl
  refine ⟨_, g1 i _ h, dk, .int d, rfl, ?_, q _ H _ (Kq.refl H) e.ok (.int d) (hp d)⟩
  have := DGet.k (k := .inr nm) e1
  rw [val_D N] at this
  exact this
theorem em_dkM {i : Nat} (h : ρ[i]? = some (some (.raw (.ref dk)))) : EM (dPm nm S dk cl h1 h2 Ts) (tDGet (tVar i) (tC (.str "mixed"))) ρ anyI := fun P hp H0 O σ H e Q q => by
  obtain ⟨ns, m, d, e1, e2, hl⟩ := e.ok.mm
  obtain ⟨ad, g1, g2⟩ := e.sl
  refine ⟨_, g1 i _ h, dk, .int m, rfl, ?_, q _ H _ (Kq.refl H) e.ok (.int m) (hp m)⟩
  have := DGet.k (k := kM) e1
  rw [val_M] at this
  exact this
theorem put_D (N : Nm nm) {a b v w : V} : putK [(kC, a), (kM, b), (.inr nm, v)] (.inr nm) w = [(kC, a), (kM, b), (.inr nm, w)] := by
  unfold putK
  rw [if_pos (by simp)]
  simp only [List.map_cons, List.map_nil]
  rw [if_neg N.c, if_neg N.m, if_pos trivial]
theorem rm_putD (N : Nm nm) {i : Nat} {m : W PyData} (h : ρ[i]? = some (some (.raw (.ref dk)))) (k : EM (dPm nm S dk cl h1 h2 Ts) te ρ m) (hm : m fun d => ∃ k, d = .int k) (n : Rn (dPm nm S dk cl h1 h2 Ts) tw ρ w) : Rn (dPm nm S dk cl h1 h2 Ts) (tSeq (sDPut (tVar i) (tC (.str nm)) te) tw) ρ w := fun H0 O σ H D e nx rt bk ct => by
  refine k _ hm H0 O σ H e _ fun v H2 d k2 o2 hd ⟨x, ex⟩ => ?_
  subst ex
  cases hd
  have e2 := e.kq k2 o2
  obtain ⟨ns, m, d, q1, q2, hl⟩ := o2.mm
  obtain ⟨ad, g1, g2⟩ := e.sl
  have hp := DPut.k (k := .inr nm) (v := V.int x) q1 (show _ < sizeLine from Nat.lt_of_lt_of_le (show 3 < 1000 by decide) (by decide))
  rw [put_D N] at hp
  refine ⟨_, g1 i _ h, dk, _, rfl, hp, n H0 O σ _ D (e2.kq (Kq.put q1 nt_dk nc_dK (.inl rfl)) (ok_putD o2 q1 nt_dk nc_dK nt_dk ⟨ns, m, x, upd_same, ?_, hl⟩)) nx rt bk ct⟩
  rw [upd_ne (fun q => dk_ne o2.mm q.symm)]
  exact q2
/-- products with a small factor -/
def mulSW : PyData → PyData → W PyData
  | .int i, .int j, P => CMul i j ∧ P (.int (i * j))
  | _, _, _ => False
theorem rs_mulS : RS (rI CMul fun i j => .int (i * j)) mulSW := rs_int (g' := fun i j => .int (i * j)) (fun _ _ _ _ => .int _) fun d e P h => by
  unfold mulSW at h
  split at h
  · exact ⟨_, _, rfl, rfl, h.1, h.2⟩
  · exact h.elim
/-- sums of ints -/
def addIW : PyData → PyData → W PyData
  | .int i, .int j, P => P (.int (i + j))
  | _, _, _ => False
theorem rs_addI : RS (rI0 fun i j => .int (i + j)) addIW := rs_int0 (g' := fun i j => .int (i + j)) (fun _ _ _ _ => .int _) fun d e P h => by
  unfold addIW at h
  split at h
  · exact ⟨_, _, rfl, rfl, h⟩
  · exact h.elim
def fdivIW : PyData → PyData → W PyData
  | .int i, .int j, P => CDiv i j ∧ P (.int (i / j))
  | _, _, _ => False
theorem rs_fdivI : RS (rI CDiv fun i j => .int (i / j)) fdivIW := rs_int (g' := fun i j => .int (i / j)) (fun _ _ _ _ => .int _) fun d e P h => by
  unfold fdivIW at h
  split at h
  · exact ⟨_, _, rfl, rfl, h.1, h.2⟩
  · exact h.elim
/-- what is drawn -/
def drawW : PyData → W PyData
  | .int many, P => (0 < many ∧ many < 1073741824) ∧ ∀ r : Int, 0 ≤ r → r < many → P (.int r)
  | _, _ => False
theorem drawW_inv {d : PyData} {P : PyData → Prop} (h : drawW d P) : ∃ many : Int, d = .int many ∧ (0 < many ∧ many < 1073741824) ∧ ∀ r : Int, 0 ≤ r → r < many → P (.int r) := by
  unfold drawW at h
  split at h
  · exact ⟨_, rfl, h.1, h.2⟩
  · exact h.elim
theorem rm_seqN {p : Pm} {ρ : Rho} {tu tw : TS} {w : Po} {Nm : Rho → Prop} (h : Rn p tu ρ { w with N := Nm }) (k : ∀ ρ', Nm ρ' → Rn p tw ρ' w) : Rn p (tSeq tu tw) ρ w := fun H0 O σ H D e n r b c =>
  h H0 O σ H { D with nx := tw D } e (fun O' σ' H' ρ' e' n' => k ρ' n' H0 O' σ' H' D e' n r b c) r b c
theorem fmodE {i j : Int} (h : 0 < j) : i.fmod j = i % j := Int.fmod_eq_emod_of_nonneg i (Int.le_of_lt h)
end
/-! the deck, made -/
def KL (K : PySem.W.Frag) (a : Addr) (xs : List V) : Prop := ∃ (o : Obj) (its : Array Value) (n : Nat), K.lookup a = some o ∧ o.cls = .type "list" ∧ o.dict = none ∧ o.data = .seq its n ∧ its.size ≤ sizeLine ∧ Vals xs its.toList
theorem rd_nt {H : Hp} {a : Addr} {xs : List V} (h : Rd H a (.lst xs)) : ∃ o, H a = some o ∧ NT o := by
  rcases h with h | ⟨o, h⟩
  · exact ⟨_, h, nt_lst⟩
  · exact ⟨_, h, fun _ q => by cases q⟩
def sPm (K : PySem.W.Frag) (H0 : Hp) (a : Addr) (xs : List V) : Pm := ⟨fun x => x = a ∧ Rd H0 a (.lst xs), Z0, fun H => KL K a xs ∨ (Rd H0 a (.lst xs) ∧ Rd H a (.lst xs)), [], fun _ h => h.elim, fun H1 H2 h k => by
  rcases h with h | ⟨h0, h⟩
  · exact .inl h
  · refine .inr ⟨h0, ?_⟩
    have e := k a ⟨rfl, h0⟩
    rcases h with h | ⟨o, h⟩
    · exact .inl (by rw [e]; exact h)
    · exact .inr ⟨o, by rw [e]; exact h⟩⟩
section
variable {nm : Str} {p : Pm} {ρ : Rho} {t1 t2 t3 te : TE}
abbrev deckD (nm : Str) (ms : List Int) (m : Int) : PyData := .dict [(.str "cells", .list (ms.map .int)), (.str "mixed", .int m), (.str nm, .int 0)]
theorem merge3 (N : Nm nm) {a b c : V} : mergeK ([] : List (Key × V)) [(kC, a), (kM, b), (.inr nm, c)] = [(kC, a), (kM, b), (.inr nm, c)] := by
  unfold mergeK
  simp only [List.foldl_cons, List.foldl_nil]
  have e1 : putK ([] : List (Key × V)) kC a = [(kC, a)] := rfl
  rw [e1, putK_new b (by rw [valV_neg kCM]; rfl)]
  show putK [(kC, a), (kM, b)] (.inr nm) c = _
  rw [putK_new c (by rw [valV_neg N.c, valV_neg N.m]; rfl)]
  rfl
theorem em_deck (N : Nm nm) {ma mb : W PyData} (h1 : EM p t1 ρ ma) (h2 : EM p t2 ρ mb) : EM p (tDisp [(tC (.str "cells"), t1), (tC (.str "mixed"), t2), (tC (.str nm), tC (.int 0))]) ρ (fun P => ma fun c => ∃ ms : List Int, c = .list (ms.map .int) ∧ mb fun d => ∃ m, d = .int m ∧ P (deckD nm ms m)) := fun P hp H0 O σ H e Q q a na => by
  have kn : Kp H (upd H a (.dK [])) := Kq.new na
  have e1 := e.kp kn
  have nZ : ¬ p.Z a := fun z => fresh_so e na (.inl (p.zs a z))
  refine h1 _ hp H0 O σ _ e1 _ fun v1 H2 d k2 o2 hd pd => ?_
  obtain ⟨ms, rfl, pd⟩ := pd
  have e2 := e1.kq k2 o2
  refine h2 _ pd H0 O σ H2 e2 _ fun v2 H3 d k3 o3 hd2 pd => ?_
  obtain ⟨m, rfl, pd⟩ := pd
  cases hd2
  have kk : Kq p.Z (upd H a (.dK [])) H3 := k2.trans k3
  have ha : H3 a = some (.dK []) := kk.at_ a _ nZ upd_same nt_dk
  refine ⟨ha, [(kC, v1), (kM, .int m), (.inr nm, .int 0)], rfl, (by show 3 ≤ 15; decide), ?_⟩
  rw [merge3 N]
  have hd4 := hd.kq k3 so_z
  have nS : ¬ SO p O a := fresh_so e na
  have hv1 : Dv (SO p O) (upd H3 a (.dK [(kC, v1), (kM, .int m), (.inr nm, .int 0)])) v1 (.list (ms.map .int)) := by
    cases hd4 with
    | @lst b xs _ n eb r =>
      have hba : b ≠ a := fun z => by rw [z, ha] at eb; cases eb
      have := r.ints_inv
      subst this
      exact .lst n (by rw [upd_ne hba]; exact eb) (DvL.ints ms)
  have okf : Ok p (upd H3 a (.dK [(kC, v1), (kM, .int m), (.inr nm, .int 0)])) := by
    have ko : ∀ b, p.S b → upd H3 a (.dK [(kC, v1), (kM, .int m), (.inr nm, .int 0)]) b = H3 b := fun b z => upd_ne fun q => nS (.inl (q ▸ z))
    refine ⟨fun b z => by rw [ko b z]; exact o3.tr b z, fun P hP => ?_, p.ms _ _ o3.mm ko⟩
    exact (o3.tb P hP).ne ha nt_dk nc_dK
  exact q _ _ _ (Kq.own (kn.up.trans kk) na ha nt_dk nc_dK) okf (.dct nS upd_same (.cons hv1 (.cons (.int m) (.cons (.int 0) .nil)))) pd
def revLW : PyData → W PyData
  | .list ds, P => P (.list ds.reverse)
  | _, _ => False
theorem DvL.reverse {S : Addr → Prop} {H : Hp} : ∀ {vs : List V} {ds : List PyData}, DvL S H vs ds → DvL S H vs.reverse ds.reverse := by
  intro vs ds h
  induction ds generalizing vs with
  | nil => cases h; exact .nil
  | cons d ds ih =>
    cases h with
    | cons a b => rw [List.reverse_cons, List.reverse_cons]; exact (ih b).append (.one a)
theorem em_revL {K : PySem.W.Frag} {m : W PyData} (h : EM p te ρ m) : EM p (tRevL K te) ρ (fun P => m fun d => revLW d P) := fun P hp H0 O σ H e Q q => by
  refine h _ hp H0 O σ H e _ fun v H2 d k2 o2 hd pd => ?_
  have e2 := e.kq k2 o2
  unfold revLW at pd
  split at pd
  · cases hd with
    | @lst a xs _ n ea r =>
      exact ⟨a, xs, rfl, .inl (.inl ea), fun l hl => q _ _ _ (k2.trans (Kq.new hl)) (o2.kp (Kq.new hl)) (.lst (fresh_so e2 hl) upd_same (r.reverse.kp (Kq.new hl))) pd⟩
  · exact pd.elim
end
theorem rm_exec {p : Pm} {Hb : Bs} {O : Addr → Prop} {σ : L2.St} {H : Hp} {ρ : Rho} {D : Ends} {t : TS} {R0 : PyData → Prop} (e : En p Hb O σ H ρ) (m : Rn p t ρ { N := fun _ => False, R := R0 }) (k : ∀ v d H', Kq (ZO p Hb.o) Hb.h H' → Ok p H' → Dv p.S H' v d → R0 d → D.rt v H') : t D σ H :=
  m Hb O σ H D e (fun _ _ _ _ _ z => z.elim) k (fun _ _ _ _ _ z => z.elim) (fun _ _ _ _ _ z => z.elim)
theorem cutV_63 {xs : List V} (h : xs.length ≤ 63) : cutV xs none (some 63) = xs := by
  unfold cutV
  rw [HT.sIx_none, show (some (63 : Int)) = some ((63 : Nat) : Int) from rfl, HT.sIx_nat]
  simp
  rw [List.take_of_length_le (by omega)]
section
variable {K : PySem.W.Frag} {H0 : Hp} {a : Addr} {ns : List Int} {ρ : Rho}
theorem em_script (hr : ρ[0]? = some (some (.raw (.ref a)))) (hl : ns.length ≤ 63) : EM (sPm K H0 a (ns.map .int)) (tSl (rSlL K) (tVar 0) tNoPart (tPart (tC (.int 63)))) ρ (fun P => P (.list (ns.map .int))) := fun P hp Hb O σ H e Q q => by
  obtain ⟨ad, g1, g2⟩ := e.sl
  refine ⟨_, g1 0 _ hr, 63, rfl, a, ns.map .int, rfl, ?_, fun l hl' => ?_⟩
  · rcases e.ok.mm with h | ⟨_, h⟩
    · exact .inr h
    · exact .inl h
  · rw [cutV_63 (by simpa using hl)]
    exact q _ _ _ (Kq.new hl') (e.ok.kp (Kq.new hl')) (.lst (fresh_so e hl') upd_same (DvL.ints ns)) hp
end
abbrev spDeck (nm : Str) (K : PySem.W.Frag) : Sp := fun vs H Q _ => ∃ (a : Addr) (ns : List Int), vs = [.ref a] ∧ SqL K H a (ns.map .int) ∧ ns.length ≤ 63 ∧ ∀ v H' ms m, Kp H H' → Dv (fun _ => False) H' v (deckD nm ms m) → ms.length ≤ 63 → Q v H'
theorem DvK.inv {S : Addr → Prop} {H : Hp} {kvs : List (Key × V)} {k' d : PyData} {ps : List (PyData × PyData)} (h : DvK S H kvs ((k', d) :: ps)) : ∃ k v vs, kvs = (k, v) :: vs ∧ keyD k = k' ∧ Dv S H v d ∧ DvK S H vs ps := by
  generalize hp : (k', d) :: ps = qs at h
  cases h with
  | nil => cases hp
  | cons a b => cases hp; exact ⟨_, _, _, rfl, rfl, a, b⟩
theorem key_str {k : Key} {x : Str} (h : keyD k = .str x) : k = .inr x := by
  cases k with
  | inl i => cases h
  | inr y => injection h with h; rw [h]
theorem deck_inv {nm : Str} {H : Hp} {v : V} {ms : List Int} {m : Int} (h : Dv (fun _ => False) H v (deckD nm ms m)) (hl : ms.length ≤ 63) : ∃ dk cl, v = .ref dk ∧ DkOk nm dk cl H := by
  cases h with
  | @dct dk kvs _ _ e r =>
    obtain ⟨k1, v1, vs1, rfl, e1, d1, r⟩ := r.inv
    obtain ⟨k2, v2, vs2, rfl, e2, d2, r⟩ := r.inv
    obtain ⟨k3, v3, vs3, rfl, e3, d3, r⟩ := r.inv
    cases r
    cases key_str e1
    cases key_str e2
    cases key_str e3
    cases d2
    cases d3
    cases d1 with
    | @lst cl xs _ _ el rl =>
      have := rl.ints_inv
      subst this
      exact ⟨dk, cl, rfl, ms, m, 0, e, el, by omega⟩
/-! the law itself: a deck, then the rest -/
abbrev spLaw (K : PySem.W.Frag) (Ts : List Addr) : Sp := fun vs H Q _ => ∃ (a : Addr) (ns : List Int), vs = [.ref a] ∧ SqL K H a (ns.map .int) ∧ ns.length ≤ 63 ∧ (∀ P ∈ Ts, TabH H P) ∧ ∀ H', Q (.bl true) H'
def lawR (N : List Str) (dk : Addr) : Rho := none :: some (.raw (.ref dk)) :: List.replicate (N.length - 2) none
theorem law_start {N : List Str} {a : Addr} {v : V} (hN : 2 ≤ N.length) : ((L2.start N [.ref a]).set 1 (some v)).length = N.length ∧ ((L2.start N [.ref a]).set 1 (some v))[1]? = some (some v) := by
  unfold L2.start
  constructor
  · simp; omega
  · rw [List.getElem?_set_self (by simp; omega)]
theorem law_body {nm : Str} {K : PySem.W.Frag} {N : List Str} {Ts : List Addr} {E : XK} {t : TS} {m : W PyData} {vs : List V} {H : Hp} {Q : VK} (hN : 2 ≤ N.length) (h : spLaw K Ts vs H Q E) (hm : m (· = .bool true))
    (hR : ∀ (S : Addr → Prop) (dk cl : Addr) (h1 : S dk) (h2 : S cl) (R : PyData → Prop), m R → Rn (dPm nm S dk cl h1 h2 Ts) t (lawR N dk) { N := fun _ => R .none, R := R }) :
    tSeq (tAsg (tCall (spDeck nm K) [] E0 (tCons (tVar 0) tNil)) (gName 1)) t { nx := fun _ H' => Q .non H', rt := Q } (start N vs) H := by
  obtain ⟨a, ns, rfl, hs, hl, hT, q⟩ := h
  refine ⟨_, by unfold L2.start; rfl, a, ns, rfl, hs, hl, fun v H' ms md k hd hms => ?_⟩
  obtain ⟨dk, cl, rfl, hdk⟩ := deck_inv hd hms
  have hen : En (dPm nm (fun x => x = dk ∨ x = cl) dk cl (.inl rfl) (.inr rfl) Ts) ⟨H', fun _ => False⟩ (fun _ => False) ((L2.start N [.ref a]).set 1 (some (.ref dk))) H' (lawR N dk) := by
    refine ⟨Kq.refl H', ⟨fun x z => ?_, fun P hP => k.tab P (hT P hP), hdk⟩, fun a h => h.elim, ⟨fun _ => [], fun i s h => ?_, fun i j t u a _ _ _ z => by simp at z⟩, ?_⟩
    · obtain ⟨ns, m, d, q1, q2, _⟩ := hdk
      rcases z with z | z
      · rw [z]; exact ⟨_, q1, nt_dk⟩
      · rw [z]; exact ⟨_, q2, nt_lst⟩
    · unfold lawR at h
      match i, h with
      | 0, h => cases h
      | 1, h => cases h; exact (law_start hN).2
      | i + 2, h =>
        simp only [List.getElem?_cons_succ] at h
        rw [List.getElem?_replicate] at h
        split at h <;> cases h
    · rw [(law_start hN).1]
      unfold lawR
      simp; omega
  exact hR _ dk cl _ _ (· = .bool true) hm _ _ _ H' _ hen (fun _ _ _ _ _ z => by cases z) (fun v d H2 _ _ hv e => by
    subst e
    cases hv
    exact q H2) (fun _ _ _ _ _ z => False.elim z) (fun _ _ _ _ _ z => False.elim z)
section
variable {P : Program} {w : World} {K : PySem.W.Frag} {mg : Str → Option Value} {base : Heap}
theorem ok_lawM {nm : Str} {st : Stmt} {f : Addr} {fd : FuncData} {N : List Str} {k : Nat} {Ts : List Addr} {m : W PyData} (F : Fun K "law" "law" st f fd) (Sc : FnScope N ["script"] (defScope st)) (hN : 2 ≤ N.length) (hm : m (· = .bool true))
    (hb : ∀ (cdv : Value) (A : Around) (outer : List PySem.Env) (s : Shared) (H : Hp), Room k (A.deeper (envOfC "law" (defScope st) s.heap.objs.size f cdv)) → (A.deeper (envOfC "law" (defScope st) s.heap.objs.size f cdv)).guards = some [] →
      ∃ t, PSs (cxOf CX0 P w K mg base N "law" (defScope st) f cdv A outer s H E0).nox (defBody st) (tSeq (tAsg (tCall (spDeck nm K) [] E0 (tCons (tVar 0) tNil)) (gName 1)) t) ∧
        ∀ (S : Addr → Prop) (dk cl : Addr) (h1 : S dk) (h2 : S cl) (R : PyData → Prop), m R → Rn (dPm nm S dk cl h1 h2 Ts) t (lawR N dk) { N := fun _ => R .none, R := R }) : FnG P w K mg base (k + 1) f fd ["script"] (spLaw K Ts) := by
  refine fng_of F Sc (fun vs H Q E ⟨a, ns, e, _⟩ => by rw [e]; rfl) fun cdv A outer s H vs Q hr hG h => ?_
  obtain ⟨t, ht, hR⟩ := hb cdv A outer s H hr hG
  exact ⟨_, ht, law_body hN h hm hR⟩
end
end Kz
set_option Elab.async false
set_option linter.all false
set_option maxRecDepth 100000
set_option maxHeartbeats 4000000
/-! Kz: more forms with the pinned objects named; own lists as the maker prints them -/
namespace Kz
open PySem PySem.Spec PyProof.Rows L2
variable [GT]
section
variable {X : Cx} {e a b : Expr} {es : List Expr} {te ta tb : TE} {t : TA} {p pos apos : Pos}
theorem pList' (K : PySem.W.Frag) (B : Bn X.mg) (h : PE X e te) (hK : X.K = K := by rfl) (hg : Gl X "list" := by rfl) (he : starEach [e] X.env = (false, eval e X.env) :: starEach [] X.env := by rfl) : PE X (.Call (.Name "list" p) [e] [] pos) (tCB (rLs K) (tCons te tNil)) := hK ▸ pList B h hg he
theorem pAllL' (K : PySem.W.Frag) (B : Bn X.mg) (hc : X.calm = true) (h : PE X e te) (hK : X.K = K := by rfl) (hg : Gl X "all" := by rfl) (he : starEach [e] X.env = (false, eval e X.env) :: starEach [] X.env := by rfl) : PE X (.Call (.Name "all" p) [e] [] pos) (tCB (rAll K) (tCons te tNil)) := hK ▸ pAllL B hc h hg he
theorem pMin' (K : PySem.W.Frag) (B : Bn X.mg) (hc : X.calm = true) (h : PE X e te) (hK : X.K = K := by rfl) (hg : Gl X "min" := by rfl) (he : starEach [e] X.env = (false, eval e X.env) :: starEach [] X.env := by rfl) : PE X (.Call (.Name "min" p) [e] [] pos) (tCB (rMin K) (tCons te tNil)) := hK ▸ pe_callB (cr_min hc) hg B.min (by decide +kernel) (pa_cons h pa_nil he) (by decide) (by decide) he
theorem pAnyT' (K : PySem.W.Frag) (B : Bn X.mg) (hc : X.calm = true) (h : PE X e te) (hK : X.K = K := by rfl) (hg : Gl X "any" := by rfl) (he : starEach [e] X.env = (false, eval e X.env) :: starEach [] X.env := by rfl) : PE X (.Call (.Name "any" p) [e] [] pos) (tCB (rAnyT K) (tCons te tNil)) := hK ▸ pe_callB (cr_anyT hc) hg B.any (by decide +kernel) (pa_cons h pa_nil he) (by decide) (by decide) he
theorem pStr (B : Bn X.mg) (h : PE X e te) (hg : Gl X "str" := by rfl) (he : starEach [e] X.env = (false, eval e X.env) :: starEach [] X.env := by rfl) : PE X (.Call (.Name "str" p) [e] [] pos) (tCB (fun xs H Q => (∃ i, xs = [.int i] ∧ i.natAbs.log2 < 1920 ∧ Q (.str (toString i)) H) ∨ ∃ b : Bool, xs = [.bl b] ∧ Q (.str (if b then "True" else "False")) H) (tCons te tNil)) := pe_callTy call_strNb hg B.str (by decide +kernel) (pa_cons h pa_nil he) (by decide) (by decide) he
theorem pNotT (K : PySem.W.Frag) (h : PE X a ta) (hK : X.K = K := by rfl) : PE X (.UnaryOp .Not a pos) (tNotT K ta) := hK ▸ pe_notT h
theorem pAndT (K : PySem.W.Frag) (ha : PE X a ta) (hb : PE X (.BoolOp .And (b :: es) pos) tb) (hK : X.K = K := by rfl) : PE X (.BoolOp .And (a :: b :: es) pos) (tAndT K ta tb) := hK ▸ pe_andT ha hb
theorem pOrT (K : PySem.W.Frag) (ha : PE X a ta) (hb : PE X (.BoolOp .Or (b :: es) pos) tb) (hK : X.K = K := by rfl) : PE X (.BoolOp .Or (a :: b :: es) pos) (tOrT K ta tb) := hK ▸ pe_orT ha hb
theorem pRevT (K : PySem.W.Frag) {k : Nat} {p1 p2 p3 : Pos} (he : PE X e te) (hK : X.K = K := by rfl) : PE X (.Subscript e (.Slice none none (some (.UnaryOp .USub (.Constant (.int 1) k p1) p2)) p3) pos) (tRevT K te) := hK ▸ pe_revT he
theorem pRevL (K : PySem.W.Frag) {k : Nat} {p1 p2 p3 : Pos} (he : PE X e te) (hK : X.K = K := by rfl) : PE X (.Subscript e (.Slice none none (some (.UnaryOp .USub (.Constant (.int 1) k p1) p2)) p3) pos) (tRevL K te) := hK ▸ pe_revL he
theorem ptTru (K : PySem.W.Frag) (ha : PE X a ta) (he : ∀ whole, isTrue a X.env whole = (do let v ← whole; standAt a.pos; holding [v] (truthy v)) := by intro _; rfl) (hK : X.K = K := by rfl) : PT X a (fun σ H Q => ta σ H fun x H' => ∃ k, TruV K x H' k ∧ Q k H') := hK ▸ pt_truth ha he
theorem pSorted2 (K : PySem.W.Frag) (B : Bn X.mg) (h : PE X e te) (hK : X.K = K := by rfl) (hg : Gl X "sorted" := by rfl) (he : starEach [e] X.env = (false, eval e X.env) :: starEach [] X.env := by rfl) : PE X (.Call (.Name "sorted" p) [e] [] pos) (tCB (rSortedPO K) (tCons te tNil)) := hK ▸ pe_callB cr_sortedPO hg B.sorted (by decide +kernel) (pa_cons h pa_nil he) (by decide) (by decide) he
end
/-- sorted, pairs of ints -/
def pairI : PyData → Option (Int × Int)
  | .tuple [.int i, .int j] => some (i, j)
  | _ => none
def pairsOf2 : List PyData → Option (List (Int × Int))
  | [] => some []
  | d :: ds => match pairI d, pairsOf2 ds with
    | some p, some ps => some (p :: ps)
    | _, _ => none
abbrev pairD (p : Int × Int) : PyData := .tuple [.int p.1, .int p.2]
def lexP (p q : Int × Int) : Prop := p.1 < q.1 ∨ (p.1 = q.1 ∧ p.2 ≤ q.2)
def sorted2W : PyData → W PyData
  | .list ds, P => ∃ ps, pairsOf2 ds = some ps ∧ ∀ qs : List (Int × Int), qs.Perm ps → qs.Pairwise lexP → P (.list (qs.map pairD))
  | _, _ => False
theorem pairI_eq {d : PyData} {p : Int × Int} (h : pairI d = some p) : d = pairD p := by
  unfold pairI at h
  split at h
  · cases h; rfl
  · cases h
theorem pairsOf2_eq : ∀ {ds : List PyData} {ps : List (Int × Int)}, pairsOf2 ds = some ps → ds = ps.map pairD := by
  intro ds
  induction ds with
  | nil => intro ps h; cases h; rfl
  | cons d ds ih =>
    intro ps h
    unfold pairsOf2 at h
    split at h
    · next p ps' h1 h2 => cases h; rw [List.map_cons, pairI_eq h1, ih h2]
    · cases h
section
variable {S : Addr → Prop} {H : Hp}
theorem pair_val {v : V} {p : Int × Int} (h : Dv S H v (pairD p)) : ∃ t, v = .ref t ∧ H t = some (.tup [.int p.1, .int p.2]) := by
  cases h with
  | @tup a xs _ n e r =>
    refine ⟨a, rfl, ?_⟩
    cases r with
    | cons h1 r => cases r with
      | cons h2 r => cases r; cases h1; cases h2; exact e
/-- what pair of ints stands at a value -/
noncomputable def pairAt (H : Hp) (v : V) : Int × Int := open Classical in if h : ∃ p : Int × Int, ∃ t, v = .ref t ∧ H t = some (.tup [.int p.1, .int p.2]) then h.choose else (0, 0)
theorem pairAt_eq {v : V} {t : Addr} {p : Int × Int} (e : v = .ref t) (h : H t = some (.tup [.int p.1, .int p.2])) : pairAt H v = p := by
  unfold pairAt
  have hx : ∃ p : Int × Int, ∃ t, v = .ref t ∧ H t = some (.tup [.int p.1, .int p.2]) := ⟨p, t, e, h⟩
  rw [dif_pos hx]
  obtain ⟨t', e', h'⟩ := hx.choose_spec
  rw [e] at e'
  cases e'
  rw [h] at h'
  injection h' with h'
  injection h' with h'
  injection h' with h1 h2
  injection h2 with h2 _
  injection h1 with h1
  injection h2 with h2
  exact Prod.ext h1.symm h2.symm
end
theorem b_sorted2 {K : PySem.W.Frag} : B1 (rSortedPO K) sorted2W := fun p d P h H0 O σ ρ H vs e hd Q q => by
  obtain ⟨v, rfl, hv⟩ := hd.one_inv
  unfold sorted2W at h
  split at h
  · obtain ⟨ps, h1, h2⟩ := h
    rw [pairsOf2_eq h1] at hv
    cases hv with
    | @lst a xs _ n ea r =>
      have key : ∀ x ∈ xs, ∃ pp ∈ ps, Dv (SO p O) H x (pairD pp) := by
        intro x hx
        obtain ⟨i, hi, ei⟩ := List.mem_iff_getElem.mp hx
        obtain ⟨d, g1, g2⟩ := r.get (i := i) (v := x) (by rw [List.getElem?_eq_getElem hi, ei])
        rw [List.getElem?_map] at g1
        obtain ⟨pp, g3, rfl⟩ := Option.map_eq_some_iff.mp g1
        exact ⟨pp, List.mem_of_getElem? g3, g2⟩
      have kx : ∀ x ∈ xs, ∃ t, x = V.ref t ∧ H t = some (.tup [.int (pairAt H x).1, .int (pairAt H x).2]) := by
        intro x hx
        obtain ⟨pp, _, dv⟩ := key x hx
        obtain ⟨t, e1, e2⟩ := pair_val dv
        exact ⟨t, e1, by rw [pairAt_eq e1 e2]; exact e2⟩
      refine ⟨a, xs, pairAt H, rfl, .inl (.inl ea), kx, fun ys p' hs hb hp => ?_⟩
      have hmap : xs.map (pairAt H) = ps := by
        clear h2 key kx hs hb ea h1
        induction ps generalizing xs with
        | nil => cases r; rfl
        | cons pp ps ih =>
          cases r with
          | cons a1 a2 =>
            obtain ⟨t, e1, e2⟩ := pair_val a1
            rw [List.map_cons, pairAt_eq e1 e2, ih a2]
      have hyy : ∀ y ∈ ys, Dv (SO p O) H y (pairD (pairAt H y)) := fun y hy => by
        obtain ⟨pp, _, dv⟩ := key y (hb.perm.mem_iff.mp hy)
        obtain ⟨t, e1, e2⟩ := pair_val dv
        rw [pairAt_eq e1 e2]
        exact dv
      have hdl : DvL (SO p O) H ys ((ys.map (pairAt H)).map pairD) := by
        clear hs hb
        induction ys with
        | nil => exact .nil
        | cons y ys ih => exact .cons (hyy y (by simp)) (ih fun z hz => hyy z (by simp [hz]))
      refine finN e q hp (fun k => rs_lst hp (fresh_so e hp) hdl k) (h2 (ys.map (pairAt H)) ?_ ?_)
      · rw [← hmap]
        exact hb.perm.map _
      · refine List.pairwise_map.mpr (List.Pairwise.imp (fun {x y} hxy => ?_) hs)
        have hno := SrtO.lexB_no.mp hxy
        unfold lexP
        omega
  · exact h.elim
end Kz
set_option Elab.async false
set_option linter.all false
set_option maxRecDepth 100000
set_option maxHeartbeats 4000000
/-! Kz: own lists, as the maker prints them; part of the slots seen as data -/
namespace Kz
open PySem PySem.Spec PyProof.Rows L2
variable [GT]
section
variable {p : Pm} {ρ ρ' : Rho} {ta tb tc te ti tj tk : TE} {tt : TT} {H0 : Bs} {H : Hp} {O : Addr → Prop} {σ : L2.St} {w : Po} {tw tu tv : TS} {K : PySem.W.Frag} {m m1 m2 mi mj : W PyData}
/-- some own trees seen as data -/
inductive Vp : Rho → Rho → Prop
  | nil : Vp [] []
  | same {x : Option Sl} {r r' : Rho} : Vp r r' → Vp (x :: r) (x :: r')
  | l {ds : List PyData} {r r' : Rho} : Vp r r' → Vp (some (.own (oL ds)) :: r) (some (.dat (.list ds)) :: r')
  | ll {ds : List (List PyData)} {r r' : Rho} : Vp r r' → Vp (some (.own (oLL ds)) :: r) (some (.dat (.list (ds.map .list))) :: r')
  | dk {ds : List (Key × PyData)} {r r' : Rho} : Vp r r' → Vp (some (.own (oDK ds)) :: r) (some (.dat (.dict (ds.map fun p => (keyD p.1, p.2)))) :: r')
theorem Vp.len (h : Vp ρ ρ') : ρ.length = ρ'.length := by
  induction h with
  | nil => rfl
  | same _ ih => simp [ih]
  | l _ ih => simp [ih]
  | ll _ ih => simp [ih]
  | dk _ ih => simp [ih]
theorem Vp.get (h : Vp ρ ρ') : ∀ {i : Nat} {s : Sl}, ρ'[i]? = some (some s) → ρ[i]? = some (some s) ∨ ∃ t : Ot, ρ[i]? = some (some (.own t)) ∧ s = .dat t.d := by
  induction h with
  | nil => intro i s h; exact .inl h
  | same _ ih =>
    intro i s h
    cases i with
    | zero => exact .inl h
    | succ i => simpa using ih (by simpa using h)
  | @l ds _ _ _ ih =>
    intro i s h
    cases i with
    | zero => simp only [List.getElem?_cons_zero, Option.some.injEq] at h; exact .inr ⟨_, rfl, by rw [← h, oL_d]⟩
    | succ i => simpa using ih (by simpa using h)
  | @ll ds _ _ _ ih =>
    intro i s h
    cases i with
    | zero => simp only [List.getElem?_cons_zero, Option.some.injEq] at h; exact .inr ⟨_, rfl, by rw [← h, oLL_d]⟩
    | succ i => simpa using ih (by simpa using h)
  | @dk ds _ _ _ ih =>
    intro i s h
    cases i with
    | zero => simp only [List.getElem?_cons_zero, Option.some.injEq] at h; exact .inr ⟨_, rfl, by rw [← h, oDK_d]⟩
    | succ i => simpa using ih (by simpa using h)
theorem En.part (e : En p H0 O σ H ρ) (h : Vp ρ ρ') : ∃ O', En p H0 O' σ H ρ' := by
  obtain ⟨ad, g1, g2⟩ := e.sl
  let O' : Addr → Prop := fun a => O a ∧ ∀ i t, ρ[i]? = some (some (.own t)) → (∀ u, ρ'[i]? ≠ some (some (.own u))) → a ∉ ad i
  have hS : ∀ a, ¬ SO p O a → ¬ SO p O' a := fun a n z => n (z.elim .inl fun z => .inr z.1)
  have hOO : ∀ a, O' a → O a := fun a h => h.1
  have keep : ∀ {i : Nat} {t : Ot}, ρ[i]? = some (some (.own t)) → ρ'[i]? = some (some (.own t)) → ∀ a ∈ ad i, O' a := fun {i t} h1 h2 a m => by
    obtain ⟨v, q1, q2, q3⟩ := g1 i _ h1
    refine ⟨q3 a m, fun j u hj hn z => ?_⟩
    by_cases y : i = j
    · subst y; exact hn t h2
    · exact g2 i j t u a y h1 hj m z
  refine ⟨O', e.fr, e.ok, fun a z => e.ow a z.1, ⟨ad, fun i s hs => ?_, fun i j t u a n h1 h2 => ?_⟩, by rw [e.ln, h.len]⟩
  · rcases h.get hs with h' | ⟨t, h', rfl⟩
    · have q := g1 i s h'
      cases s with
      | dat d => obtain ⟨v, q1, q2⟩ := q; exact ⟨v, q1, q2.map (fun a n _ => hS a n) fun _ _ _ e _ => e⟩
      | own t =>
        obtain ⟨v, q1, q2, q3⟩ := q
        exact ⟨v, q1, q2.map (fun a n _ => hS a n) (fun _ _ _ e _ => e) _ _ _ fun _ _ _ e _ => e, keep h' hs⟩
      | raw v => exact q
      | rng lo hi => obtain ⟨a, q1, q2, q3⟩ := q; exact ⟨a, q1, hS a q2, q3⟩
    · obtain ⟨v, q1, q2, q3⟩ := g1 i _ h'
      exact ⟨v, q1, q2.dv hS _ _ _ fun a m z => z.elim (e.ow a (q3 a m)).2.1 fun z => z.2 i t h' (fun u hu => by rw [hs] at hu; cases hu) m⟩
  · rcases h.get h1 with h1 | ⟨_, _, z⟩
    · rcases h.get h2 with h2 | ⟨_, _, z⟩
      · exact g2 i j t u a n h1 h2
      · cases z
    · cases z
/-- these are not changed any more -/
theorem rx_part (v : Vp ρ ρ') (h : Rn p tu ρ' w) : Rn p tu ρ w := fun H0 O σ H D e n r b c => by
  obtain ⟨O', e2⟩ := e.part v
  exact h H0 O' σ H D e2 n r b c
/-- a name that may be bound -/
def optW {α : Type} : Option α → (α → Prop) → Prop
  | some a, k => k a
  | none, _ => False
theorem optW_inv {α : Type} {o : Option α} {k : α → Prop} (h : optW o k) : ∃ a, o = some a ∧ k a := by
  cases o with
  | none => exact h.elim
  | some a => exact ⟨a, rfl, h⟩
/-! ### own lists -/
theorem rx_appendL {i : Nat} {ds : List PyData} {K' : List PyData → Prop} (hi : ρ[i]? = some (some (.own (oL ds)))) (he : EM p te ρ m) (h : letW (fun P => m fun d => ds.length ≤ 1000000 ∧ P (ds ++ [d])) K') (k : ∀ es, K' es → Rn p tw (ρ.set i (some (.own (oL es)))) w) :
    Rn p (tSeq (tDrop (tBM K "list" rAppend (tVar i) (tCons te tNil))) tw) ρ w := rm_appendL (K' := K') hi he h k
theorem rx_appendLL {i : Nat} {rs : List (List PyData)} {ml : W (List PyData)} {K' : List (List PyData) → Prop} (hi : ρ[i]? = some (some (.own (oLL rs)))) (he : EL p te ρ ml) (h : letW (fun P => ml fun d => rs.length ≤ 1000000 ∧ P (rs ++ [d])) K') (k : ∀ es, K' es → Rn p tw (ρ.set i (some (.own (oLL es)))) w) :
    Rn p (tSeq (tDrop (tBM K "list" rAppend (tVar i) (tCons te tNil))) tw) ρ w := rm_appendLL (K' := K') hi he h k
def extW (ds : List PyData) (d : PyData) : W (List PyData) := fun P => match d with | .list es => ds.length + es.length ≤ 1000000 ∧ P (ds ++ es) | _ => False
theorem rx_extendL {i : Nat} {ds : List PyData} {K' : List PyData → Prop} (hi : ρ[i]? = some (some (.own (oL ds)))) (he : EM p te ρ m) (h : letW (fun P => m fun d => extW ds d P) K') (k : ∀ es, K' es → Rn p tw (ρ.set i (some (.own (oL es)))) w) :
    Rn p (tSeq (tDrop (tBM K "list" rExtend (tVar i) (tCons te tNil))) tw) ρ w := rm_extendL (K' := K') hi he h k
theorem rx_setitemL {i : Nat} {ds : List PyData} {K' : List PyData → Prop} (hi : ρ[i]? = some (some (.own (oL ds)))) (he : EM p te ρ m) (hj : EM p tj ρ mj) (h : letW (fun P => m fun d => mj fun j => ixD ds.length j fun n => P (ds.set n d)) K') (k : ∀ es, K' es → Rn p tw (ρ.set i (some (.own (oL es)))) w) :
    Rn p (tSeq (tAsg te (gSub (tVar i) tj rSetL)) tw) ρ w := rm_setitemL (K' := K') hi he hj h k
theorem rx_setitemLL {i : Nat} {rs : List (List PyData)} {ml : W (List PyData)} {K' : List (List PyData) → Prop} (hi : ρ[i]? = some (some (.own (oLL rs)))) (he : EL p te ρ ml) (hj : EM p tj ρ mj) (h : letW (fun P => ml fun d => mj fun j => ixD rs.length j fun n => P (rs.set n d)) K') (k : ∀ es, K' es → Rn p tw (ρ.set i (some (.own (oLL es)))) w) :
    Rn p (tSeq (tAsg te (gSub (tVar i) tj rSetL)) tw) ρ w := rm_setitemLL (K' := K') hi he hj h k
theorem rx_set2 {i : Nat} {rs : List (List PyData)} {K' : List (List PyData) → Prop} (hi : ρ[i]? = some (some (.own (oLL rs)))) (he : EM p te ρ m) (hx : EM p ti ρ mi) (hj : EM p tj ρ mj) (h : letW (fun P => m fun d => mi fun x => atRow rs x fun n r => mj fun y => ixD r.length y fun l => P (rs.set n (r.set l d))) K') (k : ∀ es, K' es → Rn p tw (ρ.set i (some (.own (oLL es)))) w) :
    Rn p (tSeq (tAsg te (gSub (tOp (rIx K) (tVar i) ti) tj rSetL)) tw) ρ w := rm_set2 (K' := K') hi he hx hj h k
theorem rx_swapL {i : Nat} {ds : List PyData} {K' : List PyData → Prop} {t1 t2 : TE} {mx my : W PyData} (hi : ρ[i]? = some (some (.own (oL ds)))) (ha : EM p ta ρ m1) (hb : EM p tb ρ m2) (hx : EM p t1 ρ mx) (hy : ∀ es, EM p t2 (ρ.set i (some (.own (oL es)))) my)
    (h : letW (fun P => m1 fun d => m2 fun e => mx fun x => ixD ds.length x fun a => my fun y => ixD ds.length y fun b => P ((ds.set a d).set b e)) K') (k : ∀ es, K' es → Rn p tw (ρ.set i (some (.own (oL es)))) w) :
    Rn p (tSeq (tAsg (tTup (tCons ta (tCons tb tNil))) (gTup K 2 (gCons (gSub (tVar i) t1 rSetL) (gCons (gSub (tVar i) t2 rSetL) gNil)))) tw) ρ w := rm_swapL (K' := K') hi ha hb hx hy h k
theorem rx_popAt {i j : Nat} {ds : List PyData} {K' : PyData × List PyData → Prop} (hi : ρ[i]? = some (some (.own (oL ds)))) (hk : EM p tk ρ m) (h : letW (fun P => m fun x => popW ds x fun d es => P (d, es)) K') (k : ∀ q, K' q → Rn p tw ((ρ.set i (some (.own (oL q.2)))).set j (some (.dat q.1))) w) :
    Rn p (tSeq (tAsg (tBM K "list" rPopAt (tVar i) (tCons tk tNil)) (gName j)) tw) ρ w := rm_setS (P := fun d ρ' => ∃ es, ρ' = ρ.set i (some (.own (oL es))) ∧ K' (d, es)) (es_pop hi hk (by
  have e : (fun d es => ∃ es', ρ.set i (some (.own (oL es))) = ρ.set i (some (.own (oL es'))) ∧ K' (d, es')) = fun d es => K' (d, es) := funext fun d => funext fun es => propext ⟨fun ⟨es', e1, e2⟩ => by
    have hi' : i < ρ.length := (List.getElem?_eq_some_iff.mp hi).1
    have e3 := congrArg (fun l => l[i]?) e1
    simp only [List.getElem?_set_self hi', Option.some.injEq, Sl.own.injEq] at e3
    rw [oL_inj e3]
    exact e2, fun h => ⟨es, rfl, h⟩⟩
  rw [e]
  exact h)) fun d ρ' ⟨es, e, hk⟩ => by rw [e]; exact k (d, es) hk
end
end Kz
set_option Elab.async false
set_option linter.all false
set_option maxRecDepth 100000
set_option maxHeartbeats 4000000
/-! Kz: blocks within blocks, two clauses of data -/
namespace Kz
open PySem PySem.Spec PyProof.Rows L2
variable [GT]
/-- the scope of a nested block -/
def relab (sc scope : Scope) : Scope := relabel scope (envOfC "" sc 0 0 .none)
abbrev bindW {α : Type} (m : W α) (K : α → Prop) : Prop := m K
section
variable {p : Pm} {ρ : Rho} {ta tb te : TE} {tt : TT} {m : W PyData} {K : PySem.W.Frag}
theorem lc2_itemD {g g1 : TG} {wi1 : TI} {tt1 : TT} {vs vs1 ts : List Nat} {ρ' : Rho} {d : PyData} {K : List PyData → Prop} {mi1 : W (List PyData)} (G1 : PyData → W (List PyData)) (K0 : List Ot → Prop) (hK : K = fun es => K0 (es.map .dat)) (hts : ∀ i ∈ ts, i ∈ vs) (tg : Tg p g ts (wipeR ρ vs) d ρ') (hno : noOwn ρ' = true) (hi1 : EI p wi1 ρ' mi1) (hs1 : ∀ d1 K1, (G1 d1 fun es => K1 (es.map .dat)) → LcItem p g1 tt1 te vs1 ρ' d1 K1)
    (h : mi1 fun ds1 => ds1.length ≤ 1000 ∧ lcW G1 ds1 K) : Lc2Item p g tYes wi1 g1 tt1 te vs vs1 ρ d K0 :=
  lc2_item (fun d1 K1 => G1 d1 fun es => K1 (es.map .dat)) hts tg hno hi1 hs1 (by
    subst hK
    have e : (fun ds1 => ds1.length ≤ 1000 ∧ lcW (fun d1 K1 => G1 d1 fun es => K1 (es.map .dat)) ds1 K0) = fun ds1 => ds1.length ≤ 1000 ∧ lcW G1 ds1 fun es => K0 (es.map .dat) := funext fun ds1 => by rw [lcW_map]
    rw [e]
    exact h)
/-- .. with tests behind the first clause -/
theorem lc2_itemTD {g g1 : TG} {wi1 : TI} {tt1 : TT} {vs vs1 ts : List Nat} {ρ' : Rho} {d : PyData} {K : List PyData → Prop} {mi1 : W (List PyData)} {mt : W Bool} (G1 : PyData → W (List PyData)) (K0 : List Ot → Prop) (hK : K = fun es => K0 (es.map .dat)) (hts : ∀ i ∈ ts, i ∈ vs) (tg : Tg p g ts (wipeR ρ vs) d ρ') (hno : noOwn ρ' = true) (ht : ET p tt ρ' mt) (hi1 : EI p wi1 ρ' mi1) (hs1 : ∀ d1 K1, (G1 d1 fun es => K1 (es.map .dat)) → LcItem p g1 tt1 te vs1 ρ' d1 K1)
    (h : mt fun b => cW b (mi1 fun ds1 => ds1.length ≤ 1000 ∧ lcW G1 ds1 K) (K [])) : Lc2Item p g tt wi1 g1 tt1 te vs vs1 ρ d K0 :=
  lc2_itemT (fun d1 K1 => G1 d1 fun es => K1 (es.map .dat)) hts tg hno ht hi1 hs1 (by
    subst hK
    have e : (fun ds1 => ds1.length ≤ 1000 ∧ lcW (fun d1 K1 => G1 d1 fun es => K1 (es.map .dat)) ds1 K0) = fun ds1 => ds1.length ≤ 1000 ∧ lcW G1 ds1 fun es => K0 (es.map .dat) := funext fun ds1 => by rw [lcW_map]
    rw [e]
    exact h)
/-- a range object in a slot, walked -/
def iRv (te : TE) : TI := fun σ H R => te σ H fun x H1 => ∃ a lo hi, x = .ref a ∧ H1 a = some (.rng lo hi) ∧ (-(2 ^ 62) ≤ lo ∧ lo < 2 ^ 62 ∧ -(2 ^ 62) ≤ hi ∧ hi < 2 ^ 62) ∧ R (Itr lo (hi - lo).toNat) H1
theorem pi_rv {X : Cx} {tg e : Expr} {te : TE} (he : PE X e te) : PI X tg e (iRv te) := by
  refine ⟨fun pins s σ H R I h => ?_⟩
  refine thn (he.run pins s σ H _ I h) fun v s1 ⟨x, H1, I1, r1, a, lo, hi, ex, ha, hb, q⟩ => ?_
  subst ex
  cases r1
  obtain ⟨t, u, v, ho⟩ := I1.hok a _ ha
  refine wpAny_pyIter_range (show IsRange s1.heap a lo hi 1 t u v from ho) (small_one hb.1 hb.2.1 hb.2.2.1 hb.2.2.2) ?_
  refine ⟨s1.heap.objs.size, [s1.heap.objs.size], _, _, H1, rfl, I1.kept (t' := s1.toks) fun b o e => Heap.get?_push_of_some _ e, turn_range _ lo (hi - lo).toNat, ?_, fun b hb => ?_, q⟩
  · have e1 : lo + ((0 : Nat) : Int) * 1 = lo := by simp
    have e2 : (((hi - lo).toNat : Nat) : Int) - ((0 : Nat) : Int) = Builtin.Range.rangeSize lo hi 1 := by
      rw [rangeSize_one]
      split <;> omega
    show IsRangeIter _ _ (lo + ((0 : Nat) : Int) * 1) ((((hi - lo).toNat : Nat) : Int) - ((0 : Nat) : Int)) 1
    rw [e1, e2]
    exact Heap.get?_push_size _ rfl
  · have e : b = s1.heap.objs.size := by simpa using hb
    subst e
    exact I1.fpOk (Nat.le_refl _) (I1.hok.fresh (Nat.le_refl _))
/-- a range object's items -/
def rngVW (lo hi : Int) : W (List PyData) := fun P => (-(2 ^ 62) ≤ lo ∧ lo < 2 ^ 62 ∧ -(2 ^ 62) ≤ hi ∧ hi < 2 ^ 62) ∧ P (rngD lo (hi - lo).toNat)
theorem ei_rv {i : Nat} {lo hi : Int} (h : ρ[i]? = some (some (.rng lo hi))) : EI p (iRv (tVar i)) ρ (fun P => rngVW lo hi P) := fun P hp H0 O σ H e R q => by
  obtain ⟨ad, g1, g2⟩ := e.sl
  obtain ⟨a, h1, h2, h3⟩ := g1 i _ h
  exact ⟨_, h1, a, lo, hi, rfl, h3, hp.1, q _ H _ (Kq.refl H) e.ok hp.2 wk_rng⟩
end
end Kz
set_option Elab.async false
set_option linter.all false
set_option maxRecDepth 100000
set_option maxHeartbeats 4000000
/-! Kz: several at once, as the maker prints them -/
namespace Kz
open PySem PySem.Spec PyProof.Rows L2
variable [GT]
def letW2 {α β : Type} (m1 : W α) (m2 : W β) (K : α → β → Prop) : Prop := m1 fun x => m2 fun y => K x y
def letW3 {α β γ : Type} (m1 : W α) (m2 : W β) (m3 : W γ) (K : α → β → γ → Prop) : Prop := m1 fun x => m2 fun y => m3 fun z => K x y z
def letW4 {α β γ δ : Type} (m1 : W α) (m2 : W β) (m3 : W γ) (m4 : W δ) (K : α → β → γ → δ → Prop) : Prop := m1 fun x => m2 fun y => m3 fun z => m4 fun u => K x y z u
section
variable {p : Pm} {ρ ρ' : Rho} {ta tb tc td te ti tj tk : TE} {tt : TT} {w : Po} {tw tu tv : TS} {K : PySem.W.Frag} {m m1 m2 mi mj : W PyData}
theorem ry_par {i j : Nat} {α β : Type} {k1 : Kd α} {k2 : Kd β} {m1 : W α} {m2 : W β} {K' : α → β → Prop} (h1 : EK k1 p ta ρ m1) (h2 : EK k2 p tb ρ m2) (h : letW2 m1 m2 K') (k : ∀ x y, K' x y → Rn p tw ((ρ.set i (some (slO (k1.emb x)))).set j (some (slO (k2.emb y)))) w) : Rn p (tSeq (tPar i j (tCons ta (tCons tb tNil))) tw) ρ w := rx_par (K' := K') h1 h2 h k
theorem ry_par3 {i j l : Nat} {α β γ : Type} {k1 : Kd α} {k2 : Kd β} {k3 : Kd γ} {m1 : W α} {m2 : W β} {m3 : W γ} {K' : α → β → γ → Prop} (h1 : EK k1 p ta ρ m1) (h2 : EK k2 p tb ρ m2) (h3 : EK k3 p tc ρ m3) (h : letW3 m1 m2 m3 K')
    (k : ∀ x y z, K' x y z → Rn p tw (((ρ.set i (some (slO (k1.emb x)))).set j (some (slO (k2.emb y)))).set l (some (slO (k3.emb z)))) w) : Rn p (tSeq (tPar3 i j l (tCons ta (tCons tb (tCons tc tNil)))) tw) ρ w := rx_par3 (K' := K') h1 h2 h3 h k
theorem ry_tup2 {i j : Nat} {α β : Type} {k1 : Kd α} {k2 : Kd β} {m1 : W α} {m2 : W β} {K' : α → β → Prop} (h1 : EK k1 p ta ρ m1) (h2 : EK k2 p tb ρ m2) (h : letW2 m1 m2 K') (k : ∀ x y, K' x y → Rn p tw ((ρ.set i (some (slO (k1.emb x)))).set j (some (slO (k2.emb y)))) w) : Rn p (tSeq (tAsg (tTup (tCons ta (tCons tb tNil))) (gTup K 2 (gCons (gName i) (gCons (gName j) gNil)))) tw) ρ w := rx_tup2 (K' := K') h1 h2 h k
theorem ry_tup3 {i j l : Nat} {α β γ : Type} {k1 : Kd α} {k2 : Kd β} {k3 : Kd γ} {m1 : W α} {m2 : W β} {m3 : W γ} {K' : α → β → γ → Prop} (h1 : EK k1 p ta ρ m1) (h2 : EK k2 p tb ρ m2) (h3 : EK k3 p tc ρ m3) (h : letW3 m1 m2 m3 K')
    (k : ∀ x y z, K' x y z → Rn p tw (((ρ.set i (some (slO (k1.emb x)))).set j (some (slO (k2.emb y)))).set l (some (slO (k3.emb z)))) w) : Rn p (tSeq (tAsg (tTup (tCons ta (tCons tb (tCons tc tNil)))) (gTup K 3 (gCons (gName i) (gCons (gName j) (gCons (gName l) gNil))))) tw) ρ w := rx_tup3 (K' := K') h1 h2 h3 h k
theorem ry_tup4 {i j l q : Nat} {α β γ δ : Type} {k1 : Kd α} {k2 : Kd β} {k3 : Kd γ} {k4 : Kd δ} {m1 : W α} {m2 : W β} {m3 : W γ} {m4 : W δ} {K' : α → β → γ → δ → Prop} (h1 : EK k1 p ta ρ m1) (h2 : EK k2 p tb ρ m2) (h3 : EK k3 p tc ρ m3) (h4 : EK k4 p td ρ m4) (h : letW4 m1 m2 m3 m4 K')
    (k : ∀ x y z u, K' x y z u → Rn p tw ((((ρ.set i (some (slO (k1.emb x)))).set j (some (slO (k2.emb y)))).set l (some (slO (k3.emb z)))).set q (some (slO (k4.emb u)))) w) : Rn p (tSeq (tAsg (tTup (tCons ta (tCons tb (tCons tc (tCons td tNil))))) (gTup K 4 (gCons (gName i) (gCons (gName j) (gCons (gName l) (gCons (gName q) gNil)))))) tw) ρ w := rx_tup4 (K' := K') h1 h2 h3 h4 h k
/-- e unpacked -/
theorem rx_unp {g : TG} {K' : PyData → Prop} (he : EM p te ρ m) (h : letW m K') (k : ∀ d, K' d → ∃ ts ρ', Tg p g ts ρ d ρ' ∧ Rn p tw ρ' w) : Rn p (tSeq (tAsg te g) tw) ρ w := rm_asg he h k
theorem em_lenOL {i : Nat} {ds : List PyData} (hi : ρ[i]? = some (some (.own (oL ds)))) : EM p (tCB (rLn K) (tCons (tVar i) tNil)) ρ (fun P => P (.int ds.length)) := fun P hp => em_lenO hi P (by rw [List.length_map]; exact hp)
theorem em_lenOLL {i : Nat} {ds : List (List PyData)} (hi : ρ[i]? = some (some (.own (oLL ds)))) : EM p (tCB (rLn K) (tCons (tVar i) tNil)) ρ (fun P => P (.int ds.length)) := fun P hp => em_lenO hi P (by rw [List.length_map]; exact hp)
/-- a range object comes into a slot -/
def rRg : List V → Hp → VK → Prop := fun vs H Q => ∃ i, vs = [V.int i] ∧ ∀ p, H p = none → Q (.ref p) (upd H p (.rng 0 i))
theorem pRange {X : Cx} {e : Expr} {te : TE} {p pos : Pos} (B : Bn X.mg) (h : PE X e te) (hg : Gl X "range" := by rfl) (he : starEach [e] X.env = (false, eval e X.env) :: starEach [] X.env := by rfl) : PE X (.Call (.Name "range" p) [e] [] pos) (tCB rRg (tCons te tNil)) := pe_callTy cr_range1 hg B.range (by decide +kernel) (pa_cons h pa_nil he) (by decide) (by decide) he
def rngW : PyData → W Int
  | .int i, P => P i
  | _, _ => False
theorem En.setR {p : Pm} {H0 : Bs} {H : Hp} {O : Addr → Prop} {σ : L2.St} {ρ : Rho} (e : En p H0 O σ H ρ) {i : Nat} {a : Addr} {lo hi : Int} (n : ¬ SO p O a) (h : H a = some (.rng lo hi)) : En p H0 O (σ.set i (some (.ref a))) H (ρ.set i (some (.rng lo hi))) := by
  obtain ⟨ad, g1, g2⟩ := e.sl
  have hne : ∀ {m : Nat} {t : Ot}, (ρ.set i (some (.rng lo hi)))[m]? = some (some (.own t)) → i ≠ m ∧ ρ[m]? = some (some (.own t)) := fun {m t} hm => by
    by_cases z : i = m
    · subst z
      have hi : i < ρ.length := by
        have := (List.getElem?_eq_some_iff.mp hm).1
        rwa [List.length_set] at this
      rw [List.getElem?_set_self hi] at hm
      cases hm
    · rw [List.getElem?_set_ne z] at hm
      exact ⟨z, hm⟩
  refine ⟨e.fr, e.ok, e.ow, ⟨ad, fun j s hj => ?_, fun j l t u a n q1 q2 => g2 j l t u a n (hne q1).2 (hne q2).2⟩, by rw [List.length_set, List.length_set, e.ln]⟩
  by_cases z : i = j
  · subst z
    have hi : i < ρ.length := by
      have := (List.getElem?_eq_some_iff.mp hj).1
      rwa [List.length_set] at this
    rw [List.getElem?_set_self hi] at hj
    cases hj
    exact ⟨a, List.getElem?_set_self (by rw [e.ln]; exact hi), n, h⟩
  · rw [List.getElem?_set_ne z] at hj
    exact (g1 j s hj).slot (List.getElem?_set_ne z)
theorem rx_rng {i : Nat} {K' : Int → Prop} (he : EM p te ρ m) (h : letW (fun P => m fun d => rngW d P) K') (k : ∀ n, K' n → Rn p tw (ρ.set i (some (.rng 0 n))) w) : Rn p (tSeq (tAsg (tCB rRg (tCons te tNil)) (gName i)) tw) ρ w := fun H0 O σ H D e n r b c => by
  refine he _ h H0 O σ H e (fun v H1 => tNil σ H1 fun vs H2 => rRg (v :: vs) H2 fun x H3 => gName i x σ H3 (tw D)) fun v H2 d k2 o2 hd pd => ?_
  have e2 := e.kq k2 o2
  unfold rngW at pd
  split at pd
  · next nn =>
    cases hd
    refine ⟨_, rfl, fun a ha => ?_⟩
    have kn : Kp H2 (upd H2 a (.rng 0 nn)) := Kq.new ha
    exact k _ pd H0 O _ _ D ((e2.kp kn).setR (fresh_so e2 ha) upd_same) n r b c
  · exact pd.elim
end
end Kz
set_option Elab.async false
set_option linter.all false
set_option maxRecDepth 100000
set_option maxHeartbeats 4000000
/-! Kz: the end of a law that imports -/
namespace Kz
open PySem PySem.Spec PyProof.Rows L2
variable [GT]
theorem walk_I {l : PySem.W.OpenLaw} {n k : Nat} {q : Program} {loose : List Str} {XP : (Str → Option Value) → Heap → Prop} {YP : World → Heap → Prop} {d : DefRec} {K : Params → PySem.W.Frag} {x : Str} (tn : List Str)
    (hS : ∀ (w : World) (h : Heap), YP w h → ∃ o es ep, h.get? sysModules = some o ∧ o.data = .dict es ep) (hn : l.most = some n) (hn2 : n ≤ sizeLine) (hdf : d.params.defaults = []) (hr : Room k callerA) (hY : ∀ (w : World) (h : Heap), YP w h → (K w.params).In h)
    (htn : ∀ y ∈ tn, ∃ r, (recsOf q).find? (fun e => e.name == y) = some r)
    (F : ∀ (w : World) (mg : Str → Option Value) (fa : Addr) (h : Heap), (K w.params).In h → h.Ns mainGlobals mg → mg d.name = some (.ref fa) →
      ∃ (fd : FuncData) (cs : List (Addr × Addr)) (sp : Sp), (∀ p ∈ cs, ∃ y ∈ tn, PySem.W.tabIn (K w.params) y = some p) ∧ (∀ p ∈ cs, (K w.params).lookup p.2 = none) ∧ (∀ (s : Shared) (u : Value), BindsTo s fd ⟨[u], []⟩ [(x, u)]) ∧
        (∀ (H : Hp) (a : Addr) (ns : List Int), ns.length ≤ n → (∀ z ∈ ns, Builtin.Int.intBits z ≤ 1048576) → (∀ p ∈ cs, H p.2 = some (.tbl #[])) → SqL (K w.params) H a (ns.map V.int) → sp [.ref a] H (fun v _ => v = .bl true) E0) ∧
        ∀ base : Heap, (K w.params).In base → base.Ns mainGlobals mg → Hsb base → (∀ p ∈ cs, GxR.TabB base mg p.1 p.2) → FnG l.prog w (K w.params) mg base k fa fd [x] sp) :
    PySem.W.WalkO q loose XP YP l.row.toRowW d [] (fun f vs => PySem.call f vs) := by
  refine Att.attach_callB hn hdf fun w s₀ s₁ mg mb fa o pm cd doc a vs ns G Y ho hd hcd hmg hobj hints hlen hbits hg => ?_
  have KX := hY w _ Y
  obtain ⟨fd, cs, sp, ht, nT, hb, hsp, hF⟩ := F w mg fa _ KX G.T.g hmg
  have tabs : ∀ p ∈ cs, PySem.W.CodeHd s₁.heap p.1 p.2 ∧ s₁.heap.get? p.2 = some (PySem.W.tabObj #[]) := fun p hp => by
    obtain ⟨y, hy, e⟩ := ht p hp
    obtain ⟨r, hr⟩ := htn y hy
    exact PySem.W.tab_of (c := p.1) (P := p.2) G.T KX hr e
  exact law_callS KX G.T.g G.T.b G.T.builtins (hS w _ Y) G.T.nolimit hg (fun p hp => (tabs p hp).2) nT (fun p hp => (tabs p hp).1) G.T.bmain hobj hints (Nat.le_trans hlen hn2) hr hF hb (fun H hH hS => hsp H a ns hlen hbits hH hS)
/-- the written-out part with one more object, read as the part alone -/
theorem in_tail {a : Addr} {o : Obj} {K : PySem.W.Frag} {h : Heap} (hn : K.lookup a = none) (X : PySem.W.Frag.In ((a, o) :: K) h) : K.In h ∧ h.get? a = some o := by
  refine ⟨fun b u e => X b u ?_, X a o ?_⟩
  · have hab : (b == a) = false := by
      cases q : b == a with
      | false => rfl
      | true => rw [eq_of_beq q, hn] at e; cases e
    unfold List.lookup
    rw [hab]
    exact e
  · unfold List.lookup
    rw [show (a == a) = true by simp]
theorem tabIn_of {K : PySem.W.Frag} {x : Str} {f c P : Addr} {oc oc' : Value} {od od' : Option Addr} {sl sl' : Array (Option Value)} {fd : FuncData} {vs : Array Value} (a : PySem.W.nsIn K mainGlobals x = some (some (.ref f))) (l : K.lookup f = some ⟨oc, od, .func fd, sl⟩) (hc : fd.code = .ref c) (t : K.lookup c = some ⟨oc', od', .fields vs, sl'⟩) (h : vs[11]? = some (.ref P)) : PySem.W.tabIn K x = some (c, P) := by
  unfold PySem.W.tabIn
  rw [a]
  simp only [l, hc, t, h]
/-- the object at the modules' place, written out -/
def modsO (es : Params → List DictEntry) (P : Params) : Obj := ⟨.type "dict", none, .dict (es P).toArray (es P).length, #[]⟩
abbrev kHook1 (K : Params → PySem.W.Frag) (as : List Addr) (e : ∀ P, as = (K P).map (·.1)) : PySem.W.Hook := PySem.W.kHook K as e
end Kz
set_option Elab.async false
set_option linter.all false
set_option maxRecDepth 100000
set_option maxHeartbeats 4000000
/-! Kz: lists and tuples unpacked -/
namespace Kz
open PySem PySem.Spec PyProof.Rows L2
variable [GT]
def gSeq (K : PySem.W.Frag) (n : Nat) (t : TGs) : TG := fun v σ H Q => gTup K n t v σ H Q ∨ gUnl K n t v σ H Q
theorem pg_seqN {X : Cx} {es : List Expr} {k : Nat} {pos : Pos} {t : TGs} (K : PySem.W.Frag) (n : Nat) (hc : X.calm = true) (h : PGs X es t) (hK : X.K = K := by rfl) (hn : (assignEach es X.env).length = n := by rfl) (hst : (assignEach es X.env).findIdx? (·.1) = none := by rfl) : PG X (.Tuple es k pos) (gSeq K n t) := by
  subst hK
  refine ⟨fun pins s σ H v u Q I r hw => ?_⟩
  rcases hw with hw | hw
  · exact (pg_tup hc h hn hst).run pins s σ H v u Q I r hw
  · exact (pg_unl hc h hn hst).run pins s σ H v u Q I r hw
def unpS2W (d : PyData) (k : PyData → PyData → Prop) : Prop := match seqD d with | some [a, b] => k a b | _ => False
def unpS3W (d : PyData) (k : PyData → PyData → PyData → Prop) : Prop := match seqD d with | some [a, b, c] => k a b c | _ => False
def unpS4W (d : PyData) (k : PyData → PyData → PyData → PyData → Prop) : Prop := match seqD d with | some [a, b, c, e] => k a b c e | _ => False
theorem unpS2_inv {d : PyData} {k : PyData → PyData → Prop} (h : unpS2W d k) : ∃ a b, seqD d = some [a, b] ∧ k a b := by
  unfold unpS2W at h
  split at h
  · next e => exact ⟨_, _, e, h⟩
  · exact h.elim
theorem unpS3_inv {d : PyData} {k : PyData → PyData → PyData → Prop} (h : unpS3W d k) : ∃ a b c, seqD d = some [a, b, c] ∧ k a b c := by
  unfold unpS3W at h
  split at h
  · next e => exact ⟨_, _, _, e, h⟩
  · exact h.elim
theorem unpS4_inv {d : PyData} {k : PyData → PyData → PyData → PyData → Prop} (h : unpS4W d k) : ∃ a b c e, seqD d = some [a, b, c, e] ∧ k a b c e := by
  unfold unpS4W at h
  split at h
  · next e => exact ⟨_, _, _, _, e, h⟩
  · exact h.elim
section
variable {p : Pm} {ρ ρ' : Rho} {K : PySem.W.Frag}
theorem tg_seq {n : Nat} {gs : TGs} {ts : List Nat} {d : PyData} {ds : List PyData} (e : seqD d = some ds) (h : TgL p gs ts ρ ds ρ') (hn : ds.length = n) : Tg p (gSeq K n gs) ts ρ d ρ' := fun H0 O σ H x en hd Q q => by
  unfold seqD at e
  split at e
  · cases e
    cases hd with
    | @lst a xs _ n' ea r => exact .inr ⟨a, xs, rfl, .inl (.inl ea), by rw [r.length]; exact hn, h H0 O σ H xs en r Q q⟩
  · cases e
    cases hd with
    | @tup a xs _ n' ea r => exact .inl ⟨a, xs, rfl, .inl (.inl ea), by rw [r.length]; exact hn, h H0 O σ H xs en r Q q⟩
  · cases e
end
theorem unpS2_t {a b : PyData} {k : PyData → PyData → Prop} : unpS2W (.tuple [a, b]) k = k a b := rfl
theorem unpS2_l {a b : PyData} {k : PyData → PyData → Prop} : unpS2W (.list [a, b]) k = k a b := rfl
theorem unpS3_t {a b c : PyData} {k : PyData → PyData → PyData → Prop} : unpS3W (.tuple [a, b, c]) k = k a b c := rfl
theorem unpS3_l {a b c : PyData} {k : PyData → PyData → PyData → Prop} : unpS3W (.list [a, b, c]) k = k a b c := rfl
end Kz
set_option Elab.async false
set_option linter.all false
set_option maxRecDepth 100000
set_option maxHeartbeats 4000000
/-! Kz: max and min of a list or of a tuple of ints -/
namespace Kz
open PySem PySem.Spec PyProof.Rows L2
variable [GT]
theorem ints_at {ns : List Int} {its : List Value} (e : Vals (ns.map V.int) its) : ∀ (i : Nat) (v : Value), its.toArray[i]? = some v → ∃ t, v = Value.int (ns.getD i 0) t := fun i v hv => by
  have hv' : its[i]? = some v := by simpa using hv
  clear hv
  induction ns generalizing its i with
  | nil => cases e; simp at hv'
  | cons n ns ih =>
    cases e with
    | cons a b =>
      cases i with
      | zero =>
        obtain ⟨t, rfl⟩ := a
        simp at hv'
        exact ⟨t, hv'.symm⟩
      | succ i =>
        obtain ⟨t, rfl⟩ := ih b i (by simpa using hv')
        exact ⟨t, by simp⟩
section
variable {X : Cx}
def rMaxT (K : PySem.W.Frag) : List V → Hp → VK → Prop := fun vs H Q => ∃ (a : Addr) (ns : List Int), vs = [V.ref a] ∧ SqT K H a (ns.map V.int) ∧ 0 < ns.length ∧ ∀ m, m ∈ ns → (∀ y, y ∈ ns → y ≤ m) → Q (.int m) H
def rMinT (K : PySem.W.Frag) : List V → Hp → VK → Prop := fun vs H Q => ∃ (a : Addr) (ns : List Int), vs = [V.ref a] ∧ SqT K H a (ns.map V.int) ∧ 0 < ns.length ∧ ∀ m, m ∈ ns → (∀ y, y ∈ ns → m ≤ y) → Q (.int m) H
theorem getD_mem0 {ns : List Int} {i : Nat} (h : i < ns.length) : ns.getD i 0 ∈ ns := by
  rw [List.getD_eq_getElem?_getD, List.getElem?_eq_getElem h]
  exact List.getElem_mem h
theorem mem_getD0 {ns : List Int} {y : Int} (h : y ∈ ns) : ∃ i, i < ns.length ∧ ns.getD i 0 = y := by
  obtain ⟨i, hi, rfl⟩ := List.mem_iff_getElem.mp h
  exact ⟨i, hi, by rw [List.getD_eq_getElem?_getD, List.getElem?_eq_getElem hi]; rfl⟩
theorem cr_maxT (hc : X.calm = true) : CallR X (.builtin "max") (rMaxT X.K) := by
  intro pins s σ H vs us Q I r h
  obtain ⟨a, ns, rfl, hs, hn, q⟩ := h
  obtain ⟨its, rv, hl, _⟩ := I.tuple hs
  rw [Vals.ref1 r]
  have hlt : a < s.heap.objs.size := by obtain ⟨_, e, _⟩ := hl; exact Heap.lt_size e
  have hz : its.toArray.size = ns.length := by rw [List.size_toArray, ← rv.length, List.length_map]
  refine call_max_walk (iter_tuple hl ?_)
  refine ⟨_, _, _, _, _, _, _, rfl, Walks.tuple (A := X.A.in1) (I.ok.hd hc) _ a (Nat.ne_of_lt hlt) its.toArray, ⟨⟨_, Heap.get?_push_size _ rfl, rfl, rfl⟩, hl.push _⟩, fun b hb => ?_, by rw [hz]; exact hn, CmpOf.ints_gt (fun i => ns.getD i 0) (ints_at rv), fun v h' tk hv hk => ?_⟩
  · have e1 : (s.heap.push { cls := Value.type "tuple_iterator", data := Data.fields #[Value.ref a, Value.int 0 0] }).objs.size = s.heap.objs.size + 1 := by simp [Heap.push]
    refine Nat.lt_of_lt_of_eq (m := s.heap.objs.size + 1) ?_ e1.symm
    rcases List.mem_cons.mp hb with rfl | hb
    · omega
    · rcases List.mem_cons.mp hb with e2 | hb
      · rw [e2]; exact Nat.lt_succ_of_lt hlt
      · cases hb
  · obtain ⟨t, rfl⟩ := ints_at rv _ _ hv
    obtain ⟨g1, g2⟩ := argBest_gt (fun i => ns.getD i 0) (its.toArray.size - 1)
    refine ⟨.int _, H, I.kept fun b o eo => hk b o (fun hmem => ?_) (Heap.get?_push_of_some _ eo), ⟨t, rfl⟩, q _ (getD_mem0 (by omega)) fun y hy => ?_⟩
    · rcases List.mem_cons.mp hmem with e1 | hmem
      · exact absurd (e1 ▸ Heap.lt_size eo) (Nat.lt_irrefl _)
      · cases hmem
    · obtain ⟨j, hj, rfl⟩ := mem_getD0 hy
      exact g2 j (by omega)
theorem cr_minT (hc : X.calm = true) : CallR X (.builtin "min") (rMinT X.K) := by
  intro pins s σ H vs us Q I r h
  obtain ⟨a, ns, rfl, hs, hn, q⟩ := h
  obtain ⟨its, rv, hl, _⟩ := I.tuple hs
  rw [Vals.ref1 r]
  have hlt : a < s.heap.objs.size := by obtain ⟨_, e, _⟩ := hl; exact Heap.lt_size e
  have hz : its.toArray.size = ns.length := by rw [List.size_toArray, ← rv.length, List.length_map]
  refine call_min_walk (iter_tuple hl ?_)
  refine ⟨_, _, _, _, _, _, _, rfl, Walks.tuple (A := X.A.in1) (I.ok.hd hc) _ a (Nat.ne_of_lt hlt) its.toArray, ⟨⟨_, Heap.get?_push_size _ rfl, rfl, rfl⟩, hl.push _⟩, fun b hb => ?_, by rw [hz]; exact hn, CmpOf.ints_lt (fun i => ns.getD i 0) (ints_at rv), fun v h' tk hv hk => ?_⟩
  · have e1 : (s.heap.push { cls := Value.type "tuple_iterator", data := Data.fields #[Value.ref a, Value.int 0 0] }).objs.size = s.heap.objs.size + 1 := by simp [Heap.push]
    refine Nat.lt_of_lt_of_eq (m := s.heap.objs.size + 1) ?_ e1.symm
    rcases List.mem_cons.mp hb with rfl | hb
    · omega
    · rcases List.mem_cons.mp hb with e2 | hb
      · rw [e2]; exact Nat.lt_succ_of_lt hlt
      · cases hb
  · obtain ⟨t, rfl⟩ := ints_at rv _ _ hv
    obtain ⟨g1, g2⟩ := argBest_lt (fun i => ns.getD i 0) (its.toArray.size - 1)
    refine ⟨.int _, H, I.kept fun b o eo => hk b o (fun hmem => ?_) (Heap.get?_push_of_some _ eo), ⟨t, rfl⟩, q _ (getD_mem0 (by omega)) fun y hy => ?_⟩
    · rcases List.mem_cons.mp hmem with e1 | hmem
      · exact absurd (e1 ▸ Heap.lt_size eo) (Nat.lt_irrefl _)
      · cases hmem
    · obtain ⟨j, hj, rfl⟩ := mem_getD0 hy
      exact g2 j (by omega)
def rMaxS (K : PySem.W.Frag) : List V → Hp → VK → Prop := fun vs H Q => rMax K vs H Q ∨ rMaxT K vs H Q
def rMinS (K : PySem.W.Frag) : List V → Hp → VK → Prop := fun vs H Q => rMin K vs H Q ∨ rMinT K vs H Q
theorem cr_maxS (hc : X.calm = true) : CallR X (.builtin "max") (rMaxS X.K) := fun pins s σ H vs us Q I r h => h.elim (fun h => cr_max hc pins s σ H vs us Q I r h) fun h => cr_maxT hc pins s σ H vs us Q I r h
theorem cr_minS (hc : X.calm = true) : CallR X (.builtin "min") (rMinS X.K) := fun pins s σ H vs us Q I r h => h.elim (fun h => cr_min hc pins s σ H vs us Q I r h) fun h => cr_minT hc pins s σ H vs us Q I r h
variable {e : Expr} {te : TE} {p pos : Pos}
theorem pMaxS (K : PySem.W.Frag) (B : Bn X.mg) (hc : X.calm = true) (h : PE X e te) (hK : X.K = K := by rfl) (hg : Gl X "max" := by rfl) (he : starEach [e] X.env = (false, eval e X.env) :: starEach [] X.env := by rfl) : PE X (.Call (.Name "max" p) [e] [] pos) (tCB (rMaxS K) (tCons te tNil)) :=
  hK ▸ pe_callB (cr_maxS hc) hg B.max (by decide +kernel) (pa_cons h pa_nil he) (by decide) (by decide) he
theorem pMinS (K : PySem.W.Frag) (B : Bn X.mg) (hc : X.calm = true) (h : PE X e te) (hK : X.K = K := by rfl) (hg : Gl X "min" := by rfl) (he : starEach [e] X.env = (false, eval e X.env) :: starEach [] X.env := by rfl) : PE X (.Call (.Name "min" p) [e] [] pos) (tCB (rMinS K) (tCons te tNil)) :=
  hK ▸ pe_callB (cr_minS hc) hg B.min (by decide +kernel) (pa_cons h pa_nil he) (by decide) (by decide) he
end
def maxSW : PyData → W PyData
  | .list ds, P => match (intsOf ds).bind maxL with | some m => P (.int m) | none => False
  | .tuple ds, P => match (intsOf ds).bind maxL with | some m => P (.int m) | none => False
  | _, _ => False
def minSW : PyData → W PyData
  | .list ds, P => match (intsOf ds).bind minL with | some m => P (.int m) | none => False
  | .tuple ds, P => match (intsOf ds).bind minL with | some m => P (.int m) | none => False
  | _, _ => False
section
variable {K : PySem.W.Frag}
theorem b_maxS : B1 (rMaxS K) maxSW := fun p d P h H0 O σ ρ H vs e hv Q q => by
  cases d with
  | list ds => exact .inl (b_max p (.list ds) P h H0 O σ ρ H vs e hv Q q)
  | tuple ds =>
    obtain ⟨v, rfl, hw⟩ := hv.one_inv
    have h' : (match (intsOf ds).bind maxL with | some m => P (.int m) | none => False) := h
    split at h'
    · rename_i m hm
      obtain ⟨ns, hn, hm'⟩ := Option.bind_eq_some_iff.mp hm
      have := intsOf_eq hn
      subst this
      obtain ⟨g1, g2⟩ := maxL_ok hm'
      cases hw with | tup n ea r =>
        have er := r.ints_inv
        subst er
        refine .inr ⟨_, ns, rfl, .inl (.inl ea), List.length_pos_of_mem g1, fun m' hm' hy => ?_⟩
        have : m' = m := Int.le_antisymm (g2 m' hm') (hy m g1)
        subst this
        exact fin e q (.int _) h'
    · exact h'.elim
  | _ => exact h.elim
theorem b_minS : B1 (rMinS K) minSW := fun p d P h H0 O σ ρ H vs e hv Q q => by
  cases d with
  | list ds => exact .inl (b_min p (.list ds) P h H0 O σ ρ H vs e hv Q q)
  | tuple ds =>
    obtain ⟨v, rfl, hw⟩ := hv.one_inv
    have h' : (match (intsOf ds).bind minL with | some m => P (.int m) | none => False) := h
    split at h'
    · rename_i m hm
      obtain ⟨ns, hn, hm'⟩ := Option.bind_eq_some_iff.mp hm
      have := intsOf_eq hn
      subst this
      obtain ⟨g1, g2⟩ := minL_ok hm'
      cases hw with | tup n ea r =>
        have er := r.ints_inv
        subst er
        refine .inr ⟨_, ns, rfl, .inl (.inl ea), List.length_pos_of_mem g1, fun m' hm' hy => ?_⟩
        have : m' = m := Int.le_antisymm (hy m g1) (g2 m' hm')
        subst this
        exact fin e q (.int _) h'
    · exact h'.elim
  | _ => exact h.elim
end
end Kz
set_option Elab.async false
set_option linter.all false
set_option maxRecDepth 100000
set_option maxHeartbeats 4000000
/-! Kz: in and not in; dicts written out -/
namespace Kz
open PySem PySem.Spec PyProof.Rows L2
variable [GT]
section
variable {X : Cx}
def rInA (K : PySem.W.Frag) (neg : Bool) : R2 := fun x y H Q => ∃ d ds, Dp K H x d ∧ (Dp K H y (.list ds) ∨ Dp K H y (.tuple ds)) ∧ SeqAt.shaped d = true ∧ PyData.canLayAll0 ds = true ∧ PyData.depthAll ds ≤ 64 ∧ Q (.bl (if neg then !ds.any fun z => PyData.eqv z d else ds.any fun z => PyData.eqv z d)) H
theorem roomIn {A : Around} {d : PyData} {ds : List PyData} (h : PyData.depthAll ds ≤ 64) {k : Nat} (hr : Room k A) : A.units + 1 + min (PyData.depthAll ds) d.depth < cLine := by
  have := hr.un
  have : min (PyData.depthAll ds) d.depth ≤ PyData.depthAll ds := Nat.min_le_left ..
  omega
theorem opIn (K : PySem.W.Frag) {k : Nat} (hr : Room k X.A) (hK : X.K = K := by rfl) : OpR X (compareOp .In) (rInA K false) := by
  subst hK
  intro pins s σ H x y v u Q I rx ry h
  obtain ⟨d, ds, hd, he, sd, se, sz, q⟩ := h
  obtain ⟨as, r1⟩ := Dp.reads I d x v hd rx
  rcases he with he | he
  · obtain ⟨bs, r2⟩ := Dp.reads I (.list ds) y u he ry
    exact SeqAt.in_list_reads r2 r1 se (SeqAt.canLay_of_shaped sd) (roomIn sz hr) ⟨.bl _, H, I, rfl, q⟩
  · obtain ⟨bs, r2⟩ := Dp.reads I (.tuple ds) y u he ry
    exact SeqAt.in_tuple_reads r2 r1 se (SeqAt.canLay_of_shaped sd) (roomIn sz hr) ⟨.bl _, H, I, rfl, q⟩
theorem opNotIn (K : PySem.W.Frag) {k : Nat} (hr : Room k X.A) (hK : X.K = K := by rfl) : OpR X (compareOp .NotIn) (rInA K true) := by
  subst hK
  intro pins s σ H x y v u Q I rx ry h
  obtain ⟨d, ds, hd, he, sd, se, sz, q⟩ := h
  obtain ⟨as, r1⟩ := Dp.reads I d x v hd rx
  rcases he with he | he
  · obtain ⟨bs, r2⟩ := Dp.reads I (.list ds) y u he ry
    exact SeqAt.notIn_list_reads r2 r1 se (SeqAt.canLay_of_shaped sd) (roomIn sz hr) ⟨.bl _, H, I, rfl, q⟩
  · obtain ⟨bs, r2⟩ := Dp.reads I (.tuple ds) y u he ry
    exact SeqAt.notIn_tuple_reads r2 r1 se (SeqAt.canLay_of_shaped sd) (roomIn sz hr) ⟨.bl _, H, I, rfl, q⟩
end
def inOk (d : PyData) (ds : List PyData) : Bool := flatD d && !PyData.hasDictAll ds && PyData.canLayAll0 ds && decide (PyData.depthAll ds ≤ 64)
def inW (d : PyData) (c : PyData) : W PyData := fun P => match seqD c with | some ds => inOk d ds = true ∧ P (.bool (ds.any fun z => PyData.eqv z d)) | none => False
def notInW (d : PyData) (c : PyData) : W PyData := fun P => match seqD c with | some ds => inOk d ds = true ∧ P (.bool (!ds.any fun z => PyData.eqv z d)) | none => False
theorem inOk_inv {d : PyData} {ds : List PyData} (h : inOk d ds = true) : d.hasDict = false ∧ SeqAt.shaped d = true ∧ PyData.hasDictAll ds = false ∧ PyData.canLayAll0 ds = true ∧ PyData.depthAll ds ≤ 64 := by
  unfold inOk flatD at h
  simp only [Bool.and_eq_true, Bool.not_eq_true', decide_eq_true_eq] at h
  exact ⟨h.1.1.1.1, h.1.1.1.2, h.1.1.2, h.1.2, h.2⟩
theorem rs_in {K : PySem.W.Frag} : RS (rInA K false) inW := fun p d e P h H0 O σ ρ H x y en hx hy Q q => by
  unfold inW at h
  cases e with
  | list ds =>
    obtain ⟨ho, hp⟩ := h
    obtain ⟨h1, h2, h3, h4, h5⟩ := inOk_inv ho
    exact ⟨d, ds, hx.dp _ _ h1, .inl (hy.dp (.list ds) _ h3), h2, h4, h5, fin en q (.bl _) hp⟩
  | tuple ds =>
    obtain ⟨ho, hp⟩ := h
    obtain ⟨h1, h2, h3, h4, h5⟩ := inOk_inv ho
    exact ⟨d, ds, hx.dp _ _ h1, .inr (hy.dp (.tuple ds) _ h3), h2, h4, h5, fin en q (.bl _) hp⟩
  | _ => exact h.elim
theorem rs_notIn {K : PySem.W.Frag} : RS (rInA K true) notInW := fun p d e P h H0 O σ ρ H x y en hx hy Q q => by
  unfold notInW at h
  cases e with
  | list ds =>
    obtain ⟨ho, hp⟩ := h
    obtain ⟨h1, h2, h3, h4, h5⟩ := inOk_inv ho
    exact ⟨d, ds, hx.dp _ _ h1, .inl (hy.dp (.list ds) _ h3), h2, h4, h5, fin en q (.bl _) hp⟩
  | tuple ds =>
    obtain ⟨ho, hp⟩ := h
    obtain ⟨h1, h2, h3, h4, h5⟩ := inOk_inv ho
    exact ⟨d, ds, hx.dp _ _ h1, .inr (hy.dp (.tuple ds) _ h3), h2, h4, h5, fin en q (.bl _) hp⟩
  | _ => exact h.elim
/-! ### dicts written out -/
section
variable {p : Pm} {ρ : Rho} {tv : TE} {trs : List (TE × TE)}
theorem em_dict0 : EM p tDNewK ρ (fun P => P (.dict [])) := fun P hp H0 O σ H e Q q => fun a ha => finN e q ha (fun _ => .dct (fresh_so e ha) upd_same .nil) hp
/-- the values of a dict whose keys are written -/
def EPs (p : Pm) (ρ : Rho) (trs : List (TE × TE)) (ks : List Key) (m : W (List PyData)) : Prop :=
  ∀ P, m P → ∀ H0 O σ H, En p H0 O σ H ρ → ∀ Q : List (V × V) → Hp → Prop, (∀ kvs H2 ds, Kq p.Z H H2 → Ok p H2 → kvs.map (·.1) = ks → DvK (SO p O) H2 kvs ((ks.map keyD).zip ds) → ds.length = ks.length → P ds → Q (kvs.map fun kv => (kV kv.1, kv.2)) H2) → tPairs trs σ H Q
theorem DvK.kq {S : Addr → Prop} {H H' : Hp} {Z : Addr → Prop} {v : List (Key × V)} {d : List (PyData × PyData)} (h : DvK S H v d) (k : Kq Z H H') (hz : ∀ a, Z a → S a) : DvK S H' v d := DvK.map (fun _ n _ => n) (fun a o n e t => k.at_ a o (fun z => n (hz a z)) e t) _ _ h
theorem eps_nil : EPs p ρ [] [] (fun P => P []) := fun P hp H0 O σ H e Q q => q [] H [] (Kq.refl H) e.ok rfl .nil rfl hp
theorem eps_cons {ks : List Key} {m : W PyData} {mr : W (List PyData)} (k : Key) (h : EM p tv ρ m) (hr : EPs p ρ trs ks mr) : EPs p ρ ((tC (kV k), tv) :: trs) (k :: ks) (fun P => m fun d => mr fun ds => P (d :: ds)) := fun P hp H0 O σ H e Q q => by
  refine h _ hp H0 O σ H e _ fun v H2 d k2 o2 hd pd => ?_
  have e2 := e.kq k2 o2
  refine hr _ pd H0 O σ H2 e2 _ fun kvs H3 ds k3 o3 hk hv hl hp => ?_
  exact q ((k, v) :: kvs) H3 (d :: ds) (k2.trans k3) o3 (by rw [List.map_cons, hk]) (.cons (hd.kq k3 so_z) hv) (by rw [List.length_cons, List.length_cons, hl]) hp
theorem merge_nd : ∀ (kvs acc : List (Key × V)), ((acc ++ kvs).map (·.1)).Nodup → mergeK acc kvs = acc ++ kvs
  | [], acc, _ => by simp [mergeK]
  | (k, v) :: kvs, acc, h => by
    have h1 : valV acc k = none := by
      cases e : valV acc k with
      | none => rfl
      | some y =>
        have := valV_in e
        rw [List.map_append, List.map_cons] at h
        have := (List.nodup_append.mp h).2.2 _ this k (List.mem_cons_self ..)
        exact absurd rfl this
    have h2 : mergeK acc ((k, v) :: kvs) = mergeK (putK acc k v) kvs := rfl
    rw [h2, putK_new v h1, merge_nd kvs (acc ++ [(k, v)]) (by simpa using h)]
    simp
theorem En.plus {H0 : Bs} {O : Addr → Prop} {σ : L2.St} {H : Hp} (e : En p H0 O σ H ρ) {a : Addr} {o : HO} (ha : H a = none) (ho : NT o) : En p H0 (fun x => O x ∨ x = a) σ (upd H a o) ρ := by
  have k : Kp H (upd H a o) := Kq.new ha
  have nS := fresh_so e ha
  have off : ∀ {b : Addr} {u : HO}, H b = some u → upd H a o b = some u := fun {b u} h => by rw [upd_ne (fun z => by rw [z, ha] at h; cases h)]; exact h
  refine ⟨e.fr.trans k.up, e.ok.kp k, fun b z => ?_, ?_, e.ln⟩
  · rcases z with z | rfl
    · obtain ⟨n, ns, x, h, t⟩ := e.ow b z
      exact ⟨n, ns, x, off h, t⟩
    · exact ⟨.inr (e.fr.back ha), fun z => nS (.inl z), o, upd_same, ho⟩
  · obtain ⟨ad, g1, g2⟩ := e.sl
    refine ⟨ad, fun i s h => (g1 i s h).to (fun b n q z => ?_) (fun _ z => .inl z) (fun b u n q t => off q) (fun b z _ u q t => off q), g2⟩
    rcases z with z | z | rfl
    · exact n (.inl z)
    · exact n (.inr z)
    · exact q ha
theorem em_disp {ks : List Key} {m : W (List PyData)} (h : EPs p ρ trs ks m) (nd : ks.Nodup := by decide) (hl : ks.length ≤ 15 := by decide) : EM p (tDisp trs) ρ (fun P => m fun ds => P (.dict ((ks.map keyD).zip ds))) := fun P hp H0 O σ H e Q q => fun a ha => by
  have e1 := e.plus ha (o := .dK []) nt_dK
  have nS := fresh_so e ha
  refine h _ hp H0 _ σ _ e1 _ fun kvs H2 ds k2 o2 hk hv hl2 pd => ?_
  have h2 : H2 a = some (.dK []) := k2.at_ a _ (fun z => nS (so_z a z)) upd_same nt_dK
  refine ⟨h2, kvs, rfl, by rw [← List.length_map (f := (·.1)), hk]; exact hl, ?_⟩
  rw [merge_nd kvs [] (by rw [List.nil_append, hk]; exact nd), List.nil_append]
  have kk : Kq p.Z H H2 := (Kq.new ha).trans k2
  have ko : ∀ b, p.S b → upd H2 a (.dK kvs) b = H2 b := fun b z => upd_ne fun q => nS (.inl (q ▸ z))
  have okf : Ok p (upd H2 a (.dK kvs)) := by
    refine ⟨fun b z => by rw [ko b z]; exact o2.tr b z, fun P hP => ?_, p.ms _ _ o2.mm ko⟩
    exact (o2.tb P hP).ne h2 nt_dK nc_dK
  refine q _ _ _ (Kq.own kk ha h2 nt_dK nc_dK) okf (.dct nS upd_same (DvK.map (fun b n _ z => ?_) (fun b u n q t => ?_) _ _ hv)) pd
  · exact n (z.elim .inl fun z => .inr (.inl z))
  · rw [upd_ne (fun z => n (.inr (.inr z)))]; exact q
end
end Kz
set_option Elab.async false
set_option linter.all false
set_option maxRecDepth 100000
set_option maxHeartbeats 4000000
/-! Kz: several targets at once; items taken out beside other things -/
namespace Kz
open PySem PySem.Spec PyProof.Rows L2
variable [GT]
theorem DvL.set {S : Addr → Prop} {H : Hp} {v : V} {d : PyData} (hd : Dv S H v d) : ∀ {vs : List V} {ds : List PyData} (m : Nat), DvL S H vs ds → DvL S H (vs.set m v) (ds.set m d) := by
  intro vs ds m h
  induction ds generalizing vs m with
  | nil => cases h; exact .nil
  | cons x ds ih =>
    cases h with
    | cons h1 h2 =>
      cases m with
      | zero => exact .cons hd h2
      | succ m => exact .cons h1 (ih m h2)
section
variable {p : Pm} {ρ : Rho} {te ta tb tc ti tj tk : TE} {m m1 m2 m3 mi mj : W PyData} {tw : TS} {w : Po} {K : PySem.W.Frag} {N : Rho → Prop} {gs : TGs} {ds : List PyData} {d : PyData}
/-- targets, one after another: what stands then -/
def GsW (p : Pm) (gs : TGs) (ds : List PyData) (ρ : Rho) (N : Rho → Prop) : Prop := ∀ H0 O σ H xs, En p H0 O σ H ρ → DvL (SO p O) H xs ds → ∀ Q : L2.St → Hp → Prop, (∀ σ' H' ρ', En p H0 O σ' H' ρ' → N ρ' → Q σ' H') → gs xs σ H Q
theorem gs_done (h : N ρ) : GsW p gNil [] ρ N := fun H0 O σ H xs e hx Q q => by
  cases hx
  exact ⟨rfl, q σ H ρ e h⟩
theorem gs_name {i : Nat} (h : GsW p gs ds (ρ.set i (some (.dat d))) N) : GsW p (gCons (gName i) gs) (d :: ds) ρ N := fun H0 O σ H xs e hx Q q => by
  cases hx with
  | cons hd hr => exact ⟨_, _, rfl, h H0 O _ H _ (e.set hd) hr Q q⟩
theorem gs_itemL {i : Nat} {es : List PyData} {K' : List PyData → Prop} (hi : ρ[i]? = some (some (.own (oL es)))) (hx : EM p ti ρ mi) (h : mi fun x => ixD es.length x fun n => letW (fun P => P (es.set n d)) K') (k : ∀ es', K' es' → GsW p gs ds (ρ.set i (some (.own (oL es')))) N) :
    GsW p (gCons (gSub (tVar i) ti rSetL) gs) (d :: ds) ρ N := fun H0 O σ H xs e hxs Q q => by
  cases hxs with
  | @cons v _ vs' _ hd hr =>
  refine ⟨_, _, rfl, ?_⟩
  obtain ⟨a, vs, as, q1, ea, _⟩ := e.root (bs := []) hi (Kq.refl H) e.ok (by simp) (by simp)
  refine ⟨_, q1, hx _ h H0 O σ H e _ fun xi H5 dx k5 o5 hdx px => ?_⟩
  obtain ⟨ii, n1, rfl, hn1, px⟩ := ixD_inv px
  cases hdx
  have e0 : (fun a => O a ∨ a ∈ ([] : List Addr)) = O := funext fun a => propext ⟨fun z => z.elim id (by simp), .inl⟩
  obtain ⟨a', vs', as', q1', ea', ea5, r5, na, hO, nb, nab, fin⟩ := e.root (bs := []) hi k5 o5 (by simp) (by simp)
  rw [q1] at q1'
  cases q1'
  rw [ea] at ea'
  cases ea'
  obtain ⟨rfl, rd⟩ := OwL.dats_inv r5
  have upS : ∀ {v : V} {d : PyData} {H : Hp}, Dv (SO p O) H v d → Dv (fun a => SO p O a ∨ a ∈ ([] : List Addr)) H v d := fun h => h.map (fun a n _ z => z.elim n (by simp)) fun _ _ _ e _ => e
  have ef := fin (vs.set n1 v) ((es.set n1 d).map .dat) [] (OwL.dats (DvL.set (upS (hd.kq k5 so_z)) n1 rd)) (by simp)
  rw [e0] at ef
  refine ⟨a, vs, ii, n1, rfl, rfl, ea5, by rw [rd.length]; exact hn1, ?_⟩
  refine k _ px H0 O σ _ _ ef ((hr.kq k5 so_z).map (fun _ n _ => n) fun x o n eo _ => by rw [upd_ne fun y => n (.inr (by rw [y]; exact hO))]; exact eo) Q q
/-- x[i][j] -/
theorem gs_item2 {i : Nat} {rs : List (List PyData)} {K' : List (List PyData) → Prop} (hi : ρ[i]? = some (some (.own (oLL rs)))) (hx : EM p ti ρ mi) (hj : EM p tj ρ mj) (h : mi fun x => atRow rs x fun n r => mj fun y => ixD r.length y fun l => letW (fun P => P (rs.set n (r.set l d))) K') (k : ∀ es', K' es' → GsW p gs ds (ρ.set i (some (.own (oLL es')))) N) :
    GsW p (gCons (gSub (tOp (rIx K) (tVar i) ti) tj rSetL) gs) (d :: ds) ρ N := fun H0 O σ H xs e hxs Q q => by
  cases hxs with
  | @cons v _ vsr _ hd hr =>
  refine ⟨_, _, rfl, ?_⟩
  obtain ⟨ad, g1, g2⟩ := e.sl
  obtain ⟨v0, q1, _⟩ := g1 i _ hi
  refine ⟨_, q1, hx _ h H0 O σ H e _ fun u H3 di k3 o3 hdi pi => ?_⟩
  have e3 := e.kq k3 o3
  obtain ⟨ii, n0, row, rfl, hn0, hrow, pi⟩ := atRow_inv pi
  cases hdi
  obtain ⟨v1, as1, s1, ow3, _, hO3, hZ3, _, _⟩ := e3.edit (bs := []) hi (Kq.refl H3) o3 (by simp) (by simp)
  rw [q1] at s1
  cases s1
  cases ow3 with
  | @lst a vs _ as ea r3 na =>
    obtain ⟨vb, cs, c1, c2, c3, _⟩ := r3.get (show (rs.map oL)[n0]? = some (oL row) by rw [List.getElem?_map, hrow]; rfl)
    cases c2 with
    | @lst bb ws _ es eb rb nb =>
      have hvl : vs.length = rs.length := by rw [r3.length, List.length_map]
      refine .inl ⟨a, vs, ii, .ref bb, rfl, rfl, .inl (.inl ea), by unfold atI; rw [hvl, hn0]; exact c1, ?_⟩
      refine hj _ pi H0 O σ H3 e3 _ fun uj H4 dj k4 o4 hdj pj => ?_
      obtain ⟨jj, l0, rfl, hl0, pj⟩ := ixD_inv pj
      cases hdj
      have e4 := e3.kq k4 o4
      obtain ⟨v1', as1', s1', ow4, _, hO4, hZ4, _, fin⟩ := e4.edit (bs := []) hi (Kq.refl H4) o4 (by simp) (by simp)
      rw [q1] at s1'
      cases s1'
      have eb4 : H4 bb = some (.lst ws) := k4.at_ bb _ (hZ3 bb (List.mem_cons_of_mem _ (c3 bb (by simp)))) eb nt_lst
      have ea4 : H4 a = some (.lst vs) := k4.at_ a _ (hZ3 a (by simp)) ea nt_lst
      cases ow4 with
      | @lst _ vs4 _ as4 ea4' r4 na4 =>
        rw [ea4] at ea4'
        cases ea4'
        obtain ⟨vb4, cs4, d1, d2, d3, d4⟩ := r4.get (show (rs.map oL)[n0]? = some (oL row) by rw [List.getElem?_map, hrow]; rfl)
        rw [c1] at d1
        cases d1
        cases d2 with
        | @lst _ ws4 _ es4 eb4' rb4 nb4 =>
          rw [eb4] at eb4'
          cases eb4'
          obtain ⟨rfl, rd⟩ := OwL.dats_inv rb4
          have hd4 := (hd.kq k3 so_z).kq k4 so_z
          have hbO : O bb := hO4 bb (List.mem_cons_of_mem _ (d3 bb (by simp)))
          have rd' : DvL (SO p O) H4 (ws.set l0 v) (row.set l0 d) := DvL.set hd4 l0 rd
          refine ⟨bb, ws, jj, l0, rfl, rfl, eb4, by rw [rd.length]; exact hl0, ?_⟩
          have off : ∀ (x : Addr) (o : HO), ¬ (fun a => SO p O a ∨ a ∈ ([] : List Addr)) x → H4 x = some o → NT o → upd H4 bb (.lst (ws.set l0 v)) x = some o := fun x o n q _ => by
            rw [upd_ne fun y => n (.inl (.inr (by rw [y]; exact hbO)))]; exact q
          have hS : ∀ x, ¬ SO p O x → H4 x ≠ none → ¬ (fun a => SO p O a ∨ a ∈ ([] : List Addr)) x := fun x n _ z => z.elim n (by simp)
          obtain ⟨dds, f1, f2⟩ := d4 (fun a => SO p O a ∨ a ∈ ([] : List Addr)) (upd H4 bb (.lst (ws.set l0 v))) (.ref bb) (oL (row.set l0 d)) [bb] hS (fun x o n q t => off x o (fun z => z.elim n (by simp)) q t)
            (fun x mx nx o q _ => by rw [upd_ne fun y => nx (by rw [y]; simp)]; exact q)
            (.lst upd_same (OwL.dats (rd'.map hS fun x o n q t => off x o (fun z => z.elim n (by simp)) q t)) (by simp)) (fun x mx => .inr mx)
          have hab : a ≠ bb := fun y => na4 (by rw [y]; exact d3 bb (by simp))
          refine k _ pj H0 O σ _ _ ?_ (((hr.kq k3 so_z).kq k4 so_z).map (fun _ n _ => n) fun x o n eo _ => by rw [upd_ne fun y => n (.inr (by rw [y]; exact hbO))]; exact eo) Q q
          have ef := fin bb (.lst (ws.set l0 v)) (oLL (rs.set n0 (row.set l0 d))) (a :: dds) (List.mem_cons_of_mem _ (d3 bb (by simp))) (.inl ⟨_, rfl⟩) (.lst (by rw [upd_ne hab]; exact ea4) ?_ fun z => ?_) fun x mx => ?_
          · have : (fun a => O a ∨ a ∈ ([] : List Addr)) = O := funext fun a => propext ⟨fun z => z.elim id (by simp), .inl⟩
            rw [this] at ef
            exact ef
          · have hvs : vs.set n0 (.ref bb) = vs := set_self c1
            rw [hvs, map_set] at f1
            exact f1
          · rcases f2 a z with y | y
            · exact na4 y.1
            · exact hab (by simpa using y)
          · left
            rcases List.mem_cons.mp mx with y | y
            · rw [y]; simp
            · refine List.mem_cons_of_mem _ ?_
              rcases f2 x y with z | z
              · exact z.1
              · have : x = bb := by simpa using z
                rw [this]; exact d3 bb (by simp)
/-- several things go to several targets -/
theorem rx_stN {t : TA} {n : Nat} {ma : W (List PyData)} {K' : List PyData → Prop} (he : EA p t ρ ma) (h : ma K') (hl : ∀ ds, K' ds → ds.length = n) (hn : n ≤ 1000) (k : ∀ ds, K' ds → GsW p gs ds ρ fun ρ' => Rn p tw ρ' w) : Rn p (tSeq (tAsg (tTup t) (gTup K n gs)) tw) ρ w := fun H0 O σ H D e nx rt bk ct => by
  refine he _ h H0 O σ H e _ fun vs H2 ds k2 o2 hd pd => ?_
  have e2 := e.kq k2 o2
  refine ⟨Nat.le_trans (by rw [hd.length, hl _ pd]; exact hn) (by decide), fun l nl => ?_⟩
  have kn : Kp H2 (upd H2 l (.tup vs)) := Kq.new nl
  refine ⟨l, vs, rfl, .inl (.inl upd_same), by rw [hd.length, hl _ pd], ?_⟩
  exact k ds pd H0 O σ _ vs (e2.kp kn) (hd.kp kn) _ fun σ' H' ρ' e' q => q H0 O σ' H' D e' nx rt bk ct
theorem rx_st2 {K' : PyData → PyData → Prop} (h1 : EM p ta ρ m1) (h2 : EM p tb ρ m2) (h : letW2 m1 m2 K') (k : ∀ d e, K' d e → GsW p gs [d, e] ρ fun ρ' => Rn p tw ρ' w) : Rn p (tSeq (tAsg (tTup (tCons ta (tCons tb tNil))) (gTup K 2 gs)) tw) ρ w :=
  rx_stN (K' := fun ds => ∃ d e, ds = [d, e] ∧ K' d e) (ea_cons h1 (ea_cons h2 ea_nil)) (by
    have : (fun x => m2 fun y => K' x y) = (fun d => m2 fun e => ∃ d' e', [d, e] = [d', e'] ∧ K' d' e') := funext fun d => congrArg m2 (funext fun e => propext ⟨fun q => ⟨d, e, rfl, q⟩, fun ⟨d', e', q1, q2⟩ => by cases q1; exact q2⟩)
    show m1 _
    rw [← this]
    exact h) (fun ds ⟨d, e, q, _⟩ => by rw [q]; rfl) (by decide) fun ds ⟨d, e, q, q2⟩ => by rw [q]; exact k d e q2
theorem rx_st3 {K' : PyData → PyData → PyData → Prop} (h1 : EM p ta ρ m1) (h2 : EM p tb ρ m2) (h3 : EM p tc ρ m3) (h : letW3 m1 m2 m3 K') (k : ∀ d e f, K' d e f → GsW p gs [d, e, f] ρ fun ρ' => Rn p tw ρ' w) : Rn p (tSeq (tAsg (tTup (tCons ta (tCons tb (tCons tc tNil)))) (gTup K 3 gs)) tw) ρ w :=
  rx_stN (K' := fun ds => ∃ d e f, ds = [d, e, f] ∧ K' d e f) (ea_cons h1 (ea_cons h2 (ea_cons h3 ea_nil))) (by
    have : (fun x => m2 fun y => m3 fun z => K' x y z) = (fun d => m2 fun e => m3 fun f => ∃ d' e' f', [d, e, f] = [d', e', f'] ∧ K' d' e' f') := funext fun d => congrArg m2 (funext fun e => congrArg m3 (funext fun f => propext ⟨fun q => ⟨d, e, f, rfl, q⟩, fun ⟨d', e', f', q1, q2⟩ => by cases q1; exact q2⟩))
    show m1 _
    rw [← this]
    exact h) (fun ds ⟨d, e, f, q, _⟩ => by rw [q]; rfl) (by decide) fun ds ⟨d, e, f, q, q2⟩ => by rw [q]; exact k d e f q2
/-- row, x = (l.pop(k), e) -/
theorem rx_popPair {i j l : Nat} {es : List PyData} {K' : PyData × List PyData → Prop} (hl : ρ[l]? = some (some (.own (oL es)))) (hk : EM p tk ρ m) (h : letW (fun P => m fun x => popW es x fun d es' => P (d, es')) K')
    (k : ∀ q, K' q → ∃ (mb : W PyData) (K2 : PyData → Prop), EM p tb (ρ.set l (some (.own (oL q.2)))) mb ∧ letW mb K2 ∧ ∀ y, K2 y → Rn p tw (((ρ.set l (some (.own (oL q.2)))).set i (some (.dat q.1))).set j (some (.dat y))) w) :
    Rn p (tSeq (tAsg (tTup (tCons (tBM K "list" rPopAt (tVar l) (tCons tk tNil)) (tCons tb tNil))) (gTup K 2 (gCons (gName i) (gCons (gName j) gNil)))) tw) ρ w := by
  refine rm_popPair (P := fun d ρ' => ∃ es', ρ' = ρ.set l (some (.own (oL es'))) ∧ K' (d, es')) (es_pop hl hk ?_) fun d ρ' ⟨es', e, q⟩ => ?_
  · have : (fun x => popW es x fun d es' => ∃ es'', ρ.set l (some (.own (oL es'))) = ρ.set l (some (.own (oL es''))) ∧ K' (d, es'')) = (fun x => popW es x fun d es' => K' (d, es')) := funext fun x => by
      congr 1
      funext d es'
      have hlen := (List.getElem?_eq_some_iff.mp hl).1
      exact propext ⟨fun ⟨es'', e, q⟩ => by
        have := congrArg (fun r : Rho => r[l]?) e
        simp only [List.getElem?_set_self hlen, Option.some.injEq, Sl.own.injEq] at this
        rw [oL_inj this]; exact q, fun q => ⟨_, rfl, q⟩⟩
    rw [this]
    exact h
  · subst e
    obtain ⟨mb, K2, h1, h2, h3⟩ := k _ q
    exact ⟨mb, K2, h1, h2, h3⟩
/-- f.append(l.pop(k)) -/
theorem rx_appendPop {i l : Nat} {es fs : List PyData} {K' : List PyData × List PyData → Prop} (hi : ρ[i]? = some (some (.own (oL fs)))) (hl : ρ[l]? = some (some (.own (oL es)))) (hil : l ≠ i) (hk : EM p tk ρ m)
    (h : letW (fun P => m fun x => popW es x fun d es' => fs.length ≤ 1000000 ∧ P (fs ++ [d], es')) K') (k : ∀ q, K' q → Rn p tw ((ρ.set l (some (.own (oL q.2)))).set i (some (.own (oL q.1)))) w) :
    Rn p (tSeq (tDrop (tBM K "list" rAppend (tVar i) (tCons (tBM K "list" rPopAt (tVar l) (tCons tk tNil)) tNil))) tw) ρ w := by
  refine rm_appendS (K' := fun es' ρ' => ∃ x, ρ' = ρ.set l (some (.own (oL x))) ∧ K' (es', x)) (P := fun d ρ' => ∃ x, ρ' = ρ.set l (some (.own (oL x))) ∧ fs.length ≤ 1000000 ∧ K' (fs ++ [d], x)) hi (es_pop hl hk ?_) (fun d ρ' ⟨x, e, q1, q2⟩ => ?_) fun es' ρ' ⟨x, e, q⟩ => ?_
  · have : (fun x => popW es x fun d es' => ∃ x, ρ.set l (some (.own (oL es'))) = ρ.set l (some (.own (oL x))) ∧ fs.length ≤ 1000000 ∧ K' (fs ++ [d], x)) = (fun x => popW es x fun d es' => fs.length ≤ 1000000 ∧ K' (fs ++ [d], es')) := funext fun x => by
      congr 1
      funext d es'
      have hlen := (List.getElem?_eq_some_iff.mp hl).1
      exact propext ⟨fun ⟨es'', e, q⟩ => by
        have := congrArg (fun r : Rho => r[l]?) e
        simp only [List.getElem?_set_self hlen, Option.some.injEq, Sl.own.injEq] at this
        rw [oL_inj this]; exact q, fun q => ⟨_, rfl, q⟩⟩
    rw [this]
    exact h
  · subst e
    exact ⟨by rw [List.getElem?_set_ne hil]; exact hi, q1, x, rfl, q2⟩
  · subst e
    exact k _ q
/-- x.upper() -/
def upperW : PyData → W PyData
  | .str x => fun P => x.length ≤ 5592405 ∧ P (.str (Txt.upper x))
  | _ => fun _ => False
theorem em_upper (h : EM p ta ρ m) : EM p (tM0 (fun x xs H Q => ∃ a, x = .str a ∧ xs = [] ∧ a.length ≤ 5592405 ∧ Q (.str (Txt.upper a)) H) ta) ρ (fun P => m fun x => upperW x P) := fun P hp H0 O σ H e Q q => by
  refine h _ hp H0 O σ H e _ fun v H2 d k2 o2 hd pd => ?_
  cases d with
  | str x =>
    cases hd
    exact ⟨⟨x, rfl⟩, x, rfl, rfl, pd.1, q _ H2 _ k2 o2 (.str _) pd.2⟩
  | _ => exact pd.elim
end
end Kz
set_option Elab.async false
set_option linter.all false
set_option maxRecDepth 100000
set_option maxHeartbeats 4000000
/-! Kz: is and is not between bools -/
namespace Kz
open PySem PySem.Spec PyProof.Rows L2
variable [GT]
def isBW : PyData → PyData → W PyData
  | .bool a, .bool b, P => P (.bool (decide (a = b)))
  | _, _, _ => False
def isNotBW : PyData → PyData → W PyData
  | .bool a, .bool b, P => P (.bool (!decide (a = b)))
  | _, _, _ => False
theorem isB_inv {d e : PyData} {P : PyData → Prop} (h : isBW d e P) : ∃ a b, d = .bool a ∧ e = .bool b ∧ P (.bool (decide (a = b))) := by
  cases d <;> cases e <;> first | exact h.elim | exact ⟨_, _, rfl, rfl, h⟩
theorem isNotB_inv {d e : PyData} {P : PyData → Prop} (h : isNotBW d e P) : ∃ a b, d = .bool a ∧ e = .bool b ∧ P (.bool (!decide (a = b))) := by
  cases d <;> cases e <;> first | exact h.elim | exact ⟨_, _, rfl, rfl, h⟩
theorem rs_isB : RS rIsB isBW := fun p d e P h H0 O σ ρ H x y en hx hy Q q => by
  obtain ⟨a, b, rfl, rfl, hp⟩ := isB_inv h
  cases hx; cases hy
  exact ⟨a, b, rfl, rfl, fin en q (.bl _) hp⟩
theorem rs_isNotB : RS rNotB isNotBW := fun p d e P h H0 O σ ρ H x y en hx hy Q q => by
  obtain ⟨a, b, rfl, rfl, hp⟩ := isNotB_inv h
  cases hx; cases hy
  exact ⟨a, b, rfl, rfl, fin en q (.bl _) hp⟩
theorem isB_b {a b : Bool} {P : PyData → Prop} : isBW (.bool a) (.bool b) P = P (.bool (decide (a = b))) := rfl
theorem isNotB_b {a b : Bool} {P : PyData → Prop} : isNotBW (.bool a) (.bool b) P = P (.bool (!decide (a = b))) := rfl
end Kz
set_option Elab.async false
set_option linter.all false
set_option maxRecDepth 100000
set_option maxHeartbeats 4000000
/-! Kz: isqrt -/
namespace Kz
open PySem PySem.Spec PyProof.Rows L2
variable [GT]
section
variable {X : Cx}
def rIsq : List V → Hp → VK → Prop := fun vs H Q => ∃ a : Int, vs = [.int a] ∧ 0 ≤ a ∧ a < 2 ^ 64 ∧ Q (.int ((Float64.isqrt a.toNat : Nat) : Int)) H
theorem cr_isqrt : CallR X (.builtin "math.isqrt") rIsq := by
  intro pins s σ H vs us Q I r h
  obtain ⟨a, rfl, h0, h1, q⟩ := h
  cases r with
  | cons rv rn =>
  cases rn
  obtain ⟨t, rfl⟩ := rv
  exact PySem.W.mg_isqrt h0 h1 ⟨.int _, H, I.tok _, ⟨_, rfl⟩, q⟩
variable {a : Expr} {ta : TE} {p pos : Pos}
theorem pIsqrt (hm : X.mg "isqrt" = some (.builtin "math.isqrt")) (h : PE X a ta) (hg : Gl X "isqrt" := by rfl) (he : starEach [a] X.env = (false, eval a X.env) :: starEach [] X.env := by rfl)
    (hpl : (backTo pos (starEach [] X.env)).any (·.1) = false := by rfl) : PE X (.Call (.Name "isqrt" p) [a] [] pos) (tCB rIsq (tCons ta tNil)) := pe_callBfun cr_isqrt hg hm (pa_cons h pa_nil he) (by decide) he hpl
end
def isqrtW : PyData → W PyData
  | .int i, P => (0 ≤ i ∧ i < 2 ^ 64) ∧ P (.int ((Float64.isqrt i.toNat : Nat) : Int))
  | _, _ => False
theorem b_isqrt : B1 rIsq isqrtW := fun p d P h H0 O σ ρ H vs e hv Q q => by
  obtain ⟨v, rfl, hw⟩ := hv.one_inv
  cases d with
  | int i => cases hw; exact ⟨i, rfl, h.1.1, h.1.2, fin e q (.int _) h.2⟩
  | _ => exact h.elim
theorem isqrt_i {i : Int} {P : PyData → Prop} (h0 : 0 ≤ i) (h1 : i < 2 ^ 64) (hp : ∀ q : Nat, (q : Int) * q ≤ i → i < ((q : Int) + 1) * (q + 1) → P (.int (q : Int))) : isqrtW (.int i) P := by
  have s := Float64.isqrt_spec i.toNat
  refine ⟨⟨h0, h1⟩, hp _ ?_ ?_⟩
  · have := s.1
    have e : ((Float64.isqrt i.toNat * Float64.isqrt i.toNat : Nat) : Int) = (Float64.isqrt i.toNat : Int) * (Float64.isqrt i.toNat : Int) := Int.natCast_mul _ _
    omega
  · have := s.2
    have e : (((Float64.isqrt i.toNat + 1) * (Float64.isqrt i.toNat + 1) : Nat) : Int) = ((Float64.isqrt i.toNat : Int) + 1) * ((Float64.isqrt i.toNat : Int) + 1) := by rw [Int.natCast_mul]; rfl
    omega
end Kz
set_option Elab.async false
set_option linter.all false
set_option maxRecDepth 100000
set_option maxHeartbeats 4000000
/-! Kz: xs[j] += e for an own list of numbers -/
namespace Kz
open PySem PySem.Spec PyProof.Rows L2
variable [GT]
section
variable {X : Cx}
theorem get_list (K : PySem.W.Frag) (hK : X.K = K := by rfl) : PGet X (rIxL K) := by
  subst hK
  intro pins s σ H x y v u Q I rx ry h
  obtain ⟨p, xs, i, z, rfl, rfl, hq, he, q⟩ := h
  cases rx
  obtain ⟨t, rfl⟩ := ry
  obtain ⟨its, r, pl, hz⟩ := I.list hq
  obtain ⟨j, h1, h2, h3, h4, h5⟩ := atI_get he
  obtain ⟨w, ew, rw'⟩ := r.get h2
  have hl := r.length
  have hn := line63
  have fin : EP X pins σ Q w s := ⟨z, H, I, rw', q⟩
  by_cases h0 : 0 ≤ i
  · have hj : i.toNat = j := by
      rw [seqIndex_of h0 h5] at h1
      exact Option.some.inj h1
    exact wpAny_getItem_list pl.isList h0 (by omega) (by rw [hj]; simpa using ew) fin
  · have hj : (i + (its.toArray.size : Int)).toNat = j := by
      rw [seqIndex_neg (by omega) h4] at h1
      rw [List.size_toArray, ← hl]
      exact Option.some.inj h1
    exact wpAny_getItem_list_neg pl.isList (by omega) (by rw [List.size_toArray] <;> omega) (by omega) (by rw [hj]; simpa using ew) fin
end
/-- xs[j] += e -/
def augIxW (ds : List PyData) (j : PyData) (m : W PyData) (K' : List PyData → Prop) : Prop := ixD ds.length j fun n => match ds[n]? with
  | some (.int a) => m fun y => match y with | .int b => K' (ds.set n (.int (a + b))) | _ => False
  | _ => False
section
variable {p : Pm} {ρ : Rho} {w : Po} {te tj : TE} {tw : TS} {m mj : W PyData} {K : PySem.W.Frag}
theorem rm_augIx {i : Nat} {ds : List PyData} {K' : List PyData → Prop} (hi : ρ[i]? = some (some (.own (oL ds)))) (hj : EM p tj ρ mj) (he : EM p te ρ m) (h : mj fun j => augIxW ds j m K') (k : ∀ es, K' es → Rn p tw (ρ.set i (some (.own (oL es)))) w) :
    Rn p (tSeq (tAugS (tVar i) tj te (rIxL K) (ipI fun i j => i + j) rSetL) tw) ρ w := fun H0 O σ H D e n r b c => by
  obtain ⟨a, vs, as, q1, ea, _⟩ := e.root (bs := []) hi (Kq.refl H) e.ok (by simp) (by simp)
  refine ⟨_, q1, hj _ h H0 O σ H e _ fun u H2 dj k2 o2 hd pj => ?_⟩
  obtain ⟨ji, jm, rfl, hjm, pk⟩ := ixD_inv pj
  cases hd
  have e2 := e.kq k2 o2
  obtain ⟨a', vs', as', q1', _, ea2, r2, _⟩ := e.root (bs := []) hi k2 o2 (by simp) (by simp)
  rw [q1] at q1'
  cases q1'
  obtain ⟨rfl, rd⟩ := OwL.dats_inv r2
  cases hv : ds[jm]? with
  | none => rw [hv] at pk; exact pk.elim
  | some d =>
    rw [hv] at pk
    cases d with
    | int x =>
      obtain ⟨v, hvv, dv⟩ := rd.getD hv
      cases dv
      refine ⟨a, vs', ji, .int x, rfl, rfl, .inl (.inl ea2), by unfold atI; rw [rd.length, hjm]; exact hvv, he _ pk H0 O σ H2 e2 _ fun y H3 dy k3 o3 hy py => ?_⟩
      cases dy with
      | int z =>
        cases hy
        refine ⟨x, z, rfl, rfl, ?_⟩
        obtain ⟨a3, vs3, as3, q3, _, ea3, r3, na, hO, nb, nab, fin⟩ := e.root (bs := []) hi (k2.trans k3) o3 (by simp) (by simp)
        rw [q1] at q3
        cases q3
        have hlt := ixN_lt hjm
        have ht : Ow (fun a => SO p O a ∨ a ∈ ([] : List Addr)) H3 (.int (x + z)) (.dat (.int (x + z))) [] := .dat (.int _)
        obtain ⟨es, s1, s2⟩ := r3.set (by rw [List.length_map]; exact hlt) ht (fun a m z => by simp at m)
        have ef := fin _ _ es s1 s2
        rw [map_set] at ef
        have e0 : (fun a => O a ∨ a ∈ ([] : List Addr)) = O := funext fun a => propext ⟨fun z => z.elim id (by simp), .inl⟩
        rw [e0] at ef
        exact ⟨a, vs3, ji, jm, rfl, rfl, ea3, by rw [r3.length, List.length_map]; exact hjm, k _ py H0 O σ _ D ef n r b c⟩
      | _ => exact py.elim
    | _ => exact pk.elim
theorem rx_augIx {i : Nat} {ds : List PyData} {K' : List PyData → Prop} (hi : ρ[i]? = some (some (.own (oL ds)))) (hj : EM p tj ρ mj) (he : EM p te ρ m) (h : letW (fun P => mj fun j => augIxW ds j m P) K') (k : ∀ es, K' es → Rn p tw (ρ.set i (some (.own (oL es)))) w) :
    Rn p (tSeq (tAugS (tVar i) tj te (rIxL K) (ipI fun i j => i + j) rSetL) tw) ρ w := rm_augIx (K' := K') hi hj he h k
end
end Kz
set_option Elab.async false
set_option linter.all false
set_option maxRecDepth 100000
set_option maxHeartbeats 4000000
/-! Kz: lambdas without parameters, handed to a def -/
namespace Kz
open PySem PySem.Spec PyProof.Rows L2
variable [GT]
/-- the table at P has grown by codes of the name q; the rest is kept -/
def Grown (P : Addr) (q : Str) (H H1 : Hp) : Prop := (∀ b, b ≠ P → H b ≠ none → H1 b = H b) ∧ LamX.TabS H1 P q
theorem Grown.kq {P : Addr} {H H1 : Hp} (g : Grown P (GT.q P) H H1) (n : ¬ GT.g P) (t : LamX.TabS H P (GT.q P)) {Z : Addr → Prop} : Kq Z H H1 := by
  obtain ⟨g1, g2⟩ := g
  obtain ⟨ps, hp, _⟩ := t
  refine ⟨fun a o _ e nt => ?_, fun P' h => ?_, fun a h => ?_⟩
  · have ne : a ≠ P := fun z => by rw [z, hp] at e; cases e; exact nt ps rfl
    rw [g1 a ne (by rw [e]; simp)]; exact e
  · by_cases z : P' = P
    · rw [z]; exact .inr ⟨n, g2⟩
    · obtain ⟨qs, hq⟩ := h.tbl
      refine h.at_ (g1 P' z (by rw [hq]; simp)) fun c q hc => ?_
      have ne : c ≠ P := fun z => by rw [z, hp] at hc; exact code_nt ps (Option.some.inj hc).symm
      rw [g1 c ne (by rw [hc]; simp)]; exact hc
  · by_cases z : a = P
    · obtain ⟨qs, hq, _⟩ := g2
      rw [z, hq]; simp
    · rw [g1 a z h]; exact h
section
variable {X : Cx} {pins : List (Addr × Obj)} {σ : L2.St} {H : Hp} {s : Shared}
/-- the lambda is made -/
theorem lam_new {q : Str} {c P : Addr} {params : Arguments} {body : Expr} {scope : Scope} {pos : Pos} {E : Value → Shared → Prop} {Q : Value → Shared → Prop} (I : Inv X pins σ H s) (TB : GxR.TabB X.base X.mg c P) (ec : X.env.code = .ref c) (eq : X.env.qual ++ "<lambda>" = q)
    (hT : LamX.TabS H P q) (nd : defaultsOf params X.env = ([], [])) (fr : ∀ y ∈ scope.names, y.2 = .free → ∃ c, X.env.cells.lookup y.1 = some c)
    (go : ∀ (f cc : Addr) (m ct : Value) (H1 : Hp) (s1 : Shared), Inv X pins σ H1 s1 → Grown P q H H1 →
      s1.heap.get? f = some (PySem.W.kla_obj "<lambda>" q params body scope (cloFrom X.env.cells scope.names []) m cc ct) → H1 f = none → f ∉ frs X.stack → H1 cc = some (LamX.CodeO cc q) → Q (.ref f) s1) :
    wpAny (model X.prog X.w) X.A (eval (.Lambda params body scope pos) X.env) Q E s := by
  subst eq
  obtain ⟨tb, eP, tri, all⟩ := hT
  refine PySem.W.kla_eval nd ?_
  have bi : s.heap.BuiltinsAt X.mg P := TB.bm.keeps I.bk
  have gP : s.heap.get? P = some { cls := .none, data := .fields tb } := I.hok P _ eP
  have notF : ∀ x, s.heap.objs.size ≤ x → x ∉ frs X.stack := fun x hx z => by
    rcases List.mem_cons.mp (I.stkSub _ z) with e | e
    · rw [e] at hx
      exact Nat.lt_irrefl _ (Nat.lt_of_lt_of_le I.lt hx)
    · exact I.nofs hx e
  cases am : codeAmong pos tb.toList with
  | some cv =>
    obtain ⟨cc, e, eo⟩ := all pos cv am
    subst e
    refine PySem.W.kla_makeFunctionHit (mg := X.mg) (c := c) (P := P) (ps := tb) (closure_ok fr) I.ok.glob (I.mod.glob.keeps I.bk) ec (TB.code.keeps I.bk) gP tri am bi fun ct h1 tk kx hs => ?_
    have J : Inv X pins σ H { s with heap := h1.push (PySem.W.kla_obj "<lambda>" (X.env.qual ++ "<lambda>") params body scope (cloFrom X.env.cells scope.names []) ((X.mg "__name__").getD .none) cc ct), toks := tk } := I.kept fun b o e => Heap.get?_push_of_some _ (kx b o e)
    exact go h1.objs.size cc ((X.mg "__name__").getD .none) ct H _ J ⟨fun _ _ _ => rfl, tb, eP, tri, all⟩ (Heap.get?_push_size _ rfl) (I.hok.fresh hs) (notF _ hs) eo
  | none =>
    refine PySem.W.kla_makeFunction (mg := X.mg) (c := c) (P := P) (ps := tb) (closure_ok fr) I.ok.glob (I.mod.glob.keeps I.bk) ec (TB.code.keeps I.bk) gP tri am TB.gP bi fun cc ct h1 tk kx gr lt rc tw => ?_
    obtain ⟨cd, oc, fs, tt, e2, h_oc, h_d, h_v⟩ := rc
    cases e2
    have sz : s.heap.objs.size ≤ h1.objs.size := Nat.le_trans gr (Nat.le_of_lt lt)
    have nC : H cc = none := I.hok.fresh gr
    have J := LamX.inv_table (t' := tk) (more := #[rawInt pos.line, rawInt pos.col, .ref cc]) (h' := h1.push (PySem.W.kla_obj "<lambda>" (X.env.qual ++ "<lambda>") params body scope (cloFrom X.env.cells scope.names []) ((X.mg "__name__").getD .none) cc ct)) I eP
      (fun b o nb e => Heap.get?_push_of_some _ (kx b o nb e)) (Heap.get?_push_of_some _ tw) gr ⟨oc, fs, tt, Heap.get?_push_of_some _ h_oc, h_d, h_v⟩
    have stays : ∀ b, b ≠ P → H b ≠ none → upd (upd H P (.tbl (tb ++ #[rawInt pos.line, rawInt pos.col, .ref cc]))) cc (LamX.CodeO cc (X.env.qual ++ "<lambda>")) b = H b := fun b nb nn => by
      rw [upd_ne fun z => nn (by rw [z]; exact nC), upd_ne nb]
    refine go h1.objs.size cc ((X.mg "__name__").getD .none) ct _ _ J ⟨stays, _, by rw [upd_ne (ne_of_none eP nC), upd_same], ?_, fun p1 cv am1 => ?_⟩ (Heap.get?_push_size _ rfl) ?_ (notF _ sz) upd_same
    · rw [Array.toList_append]
      exact PySem.TriplesOk_snoc _ _ _ _ tri
    · rw [Array.toList_append] at am1
      rcases LamX.among_app _ tri am1 with z | z
      · obtain ⟨c0, e1, e3⟩ := all p1 cv z
        refine ⟨c0, e1, ?_⟩
        rw [stays c0 (fun y => by rw [y, eP] at e3; exact code_nt tb (Option.some.inj e3).symm) (by rw [e3]; simp)]
        exact e3
      · exact ⟨cc, z, upd_same⟩
    · have n1 : h1.objs.size ≠ cc := Nat.ne_of_gt lt
      have n2 : h1.objs.size ≠ P := Nat.ne_of_gt (Nat.lt_of_lt_of_le (Heap.lt_size gP) sz)
      rw [upd_ne n1, upd_ne n2]
      exact I.hok.fresh sz
/-- x(lambda: body): TT is what x makes of the lambda's reading -/
def tLamb (P : Addr) (q : Str) (TT : (XK → Hp → VK → Prop) → Hp → VK → Prop) (t : XK → TE) : TE := fun σ H Q => LamX.TabS H P q ∧ ∀ H1, Grown P q H H1 → TT (fun E H' Q' => t E σ H' Q') H1 Q
theorem pe_lamb {TT : (XK → Hp → VK → Prop) → Hp → VK → Prop} {x a q : Str} {g c P : Addr} {k : Nat} {pg : Arguments} {bg : List Stmt} {sg : Scope} {dV kV doc pm cdv ct oc : Value} {an od : Option Addr} {osl : Array (Option Value)} {Ng : List Str}
    {params : Arguments} {body : Expr} {scope : Scope} {t : XK → TE} {p lpos pos : Pos} (hg : Gl X x) (hm : X.mg x = some (.ref g)) (hk : PySem.W.keepIn X.K (.ref g) = true)
    (lk : X.K.lookup g = some ⟨oc, od, .func (PySem.W.fnOf x x pg bg sg dV kV doc pm an cdv ct), osl⟩) (hcg : PySem.W.codeIn X.K cdv x = true) (hb : L2.Binds X.K (PySem.W.fnOf x x pg bg sg dV kV doc pm an cdv ct) [a] []) (Sg : FnScope Ng [a] sg) (hNg : Ng[0]? = some a) (hva : Vis sg a)
    (hG : LamX.GivesTo X Ng x sg g cdv bg a q TT) (TB : GxR.TabB X.base X.mg c P) (ec : X.env.code = .ref c) (eq : X.env.qual ++ "<lambda>" = q) (hr : Room (k + 2) X.A) (L : LamX.LamS X.env.scope scope) (nd : defaultsOf params X.env = ([], []))
    (bd : ∀ (q : Str) (cl : List (Str × Addr)) (pm cv ctv : Value), bindArgs (PySem.W.kla_fn "<lambda>" q params body scope cl pm cv ctv) ⟨[], []⟩ = pure [])
    (hbody : ∀ (A : Around) (outer : List PySem.Env) (s : Shared) (H : Hp) (E : XK) (f c' : Addr), Room k (A.deeper (LamX.lamEnv X scope s.heap.objs.size f c')) → PE (LamX.lamCx X A outer s H E scope f c') body (t E))
    (d1 : (x == ("__debug__" : Str)) = false := by decide) (d2 : (a == ("__debug__" : Str)) = false := by decide) (d3 : (a == ("__classdict__" : Str)) = false := by decide) :
    PE X (.Call (.Name x p) [.Lambda params body scope lpos] [] pos) (tLamb P q TT t) := by
  refine ⟨fun pins s σ H Q I h => ?_⟩
  obtain ⟨hT, h⟩ := h
  refine wpAny_Call_Name_kw (ld_glob I hg hm ?_ d1)
  refine PySem.W.callWith_K (h₀ := X.base) I.ok.mod.kin hk ?_ (by rfl) (by rfl)
  refine Calls.spliced_cons (lam_new I TB ec eq hT nd (L.has I.ok) fun f cc m' ct' H1 s1 J gr hf hfn hfr hco => ?_)
  refine Calls.spliced_nil ⟨J.kIn, ?_⟩
  subst eq
  have run : codeAny (model X.prog X.w) X.A (.call (.ref g) ⟨[.ref f], []⟩) (CR C8.CX0 X.stack X.prog X.w H1 s1 Q C8.E0) s1 := by
    refine LamX.run_ofS (N := Ng) (ps := [a]) (us := [.ref f]) (vs := [.ref f]) lk hcg Sg hr J.env0 (hb s1 [.ref f] J.kIn rfl) (.cons rfl .nil) rfl fun room => ?_
    obtain ⟨tg, htg, hqg⟩ := hG f cc s1 H1 Q (fun E H' Q' => t E σ H' Q') (fun W pn xe E p1 p2 tk hW => LamX.pe_act (i := 0) J L hf hfn hfr (bd _ _ _ _ _) tk hW room (fun A outer s H r2 => hbody A outer s H E f cc r2) hNg hva d2 d3) hco (h H1 gr)
    exact ⟨tg, htg.nox, hqg⟩
  refine wpAny_call (codeAny_mono run fun r s2 hq => ?_)
  rcases r with e | (_ | _ | _ | u)
  · exact (show False from hq).elim
  · exact False.elim hq
  · exact False.elim hq
  · exact False.elim hq
  · exact J.after hq
end
end Kz
set_option Elab.async false
set_option linter.all false
set_option maxRecDepth 100000
set_option maxHeartbeats 4000000
/-! Kz: errors of the program's own, two classes over Exception, with one field -/
namespace PySem
namespace HandSPX
open Builtin Builtin.ObjectAttr PySem.W PySem.Calls PyProof.Rows
section
variable {prog : Program} {w : World} {A : Around} {R : Result → Shared → Prop} {hp : Heap} {g : Array GenState} {d : Drawn} {t : Nat} {os : OsState}
theorem kz_osa {K : W.Frag} {name : Str} {tk : Tok} {v : Value} {x C D : Addr} {fv : Array Value} {cd : ClassData}
    (X : K.In hp) (hx : hp.get? x = some { cls := .ref C, data := .fields fv }) (ecd : W.clsIn K C = some cd) (em : cd.mro = .ref C :: .ref D :: ESX.exTail) (eh : cd.hasDict = true) (nf : W.findIn K (.ref C) name = some none)
    (go : ∀ h1 t1 dx, (∀ b o, b ≠ x → hp.get? b = some o → h1.get? b = some o) → hp.objs.size ≤ dx → dx ≠ x → h1.get? x = some { cls := .ref C, dict := some dx, data := .fields fv } →
      h1.Ns1 dx (fun y => if y = name then some v else none) → R (.ok (.ret .none)) ⟨h1, g, d, t1, os⟩) :
    codeAny (model prog w) A (.call (.builtin "object.__setattr__") ⟨[.ref x, .str name tk, v], []⟩) R ⟨hp, g, d, t, os⟩ := by
  have J : W.InstAt hp x { cls := .ref C, data := .fields fv } C none := ⟨hx, rfl, rfl, trivial⟩
  have ob : cd.mro.contains (.type "object") = true := by rw [em]; exact rfl
  have ne : cd.mro.isEmpty = false := by rw [em]; rfl
  have xs : x ≠ hp.objs.size := Nat.ne_of_lt (Heap.lt_size hx)
  have isO : W.Looks (model prog w) hp (isInstance (.ref x) (.type "object")) true := J.type.andThen (W.looks_mroIn X (by unfold W.mroIn; rw [ecd, Option.bind_some, if_neg (by rw [ne]; decide), ob]))
  have S0 := F.store_object
  refine codeAny_call_builtin S0.slot.plain S0.entry (@W.check_slot (model prog w) _ _ ⟨hp, g, d, t, os⟩ "object.__setattr__" "object" "__setattr__" (.ref x) [.str name tk, v] [] _ S0.kind S0.split isO (S0.args (.ref x) (.str name tk) v) ?_)
  have mr : W.Looks (model prog w) hp (mroOf (.ref C)) cd.mro := (W.looks_clsIn X ecd).andThen .now
  have no : W.Looks (model prog w) hp (storeTaker? none) none := .now
  have cl : W.Looks (model prog w) hp (classData C) cd := W.looks_clsIn X ecd
  have pass : refuseLoop (.ref x) "__setattr__" cd.mro = pure () := by
    rw [em, refuseLoop_ref, refuseLoop_ref]
    exact F.store_Exception.passes _
  rw [W.osa_eq, refuse_eq]
  refine wpAny_bind (wpAny_bind (J.type.at (wpAny_bind (mr.at ?_))))
  rw [pass]
  refine wpAny_pure (wpAny_bind (J.type.at (wpAny_bind ((W.looks_findIn X nf).at (wpAny_bind (no.at ?_))))))
  show wpAny _ _ (storeInOwnDict (.ref x) (.ref C) (.str name tk) name v false) _ _ _
  obtain ⟨nm, bs, mro, ns, qn, hdd, sn, sb, ab, col, del⟩ := cd
  dsimp only at eh
  subst eh
  unfold storeInOwnDict ownDictForStores
  repeat (first | with_reducible refine store_in_new ?_ ?_ | with_reducible refine wpAny_loadPart_at hx ?_ | with_reducible refine cl.at ?_ | wp_step)
  · refine ⟨_, #[], _, (Heap.get?_update_ne _ _ _ _ xs.symm).trans (Heap.get?_push_at rfl rfl), rfl, ?_, fun _ => rfl⟩
    intro e he
    simp at he
  · intro h1 t1 n1 sb1
    have x1 : (hp.push { cls := .type "dict", data := .dict #[] }).get? x = some { cls := .ref C, data := .fields fv } := Heap.get?_push_of_some _ hx
    refine go h1 t1 hp.objs.size (fun b o nb e => ?_) (Nat.le_refl _) xs.symm ?_ n1
    · exact (sb1.2 b (Nat.ne_of_lt (Heap.lt_size e))).trans ((Heap.get?_update_ne _ _ _ _ nb).trans (Heap.get?_push_of_some _ e))
    · exact (sb1.2 x xs).trans (Heap.get?_update_self _ x1 rfl)
end
end HandSPX
end PySem
namespace Kz
open PySem PySem.Spec PyProof.Rows L2
variable [GT]
/-- the class at C stands over the class at D, this one over Exception -/
structure ErrC (K : PySem.W.Frag) (C D : Addr) : Prop where
  cls : ∃ nm q N bs sn sub ab col dd k0 k1 k2 k3 k5, K.lookup C = some (excClassObj nm q C N bs (.ref D :: PySem.ESX.exTail) true sn sub ab col dd k0 k1 k2 k3 k5 "Exception.__new__")
  sa : PySem.W.findIn K (.ref C) "__setattr__" = some (some (.builtin "object.__setattr__"))
  exC : PySem.W.subIn K (.ref C) (.type "BaseException") = some true
  tyC : PySem.W.typeIn K (.ref C) = some (.type "type")
  kC : PySem.W.keepIn K (.ref C) = true
theorem two_has {D : Addr} (Y : String) : (Value.ref D :: PySem.ESX.exTail).contains (.type Y) = PySem.ESX.exTail.contains (.type Y) := by
  rw [List.contains_cons]
  rfl
section
variable {X : Cx} {pins : List (Addr × Obj)} {σ : L2.St} {H : Hp} {s : Shared} {a C D : Addr} {f : Str} {y : V} {u : Value} {Q : Unit → Shared → Prop} {E : Value → Shared → Prop} {A : Around}
/-- self.f = y -/
theorem est_new (T : ErrC X.K C D) (I : Inv X pins σ H s) (e : H a = some (exo a C none)) (hno : PySem.W.findIn X.K (.ref C) f = some none) (ry : RelV y u)
    (go : ∀ dx s', H dx = none → dx ≠ a → Inv X pins σ (upd (upd H dx (exd dx [(f, y)])) a (exo a C (some dx))) s' → Q () s') : wpAny (model X.prog X.w) A (setAttr (.ref a) f u) Q E s := by
  obtain ⟨nm, q, N, bs, sn, sub, ab, col, dd, k0, k1, k2, k3, k5, hC⟩ := T.cls
  have ecl : PySem.W.clsIn X.K C = some { name := nm, bases := bs, mro := .ref C :: .ref D :: PySem.ESX.exTail, ns := N, qualname := q, hasDict := true, slotNames := sn, subclasses := sub, abstract := ab, collection := col, hasDel := false } := by unfold PySem.W.clsIn; rw [hC] <;> rfl
  obtain ⟨t1, ho⟩ := exo_at I.hok e
  obtain ⟨hp, g, d, t, os⟩ := s
  refine PySem.W.set_plain I.kIn (ox := { cls := .ref C, dict := none, data := .fields #[.ref t1, .none, .none, .none, .bool false, .none] }) (od := none) ⟨ho, rfl, rfl, trivial⟩ T.sa ?_
  refine PySem.HandSPX.kz_osa I.kIn ho ecl rfl rfl hno (fun h1 tk dx kx dn dne hx hn => ?_)
  have nod : H dx = none := I.hok.fresh dn
  have off : ∀ {b : Addr} {o : Obj}, hp.get? b = some o → b ≠ dx := fun {b o} q z => by
    have := Heap.lt_size q
    rw [z] at this
    exact absurd dn (Nat.not_le.mpr this)
  have noa : ∀ {b : Addr}, H b = none → b ≠ a := fun {b} n z => by rw [z, e] at n; cases n
  have U : Un X.fs [] H (upd (upd H dx (exd dx [(f, y)])) a (exo a C (some dx))) hp h1 :=
    { keep := fun b o q n _ _ => kx b o (noa n) q
      slot := fun b o q n _ _ => ⟨_, kx b o (noa n) q⟩
      free := fun b o q n _ => (upd_ne (noa n)).trans ((upd_ne (off q)).trans n)
      there := fun b o q _ => (Decidable.em (b = a)).elim (fun z => ⟨_, z ▸ hx⟩) fun z => ⟨o, kx b o z q⟩
      tups := fun b xs q => (upd_ne (at_ne e q exo_tup)).trans ((upd_ne (ne_of_none q nod)).trans q)
      frzs := fun b o v q => (upd_ne (at_ne e q exo_frz)).trans ((upd_ne (ne_of_none q nod)).trans q)
      tbls := fun b ps q => ⟨#[], ((upd_ne (at_ne e q exo_tbl)).trans (upd_ne (ne_of_none q nod))).trans (by rw [q]; simp)⟩ }
  refine go dx _ nod dne (I.un (t' := tk) U fun b o q => ?_)
  by_cases hb : b = a
  · subst hb; rw [upd_same] at q; cases q; exact exo_ok hx
  rw [upd_ne hb] at q
  by_cases hd : b = dx
  · subst hd; rw [upd_same] at q; cases q; exact exd_ok hn (relO_put (fs := []) ry fun g => True.intro)
  rw [upd_ne hd] at q
  refine (I.hok b o q).stay (fun c v hc z => kx c v ?_ z) (fun c hc => (upd_ne (at_ne e hc exo_own)).trans ((upd_ne (ne_of_none hc nod)).trans hc)) fun c xs hc => (upd_ne (at_ne e hc exo_tup)).trans ((upd_ne (ne_of_none hc nod)).trans hc)
  rcases hc with hc | hc
  · rw [hc]; exact hb
  · exact at_ne e hc exo_own
end
/-- what __init__(self, thing) promises -/
def initM (K : PySem.W.Frag) (f : Str) : Sp := fun vs H Q _ => ∃ (a C D : Addr) (v : V), vs = [.ref a, v] ∧ ErrC K C D ∧ PySem.W.findIn K (.ref C) f = some none ∧ H a = some (exo a C none) ∧ ∀ dx, H dx = none → dx ≠ a → Q .non (upd (upd H dx (exd dx [(f, v)])) a (exo a C (some dx)))
section
variable {X : Cx} {e o : Expr} {to te : TE} {f x : Str} {p p' pos pos' : Pos}
/-- self.f = e, self fresh -/
def tEst (K : PySem.W.Frag) (f : Str) (to te : TE) : TS := fun D σ H => te σ H fun y H1 => to σ H1 fun x H2 => ∃ a C G : Addr, x = .ref a ∧ ErrC K C G ∧ PySem.W.findIn K (.ref C) f = some none ∧ H2 a = some (exo a C none) ∧ ∀ dx, H2 dx = none → dx ≠ a → D.nx σ (upd (upd H2 dx (exd dx [(f, y)])) a (exo a C (some dx)))
theorem ps_est (ho : PE X o to) (he : PE X e te) (hs : swapsWith e (some (.Attribute o f p')) pos.line X.env = pure false := by rfl) : PS X (.Assign [.Attribute o f p'] e pos) (tEst X.K f to te) :=
  ⟨fun pins s σ H D I h => plainObj_wpAny_Assign_Attribute (thn (he.run pins s σ H _ I h) fun v s1 ⟨y, H1, I1, r1, q1⟩ => thn (ho.run pins s1 σ H1 _ I1 q1) fun u s2 ⟨x, H2, I2, r2, a, C, G, ex, T, hno, ea, q⟩ => by
    subst ex
    obtain rfl : u = Value.ref a := r2
    exact est_new T I2 ea hno r1 fun dx s' n ne J => ⟨σ, _, J, q dx n ne⟩) hs⟩
theorem ok_init {P : Program} {w : World} {K : PySem.W.Frag} {mg : Str → Option Value} {base : Heap} {qual : Str} {st : Stmt} {fI : Addr} {fd : FuncData} {n1 n2 : Str} {j1 j2 j3 j4 : Pos} (F : Fun K "__init__" qual st fI fd) (Sc : FnScope [n1, n2] [n1, n2] (defScope st))
    (hb : defBody st = [.Assign [.Attribute (.Name n1 j1) f j2] (.Name n2 j3) j4]) (v1 : Vis (defScope st) n1) (v2 : Vis (defScope st) n2) (hs : ∀ env : PySem.Env, swapsWith (.Name n2 j3) (some (.Attribute (.Name n1 j1) f j2)) j4.line env = pure false)
    (d1 : (n1 == ("__debug__" : Str)) = false := by decide) (d2 : (n1 == ("__classdict__" : Str)) = false := by decide) (d3 : (n2 == ("__debug__" : Str)) = false := by decide) (d4 : (n2 == ("__classdict__" : Str)) = false := by decide) :
    FnOk P w K mg base CX0 1 fI fd [n1, n2] (initM K f) := by
  refine F.ok Sc (fun vs H Q E ⟨a, C, D, v, h, _⟩ => by rw [h]; rfl) fun cdv A outer s H vs Q E hr ⟨a, C, D, v, hv, T, hno, ea, q⟩ => ?_
  subst hv
  rw [hb]
  refine ⟨_, pss_cons (ps_est (pe_var (i := 0) rfl v1 d1 d2) (pe_var (i := 1) rfl v2 d3 d4) (hs _)) pss_nil, ?_⟩
  exact ⟨v, rfl, .ref a, rfl, a, C, D, rfl, T, hno, ea, fun dx n ne => q dx n ne⟩
end
end Kz
set_option Elab.async false
set_option linter.all false
set_option maxRecDepth 100000
set_option maxHeartbeats 4000000
/-! Kz: raise C(e) -/
namespace Kz
open PySem PySem.Spec PyProof.Rows L2
variable [GT]
/-- what is known of a class of errors: its own __init__ keeps the thing -/
structure ErrI (P : Program) (w : World) (K : PySem.W.Frag) (mg : Str → Option Value) (base : Heap) (f : Str) (C D : Addr) : Prop where
  T : ErrC K C D
  no : PySem.W.findIn K (.ref C) f = some none
  ini : ∃ (fI : Addr) (fd : FuncData) (n1 n2 : Str), PySem.W.findIn K (.ref C) "__init__" = some (some (.ref fI)) ∧ PySem.W.typeIn K (.ref fI) = some (.type "function") ∧ FnOk P w K mg base CX0 1 fI fd [n1, n2] (initM K f) ∧ L2.Binds K fd [n1, n2] []
section
variable {X : Cx} {C D : Addr} {f x : Str} {e : Expr} {te : TE} {p pos rp : Pos}
def tMkE (C : Addr) (f : Str) (te : TE) : L2.St → Hp → XK → Prop := fun σ H Q => te σ H fun v H1 => ∀ dx, H1 dx = none → Q (.ref C) (some dx) (upd H1 dx (.xd [(f, v)]))
theorem pmk_err (Z : ErrI X.prog X.w X.K X.mg X.base f C D) (hr : Room 2 X.A) (hg : Gl X x) (hm : X.mg x = some (.ref C)) (he : PE X e te) (d1 : (x == ("__debug__" : Str)) = false := by decide)
    (h1 : starEach [e] X.env = [(false, eval e X.env)] := by rfl) : PMk X (.Call (.Name x p) [e] [] pos) (tMkE C f te) := by
  intro pins s σ H Q I h
  obtain ⟨T, no, fI, fd, n1, n2, iC, tI, F1, hb⟩ := Z
  obtain ⟨nm, q, N, bs, sn, sub, ab, col, dd, k0, k1, k2, k3, k5, hC⟩ := T.cls
  have ha : PA X [e] (tCons te tNil) := pa_cons he pa_nil (hs := h1)
  refine wpAny_Call_Name_kw (ld_glob I hg hm ?_ d1)
  refine PySem.W.callWith_K (h₀ := X.base) I.ok.mod.kin T.kC (thn (ha.run pos pins s σ H (fun vs H1 => match vs with | [v] => ∀ dx, H1 dx = none → Q (.ref C) (some dx) (upd H1 dx (.xd [(f, v)])) | _ => False) I h) fun us s1 ⟨vs, H1, I1, r1, q1⟩ => ⟨I1.kIn, ?_⟩) h1 (by rfl)
  obtain ⟨v, rfl⟩ : ∃ v, vs = [v] := by
    rcases vs with _ | ⟨v, _ | ⟨_, _⟩⟩
    · exact q1.elim
    · exact ⟨v, rfl⟩
    · exact q1.elim
  obtain ⟨u, rfl, rv⟩ : ∃ u, us = [u] ∧ L2.RelV v u := by cases r1 with | cons a b => cases b; exact ⟨_, rfl, a⟩
  show wpAny _ _ (call (.ref C) [u]) _ _ _
  obtain ⟨hp, g, dr, tk, os⟩ := s1
  have sz : hp.objs.size ≤ hp.objs.size + 1 := Nat.le_succ _
  have nn : H1 (hp.objs.size + 1) = none := I1.hok.fresh sz
  have kk : ∀ b o, hp.get? b = some o → ((hp.push (PySem.W.kdv_tup [u])).push (PySem.HandSPX.excO C hp.objs.size)).get? b = some o := fun b o z => Heap.get?_push_of_some _ (Heap.get?_push_of_some _ z)
  have hget : ((hp.push (PySem.W.kdv_tup [u])).push (PySem.HandSPX.excO C hp.objs.size)).get? (hp.objs.size + 1) = some (PySem.HandSPX.excO C hp.objs.size) := by heap_get
  have I2 := I1.laid (t' := tk) (a := hp.objs.size + 1) (o := exo (hp.objs.size + 1) C none) (h' := (hp.push (PySem.W.kdv_tup [u])).push (PySem.HandSPX.excO C hp.objs.size)) kk sz (exo_ok hget)
  have r2 : Vals [V.ref (hp.objs.size + 1), v] [Value.ref (hp.objs.size + 1), u] := .cons rfl (.cons rv .nil)
  have hsp : initM X.K f [.ref (hp.objs.size + 1), v] (upd H1 (hp.objs.size + 1) (exo (hp.objs.size + 1) C none)) (fun v2 H2 => v2 = .non ∧ ∃ dx, H1 dx = none ∧ dx ≠ hp.objs.size + 1 ∧ H2 = upd (upd (upd H1 (hp.objs.size + 1) (exo (hp.objs.size + 1) C none)) dx (exd dx [(f, v)])) (hp.objs.size + 1) (exo (hp.objs.size + 1) C (some dx))) E0 :=
    ⟨_, C, D, v, rfl, T, no, upd_same, fun dx n ne => ⟨rfl, dx, by rw [upd_ne ne] at n; exact n, ne, rfl⟩⟩
  refine wpAny_call (PySem.HandSPX.call_own F.excBase_Exception two_has (I1.kIn _ _ hC) (PySem.W.looks_findIn I1.kIn iC) (fun self => PySem.W.bind_fn I1.kIn self tI) (by rw [sizeLine_eq]; show 1 ≤ _; omega)
    (codeAny_mono (F1.run _ X.stack _ _ ⟨[Value.ref (hp.objs.size + 1), u], []⟩ [Value.ref (hp.objs.size + 1), u] _ _ E0 (hr.make C [u] []) (I2.env0.make C [u] []) (by have z := hb _ [Value.ref (hp.objs.size + 1), u] I2.kIn rfl; simpa using z) r2 hsp) fun r s' hq => ?_))
  rcases r with er | (_ | _ | _ | ur)
  · exact (show False from hq).elim
  · exact False.elim hq
  · exact False.elim hq
  · exact False.elim hq
  · obtain ⟨v2, H2, os2, bare2, un2, hok2, rv2, ev, dx, n1, ne, rfl⟩ := hq
    subst ev
    obtain ⟨h2, g2, d2, t2, os'⟩ := s'
    refine ⟨rv2, mk_end (Q := Q) (d := dx) (fs := [(f, v)]) (raises_own T.exC T.tyC) I1 sz kk un2 hok2 os2 bare2 upd_same (by rw [upd_ne ne, upd_same]) n1 ?_⟩
    have e1 : upd (del (upd (upd (upd H1 (hp.objs.size + 1) (exo (hp.objs.size + 1) C none)) dx (exd dx [(f, v)])) (hp.objs.size + 1) (exo (hp.objs.size + 1) C (some dx))) (hp.objs.size + 1)) dx (.xd [(f, v)]) = upd H1 dx (.xd [(f, v)]) := by
      funext b
      by_cases hb : b = dx
      · rw [hb, upd_same, upd_same]
      · rw [upd_ne hb, upd_ne hb]
        by_cases ha : b = hp.objs.size + 1
        · rw [ha, del_same, nn]
        · rw [del_ne ha, upd_ne ha, upd_ne hb, upd_ne ha]
    rw [e1]
    exact q1 dx n1
/-- raise C(e) -/
theorem ps_err {W : WX} (Z : ErrI X.prog X.w X.K X.mg X.base f C D) (hc : X.calm = true) (tk : Takes X W) (hr : Room 2 X.A) (hg : Gl X x) (hm : X.mg x = some (.ref C)) (he : PE X e te) (d1 : (x == ("__debug__" : Str)) = false := by decide)
    (h1 : starEach [e] X.env = [(false, eval e X.env)] := by rfl) : PS X (.Raise (some (.Call (.Name x p) [e] [] pos)) none rp) (fun _ σ H => te σ H fun v H1 => ∀ dx, H1 dx = none → W (.ref C) (some dx) σ (upd H1 dx (.xd [(f, v)]))) :=
  ps_raise hc tk (pmk_err Z hr hg hm he d1 h1)
end
end Kz
set_option Elab.async false
set_option linter.all false
set_option maxRecDepth 100000
set_option maxHeartbeats 4000000
/-! Kz: what an except suite asks of its error; try with several clauses, named or not -/
namespace Kz
open PySem PySem.Spec PyProof.Rows L2
variable [GT]
/-- what the class of the error must say -/
structure ErrX (K : PySem.W.Frag) (C : Addr) : Prop where
  cl : (PySem.W.clsIn K C).isSome = true
  ga : PySem.W.findIn K (.ref C) "__getattribute__" = some (some (.builtin "BaseException.__getattribute__"))
  gg : PySem.W.findIn K (.ref C) "__getattr__" = some none
  ex : PySem.W.subIn K (.ref C) (.type "BaseException") = some true
  hd : PySem.W.hasDictIn K C = true
  ha : PySem.W.findIn K (.ref C) "__class__" = some (some (.builtin "object.__class__"))
  hn : PySem.W.specialIn K (.builtin "object.__class__") "__get__" = some (some (.builtin "getset_descriptor.__get__"))
  ht : PySem.W.takesIn K (.builtin "object.__class__") = some true
  hm : PySem.W.mroIn K C (.type "object") = some true
theorem ErrX.f {K : PySem.W.Frag} {C : Addr} (x : ErrX K C) : XfC K C := ⟨x.ga, x.gg, x.ex, x.hd⟩
section
variable {X : Cx} {a C dx : Addr} {oe : Obj} {pn : List (Addr × Obj)}
theorem err_at {pins : List (Addr × Obj)} {σ : L2.St} {H : Hp} {s : Shared} {fs : List (Str × V)} (I : Inv (X.suite a ((a, oe) :: pn)) pins σ H s) (hz : Zc (.ref C) (some dx) oe) (hf : ∃ vs, oe.data = .fields vs) (hx : H dx = some (.xd fs)) :
    ∃ od, PySem.W.InstAt s.heap a oe C (some od) := by
  obtain ⟨ho, _⟩ := I.pin (a, oe) (List.mem_append_left _ List.mem_cons_self)
  obtain ⟨vs, hd⟩ := hf
  have ob : ObjOk X.prog X.w H s.heap dx (.xd fs) := I.hok dx _ hx
  obtain ⟨mA, hns, _⟩ := ob
  obtain ⟨od, ho2, _⟩ := lookIn_ns hns
  exact ⟨od, ho, hz.1, by unfold PySem.W.notCls; rw [hd] <;> rfl, by rw [hz.2]; exact ho2⟩
/-- isinstance(e, c) -/
def rIsX (K : PySem.W.Frag) (C a dx : Addr) : List V → Hp → VK → Prop := fun xs H Q => ∃ (c : V) (u : Value) (b : Bool) (fs : List (Str × V)), xs = [.ref a, c] ∧ ClsV c u ∧ H dx = some (.xd fs) ∧ PySem.W.kitOne K (.ref C) u = some b ∧ Q (.bl b) H
/-- isinstance(e, (c, ..)) -/
def rIsXT (K : PySem.W.Frag) (C a dx : Addr) : List V → Hp → VK → Prop := fun xs H Q => ∃ (tp : Addr) (cs : List V) (us : List Value) (b : Bool) (fs : List (Str × V)), xs = [.ref a, .ref tp] ∧ H tp = some (.tup cs) ∧ Paired ClsV cs us ∧ H dx = some (.xd fs) ∧ PySem.W.kitAny K (.ref C) us = some b ∧ Q (.bl b) H
theorem call_isX (T : ErrX X.K C) (hz : Zc (.ref C) (some dx) oe) (hf : ∃ vs, oe.data = .fields vs) : CallR (X.suite a ((a, oe) :: pn)) (.builtin "isinstance") (rIsX X.K C a dx) := by
  intro pins s σ H xs us Q I r h
  obtain ⟨c, u, b, fs, rfl, k, hx, e, q⟩ := h
  obtain ⟨u1, u2, rfl, r1, r2⟩ := vals2 r
  obtain rfl := k.eq r2
  obtain rfl : u1 = Value.ref a := r1
  obtain ⟨od, J⟩ := err_at I hz hf hx
  exact PySem.W.kia_one (PySem.W.kitx_exc T.cl T.ga T.gg T.ex T.ha T.hn T.ht T.hm) I.kIn J e (fun z => nomatch z) fun tk => ⟨.bl b, H, I.tok tk, rfl, q⟩
theorem call_isXT (T : ErrX X.K C) (hz : Zc (.ref C) (some dx) oe) (hf : ∃ vs, oe.data = .fields vs) : CallR (X.suite a ((a, oe) :: pn)) (.builtin "isinstance") (rIsXT X.K C a dx) := by
  intro pins s σ H xs us Q I r h
  obtain ⟨tp, cs, ws, b, fs, rfl, hT, k, hx, e, q⟩ := h
  obtain ⟨u1, u2, rfl, r1, r2⟩ := vals2 r
  obtain rfl : u1 = Value.ref a := r1
  obtain rfl : u2 = Value.ref tp := r2
  obtain ⟨_, its, rv, o, g1, g2, n, g3⟩ := (show ObjOk X.prog X.w H s.heap tp (.tup cs) from I.hok tp _ hT)
  obtain rfl := ClsV.all k rv
  obtain ⟨od, J⟩ := err_at I hz hf hx
  obtain ⟨oc, od1, dt, sl⟩ := o
  simp only at g2 g3
  subst g2 g3
  exact PySem.W.kia_tup (PySem.W.kitx_exc T.cl T.ga T.gg T.ex T.ha T.hn T.ht T.hm) I.kIn J g1 e (fun z => nomatch z) fun tk => ⟨.bl b, H, I.tok tk, rfl, q⟩
end
/-- a class by its name -/
theorem pe_clsN {X : Cx} {x : Str} {C : Addr} {p : Pos} (hg : Gl X x) (hm : X.mg x = some (.ref C)) (d1 : (x == ("__debug__" : Str)) = false := by decide) : PE X (.Name x p) (tC (.ref C)) :=
  ⟨fun pins s σ H Q I h => ld_glob I hg hm ⟨.ref C, H, I, rfl, h⟩ d1⟩

/-! ### try -/
/-- an error that a try's body let out, seen by X's own frame, on the ground -/
structure Fly (X : Cx) (pins : List (Addr × Obj)) (σ : L2.St) (H : Hp) (a : Addr) (cls : Value) (d : Option Addr) (s : Shared) : Prop where
  ex : ∃ (B : Heap) (sI : Shared), Inv X pins σ H sI ∧ (∀ b o, sI.heap.get? b = some o → b ∉ frs X.stack → B.get? b = some o) ∧ sI.heap.UpToSlots s.heap ∧ HandSPX.FlyingZ B (X.env :: X.outer) a (Zc cls d) s.heap ∧ H a = none ∧ s.os = sI.os ∧ AllBare s.gens
theorem Fly.up {X : Cx} {pins : List (Addr × Obj)} {σ : L2.St} {H : Hp} {a : Addr} {cls : Value} {d : Option Addr} {s : Shared} (F : Fly X pins σ H a cls d s) (hs : X.stack = X.env :: X.outer) (hf : X.env.frame = some X.env.locals) :
    ∃ (oe : Obj) (vs : Array Value), s.heap.get? a = some oe ∧ Zc cls d oe ∧ oe.data = .fields vs ∧ Inv X pins σ H s ∧ H a = none ∧ a ≠ X.env.locals ∧ a ∉ X.fs := by
  obtain ⟨B, sI, J, nb, up, fl, na, os, ag⟩ := F.ex
  obtain ⟨oe, vs, ho, hz, hd⟩ := fl.there
  have out : a ∉ frs (X.env :: X.outer) := fun hm => by
    obtain ⟨_, o1, e1, hnf⟩ := fl.2.2.1.mem hm
    rw [ho] at e1
    cases e1
    exact hnf _ hd
  have J2 : Inv X pins σ H s := J.landed nb fl.1 up os ag
  refine ⟨oe, vs, ho, hz, hd, J2, na, fun z => ?_, fun hm => ?_⟩
  · exact out (List.mem_filterMap.mpr ⟨X.env, List.mem_cons_self, by rw [hf, z]⟩)
  · obtain ⟨v, hv, q⟩ := List.mem_filterMap.mp hm
    exact out (List.mem_filterMap.mpr ⟨v, List.mem_cons_of_mem _ hv, q⟩)
/-- the clauses take such an error, if the wish w holds -/
def HdW (X : Cx) (hds : List ExceptHandler) (w : Ends → WX) : Prop := ∀ (pins : List (Addr × Obj)) (σ : L2.St) (H : Hp) (a : Addr) (cls : Value) (d : Option Addr) (s : Shared) (D : Ends), Fly X pins σ H a cls d s → w D cls d σ H →
  wpAny (model X.prog X.w) X.A (handleBy (.ref a) X.env hds) (SP X pins D) X.xe s
section
variable {X : Cx} {x n : Str} {c : Value} {i : Nat} {b₀ : Stmt} {suite : List Stmt} {hds : List ExceptHandler} {h₀ : ExceptHandler} {np pos pos' : Pos} {Wout : WX} {w : Ends → WX} {ts : Addr → Value → Option Addr → TS} {body : List Stmt} {tb : WX → TS}
theorem hdw_nil (hs : X.stack = X.env :: X.outer) (hf : X.env.frame = some X.env.locals) (tk : Takes X Wout) : HdW X [] (fun _ => Wout) := by
  intro pins σ H a cls d s D F w
  obtain ⟨B, sI, J, nb, up, fl, na, os, ag⟩ := F.ex
  refine wpAny_handleBy_nil ?_
  obtain ⟨_, _, _, oe, vs, T, oT, t1, he, hz, hd, e1, _⟩ := id fl
  unfold PySem.passOn
  refine wpAny_bind (wpAny_field he hd e1 ?_)
  rw [if_neg (show ¬ ((Value.ref T == Value.none) = true) from by simp)]
  have fin : wpAny (model X.prog X.w) X.A (setFlight (.ref a) X.env.frame) (fun _ s4 => wpAny (model X.prog X.w) X.A (throw (.ref a) : Sem Flow) (SP X pins D) X.xe s4) X.xe s := by
    rw [hf]
    exact HandSPX.setFlight_upZ fl fun h4 hh up4 => wpAny_throw (tk _ _ ⟨a, B, sI, pins, σ, H, cls, d, rfl, J, nb, up.trans up4, .inr (.inr (by rw [hs]; exact hh)), na, os, ag, w⟩)
  first
    | exact wpAny_bind (wpAny_pure (wpAny_bind fin))
    | exact wpAny_bind fin
/-- except x: suite -/
theorem hdw_un (hs : X.stack = X.env :: X.outer) (hf : X.env.frame = some X.env.locals) (hc : Names X x c)
    (hsu : ∀ (a : Addr) (oe : Obj) (cls : Value) (d : Option Addr) (pn : List (Addr × Obj)), Zc cls d oe → (∃ vs, oe.data = .fields vs) → PSs (X.suite a ((a, oe) :: pn)) (b₀ :: suite) (ts a cls d)) (r : HdW X hds w) :
    HdW X (.ExceptHandler (some (.Name x np)) none (b₀ :: suite) pos' :: hds) (fun D cls d σ H => ∃ b, PySem.W.exmOne X.K cls c = some b ∧ (b = true → ∀ a, H a = none → ts a cls d D σ H) ∧ (b = false → w D cls d σ H)) := by
  intro pins σ H a cls d s D F ww
  obtain ⟨b, eb, yes, no⟩ := ww
  obtain ⟨oe, vs, ho, hz, hd, J, na, nL, nF⟩ := F.up hs hf
  have S := J.suite ho hd na nL nF
  refine wpAny_handleBy_cons (codeAny_handlers_test ?_) (by intro q; cases q)
  have LT : PySem.W.Looks (model X.prog X.w) s.heap (typeOf (.ref a)) cls := fun A Q E s k q => wpAny_typeOf_ref (k _ _ ho) (by rw [hz.1]; exact q)
  have LM := PySem.W.exm_one (M := model X.prog X.w) J.kIn LT eb
  have ask : ∀ {Q : Value → Shared → Prop} {E : Value → Shared → Prop}, Q c s → wpAny (model X.prog X.w) (X.A.mark (some (.ref a))) (eval (.Name x np) X.env) Q E s := fun {Q E} q => by
    obtain ⟨g, dbg, m | ⟨m, v, nn⟩⟩ := hc
    · exact ld_glob (X := X.suite a ((a, oe) :: (X.pn ++ pins))) S g m q dbg
    · exact ld_blt (X := X.suite a ((a, oe) :: (X.pn ++ pins))) S g m v q nn dbg
  refine ask (LM.here ?_)
  cases b with
  | false => exact r pins σ H a cls d s D F (no rfl)
  | true =>
    obtain ⟨B, sI, J0, nb, up, fl, _, os, ag⟩ := F.ex
    refine codeAny_handlers_suite (HandSPX.lands_againZ fl fun h4 fl4 up4 => ?_)
    have J4 : Inv X pins σ H { s with heap := h4 } := J0.landed nb fl4.1 (up.trans up4) os ag
    obtain ⟨oe4, vs4, he4, hz4, hd4⟩ := fl4.there
    refine wpAny_mono ((hsu a oe4 cls d (X.pn ++ pins) hz4 ⟨_, hd4⟩).run [] _ _ H D (J4.suite he4 hd4 na nL nF) (yes rfl a na)) (fun f s6 z => ?_) (fun _ _ z => False.elim z)
    rcases f with _ | _ | _ | u
    · obtain ⟨σ6, H6, S6, q6⟩ := z; exact ⟨_, _, S6.unsuite J.ok, q6⟩
    · obtain ⟨σ6, H6, S6, q6⟩ := z; exact ⟨_, _, S6.unsuite J.ok, q6⟩
    · obtain ⟨σ6, H6, S6, q6⟩ := z; exact ⟨_, _, S6.unsuite J.ok, q6⟩
    · obtain ⟨v6, σ6, H6, S6, r6, q6⟩ := z; exact ⟨_, _, _, S6.unsuite J.ok, r6, q6⟩
/-- except x as n: suite -/
theorem hdw_as (hs : X.stack = X.env :: X.outer) (hf : X.env.frame = some X.env.locals) (hN : X.N.Nodup) (hi : X.N[i]? = some n) (hln : X.env.kindOf n = some .local) (hc : Names X x c)
    (hsu : ∀ (a : Addr) (oe : Obj) (cls : Value) (d : Option Addr) (pn : List (Addr × Obj)), Zc cls d oe → (∃ vs, oe.data = .fields vs) → PSs (X.suite a ((a, oe) :: pn)) (b₀ :: suite) (ts a cls d)) (r : HdW X hds w) :
    HdW X (.ExceptHandler (some (.Name x np)) (some n) (b₀ :: suite) pos' :: hds) (fun D cls d σ H => ∃ b, PySem.W.exmOne X.K cls c = some b ∧ (b = true → ∀ a, H a = none → ts a cls d
      { nx := fun σ' H' => D.nx (σ'.set i none) H', rt := D.rt, bk := fun σ' H' => D.bk (σ'.set i none) H', ct := fun σ' H' => D.ct (σ'.set i none) H' } (σ.set i (some (.ref a))) H) ∧ (b = false → w D cls d σ H)) := by
  intro pins σ H a cls d s D F ww
  obtain ⟨b, eb, yes, no⟩ := ww
  obtain ⟨oe, vs, ho, hz, hd, J, na, nL, nF⟩ := F.up hs hf
  have S := J.suite ho hd na nL nF
  have lo : Loc X.env.scope n := .inl hln
  refine wpAny_handleBy_cons (codeAny_handlers_test ?_) (by intro q; cases q)
  have LT : PySem.W.Looks (model X.prog X.w) s.heap (typeOf (.ref a)) cls := fun A Q E s k q => wpAny_typeOf_ref (k _ _ ho) (by rw [hz.1]; exact q)
  have LM := PySem.W.exm_one (M := model X.prog X.w) J.kIn LT eb
  have ask : ∀ {Q : Value → Shared → Prop} {E : Value → Shared → Prop}, Q c s → wpAny (model X.prog X.w) (X.A.mark (some (.ref a))) (eval (.Name x np) X.env) Q E s := fun {Q E} q => by
    obtain ⟨g, dbg, m | ⟨m, v, nn⟩⟩ := hc
    · exact ld_glob (X := X.suite a ((a, oe) :: (X.pn ++ pins))) S g m q dbg
    · exact ld_blt (X := X.suite a ((a, oe) :: (X.pn ++ pins))) S g m v q nn dbg
  refine ask (LM.here ?_)
  cases b with
  | false => exact r pins σ H a cls d s D F (no rfl)
  | true =>
    obtain ⟨B, sI, J0, nb, up, fl, _, os, ag⟩ := F.ex
    refine codeAny_handlers_suite_as (HandSPX.lands_againZ fl fun h4 fl4 up4 => ?_)
    have J4 : Inv X pins σ H { s with heap := h4 } := J0.landed nb fl4.1 (up.trans up4) os ag
    obtain ⟨oe4, vs4, he4, hz4, hd4⟩ := fl4.there
    refine store_ok (X := X.suite a ((a, oe4) :: (X.pn ++ pins))) (v := .ref a) (J4.suite he4 hd4 na nL nF) hN hi lo rfl (fun s5 S5 => ?_) (.inr hln)
    refine wpAny_mono ((hsu a oe4 cls d (X.pn ++ pins) hz4 ⟨_, hd4⟩).run [] s5 _ H _ S5 (yes rfl a na)) (fun f s6 z => ?_) (fun _ _ z => False.elim z)
    have bye : ∀ {σ6 : L2.St} {H6 : Hp} {Q : Shared → Prop}, Inv (X.suite a ((a, oe4) :: (X.pn ++ pins))) [] σ6 H6 s6 → (∀ s7, Inv X pins (σ6.set i none) H6 s7 → Q s7) →
        wpAny (model X.prog X.w) X.A (do bindName X.env n .none; unbindBehindTheSuite X.env n pos') (fun _ s7 => Q s7) X.xe s6 := fun {σ6 H6 Q} S6 hq => gone_ok (S6.unsuite J.ok) hN hi hln hq
    rcases f with _ | _ | _ | u
    · obtain ⟨σ6, H6, S6, q6⟩ := z; exact bye S6 fun s7 J7 => ⟨_, _, J7, q6⟩
    · obtain ⟨σ6, H6, S6, q6⟩ := z; exact bye S6 fun s7 J7 => ⟨_, _, J7, q6⟩
    · obtain ⟨σ6, H6, S6, q6⟩ := z; exact bye S6 fun s7 J7 => ⟨_, _, J7, q6⟩
    · obtain ⟨v6, σ6, H6, S6, r6, q6⟩ := z; exact bye S6 fun s7 J7 => ⟨_, _, _, J7, r6, q6⟩
theorem ps_tryW (hs : X.stack = X.env :: X.outer) (hf : X.env.frame = some X.env.locals)
    (hb : ∀ (W : WX) (pn : List (Addr × Obj)) (xe : Value → Shared → Prop), Takes (X.tr pn xe) W → PassesOwn (model X.prog X.w) X.A X.env xe → PSs (X.tr pn xe) body (tb W)) (hh : HdW X (h₀ :: hds) w) :
    PS X (.Try body (h₀ :: hds) [] [] pos) (fun D σ H => tb (w D) D σ H) := by
  refine ⟨fun pins s σ H D I h => wpAny_Try_except ?_⟩
  have ok := I.ok
  have fr : X.A.frames = some (X.env :: X.outer) := by rw [ok.frames, hs]
  refine wpAny_mono ((hb (w D) (X.pn ++ pins) (fun e s₁ => wpAny (model X.prog X.w) X.A (noteFrame e X.env) (fun _ s₂ => wpAny (model X.prog X.w) X.A (setFlight e none) (fun _ s₃ =>
    wpAny (model X.prog X.w) X.A (handleBy e X.env (h₀ :: hds)) (SP X pins D) X.xe s₃) X.xe s₂) X.xe s₁) (fun u s1 xx => ?_) PassesOwn.looking).run [] s σ H D (I.toTry _) h) (fun f s1 z => ?_) (fun e s1 z => z)
  · obtain ⟨a, B, sI, pins1, σ1, H1, cls, d, rfl, J1, nb, up, sky, na, os, ag, ww⟩ := xx
    have J : Inv X pins σ1 H1 sI := J1.ofTry ok
    have sky1 : Sky B (X.env :: X.outer) a (Zc cls d) X.env.locals s1.heap := by rw [← hs]; exact sky
    show wpAny (model X.prog X.w) X.A (noteFrame (.ref a) X.env) _ _ _
    exact Sky.land Zc.steady fr hf sky1 fun h3 fl3 up3 => hh pins σ1 H1 a cls d _ D ⟨B, sI, J, nb, up.trans up3, fl3, na, os, ag⟩ ww
  · rcases f with _ | _ | _ | u
    · obtain ⟨σ1, H1, J1, q⟩ := z; exact wpAny_execs_nil ⟨σ1, H1, J1.ofTry ok, q⟩
    · obtain ⟨σ1, H1, J1, q⟩ := z; exact ⟨σ1, H1, J1.ofTry ok, q⟩
    · obtain ⟨σ1, H1, J1, q⟩ := z; exact ⟨σ1, H1, J1.ofTry ok, q⟩
    · obtain ⟨v, σ1, H1, J1, r, q⟩ := z; exact ⟨v, σ1, H1, J1.ofTry ok, r, q⟩
end
end Kz
set_option Elab.async false
set_option linter.all false
set_option maxRecDepth 100000
set_option maxHeartbeats 4000000
/-! Kz: defs that may raise an error of the program's own -/
namespace Kz
open PySem PySem.Spec PyProof.Rows L2
variable [GT]
/-- what is wanted of a value, and of an error (the name of its class, its thing) -/
abbrev WR := (PyData → Prop) → (Str → PyData → Prop) → Prop
/-- an error of the class at C with its thing -/
def Err (E : XK) (Cs : Str → Addr) (S : Addr → Prop) (G : Hp → Prop) (X : Str → PyData → Prop) : Prop := ∀ (nm : Str) (H' : Hp) (dx : Addr) (v : V) (d : PyData), G H' → H' dx = some (.xd [("thing", v)]) → Dv S H' v d → X nm d → E (.ref (Cs nm)) (some dx) H'
def pureX (Cs : Str → Addr) (Ts : List Addr) (n : Nat) (m : List PyData → WR) : Sp := fun vs H Q E => vs.length = n ∧ ∃ (S : Addr → Prop) (ds : List PyData) (P : PyData → Prop) (X : Str → PyData → Prop),
  (∀ a, S a → ∃ o, H a = some o ∧ NT o) ∧ (∀ T ∈ Ts, TabH H T) ∧ DvL S H vs ds ∧ m ds P X ∧ (∀ v H' d, Kp H H' → Dv S H' v d → P d → Q v H') ∧ Err E Cs S (fun H' => Kp H H') X
def RnX (p : Pm) (E : XK) (Cs : Str → Addr) (X : Str → PyData → Prop) (ts : TS) (ρ : Rho) (w : Po) : Prop := ∀ H0 O σ H D, En p H0 O σ H ρ → (∀ O' σ' H' ρ', En p H0 O' σ' H' ρ' → w.N ρ' → D.nx σ' H') →
  (∀ v d H', Kq (ZO p H0.o) H0.h H' → Ok p H' → Dv p.S H' v d → w.R d → D.rt v H') → (∀ O' σ' H' ρ', En p H0 O' σ' H' ρ' → w.B ρ' → D.bk σ' H') → (∀ O' σ' H' ρ', En p H0 O' σ' H' ρ' → w.C ρ' → D.ct σ' H') →
  Err E Cs p.S (fun H' => Kq (ZO p H0.o) H0.h H' ∧ Ok p H') X → ts D σ H
section
variable {p : Pm} {E : XK} {Cs : Str → Addr} {X : Str → PyData → Prop} {ρ : Rho} {w : Po} {tu tv tw : TS} {te : TE} {tt : TT} {t tk : TA}
theorem rnx_of (h : Rn p tw ρ w) : RnX p E Cs X tw ρ w := fun H0 O σ H D e n r b c _ => h H0 O σ H D e n r b c
theorem rnx_if {mt : W Bool} {A B : Prop} (ht : ET p tt ρ mt) (h : letW mt fun b => cW b A B) (k1 : A → RnX p E Cs X (tSeq tu tw) ρ w) (k2 : B → RnX p E Cs X (tSeq tv tw) ρ w) : RnX p E Cs X (tSeq (tIfS tt tu tv) tw) ρ w := fun H0 O σ H D e n r b c x =>
  ht _ h H0 O σ H e _ fun t H2 kk o2 pt => by
    have e2 := e.kq kk o2
    cases t with
    | true => rw [if_pos rfl]; exact k1 pt H0 O σ H2 D e2 n r b c x
    | false => rw [if_neg (by decide)]; exact k2 pt H0 O σ H2 D e2 n r b c x
theorem rnx_assoc (h : RnX p E Cs X (tSeq tu (tSeq tv tw)) ρ w) : RnX p E Cs X (tSeq (tSeq tu tv) tw) ρ w := h
theorem rnx_skip (h : RnX p E Cs X tw ρ w) : RnX p E Cs X (tSeq tNext tw) ρ w := h
theorem rnx_raise {nm : Str} {m : W PyData} (he : EM p te ρ m) (h : letW m fun d => X nm d) : RnX p E Cs X (tSeq (fun _ σ H => te σ H fun v H1 => ∀ dx, H1 dx = none → E (.ref (Cs nm)) (some dx) (upd H1 dx (.xd [("thing", v)]))) tw) ρ w := fun H0 O σ H D e n r b c x =>
  he _ h H0 O σ H e _ fun v H2 d k2 o2 hd pd => by
    intro dx nd
    have kn : Kp H2 (upd H2 dx (.xd [("thing", v)])) := Kq.new nd
    exact x nm _ dx v d ⟨(e.kq k2 o2).fr.trans kn.up, o2.kp kn⟩ upd_same (dv_out (hd.kp kn)) pd
theorem rnx_set {i : Nat} {m : W PyData} {K' : PyData → Prop} (he : EM p te ρ m) (h : letW m K') (k : ∀ d, K' d → RnX p E Cs X tw (ρ.set i (some (.dat d))) w) : RnX p E Cs X (tSeq (tAsg te (gName i)) tw) ρ w := fun H0 O σ H D e n r b c x =>
  he _ h H0 O σ H e _ fun v H2 d k2 o2 hd pd => k d pd H0 O _ H2 D ((e.kq k2 o2).set hd) n r b c x
/-- what a call that may raise needs -/
theorem callX {Ts : List Addr} {n : Nat} {mf : List PyData → WR} {ma : W (List PyData)} {K' : PyData → Prop} {X' : Str → PyData → Prop} (hT : ∀ T ∈ Ts, T ∈ p.Ts) (L : ∀ ds P X, mf ds P X → ds.length = n) (ha : EA p t ρ ma) (h : ma fun ds => mf ds K' X')
    {H0 : Bs} {O : Addr → Prop} {σ : L2.St} {H : Hp} (e : En p H0 O σ H ρ) {Q : VK} (q : ∀ v H2 d, Kq p.Z H H2 → Ok p H2 → Dv (SO p O) H2 v d → K' d → Q v H2) (x : Err E Cs (SO p O) (fun H' => Kq p.Z H H' ∧ Ok p H') X') : tCall (pureX Cs Ts n mf) [] E t σ H Q :=
  ha _ h H0 O σ H e _ fun vs H2 ds k2 o2 hd pd => by
    have e2 := e.kq k2 o2
    refine ⟨by rw [List.append_nil, hd.length]; exact L _ _ _ pd, SO p O, ds, K', X', so_trk e2, fun T m => o2.tb T (hT T m), by rw [List.append_nil]; exact hd, pd, fun v H3 d k3 hv hp => q v H3 d (k2.trans k3.up) (o2.kp k3) hv hp, ?_⟩
    exact fun nm H' dx v d k3 hx hv hp => x nm H' dx v d ⟨k2.trans k3.up, o2.kp k3⟩ hx hv hp
theorem callXK {Ts : List Addr} {n a : Nat} {mf : List PyData → WR} {ma mk : W (List PyData)} {ix : List Nat} {K' : PyData → Prop} {X' : Str → PyData → Prop} (hT : ∀ T ∈ Ts, T ∈ p.Ts) (L : ∀ ds P X, mf ds P X → ds.length = n) (ha : EA p t ρ ma) (hk : EA p tk ρ mk)
    (h : ma fun ds => mk fun es => mf (perm .none a ix ds es) K' X') {H0 : Bs} {O : Addr → Prop} {σ : L2.St} {H : Hp} (e : En p H0 O σ H ρ) {Q : VK} (q : ∀ v H2 d, Kq p.Z H H2 → Ok p H2 → Dv (SO p O) H2 v d → K' d → Q v H2)
    (x : Err E Cs (SO p O) (fun H' => Kq p.Z H H' ∧ Ok p H') X') : tCallK (pureX Cs Ts n mf) (perm .non a ix) E t tk σ H Q :=
  ha _ h H0 O σ H e _ fun vs H2 ds k2 o2 hd pd => by
    have e2 := e.kq k2 o2
    refine hk _ pd H0 O σ H2 e2 _ fun zs H3 es k3 o3 hz pz => ?_
    have e3 := e2.kq k3 o3
    have hp := perm_dv (a := a) (ix := ix) (hd.kq k3 so_z) hz
    refine ⟨by rw [hp.length]; exact L _ _ _ pz, SO p O, _, K', X', so_trk e3, fun T m => o3.tb T (hT T m), hp, pz, fun v H4 d k4 hv hp => q v H4 d ((k2.trans k3).trans k4.up) (o3.kp k4) hv hp, ?_⟩
    exact fun nm H' dx v d k4 hx hv hp => x nm H' dx v d ⟨(k2.trans k3).trans k4.up, o3.kp k4⟩ hx hv hp
theorem err_up {H0 : Bs} {O : Addr → Prop} {σ : L2.St} {H : Hp} (e : En p H0 O σ H ρ) (x : Err E Cs p.S (fun H' => Kq (ZO p H0.o) H0.h H' ∧ Ok p H') X) : Err E Cs (SO p O) (fun H' => Kq p.Z H H' ∧ Ok p H') X :=
  fun nm H' dx v d ⟨k, o⟩ hx hv hp => x nm H' dx v d ⟨e.fr.trans (k.mono fun _ z => .inl z), o⟩ hx (dv_out hv) hp
/-- a call that may raise, as a statement -/
theorem rnx_expr {Ts : List Addr} {n : Nat} {mf : List PyData → WR} {ma : W (List PyData)} {K' : Prop} (hT : ∀ T ∈ Ts, T ∈ p.Ts) (L : ∀ ds P X, mf ds P X → ds.length = n) (ha : EA p t ρ ma) (h : ma fun ds => mf ds (fun _ => K') X) (k : K' → RnX p E Cs X tw ρ w) :
    RnX p E Cs X (tSeq (tDrop (tCall (pureX Cs Ts n mf) [] E t)) tw) ρ w := fun H0 O σ H D e n r b c x =>
  callX (Q := fun _ H1 => tw D σ H1) hT L ha h e (fun v H2 d k2 o2 hd pd => k pd H0 O σ H2 D (e.kq k2 o2) n r b c x) (err_up e x)
end
section
variable {P : Program} {w : World} {K : PySem.W.Frag} {mg : Str → Option Value} {base : Heap} {Cs : Str → Addr}
theorem pureX_body {N : List Str} {n : Nat} {Ts : List Addr} {m : List PyData → WR} {t : TS} {vs : List V} {H : Hp} {Q : VK} {E : XK} (hn : n ≤ N.length)
    (h : pureX Cs Ts n m vs H Q E) (hb : ∀ (p : Pm) (ds : List PyData) (R : PyData → Prop) (X : Str → PyData → Prop), (∀ P ∈ Ts, P ∈ p.Ts) → ds.length = n → m ds R X → RnX p E Cs X t (startR N ds) { N := fun _ => R .none, R := R }) :
    t { nx := fun _ H' => Q .non H', rt := Q } (start N vs) H := by
  obtain ⟨hl, S, ds, R, X, tr, tb, hd, hp, q, x⟩ := h
  have hz : ∀ a : Addr, ¬ ZO (pPm S Ts) (fun _ => False) a := fun a z => z.elim (fun z => z) (fun z => z)
  refine hb (pPm S Ts) ds R X (fun _ h => h) (by rw [← hd.length]; exact hl) hp ⟨H, fun _ => False⟩ (fun _ => False) _ H _ ⟨Kq.refl H, ⟨tr, tb, trivial⟩, fun a h => h.elim, ⟨fun _ => [], fun i s hs => ?_, fun i j t u a _ h1 => ?_⟩, ?_⟩
    (fun O' σ' H' ρ' e pn => q .non H' .none (e.fr.mono fun a z => (hz a z).elim) .non pn) (fun v d H' k o hv pr => q v H' d (k.mono fun a z => (hz a z).elim) hv pr) (fun _ _ _ _ _ z => False.elim z) (fun _ _ _ _ _ z => False.elim z)
    (fun nm H' dx v d ⟨k, o⟩ hx hv hp => x nm H' dx v d (k.mono fun a z => (hz a z).elim) hx hv hp)
  · obtain ⟨d, v, rfl, h1, h2⟩ := start_get (N := N) hd i s hs
    exact ⟨v, h1, h2.map (fun a n _ z => z.elim n fun z => z) fun _ _ _ e _ => e⟩
  · obtain ⟨d, v, z, _⟩ := start_get (N := N) hd i _ h1
    cases z
  · unfold L2.start startR
    rw [List.length_append, List.length_append, List.length_map, List.length_map, List.length_replicate, List.length_replicate, hd.length]
theorem ok_pureX {x qual : Str} {st : Stmt} {f : Addr} {fd : FuncData} {N ps : List Str} {k n : Nat} {Ts : List Addr} {m : List PyData → WR} (F : Fun K x qual st f fd) (Sc : FnScope N ps (defScope st)) (hps : ps.length = n) (hn : n ≤ N.length)
    (hb : ∀ (cdv : Value) (A : Around) (outer : List PySem.Env) (s : Shared) (H : Hp) (E : XK), Room k (A.deeper (envOfC qual (defScope st) s.heap.objs.size f cdv)) → Takes (cxOf (L2.CX P w) P w K mg base N qual (defScope st) f cdv A outer s H E) (fun cls d _ H => E cls d H) →
      ∃ t, PSs (cxOf (L2.CX P w) P w K mg base N qual (defScope st) f cdv A outer s H E) (defBody st) t ∧
        ∀ (p : Pm) (ds : List PyData) (R : PyData → Prop) (X : Str → PyData → Prop), (∀ P ∈ Ts, P ∈ p.Ts) → ds.length = n → m ds R X → RnX p E Cs X t (startR N ds) { N := fun _ => R .none, R := R }) : FnOk P w K mg base (L2.CX P w) (k + 1) f fd ps (pureX Cs Ts n m) := by
  refine F.okX Sc (fun vs H Q E h => by rw [h.1, hps]) (fun cdv A outer s H vs Q E hr h => ?_)
  obtain ⟨t, ht, hR⟩ := hb cdv A outer s H E hr (takes_of rfl rfl rfl rfl)
  exact ⟨t, ht, pureX_body hn h hR⟩
/-- a def that may raise, called by its name -/
structure ClX (P : Program) (w : World) (K : PySem.W.Frag) (mg : Str → Option Value) (base : Heap) (x : Str) (ps : List Str) (k : Nat) (sp : Sp) where
  f : Addr
  fd : FuncData
  G : FnOk P w K mg base (L2.CX P w) k f fd ps sp
  g : mg x = some (.ref f)
  kp : PySem.W.keepIn K (.ref f) = true
  b : Binds K fd ps []
end
section
variable {X : Cx} {e : Expr} {es : List Expr} {t tk : TA} {p pos : Pos} {E : XK} {x : Str} {ps ks : List Str} {k j : Nat} {sp : Sp} {kws : List Keyword} {g : List Value → List Value → List Value} {gV : List V → List V → List V}
theorem pCallX (C : ClX X.prog X.w X.K X.mg X.base x ps k sp) (tk : Takes X (fun cls d _ H => E cls d H)) (hr : Room j X.A) (hk : k ≤ j) (ha : PA X (e :: es) t) (hg : Gl X x := by rfl) (hdb : (x == ("__debug__" : Str)) = false := by decide)
    (he : starEach (e :: es) X.env = (false, eval e X.env) :: starEach es X.env := by rfl) (hpl : (backTo pos (starEach es X.env)).any (·.1) = false := by rfl) : PE X (.Call (.Name x p) (e :: es) [] pos) (tCall sp [] E t) :=
  pe_call C.G (hr.mono hk) hg C.g C.kp C.b .nil (passes_call (E := E) tk fun _ _ _ _ h => h) ha hdb he hpl
end
end Kz
set_option Elab.async false
set_option linter.all false
set_option maxRecDepth 100000
set_option maxHeartbeats 4000000
/-! Kz: a call in a lambda, told by a def that catches its errors -/
namespace Kz
open PySem PySem.Spec PyProof.Rows L2
variable [GT]
/-- what such a def makes of a call: r is what the call comes to -/
def Told (Cs : Str → Addr) (TT : (XK → Hp → VK → Prop) → Hp → VK → Prop) (told : WR → W PyData) : Prop :=
  ∀ (p : Pm) (S : Addr → Prop) (H : Hp) (tl : XK → Hp → VK → Prop) (r : WR) (R : PyData → Prop) (Q : VK), told r R → Ok p H → (∀ a, p.Z a → S a) → (∀ H2 a, Kq p.Z H H2 → H2 a = none → ¬ S a) →
    (∀ (Pn : PyData → Prop) (Xn : Str → PyData → Prop) (E : XK) (Q' : VK), r Pn Xn → (∀ v H' d, Kq p.Z H H' → Ok p H' → Dv S H' v d → Pn d → Q' v H') → Err E Cs S (fun H' => Kq p.Z H H' ∧ Ok p H') Xn → tl E H Q') →
    (∀ v H2 d, Kq p.Z H H2 → Ok p H2 → Dv S H2 v d → R d → Q v H2) → TT tl H Q
structure LamP (p : Pm) (P : Addr) (q : Str) : Prop where
  i : P ∈ p.Ts
  n : ¬ GT.g P
  q : GT.q P = q
section
variable {p : Pm} {Cs : Str → Addr} {ρ : Rho} {t tk : TA} {P : Addr} {q : Str} {TT : (XK → Hp → VK → Prop) → Hp → VK → Prop} {told : WR → W PyData}
theorem em_lam (L : LamP p P q) (T : Told Cs TT told) {r : WR} {tt : XK → TE}
    (hc : ∀ (Pn : PyData → Prop) (Xn : Str → PyData → Prop) (E : XK), r Pn Xn → ∀ {H0 : Bs} {O : Addr → Prop} {σ : L2.St} {H : Hp}, En p H0 O σ H ρ → ∀ {Q : VK}, (∀ v H2 d, Kq p.Z H H2 → Ok p H2 → Dv (SO p O) H2 v d → Pn d → Q v H2) →
      Err E Cs (SO p O) (fun H' => Kq p.Z H H' ∧ Ok p H') Xn → tt E σ H Q) : EM p (tLamb P q TT tt) ρ (fun R => told r R) := fun R hr H0 O σ H e Q qq => by
  have hT := e.ok.tb P L.i
  have tS : LamX.TabS H P (GT.q P) := hT.lam L.n
  rw [← L.q]
  refine ⟨tS, fun H1 g => ?_⟩
  have k1 : Kp H H1 := g.kq L.n tS
  have e1 := e.kp k1
  exact T p (SO p O) H1 _ r R Q hr e1.ok so_z (fun H2 a k na => fresh_so e1 (k.back na)) (fun Pn Xn E Q' hp hq hx => hc Pn Xn E hp e1 hq hx) fun v H2 d k o hv hd => qq v H2 d (k1.up.trans k) o hv hd
theorem em_lamC (L : LamP p P q) (T : Told Cs TT told) {Ts : List Addr} {n : Nat} {mf : List PyData → WR} {ma : W (List PyData)} (hT : ∀ T ∈ Ts, T ∈ p.Ts) (Ln : ∀ ds P X, mf ds P X → ds.length = n) (ha : EA p t ρ ma) :
    EM p (tLamb P q TT (fun E => tCall (pureX Cs Ts n mf) [] E t)) ρ (fun R => told (fun Pn Xn => ma fun ds => mf ds Pn Xn) R) :=
  em_lam L T fun _ _ _ hr _ _ _ _ e _ hq hx => callX hT Ln ha hr e hq hx
theorem em_lamK (L : LamP p P q) (T : Told Cs TT told) {Ts : List Addr} {n a : Nat} {mf : List PyData → WR} {ma mk : W (List PyData)} {ix : List Nat} (hT : ∀ T ∈ Ts, T ∈ p.Ts) (Ln : ∀ ds P X, mf ds P X → ds.length = n) (ha : EA p t ρ ma) (hk : EA p tk ρ mk) :
    EM p (tLamb P q TT (fun E => tCallK (pureX Cs Ts n mf) (perm .non a ix) E t tk)) ρ (fun R => told (fun Pn Xn => ma fun ds => mk fun es => mf (perm .none a ix ds es) Pn Xn) R) :=
  em_lam L T fun _ _ _ hr _ _ _ _ e _ hq hx => callXK hT Ln ha hk hr e hq hx
end
/-- a def that tells what a lambda's call comes to -/
structure ClT (P : Program) (w : World) (K : PySem.W.Frag) (mg : Str → Option Value) (base : Heap) (x a : Str) (Cs : Str → Addr) (told : WR → W PyData) where
  {g : Addr} {pg : Arguments} {bg : List Stmt} {sg : Scope} {dV : Value} {kV : Value} {doc : Value} {pm : Value} {cdv : Value} {ct : Value} {oc : Value} {an : Option Addr} {od : Option Addr} {osl : Array (Option Value)} {Ng : List Str}
  TT : (XK → Hp → VK → Prop) → Hp → VK → Prop
  hm : mg x = some (.ref g)
  hk : PySem.W.keepIn K (.ref g) = true
  lk : K.lookup g = some ⟨oc, od, .func (PySem.W.fnOf x x pg bg sg dV kV doc pm an cdv ct), osl⟩
  hcg : PySem.W.codeIn K cdv x = true
  hb : L2.Binds K (PySem.W.fnOf x x pg bg sg dV kV doc pm an cdv ct) [a] []
  Sg : FnScope Ng [a] sg
  hN : Ng[0]? = some a
  hv : Vis sg a
  G : ∀ (X : Cx) (q : Str), X.prog = P → X.w = w → X.K = K → X.mg = mg → X.base = base → LamX.GivesTo X Ng x sg g cdv bg a q TT
  T : Told Cs TT told
  d1 : (x == ("__debug__" : Str)) = false
  d2 : (a == ("__debug__" : Str)) = false
  d3 : (a == ("__classdict__" : Str)) = false
section
variable {X : Cx} {x a q : Str} {Cs : Str → Addr} {told : WR → W PyData} {c P : Addr} {k j : Nat} {params : Arguments} {body : Expr} {scope : Scope} {t : XK → TE} {p lpos pos : Pos}
/-- x(lambda: body) -/
theorem pLam (C : ClT X.prog X.w X.K X.mg X.base x a Cs told) (TB : GxR.TabB X.base X.mg c P) (hr : Room j X.A) (hj : k + 2 ≤ j)
    (hbody : ∀ (A : Around) (outer : List PySem.Env) (s : Shared) (H : Hp) (E : XK) (f c' : Addr), Room k (A.deeper (LamX.lamEnv X scope s.heap.objs.size f c')) → Takes (LamX.lamCx X A outer s H E scope f c') (fun cls d _ H => E cls d H) → PE (LamX.lamCx X A outer s H E scope f c') body (t E))
    (hg : Gl X x := by rfl) (ec : X.env.code = .ref c := by rfl) (eq : X.env.qual ++ "<lambda>" = q := by rfl) (L : LamX.lamSB X.env.scope scope = true := by rfl) (nd : defaultsOf params X.env = ([], []) := by rfl)
    (bd : ∀ (q : Str) (cl : List (Str × Addr)) (pm cv ctv : Value), bindArgs (PySem.W.kla_fn "<lambda>" q params body scope cl pm cv ctv) ⟨[], []⟩ = pure [] := by intros; rfl) :
    PE X (.Call (.Name x p) [.Lambda params body scope lpos] [] pos) (tLamb P q C.TT t) :=
  pe_lamb hg C.hm C.hk C.lk C.hcg C.hb C.Sg C.hN C.hv (C.G X q rfl rfl rfl rfl rfl) TB ec eq (hr.mono hj) (LamX.lamS_by L) nd bd (fun A outer s H E f c' r => hbody A outer s H E f c' r (takes_of rfl rfl rfl rfl)) C.d1 C.d2 C.d3
/-- the slots' number is known -/
theorem Takes.len {X : Cx} {W : WX} (t : Takes X W) : Takes X (fun cls d σ H => σ.length = X.N.length → W cls d σ H) := fun u s' ⟨a, B, sI, pins, σ, H, cls, d, e, I, nb, up, sky, na, os, ag, w⟩ =>
  t u s' ⟨a, B, sI, pins, σ, H, cls, d, e, I, nb, up, sky, na, os, ag, w I.len⟩
end
section
variable {X : Cx} {a C : Addr} {oe : Obj} {pn : List (Addr × Obj)} {cls : Value} {d : Option Addr}
def rIsY (K : PySem.W.Frag) (C : Addr) (cls : Value) (d : Option Addr) (a : Addr) : List V → Hp → VK → Prop := fun xs H Q => cls = .ref C ∧ ∃ dx, d = some dx ∧ rIsX K C a dx xs H Q
def rIsYT (K : PySem.W.Frag) (C : Addr) (cls : Value) (d : Option Addr) (a : Addr) : List V → Hp → VK → Prop := fun xs H Q => cls = .ref C ∧ ∃ dx, d = some dx ∧ rIsXT K C a dx xs H Q
theorem call_isY (T : ErrX X.K C) (hz : Zc cls d oe) (hf : ∃ vs, oe.data = .fields vs) : CallR (X.suite a ((a, oe) :: pn)) (.builtin "isinstance") (rIsY X.K C cls d a) := by
  rintro pins s σ H xs us Q I r ⟨rfl, dx, rfl, h⟩
  exact call_isX T hz hf pins s σ H xs us Q I r h
theorem call_isYT (T : ErrX X.K C) (hz : Zc cls d oe) (hf : ∃ vs, oe.data = .fields vs) : CallR (X.suite a ((a, oe) :: pn)) (.builtin "isinstance") (rIsYT X.K C cls d a) := by
  rintro pins s σ H xs us Q I r ⟨rfl, dx, rfl, h⟩
  exact call_isXT T hz hf pins s σ H xs us Q I r h
end
end Kz
set_option Elab.async false
set_option linter.all false
set_option maxRecDepth 100000
set_option maxHeartbeats 4000000
/-! Kz: arguments of defs that may raise; a law with lambdas -/
namespace Kz
open PySem PySem.Spec PyProof.Rows L2
variable [GT]
/-- the first def in a class's body -/
def clsFn : Stmt → Stmt
  | .ClassDef _ _ _ b _ _ _ _ _ _ _ => b.getD 0 (.Pass ⟨0, 0, 0, 0⟩)
  | s => s
abbrev gtL (gs : List Addr) (qs : Addr → Str) : GT := ⟨fun P => P ∈ gs, qs⟩
theorem exm_own {K : PySem.W.Frag} {S : Addr} (h1 : PySem.W.subIn K (.ref S) (.type "BaseException") = some true) (h2 : PySem.W.hasDictIn K S = true) (h3 : PySem.W.typeIn K (.ref S) = some (.type "type")) (h4 : PySem.W.subIn K (.ref S) (.ref S) = some true) : PySem.W.exmOne K (.ref S) (.ref S) = some true := by
  exact PySem.W.exm_ref h1 h2 h3 h4
theorem kit_own {K : PySem.W.Frag} {S D : Addr} {b : Bool} (ne : (S == D) = false) (h2 : PySem.W.isClsIn K D = true) (h3 : PySem.W.typeIn K (.ref D) = some (.type "type")) (h4 : PySem.W.subIn K (.ref S) (.ref D) = some b) : PySem.W.kitOne K (.ref S) (.ref D) = some b := by
  unfold PySem.W.kitOne PySem.W.kitCls
  have e : (Value.ref S == Value.ref D) = false := by
    cases q : (Value.ref S == Value.ref D) with
    | false => rfl
    | true =>
      have := Value.ref.inj (beq_iff_eq.mp q)
      rw [this] at ne
      simp at ne
  have h2' : (PySem.W.clsIn K D).isSome = true := h2
  rw [e, if_neg (by decide)]
  show (if ((PySem.W.clsIn K D).isSome && PySem.W.typeIn K (.ref D) == some (.type "type")) = true then PySem.W.subIn K (.ref S) (.ref D) else none) = some b
  rw [h2', h3, h4]
  rfl
def ax1 (m : PyData → WR) : List PyData → WR
  | [a0], P, X => m a0 P X
  | _, _, _ => False
theorem ax1_len {m : PyData → WR} : ∀ (ds : List PyData) (P : PyData → Prop) (X : Str → PyData → Prop), ax1 m ds P X → ds.length = 1 := fun ds P X h => by
  unfold ax1 at h
  split at h
  · rfl
  · exact h.elim
theorem ax1_inv {m : PyData → WR} {ds : List PyData} {P : PyData → Prop} {X : Str → PyData → Prop} (h : ax1 m ds P X) : ∃ a0, ds = [a0] ∧ m a0 P X := by
  unfold ax1 at h
  split at h
  · exact ⟨_, rfl, h⟩
  · exact h.elim
def ax2 (m : PyData → PyData → WR) : List PyData → WR
  | [a0, a1], P, X => m a0 a1 P X
  | _, _, _ => False
theorem ax2_len {m : PyData → PyData → WR} : ∀ (ds : List PyData) (P : PyData → Prop) (X : Str → PyData → Prop), ax2 m ds P X → ds.length = 2 := fun ds P X h => by
  unfold ax2 at h
  split at h
  · rfl
  · exact h.elim
theorem ax2_inv {m : PyData → PyData → WR} {ds : List PyData} {P : PyData → Prop} {X : Str → PyData → Prop} (h : ax2 m ds P X) : ∃ a0 a1, ds = [a0, a1] ∧ m a0 a1 P X := by
  unfold ax2 at h
  split at h
  · exact ⟨_, _, rfl, h⟩
  · exact h.elim
def ax3 (m : PyData → PyData → PyData → WR) : List PyData → WR
  | [a0, a1, a2], P, X => m a0 a1 a2 P X
  | _, _, _ => False
theorem ax3_len {m : PyData → PyData → PyData → WR} : ∀ (ds : List PyData) (P : PyData → Prop) (X : Str → PyData → Prop), ax3 m ds P X → ds.length = 3 := fun ds P X h => by
  unfold ax3 at h
  split at h
  · rfl
  · exact h.elim
theorem ax3_inv {m : PyData → PyData → PyData → WR} {ds : List PyData} {P : PyData → Prop} {X : Str → PyData → Prop} (h : ax3 m ds P X) : ∃ a0 a1 a2, ds = [a0, a1, a2] ∧ m a0 a1 a2 P X := by
  unfold ax3 at h
  split at h
  · exact ⟨_, _, _, rfl, h⟩
  · exact h.elim
def ax4 (m : PyData → PyData → PyData → PyData → WR) : List PyData → WR
  | [a0, a1, a2, a3], P, X => m a0 a1 a2 a3 P X
  | _, _, _ => False
theorem ax4_len {m : PyData → PyData → PyData → PyData → WR} : ∀ (ds : List PyData) (P : PyData → Prop) (X : Str → PyData → Prop), ax4 m ds P X → ds.length = 4 := fun ds P X h => by
  unfold ax4 at h
  split at h
  · rfl
  · exact h.elim
theorem ax4_inv {m : PyData → PyData → PyData → PyData → WR} {ds : List PyData} {P : PyData → Prop} {X : Str → PyData → Prop} (h : ax4 m ds P X) : ∃ a0 a1 a2 a3, ds = [a0, a1, a2, a3] ∧ m a0 a1 a2 a3 P X := by
  unfold ax4 at h
  split at h
  · exact ⟨_, _, _, _, rfl, h⟩
  · exact h.elim
def ax5 (m : PyData → PyData → PyData → PyData → PyData → WR) : List PyData → WR
  | [a0, a1, a2, a3, a4], P, X => m a0 a1 a2 a3 a4 P X
  | _, _, _ => False
theorem ax5_len {m : PyData → PyData → PyData → PyData → PyData → WR} : ∀ (ds : List PyData) (P : PyData → Prop) (X : Str → PyData → Prop), ax5 m ds P X → ds.length = 5 := fun ds P X h => by
  unfold ax5 at h
  split at h
  · rfl
  · exact h.elim
theorem ax5_inv {m : PyData → PyData → PyData → PyData → PyData → WR} {ds : List PyData} {P : PyData → Prop} {X : Str → PyData → Prop} (h : ax5 m ds P X) : ∃ a0 a1 a2 a3 a4, ds = [a0, a1, a2, a3, a4] ∧ m a0 a1 a2 a3 a4 P X := by
  unfold ax5 at h
  split at h
  · exact ⟨_, _, _, _, _, rfl, h⟩
  · exact h.elim
def ax6 (m : PyData → PyData → PyData → PyData → PyData → PyData → WR) : List PyData → WR
  | [a0, a1, a2, a3, a4, a5], P, X => m a0 a1 a2 a3 a4 a5 P X
  | _, _, _ => False
theorem ax6_len {m : PyData → PyData → PyData → PyData → PyData → PyData → WR} : ∀ (ds : List PyData) (P : PyData → Prop) (X : Str → PyData → Prop), ax6 m ds P X → ds.length = 6 := fun ds P X h => by
  unfold ax6 at h
  split at h
  · rfl
  · exact h.elim
theorem ax6_inv {m : PyData → PyData → PyData → PyData → PyData → PyData → WR} {ds : List PyData} {P : PyData → Prop} {X : Str → PyData → Prop} (h : ax6 m ds P X) : ∃ a0 a1 a2 a3 a4 a5, ds = [a0, a1, a2, a3, a4, a5] ∧ m a0 a1 a2 a3 a4 a5 P X := by
  unfold ax6 at h
  split at h
  · exact ⟨_, _, _, _, _, _, rfl, h⟩
  · exact h.elim
theorem fng_ofC {P : Program} {w : World} {K : PySem.W.Frag} {mg : Str → Option Value} {base : Heap} {x qual : Str} {st : Stmt} {f c : Addr} {N ps : List Str} {k : Nat} {sp : Sp} {kV doc pm ct oc dV : Value} {an od : Option Addr} {osl : Array (Option Value)} (lk : K.lookup f = some ⟨oc, od, .func (PySem.W.fnOf x qual (defArgs st) (defBody st) (defScope st) dV kV doc pm an (.ref c) ct), osl⟩) (hcd : PySem.W.codeIn K (.ref c) qual = true) (Sc : FnScope N ps (defScope st)) (len : ∀ vs H Q E, sp vs H Q E → vs.length = ps.length)
    (hbody : ∀ (A : Around) (outer : List PySem.Env) (s : Shared) (H : Hp) (vs : List V) (Q : VK), Room k (A.deeper (envOfC qual (defScope st) s.heap.objs.size f (.ref c))) →
      (A.deeper (envOfC qual (defScope st) s.heap.objs.size f (.ref c))).guards = some [] → sp vs H Q E0 →
      ∃ t, PSs (cxOf CX0 P w K mg base N qual (defScope st) f (.ref c) A outer s H E0).nox (defBody st) t ∧ t { nx := fun _ H' => Q .non H', rt := Q } (L2.start N vs) H) : FnG P w K mg base (k + 1) f (PySem.W.fnOf x qual (defArgs st) (defBody st) (defScope st) dV kV doc pm an (.ref c) ct) ps sp := by
  refine ⟨len, fun A outer s H args us vs Q hr hG e0 hb r hsp => ?_⟩
  have hl := len _ _ _ _ hsp
  have KX : K.In s.heap := e0.mod.kin.keeps fun b o e => (e0.bs b o e).1
  have lim : s.heap.NoLimit := e0.mod.nolimit.keeps fun b o e => (e0.bs b o e).1
  have kinds : ∀ y ∈ ps.zip us, (defScope st).names.lookup y.1 = some .local ∨ ((defScope st).names.lookup y.1 = some .cell ∧ ((cellsFrom (s.heap.objs.size + 1) (defScope st).names []).lookup y.1).isSome = true) := by
    rintro ⟨n, v⟩ hy
    rcases Sc.par n (List.of_mem_zip hy).1 with q | q
    · exact .inl q
    · exact .inr ⟨q, PySem.W.cellsFrom_some _ _ _ (.inl q)⟩
  refine codeAny_call_function hr.depth (KX _ _ lk) rfl Sc.co Sc.gen rfl (PySem.W.codeRec_of KX hcd) (hb _ _ _ _ ?_)
  refine wpAny_newFunctionEnv_cells Sc.kind kinds fun env he s1 x => ?_
  subst he
  refine ⟨lim.keeps x.toInCall.keep, codeAny_func ?_⟩
  obtain ⟨t, ht, hq⟩ := hbody A outer s H vs Q (hr.deeper _) hG hsp
  have I : Inv (cxOf CX0 P w K mg base N qual (defScope st) f (.ref c) A outer s H E0) [] (L2.start N vs) H s1 := inv_start Sc hr.hd e0 hl r x
  refine wpAny_mono (ht.nox.run [] s1 (L2.start N vs) H _ I hq) (fun fl s' hs => ?_) fun e s' hs => hs
  cases fl with
  | ret u =>
    obtain ⟨v, σ', H', J, rv, q⟩ := hs
    exact ⟨v, H', J.os, J.bare, J.base, J.hok, rv, q⟩
  | next =>
    obtain ⟨σ', H', J, q⟩ := hs
    exact ⟨V.non, H', J.os, J.bare, J.base, J.hok, rfl, q⟩
  | brk => exact hs.elim fun _ z => z.elim fun _ z => z.2.elim
  | cont => exact hs.elim fun _ z => z.elim fun _ z => z.2.elim
section
variable {P : Program} {w : World} {K : PySem.W.Frag} {mg : Str → Option Value} {base : Heap}
theorem ok_lawMC {nm : Str} {st : Stmt} {f c : Addr} {fd : FuncData} {N : List Str} {k : Nat} {Ts : List Addr} {m : W PyData} (F : FunC K "law" "law" st f fd c) (Sc : FnScope N ["script"] (defScope st)) (hN : 2 ≤ N.length) (hm : m (· = .bool true))
    (hb : ∀ (A : Around) (outer : List PySem.Env) (s : Shared) (H : Hp), Room k (A.deeper (envOfC "law" (defScope st) s.heap.objs.size f (.ref c))) → (A.deeper (envOfC "law" (defScope st) s.heap.objs.size f (.ref c))).guards = some [] →
      ∃ t, PSs (cxOf CX0 P w K mg base N "law" (defScope st) f (.ref c) A outer s H E0).nox (defBody st) (tSeq (tAsg (tCall (spDeck nm K) [] E0 (tCons (tVar 0) tNil)) (gName 1)) t) ∧
        ∀ (S : Addr → Prop) (dk cl : Addr) (h1 : S dk) (h2 : S cl) (R : PyData → Prop), m R → Rn (dPm nm S dk cl h1 h2 Ts) t (lawR N dk) { N := fun _ => R .none, R := R }) : FnG P w K mg base (k + 1) f fd ["script"] (spLaw K Ts) := by
  obtain ⟨oc, od, kV, doc, pm, an, ct, osl, rfl, lk, hcd⟩ := F.ex
  refine fng_ofC (c := c) lk hcd Sc (fun vs H Q E ⟨a, ns, e, _⟩ => by rw [e]; rfl) fun A outer s H vs Q hr hG h => ?_
  obtain ⟨t, ht, hR⟩ := hb A outer s H hr hG
  exact ⟨_, ht, law_body hN h hm hR⟩
end
end Kz
set_option Elab.async false
set_option linter.all false
set_option maxRecDepth 100000
set_option maxHeartbeats 4000000
namespace Kz
open PySem PySem.Spec PyProof.Rows L2
def topS (i : Nat) : Stmt := PySem.Challenge.pw_nearsteps_k13_spots_and_plain_places_amo.main.body.getD i (.Pass ⟨0, 0, 0, 0⟩)
abbrev sDraw : Stmt := topS 19
abbrev sDeck : Stmt := topS 18
theorem nmD : Nm "draws" := ⟨by decide, by decide⟩
theorem scDraw : FnScope ["deck", "many", "number", "cell"] ["deck", "many"] (defScope sDraw) := ⟨rfl, rfl, rfl, by decide +kernel, rfl, by decide +kernel, by decide +kernel⟩
theorem scDeck : FnScope ["script", "stirred", "cell"] ["script"] (defScope sDeck) := ⟨rfl, rfl, rfl, by decide +kernel, rfl, by decide +kernel, by decide +kernel⟩
section
variable {P : Program} {w : World} {K : PySem.W.Frag} {mg : Str → Option Value} {base : Heap} {Ts : List Addr} [GT]
theorem ok_draw (B : Bn mg) {f : Addr} {fd : FuncData} (F : Fun K "_law_draw" "_law_draw" sDraw f fd) : FnOk P w K mg base CX0 1 f fd ["deck", "many"] (deckM "draws" Ts 1 (ap1 drawW)) := by
  refine ok_deckM F scDraw rfl (by decide) fun cdv A outer s H E hr => ⟨_, pss_cons (ps_dput (hu_of hr) (pv 0) pe_str (pe_op op_add (pe_dget (hu_of hr) (pv 0) pe_str (fun _ _ => rfl)) pe_int) rfl)
    (pss_cons (ps_set (i := 2) scDraw.nd rfl (.inl rfl) (pe_op op_add (pe_dget (hu_of hr) (pv 0) pe_str (fun _ _ => rfl)) (pe_op op_mul pe_int (pe_dget (hu_of hr) (pv 0) pe_str (fun _ _ => rfl)))))
    (pss_cons (ps_if (pt_cmpR (op_neD hr.units) (pe_dget (hu_of hr) (pv 0) pe_str (fun _ _ => rfl)) (pe_lst pa_nil) (nomark _))
      (pss_cons (ps_set (i := 3) scDraw.nd rfl (.inl rfl) (pe_bm0 PySem.F.plainAttrs_list PySem.F.slot_list_pop PySem.F.type_list_pop mt_pop (pe_dget (hu_of hr) (pv 0) pe_str (fun _ _ => rfl))))
        (pss_cons (ps_if (pt_cmpR op_ge (pv 3) (pe_op op_pow pe_int pe_int) (nomark _))
            (pss_cons (ps_expr (pe_bm PySem.F.plainAttrs_list PySem.F.slot_list_append PySem.F.type_list_append mt_append (pe_dget (hu_of hr) (pv 0) pe_str (fun _ _ => rfl)) (pa_cons (pe_op op_fdiv (pv 3) (pMax2 B rfl pe_int (pv 1))) pa_nil)))
              (pss_cons (ps_ret (pe_op op_modN (pInt B (pv 3)) (pv 1))) pss_nil)) pss_nil)
          (pss_cons (ps_set (i := 2) scDraw.nd rfl (.inl rfl) (pe_op op_add (pv 2) (pe_op op_modN (pInt B (pv 3)) pe_int))) pss_nil)))
      pss_nil)
    (pss_cons (ps_set (i := 2) scDraw.nd rfl (.inl rfl) (pe_op op_modN (pInt B (pe_op op_add (pe_op op_mul (pv 2) pe_int) pe_int)) pe_int))
    (pss_cons (ps_set (i := 2) scDraw.nd rfl (.inl rfl) (pe_op op_modN (pInt B (pe_op op_add (pe_op op_add (pe_op op_mul (pv 2) (pv 2)) (pe_op op_mul pe_int (pe_dget (hu_of hr) (pv 0) pe_str (fun _ _ => rfl)))) pe_int)) pe_int))
    (pss_cons (ps_set (i := 2) scDraw.nd rfl (.inl rfl) (pe_op op_modN (pInt B (pe_op op_mul (pv 2) pe_int)) pe_int))
      (pss_cons (ps_ret (pe_op op_modN (pInt B (pe_op op_fdiv (pv 2) pe_int)) (pv 1))) pss_nil)))))), fun S dk cl h1 h2 ds R hl hm => ?_⟩
  obtain ⟨d, rfl, hm'⟩ := ap1_inv hm
  obtain ⟨many, rfl, ⟨hm1, hm2⟩, hR⟩ := drawW_inv hm'
  have out : ∀ x : Int, R (.int (x.fmod many)) := fun x => by
    rw [fmodE hm1]
    exact hR _ (Int.emod_nonneg x (by omega)) (Int.emod_lt_of_pos x hm1)
  refine rm_putD nmD rfl (em_op rs_addI (em_dkD nmD rfl) em_int) (fun k => ⟨_, rfl⟩) ?_
  refine rx_set (K' := fun d => ∃ x, d = .int x) (em_op rs_addI (em_dkM rfl) (em_op rs_mulS em_int (em_dkD nmD rfl))) (fun k j => ⟨.inl (by decide), _, rfl⟩) fun d hd => ?_
  obtain ⟨num, rfl⟩ := hd
  refine rm_seqN (Nm := fun ρ => ∃ (x : Int) (a3 : Option Sl), ρ = [some (.raw (.ref dk)), some (.dat (.int many)), some (.dat (.int x)), a3]) ?_ ?_
  · intro H0 O σ H D e nx rt bk ct
    obtain ⟨ns, m, dd, q1, q2, hlen⟩ := e.ok.mm
    obtain ⟨ad, g1, g2⟩ := e.sl
    have s0 : σ[0]? = some (some (.ref dk)) := g1 0 _ rfl
    have s1 : σ[1]? = some (some (.int many)) := by
      obtain ⟨v, g1, g2⟩ := g1 1 (.dat (.int many)) rfl
      cases g2; exact g1
    have hln : σ.length = 4 := e.ln
    have gC : ∀ {H' : Hp}, H' dk = some (.dK [(kC, .ref cl), (kM, .int m), (.inr "draws", .int dd)]) → DGet H' dk (.str "cells") (some (.ref cl)) := fun h => by
      have := DGet.k (k := kC) h
      rw [val_C] at this
      exact this
    refine ⟨_, s0, dk, .ref cl, rfl, gC q1, by decide, fun l hl' => ?_⟩
    have kn : Kp H (upd H l (.lst [])) := Kq.new hl'
    have e1 := e.kp kn
    have q1' := kn.at_ dk _ (fun z => z) q1 nt_dk
    have q2' := kn.at_ cl _ (fun z => z) q2 nt_lst
    refine ⟨.list (ns.map .int), .list [], (Dv.lst (S := Z0) (fun z => z) q2' (DvL.ints ns)).dp _ _ (hdI ns), (Dv.lst (S := Z0) (fun z => z) upd_same .nil).dp _ _ rfl, shI ns, shI [], _, rfl, ?_⟩
    generalize hH1 : upd H l (.lst []) = H1 at *
    rcases List.eq_nil_or_concat ns with rfl | ⟨ms, c, rfl⟩
    · rw [if_neg (by decide)]
      exact nx O σ H1 _ e1 ⟨_, _, rfl⟩
    · rw [List.concat_eq_append] at *
      have hnn : (!PyData.eqv (.list ((ms ++ [c]).map .int)) (.list [])) = true := by
        cases ms <;> rfl
      rw [if_pos hnn]
      have hxl : ((ms ++ [c]).map V.int)[((ms ++ [c]).map V.int).length - 1]? = some (.int c) := by simp
      have hdl : ((ms ++ [c]).map V.int).dropLast = ms.map V.int := by simp
      have hms : ms.length ≤ 63 := by simp at hlen; omega
      refine ⟨_, s0, dk, .ref cl, rfl, gC q1', .inl ⟨rfl, _, .inl (.inl q2')⟩, cl, _, .int c, rfl, rfl, q2', hxl, ?_⟩
      rw [hdl]
      have hne : dk ≠ cl := dk_ne e.ok.mm
      have p1 : (upd H1 cl (.lst (ms.map .int))) dk = some (.dK [(kC, .ref cl), (kM, .int m), (.inr "draws", .int dd)]) := by rw [upd_ne hne]; exact q1'
      have ok2 : Ok (dPm "draws" S dk cl h1 h2 Ts) (upd H1 cl (.lst (ms.map .int))) := ok_putD e1.ok q2' nt_lst nc_lst nt_lst ⟨ms, m, dd, p1, upd_same, by omega⟩
      have e2 := (e1.kq (Kq.put q2' nt_lst nc_lst (.inr rfl)) ok2).set (i := 3) (v := .int c) (d := .int c) (.int c)
      have q3 : (upd H1 cl (.lst (ms.map .int))) cl = some (.lst (ms.map .int)) := upd_same
      generalize upd H1 cl (.lst (ms.map .int)) = H2 at *
      have t0 : (σ.set 3 (some (.int c)))[0]? = some (some (.ref dk)) := by rw [List.getElem?_set_ne (by decide)]; exact s0
      have t1 : (σ.set 3 (some (.int c)))[1]? = some (some (.int many)) := by rw [List.getElem?_set_ne (by decide)]; exact s1
      have t3 : (σ.set 3 (some (.int c)))[3]? = some (some (.int c)) := by rw [List.getElem?_set_self (by omega)]
      refine ⟨_, t3, _, _, rfl, rfl, ⟨by decide, by decide, by decide⟩, c, _, rfl, rfl, _, rfl, ?_⟩
      by_cases hc : decide ((10 : Int) ^ (18 : Int).toNat ≤ c) = true
      · dsimp only
        rw [if_pos hc]
        refine ⟨_, t0, dk, .ref cl, rfl, gC p1, .inl ⟨rfl, _, .inl (.inl q3)⟩, _, t3, _, t1, 2, many, rfl, c, if many > 2 then many else 2, rfl, rfl, ⟨?_, ?_⟩, cl, _, .int (c / if many > 2 then many else 2), rfl, rfl, q3, Nat.lt_of_lt_of_le (show _ < 1000 by rw [List.length_map]; omega) (by decide), ?_⟩
        · split <;> omega
        · split <;> omega
        have e3 := e2.kq (Kq.put q3 nt_lst nc_lst (.inr rfl)) (ok_putD (o := .lst (ms.map .int ++ [.int (c / if many > 2 then many else 2)])) e2.ok q3 nt_lst nc_lst nt_lst ⟨ms ++ [c / if many > 2 then many else 2], m, dd, by rw [upd_ne hne]; exact p1, by rw [List.map_append]; exact upd_same, by simp; omega⟩)
        exact rx_ret (tw := tNext) (w := { N := fun _ => False, R := R }) (em_op rs_mod (em_b1 b_int (em_var (d := .int c) rfl)) (em_var (d := .int many) rfl)) ⟨by omega, out c⟩ _ _ _ _ _ e3 (fun _ _ _ _ _ z => z.elim) rt (fun _ _ _ _ _ z => z.elim) (fun _ _ _ _ _ z => z.elim)
      · dsimp only
        rw [if_neg hc]
        refine rx_set (tw := tNext) (w := { N := fun ρ => ∃ (x : Int) (a3 : Option Sl), ρ = [some (.raw (.ref dk)), some (.dat (.int many)), some (.dat (.int x)), a3], R := R }) (K' := fun d => ∃ x, d = .int x) (em_op rs_addI (em_var (d := .int num) rfl) (em_op rs_mod (em_b1 b_int (em_var (d := .int c) rfl)) em_int)) ⟨by decide, _, rfl⟩ (fun d hd => ?_) _ _ _ _ _ e2 nx rt (fun _ _ _ _ _ z => z.elim) (fun _ _ _ _ _ z => z.elim)
        obtain ⟨k, rfl⟩ := hd
        exact rn_next ⟨k, _, rfl⟩
  · rintro ρ ⟨x, a3, rfl⟩
    have rng : ∀ (x m : Int), 0 < m → ∃ y : Int, PyData.int (x.fmod m) = .int y ∧ 0 ≤ y ∧ y < m := fun x m h => ⟨_, rfl, by rw [fmodE h]; exact Int.emod_nonneg x (by omega), by rw [fmodE h]; exact Int.emod_lt_of_pos x h⟩
    refine rx_set (K' := fun d => ∃ x : Int, d = .int x ∧ 0 ≤ x ∧ x < 2147483648) (em_op rs_mod (em_b1 b_int (em_op rs_addI (em_op rs_mulS (em_var rfl) em_int) em_int)) em_int) ⟨.inr (by decide), by decide, ?_⟩ fun d hd => ?_
    · obtain ⟨y, h, h0, h1⟩ := rng (x * 40014 + 31) 2147483647 (by decide)
      exact ⟨y, h, h0, by omega⟩
    obtain ⟨y, rfl, hy0, hy1⟩ := hd
    refine rx_set (K' := fun d => ∃ x : Int, d = .int x ∧ 0 ≤ x ∧ x < 2147483648) (em_op rs_mod (em_b1 b_int (em_op rs_addI (em_op rs_addI (em_op rs_mulS (em_var rfl) (em_var rfl)) (em_op rs_mulS em_int (em_dkD nmD rfl))) em_int)) em_int) ⟨.inr ⟨by omega, by omega⟩, fun k => ⟨.inl (by decide), by decide, ?_⟩⟩ fun d hd => ?_
    · obtain ⟨y, h, h0, h1⟩ := rng (y * y + 50261 * k + 43) 2147483587 (by decide)
      exact ⟨y, h, h0, by omega⟩
    obtain ⟨z, rfl, hz0, hz1⟩ := hd
    refine rx_set (K' := fun d => ∃ x : Int, d = .int x ∧ 0 ≤ x ∧ x < 2147483648) (em_op rs_mod (em_b1 b_int (em_op rs_mulS (em_var rfl) em_int)) em_int) ⟨.inr (by decide), by decide, ?_⟩ fun d hd => ?_
    · obtain ⟨y, h, h0, h1⟩ := rng (z * 39373) 2147483579 (by decide)
      exact ⟨y, h, h0, by omega⟩
    obtain ⟨u, rfl, hu0, hu1⟩ := hd
    exact rx_ret (em_op rs_mod (em_b1 b_int (em_op rs_fdivI (em_var rfl) em_int)) (em_var rfl)) ⟨⟨by decide, by decide⟩, by omega, out _⟩
theorem ok_mkDeck (B : Bn mg) {f : Addr} {fd : FuncData} (F : Fun K "_law_deck" "_law_deck" sDeck f fd) : FnOk P w K mg base CX0 1 f fd ["script"] (spDeck "draws" K) := by
  refine F.ok scDeck (fun vs H Q E ⟨a, ns, e, _⟩ => by rw [e]; rfl) fun cdv A outer s H vs Q E hr h => ⟨_, pss_cons (ps_set (i := 1) scDeck.nd rfl (.inl rfl) pe_int)
    (pss_cons (ps_for PassesOwn.never rfl (piA K (pe_slice sl_list (pv 0) po_none (po_some pe_int))) (gN 2 scDeck.nd) (pss_cons (ps_set (i := 1) scDeck.nd rfl (.inl rfl) (pe_op op_modN (pInt B (pe_op op_add (pe_op op_add (pe_op op_mul (pv 1) pe_int) (pe_op op_modN (pInt B (pv 2)) pe_int)) pe_int)) pe_int)) pss_nil))
      (pss_cons (ps_ret (pe_disp (pps_cons pe_str (pe_revL (pList B (pe_slice sl_list (pv 0) po_none (po_some pe_int)))) (pps_cons pe_str (pv 1) (pps_cons pe_str pe_int pps_nil))) (by rfl) (by rfl) (fun z => by cases z) (by decide))) pss_nil)), ?_⟩
  obtain ⟨a, ns, rfl, hs, hl, q⟩ := h
  have hen : En (sPm K H a (ns.map .int)) ⟨H, fun _ => False⟩ (fun _ => False) (L2.start ["script", "stirred", "cell"] [.ref a]) H [some (.raw (.ref a)), none, none] := by
    refine ⟨Kq.refl H, ⟨fun x z => ?_, by simp [sPm], ?_⟩, fun a h => h.elim, ⟨fun _ => [], fun i s h => ?_, fun i j t u a _ _ _ z => by simp at z⟩, rfl⟩
    · rw [z.1]; exact rd_nt z.2
    · rcases hs with h | h
      · exact .inr ⟨h, h⟩
      · exact .inl h
    · rcases i with _ | _ | _ | i <;> first | (cases h; done) | (cases h; rfl)
  refine rm_exec (R0 := fun d => ∃ m, d = deckD "draws" ns.reverse m) hen ?_ fun v d H' k o hv ⟨m, e⟩ => ?_
  · refine rx_set (K' := fun d => ∃ x, d = .int x) em_int ⟨_, rfl⟩ fun d hd => ?_
    obtain ⟨x0, rfl⟩ := hd
    have loop : ∀ (ks : List Int) (x : Int), forW (S := Int) (fun d s nx bk => ∃ c : Int, d = .int c ∧ ∀ y, nx y) (ks.map .int) x (fun _ => True) := fun ks => by
      induction ks with
      | nil => intro x; trivial
      | cons k ks ih => intro x; exact ⟨k, rfl, fun y => ih y⟩
    refine rx_for (S := Int) (fun x => [some (.raw (.ref a)), some (.dat (.int x)), none]) (mi := fun P => P (ns.map .int)) (body := fun d s nx bk => ∃ c : Int, d = .int c ∧ ∀ y, nx y) (kk := fun _ => True) (s0 := x0) (fun P hp => ei_any (em_script rfl hl) P hp) (loop ns x0) (.same (.same (.same .nil))) (fun d x nx bk h => ?_) fun x _ => ?_
    · obtain ⟨c, rfl, h⟩ := h
      refine ⟨_, _, tg_name, ?_⟩
      refine rx_set (K' := fun d => ∃ x, d = .int x) (em_op rs_mod (em_b1 b_int (em_op rs_addI (em_op rs_addI (em_op rs_mulS (em_var rfl) em_int) (em_op rs_mod (em_b1 b_int (em_var rfl)) em_int)) em_int)) em_int) ⟨.inr (by decide), by decide, by decide, _, rfl⟩ fun d hd => ?_
      obtain ⟨y, rfl⟩ := hd
      exact rn_next ⟨y, .same (.same (.drop .nil)), h y⟩
    · refine rx_ret (em_deck nmD (em_revL (em_b1 b_list (em_script rfl hl))) (em_var (d := .int x) rfl)) ?_
      exact ⟨ns.reverse, by rw [List.map_reverse], x, rfl, x, rfl⟩
  subst e
  exact q v H' _ m (k.mono fun a z => z.elim (fun z => z) fun z => z) (hv.map (fun _ _ _ z => z) fun _ _ _ e _ => e) (by simpa using hl)
end
end Kz
set_option Elab.async false
set_option linter.all false
set_option maxRecDepth 100000
set_option maxHeartbeats 4000000
/-! Kz: what is wanted of rows and tables of ints -/
namespace Kz
open PySem PySem.Spec PyProof.Rows L2
abbrev rowD (l : List Int) : PyData := .tuple (l.map .int)
abbrev lrowD (l : List Int) : PyData := .list (l.map .int)
abbrev Mat := List (List Int)
abbrev matD (r : Mat) : PyData := .tuple (r.map rowD)
abbrev lmatD (r : Mat) : PyData := .list (r.map lrowD)
/-! ### numbers -/
theorem bits_le (i : Int) : bits i ≤ i.natAbs := Nat.log2_le_self _
theorem bits_lt {i : Int} {k : Nat} (hk : 0 < k) (h : i.natAbs < 2 ^ k) : bits i < k := PySem.Flt.log2_lt_of hk h
/-- at most 2^1000 -/
def Sm (i : Int) : Prop := bits i < 400000
theorem Sm.mul {i j : Int} (h : Sm i) (k : Sm j) : bits i + bits j < 1000000 := by unfold Sm at h k; omega
theorem sm_of {i : Int} (B : Nat) (hB : B < 10 ^ 300 := by decide) (h : i.natAbs ≤ B) : Sm i := by
  have h1 : i.natAbs < 2 ^ 1000 := Nat.lt_trans (Nat.lt_of_le_of_lt h hB) (by decide +kernel)
  exact Nat.lt_trans (bits_lt (by decide) h1) (by decide)
theorem sm_lit {i : Int} (h : i.natAbs ≤ 399999 := by decide) : Sm i := by have := bits_le i; unfold Sm; omega
theorem mul_i {i j : Int} {P : PyData → Prop} (h : Sm i) (k : Sm j) (hp : P (.int (i * j))) : mulW (.int i) (.int j) P := ⟨h.mul k, hp⟩
/-! ### places -/
theorem at_nat {α : Type} {l : List α} {i : Nat} {x : α} (h : l[i]? = some x) : atI l (i : Int) = some x := by
  unfold atI ixN
  rw [if_pos (by omega)]
  have hi := (List.getElem?_eq_some_iff.mp h).1
  rw [if_pos (by omega)]
  simpa using h
theorem ix_nat {n i : Nat} (h : i < n) : ixN n (i : Int) = some i := by
  unfold ixN
  rw [if_pos (by omega), if_pos (by omega)]
  rfl
theorem idx_t {ds : List PyData} {i : Nat} {d : PyData} {P : PyData → Prop} (h : ds[i]? = some d) (hp : P d) : idxW (.tuple ds) (.int (i : Int)) P := ⟨d, at_nat h, hp⟩
theorem idx_l {ds : List PyData} {i : Nat} {d : PyData} {P : PyData → Prop} (h : ds[i]? = some d) (hp : P d) : idxW (.list ds) (.int (i : Int)) P := ⟨d, at_nat h, hp⟩
theorem ixD_nat {n i : Nat} {k : Nat → Prop} (h : i < n) (hk : k i) : ixD n (.int (i : Int)) k := by
  show (match ixN n (i : Int) with | some m => k m | none => False)
  rw [ix_nat h]
  exact hk
theorem map_at {α β : Type} {f : α → β} {l : List α} {i : Nat} (h : i < l.length) : (l.map f)[i]? = some (f l[i]) := by rw [List.getElem?_map, List.getElem?_eq_getElem h]; rfl
/-! ### item by item -/
theorem lc_map {α : Type} {f h : α → PyData} {G : PyData → W (List PyData)} : ∀ {xs : List α}, (∀ x ∈ xs, ∀ K : List PyData → Prop, K [h x] → G (f x) K) → ∀ {P : List PyData → Prop}, P (xs.map h) → lcW G (xs.map f) P := by
  intro xs
  induction xs with
  | nil => intro _ P hp; exact hp
  | cons x xs ih =>
    intro hG P hp
    exact hG x (by simp) _ (ih (fun y hy => hG y (by simp [hy])) hp)
theorem lc_flat {α : Type} {f : α → PyData} {h : α → List PyData} {G : PyData → W (List PyData)} : ∀ {xs : List α}, (∀ x ∈ xs, ∀ K : List PyData → Prop, K (h x) → G (f x) K) → ∀ {P : List PyData → Prop}, P (xs.flatMap h) → lcW G (xs.map f) P := by
  intro xs
  induction xs with
  | nil => intro _ P hp; exact hp
  | cons x xs ih =>
    intro hG P hp
    exact hG x (by simp) _ (ih (fun y hy => hG y (by simp [hy])) (by simpa using hp))
/-- what comes out is not known, but something of it is -/
theorem lc_any {α : Type} {f : α → PyData} {R : α → PyData → Prop} {G : PyData → W (List PyData)} : ∀ {xs : List α}, (∀ x ∈ xs, ∀ K : List PyData → Prop, (∀ d, R x d → K [d]) → G (f x) K) → ∀ {P : List PyData → Prop}, (∀ ds : List PyData, ds.length = xs.length → (∀ (i : Nat) d x, ds[i]? = some d → xs[i]? = some x → R x d) → P ds) → lcW G (xs.map f) P := by
  intro xs
  induction xs with
  | nil => intro _ P hp; exact hp [] rfl (by simp)
  | cons x xs ih =>
    intro hG P hp
    refine hG x (by simp) _ fun d hd => ih (fun y hy => hG y (by simp [hy])) fun ds hl hr => hp (d :: ds) (by simp [hl]) fun i e y h1 h2 => ?_
    cases i with
    | zero => simp at h1 h2; rw [← h1, ← h2]; exact hd
    | succ i => exact hr i e y (by simpa using h1) (by simpa using h2)
theorem lc_ints {α : Type} {f : α → PyData} {R : α → Int → Prop} {G : PyData → W (List PyData)} {xs : List α} (hG : ∀ x ∈ xs, ∀ K : List PyData → Prop, (∀ i, R x i → K [.int i]) → G (f x) K) {P : List PyData → Prop} (hp : ∀ l : List Int, l.length = xs.length → (∀ (j : Nat) i x, l[j]? = some i → xs[j]? = some x → R x i) → P (l.map .int)) : lcW G (xs.map f) P := by
  refine lc_any (R := fun x d => ∃ i, d = .int i ∧ R x i) (fun x hx K hK => hG x hx K fun i hi => hK _ ⟨i, rfl, hi⟩) fun ds hl hr => ?_
  have : ∀ (ds : List PyData) (xs : List α), ds.length = xs.length → (∀ (i : Nat) d x, ds[i]? = some d → xs[i]? = some x → ∃ k, d = .int k ∧ R x k) → ∃ l : List Int, ds = l.map .int ∧ l.length = xs.length ∧ ∀ (j : Nat) i x, l[j]? = some i → xs[j]? = some x → R x i := by
    intro ds
    induction ds with
    | nil => intro xs hl _; exact ⟨[], rfl, by simpa using hl, by simp⟩
    | cons d ds ih =>
      intro xs hl hr
      cases xs with
      | nil => simp at hl
      | cons x xs =>
        obtain ⟨k, rfl, hk⟩ := hr 0 d x rfl rfl
        obtain ⟨l, rfl, hl2, hr2⟩ := ih xs (by simpa using hl) fun i d y h1 h2 => hr (i + 1) d y (by simpa using h1) (by simpa using h2)
        refine ⟨k :: l, rfl, by simp [hl2], fun j i y h1 h2 => ?_⟩
        cases j with
        | zero => simp at h1 h2; rw [← h1, ← h2]; exact hk
        | succ j => exact hr2 j i y (by simpa using h1) (by simpa using h2)
  obtain ⟨l, rfl, h1, h2⟩ := this ds xs hl hr
  exact hp l h1 h2
theorem zip_ii (a b : List Int) : zipD (a.map .int) (b.map .int) = (a.zip b).map fun q => .tuple [.int q.1, .int q.2] := by
  induction a generalizing b with
  | nil => rfl
  | cons x a ih => cases b with
    | nil => rfl
    | cons y b => simp only [List.map_cons, zipD, List.zipWith_cons_cons, List.zip_cons_cons]; exact congrArg _ (ih b)
theorem zip_ir (a : List Int) (b : Mat) (f : List Int → PyData) : zipD (a.map .int) (b.map f) = (a.zip b).map fun q => .tuple [.int q.1, f q.2] := by
  induction a generalizing b with
  | nil => rfl
  | cons x a ih => cases b with
    | nil => rfl
    | cons y b => simp only [List.map_cons, zipD, List.zipWith_cons_cons, List.zip_cons_cons]; exact congrArg _ (ih b)
theorem rng_map (lo : Int) (n : Nat) : rngD lo n = (List.range n).map fun (i : Nat) => .int (lo + i) := rfl
theorem rng0 (n : Nat) : rngD 0 n = (List.range n).map fun (i : Nat) => .int (i : Int) := by
  unfold rngD
  exact List.map_congr_left fun i _ => by rw [Int.zero_add]
theorem rng1_nat {n : Nat} {P : List PyData → Prop} (h : n < 1000000) (hp : P ((List.range n).map fun (i : Nat) => .int (i : Int))) : rng1W (.int (n : Int)) P := ⟨⟨by omega, by omega⟩, by rw [Int.toNat_natCast, rng0]; exact hp⟩
theorem rng2_nat {m n : Nat} {P : List PyData → Prop} (h : m < 1000000) (h2 : n < 1000000) (hp : P ((List.range (n - m)).map fun (i : Nat) => .int ((m + i : Nat) : Int))) : rng2W (.int (m : Int)) (.int (n : Int)) P := ⟨⟨by omega, by omega, by omega, by omega⟩, by
  have e : ((n : Int) - (m : Int)).toNat = n - m := by omega
  rw [e]
  unfold rngD
  have e2 : (List.range (n - m)).map (fun (i : Nat) => PyData.int ((m : Int) + i)) = (List.range (n - m)).map fun (i : Nat) => .int ((m + i : Nat) : Int) := List.map_congr_left fun i _ => by rw [Int.natCast_add]
  rw [e2]
  exact hp⟩
theorem enum_map {α : Type} (xs : List α) (f : α → PyData) : enumD (xs.map f) = xs.zipIdx.map fun q => .tuple [.int (q.2 : Int), f q.1] := by
  unfold enumD
  rw [List.zipIdx_map, List.map_map]
  rfl
/-! ### loops -/
theorem for_inv {S : Type} {body : PyData → S → (S → Prop) → (S → Prop) → Prop} {K : S → Prop} (I : Nat → S → Prop) {xs : List PyData} {s : S} (h0 : I 0 s)
    (hb : ∀ i d s (nx bk : S → Prop), xs[i]? = some d → I i s → (∀ s', I (i + 1) s' → nx s') → (∀ s', K s' → bk s') → body d s nx bk) (hK : ∀ s, I xs.length s → K s) : forW body xs s K := by
  have go : ∀ (ys : List PyData) (i : Nat) (s : S), (∀ j, ys[j]? = xs[i + j]?) → i + ys.length = xs.length → I i s → forW body ys s K := by
    intro ys
    induction ys with
    | nil => intro i s _ hl hi; exact hK s (by rw [← hl]; simpa using hi)
    | cons d ys ih =>
      intro i s hy hl hi
      refine hb i d s _ _ (by have := hy 0; simpa using this.symm) hi (fun s' hs' => ih (i + 1) s' (fun j => by have := hy (j + 1); rw [show i + 1 + j = i + (j + 1) by omega]; simpa using this) (by simp at hl; omega) hs') fun s' h => h
  exact go xs 0 s (fun j => by simp) (by simp) h0
theorem while_inv {S : Type} {t : S → W Bool} {body : S → (S → Prop) → (S → Prop) → Prop} {K : S → Prop} (I : S → Prop) (μ : S → Nat) {s : S} (h0 : I s)
    (hb : ∀ s, I s → ∃ b : Bool, (∀ P : Bool → Prop, P b → t s P) ∧ (b = true → ∀ nx bk : S → Prop, (∀ s', I s' → μ s' < μ s → nx s') → (∀ s', K s' → bk s') → body s nx bk) ∧ (b = false → K s)) : whileW t body s K := by
  have go : ∀ (n : Nat) (s : S), μ s < n → I s → whileN t body K n s := by
    intro n
    induction n with
    | zero => intro s h; omega
    | succ n ih =>
      intro s hn hi
      obtain ⟨b, h1, h2, h3⟩ := hb s hi
      refine h1 _ ?_
      cases b with
      | false => exact h3 rfl
      | true => exact h2 rfl _ _ (fun s' h1 h2 => ih s' (by omega) h1) fun s' h => h
  exact ⟨μ s + 1, go _ s (by omega) h0⟩
end Kz
namespace Kz
open PySem PySem.Spec PyProof.Rows L2
/-! ### steps of the reckoning -/
theorem cW_t {A B : Prop} : cW true A B = A := rfl
theorem cW_f {A B : Prop} : cW false A B = B := rfl
theorem truth_b {b : Bool} {P : Bool → Prop} : truthW (.bool b) P = P b := rfl
theorem truth_i {i : Int} {P : Bool → Prop} : truthW (.int i) P = P (i != 0) := rfl
theorem bool_b {b : Bool} {P : Bool → Prop} : boolW (.bool b) P = P b := rfl
theorem add_ii {i j : Int} {P : PyData → Prop} : addW (.int i) (.int j) P = P (.int (i + j)) := rfl
theorem sub_ii {i j : Int} {P : PyData → Prop} : subW (.int i) (.int j) P = P (.int (i - j)) := rfl
theorem neg_i {i : Int} {P : PyData → Prop} : negW (.int i) P = P (.int (-i)) := rfl
theorem iadd_ii {i j : Int} {P : PyData → Prop} : iaddW (.int i) (.int j) P = P (.int (i + j)) := rfl
theorem lt_ii {i j : Int} {P : PyData → Prop} : ltW (.int i) (.int j) P = P (.bool (decide (i < j))) := rfl
theorem le_ii {i j : Int} {P : PyData → Prop} : leW (.int i) (.int j) P = P (.bool (decide (i ≤ j))) := rfl
theorem gt_ii {i j : Int} {P : PyData → Prop} : gtW (.int i) (.int j) P = P (.bool (decide (j < i))) := rfl
theorem ge_ii {i j : Int} {P : PyData → Prop} : geW (.int i) (.int j) P = P (.bool (decide (j ≤ i))) := rfl
theorem len_t {ds : List PyData} {P : PyData → Prop} : lenW (.tuple ds) P = P (.int ds.length) := rfl
theorem len_l {ds : List PyData} {P : PyData → Prop} : lenW (.list ds) P = P (.int ds.length) := rfl
theorem tuple_l {ds : List PyData} {P : PyData → Prop} : tupleW (.list ds) P = P (.tuple ds) := rfl
theorem tuple_t {ds : List PyData} {P : PyData → Prop} : tupleW (.tuple ds) P = P (.tuple ds) := rfl
theorem list_l {ds : List PyData} {P : PyData → Prop} : listW (.list ds) P = P (.list ds) := rfl
theorem list_t {ds : List PyData} {P : PyData → Prop} : listW (.tuple ds) P = P (.list ds) := rfl
theorem iter_t {ds : List PyData} {P : List PyData → Prop} : iterW (.tuple ds) P = P ds := rfl
theorem iter_l {ds : List PyData} {P : List PyData → Prop} : iterW (.list ds) P = P ds := rfl
theorem enum_t {ds : List PyData} {P : List PyData → Prop} : enumW (.tuple ds) P = P (enumD ds) := rfl
theorem enum_l {ds : List PyData} {P : List PyData → Prop} : enumW (.list ds) P = P (enumD ds) := rfl
theorem zip_tt {ds es : List PyData} {P : List PyData → Prop} : zipW (.tuple ds) (.tuple es) P = P (zipD ds es) := rfl
theorem zip_tl {ds es : List PyData} {P : List PyData → Prop} : zipW (.tuple ds) (.list es) P = P (zipD ds es) := rfl
theorem zip_lt {ds es : List PyData} {P : List PyData → Prop} : zipW (.list ds) (.tuple es) P = P (zipD ds es) := rfl
theorem zip_ll {ds es : List PyData} {P : List PyData → Prop} : zipW (.list ds) (.list es) P = P (zipD ds es) := rfl
theorem int_i {i : Int} {P : PyData → Prop} : intW (.int i) P = P (.int i) := rfl
theorem int_b {b : Bool} {P : PyData → Prop} : intW (.bool b) P = P (.int (oneB b)) := rfl
theorem abs_i {i : Int} {P : PyData → Prop} : absW (.int i) P = P (.int (i.natAbs : Int)) := by
  show P (.int (if i < 0 then -i else i)) = _
  have e : (if i < 0 then -i else i) = (i.natAbs : Int) := by split <;> omega
  rw [e]
theorem part_i {i : Int} {P : Option Int → Prop} : partIW (.int i) P = P (some i) := rfl
theorem unp2 {a b : PyData} {k : PyData → PyData → Prop} : unp2W (.tuple [a, b]) k = k a b := rfl
theorem unp3 {a b c : PyData} {k : PyData → PyData → PyData → Prop} : unp3W (.tuple [a, b, c]) k = k a b c := rfl
theorem max2_ii {i j : Int} {P : PyData → Prop} : max2W (.int i) (.int j) P = P (.int (max i j)) := by
  show P (.int (if j > i then j else i)) = _
  have e : (if j > i then j else i) = max i j := by split <;> omega
  rw [e]
theorem min2_ii {i j : Int} {P : PyData → Prop} : min2W (.int i) (.int j) P = P (.int (min i j)) := by
  show P (.int (if j < i then j else i)) = _
  have e : (if j < i then j else i) = min i j := by split <;> omega
  rw [e]
theorem isi_i {T : String} {i : Int} {P : PyData → Prop} (b : Bool) (e : kitB "int" T = some b) (h : P (.bool b)) : isiW (.int i) T P := ⟨b, e, h⟩
theorem ne_ii {i j : Int} {P : PyData → Prop} : neW (.int i) (.int j) P = P (.bool (!decide (i = j))) := propext ⟨fun h => h.2, fun h => ⟨rfl, h⟩⟩
theorem eq_ii {i j : Int} {P : PyData → Prop} : eqW (.int i) (.int j) P = P (.bool (decide (i = j))) := propext ⟨fun h => h.2, fun h => ⟨rfl, h⟩⟩
theorem fdiv_ii {i j : Int} {P : PyData → Prop} (h0 : j ≠ 0) (hs : bits j < 9000) (h : P (.int (i.fdiv j))) : fdivW (.int i) (.int j) P := ⟨⟨h0, hs⟩, h⟩
theorem mod_ii {i j : Int} {P : PyData → Prop} (h0 : j ≠ 0) (h : P (.int (i.fmod j))) : modW (.int i) (.int j) P := ⟨h0, h⟩
theorem draw_i {n : Int} {P : PyData → Prop} (h0 : 0 < n) (h1 : n < 1073741824) (h : ∀ r : Int, 0 ≤ r → r < n → P (.int r)) : drawW (.int n) P := ⟨⟨h0, h1⟩, h⟩
end Kz
namespace Kz
open PySem PySem.Spec PyProof.Rows L2
theorem idxw_eq {ds : List PyData} {i : Int} {d : PyData} {P : PyData → Prop} (h : atI ds i = some d) : idxW (.tuple ds) (.int i) P = P d := propext ⟨fun ⟨e, h1, h2⟩ => by rw [h] at h1; cases h1; exact h2, fun hp => ⟨d, h, hp⟩⟩
theorem idxl_eq {ds : List PyData} {i : Int} {d : PyData} {P : PyData → Prop} (h : atI ds i = some d) : idxW (.list ds) (.int i) P = P d := propext ⟨fun ⟨e, h1, h2⟩ => by rw [h] at h1; cases h1; exact h2, fun hp => ⟨d, h, hp⟩⟩
section
variable {a b c d : PyData} {l : List PyData} {P : PyData → Prop}
theorem idx_t0 : idxW (.tuple (a :: l)) (.int 0) P = P a := idxw_eq (at_nat (i := 0) rfl)
theorem idx_t1 : idxW (.tuple (a :: b :: l)) (.int 1) P = P b := idxw_eq (at_nat (i := 1) rfl)
theorem idx_t2 : idxW (.tuple (a :: b :: c :: l)) (.int 2) P = P c := idxw_eq (at_nat (i := 2) rfl)
theorem idx_t3 : idxW (.tuple (a :: b :: c :: d :: l)) (.int 3) P = P d := idxw_eq (at_nat (i := 3) rfl)
theorem idx_l0 : idxW (.list (a :: l)) (.int 0) P = P a := idxl_eq (at_nat (i := 0) rfl)
theorem idx_l1 : idxW (.list (a :: b :: l)) (.int 1) P = P b := idxl_eq (at_nat (i := 1) rfl)
theorem idx_l2 : idxW (.list (a :: b :: c :: l)) (.int 2) P = P c := idxl_eq (at_nat (i := 2) rfl)
theorem idx_l3 : idxW (.list (a :: b :: c :: d :: l)) (.int 3) P = P d := idxl_eq (at_nat (i := 3) rfl)
end
end Kz
set_option Elab.async false
set_option linter.all false
set_option maxRecDepth 100000
set_option maxHeartbeats 4000000
/-! Kz: tables of ints: sums of rows, what they span, stairs -/
namespace Kz
open PySem PySem.Spec PyProof.Rows L2
/-- n rows of n ints -/
structure Sq (n : Nat) (r : Mat) : Prop where
  h : r.length = n
  w : ∀ l ∈ r, l.length = n
/-- x + k y -/
def addT (x y : List Int) (k : Int) : List Int := List.zipWith (fun a b => a + k * b) x y
theorem addT_cons {a b : Int} {x y : List Int} {k : Int} : addT (a :: x) (b :: y) k = (a + k * b) :: addT x y k := rfl
theorem addT_zip {β : Type} (f : Int → β) (x y : List Int) (k : Int) : (x.zip y).map (fun q => f (q.1 + k * q.2)) = (addT x y k).map f := by
  induction x generalizing y with
  | nil => rfl
  | cons a x ih => cases y with
    | nil => rfl
    | cons b y => simp only [List.zip_cons_cons, List.map_cons, addT_cons, ih]
theorem addT_len {x y : List Int} {k : Int} (h : x.length = y.length) : (addT x y k).length = x.length := by simp [addT, h]
theorem addT_len' {n : Nat} {x y : List Int} {k : Int} (h : x.length = n) (h2 : y.length = n) : (addT x y k).length = n := by rw [addT_len (by omega)]; exact h
theorem addT_get {x y : List Int} {k : Int} {i : Nat} (h : x.length = y.length) : (addT x y k).getD i 0 = x.getD i 0 + k * y.getD i 0 := by
  induction x generalizing y i with
  | nil => cases y with
    | nil => simp [addT]
    | cons => simp at h
  | cons a x ih => cases y with
    | nil => simp at h
    | cons b y =>
      cases i with
      | zero => rfl
      | succ i => exact ih (by simpa using h)
theorem vec_ext {x y : List Int} (hl : x.length = y.length) (h : ∀ i, x.getD i 0 = y.getD i 0) : x = y := by
  induction x generalizing y with
  | nil => cases y with
    | nil => rfl
    | cons => simp at hl
  | cons a x ih => cases y with
    | nil => simp at hl
    | cons b y =>
      have h0 := h 0
      simp at h0
      rw [h0, ih (by simpa using hl) fun i => by simpa using h (i + 1)]
theorem addT_assoc {x y z : List Int} {k m : Int} (h1 : x.length = y.length) (h2 : y.length = z.length) : addT x (addT y z m) k = addT (addT x y k) z (k * m) := by
  refine vec_ext (by rw [addT_len (by rw [addT_len h2]; exact h1), addT_len (by rw [addT_len h1]; omega), addT_len h1]) fun i => ?_
  rw [addT_get (by rw [addT_len h2]; exact h1), addT_get h2, addT_get (by rw [addT_len h1]; omega), addT_get h1]
  grind
theorem addT_comm {x y z : List Int} {k m : Int} (h1 : x.length = y.length) (h2 : x.length = z.length) : addT (addT x y k) z m = addT (addT x z m) y k := by
  refine vec_ext (by rw [addT_len (by rw [addT_len h1]; exact h2), addT_len h1, addT_len (by rw [addT_len h2]; exact h1), addT_len h2]) fun i => ?_
  rw [addT_get (by rw [addT_len h1]; exact h2), addT_get h1, addT_get (by rw [addT_len h2]; exact h1), addT_get h2]
  grind
theorem addT_zero {x y : List Int} (h : x.length = y.length) : addT x y 0 = x := vec_ext (addT_len h) fun i => by rw [addT_get h]; grind
theorem addT_addT {x y : List Int} {k m : Int} (h : x.length = y.length) : addT (addT x y k) y m = addT x y (k + m) := vec_ext (by rw [addT_len (by rw [addT_len h]; exact h), addT_len h, addT_len h]) fun i => by
  rw [addT_get (by rw [addT_len h]; exact h), addT_get h, addT_get h]
  grind
abbrev zer (n : Nat) : List Int := List.replicate n 0
theorem zer_get {n i : Nat} : (zer n).getD i 0 = 0 := by
  rw [List.getD_eq_getElem?_getD, List.getElem?_replicate]
  split <;> rfl
theorem zer_addT {n : Nat} {x : List Int} (h : x.length = n) : addT (zer n) x 1 = x := vec_ext (by rw [addT_len (by simp [h])]; simp [h]) fun i => by
  rw [addT_get (by simp [h]), zer_get]
  grind
/-- sums of whole multiples of the rows -/
inductive Spn (n : Nat) (R : Mat) : List Int → Prop
  | zero : Spn n R (zer n)
  | add {x r : List Int} (k : Int) : Spn n R x → r ∈ R → Spn n R (addT x r k)
section
variable {n : Nat} {R R' T : Mat} {x y v : List Int}
theorem Spn.len (hR : ∀ r ∈ R, r.length = n) (h : Spn n R x) : x.length = n := by
  induction h with
  | zero => simp
  | add k _ m ih => exact addT_len' ih (hR _ m)
theorem Spn.sum (hR : ∀ r ∈ R, r.length = n) (hx : Spn n R x) (hy : Spn n R y) (k : Int) : Spn n R (addT x y k) := by
  induction hy with
  | zero =>
    have : addT x (zer n) k = x := vec_ext (addT_len (by rw [hx.len hR]; simp)) fun i => by
      rw [addT_get (by rw [hx.len hR]; simp), zer_get]; grind
    rw [this]
    exact hx
  | @add y r m hy hr ih =>
    rw [addT_assoc (by rw [hx.len hR, hy.len hR]) (by rw [hy.len hR, hR _ hr])]
    exact ih.add _ hr
theorem Spn.of_mem (hR : ∀ r ∈ R, r.length = n) (h : x ∈ R) : Spn n R x := by
  have := (Spn.zero (n := n) (R := R)).add 1 h
  rwa [zer_addT (hR _ h)] at this
theorem Spn.mono (hR' : ∀ r ∈ R', r.length = n) (h : ∀ r ∈ R, Spn n R' r) (hx : Spn n R x) : Spn n R' x := by
  induction hx with
  | zero => exact .zero
  | add k _ m ih => exact ih.sum hR' (h _ m) k
/-- both span the same -/
def Same (n : Nat) (R R' : Mat) : Prop := ∀ x, Spn n R x ↔ Spn n R' x
theorem Same.refl : Same n R R := fun _ => Iff.rfl
theorem Same.symm (h : Same n R R') : Same n R' R := fun x => (h x).symm
theorem Same.trans {R'' : Mat} (h : Same n R R') (k : Same n R' R'') : Same n R R'' := fun x => (h x).trans (k x)
theorem Same.of (hR : ∀ r ∈ R, r.length = n) (hR' : ∀ r ∈ R', r.length = n) (h : ∀ r ∈ R, Spn n R' r) (k : ∀ r ∈ R', Spn n R r) : Same n R R' := fun _ => ⟨Spn.mono hR' h, Spn.mono hR k⟩
theorem row_mem {r : Mat} {i : Nat} (h : i < r.length) : r.getD i [] ∈ r := by
  rw [List.getD_eq_getElem?_getD, List.getElem?_eq_getElem h]
  exact List.getElem_mem h
theorem mem_row {r : Mat} {l : List Int} (h : l ∈ r) : ∃ i, i < r.length ∧ r.getD i [] = l := by
  obtain ⟨i, hi, e⟩ := List.mem_iff_getElem.mp h
  exact ⟨i, hi, by rw [List.getD_eq_getElem?_getD, List.getElem?_eq_getElem hi]; exact e⟩
theorem Sq.len {r : Mat} (s : Sq n r) {i : Nat} (h : i < n) : (r.getD i []).length = n := s.w _ (row_mem (by rw [s.h]; exact h))
theorem set_get {r : Mat} {i j : Nat} {l : List Int} (h : i < r.length) : (r.set i l).getD j [] = if i = j then l else r.getD j [] := by
  rw [List.getD_eq_getElem?_getD, List.getElem?_set]
  by_cases e : i = j
  · rw [if_pos e, if_pos (by omega), if_pos e]; rfl
  · rw [if_neg e, if_neg e, List.getD_eq_getElem?_getD]
theorem Sq.set {r : Mat} (s : Sq n r) {i : Nat} {l : List Int} (h : l.length = n) : Sq n (r.set i l) := ⟨by rw [List.length_set]; exact s.h, fun x hx => by
  rcases List.mem_or_eq_of_mem_set hx with hx | rfl
  · exact s.w x hx
  · exact h⟩
/-- a row plus a multiple of another -/
theorem same_add {r : Mat} (s : Sq n r) {i j : Nat} (hi : i < n) (hj : j < n) (hij : i ≠ j) (k : Int) : Same n r (r.set i (addT (r.getD i []) (r.getD j []) k)) := by
  have li := s.len hi
  have lj := s.len hj
  have s' : Sq n (r.set i (addT (r.getD i []) (r.getD j []) k)) := s.set (addT_len' li lj)
  have gj : (r.set i (addT (r.getD i []) (r.getD j []) k)).getD j [] = r.getD j [] := by rw [set_get (by rw [s.h]; exact hi), if_neg hij]
  have gi : (r.set i (addT (r.getD i []) (r.getD j []) k)).getD i [] = addT (r.getD i []) (r.getD j []) k := by rw [set_get (by rw [s.h]; exact hi), if_pos rfl]
  refine Same.of s.w s'.w (fun l hl => ?_) (fun l hl => ?_)
  · obtain ⟨m, hm, rfl⟩ := mem_row hl
    by_cases e : i = m
    · subst e
      have h1 : Spn n (r.set i (addT (r.getD i []) (r.getD j []) k)) (addT (r.getD i []) (r.getD j []) k) := Spn.of_mem s'.w (List.mem_set (by rw [s.h]; exact hi) _)
      have h2 := h1.add (-k) (gj ▸ row_mem (by rw [s'.h]; exact hj))
      rw [addT_addT (by omega)] at h2
      have e0 : k + -k = 0 := by omega
      rw [e0, addT_zero (by omega)] at h2
      exact h2
    · have g : (r.set i (addT (r.getD i []) (r.getD j []) k)).getD m [] = r.getD m [] := by rw [set_get (by rw [s.h]; exact hi), if_neg e]
      exact Spn.of_mem s'.w (g ▸ row_mem (by rw [s'.h, ← s.h]; exact hm))
  · rcases List.mem_or_eq_of_mem_set hl with hx | rfl
    · exact Spn.of_mem s.w hx
    · exact (Spn.of_mem s.w (row_mem (by rw [s.h]; exact hi))).add k (row_mem (by rw [s.h]; exact hj))
/-- the same rows -/
theorem same_mem (hR : ∀ r ∈ R, r.length = n) (hR' : ∀ r ∈ R', r.length = n) (h : ∀ l, l ∈ R ↔ l ∈ R') : Same n R R' := Same.of hR hR' (fun l hl => Spn.of_mem hR' ((h l).mp hl)) fun l hl => Spn.of_mem hR ((h l).mpr hl)
abbrev negT (x : List Int) : List Int := x.map fun a => -a
theorem negT_get {i : Nat} : (negT x).getD i 0 = -x.getD i 0 := by
  rw [List.getD_eq_getElem?_getD, List.getD_eq_getElem?_getD, List.getElem?_map]
  cases x[i]? <;> simp
theorem negT_spn (hR : ∀ r ∈ R, r.length = n) (h : Spn n R x) : Spn n R (negT x) := by
  have h2 := (Spn.zero (n := n) (R := R)).sum hR h (-1)
  have : addT (zer n) x (-1) = negT x := vec_ext (by rw [addT_len (by simp [h.len hR])]; simp [h.len hR]) fun i => by
    rw [addT_get (by simp [h.len hR]), zer_get, negT_get]; grind
  rwa [this] at h2
theorem same_neg {r : Mat} (s : Sq n r) {i : Nat} (hi : i < n) : Same n r (r.set i (negT (r.getD i []))) := by
  have s' : Sq n (r.set i (negT (r.getD i []))) := s.set (by rw [List.length_map]; exact s.len hi)
  refine Same.of s.w s'.w (fun l hl => ?_) (fun l hl => ?_)
  · obtain ⟨m, hm, rfl⟩ := mem_row hl
    by_cases e : i = m
    · subst e
      have g : (r.set i (negT (r.getD i []))).getD i [] = negT (r.getD i []) := by rw [set_get (by rw [s.h]; exact hi), if_pos rfl]
      have h1 := negT_spn s'.w (Spn.of_mem s'.w (g ▸ row_mem (by rw [s'.h]; exact hi)))
      have e2 : negT (negT (r.getD i [])) = r.getD i [] := by
        refine vec_ext (by simp) fun j => ?_
        rw [negT_get, negT_get]
        omega
      rwa [e2] at h1
    · have g : (r.set i (negT (r.getD i []))).getD m [] = r.getD m [] := by rw [set_get (by rw [s.h]; exact hi), if_neg e]
      exact Spn.of_mem s'.w (g ▸ row_mem (by rw [s'.h, ← s.h]; exact hm))
  · rcases List.mem_or_eq_of_mem_set hl with hx | rfl
    · exact Spn.of_mem s.w hx
    · exact negT_spn s.w (Spn.of_mem s.w (row_mem (by rw [s.h]; exact hi)))
/-- an entry -/
abbrev ent (T : Mat) (i j : Nat) : Int := (T.getD i []).getD j 0
/-- stairs: nothing below the diagonal, something above 0 on it -/
structure Tri (n : Nat) (T : Mat) : Prop where
  s : Sq n T
  lo : ∀ i j, j < i → i < n → ent T i j = 0
  dg : ∀ i, i < n → 0 < ent T i i
theorem drop_cons {T : Mat} {m : Nat} (h : m < T.length) : T.drop m = T.getD m [] :: T.drop (m + 1) := by
  rw [List.getD_eq_getElem?_getD, List.getElem?_eq_getElem h]
  exact List.drop_eq_getElem_cons h
theorem mem_drop {T : Mat} {m : Nat} {l : List Int} (h : l ∈ T.drop m) : ∃ i, m ≤ i ∧ i < T.length ∧ T.getD i [] = l := by
  obtain ⟨i, hi, e⟩ := List.mem_iff_getElem.mp h
  rw [List.getElem_drop] at e
  rw [List.length_drop] at hi
  exact ⟨m + i, by omega, by omega, by rw [List.getD_eq_getElem?_getD, List.getElem?_eq_getElem (by omega)]; exact e⟩
theorem Tri.w (t : Tri n T) (m : Nat) : ∀ l ∈ T.drop m, l.length = n := fun l hl => t.s.w l (List.mem_of_mem_drop hl)
theorem Tri.first (t : Tri n T) {m : Nat} (hm : m < n) (h : Spn n (T.drop m) v) : ∃ k, v.getD m 0 = k * ent T m m ∧ Spn n (T.drop (m + 1)) (addT v (T.getD m []) (-k)) := by
  have lm := t.s.len hm
  induction h with
  | zero => exact ⟨0, by rw [zer_get]; grind, by rw [show -(0 : Int) = 0 by rfl, addT_zero (by rw [lm]; simp)]; exact .zero⟩
  | @add x r c hx hr ih =>
    obtain ⟨k, e, q⟩ := ih
    have lx := hx.len (t.w m)
    rw [drop_cons (by rw [t.s.h]; exact hm)] at hr
    rcases List.mem_cons.mp hr with rfl | hr
    · refine ⟨k + c, by rw [addT_get (by omega), e]; grind, ?_⟩
      rw [addT_addT (by omega)]
      have e2 : c + -(k + c) = -k := by omega
      rw [e2]
      exact q
    · obtain ⟨i, h1, h2, rfl⟩ := mem_drop hr
      have li := t.s.len (i := i) (by rw [← t.s.h]; exact h2)
      refine ⟨k, by rw [addT_get (by omega), e, show (T.getD i []).getD m 0 = 0 from t.lo i m (by omega) (by rw [← t.s.h]; exact h2)]; grind, ?_⟩
      rw [addT_comm (by omega) (by omega)]
      exact q.add c hr
theorem Tri.from (t : Tri n T) (h : Spn n T v) : ∀ i, i ≤ n → (∀ j, j < i → v.getD j 0 = 0) → Spn n (T.drop i) v := by
  intro i
  induction i with
  | zero => intro _ _; exact h
  | succ i ih =>
    intro hi hz
    obtain ⟨k, e, q⟩ := t.first (by omega) (ih (by omega) fun j hj => hz j (by omega))
    rw [hz i (by omega)] at e
    have hk : k = 0 := by
      rcases Int.mul_eq_zero.mp e.symm with h | h
      · exact h
      · have := t.dg i (by omega); omega
    rw [hk, show -(0 : Int) = 0 by rfl, addT_zero (by rw [h.len t.s.w, t.s.len (by omega)])] at q
    exact q
theorem Tri.dvd (t : Tri n T) (h : Spn n T v) {i : Nat} (hi : i < n) (hz : ∀ j, j < i → v.getD j 0 = 0) : ∃ k, v.getD i 0 = k * ent T i i := by
  obtain ⟨k, e, _⟩ := t.first hi (t.from h i (by omega) hz)
  exact ⟨k, e⟩
/-- the stairs of the same sums have the same diagonal -/
theorem Tri.diag {T' : Mat} (t : Tri n T) (t' : Tri n T') (h : Same n T T') {i : Nat} (hi : i < n) : ent T i i = ent T' i i := by
  have a := t.dg i hi
  have b := t'.dg i hi
  obtain ⟨k, e⟩ := t'.dvd ((h _).mp (Spn.of_mem t.s.w (row_mem (i := i) (by rw [t.s.h]; exact hi)))) hi (fun j hj => t.lo i j hj hi)
  obtain ⟨k', e'⟩ := t.dvd ((h _).mpr (Spn.of_mem t'.s.w (row_mem (i := i) (by rw [t'.s.h]; exact hi)))) hi (fun j hj => t'.lo i j hj hi)
  have hk : 0 < k := by
    rcases Int.lt_or_le 0 k with h | h
    · exact h
    · have : k * ent T' i i ≤ 0 := Int.mul_nonpos_of_nonpos_of_nonneg h (by omega)
      have e2 : ent T i i = k * ent T' i i := e
      omega
  have hk' : 0 < k' := by
    rcases Int.lt_or_le 0 k' with h | h
    · exact h
    · have : k' * ent T i i ≤ 0 := Int.mul_nonpos_of_nonpos_of_nonneg h (by omega)
      have e2 : ent T' i i = k' * ent T i i := e'
      omega
  have h1 : ent T' i i ≤ ent T i i := by
    have e2 : ent T i i = k * ent T' i i := e
    have : 1 * ent T' i i ≤ k * ent T' i i := Int.mul_le_mul_of_nonneg_right (by omega) (by omega)
    omega
  have h2 : ent T i i ≤ ent T' i i := by
    have e2 : ent T' i i = k' * ent T i i := e'
    have : 1 * ent T i i ≤ k' * ent T i i := Int.mul_le_mul_of_nonneg_right (by omega) (by omega)
    omega
  omega
/-- w stands for x: their difference is a sum of rows, and w lies on the stairs -/
structure Wd (n : Nat) (R T : Mat) (x w : List Int) : Prop where
  l : w.length = n
  s : Spn n R (addT x w (-1))
  b : ∀ i, i < n → 0 ≤ w.getD i 0 ∧ w.getD i 0 < ent T i i
theorem Wd.uniq {w w' : List Int} (t : Tri n T) (hR : ∀ r ∈ R, r.length = n) (hx : x.length = n) (e : Same n R T) (h : Wd n R T x w) (h' : Wd n R T x w') : w = w' := by
  have hd : Spn n T (addT w w' (-1)) := by
    have h1 := (h'.s.sum hR h.s (-1))
    have : addT (addT x w' (-1)) (addT x w (-1)) (-1) = addT w w' (-1) := vec_ext (by
      rw [addT_len (by rw [addT_len (by rw [hx, h'.l]), addT_len (by rw [hx, h.l])]), addT_len (by rw [hx, h'.l]), addT_len (by rw [h.l, h'.l]), hx, h.l]) fun i => by
      rw [addT_get (by rw [addT_len (by rw [hx, h'.l]), addT_len (by rw [hx, h.l])]), addT_get (by rw [hx, h'.l]), addT_get (by rw [hx, h.l]), addT_get (by rw [h.l, h'.l])]
      grind
    rw [this] at h1
    exact (e _).mp h1
  have key : ∀ i, i ≤ n → ∀ j, j < i → w.getD j 0 = w'.getD j 0 := by
    intro i
    induction i with
    | zero => intro _ j hj; omega
    | succ i ih =>
      intro hi j hj
      rcases Nat.lt_or_ge j i with hj' | hj'
      · exact ih (by omega) j hj'
      · have hji : j = i := by omega
        subst hji
        obtain ⟨k, ek⟩ := t.dvd hd (i := j) (by omega) fun m hm => by rw [addT_get (by rw [h.l, h'.l]), ih (by omega) m hm]; grind
        rw [addT_get (by rw [h.l, h'.l])] at ek
        have b1 := h.b j (by omega)
        have b2 := h'.b j (by omega)
        have d := t.dg j (by omega)
        have hk : k = 0 := by
          rcases Int.lt_trichotomy k 0 with hk | hk | hk
          · have : k * ent T j j ≤ -1 * ent T j j := Int.mul_le_mul_of_nonneg_right (by omega) (by omega)
            omega
          · exact hk
          · have : 1 * ent T j j ≤ k * ent T j j := Int.mul_le_mul_of_nonneg_right (by omega) (by omega)
            omega
        rw [hk] at ek
        omega
  refine vec_ext (by rw [h.l, h'.l]) fun i => ?_
  by_cases hi : i < n
  · exact key n (by omega) i hi
  · rw [List.getD_eq_getElem?_getD, List.getD_eq_getElem?_getD, List.getElem?_eq_none (by rw [h.l]; omega), List.getElem?_eq_none (by rw [h'.l]; omega)]
end
end Kz
set_option Elab.async false
set_option linter.all false
set_option maxRecDepth 100000
set_option maxHeartbeats 4000000
/-! Kz: cuts; determinants of at most three rows -/
namespace Kz
open PySem PySem.Spec PyProof.Rows L2
theorem cut_t {ds : List PyData} {lo hi : Option Int} {P : PyData → Prop} : cutW (.tuple ds) lo hi P = P (.tuple (cutD ds lo hi)) := rfl
theorem cut_l {ds : List PyData} {lo hi : Option Int} {P : PyData → Prop} : cutW (.list ds) lo hi P = P (.list (cutD ds lo hi)) := rfl
theorem add_tt {a b : List PyData} {P : PyData → Prop} : addW (.tuple a) (.tuple b) P = (a.length + b.length ≤ 1000000 ∧ P (.tuple (a ++ b))) := rfl
theorem add_ll {a b : List PyData} {P : PyData → Prop} : addW (.list a) (.list b) P = (a.length + b.length ≤ 1000000 ∧ P (.list (a ++ b))) := rfl
theorem cutD_toN {ds : List PyData} {i : Nat} : cutD ds none (some (i : Int)) = ds.take i := by
  unfold cutD
  rw [HT.sIx_none, HT.sIx_nat]
  simp
theorem cutD_fromN {ds : List PyData} {i : Nat} : cutD ds (some (i : Int)) none = ds.drop i := by
  unfold cutD
  rw [HT.sIx_none, HT.sIx_nat]
  rcases Nat.lt_or_ge i ds.length with h | h
  · rw [Nat.min_eq_left (by omega), List.take_of_length_le (by simp)]
  · rw [Nat.min_eq_right h, List.drop_of_length_le h, List.drop_of_length_le (by omega)]
    simp
def dt : Mat → Int
  | [] => 1
  | [[a]] => a
  | [[a, b], [c, d]] => a * d - b * c
  | [[a, b, c], [d, e, f], [g, h, i]] => a * (e * i - f * h) - b * (d * i - f * g) + c * (d * h - e * g)
  | _ => 0
theorem Sq.one {r : Mat} (s : Sq 1 r) : ∃ a, r = [[a]] := by
  obtain ⟨h, w⟩ := s
  match r, h with
  | [l], _ =>
    have := w l (by simp)
    match l, this with
    | [a], _ => exact ⟨a, rfl⟩
theorem len2 {α : Type} {l : List α} (h : l.length = 2) : ∃ a b, l = [a, b] := by
  match l, h with
  | [a, b], _ => exact ⟨a, b, rfl⟩
theorem len3 {α : Type} {l : List α} (h : l.length = 3) : ∃ a b c, l = [a, b, c] := by
  match l, h with
  | [a, b, c], _ => exact ⟨a, b, c, rfl⟩
theorem len1 {α : Type} {l : List α} (h : l.length = 1) : ∃ a, l = [a] := by
  match l, h with
  | [a], _ => exact ⟨a, rfl⟩
theorem Sq.two {r : Mat} (s : Sq 2 r) : ∃ a b c d, r = [[a, b], [c, d]] := by
  obtain ⟨x, y, rfl⟩ := len2 s.h
  obtain ⟨a, b, rfl⟩ := len2 (s.w x (by simp))
  obtain ⟨c, d, rfl⟩ := len2 (s.w y (by simp))
  exact ⟨a, b, c, d, rfl⟩
theorem Sq.three {r : Mat} (s : Sq 3 r) : ∃ a b c d e f g h i, r = [[a, b, c], [d, e, f], [g, h, i]] := by
  obtain ⟨x, y, z, rfl⟩ := len3 s.h
  obtain ⟨a, b, c, rfl⟩ := len3 (s.w x (by simp))
  obtain ⟨d, e, f, rfl⟩ := len3 (s.w y (by simp))
  obtain ⟨g, h, i, rfl⟩ := len3 (s.w z (by simp))
  exact ⟨a, b, c, d, e, f, g, h, i, rfl⟩
/-- all entries at most M -/
def Bd (M : Nat) (r : Mat) : Prop := ∀ l ∈ r, ∀ x ∈ l, x.natAbs ≤ M
def BdL (M : Nat) (l : List Int) : Prop := ∀ x ∈ l, x.natAbs ≤ M
theorem n123 {n : Nat} (h1 : 1 ≤ n) (h3 : n ≤ 3) : n = 1 ∨ n = 2 ∨ n = 3 := by omega
theorem lt2c {i : Nat} (h : i < 2) : i = 0 ∨ i = 1 := by omega
theorem lt3c {i : Nat} (h : i < 3) : i = 0 ∨ i = 1 ∨ i = 2 := by omega
section
variable {n : Nat} {r : Mat}
theorem dt_add (s : Sq n r) (h1 : 1 ≤ n) (h3 : n ≤ 3) {i j : Nat} (hi : i < n) (hj : j < n) (hij : i ≠ j) (k : Int) : dt (r.set i (addT (r.getD i []) (r.getD j []) k)) = dt r := by
  rcases n123 h1 h3 with rfl | rfl | rfl
  · omega
  · obtain ⟨a, b, c, d, rfl⟩ := s.two
    rcases lt2c hi with rfl | rfl <;> rcases lt2c hj with rfl | rfl <;> first | (exact absurd rfl hij) | (simp [dt, addT]; grind)
  · obtain ⟨a, b, c, d, e, f, g, h, i, rfl⟩ := s.three
    rcases lt3c hi with rfl | rfl | rfl <;> rcases lt3c hj with rfl | rfl | rfl <;> first | (exact absurd rfl hij) | (simp [dt, addT]; grind)
theorem dt_swap (s : Sq n r) (h1 : 1 ≤ n) (h3 : n ≤ 3) {i j : Nat} (hi : i < n) (hj : j < n) (hij : i ≠ j) : dt ((r.set i (r.getD j [])).set j (r.getD i [])) = -dt r := by
  rcases n123 h1 h3 with rfl | rfl | rfl
  · omega
  · obtain ⟨a, b, c, d, rfl⟩ := s.two
    rcases lt2c hi with rfl | rfl <;> rcases lt2c hj with rfl | rfl <;> first | (exact absurd rfl hij) | (simp [dt]; grind)
  · obtain ⟨a, b, c, d, e, f, g, h, i, rfl⟩ := s.three
    rcases lt3c hi with rfl | rfl | rfl <;> rcases lt3c hj with rfl | rfl | rfl <;> first | (exact absurd rfl hij) | (simp [dt]; grind)
theorem dt_neg (s : Sq n r) (h1 : 1 ≤ n) (h3 : n ≤ 3) {i : Nat} (hi : i < n) : dt (r.set i (negT (r.getD i []))) = -dt r := by
  rcases n123 h1 h3 with rfl | rfl | rfl
  · obtain ⟨a, rfl⟩ := s.one
    have : i = 0 := by omega
    subst this
    simp [dt, negT]
  · obtain ⟨a, b, c, d, rfl⟩ := s.two
    rcases lt2c hi with rfl | rfl <;> simp [dt, negT] <;> grind
  · obtain ⟨a, b, c, d, e, f, g, h, i, rfl⟩ := s.three
    rcases lt3c hi with rfl | rfl | rfl <;> simp [dt, negT] <;> grind
/-- the product of the diagonal -/
def dgs (n : Nat) (T : Mat) : List Int := (List.range n).map fun i => ent T i i
def prodL : List Int → Int
  | [] => 1
  | x :: l => x * prodL l
theorem dt_up (s : Sq n r) (h1 : 1 ≤ n) (h3 : n ≤ 3) (lo : ∀ i j, j < i → i < n → ent r i j = 0) : dt r = prodL (dgs n r) := by
  rcases n123 h1 h3 with rfl | rfl | rfl
  · obtain ⟨a, rfl⟩ := s.one
    simp [dt, dgs, prodL, List.range_succ, ent]
  · obtain ⟨a, b, c, d, rfl⟩ := s.two
    have e := lo 1 0 (by decide) (by decide)
    simp [ent] at e
    simp [dt, dgs, prodL, List.range_succ, ent, e]
  · obtain ⟨a, b, c, d, e, f, g, h, i, rfl⟩ := s.three
    have e1 := lo 1 0 (by decide) (by decide)
    have e2 := lo 2 0 (by decide) (by decide)
    have e3 := lo 2 1 (by decide) (by decide)
    simp [ent] at e1 e2 e3
    subst e1 e2 e3
    simp [dt, dgs, prodL, List.range_succ, ent]
end
end Kz
set_option Elab.async false
set_option linter.all false
set_option maxRecDepth 100000
set_option maxHeartbeats 4000000
/-! Kz: one column cleared by divisions -/
namespace Kz
open PySem PySem.Spec PyProof.Rows L2
theorem fdiv_mul (a b : Int) : a - a.fdiv b * b = a.fmod b := by
  have := Int.fmod_add_mul_fdiv a b
  have e : b * a.fdiv b = a.fdiv b * b := Int.mul_comm _ _
  omega
theorem fmod_abs {a b : Int} (hb : b ≠ 0) : (a.fmod b).natAbs < b.natAbs := by
  rcases Int.lt_or_gt_of_ne hb with h | h
  · have h1 := Int.fmod_nonneg_of_pos (a := -a) (b := -b) (by omega)
    have h2 := Int.fmod_lt_of_pos (-a) (b := -b) (by omega)
    rw [Int.neg_fmod_neg] at h1 h2
    omega
  · have h1 := Int.fmod_nonneg_of_pos a h
    have h2 := Int.fmod_lt_of_pos a h
    omega
theorem fmod_pos {a b : Int} (h : 0 < b) : 0 ≤ a.fmod b := Int.fmod_nonneg_of_pos a h
theorem fmod_neg {a b : Int} (h : b < 0) : a.fmod b ≤ 0 := by
  have h1 := Int.fmod_nonneg_of_pos (-a) (b := -b) (by omega)
  rw [Int.neg_fmod_neg] at h1
  omega
theorem fdiv_abs {a b : Int} (hb : b ≠ 0) : (a.fdiv b).natAbs * b.natAbs ≤ a.natAbs + b.natAbs := by
  have h1 := fdiv_mul a b
  have h2 := fmod_abs (a := a) hb
  rw [← Int.natAbs_mul]
  omega
/-- of one sign -/
def OneS (a b : Int) : Prop := (0 ≤ a ∧ 0 ≤ b) ∨ (a ≤ 0 ∧ b ≤ 0)
theorem ones_next {a b : Int} (hb : b ≠ 0) : OneS b (a - a.fdiv b * b) := by
  rw [fdiv_mul]
  rcases Int.lt_or_gt_of_ne hb with h | h
  · exact .inr ⟨by omega, fmod_neg h⟩
  · exact .inl ⟨by omega, fmod_pos h⟩
theorem ones_sum {a b : Int} (hb : b ≠ 0) (h : OneS a b) : (a.fdiv b).natAbs * b.natAbs + (a - a.fdiv b * b).natAbs = a.natAbs := by
  have h1 := fdiv_mul a b
  have h2 := fmod_abs (a := a) hb
  have h3 : 0 ≤ a.fdiv b * b ∨ a.fdiv b * b ≤ 0 := Int.le_total _ _
  rw [← Int.natAbs_mul, h1]
  rcases h with ⟨ha, hb'⟩ | ⟨ha, hb'⟩
  · have h4 := fmod_pos (a := a) (b := b) (by omega)
    have : 0 ≤ a.fdiv b := Int.fdiv_nonneg ha hb'
    have : 0 ≤ a.fdiv b * b := Int.mul_nonneg this hb'
    omega
  · have h4 := fmod_neg (a := a) (b := b) (by omega)
    have e : a.fdiv b = (-a).fdiv (-b) := (Int.neg_fdiv_neg a b).symm
    have : 0 ≤ a.fdiv b := by rw [e]; exact Int.fdiv_nonneg (by omega) (by omega)
    have : a.fdiv b * b ≤ 0 := Int.mul_nonpos_of_nonneg_of_nonpos this hb'
    omega
/-- entries below 2^k -/
def Bp (k : Nat) (r : Mat) : Prop := ∀ l ∈ r, ∀ x ∈ l, x.natAbs < 2 ^ k
def BpL (k : Nat) (l : List Int) : Prop := ∀ x ∈ l, x.natAbs < 2 ^ k
theorem BpL.mono {k m : Nat} {l : List Int} (h : BpL k l) (hk : k ≤ m) : BpL m l := fun x hx => Nat.lt_of_lt_of_le (h x hx) (Nat.pow_le_pow_right (by decide) hk)
theorem Bp.mono {k m : Nat} {r : Mat} (h : Bp k r) (hk : k ≤ m) : Bp m r := fun l hl => BpL.mono (h l hl) hk
theorem getD_mem {l : List Int} {i : Nat} (h : i < l.length) : l.getD i 0 ∈ l := by
  rw [List.getD_eq_getElem?_getD, List.getElem?_eq_getElem h]
  exact List.getElem_mem h
def AllLe (X : Nat) (l : List Int) : Prop := ∀ x ∈ l, x.natAbs ≤ X
theorem AllLe.mono {X Y : Nat} {l : List Int} (h : AllLe X l) (k : X ≤ Y) : AllLe Y l := fun x hx => Nat.le_trans (h x hx) k
theorem mem_addT {x y : List Int} {k z : Int} (h : z ∈ addT x y k) : ∃ a ∈ x, ∃ b ∈ y, z = a + k * b := by
  unfold addT at h
  obtain ⟨i, hi, e⟩ := List.mem_iff_getElem.mp h
  rw [List.getElem_zipWith] at e
  rw [List.length_zipWith] at hi
  exact ⟨_, List.getElem_mem (by omega), _, List.getElem_mem (by omega), e.symm⟩
theorem AllLe.add {X Y : Nat} {x y : List Int} {k : Int} (h : AllLe X x) (h2 : AllLe Y y) : AllLe (X + k.natAbs * Y) (addT x y k) := fun z hz => by
  obtain ⟨a, ha, b, hb, rfl⟩ := mem_addT hz
  have h3 : (k * b).natAbs ≤ k.natAbs * Y := by rw [Int.natAbs_mul]; exact Nat.mul_le_mul_left _ (h2 b hb)
  have h4 := h a ha
  omega
/-- while a column is cleared at row d by row a: what stays, and how great the rows are -/
structure Euc (n a d M : Nat) (T T' : Mat) : Prop where
  s : Sq n T'
  e : Same n T T'
  dt : Kz.dt T' = Kz.dt T ∨ Kz.dt T' = -Kz.dt T
  o : ∀ i, i ≠ a → i ≠ d → T'.getD i [] = T.getD i []
  z : ∀ c, c < a → ent T' a c = 0 ∧ ent T' d c = 0
  b : ∃ X Y, AllLe X (T'.getD a []) ∧ AllLe Y (T'.getD d []) ∧ X ≤ 4 * M ^ 2 ∧ Y ≤ 4 * M ^ 2 ∧ ((X ≤ M ∧ Y ≤ M) ∨ (OneS (ent T' a a) (ent T' d a) ∧ X * (ent T' d a).natAbs + Y * (ent T' a a).natAbs ≤ 4 * M ^ 2))
theorem ent_get {T : Mat} {i j : Nat} : ent T i j = (T.getD i []).getD j 0 := rfl
theorem Euc.step {n a d M : Nat} {T T' : Mat} (h : Euc n a d M T T') (h1 : 1 ≤ n) (h3 : n ≤ 3) (ha : a < n) (hd : d < n) (hne : a ≠ d) (hM : 1 ≤ M) (hb : ent T' d a ≠ 0) :
    Euc n a d M T ((T'.set a (T'.getD d [])).set d (addT (T'.getD a []) (T'.getD d []) (-((ent T' a a).fdiv (ent T' d a))))) ∧
    (ent ((T'.set a (T'.getD d [])).set d (addT (T'.getD a []) (T'.getD d []) (-((ent T' a a).fdiv (ent T' d a))))) d a).natAbs < (ent T' d a).natAbs := by
  obtain ⟨s, e, hdt, o, z, X, Y, bX, bY, cX, cY, hphi⟩ := h
  have la := s.len ha
  have ld := s.len hd
  generalize ht : (ent T' a a).fdiv (ent T' d a) = t at *
  -- first the row, then the exchange
  have s1 : Sq n (T'.set a (addT (T'.getD a []) (T'.getD d []) (-t))) := s.set (addT_len' la ld)
  have ra : (T'.set a (addT (T'.getD a []) (T'.getD d []) (-t))).getD a [] = addT (T'.getD a []) (T'.getD d []) (-t) := by rw [set_get (by rw [s.h]; exact ha), if_pos rfl]
  have rd : (T'.set a (addT (T'.getD a []) (T'.getD d []) (-t))).getD d [] = T'.getD d [] := by rw [set_get (by rw [s.h]; exact ha), if_neg hne]
  have eqT : (T'.set a (T'.getD d [])).set d (addT (T'.getD a []) (T'.getD d []) (-t)) = ((T'.set a (addT (T'.getD a []) (T'.getD d []) (-t))).set a (T'.getD d [])).set d (addT (T'.getD a []) (T'.getD d []) (-t)) := by rw [List.set_set]
  have s2 : Sq n ((T'.set a (T'.getD d [])).set d (addT (T'.getD a []) (T'.getD d []) (-t))) := (s.set ld).set (addT_len' la ld)
  have ga : ((T'.set a (T'.getD d [])).set d (addT (T'.getD a []) (T'.getD d []) (-t))).getD a [] = T'.getD d [] := by
    rw [set_get (by rw [List.length_set, s.h]; exact hd), if_neg (Ne.symm hne), set_get (by rw [s.h]; exact ha), if_pos rfl]
  have gd : ((T'.set a (T'.getD d [])).set d (addT (T'.getD a []) (T'.getD d []) (-t))).getD d [] = addT (T'.getD a []) (T'.getD d []) (-t) := by
    rw [set_get (by rw [List.length_set, s.h]; exact hd), if_pos rfl]
  have go : ∀ i, i ≠ a → i ≠ d → ((T'.set a (T'.getD d [])).set d (addT (T'.getD a []) (T'.getD d []) (-t))).getD i [] = T'.getD i [] := fun i h1 h2 => by
    rw [set_get (by rw [List.length_set, s.h]; exact hd), if_neg (Ne.symm h2), set_get (by rw [s.h]; exact ha), if_neg (Ne.symm h1)]
  have mem : ∀ l, l ∈ T'.set a (addT (T'.getD a []) (T'.getD d []) (-t)) ↔ l ∈ (T'.set a (T'.getD d [])).set d (addT (T'.getD a []) (T'.getD d []) (-t)) := by
    have sw : ∀ i, i < n → ((T'.set a (T'.getD d [])).set d (addT (T'.getD a []) (T'.getD d []) (-t))).getD i [] = (T'.set a (addT (T'.getD a []) (T'.getD d []) (-t))).getD (if i = a then d else if i = d then a else i) [] := fun i hi => by
      by_cases e1 : i = a
      · subst e1; rw [ga, if_pos rfl, rd]
      · rw [if_neg e1]
        by_cases e2 : i = d
        · subst e2; rw [gd, if_pos rfl, ra]
        · rw [if_neg e2, go i e1 e2, set_get (by rw [s.h]; exact ha), if_neg (Ne.symm e1)]
    intro l
    constructor
    · intro hl
      obtain ⟨i, hi, rfl⟩ := mem_row hl
      rw [s1.h] at hi
      have hi' : (if i = a then d else if i = d then a else i) < n := by split; exact hd; split; exact ha; exact hi
      have h := sw _ hi'
      have inv : (if (if i = a then d else if i = d then a else i) = a then d else if (if i = a then d else if i = d then a else i) = d then a else (if i = a then d else if i = d then a else i)) = i := by
        by_cases e1 : i = a
        · simp [e1, Ne.symm hne]
        · by_cases e2 : i = d
          · simp [e2, Ne.symm hne]
          · simp [e1, e2]
      rw [inv] at h
      rw [← h]
      exact row_mem (by rw [s2.h]; exact hi')
    · intro hl
      obtain ⟨i, hi, rfl⟩ := mem_row hl
      rw [s2.h] at hi
      rw [sw i hi]
      exact row_mem (by rw [s1.h]; split; exact hd; split; exact ha; exact hi)
  have entA : ∀ c, ent ((T'.set a (T'.getD d [])).set d (addT (T'.getD a []) (T'.getD d []) (-t))) a c = ent T' d c := fun c => by rw [ent_get, ga]
  have entD : ∀ c, ent ((T'.set a (T'.getD d [])).set d (addT (T'.getD a []) (T'.getD d []) (-t))) d c = ent T' a c - t * ent T' d c := fun c => by
    rw [ent_get, gd, addT_get (by omega)]
    show _ + -t * _ = _ - t * _
    rw [Int.neg_mul]; rfl
  have small : (ent T' a a - t * ent T' d a).natAbs < (ent T' d a).natAbs := by
    rw [← ht, fdiv_mul]
    exact fmod_abs hb
  refine ⟨⟨s2, e.trans ((same_add s ha hd hne (-t)).trans (same_mem s1.w s2.w mem)), ?_, fun i h1 h2 => (go i h1 h2).trans (o i h1 h2), fun c hc => ?_, Y, X + t.natAbs * Y, ?_⟩, by rw [entD]; exact small⟩
  · have h1' := dt_swap s1 h1 h3 ha hd hne
    rw [rd, ra] at h1'
    have h2' := dt_add s h1 h3 ha hd hne (-t)
    rw [eqT, h1', h2']
    rcases hdt with h | h
    · exact .inr (by rw [h])
    · exact .inl (by rw [h]; simp)
  · rw [entA, entD, (z c hc).1, (z c hc).2]
    exact ⟨rfl, by simp⟩
  · rw [ga, gd, entA, entD]
    have bt : AllLe (X + t.natAbs * Y) (addT (T'.getD a []) (T'.getD d []) (-t)) := by
      have := bX.add (k := -t) bY
      rwa [Int.natAbs_neg] at this
    have hB : 1 ≤ (ent T' d a).natAbs := by omega
    have one := ones_next (a := ent T' a a) hb
    rw [ht] at one
    refine ⟨bY, bt, cY, ?_⟩
    rcases hphi with ⟨hX, hY⟩ | ⟨hs, hphi⟩
    · have htb := fdiv_abs (a := ent T' a a) hb
      rw [ht] at htb
      have hA : (ent T' a a).natAbs ≤ M := Nat.le_trans (bX _ (getD_mem (by omega))) hX
      have hD : (ent T' d a).natAbs ≤ M := Nat.le_trans (bY _ (getD_mem (by omega))) hY
      generalize hB' : (ent T' a a - t * ent T' d a).natAbs = B' at *
      generalize hBB : (ent T' d a).natAbs = Bb at *
      generalize hAA : (ent T' a a).natAbs = Aa at *
      generalize t.natAbs = u at *
      have e1 : (X + u * Y) * Bb = X * Bb + Y * (u * Bb) := by grind
      have e2 : X * Bb ≤ M * M := Nat.mul_le_mul hX hD
      have e3 : Y * (u * Bb) ≤ M * (M + M) := Nat.mul_le_mul hY (by omega)
      have e4 : Y * B' ≤ M * M := Nat.mul_le_mul hY (by omega)
      have e5 : M ^ 2 = M * M := Nat.pow_two M
      have e6 : X + u * Y ≤ (X + u * Y) * Bb := Nat.le_mul_of_pos_right _ (by omega)
      have e7 : M * (M + M) = M * M + M * M := Nat.mul_add _ _ _
      rw [e5]
      exact ⟨by omega, .inr ⟨one, by omega⟩⟩
    · have hsum := ones_sum hb hs
      rw [ht] at hsum
      generalize hB' : (ent T' a a - t * ent T' d a).natAbs = B' at *
      generalize hBB : (ent T' d a).natAbs = Bb at *
      generalize hAA : (ent T' a a).natAbs = Aa at *
      generalize t.natAbs = u at *
      have e1 : Y * B' + (X + u * Y) * Bb = X * Bb + Y * Aa := by rw [← hsum]; grind
      have e6 : X + u * Y ≤ (X + u * Y) * Bb := Nat.le_mul_of_pos_right _ (by omega)
      exact ⟨by omega, .inr ⟨one, by omega⟩⟩
end Kz
set_option Elab.async false
set_option linter.all false
set_option maxRecDepth 100000
set_option maxHeartbeats 4000000
/-! Kz: a column cleared by its least entry, pass by pass -/
namespace Kz
open PySem PySem.Spec PyProof.Rows L2
section
variable {n a m : Nat} {T T' : Mat}
/-- the rows of js less multiples of row m -/
structure Pss (n a m : Nat) (js : List Nat) (T T' : Mat) : Prop where
  s : Sq n T'
  e : Same n T T'
  d : dt T' = dt T
  j : ∀ i, i ∈ js → T'.getD i [] = addT (T.getD i []) (T.getD m []) (-((ent T i a).fdiv (ent T m a)))
  o : ∀ i, i ∉ js → T'.getD i [] = T.getD i []
theorem Pss.nil (s : Sq n T) : Pss n a m [] T T := ⟨s, Same.refl, rfl, by simp, fun _ _ => rfl⟩
theorem Pss.next {js : List Nat} {i : Nat} (h : Pss n a m js T T') (h1 : 1 ≤ n) (h3 : n ≤ 3) (hi : i < n) (hm : m < n) (him : i ≠ m) (hij : i ∉ js) (hmj : m ∉ js) :
    Pss n a m (js ++ [i]) T (T'.set i (addT (T'.getD i []) (T'.getD m []) (-((ent T' i a).fdiv (ent T' m a))))) := by
  have li := h.s.len hi
  have lm := h.s.len hm
  have ei : T'.getD i [] = T.getD i [] := h.o i hij
  have em : T'.getD m [] = T.getD m [] := h.o m hmj
  refine ⟨h.s.set (addT_len' li lm), h.e.trans (same_add h.s hi hm him _), by rw [dt_add h.s h1 h3 hi hm him]; exact h.d, fun j hj => ?_, fun j hj => ?_⟩
  · rw [set_get (by rw [h.s.h]; exact hi)]
    by_cases e : i = j
    · subst e
      rw [if_pos rfl]
      unfold ent
      rw [ei, em]
    · rw [if_neg e]
      rcases List.mem_append.mp hj with hj | hj
      · exact h.j j hj
      · exact absurd (List.mem_singleton.mp hj).symm e
  · rw [set_get (by rw [h.s.h]; exact hi), if_neg (fun e => hj (by simp [e]))]
    exact h.o j fun z => hj (by simp [z])
theorem Pss.col {js : List Nat} (h : Pss n a m js T T') (s : Sq n T) (hm : m < n) {i : Nat} (hi : i < n) (hj : i ∈ js) : ent T' i a = (ent T i a).fmod (ent T m a) := by
  have := fdiv_mul (ent T i a) (ent T m a)
  rw [ent_get, h.j i hj, addT_get (by rw [s.len hi, s.len hm])]
  show ent T i a + -((ent T i a).fdiv (ent T m a)) * ent T m a = _
  rw [Int.neg_mul]
  omega
theorem Pss.zero {js : List Nat} (h : Pss n a m js T T') (s : Sq n T) (hm : m < n) {i c : Nat} (hi : i < n) (hz : ent T i c = 0) (hzm : ent T m c = 0) : ent T' i c = 0 := by
  by_cases hj : i ∈ js
  · rw [ent_get, h.j i hj, addT_get (by rw [s.len hi, s.len hm])]
    show ent T i c + _ * ent T m c = 0
    rw [hz, hzm]; simp
  · rw [ent_get, h.o i hj]; exact hz
theorem Pss.bp {js : List Nat} {k c : Nat} (h : Pss n a m js T T') (s : Sq n T) (hm : m < n) (b : Bp k T) (hc : ∀ i, i ∈ js → (ent T i a).natAbs < 2 ^ c) (h0 : ent T m a ≠ 0) (hjn : ∀ i, i ∈ js → i < n) : Bp (k + c + 2) T' := fun l hl x hx => by
  obtain ⟨i, hi, rfl⟩ := mem_row hl
  rw [h.s.h] at hi
  have e : 2 ^ (k + c + 2) = 2 ^ k * 2 ^ c * 4 := by rw [Nat.pow_add, Nat.pow_add]
  have e1 : 2 ^ k ≤ 2 ^ k * 2 ^ c := Nat.le_mul_of_pos_right _ Nat.one_le_two_pow
  by_cases hj : i ∈ js
  · rw [h.j i hj] at hx
    obtain ⟨p, hp, q, hq, rfl⟩ := mem_addT hx
    have b1 := b _ (row_mem (by rw [s.h]; exact hi)) p hp
    have b2 := b _ (row_mem (by rw [s.h]; exact hm)) q hq
    have b0 := hc i hj
    have htb := fdiv_abs (a := ent T i a) h0
    have hq1 : ((ent T i a).fdiv (ent T m a)).natAbs ≤ 2 ^ c + 1 := by
      have hm1 : 1 ≤ (ent T m a).natAbs := by omega
      rcases Nat.lt_or_ge ((ent T i a).fdiv (ent T m a)).natAbs (2 ^ c + 2) with h | h
      · omega
      · have : (2 ^ c + 2) * (ent T m a).natAbs ≤ ((ent T i a).fdiv (ent T m a)).natAbs * (ent T m a).natAbs := Nat.mul_le_mul_right _ h
        have e5 : (2 ^ c + 2) * (ent T m a).natAbs = 2 ^ c * (ent T m a).natAbs + 2 * (ent T m a).natAbs := Nat.add_mul _ _ _
        have : 2 ^ c ≤ 2 ^ c * (ent T m a).natAbs := Nat.le_mul_of_pos_right _ (by omega)
        omega
    have b4 : (-((ent T i a).fdiv (ent T m a)) * q).natAbs ≤ (2 ^ c + 1) * 2 ^ k := by
      rw [Int.natAbs_mul, Int.natAbs_neg]
      exact Nat.mul_le_mul hq1 (Nat.le_of_lt b2)
    have e6 : (2 ^ c + 1) * 2 ^ k = 2 ^ k * 2 ^ c + 2 ^ k := by grind
    omega
  · rw [h.o i hj] at hx
    have b1 := b _ (row_mem (by rw [s.h]; exact hi)) x hx
    omega
end
theorem fmod_zero {b : Int} : (0 : Int).fmod b = 0 := Int.zero_fmod b
/-- two of one sign: the product at least halves -/
theorem half {x y : Int} (hy : y ≠ 0) (h : OneS x y) (hle : y.natAbs ≤ x.natAbs) : 2 * (x.fmod y).natAbs ≤ x.natAbs := by
  have hs := ones_sum hy h
  rw [fdiv_mul] at hs
  have hlt := fmod_abs (a := x) hy
  have hq : 1 ≤ (x.fdiv y).natAbs := by
    rcases Nat.eq_zero_or_pos (x.fdiv y).natAbs with e | e
    · rw [e] at hs; omega
    · exact e
  have : 1 * y.natAbs ≤ (x.fdiv y).natAbs * y.natAbs := Nat.mul_le_mul_right _ hq
  omega
theorem ones_fmod {x y : Int} (hy : y ≠ 0) : OneS y (x.fmod y) := by
  have := ones_next (a := x) hy
  rwa [fdiv_mul] at this
theorem OneS.symm {x y : Int} (h : OneS x y) : OneS y x := by
  rcases h with ⟨a, b⟩ | ⟨a, b⟩
  · exact .inl ⟨b, a⟩
  · exact .inr ⟨b, a⟩
end Kz
set_option Elab.async false
set_option linter.all false
set_option maxRecDepth 100000
set_option maxHeartbeats 4000000
/-! Kz: data of all kinds, within bounds -/
namespace Kz
open PySem PySem.Spec PyProof.Rows L2
theorem two10 : (2 : Nat) ^ 190 < 10 ^ 60 := by decide +kernel
theorem shl {i : Int} (h : i.natAbs < 2 ^ 190) : (PyData.shown (.int i)).length ≤ 100 := by
  have e := int_text_length_le10 (k := 60) (by decide) (Nat.lt_trans h two10)
  show (Str.ofString (toString i)).length ≤ 100
  rw [PySem.ofString_length]
  omega
theorem shb {i : Int} (h : i.natAbs < 2 ^ 190) : i.natAbs.log2 < 1920 := Nat.lt_of_lt_of_le (PySem.Flt.log2_lt_of (by decide) h) (by decide)
/-- letters below 128 -/
def asc (x : Str) : Bool := x.cps.toList.all fun c => decide (c < 128)
mutual
/-- ints below B in size, texts of such letters -/
def lf (B : Nat) : PyData → Bool
  | .none => true
  | .bool _ => true
  | .int i => decide (i.natAbs ≤ B)
  | .str x => asc x
  | .list ds => lfA B ds
  | .tuple ds => lfA B ds
  | .dict ps => lfK B ps
def lfA (B : Nat) : List PyData → Bool
  | [] => true
  | d :: ds => lf B d && lfA B ds
def lfK (B : Nat) : List (PyData × PyData) → Bool
  | [] => true
  | (a, b) :: r => lf B a && lf B b && lfK B r
end
mutual
theorem lf_mono {B C : Nat} (h : B ≤ C) : ∀ d : PyData, lf B d = true → lf C d = true
  | .none, _ => rfl
  | .bool _, _ => rfl
  | .int i, q => by
    simp only [lf, decide_eq_true_eq] at q ⊢
    omega
  | .str x, q => by simpa only [lf] using q
  | .list ds, q => by simp only [lf] at q ⊢; exact lfA_mono h ds q
  | .tuple ds, q => by simp only [lf] at q ⊢; exact lfA_mono h ds q
  | .dict ps, q => by simp only [lf] at q ⊢; exact lfK_mono h ps q
theorem lfA_mono {B C : Nat} (h : B ≤ C) : ∀ ds : List PyData, lfA B ds = true → lfA C ds = true
  | [], _ => rfl
  | d :: ds, q => by
    simp only [lfA, Bool.and_eq_true] at q ⊢
    exact ⟨lf_mono h d q.1, lfA_mono h ds q.2⟩
theorem lfK_mono {B C : Nat} (h : B ≤ C) : ∀ ps : List (PyData × PyData), lfK B ps = true → lfK C ps = true
  | [], _ => rfl
  | (a, b) :: r, q => by
    simp only [lfK, Bool.and_eq_true] at q ⊢
    exact ⟨⟨lf_mono h a q.1.1, lf_mono h b q.1.2⟩, lfK_mono h r q.2⟩
end
theorem asc_lt {x : Str} (h : asc x = true) : (x.cps.toList.all fun c => decide (c < 16 ^ 8)) = true := by
  unfold asc at h
  rw [List.all_eq_true] at h ⊢
  intro c hc
  have := of_decide_eq_true (h c hc)
  exact decide_eq_true (by omega)
mutual
theorem lf_short {B : Nat} (h : B < 2 ^ 190) : ∀ d : PyData, lf B d = true → d.leavesShort 100 = true ∧ d.showable = true
  | .none, _ => ⟨rfl, rfl⟩
  | .bool _, _ => ⟨rfl, rfl⟩
  | .int i, q => by
    simp only [lf, decide_eq_true_eq] at q
    have hi : i.natAbs < 2 ^ 190 := by omega
    simp only [PyData.leavesShort, PyData.showable, decide_eq_true_eq]
    exact ⟨shl hi, shb hi⟩
  | .str x, q => by
    simp only [lf] at q
    simp only [PyData.leavesShort, PyData.showable]
    exact ⟨asc_lt q, trivial⟩
  | .list ds, q => by
    simp only [lf] at q
    simp only [PyData.leavesShort, PyData.showable]
    exact lfA_short h ds q
  | .tuple ds, q => by
    simp only [lf] at q
    simp only [PyData.leavesShort, PyData.showable]
    exact lfA_short h ds q
  | .dict ps, q => by
    simp only [lf] at q
    simp only [PyData.leavesShort, PyData.showable]
    exact lfK_short h ps q
theorem lfA_short {B : Nat} (h : B < 2 ^ 190) : ∀ ds : List PyData, lfA B ds = true → PyData.leavesShortAll 100 ds = true ∧ PyData.showableAll ds = true
  | [], _ => ⟨rfl, rfl⟩
  | d :: ds, q => by
    simp only [lfA, Bool.and_eq_true] at q
    have h1 := lf_short h d q.1
    have h2 := lfA_short h ds q.2
    simp only [PyData.leavesShortAll, PyData.showableAll, Bool.and_eq_true]
    exact ⟨⟨h1.1, h2.1⟩, h1.2, h2.2⟩
theorem lfK_short {B : Nat} (h : B < 2 ^ 190) : ∀ ps : List (PyData × PyData), lfK B ps = true → PyData.leavesShortKv 100 ps = true ∧ PyData.showableKv ps = true
  | [], _ => ⟨rfl, rfl⟩
  | (a, b) :: r, q => by
    simp only [lfK, Bool.and_eq_true] at q
    have h1 := lf_short h a q.1.1
    have h2 := lf_short h b q.1.2
    have h3 := lfK_short h r q.2
    simp only [PyData.leavesShortKv, PyData.showableKv, Bool.and_eq_true]
    exact ⟨⟨⟨h1.1, h2.1⟩, h3.1⟩, ⟨h1.2, h2.2⟩, h3.2⟩
end
/-- a datum of any kind: its ints, its depth, its bulk -/
structure Vd (B m b : Nat) (d : PyData) : Prop where
  lf : lf B d = true
  dp : d.depth ≤ m
  bk : d.bulk ≤ b
structure VdL (B m b : Nat) (ds : List PyData) : Prop where
  lf : lfA B ds = true
  dp : PyData.depthAll ds ≤ m
  bk : PyData.bulkAll ds ≤ b
theorem Vd.mono {B m b B' m' b' : Nat} {d : PyData} (h : Vd B m b d) (h1 : B ≤ B' := by omega) (h2 : m ≤ m' := by omega) (h3 : b ≤ b' := by omega) : Vd B' m' b' d := ⟨lf_mono h1 d h.lf, Nat.le_trans h.dp h2, Nat.le_trans h.bk h3⟩
theorem VdL.mono {B m b B' m' b' : Nat} {d : List PyData} (h : VdL B m b d) (h1 : B ≤ B' := by omega) (h2 : m ≤ m' := by omega) (h3 : b ≤ b' := by omega) : VdL B' m' b' d := ⟨lfA_mono h1 d h.lf, Nat.le_trans h.dp h2, Nat.le_trans h.bk h3⟩
theorem Vd.shv {B m b : Nat} {d : PyData} (h : Vd B m b d) (hB : B < 2 ^ 190) (hm : m ≤ 20) (hb : b ≤ 10000) : Shv d := by
  have hs := lf_short hB d h.lf
  refine ⟨hs.2, Nat.le_trans h.dp hm, ?_⟩
  have h1 := PyData.shown_le_bulk 100 (by decide) d hs.1
  have h2 := h.bk
  have h3 : (100 + 2) * d.bulk + 100 ≤ 2000000 := by omega
  exact Nat.le_trans h1 (Nat.le_trans h3 (by decide))
theorem vd_none {B m b : Nat} : Vd B m b .none := ⟨rfl, by simp [PyData.depth], by simp [PyData.bulk]⟩
theorem vd_bool {B m b : Nat} (c : Bool) : Vd B m b (.bool c) := ⟨rfl, by simp [PyData.depth], by simp [PyData.bulk]⟩
theorem vd_int {B m b : Nat} {i : Int} (h : i.natAbs ≤ B) : Vd B m b (.int i) := ⟨by simp only [Kz.lf, decide_eq_true_eq]; exact h, by simp [PyData.depth], by simp [PyData.bulk]⟩
theorem vd_str {B m b : Nat} {x : Str} (h : asc x = true) (hb : x.cps.size ≤ b) : Vd B m b (.str x) := ⟨by simpa only [Kz.lf] using h, by simp [PyData.depth], by simpa [PyData.bulk] using hb⟩
theorem vd_tup {B m b : Nat} {ds : List PyData} : Vd B (m + 1) b (.tuple ds) ↔ VdL B m b ds := by
  constructor
  · intro h
    exact ⟨by simpa only [Kz.lf] using h.lf, by have := h.dp; simp only [PyData.depth] at this; omega, by simpa only [PyData.bulk] using h.bk⟩
  · intro h
    exact ⟨by simpa only [Kz.lf] using h.lf, by have := h.dp; simp only [PyData.depth]; omega, by simpa only [PyData.bulk] using h.bk⟩
theorem vd_lst {B m b : Nat} {ds : List PyData} : Vd B (m + 1) b (.list ds) ↔ VdL B m b ds := by
  constructor
  · intro h
    exact ⟨by simpa only [Kz.lf] using h.lf, by have := h.dp; simp only [PyData.depth] at this; omega, by simpa only [PyData.bulk] using h.bk⟩
  · intro h
    exact ⟨by simpa only [Kz.lf] using h.lf, by have := h.dp; simp only [PyData.depth]; omega, by simpa only [PyData.bulk] using h.bk⟩
theorem vd_tup0 {B b : Nat} {ds : List PyData} : ¬ Vd B 0 b (.tuple ds) := fun h => by
  have := h.dp
  simp only [PyData.depth] at this
  omega
theorem vdl_nil {B m b : Nat} : VdL B m b [] := ⟨rfl, by simp [PyData.depthAll], by simp [PyData.bulkAll]⟩
theorem vdl_cons {B m b c : Nat} {d : PyData} {ds : List PyData} (h : Vd B m b d) (k : VdL B m c ds) : VdL B m (b + 1 + c) (d :: ds) :=
  ⟨by simp only [lfA, Bool.and_eq_true]; exact ⟨h.lf, k.lf⟩, by have := h.dp; have := k.dp; simp only [PyData.depthAll]; omega, by have := h.bk; have := k.bk; simp only [PyData.bulkAll]; omega⟩
theorem vdl_inv {B m b : Nat} {d : PyData} {ds : List PyData} (h : VdL B m b (d :: ds)) : ∃ c e, Vd B m c d ∧ VdL B m e ds ∧ c + 1 + e ≤ b := by
  have h1 := h.lf
  have h2 := h.dp
  have h3 := h.bk
  simp only [lfA, Bool.and_eq_true] at h1
  simp only [PyData.depthAll] at h2
  simp only [PyData.bulkAll] at h3
  exact ⟨d.bulk, PyData.bulkAll ds, ⟨h1.1, by omega, Nat.le_refl _⟩, ⟨h1.2, by omega, Nat.le_refl _⟩, h3⟩
theorem vdl_len {B m : Nat} : ∀ {ds : List PyData} {b : Nat}, VdL B m b ds → ds.length ≤ b
  | [], _, _ => Nat.zero_le _
  | d :: ds, b, h => by
    obtain ⟨c, e, _, h2, h3⟩ := vdl_inv h
    have := vdl_len h2
    rw [List.length_cons]; omega
theorem vdl_app {B m : Nat} : ∀ {ds es : List PyData} {b c : Nat}, VdL B m b ds → VdL B m c es → VdL B m (b + c) (ds ++ es)
  | [], es, b, c, _, k => k.mono
  | d :: ds, es, b, c, h, k => by
    obtain ⟨b1, b2, h1, h2, h3⟩ := vdl_inv h
    exact (vdl_cons h1 (vdl_app h2 k)).mono
theorem vdl_split {B m : Nat} : ∀ {ds es : List PyData} {b : Nat}, VdL B m b (ds ++ es) → ∃ c e, VdL B m c ds ∧ VdL B m e es ∧ c + e ≤ b
  | [], es, b, h => ⟨0, b, vdl_nil, h, by omega⟩
  | d :: ds, es, b, h => by
    obtain ⟨b1, b2, h1, h2, h3⟩ := vdl_inv h
    obtain ⟨c, e, k1, k2, k3⟩ := vdl_split h2
    exact ⟨b1 + 1 + c, e, vdl_cons h1 k1, k2, by omega⟩
theorem vdl_take {B m b : Nat} {ds : List PyData} (n : Nat) (h : VdL B m b ds) : VdL B m b (ds.take n) := by
  rw [← List.take_append_drop n ds] at h
  obtain ⟨c, e, k1, _, _⟩ := vdl_split h
  exact k1.mono
theorem vdl_drop {B m b : Nat} {ds : List PyData} (n : Nat) (h : VdL B m b ds) : VdL B m b (ds.drop n) := by
  rw [← List.take_append_drop n ds] at h
  obtain ⟨c, e, _, k2, _⟩ := vdl_split h
  exact k2.mono
theorem vdl_mem {B m b : Nat} {ds : List PyData} {d : PyData} (h : VdL B m b ds) (hd : d ∈ ds) : Vd B m b d := by
  obtain ⟨l, r, rfl⟩ := List.append_of_mem hd
  obtain ⟨c, e, _, k2, _⟩ := vdl_split h
  obtain ⟨b1, b2, h1, _, _⟩ := vdl_inv k2
  exact h1.mono
theorem vdl_rev {B m : Nat} : ∀ {ds : List PyData} {b : Nat}, VdL B m b ds → VdL B m b ds.reverse
  | [], b, _ => by simpa using (vdl_nil (B := B) (m := m) (b := b))
  | d :: ds, b, h => by
    obtain ⟨b1, b2, h1, h2, h3⟩ := vdl_inv h
    rw [List.reverse_cons]
    exact (vdl_app (vdl_rev h2) (vdl_cons h1 (vdl_nil (b := 0)))).mono
theorem vdl_all {B m b : Nat} : ∀ {ds : List PyData}, (∀ d ∈ ds, Vd B m b d) → VdL B m (ds.length * (b + 1)) ds
  | [], _ => vdl_nil
  | d :: ds, h => by
    have := vdl_cons (h d (by simp)) (vdl_all fun e he => h e (List.mem_cons_of_mem _ he))
    exact this.mono (h3 := by rw [List.length_cons, Nat.add_mul]; omega)
/-- item by item no greater -/
theorem vdl_map {B m : Nat} : ∀ {ds es : List PyData} {b : Nat}, VdL B m b ds → es.length = ds.length → (∀ (i : Nat) (d e : PyData) (c : Nat), ds[i]? = some d → es[i]? = some e → Vd B m c d → Vd B m c e) → VdL B m b es
  | [], es, b, _, hl, _ => by
    rw [List.length_eq_zero_iff.mp hl]; exact vdl_nil
  | d :: ds, [], b, _, hl, _ => by cases hl
  | d :: ds, e :: es, b, h, hl, k => by
    obtain ⟨b1, b2, h1, h2, h3⟩ := vdl_inv h
    exact (vdl_cons (k 0 d e b1 rfl rfl h1) (vdl_map h2 (by simpa using hl) fun i d e c g1 g2 => k (i + 1) d e c g1 g2)).mono
theorem vdl_ints {B m b : Nat} {l : List Int} (h : ∀ x ∈ l, x.natAbs ≤ B) (hb : l.length ≤ b) : VdL B m b (l.map .int) := by
  have := vdl_all (B := B) (m := m) (b := 0) (ds := l.map .int) fun d hd => by
    obtain ⟨x, hx, rfl⟩ := List.mem_map.mp hd
    exact vd_int (h x hx)
  exact this.mono (h3 := by rw [List.length_map]; omega)
theorem vd_row {B m b : Nat} {l : List Int} (h : ∀ x ∈ l, x.natAbs ≤ B) (hb : l.length ≤ b) : Vd B (m + 1) b (rowD l) := vd_tup.mpr (vdl_ints h hb)
theorem vd_mat {B m n b : Nat} {r : Mat} (h : ∀ l ∈ r, ∀ x ∈ l, x.natAbs ≤ B) (hn : ∀ l ∈ r, l.length ≤ n) (hb : r.length * (n + 1) ≤ b) : Vd B (m + 2) b (matD r) := by
  refine vd_tup.mpr ((vdl_all (B := B) (m := m + 1) (b := n) fun d hd => ?_).mono (h3 := by rw [List.length_map]; exact hb))
  obtain ⟨l, hl, rfl⟩ := List.mem_map.mp hd
  exact vd_row (h l hl) (hn l hl)
theorem vd_matInv {B m b : Nat} {r : Mat} (h : Vd B m b (matD r)) : ∀ l ∈ r, ∀ x ∈ l, x.natAbs ≤ B := fun l hl x hx => by
  cases m with
  | zero => exact absurd h vd_tup0
  | succ m =>
    have h1 := vdl_mem (vd_tup.mp h) (List.mem_map_of_mem (f := rowD) hl)
    cases m with
    | zero => exact absurd h1 vd_tup0
    | succ m =>
      have h2 := (vdl_mem (vd_tup.mp h1) (List.mem_map_of_mem (f := PyData.int) hx)).lf
      simpa only [Kz.lf, decide_eq_true_eq] using h2
/-! texts -/
theorem asc_ok {l : List Nat} (h : ∀ c ∈ l, c < 128) : asc ⟨l.toArray⟩ = true := by
  unfold asc
  rw [List.all_eq_true]
  intro c hc
  exact decide_eq_true (h c (by simpa using hc))
theorem asc_get {x : Str} (h : asc x = true) : ∀ c ∈ x.cps.toList, c < 128 := fun c hc => of_decide_eq_true (List.all_eq_true.mp h c hc)
theorem asc_app {x y : Str} (h : asc x = true) (k : asc y = true) : asc (x ++ y) = true := by
  unfold asc
  rw [List.all_eq_true]
  intro c hc
  have e : (x ++ y).cps.toList = x.cps.toList ++ y.cps.toList := by
    show (x.cps ++ y.cps).toList = _
    simp
  rw [e, List.mem_append] at hc
  exact decide_eq_true (hc.elim (asc_get h c) (asc_get k c))
theorem size_app (x y : Str) : (x ++ y).cps.size = x.cps.size + y.cps.size := by
  show (x.cps ++ y.cps).size = _
  simp
end Kz
set_option Elab.async false
set_option linter.all false
set_option maxRecDepth 100000
set_option maxHeartbeats 4000000
/-! Kz: texts shown, sums of rows, greatest ones -/
namespace Kz
open PySem PySem.Spec PyProof.Rows L2
theorem repr_d {d : PyData} {P : PyData → Prop} (h : Shv d) (hp : P (.str d.shown)) : reprW d P := ⟨h, hp⟩
theorem eqv_str (x y : Str) : PyData.eqv (.str x) (.str y) = decide (x = y) := by
  by_cases h : x = y
  · subst h; simp [PyData.eqv]
  · simp [PyData.eqv, h]
theorem eqOk_str {x y : Str} : eqOk (.str x) (.str y) = true := by simp [eqOk, isStr]
theorem ne_same {x : Str} {P : PyData → Prop} : neW (.str x) (.str x) P = P (.bool false) := propext ⟨fun h => by have := h.2; rwa [eqv_str, decide_eq_true rfl] at this, fun h => ⟨eqOk_str, by rw [eqv_str, decide_eq_true rfl]; exact h⟩⟩
theorem eq_same {x : Str} {P : PyData → Prop} : eqW (.str x) (.str x) P = P (.bool true) := propext ⟨fun h => by have := h.2; rwa [eqv_str, decide_eq_true rfl] at this, fun h => ⟨eqOk_str, by rw [eqv_str, decide_eq_true rfl]; exact h⟩⟩
def linC (n : Nat) : List Int → Mat → List Int
  | c :: cs, r :: rs => addT (linC n cs rs) r c
  | _, _ => zer n
theorem linC_len {n : Nat} : ∀ {cs : List Int} {rs : Mat}, (∀ r ∈ rs, r.length = n) → (linC n cs rs).length = n
  | [], _, _ => by unfold linC; simp
  | _ :: _, [], _ => by unfold linC; simp
  | c :: cs, r :: rs, h => by
    unfold linC
    exact addT_len' (linC_len fun x hx => h x (by simp [hx])) (h r (by simp))
theorem linC_get {n j : Nat} : ∀ {cs : List Int} {rs : Mat}, (∀ r ∈ rs, r.length = n) → (linC n cs rs).getD j 0 = ((cs.zip rs).map fun q => q.1 * q.2.getD j 0).sum
  | [], _, _ => by unfold linC; rw [zer_get]; rfl
  | _ :: _, [], _ => by unfold linC; rw [zer_get]; rfl
  | c :: cs, r :: rs, h => by
    unfold linC
    rw [addT_get (by rw [linC_len fun x hx => h x (by simp [hx]), h r (by simp)]), linC_get fun x hx => h x (by simp [hx])]
    simp
    omega
theorem linC_spn {n : Nat} {R : Mat} (hR : ∀ r ∈ R, r.length = n) : ∀ {cs : List Int} {rs : Mat}, (∀ r ∈ rs, r ∈ R) → Spn n R (linC n cs rs)
  | [], _, _ => by unfold linC; exact .zero
  | _ :: _, [], _ => by unfold linC; exact .zero
  | c :: cs, r :: rs, h => by
    unfold linC
    exact (linC_spn hR fun x hx => h x (by simp [hx])).add c (h r (by simp))
theorem linC_bd {n B M : Nat} : ∀ {cs : List Int} {rs : Mat}, (∀ c ∈ cs, c.natAbs ≤ B) → (∀ r ∈ rs, AllLe M r) → AllLe (cs.length * (B * M)) (linC n cs rs)
  | [], _, _, _ => fun x hx => by unfold linC at hx; rw [(List.mem_replicate.mp hx).2]; exact Nat.zero_le _
  | _ :: _, [], _, _ => fun x hx => by unfold linC at hx; rw [(List.mem_replicate.mp hx).2]; exact Nat.zero_le _
  | c :: cs, r :: rs, h1, h2 => by
    have ih := linC_bd (n := n) (cs := cs) (rs := rs) (fun x hx => h1 x (by simp [hx])) (fun x hx => h2 x (by simp [hx]))
    unfold linC
    refine (ih.add (h2 r (by simp)) (k := c)).mono ?_
    have : c.natAbs * M ≤ B * M := Nat.mul_le_mul_right _ (h1 c (by simp))
    rw [List.length_cons, Nat.add_mul]
    omega
theorem intsOf_map : ∀ l : List Int, intsOf (l.map .int) = some l := by
  intro l
  induction l with
  | nil => rfl
  | cons x l ih => simp only [List.map_cons, intsOf, ih]; rfl
theorem sum_l {l : List Int} {P : PyData → Prop} : sumW (.list (l.map .int)) P = P (.int l.sum) := by
  show (match intsOf (l.map .int) with | some ns => P (.int ns.sum) | none => False) = _
  rw [intsOf_map]
theorem list_of_get {l : List Int} {n : Nat} (h : l.length = n) : (List.range n).map (fun j => l.getD j 0) = l := by
  refine List.ext_getElem? fun i => ?_
  rw [List.getElem?_map]
  rcases Nat.lt_or_ge i n with hi | hi
  · rw [List.getElem?_range hi, List.getElem?_eq_getElem (by omega)]
    simp [List.getElem?_eq_getElem (show i < l.length by omega)]
  · rw [List.getElem?_eq_none (by simpa using hi), List.getElem?_eq_none (by omega)]
    rfl
theorem maxL_map : ∀ {l : List Int}, l ≠ [] → ∃ m, maxL l = some m ∧ m ∈ l ∧ ∀ y ∈ l, y ≤ m := by
  intro l hl
  have : ∃ m, maxL l = some m := by
    induction l with
    | nil => exact absurd rfl hl
    | cons a l ih => cases l with
      | nil => exact ⟨a, rfl⟩
      | cons b l =>
        obtain ⟨m, hm⟩ := ih (by simp)
        exact ⟨if m < a then a else m, by unfold maxL; rw [hm]; rfl⟩
  obtain ⟨m, hm⟩ := this
  exact ⟨m, hm, maxL_ok hm⟩
theorem max_l {l : List Int} {P : PyData → Prop} (hl : l ≠ []) (hp : ∀ m, m ∈ l → (∀ y ∈ l, y ≤ m) → P (.int m)) : maxSW (.list (l.map .int)) P := by
  obtain ⟨m, h1, h2, h3⟩ := maxL_map hl
  show (match (intsOf (l.map .int)).bind maxL with | some m => P (.int m) | none => False)
  rw [intsOf_map]
  show (match maxL l with | some m => P (.int m) | none => False)
  rw [h1]
  exact hp m h2 h3
theorem abs_list {a : List Int} {P : PyData → Prop} (hn : a ≠ []) (hz : a.length ≤ 1000) (hp : ∀ m : Int, (∀ x ∈ a, (x.natAbs : Int) ≤ m) → (∃ x ∈ a, m = (x.natAbs : Int)) → P (.int m)) : iterW (rowD a) fun ds => ds.length ≤ 1000000 ∧ lcW (fun x K => absW x fun v => K [v]) ds fun es => maxSW (PyData.list es) P := by
  rw [rowD, iter_t]
  refine ⟨by simp; omega, lc_map (h := fun x => .int (x.natAbs : Int)) (fun x hx K hK => by rw [abs_i]; exact hK) ?_⟩
  have e : a.map (fun x => PyData.int (x.natAbs : Int)) = (a.map fun x => (x.natAbs : Int)).map .int := by rw [List.map_map]; rfl
  rw [e]
  refine max_l (by simpa using hn) fun m h1 h2 => hp m (fun x hx => h2 _ (List.mem_map.mpr ⟨x, hx, rfl⟩)) ?_
  obtain ⟨x, hx, rfl⟩ := List.mem_map.mp h1
  exact ⟨x, hx, rfl⟩
theorem bd_set {M n i : Nat} {r : Mat} {l : List Int} (b : Bd M r) (h : BdL M l) : Bd M (r.set i l) := fun x hx => by
  rcases List.mem_or_eq_of_mem_set hx with hx | rfl
  · exact b x hx
  · exact h
theorem bdl_bp {B k : Nat} {l : List Int} (h : BdL B l) (hk : B < 2 ^ k) : BpL k l := fun x hx => Nat.lt_of_le_of_lt (h x hx) hk
theorem shv_row {w : List Int} (h : BdL 100000 w) (hl : w.length ≤ 3) : Shv (rowD w) := (vd_row (m := 0) (b := 3) h hl).shv (by decide) (by decide) (by decide)
theorem shv_two {w : List Int} (h : BdL 100000 w) (hl : w.length ≤ 3) : Shv (.list [rowD w, rowD w]) := (vd_lst.mpr (vdl_cons (vd_row (m := 0) (b := 3) h hl) (vdl_cons (vd_row (m := 0) (b := 3) h hl) (vdl_nil (b := 0))))).shv (by decide) (by decide) (by decide)
theorem shv_words {ws : List (List Int)} (h : ∀ w ∈ ws, BdL 100000 w ∧ w.length ≤ 3) (hl : ws.length ≤ 1000) : Shv (.tuple (ws.map rowD)) := (vd_mat (B := 100000) (m := 0) (n := 3) (b := 4000) (fun l hl => (h l hl).1) (fun l hl => (h l hl).2) (by omega)).shv (by decide) (by decide) (by decide)
theorem shv_int {i : Int} (h : i.natAbs ≤ 100000) : Shv (.int i) := (vd_int (m := 0) (b := 1) h).shv (by decide) (by decide) (by decide)
theorem dgs_same {n : Nat} {T T' : Mat} (t : Tri n T) (t' : Tri n T') (e : Same n T T') : dgs n T = dgs n T' := by
  unfold dgs
  exact List.map_congr_left fun i hi => t.diag t' e (List.mem_range.mp hi)
theorem max_t {l : List Int} {P : PyData → Prop} (hl : l ≠ []) (hp : ∀ m, m ∈ l → (∀ y ∈ l, y ≤ m) → P (.int m)) : maxSW (.tuple (l.map .int)) P := max_l hl hp
theorem row_inj {a b : List Int} (h : rowD a = rowD b) : a = b := by
  unfold rowD at h
  injection h with h
  have e := intsOf_map a
  rw [h, intsOf_map] at e
  injection e with e
  exact e.symm
end Kz
set_option Elab.async false
set_option linter.all false
set_option maxRecDepth 100000
set_option maxHeartbeats 4000000
/-! Kz: equal rows, equal tables -/
namespace Kz
open PySem PySem.Spec PyProof.Rows L2
structure Fl (m : Nat) (d : PyData) : Prop where
  h : d.hasDict = false
  c : d.canLay0 = true
  d : d.depth ≤ m
theorem Fl.mono {m k : Nat} {d : PyData} (h : Fl m d) (hk : m ≤ k) : Fl k d := ⟨h.h, h.c, Nat.le_trans h.d hk⟩
theorem fl_int {m : Nat} {i : Int} : Fl m (.int i) := ⟨rfl, rfl, Nat.zero_le _⟩
theorem fl_bool {m : Nat} {b : Bool} : Fl m (.bool b) := ⟨rfl, rfl, Nat.zero_le _⟩
theorem fl_none {m : Nat} : Fl m .none := ⟨rfl, rfl, Nat.zero_le _⟩
theorem fl_all {m : Nat} : ∀ {ds : List PyData}, (∀ d ∈ ds, Fl m d) → PyData.hasDictAll ds = false ∧ PyData.canLayAll0 ds = true ∧ PyData.depthAll ds ≤ m
  | [], _ => ⟨rfl, rfl, Nat.zero_le _⟩
  | d :: ds, h => by
    obtain ⟨a, b, c⟩ := fl_all fun x hx => h x (List.mem_cons_of_mem _ hx)
    have g := h d (List.mem_cons_self ..)
    refine ⟨?_, ?_, ?_⟩
    · show (d.hasDict || PyData.hasDictAll ds) = false
      rw [g.h, a]; rfl
    · show (d.canLay0 && PyData.canLayAll0 ds) = true
      rw [g.c, b]; rfl
    · show max d.depth (PyData.depthAll ds) ≤ m
      exact Nat.max_le.mpr ⟨g.d, c⟩
theorem fl_tup {m : Nat} {ds : List PyData} (h : ∀ d ∈ ds, Fl m d) : Fl (m + 1) (.tuple ds) := by
  obtain ⟨a, b, c⟩ := fl_all h
  exact ⟨a, b, Nat.succ_le_succ c⟩
theorem fl_lst {m : Nat} {ds : List PyData} (h : ∀ d ∈ ds, Fl m d) : Fl (m + 1) (.list ds) := by
  obtain ⟨a, b, c⟩ := fl_all h
  exact ⟨a, b, Nat.succ_le_succ c⟩
theorem fl_row {m : Nat} {l : List Int} : Fl (m + 1) (rowD l) := fl_tup fun d hd => by
  obtain ⟨i, _, rfl⟩ := List.mem_map.mp hd
  exact fl_int
theorem fl_mat {m : Nat} {r : Mat} : Fl (m + 2) (matD r) := fl_tup fun d hd => by
  obtain ⟨i, _, rfl⟩ := List.mem_map.mp hd
  exact fl_row
theorem eqOk_fl {d e : PyData} (h : Fl 64 d) (k : Fl 64 e) : eqOk d e = true := by
  have f : ∀ {x : PyData}, Fl 64 x → flatD x = true := fun {x} g => by
    unfold flatD
    rw [g.h, SeqAt.shaped.eq_1, g.c, decide_eq_true g.d]
    rfl
  unfold eqOk
  rw [f h, f k]
  rfl
theorem eqvAll_ints : ∀ (a b : List Int), PyData.eqvAll (a.map .int) (b.map .int) = decide (a = b)
  | [], [] => rfl
  | [], _ :: _ => rfl
  | _ :: _, [] => rfl
  | x :: a, y :: b => by
    show (PyData.eqv (.int x) (.int y) && PyData.eqvAll (a.map .int) (b.map .int)) = _
    rw [eqvAll_ints a b]
    show ((x == y) && decide (a = b)) = decide (x :: a = y :: b)
    by_cases h1 : x = y <;> by_cases h2 : a = b <;> simp [h1, h2]
theorem eqv_row (a b : List Int) : PyData.eqv (rowD a) (rowD b) = decide (a = b) := eqvAll_ints a b
theorem eqvAll_rows : ∀ (a b : Mat), PyData.eqvAll (a.map rowD) (b.map rowD) = decide (a = b)
  | [], [] => rfl
  | [], _ :: _ => rfl
  | _ :: _, [] => rfl
  | x :: a, y :: b => by
    show (PyData.eqv (rowD x) (rowD y) && PyData.eqvAll (a.map rowD) (b.map rowD)) = _
    rw [eqvAll_rows a b, eqv_row]
    by_cases h1 : x = y <;> by_cases h2 : a = b <;> simp [h1, h2]
theorem eqv_mat (a b : Mat) : PyData.eqv (matD a) (matD b) = decide (a = b) := eqvAll_rows a b
theorem ne_row {a b : List Int} {P : PyData → Prop} : neW (rowD a) (rowD b) P = P (.bool (!decide (a = b))) := propext ⟨fun h => by have := h.2; rwa [eqv_row] at this, fun h => ⟨eqOk_fl fl_row fl_row, by rw [eqv_row]; exact h⟩⟩
theorem eq_row {a b : List Int} {P : PyData → Prop} : eqW (rowD a) (rowD b) P = P (.bool (decide (a = b))) := propext ⟨fun h => by have := h.2; rwa [eqv_row] at this, fun h => ⟨eqOk_fl fl_row fl_row, by rw [eqv_row]; exact h⟩⟩
theorem ne_mat {a b : Mat} {P : PyData → Prop} : neW (matD a) (matD b) P = P (.bool (!decide (a = b))) := propext ⟨fun h => by have := h.2; rwa [eqv_mat] at this, fun h => ⟨eqOk_fl fl_mat fl_mat, by rw [eqv_mat]; exact h⟩⟩
theorem eq_mat {a b : Mat} {P : PyData → Prop} : eqW (matD a) (matD b) P = P (.bool (decide (a = b))) := propext ⟨fun h => by have := h.2; rwa [eqv_mat] at this, fun h => ⟨eqOk_fl fl_mat fl_mat, by rw [eqv_mat]; exact h⟩⟩
theorem ne_bb {a b : Bool} {P : PyData → Prop} : neW (.bool a) (.bool b) P = P (.bool (a != b)) := propext ⟨fun h => h.2, fun h => ⟨eqOk_fl fl_bool fl_bool, h⟩⟩
theorem eq_bb {a b : Bool} {P : PyData → Prop} : eqW (.bool a) (.bool b) P = P (.bool (a == b)) := propext ⟨fun h => h.2, fun h => ⟨eqOk_fl fl_bool fl_bool, h⟩⟩
end Kz
set_option Elab.async false
set_option linter.all false
set_option maxRecDepth 100000
set_option maxHeartbeats 4000000
/-! Kz: lots, orders, the adjoint -/
namespace Kz
open PySem PySem.Spec PyProof.Rows L2
theorem rngw_i {i : Int} {P : Int → Prop} : rngW (.int i) P = P i := rfl
theorem negT_len {x : List Int} : (negT x).length = x.length := by simp [negT]
/-- k times -/
abbrev mu (n : Nat) (k : Int) (x : List Int) : List Int := addT (zer n) x k
section
variable {n : Nat} {x y z u v : List Int} {k m : Int}
theorem mu_len (h : x.length = n) : (mu n k x).length = n := addT_len' (by simp) h
theorem mu_get {i : Nat} (h : x.length = n) : (mu n k x).getD i 0 = k * x.getD i 0 := by rw [addT_get (by simp [h]), zer_get, Int.zero_add]
theorem mu_mu (h : x.length = n) : mu n k (mu n m x) = mu n (k * m) x := by (refine vec_ext (by simp [addT_len, negT_len, *]) fun i => ?_; simp (disch := simp [addT_len, negT_len, *]) only [addT_get, zer_get, negT_get]; grind)
theorem mu_one (h : x.length = n) : mu n 1 x = x := zer_addT h
theorem mu_neg (h : x.length = n) : mu n k (negT x) = mu n (-k) x := by (refine vec_ext (by simp [addT_len, negT_len, *]) fun i => ?_; simp (disch := simp [addT_len, negT_len, *]) only [addT_get, zer_get, negT_get]; grind)
theorem mu_zer : mu n k (zer n) = zer n := by
  have h : (zer n).length = n := by simp
  (refine vec_ext (by simp [addT_len, negT_len, *]) fun i => ?_; simp (disch := simp [addT_len, negT_len, *]) only [addT_get, zer_get, negT_get]; grind)
end
/-- of one lot -/
def Cg (n : Nat) (R : Mat) (x y : List Int) : Prop := Spn n R (addT x y (-1))
section
variable {n : Nat} {R T : Mat} {x y z u v w : List Int} {k m : Int}
theorem cg_refl (h : x.length = n) : Cg n R x x := by
  have : addT x x (-1) = zer n := by (refine vec_ext (by simp [addT_len, negT_len, *]) fun i => ?_; simp (disch := simp [addT_len, negT_len, *]) only [addT_get, zer_get, negT_get]; grind)
  unfold Cg
  rw [this]; exact .zero
theorem cg_symm (hR : ∀ r ∈ R, r.length = n) (hx : x.length = n) (hy : y.length = n) (h : Cg n R x y) : Cg n R y x := by
  have e : addT y x (-1) = addT (zer n) (addT x y (-1)) (-1) := by (refine vec_ext (by simp [addT_len, negT_len, *]) fun i => ?_; simp (disch := simp [addT_len, negT_len, *]) only [addT_get, zer_get, negT_get]; grind)
  unfold Cg
  rw [e]
  exact Spn.sum hR .zero h (-1)
theorem cg_add (hR : ∀ r ∈ R, r.length = n) (hx : x.length = n) (hy : y.length = n) (hu : u.length = n) (hv : v.length = n) (h : Cg n R x y) (h' : Cg n R u v) (k : Int) : Cg n R (addT x u k) (addT y v k) := by
  have e : addT (addT x u k) (addT y v k) (-1) = addT (addT x y (-1)) (addT u v (-1)) k := by (refine vec_ext (by simp [addT_len, negT_len, *]) fun i => ?_; simp (disch := simp [addT_len, negT_len, *]) only [addT_get, zer_get, negT_get]; grind)
  unfold Cg
  rw [e]
  exact Spn.sum hR h h' k
theorem cg_trans (hR : ∀ r ∈ R, r.length = n) (hx : x.length = n) (hy : y.length = n) (hz : z.length = n) (h : Cg n R x y) (h' : Cg n R y z) : Cg n R x z := by
  have e : addT x z (-1) = addT (addT x y (-1)) (addT y z (-1)) 1 := by (refine vec_ext (by simp [addT_len, negT_len, *]) fun i => ?_; simp (disch := simp [addT_len, negT_len, *]) only [addT_get, zer_get, negT_get]; grind)
  unfold Cg
  rw [e]
  exact Spn.sum hR h h' 1
theorem cg_mu (hR : ∀ r ∈ R, r.length = n) (hx : x.length = n) (hy : y.length = n) (h : Cg n R x y) (k : Int) : Cg n R (mu n k x) (mu n k y) := cg_add hR (by simp) (by simp) hx hy (cg_refl (by simp)) h k
theorem cg_neg (hR : ∀ r ∈ R, r.length = n) (hx : x.length = n) (hy : y.length = n) (h : Cg n R x y) : Cg n R (negT x) (negT y) := by
  have := cg_mu hR hx hy h (-1)
  have e : ∀ {z : List Int}, z.length = n → mu n (-1) z = negT z := fun {z} hz => by (refine vec_ext (by simp [addT_len, negT_len, *]) fun i => ?_; simp (disch := simp [addT_len, negT_len, *]) only [addT_get, zer_get, negT_get]; grind)
  rwa [e hx, e hy] at this
theorem spn_cg (hR : ∀ r ∈ R, r.length = n) (hx : x.length = n) (hy : y.length = n) (h : Cg n R x y) : Spn n R x ↔ Spn n R y := by
  refine ⟨fun g => ?_, fun g => ?_⟩
  · have e : y = addT x (addT x y (-1)) (-1) := by (refine vec_ext (by simp [addT_len, negT_len, *]) fun i => ?_; simp (disch := simp [addT_len, negT_len, *]) only [addT_get, zer_get, negT_get]; grind)
    rw [e]
    exact Spn.sum hR g h (-1)
  · have e : x = addT y (addT x y (-1)) 1 := by (refine vec_ext (by simp [addT_len, negT_len, *]) fun i => ?_; simp (disch := simp [addT_len, negT_len, *]) only [addT_get, zer_get, negT_get]; grind)
    rw [e]
    exact Spn.sum hR g h 1
theorem Wd.cg (h : Wd n R T x w) : Cg n R x w := h.s
theorem Wd.of_cg (hR : ∀ r ∈ R, r.length = n) (hx : x.length = n) (hy : y.length = n) (h : Wd n R T x w) (e : Cg n R y x) : Wd n R T y w := ⟨h.l, cg_trans hR hy hx h.l e h.s, h.b⟩
theorem wd_zer (t : Tri n T) : Wd n R T (zer n) (zer n) := ⟨by simp, cg_refl (by simp), fun i hi => by rw [zer_get]; exact ⟨Int.le_refl 0, t.dg i hi⟩⟩
theorem Wd.zero_iff (h : Wd n R T x w) (t : Tri n T) (hR : ∀ r ∈ R, r.length = n) (hx : x.length = n) (e : Same n R T) : w = zer n ↔ Spn n R x := by
  refine ⟨fun g => ?_, fun g => ?_⟩
  · have := (spn_cg hR hx h.l h.cg).mpr (g ▸ .zero)
    exact this
  · refine Wd.uniq t hR hx e h ((wd_zer t).of_cg hR (by simp) hx ?_)
    have e2 : addT x (zer n) (-1) = x := by
      have h : (zer n).length = n := by simp
      (refine vec_ext (by simp [addT_len, negT_len, *]) fun i => ?_; simp (disch := simp [addT_len, negT_len, *]) only [addT_get, zer_get, negT_get]; grind)
    unfold Cg
    rw [e2]
    exact g
end
/-- how often laid upon itself it comes to noughts -/
structure Ord (n : Nat) (R : Mat) (x : List Int) (o : Nat) : Prop where
  pos : 0 < o
  iff : ∀ k : Int, Spn n R (mu n k x) ↔ (o : Int) ∣ k
section
variable {n : Nat} {R T : Mat} {x y z u v w : List Int} {k m : Int} {o p : Nat}
theorem Ord.uniq (h : Ord n R x o) (h' : Ord n R x p) : o = p := by
  have a := (h.iff p).mp ((h'.iff p).mpr (Int.dvd_refl _))
  have b := (h'.iff o).mp ((h.iff o).mpr (Int.dvd_refl _))
  exact Nat.dvd_antisymm (Int.natCast_dvd_natCast.mp a) (Int.natCast_dvd_natCast.mp b)
theorem Ord.cg (hR : ∀ r ∈ R, r.length = n) (hx : x.length = n) (hy : y.length = n) (h : Ord n R x o) (c : Cg n R x y) : Ord n R y o := ⟨h.pos, fun k => by rw [← spn_cg hR (mu_len hx) (mu_len hy) (cg_mu hR hx hy c k)]; exact h.iff k⟩
theorem Ord.neg (hx : x.length = n) (h : Ord n R x o) : Ord n R (negT x) o := ⟨h.pos, fun k => by rw [mu_neg hx, h.iff, Int.dvd_neg]⟩
theorem Ord.mul (hx : x.length = n) {m : Nat} (hm : 0 < m) (h : Ord n R x (m * o)) : Ord n R (mu n m x) o := ⟨Nat.pos_of_ne_zero fun e => by have := h.pos; rw [e] at this; omega, fun k => by
  rw [mu_mu hx, h.iff, Int.mul_comm k, Int.natCast_mul]
  exact Int.mul_dvd_mul_iff_left (by omega)⟩
end
/-! ### the adjoint -/
def adjM : Mat → Mat
  | [[_]] => [[1]]
  | [[a, b], [c, d]] => [[d, -b], [-c, a]]
  | [[a, b, c], [d, e, f], [g, h, i]] => [[e * i - f * h, -(b * i - c * h), b * f - c * e], [-(d * i - f * g), a * i - c * g, -(a * f - c * d)], [d * h - e * g, -(a * h - b * g), a * e - b * d]]
  | _ => []
section
variable {n : Nat} {r : Mat} {x y : List Int} {k : Int}
theorem adj_sq (s : Sq n r) (h1 : 1 ≤ n) (h3 : n ≤ 3) : Sq n (adjM r) := by
  rcases n123 h1 h3 with rfl | rfl | rfl
  · obtain ⟨a, rfl⟩ := s.one; exact ⟨rfl, by simp [adjM]⟩
  · obtain ⟨a, b, c, d, rfl⟩ := s.two; exact ⟨rfl, by simp [adjM]⟩
  · obtain ⟨a, b, c, d, e, f, g, h, i, rfl⟩ := s.three; exact ⟨rfl, by simp [adjM]⟩
theorem lin1 {x a : Int} : linC 1 [x] [[a]] = [x * a] := by simp [linC, addT, zer]
theorem lin2 {x y a b c d : Int} : linC 2 [x, y] [[a, b], [c, d]] = [x * a + y * c, x * b + y * d] := by simp [linC, addT, zer]; grind
theorem lin3 {x y z a b c d e f g h i : Int} : linC 3 [x, y, z] [[a, b, c], [d, e, f], [g, h, i]] = [x * a + y * d + z * g, x * b + y * e + z * h, x * c + y * f + z * i] := by simp [linC, addT, zer]; grind
theorem linC_add (s : Sq n r) (h1 : 1 ≤ n) (h3 : n ≤ 3) (hx : x.length = n) (hy : y.length = n) : linC n (addT x y k) r = addT (linC n x r) (linC n y r) k := by
  rcases n123 h1 h3 with rfl | rfl | rfl
  · obtain ⟨a, rfl⟩ := s.one
    obtain ⟨p, rfl⟩ := len1 hx
    obtain ⟨q, rfl⟩ := len1 hy
    simp only [addT, List.zipWith, lin1]; grind
  · obtain ⟨a, b, c, d, rfl⟩ := s.two
    obtain ⟨p, p', rfl⟩ := len2 hx
    obtain ⟨q, q', rfl⟩ := len2 hy
    simp only [addT, List.zipWith, lin2]; grind
  · obtain ⟨a, b, c, d, e, f, g, h, i, rfl⟩ := s.three
    obtain ⟨p, p', p'', rfl⟩ := len3 hx
    obtain ⟨q, q', q'', rfl⟩ := len3 hy
    simp only [addT, List.zipWith, lin3]; grind
theorem linC_zer (s : Sq n r) (h1 : 1 ≤ n) (h3 : n ≤ 3) : linC n (zer n) r = zer n := by
  rcases n123 h1 h3 with rfl | rfl | rfl
  · obtain ⟨a, rfl⟩ := s.one
    show linC 1 [0] _ = [0]
    rw [lin1]; simp
  · obtain ⟨a, b, c, d, rfl⟩ := s.two
    show linC 2 [0, 0] _ = [0, 0]
    rw [lin2]; simp
  · obtain ⟨a, b, c, d, e, f, g, h, i, rfl⟩ := s.three
    show linC 3 [0, 0, 0] _ = [0, 0, 0]
    rw [lin3]; simp
/-- the numbers of a place, told by the adjoint -/
def qv (n : Nat) (r : Mat) (x : List Int) : List Int := linC n x (adjM r)
theorem qv_len (s : Sq n r) (h1 : 1 ≤ n) (h3 : n ≤ 3) : (qv n r x).length = n := linC_len (adj_sq s h1 h3).w
theorem qv_mu (s : Sq n r) (h1 : 1 ≤ n) (h3 : n ≤ 3) (hx : x.length = n) : qv n r (mu n k x) = mu n k (qv n r x) := by
  unfold qv
  rw [linC_add (adj_sq s h1 h3) h1 h3 (by simp) hx, linC_zer (adj_sq s h1 h3) h1 h3]
theorem q_row (s : Sq n r) (h1 : 1 ≤ n) (h3 : n ≤ 3) {l : List Int} (hl : l ∈ r) (j : Nat) : dt r ∣ (qv n r l).getD j 0 := by
  have key : ∀ {ds : List Int} {d : Int}, (∀ z ∈ ds, d ∣ z) → d ∣ ds.getD j 0 := fun {ds d} h => by
    rcases Nat.lt_or_ge j ds.length with hj | hj
    · exact h _ (getD_mem hj)
    · rw [List.getD_eq_getElem?_getD, List.getElem?_eq_none hj]
      exact Int.dvd_zero _
  refine key ?_
  rcases n123 h1 h3 with rfl | rfl | rfl
  · obtain ⟨a, rfl⟩ := s.one
    simp only [List.mem_cons, List.not_mem_nil, or_false] at hl
    subst hl
    simp only [qv, adjM, lin1, dt, List.mem_cons, List.not_mem_nil, or_false, forall_eq]
    exact ⟨1, by grind⟩
  · obtain ⟨a, b, c, d, rfl⟩ := s.two
    simp only [List.mem_cons, List.not_mem_nil, or_false] at hl
    rcases hl with rfl | rfl <;> simp only [qv, adjM, lin2, dt, List.mem_cons, List.not_mem_nil, or_false, forall_eq_or_imp, forall_eq]
    · exact ⟨⟨1, by grind⟩, ⟨0, by grind⟩⟩
    · exact ⟨⟨0, by grind⟩, ⟨1, by grind⟩⟩
  · obtain ⟨a, b, c, d, e, f, g, h, i, rfl⟩ := s.three
    simp only [List.mem_cons, List.not_mem_nil, or_false] at hl
    rcases hl with rfl | rfl | rfl <;> simp only [qv, adjM, lin3, dt, List.mem_cons, List.not_mem_nil, or_false, forall_eq_or_imp, forall_eq]
    · exact ⟨⟨1, by grind⟩, ⟨0, by grind⟩, ⟨0, by grind⟩⟩
    · exact ⟨⟨0, by grind⟩, ⟨1, by grind⟩, ⟨0, by grind⟩⟩
    · exact ⟨⟨0, by grind⟩, ⟨0, by grind⟩, ⟨1, by grind⟩⟩
theorem q_back (s : Sq n r) (h1 : 1 ≤ n) (h3 : n ≤ 3) (hx : x.length = n) : linC n (qv n r x) r = mu n (dt r) x := by
  rcases n123 h1 h3 with rfl | rfl | rfl
  · obtain ⟨a, rfl⟩ := s.one
    obtain ⟨p, rfl⟩ := len1 hx
    show _ = [0 + _]
    simp only [qv, adjM, lin1, dt]; grind
  · obtain ⟨a, b, c, d, rfl⟩ := s.two
    obtain ⟨p, p', rfl⟩ := len2 hx
    show _ = [0 + _, 0 + _]
    simp only [qv, adjM, lin2, dt]; grind
  · obtain ⟨a, b, c, d, e, f, g, h, i, rfl⟩ := s.three
    obtain ⟨p, p', p'', rfl⟩ := len3 hx
    show _ = [0 + _, 0 + _, 0 + _]
    simp only [qv, adjM, lin3, dt]; grind
/-- a coarse place: the determinant divides all that the adjoint tells -/
theorem spn_iff (s : Sq n r) (h1 : 1 ≤ n) (h3 : n ≤ 3) (hd : dt r ≠ 0) (hx : x.length = n) : Spn n r x ↔ ∀ j, dt r ∣ (qv n r x).getD j 0 := by
  refine ⟨fun h => ?_, fun h => ?_⟩
  · clear hx
    induction h with
    | zero => intro j; unfold qv; rw [linC_zer (adj_sq s h1 h3) h1 h3, zer_get]; exact Int.dvd_zero _
    | add k h hl ih =>
      intro j
      rw [qv, linC_add (adj_sq s h1 h3) h1 h3 (h.len s.w) (s.w _ hl), addT_get (by rw [linC_len (adj_sq s h1 h3).w, linC_len (adj_sq s h1 h3).w])]
      exact Int.dvd_add (ih j) (Int.dvd_mul_of_dvd_right (q_row s h1 h3 hl j))
  · have lq := qv_len (x := x) s h1 h3
    have lc : ((qv n r x).map (· / dt r)).length = n := by simp [lq]
    have e1 : mu n (dt r) ((qv n r x).map (· / dt r)) = qv n r x := vec_ext (by rw [mu_len lc, lq]) fun i => by
      rw [mu_get lc]
      have : ((qv n r x).map (· / dt r)).getD i 0 = (qv n r x).getD i 0 / dt r := by
        rw [List.getD_eq_getElem?_getD, List.getElem?_map, List.getD_eq_getElem?_getD]
        cases (qv n r x)[i]? <;> simp
      rw [this]
      exact Int.mul_ediv_cancel' (h i)
    have e2 : x = linC n ((qv n r x).map (· / dt r)) r := vec_ext (by rw [linC_len s.w, hx]) fun i => by
      have := q_back s h1 h3 hx
      rw [← e1, linC_add s h1 h3 (by simp) lc, linC_zer s h1 h3] at this
      have g := congrArg (·.getD i 0) this
      simp only [mu_get hx] at g
      rw [addT_get (by rw [linC_len s.w]; simp), zer_get, Int.zero_add] at g
      exact (Int.eq_of_mul_eq_mul_left hd g).symm
    rw [e2]
    exact linC_spn s.w fun _ h => h
end
/-! ### orders -/
def gcdL (a : Nat) (l : List Int) : Nat := l.foldl (fun g t => Nat.gcd g t.natAbs) a
theorem gcdL_iff {m K : Nat} : ∀ {l : List Int} {a : Nat}, m ∣ K * gcdL a l ↔ m ∣ K * a ∧ ∀ t ∈ l, m ∣ K * t.natAbs
  | [], a => by simp [gcdL]
  | t :: l, a => by
    show m ∣ K * gcdL (Nat.gcd a t.natAbs) l ↔ _
    rw [gcdL_iff, ← Nat.gcd_mul_left, Nat.dvd_gcd_iff]
    simp only [List.mem_cons, forall_eq_or_imp]
    exact and_assoc
theorem gcdL_dvd {a : Nat} {l : List Int} : gcdL a l ∣ a ∧ ∀ t ∈ l, gcdL a l ∣ t.natAbs := by
  have := (gcdL_iff (m := gcdL a l) (K := 1) (l := l) (a := a)).mp (by rw [Nat.one_mul]; exact Nat.dvd_refl _)
  simpa using this
section
variable {n : Nat} {r : Mat} {x y : List Int} {k : Int}
theorem ord_q (s : Sq n r) (h1 : 1 ≤ n) (h3 : n ≤ 3) (hd : dt r ≠ 0) (hx : x.length = n) : Ord n r x ((dt r).natAbs / gcdL (dt r).natAbs (qv n r x)) := by
  have hD : 0 < (dt r).natAbs := by omega
  obtain ⟨g1, g2⟩ := gcdL_dvd (a := (dt r).natAbs) (l := qv n r x)
  have gp : 0 < gcdL (dt r).natAbs (qv n r x) := Nat.pos_of_dvd_of_pos g1 hD
  refine ⟨Nat.div_pos (Nat.le_of_dvd hD g1) gp, fun k => ?_⟩
  rw [spn_iff s h1 h3 hd (mu_len hx), qv_mu s h1 h3 hx]
  have lq := qv_len (x := x) s h1 h3
  have e1 : (∀ j, dt r ∣ (mu n k (qv n r x)).getD j 0) ↔ ∀ t ∈ qv n r x, (dt r).natAbs ∣ k.natAbs * t.natAbs := by
    refine ⟨fun h t ht => ?_, fun h j => ?_⟩
    · obtain ⟨i, hi, rfl⟩ := mem_getD0 ht
      have := h i
      rw [mu_get lq] at this
      rw [← Int.natAbs_mul]
      exact Int.natAbs_dvd_natAbs.mpr this
    · rw [mu_get lq]
      rcases Nat.lt_or_ge j (qv n r x).length with hj | hj
      · refine Int.natAbs_dvd_natAbs.mp ?_
        rw [Int.natAbs_mul]
        exact h _ (getD_mem hj)
      · rw [List.getD_eq_getElem?_getD, List.getElem?_eq_none hj]
        simp
  rw [e1]
  have e2 := gcdL_iff (m := (dt r).natAbs) (K := k.natAbs) (l := qv n r x) (a := (dt r).natAbs)
  have e3 : (dt r).natAbs ∣ k.natAbs * (dt r).natAbs := Nat.dvd_mul_left ..
  rw [show (∀ t ∈ qv n r x, (dt r).natAbs ∣ k.natAbs * t.natAbs) ↔ (dt r).natAbs ∣ k.natAbs * gcdL (dt r).natAbs (qv n r x) from ⟨fun h => e2.mpr ⟨e3, h⟩, fun h => (e2.mp h).2⟩]
  obtain ⟨q, hq⟩ := g1
  have e4 : (dt r).natAbs / gcdL (dt r).natAbs (qv n r x) = q := by
    rw [Nat.div_eq_iff_eq_mul_right gp ⟨q, hq⟩]; exact hq
  rw [e4, ← Int.natAbs_dvd_natAbs, Int.natAbs_natCast]
  generalize gcdL (dt r).natAbs (qv n r x) = g at *
  rw [hq, Nat.mul_comm k.natAbs]
  exact Nat.mul_dvd_mul_iff_left gp
end
end Kz
set_option Elab.async false
set_option linter.all false
set_option maxRecDepth 100000
set_option maxHeartbeats 4000000
/-! Kz: forms -/
namespace Kz
theorem sqP {x : Int} (h : x ≠ 0) : 0 < x * x := by
  rcases Int.lt_or_gt_of_ne h with z | z
  · exact Int.mul_pos_of_neg_of_neg z z
  · exact Int.mul_pos z z
theorem sqN (x : Int) : 0 ≤ x * x := by
  by_cases h : x = 0
  · rw [h]; decide
  · exact Int.le_of_lt (sqP h)
theorem of_mul {a b : Int} (ha : 0 < a) (h : 0 < a * b) : 0 < b := by
  rcases Int.lt_or_le 0 b with z | z
  · exact z
  · have := Int.mul_le_mul_of_nonneg_left z (Int.le_of_lt ha)
    rw [Int.mul_zero] at this
    omega
theorem mulN {a b : Int} (ha : 0 ≤ a) (hb : 0 ≤ b) : 0 ≤ a * b := Int.mul_nonneg ha hb
theorem pos2 {a b d x y : Int} (ha : 0 < a) (hD : 0 < a * d - b * b) (h : x ≠ 0 ∨ y ≠ 0) : 0 < a * x * x + 2 * b * x * y + d * y * y := by
  refine of_mul ha ?_
  have e : a * (a * x * x + 2 * b * x * y + d * y * y) = (a * x + b * y) * (a * x + b * y) + (a * d - b * b) * (y * y) := by grind
  rw [e]
  by_cases hy : y = 0
  · have hx : x ≠ 0 := h.resolve_right fun z => z hy
    subst hy
    have := sqP (x := a * x) (Int.mul_ne_zero (by omega) hx)
    simpa using this
  · have h1 := sqN (a * x + b * y)
    have h2 := Int.mul_pos hD (sqP hy)
    omega
theorem pos3 {a b c e f i x y z : Int} (ha : 0 < a) (hm : 0 < a * e - b * b) (hD : 0 < a * (e * i - f * f) - b * (b * i - f * c) + c * (b * f - e * c)) (h : x ≠ 0 ∨ y ≠ 0 ∨ z ≠ 0) :
    0 < a * x * x + e * y * y + i * z * z + 2 * b * x * y + 2 * c * x * z + 2 * f * y * z := by
  refine of_mul (Int.mul_pos ha hm) ?_
  have e1 : a * (a * e - b * b) * (a * x * x + e * y * y + i * z * z + 2 * b * x * y + 2 * c * x * z + 2 * f * y * z) =
      (a * e - b * b) * ((a * x + b * y + c * z) * (a * x + b * y + c * z)) + ((a * e - b * b) * y + (a * f - b * c) * z) * ((a * e - b * b) * y + (a * f - b * c) * z) + a * (a * (e * i - f * f) - b * (b * i - f * c) + c * (b * f - e * c)) * (z * z) := by grind
  rw [e1]
  have q1 := mulN (Int.le_of_lt hm) (sqN (a * x + b * y + c * z))
  have q2 := sqN ((a * e - b * b) * y + (a * f - b * c) * z)
  by_cases hz : z = 0
  · subst hz
    by_cases hy : y = 0
    · subst hy
      have hx : x ≠ 0 := h.resolve_right (by simp)
      have := Int.mul_pos hm (sqP (x := a * x) (Int.mul_ne_zero (by omega) hx))
      simpa using this
    · have q3 := sqP (x := (a * e - b * b) * y) (Int.mul_ne_zero (by omega) hy)
      simp at q1 q2 q3 ⊢
      omega
  · have q3 := Int.mul_pos (Int.mul_pos ha hD) (sqP hz)
    omega
def dotI (a b : List Int) : Int := (List.zipWith (· * ·) a b).sum
def lean (t : Mat) (x y : List Int) : Int := (List.zipWith (fun row a => a * dotI row y) t x).sum
def leans (t c : Mat) : Mat := c.map fun one => c.map fun other => lean t one other
def pdB : Mat → Bool
  | [[a]] => decide (0 < a)
  | [[a, b], [c, d]] => decide (b = c) && (decide (0 < a) && decide (0 < a * d - b * c))
  | [[a, b, c], [d, e, f], [g, h, i]] => decide (b = d ∧ c = g ∧ f = h) && (decide (0 < a) && (decide (0 < a * e - b * d) && decide (0 < a * (e * i - f * h) - b * (d * i - f * g) + c * (d * h - e * g))))
  | _ => false
structure Pd (n : Nat) (r : Mat) : Prop where
  s : Sq n r
  lo : 1 ≤ n
  hi : n ≤ 3
  p : pdB r = true
theorem Pd.mk1 {a : Int} (h : 0 < a) : Pd 1 [[a]] := ⟨⟨rfl, by simp⟩, by decide, by decide, by simpa [pdB] using h⟩
theorem Pd.mk2 {a b d : Int} (h1 : 0 < a) (h2 : 0 < a * d - b * b) : Pd 2 [[a, b], [b, d]] := ⟨⟨rfl, by simp⟩, by decide, by decide, by simp [pdB, h1]; omega⟩
theorem Pd.mk3 {a b c e f i : Int} (h1 : 0 < a) (h2 : 0 < a * e - b * b) (h3 : 0 < a * (e * i - f * f) - b * (b * i - f * c) + c * (b * f - e * c)) : Pd 3 [[a, b, c], [b, e, f], [c, f, i]] := ⟨⟨rfl, by simp⟩, by decide, by decide, by simp only [pdB, Bool.and_eq_true, decide_eq_true_eq]; simp only [and_self, true_and]; exact ⟨h1, h2, h3⟩⟩
theorem Pd.one {r : Mat} (f : Pd 1 r) : ∃ a, r = [[a]] ∧ 0 < a := by
  obtain ⟨a, rfl⟩ := f.s.one
  exact ⟨a, rfl, by simpa [pdB] using f.p⟩
theorem Pd.two {r : Mat} (f : Pd 2 r) : ∃ a b d, r = [[a, b], [b, d]] ∧ 0 < a ∧ 0 < a * d - b * b := by
  obtain ⟨a, b, c, d, rfl⟩ := f.s.two
  have h := f.p
  simp only [pdB, Bool.and_eq_true, decide_eq_true_eq] at h
  obtain ⟨rfl, h1, h2⟩ := h
  exact ⟨a, b, d, rfl, h1, h2⟩
theorem Pd.three {r : Mat} (f : Pd 3 r) : ∃ a b c e f i, r = [[a, b, c], [b, e, f], [c, f, i]] ∧ 0 < a ∧ 0 < a * e - b * b ∧ 0 < a * (e * i - f * f) - b * (b * i - f * c) + c * (b * f - e * c) := by
  obtain ⟨a, b, c, d, e, g, h, k, i, rfl⟩ := f.s.three
  have q := f.p
  simp only [pdB, Bool.and_eq_true, decide_eq_true_eq] at q
  obtain ⟨⟨rfl, rfl, rfl⟩, h1, h2, h3⟩ := q
  exact ⟨a, b, c, e, g, i, rfl, h1, h2, h3⟩
theorem lean_1 {a x y : Int} : lean [[a]] [x] [y] = x * (a * y) := by simp [lean, dotI]
theorem lean_2 {a b c d x x' y y' : Int} : lean [[a, b], [c, d]] [x, x'] [y, y'] = x * (a * y + b * y') + x' * (c * y + d * y') := by simp [lean, dotI]
theorem lean_3 {a b c d e f g h i x x' x2 y y' y2 : Int} : lean [[a, b, c], [d, e, f], [g, h, i]] [x, x', x2] [y, y', y2] = x * (a * y + b * y' + c * y2) + x' * (d * y + e * y' + f * y2) + x2 * (g * y + h * y' + i * y2) := by simp [lean, dotI]; grind
theorem form_ch1 {r c : Mat} (f : Pd 1 r) (s : Sq 1 c) (hd0 : dt c ≠ 0) : Pd 1 (leans r c) := by
  obtain ⟨a, rfl, ha⟩ := f.one
  obtain ⟨u, rfl⟩ := s.one
  have hu : u ≠ 0 := hd0
  have e : leans [[a]] [[u]] = [[a * (u * u)]] := by simp [leans, lean, dotI]; grind
  rw [e]
  exact Pd.mk1 (Int.mul_pos ha (sqP hu))
theorem form_ch2 {r c : Mat} (f : Pd 2 r) (sc : Sq 2 c) (hd0 : dt c ≠ 0) : Pd 2 (leans r c) := by
  obtain ⟨a, b, d, rfl, ha, hD⟩ := f.two
  obtain ⟨p, q, s, t, rfl⟩ := sc.two
  have hd : p * t - q * s ≠ 0 := hd0
  have e : leans [[a, b], [b, d]] [[p, q], [s, t]] = [[a * p * p + 2 * b * p * q + d * q * q, a * p * s + b * (p * t + q * s) + d * q * t], [a * p * s + b * (p * t + q * s) + d * q * t, a * s * s + 2 * b * s * t + d * t * t]] := by simp [leans, lean, dotI]; grind
  rw [e]
  refine Pd.mk2 (pos2 ha hD ?_) ?_
  · by_cases z : p = 0
    · right
      intro w
      exact hd (by rw [z, w]; simp)
    · exact .inl z
  · have := Int.mul_pos hD (sqP hd)
    have e2 : (a * p * p + 2 * b * p * q + d * q * q) * (a * s * s + 2 * b * s * t + d * t * t) - (a * p * s + b * (p * t + q * s) + d * q * t) * (a * p * s + b * (p * t + q * s) + d * q * t) = (a * d - b * b) * ((p * t - q * s) * (p * t - q * s)) := by grind
    rw [e2]; exact this
def bq (a b c e f i x y z x' y' z' : Int) : Int := a * x * x' + e * y * y' + i * z * z' + b * (x * y' + y * x') + c * (x * z' + z * x') + f * (y * z' + z * y')
theorem bq_self (a b c e f i x y z : Int) : bq a b c e f i x y z x y z = a * x * x + e * y * y + i * z * z + 2 * b * x * y + 2 * c * x * z + 2 * f * y * z := by unfold bq; grind
theorem det_mul3 (a b c d e f g h i a' b' c' d' e' f' g' h' i' : Int) :
    (a * a' + b * d' + c * g') * ((d * b' + e * e' + f * h') * (g * c' + h * f' + i * i') - (d * c' + e * f' + f * i') * (g * b' + h * e' + i * h')) - (a * b' + b * e' + c * h') * ((d * a' + e * d' + f * g') * (g * c' + h * f' + i * i') - (d * c' + e * f' + f * i') * (g * a' + h * d' + i * g')) + (a * c' + b * f' + c * i') * ((d * a' + e * d' + f * g') * (g * b' + h * e' + i * h') - (d * b' + e * e' + f * h') * (g * a' + h * d' + i * g')) =
    (a * (e * i - f * h) - b * (d * i - f * g) + c * (d * h - e * g)) * (a' * (e' * i' - f' * h') - b' * (d' * i' - f' * g') + c' * (d' * h' - e' * g')) := by grind
theorem minor3 (a b c e f i x y z x' y' z' : Int) : bq a b c e f i x y z x y z * bq a b c e f i x' y' z' x' y' z' - bq a b c e f i x y z x' y' z' * bq a b c e f i x y z x' y' z' =
    (a * e - b * b) * (x * y' - y * x') * (x * y' - y * x') + (a * i - c * c) * (z * x' - x * z') * (z * x' - x * z') + (e * i - f * f) * (y * z' - z * y') * (y * z' - z * y') + 2 * (b * c - a * f) * (x * y' - y * x') * (z * x' - x * z') + 2 * (b * f - c * e) * (x * y' - y * x') * (y * z' - z * y') + 2 * (c * f - b * i) * (z * x' - x * z') * (y * z' - z * y') := by unfold bq; grind
theorem form_ch3 {r c : Mat} (f : Pd 3 r) (s : Sq 3 c) (hd0 : dt c ≠ 0) : Pd 3 (leans r c) := by
  obtain ⟨a, b, c', e, f', i, rfl, ha, hm, hD⟩ := f.three
  obtain ⟨x, y, z, x', y', z', x2, y2, z2, rfl⟩ := s.three
  have hd : x * (y' * z2 - z' * y2) - y * (x' * z2 - z' * x2) + z * (x' * y2 - y' * x2) ≠ 0 := hd0
  have e0 : leans [[a, b, c'], [b, e, f'], [c', f', i]] [[x, y, z], [x', y', z'], [x2, y2, z2]] = [[bq a b c' e f' i x y z x y z, bq a b c' e f' i x y z x' y' z', bq a b c' e f' i x y z x2 y2 z2], [bq a b c' e f' i x y z x' y' z', bq a b c' e f' i x' y' z' x' y' z', bq a b c' e f' i x' y' z' x2 y2 z2], [bq a b c' e f' i x y z x2 y2 z2, bq a b c' e f' i x' y' z' x2 y2 z2, bq a b c' e f' i x2 y2 z2 x2 y2 z2]] := by
    simp only [leans, lean, dotI, List.map_cons, List.map_nil, List.zipWith_cons_cons, List.zipWith_nil_left, List.zipWith_nil_right, List.sum_cons, List.sum_nil, bq, List.cons.injEq, and_true]
    refine ⟨⟨?_, ?_, ?_⟩, ⟨?_, ?_, ?_⟩, ?_, ?_, ?_⟩ <;> grind
  rw [e0]
  refine Pd.mk3 ?_ ?_ ?_
  · rw [bq_self]
    refine pos3 ha hm hD ?_
    by_cases q1 : x = 0
    · by_cases q2 : y = 0
      · refine .inr (.inr fun q3 => hd ?_)
        rw [q1, q2, q3]; simp
      · exact .inr (.inl q2)
    · exact .inl q1
  · rw [minor3]
    have k2 : (a * e - b * b) * (a * i - c' * c') - (b * c' - a * f') * (b * c' - a * f') = a * (a * (e * i - f' * f') - b * (b * i - f' * c') + c' * (b * f' - e * c')) := by grind
    have k3 : (a * e - b * b) * ((a * i - c' * c') * (e * i - f' * f') - (c' * f' - b * i) * (c' * f' - b * i)) - (b * c' - a * f') * ((b * c' - a * f') * (e * i - f' * f') - (c' * f' - b * i) * (b * f' - c' * e)) + (b * f' - c' * e) * ((b * c' - a * f') * (c' * f' - b * i) - (a * i - c' * c') * (b * f' - c' * e)) = (a * (e * i - f' * f') - b * (b * i - f' * c') + c' * (b * f' - e * c')) * (a * (e * i - f' * f') - b * (b * i - f' * c') + c' * (b * f' - e * c')) := by grind
    refine pos3 hm (by rw [k2]; exact Int.mul_pos ha hD) (by rw [k3]; exact Int.mul_pos hD hD) ?_
    by_cases q1 : x * y' - y * x' = 0
    · by_cases q2 : z * x' - x * z' = 0
      · refine .inr (.inr fun q3 => hd ?_)
        have : x * (y' * z2 - z' * y2) - y * (x' * z2 - z' * x2) + z * (x' * y2 - y' * x2) = (y * z' - z * y') * x2 + (z * x' - x * z') * y2 + (x * y' - y * x') * z2 := by grind
        rw [this, q1, q2, q3]; simp
      · exact .inr (.inl q2)
    · exact .inl q1
  · have k1 := det_mul3 x y z x' y' z' x2 y2 z2 (a * x + b * y + c' * z) (a * x' + b * y' + c' * z') (a * x2 + b * y2 + c' * z2) (b * x + e * y + f' * z) (b * x' + e * y' + f' * z') (b * x2 + e * y2 + f' * z2) (c' * x + f' * y + i * z) (c' * x' + f' * y' + i * z') (c' * x2 + f' * y2 + i * z2)
    have k2 := det_mul3 a b c' b e f' c' f' i x x' x2 y y' y2 z z' z2
    rw [k2] at k1
    have g : ∀ p q r s t u : Int, bq a b c' e f' i p q r s t u = p * (a * s + b * t + c' * u) + q * (b * s + e * t + f' * u) + r * (c' * s + f' * t + i * u) := fun p q r s t u => by unfold bq; grind
    have g2 : ∀ p q r s t u : Int, bq a b c' e f' i p q r s t u = s * (a * p + b * q + c' * r) + t * (b * p + e * q + f' * r) + u * (c' * p + f' * q + i * r) := fun p q r s t u => by unfold bq; grind
    have key : bq a b c' e f' i x y z x y z * (bq a b c' e f' i x' y' z' x' y' z' * bq a b c' e f' i x2 y2 z2 x2 y2 z2 - bq a b c' e f' i x' y' z' x2 y2 z2 * bq a b c' e f' i x' y' z' x2 y2 z2) - bq a b c' e f' i x y z x' y' z' * (bq a b c' e f' i x y z x' y' z' * bq a b c' e f' i x2 y2 z2 x2 y2 z2 - bq a b c' e f' i x' y' z' x2 y2 z2 * bq a b c' e f' i x y z x2 y2 z2) + bq a b c' e f' i x y z x2 y2 z2 * (bq a b c' e f' i x y z x' y' z' * bq a b c' e f' i x' y' z' x2 y2 z2 - bq a b c' e f' i x' y' z' x' y' z' * bq a b c' e f' i x y z x2 y2 z2) =
        (x * (y' * z2 - z' * y2) - y * (x' * z2 - z' * x2) + z * (x' * y2 - y' * x2)) * ((a * (e * i - f' * f') - b * (b * i - f' * c') + c' * (b * f' - e * c')) * (x * (y' * z2 - y2 * z') - x' * (y * z2 - y2 * z) + x2 * (y * z' - y' * z))) := by
      rw [← k1, ← g x y z x y z, ← g x y z x' y' z', ← g x y z x2 y2 z2, ← g x' y' z' x' y' z', ← g x' y' z' x2 y2 z2, ← g x2 y2 z2 x2 y2 z2, ← g x' y' z' x y z, ← g x2 y2 z2 x y z, ← g x2 y2 z2 x' y' z']
      have s1 : bq a b c' e f' i x' y' z' x y z = bq a b c' e f' i x y z x' y' z' := by unfold bq; grind
      have s2 : bq a b c' e f' i x2 y2 z2 x y z = bq a b c' e f' i x y z x2 y2 z2 := by unfold bq; grind
      have s3 : bq a b c' e f' i x2 y2 z2 x' y' z' = bq a b c' e f' i x' y' z' x2 y2 z2 := by unfold bq; grind
      rw [s1, s2, s3]
    rw [key]
    have e3 : x * (y' * z2 - y2 * z') - x' * (y * z2 - y2 * z) + x2 * (y * z' - y' * z) = x * (y' * z2 - z' * y2) - y * (x' * z2 - z' * x2) + z * (x' * y2 - y' * x2) := by grind
    rw [e3]
    have := Int.mul_pos hD (sqP hd)
    generalize x * (y' * z2 - z' * y2) - y * (x' * z2 - z' * x2) + z * (x' * y2 - y' * x2) = k at *
    have e4 : k * ((a * (e * i - f' * f') - b * (b * i - f' * c') + c' * (b * f' - e * c')) * k) = (a * (e * i - f' * f') - b * (b * i - f' * c') + c' * (b * f' - e * c')) * (k * k) := by grind
    rw [e4]; exact this

theorem Pd.leans {n : Nat} {r c : Mat} (f : Pd n r) (s : Sq n c) (hd : dt c ≠ 0) : Pd n (leans r c) := by
  rcases n123 f.lo f.hi with rfl | rfl | rfl
  · exact form_ch1 f s hd
  · exact form_ch2 f s hd
  · exact form_ch3 f s hd
end Kz
set_option Elab.async false
set_option linter.all false
set_option maxRecDepth 100000
set_option maxHeartbeats 4000000
/-! Kz: leans -/
namespace Kz
section
variable {n : Nat} {r : Mat} {x y z : List Int} {k : Int}
theorem lean_comm (f : Pd n r) (hx : x.length = n) (hy : y.length = n) : lean r x y = lean r y x := by
  rcases n123 f.lo f.hi with rfl | rfl | rfl
  · obtain ⟨a, rfl, _⟩ := f.one
    obtain ⟨u, rfl⟩ := len1 hx
    obtain ⟨v, rfl⟩ := len1 hy
    rw [lean_1, lean_1]; grind
  · obtain ⟨a, b, d, rfl, _⟩ := f.two
    obtain ⟨u, u', rfl⟩ := len2 hx
    obtain ⟨v, v', rfl⟩ := len2 hy
    rw [lean_2, lean_2]; grind
  · obtain ⟨a, b, c, e, f', i, rfl, _⟩ := f.three
    obtain ⟨u, u', u2, rfl⟩ := len3 hx
    obtain ⟨v, v', v2, rfl⟩ := len3 hy
    rw [lean_3, lean_3]; grind
theorem addT1 {a b : Int} : addT [a] [b] k = [a + k * b] := rfl
theorem addT2 {a b c d : Int} : addT [a, b] [c, d] k = [a + k * c, b + k * d] := rfl
theorem addT3 {a b c d e f : Int} : addT [a, b, c] [d, e, f] k = [a + k * d, b + k * e, c + k * f] := rfl
theorem lean_add (s : Sq n r) (h1 : 1 ≤ n) (h3 : n ≤ 3) (hx : x.length = n) (hz : z.length = n) (hy : y.length = n) : lean r (addT x z k) y = lean r x y + k * lean r z y := by
  rcases n123 h1 h3 with rfl | rfl | rfl
  · obtain ⟨a, rfl⟩ := s.one
    obtain ⟨u, rfl⟩ := len1 hx
    obtain ⟨v, rfl⟩ := len1 hy
    obtain ⟨w, rfl⟩ := len1 hz
    rw [addT1, lean_1, lean_1, lean_1]; grind
  · obtain ⟨a, b, c, d, rfl⟩ := s.two
    obtain ⟨u, u', rfl⟩ := len2 hx
    obtain ⟨v, v', rfl⟩ := len2 hy
    obtain ⟨w, w', rfl⟩ := len2 hz
    rw [addT2, lean_2, lean_2, lean_2]; grind
  · obtain ⟨a, b, c, d, e, f, g, h, i, rfl⟩ := s.three
    obtain ⟨u, u', u2, rfl⟩ := len3 hx
    obtain ⟨v, v', v2, rfl⟩ := len3 hy
    obtain ⟨w, w', w2, rfl⟩ := len3 hz
    rw [addT3, lean_3, lean_3, lean_3]; grind
theorem lean_addR (s : Sq n r) (h1 : 1 ≤ n) (h3 : n ≤ 3) (hx : x.length = n) (hz : z.length = n) (hy : y.length = n) : lean r y (addT x z k) = lean r y x + k * lean r y z := by
  rcases n123 h1 h3 with rfl | rfl | rfl
  · obtain ⟨a, rfl⟩ := s.one
    obtain ⟨u, rfl⟩ := len1 hx
    obtain ⟨v, rfl⟩ := len1 hy
    obtain ⟨w, rfl⟩ := len1 hz
    rw [addT1, lean_1, lean_1, lean_1]; grind
  · obtain ⟨a, b, c, d, rfl⟩ := s.two
    obtain ⟨u, u', rfl⟩ := len2 hx
    obtain ⟨v, v', rfl⟩ := len2 hy
    obtain ⟨w, w', rfl⟩ := len2 hz
    rw [addT2, lean_2, lean_2, lean_2]; grind
  · obtain ⟨a, b, c, d, e, f, g, h, i, rfl⟩ := s.three
    obtain ⟨u, u', u2, rfl⟩ := len3 hx
    obtain ⟨v, v', v2, rfl⟩ := len3 hy
    obtain ⟨w, w', w2, rfl⟩ := len3 hz
    rw [addT3, lean_3, lean_3, lean_3]; grind
theorem lean_zer (s : Sq n r) (h1 : 1 ≤ n) (h3 : n ≤ 3) (hy : y.length = n) : lean r (zer n) y = 0 := by
  have := lean_add (k := -1) s h1 h3 hy hy hy
  have e : addT y y (-1) = zer n := vec_ext (by rw [addT_len rfl]; simp [hy]) fun i => by rw [addT_get rfl, zer_get]; omega
  rw [e] at this
  omega
theorem lean_neg (s : Sq n r) (h1 : 1 ≤ n) (h3 : n ≤ 3) (hx : x.length = n) (hy : y.length = n) : lean r (negT x) y = -lean r x y := by
  have := lean_add (k := -1) s h1 h3 (x := zer n) (by simp) hx hy
  have e : addT (zer n) x (-1) = negT x := vec_ext (by rw [addT_len (by simp [hx]), negT_len]; simp [hx]) fun i => by rw [addT_get (by simp [hx]), zer_get, negT_get]; omega
  rw [e, lean_zer s h1 h3 hy] at this
  omega
theorem lean_mu (s : Sq n r) (h1 : 1 ≤ n) (h3 : n ≤ 3) (hx : x.length = n) (hy : y.length = n) : lean r (mu n k x) y = k * lean r x y := by
  have := lean_add (k := k) s h1 h3 (x := zer n) (by simp) hx hy
  rw [lean_zer s h1 h3 hy] at this
  show lean r (addT (zer n) x k) y = _
  omega
/-- x by the leans of the rows is the sum of the rows -/
theorem lean_led {c : Mat} (s : Sq n r) (sc : Sq n c) (h1 : 1 ≤ n) (h3 : n ≤ 3) (hx : x.length = n) (hy : y.length = n) : lean (leans r c) x y = lean r (linC n x c) (linC n y c) := by
  rcases n123 h1 h3 with rfl | rfl | rfl
  · obtain ⟨a, rfl⟩ := s.one
    obtain ⟨p, rfl⟩ := sc.one
    obtain ⟨u, rfl⟩ := len1 hx
    obtain ⟨v, rfl⟩ := len1 hy
    simp only [leans, List.map_cons, List.map_nil, lean_1, lin1]; grind
  · obtain ⟨a, b, c, d, rfl⟩ := s.two
    obtain ⟨p, p', q, q', rfl⟩ := sc.two
    obtain ⟨u, u', rfl⟩ := len2 hx
    obtain ⟨v, v', rfl⟩ := len2 hy
    simp only [leans, List.map_cons, List.map_nil, lean_2, lin2]; grind
  · obtain ⟨a, b, c, d, e, f, g, h, i, rfl⟩ := s.three
    obtain ⟨p, p', p2, q, q', q2, o, o', o2, rfl⟩ := sc.three
    obtain ⟨u, u', u2, rfl⟩ := len3 hx
    obtain ⟨v, v', v2, rfl⟩ := len3 hy
    simp only [leans, List.map_cons, List.map_nil, lean_3, lin3]; grind
theorem leans_sq {c : Mat} (hc : c.length = n) : Sq n (leans r c) := by
  refine ⟨by simp [leans, hc], fun l hl => ?_⟩
  unfold leans at hl
  obtain ⟨x, _, rfl⟩ := List.mem_map.mp hl
  simp [hc]
theorem size_pos (f : Pd n r) (hx : x.length = n) (h : x ≠ zer n) : 0 < lean r x x := by
  rcases n123 f.lo f.hi with rfl | rfl | rfl
  · obtain ⟨a, rfl, ha⟩ := f.one
    obtain ⟨u, rfl⟩ := len1 hx
    have hu : u ≠ 0 := fun e => h (by rw [e]; rfl)
    rw [lean_1]
    have := Int.mul_pos ha (sqP hu)
    grind
  · obtain ⟨a, b, d, rfl, ha, hD⟩ := f.two
    obtain ⟨u, v, rfl⟩ := len2 hx
    have hu : u ≠ 0 ∨ v ≠ 0 := by
      by_cases e : u = 0
      · by_cases e2 : v = 0
        · exact absurd (by rw [e, e2]; rfl) h
        · exact .inr e2
      · exact .inl e
    have := pos2 ha hD hu
    rw [lean_2]
    grind
  · obtain ⟨a, b, c, e, f', i, rfl, ha, hm, hD⟩ := f.three
    obtain ⟨u, v, w, rfl⟩ := len3 hx
    have hu : u ≠ 0 ∨ v ≠ 0 ∨ w ≠ 0 := by
      by_cases e : u = 0
      · by_cases e2 : v = 0
        · by_cases e3 : w = 0
          · exact absurd (by rw [e, e2, e3]; rfl) h
          · exact .inr (.inr e3)
        · exact .inr (.inl e2)
      · exact .inl e
    have := pos3 ha hm hD hu
    rw [lean_3]
    grind
/-! bounds -/
theorem sum_bd {B : Nat} : ∀ {l : List Int}, (∀ x ∈ l, x.natAbs ≤ B) → l.sum.natAbs ≤ l.length * B
  | [], _ => by simp
  | a :: l, h => by
    have h1 := h a (by simp)
    have h2 := sum_bd (l := l) fun x hx => h x (by simp [hx])
    rw [List.sum_cons, List.length_cons, Nat.succ_mul]
    omega
theorem mem_zipWith {α β γ : Type} {f : α → β → γ} {l : List α} {m : List β} {z : γ} (h : z ∈ List.zipWith f l m) : ∃ a ∈ l, ∃ b ∈ m, z = f a b := by
  obtain ⟨i, hi, rfl⟩ := List.mem_iff_getElem.mp h
  rw [List.length_zipWith] at hi
  exact ⟨l[i]'(by omega), List.getElem_mem _, m[i]'(by omega), List.getElem_mem _, by simp⟩
theorem dotI_bd {A B m : Nat} (hx : BdL A x) (hy : BdL B y) (hl : x.length ≤ m) : (dotI x y).natAbs ≤ m * (A * B) := by
  refine Nat.le_trans (sum_bd (B := A * B) fun z hz => ?_) ?_
  · obtain ⟨a, ha, b, hb, rfl⟩ := mem_zipWith hz
    rw [Int.natAbs_mul]
    exact Nat.mul_le_mul (hx a ha) (hy b hb)
  · rw [List.length_zipWith]
    exact Nat.mul_le_mul_right _ (by omega)
theorem lean_bd {A B C : Nat} (s : Sq n r) (h3 : n ≤ 3) (b : Bd A r) (hx : BdL B x) (hy : BdL C y) (lx : x.length = n) : (lean r x y).natAbs ≤ 3 * (B * (3 * (A * C))) := by
  refine Nat.le_trans (sum_bd (B := B * (3 * (A * C))) fun z hz => ?_) ?_
  · obtain ⟨row, hr, a, ha, rfl⟩ := mem_zipWith hz
    rw [Int.natAbs_mul]
    exact Nat.mul_le_mul (hx a ha) (dotI_bd (b row hr) hy (by rw [s.w row hr]; exact h3))
  · rw [List.length_zipWith]
    exact Nat.mul_le_mul_right _ (by rw [s.h]; omega)
theorem leans_bd {A B : Nat} {c : Mat} (s : Sq n r) (h3 : n ≤ 3) (b : Bd A r) (hc : Bd B c) (wc : ∀ l ∈ c, l.length = n) : Bd (3 * (B * (3 * (A * B)))) (leans r c) := fun l hl x hx => by
  unfold leans at hl
  obtain ⟨u, hu, rfl⟩ := List.mem_map.mp hl
  obtain ⟨v, hv, rfl⟩ := List.mem_map.mp hx
  exact lean_bd s h3 b (hc u hu) (hc v hv) (wc u hu)
end
end Kz
set_option Elab.async false
set_option linter.all false
set_option maxRecDepth 100000
set_option maxHeartbeats 4000000
/-! Kz: spots and fractions -/
namespace Kz
open PySem PySem.Spec PyProof.Rows L2
theorem gcdL_dvd_iff {m a : Nat} {l : List Int} : m ∣ gcdL a l ↔ m ∣ a ∧ ∀ t ∈ l, m ∣ t.natAbs := by
  have := gcdL_iff (m := m) (K := 1) (l := l) (a := a)
  simpa using this
theorem gcdL_eq {a a' : Nat} {l l' : List Int} (h : ∀ m, (m ∣ a ∧ ∀ t ∈ l, m ∣ t.natAbs) ↔ (m ∣ a' ∧ ∀ t ∈ l', m ∣ t.natAbs)) : gcdL a l = gcdL a' l' :=
  Nat.dvd_antisymm (gcdL_dvd_iff.mpr ((h _).mp (gcdL_dvd_iff.mp (Nat.dvd_refl _)))) (gcdL_dvd_iff.mpr ((h _).mpr (gcdL_dvd_iff.mp (Nat.dvd_refl _))))
theorem natAbs_dvd {m : Nat} {x : Int} : m ∣ x.natAbs ↔ (m : Int) ∣ x := (Int.ofNat_dvd_left (n := m) (z := x)).symm
theorem gcdL_shift {b : Nat} {t p : List Int} (h : t.length = p.length) : gcdL b (addT t p (b : Int)) = gcdL b t := by
  refine gcdL_eq fun m => ?_
  have key : ∀ i, m ∣ b → ((m : Int) ∣ (addT t p (b : Int)).getD i 0 ↔ (m : Int) ∣ t.getD i 0) := fun i hm => by
    rw [addT_get h]
    have : (m : Int) ∣ (b : Int) * p.getD i 0 := Int.dvd_mul_of_dvd_left (Int.natCast_dvd_natCast.mpr hm)
    exact ⟨fun q => by have := Int.dvd_sub q this; simpa using this, fun q => Int.dvd_add q this⟩
  have mem : ∀ (l : List Int), (∀ t ∈ l, m ∣ t.natAbs) ↔ ∀ i, (m : Int) ∣ l.getD i 0 := fun l => by
    constructor
    · intro q i
      by_cases hi : i < l.length
      · exact natAbs_dvd.mp (q _ (getD_mem hi))
      · rw [List.getD_eq_getElem?_getD, List.getElem?_eq_none (by omega)]; exact Int.dvd_zero _
    · intro q x hx
      obtain ⟨i, hi, rfl⟩ := List.mem_iff_getElem.mp hx
      have := q i
      rw [List.getD_eq_getElem?_getD, List.getElem?_eq_getElem hi] at this
      exact natAbs_dvd.mpr this
  rw [mem, mem]
  exact ⟨fun ⟨q1, q2⟩ => ⟨q1, fun i => (key i q1).mp (q2 i)⟩, fun ⟨q1, q2⟩ => ⟨q1, fun i => (key i q1).mpr (q2 i)⟩⟩
theorem getD_all {m : Nat} {l : List Int} : (∀ t ∈ l, m ∣ t.natAbs) ↔ ∀ i, (m : Int) ∣ l.getD i 0 := by
  constructor
  · intro q i
    by_cases hi : i < l.length
    · exact natAbs_dvd.mp (q _ (getD_mem hi))
    · rw [List.getD_eq_getElem?_getD, List.getElem?_eq_none (by omega)]; exact Int.dvd_zero _
  · intro q x hx
    obtain ⟨i, hi, rfl⟩ := List.mem_iff_getElem.mp hx
    have := q i
    rw [List.getD_eq_getElem?_getD, List.getElem?_eq_getElem hi] at this
    exact natAbs_dvd.mpr this
theorem gcdL_negT {b : Nat} {t : List Int} : gcdL b (negT t) = gcdL b t := by
  refine gcdL_eq fun m => and_congr_right fun _ => ?_
  rw [getD_all, getD_all]
  exact forall_congr' fun i => by rw [negT_get, Int.dvd_neg]
theorem gcdL_mul {g a : Nat} {l : List Int} : gcdL (g * a) (l.map fun t => (g : Int) * t) = g * gcdL a l := by
  induction l generalizing a with
  | nil => rfl
  | cons t l ih =>
    show gcdL (Nat.gcd (g * a) ((g : Int) * t).natAbs) _ = g * gcdL (Nat.gcd a t.natAbs) l
    rw [Int.natAbs_mul, Int.natAbs_natCast, Nat.gcd_mul_left]
    exact ih
theorem gcdL_pos {a : Nat} {l : List Int} (h : 0 < a) : 0 < gcdL a l := Nat.pos_of_dvd_of_pos (gcdL_dvd (a := a) (l := l)).1 h
/-- tops and bottom in lowest terms -/
structure Spot (n : Nat) (t : List Int) (b : Int) : Prop where
  l : t.length = n
  pos : 1 ≤ b
  g : gcdL b.natAbs t = 1
theorem fdiv_dvd {g : Nat} {x : Int} (hg : 0 < g) (h : g ∣ x.natAbs) : (g : Int) * x.fdiv (g : Int) = x := by
  rw [Int.fdiv_eq_ediv_of_nonneg _ (by omega)]
  exact Int.mul_ediv_cancel' (natAbs_dvd.mp h)
abbrev lowT (t : List Int) (b : Int) : List Int := t.map fun x => x.fdiv (gcdL b.natAbs t : Nat)
abbrev lowB (t : List Int) (b : Int) : Int := b.fdiv (gcdL b.natAbs t : Nat)
/-- how the lowest terms come about -/
theorem low_ok {n : Nat} {t : List Int} {b : Int} (hl : t.length = n) (hb : 1 ≤ b) : ∃ g : Nat, 0 < g ∧ g = gcdL b.natAbs t ∧ (lowT t b).map (fun x => (g : Int) * x) = t ∧ (g : Int) * lowB t b = b ∧ Spot n (lowT t b) (lowB t b) := by
  have hg : 0 < gcdL b.natAbs t := gcdL_pos (by omega)
  obtain ⟨g1, g2⟩ := gcdL_dvd (a := b.natAbs) (l := t)
  refine ⟨_, hg, rfl, ?_, fdiv_dvd hg g1, by simp [hl], ?_, ?_⟩
  · rw [List.map_map]
    have : ∀ x ∈ t, ((fun x => ((gcdL b.natAbs t : Nat) : Int) * x) ∘ fun x => x.fdiv (gcdL b.natAbs t : Nat)) x = x := fun x hx => fdiv_dvd hg (g2 x hx)
    rw [List.map_congr_left this, List.map_id']
  · have := fdiv_dvd hg g1
    have h2 : (0 : Int) < (gcdL b.natAbs t : Nat) * lowB t b := by show 0 < _ * b.fdiv _; omega
    have := Int.pos_of_mul_pos_right h2 (by omega)
    show (1 : Int) ≤ b.fdiv _
    have : 0 < b.fdiv (gcdL b.natAbs t : Nat) := this
    omega
  · have e1 := fdiv_dvd hg g1
    have e2 : gcdL b.natAbs t * (lowB t b).natAbs = b.natAbs := by
      have := congrArg Int.natAbs e1
      rwa [Int.natAbs_mul, Int.natAbs_natCast] at this
    have e3 : (lowT t b).map (fun x => ((gcdL b.natAbs t : Nat) : Int) * x) = t := by
      rw [List.map_map]
      have : ∀ x ∈ t, ((fun x => ((gcdL b.natAbs t : Nat) : Int) * x) ∘ fun x => x.fdiv (gcdL b.natAbs t : Nat)) x = x := fun x hx => fdiv_dvd hg (g2 x hx)
      rw [List.map_congr_left this, List.map_id']
    have := gcdL_mul (g := gcdL b.natAbs t) (a := (lowB t b).natAbs) (l := lowT t b)
    rw [e2, e3] at this
    have h4 : gcdL b.natAbs t * 1 = gcdL b.natAbs t * gcdL (lowB t b).natAbs (lowT t b) := by rw [Nat.mul_one]; exact this
    exact (Nat.eq_of_mul_eq_mul_left hg h4).symm
def fracD (top bottom : Int) : PyData := .tuple [.int (top.fdiv (Nat.gcd top.natAbs bottom.natAbs : Nat)), .int (bottom.fdiv (Nat.gcd top.natAbs bottom.natAbs : Nat))]
theorem frac_scale {g : Nat} {a b : Int} (hg : 0 < g) (hb : 0 < b) : fracD ((g : Int) * a) ((g : Int) * b) = fracD a b := by
  unfold fracD
  have e : Nat.gcd ((g : Int) * a).natAbs ((g : Int) * b).natAbs = g * Nat.gcd a.natAbs b.natAbs := by
    rw [Int.natAbs_mul, Int.natAbs_mul, Int.natAbs_natCast, Nat.gcd_mul_left]
  have hp : 0 < Nat.gcd a.natAbs b.natAbs := Nat.gcd_pos_of_pos_right _ (by omega)
  rw [e]
  have k : ∀ x : Int, ((g : Int) * x).fdiv ((g * Nat.gcd a.natAbs b.natAbs : Nat) : Int) = x.fdiv (Nat.gcd a.natAbs b.natAbs : Nat) := fun x => by
    rw [Int.natCast_mul, Int.fdiv_eq_ediv_of_nonneg _ (by rw [← Int.natCast_mul]; omega), Int.fdiv_eq_ediv_of_nonneg _ (by omega)]
    exact Int.mul_ediv_mul_of_pos _ _ (by omega)
  rw [k, k]
theorem frac_one {a : Int} : fracD a 1 = .tuple [.int a, .int 1] := by
  unfold fracD
  simp
/-- adj undoes -/
theorem q_fwd {n : Nat} {r : Mat} {x : List Int} (s : Sq n r) (h1 : 1 ≤ n) (h3 : n ≤ 3) (hx : x.length = n) : qv n r (linC n x r) = mu n (dt r) x := by
  rcases n123 h1 h3 with rfl | rfl | rfl
  · obtain ⟨a, rfl⟩ := s.one
    obtain ⟨u, rfl⟩ := len1 hx
    simp only [qv, adjM, lin1, dt, mu, zer, addT, List.replicate, List.zipWith_cons_cons, List.zipWith_nil_right, List.cons.injEq, and_true]
    grind
  · obtain ⟨a, b, c, d, rfl⟩ := s.two
    obtain ⟨u, v, rfl⟩ := len2 hx
    simp only [qv, adjM, lin2, dt, mu, zer, addT, List.replicate, List.zipWith_cons_cons, List.zipWith_nil_right, List.cons.injEq, and_true]
    grind
  · obtain ⟨a, b, c, d, e, f, g, h, i, rfl⟩ := s.three
    obtain ⟨u, v, w, rfl⟩ := len3 hx
    simp only [qv, adjM, lin3, dt, mu, zer, addT, List.replicate, List.zipWith_cons_cons, List.zipWith_nil_right, List.cons.injEq, and_true]
    grind
theorem linC_dvd {n m : Nat} {x : List Int} {R : Mat} (hR : ∀ r ∈ R, r.length = n) (h : ∀ t ∈ x, m ∣ t.natAbs) (j : Nat) : (m : Int) ∣ (linC n x R).getD j 0 := by
  rw [linC_get hR]
  have : ∀ l : List (Int × List Int), (∀ q ∈ l, q.1 ∈ x) → (m : Int) ∣ (l.map fun q => q.1 * q.2.getD j 0).sum := fun l => by
    induction l with
    | nil => intro _; exact Int.dvd_zero _
    | cons q l ih =>
      intro hl
      rw [List.map_cons, List.sum_cons]
      exact Int.dvd_add (Int.dvd_mul_of_dvd_left (natAbs_dvd.mp (h _ (hl q (by simp))))) (ih fun q hq => hl q (by simp [hq]))
  exact this _ fun q hq => (List.of_mem_zip hq).1
theorem gcdL_led {n b : Nat} {c : Mat} {t : List Int} (s : Sq n c) (h1 : 1 ≤ n) (h3 : n ≤ 3) (u : (dt c).natAbs = 1) (ht : t.length = n) : gcdL b (linC n t c) = gcdL b t := by
  refine gcdL_eq fun m => and_congr_right fun _ => ?_
  constructor
  · intro h
    rw [getD_all]
    intro i
    have h2 := linC_dvd (R := adjM c) (adj_sq s h1 h3).w h i
    have e : linC n (linC n t c) (adjM c) = mu n (dt c) t := q_fwd s h1 h3 ht
    rw [e, mu_get ht] at h2
    have : dt c = 1 ∨ dt c = -1 := by omega
    rcases this with q | q
    · rwa [q, Int.one_mul] at h2
    · rw [q, Int.neg_one_mul, Int.dvd_neg] at h2
      exact h2
  · intro h
    rw [getD_all]
    exact fun i => linC_dvd s.w h i
theorem Spot.shift {n : Nat} {t p : List Int} {b : Int} (h : Spot n t b) (hp : p.length = n) : Spot n (addT t p b) b := ⟨addT_len' h.l hp, h.pos, by
  have hb := h.pos
  have := gcdL_shift (b := b.natAbs) (t := t) (p := p) (by rw [h.l, hp])
  rw [show ((b.natAbs : Nat) : Int) = b by omega] at this
  rw [this]
  exact h.g⟩
theorem Spot.neg {n : Nat} {t : List Int} {b : Int} (h : Spot n t b) : Spot n (negT t) b := ⟨by rw [negT_len]; exact h.l, h.pos, by rw [gcdL_negT]; exact h.g⟩
theorem Spot.led {n : Nat} {t : List Int} {b : Int} {c : Mat} (h : Spot n t b) (s : Sq n c) (h1 : 1 ≤ n) (h3 : n ≤ 3) (u : (dt c).natAbs = 1) : Spot n (linC n t c) b := ⟨linC_len s.w, h.pos, by rw [gcdL_led s h1 h3 u h.l]; exact h.g⟩
theorem gcdL_one {l : List Int} : gcdL 1 l = 1 := Nat.eq_one_of_dvd_one (gcdL_dvd (a := 1) (l := l)).1
theorem Spot.place {n : Nat} {p : List Int} (h : p.length = n) : Spot n p 1 := ⟨h, by decide, gcdL_one⟩
end Kz
set_option Elab.async false
set_option linter.all false
set_option maxRecDepth 100000
set_option maxHeartbeats 4000000
/-! Kz: walks of lists of ints -/
namespace Kz
open PySem PySem.Spec PyProof.Rows L2
theorem seq_row {a : List Int} : seqD (rowD a) = some (a.map .int) := rfl
theorem seq_lrow {a : List Int} : seqD (lrowD a) = some (a.map .int) := rfl
theorem zw_zip {α β γ : Type} (f : α → β → γ) (a : List α) (b : List β) : List.zipWith f a b = (a.zip b).map fun q => f q.1 q.2 := by rw [List.zip, List.map_zipWith]
theorem zip_sd {da db : PyData} {a b : List PyData} {P : List PyData → Prop} (ha : seqD da = some a) (hb : seqD db = some b) (hp : P (zipD a b)) : zipW da db P := by
  unfold zipW
  rw [ha, hb]
  exact hp
theorem iter_sd {da : PyData} {a : List PyData} {P : List PyData → Prop} (ha : seqD da = some a) (hp : P a) : iterW da P := by
  unfold iterW
  rw [ha]
  exact hp
/-- [f(x, y) for x, y in zip(a, b)] -/
theorem w_zip {da db : PyData} {a b : List Int} {f : Int → Int → Int} {G : PyData → PyData → W (List PyData)} {Q : List PyData → Prop} (ha : seqD da = some (a.map .int)) (hb : seqD db = some (b.map .int)) (hl : a.length ≤ 1000000)
    (hG : ∀ x ∈ a, ∀ y ∈ b, ∀ K : List PyData → Prop, K [.int (f x y)] → G (.int x) (.int y) K) (hQ : Q ((List.zipWith f a b).map .int)) :
    zipW da db fun ds => ds.length ≤ 1000000 ∧ lcW (fun d K => unp2W d fun x y => G x y K) ds Q := by
  refine zip_sd ha hb ?_
  rw [zip_ii]
  refine ⟨by rw [List.length_map, List.length_zip]; omega, lc_map (f := fun q : Int × Int => PyData.tuple [.int q.1, .int q.2]) (h := fun q => .int (f q.1 q.2)) (fun q hq K hK => ?_) ?_⟩
  · rw [unp2]
    exact hG _ (List.of_mem_zip hq).1 _ (List.of_mem_zip hq).2 K hK
  · have e : (a.zip b).map (fun q => PyData.int (f q.1 q.2)) = (List.zipWith f a b).map .int := by rw [zw_zip, List.map_map]; rfl
    rw [e]
    exact hQ
/-- [f(x) for x in a] -/
theorem w_map {da : PyData} {a : List Int} {f : Int → Int} {G : PyData → W (List PyData)} {Q : List PyData → Prop} (ha : seqD da = some (a.map .int)) (hl : a.length ≤ 1000000)
    (hG : ∀ x ∈ a, ∀ K : List PyData → Prop, K [.int (f x)] → G (.int x) K) (hQ : Q ((a.map f).map .int)) : iterW da fun ds => ds.length ≤ 1000000 ∧ lcW G ds Q := by
  refine iter_sd ha ⟨by rw [List.length_map]; exact hl, lc_map (h := fun x => .int (f x)) hG ?_⟩
  rw [List.map_map] at hQ
  exact hQ
/-- drawn numbers in the place of given things -/
theorem w_drawn {da : PyData} {as : List PyData} {B : Nat} {G : PyData → W (List PyData)} {Q : List PyData → Prop} (ha : seqD da = some as) (hl : as.length ≤ 1000000)
    (hG : ∀ d ∈ as, ∀ K : List PyData → Prop, (∀ i : Int, i.natAbs ≤ B → K [.int i]) → G d K) (hQ : ∀ l : List Int, l.length = as.length → BdL B l → Q (l.map .int)) : iterW da fun ds => ds.length ≤ 1000000 ∧ lcW G ds Q := by
  refine iter_sd ha ⟨hl, ?_⟩
  have := lc_ints (f := fun d : PyData => d) (R := fun _ i => i.natAbs ≤ B) (xs := as) (G := G) hG (P := Q) fun l hl hr => hQ l hl fun x hx => by
    obtain ⟨j, hj, rfl⟩ := List.mem_iff_getElem.mp hx
    have hj' : j < as.length := by omega
    exact hr j _ _ (List.getElem?_eq_getElem hj) (List.getElem?_eq_getElem hj')
  rwa [List.map_id'] at this
theorem w_drawnR {n B : Nat} {G : PyData → W (List PyData)} {Q : List PyData → Prop} (hn : n < 1000000) (hG : ∀ i, i < n → ∀ K : List PyData → Prop, (∀ i : Int, i.natAbs ≤ B → K [.int i]) → G (.int (i : Int)) K) (hQ : ∀ l : List Int, l.length = n → BdL B l → Q (l.map .int)) :
    rng1W (.int (n : Int)) fun ds => ds.length ≤ 1000000 ∧ lcW G ds Q := by
  refine rng1_nat hn ⟨by rw [List.length_map, List.length_range]; omega, ?_⟩
  refine lc_ints (R := fun _ i => i.natAbs ≤ B) (fun i hi => hG i (List.mem_range.mp hi)) fun l hl hr => hQ l (by simpa using hl) fun x hx => ?_
  obtain ⟨j, hj, rfl⟩ := List.mem_iff_getElem.mp hx
  have hj' : j < n := by simpa [hl] using hj
  exact hr j _ j (List.getElem?_eq_getElem hj) (List.getElem?_range hj')
theorem zw_addT {a b : List Int} {k : Int} : List.zipWith (fun x y => x + k * y) a b = addT a b k := rfl
theorem zw_add {a b : List Int} : List.zipWith (fun x y => x + y) a b = addT a b 1 := by
  unfold addT
  congr 1
  funext x y
  rw [Int.one_mul]
theorem zw_sub {a b : List Int} : List.zipWith (fun x y => x - y) a b = addT a b (-1) := by
  unfold addT
  congr 1
  funext x y
  omega
/-- one of the greatest sizes of some numbers -/
theorem w_maxabs {da : PyData} {a : List Int} {P : PyData → Prop} (ha : seqD da = some (a.map .int)) (hn : a ≠ []) (hz : a.length ≤ 1000) (hp : ∀ m : Int, (∀ B : Nat, m ≤ (B : Int) ↔ BdL B a) → P (.int m)) :
    iterW da fun ds => ds.length ≤ 1000000 ∧ lcW (fun x K => absW x fun v => K [v]) ds fun es => maxSW (PyData.list es) P := by
  refine w_map (f := fun x => (x.natAbs : Int)) ha (by omega) (fun x hx K hK => by rw [abs_i]; exact hK) ?_
  refine max_l (by simpa using hn) fun m h1 h2 => hp m fun B => ?_
  obtain ⟨y, hy, rfl⟩ := List.mem_map.mp h1
  constructor
  · intro h x hx
    have := h2 _ (List.mem_map.mpr ⟨x, hx, rfl⟩)
    omega
  · intro h
    have := h y hy
    omega
theorem pow_ii {i j : Int} {P : PyData → Prop} (h0 : 0 ≤ j) (h1 : j ≤ 1000000) (h2 : i.natAbs < 2 ^ 64) (hp : P (.int (i ^ j.toNat))) : powW (.int i) (.int j) P := ⟨⟨h0, h1, h2⟩, hp⟩
theorem vd_frac {a b : Int} {m : Nat} (ha : a.natAbs ≤ 10 ^ 50) (hb : b.natAbs ≤ 10 ^ 50) : Vd (10 ^ 50) (m + 1) 4 (fracD a b) := by
  have k : ∀ x : Int, x.natAbs ≤ 10 ^ 50 → (x.fdiv (Nat.gcd a.natAbs b.natAbs : Nat)).natAbs ≤ 10 ^ 50 := fun x hx => by
    by_cases hg : Nat.gcd a.natAbs b.natAbs = 0
    · rw [hg]
      simp
    · have hd : (0 : Int) < ((Nat.gcd a.natAbs b.natAbs : Nat) : Int) := by omega
      rw [Int.fdiv_eq_ediv_of_nonneg _ (by omega)]
      exact Nat.le_trans (Int.natAbs_ediv_le_natAbs _ _) hx
  exact vd_tup.mpr (vdl_ints (l := [a.fdiv (Nat.gcd a.natAbs b.natAbs : Nat), b.fdiv (Nat.gcd a.natAbs b.natAbs : Nat)]) (m := m) (B := 10 ^ 50) (b := 4) (fun x hx => by
      simp only [List.mem_cons, List.not_mem_nil, or_false] at hx
      rcases hx with rfl | rfl
      · exact k a ha
      · exact k b hb) (by simp))
theorem join_by {S : Type} (I : S → Prop) {kk : S → Prop} {body : (S → Prop) → Prop} (hk : ∀ s, I s → kk s) (hb : ∀ k : S → Prop, (∀ s, I s → k s) → body k) : joinW kk body := hb kk hk
theorem let_by {S : Type} (I : S → Prop) {kk : S → Prop} {m : W S} (hk : ∀ s, I s → kk s) (hb : ∀ k : S → Prop, (∀ s, I s → k s) → m k) : letW m kk := hb kk hk
/-- both ways alike -/
theorem cW_same {b : Bool} {A : Prop} (h : A) : cW b A A := by cases b <;> exact h
end Kz
set_option Elab.async false
set_option linter.all false
set_option maxRecDepth 100000
set_option maxHeartbeats 4000000
/-! Kz: texts -/
namespace Kz
open PySem PySem.Spec PyProof.Rows L2
theorem asc_int (i : Int) : asc (toString i : String) = true := by
  unfold asc
  rw [List.all_eq_true]
  intro c hc
  by_cases h : c < 128
  · exact decide_eq_true h
  · exact absurd hc (int_text_free' c ⟨by omega, .inr (by omega)⟩ i)
theorem cons_app (c : Nat) (l : List Nat) : (⟨(c :: l).toArray⟩ : Str) = (⟨#[c]⟩ : Str) ++ ⟨l.toArray⟩ := by
  show _ = (⟨#[c] ++ l.toArray⟩ : Str)
  congr 1
  simp
theorem up_one (c : Nat) (h : c < 128) : ∃ d, d < 128 ∧ Txt.upper ⟨#[c]⟩ = ⟨#[d]⟩ := ⟨_, by split <;> omega, PySem.W.KOpn.upper_one h⟩
theorem upper_asc : ∀ l : List Nat, (∀ c ∈ l, c < 128) → asc (Txt.upper ⟨l.toArray⟩) = true ∧ (Txt.upper ⟨l.toArray⟩).cps.size = l.length
  | [], _ => ⟨by decide +kernel, by decide +kernel⟩
  | c :: l, h => by
    obtain ⟨d, hd, e⟩ := up_one c (h c (by simp))
    obtain ⟨h1, h2⟩ := upper_asc l fun x hx => h x (List.mem_cons_of_mem _ hx)
    rw [cons_app, PySem.W.KOpn.upper_app, e]
    have ha : asc (⟨#[d]⟩ : Str) = true := asc_ok (l := [d]) (by simpa using hd)
    refine ⟨asc_app ha h1, ?_⟩
    rw [size_app, h2, List.length_cons]
    show 1 + l.length = _
    omega
theorem upper_ok {x : Str} (h : asc x = true) : asc (Txt.upper x) = true ∧ (Txt.upper x).cps.size = x.cps.size := by
  have := upper_asc x.cps.toList (asc_get h)
  simpa using this
theorem cut_ok {x : Str} (h : asc x = true) (lo hi : Option Int) : asc (cutS x lo hi) = true ∧ (cutS x lo hi).cps.size ≤ x.cps.size := by
  unfold cutS
  refine ⟨asc_ok fun c hc => asc_get h c (List.mem_of_mem_drop (List.mem_of_mem_take hc)), ?_⟩
  show ((x.cps.toList.drop _).take _).toArray.size ≤ _
  simp
  omega
theorem len_int {i : Int} {B : Nat} (h : i.natAbs ≤ B) (hB : B < 2 ^ 190) : (toString i : Str).cps.size ≤ 100 := by
  have := shl (Nat.lt_of_le_of_lt h hB)
  exact this
theorem vdl_cut {B m b : Nat} {ds : List PyData} (lo hi : Option Int) (h : VdL B m b ds) : VdL B m b (cutD ds lo hi) := vdl_take _ (vdl_drop _ h)
end Kz
set_option Elab.async false
set_option linter.all false
set_option maxRecDepth 100000
set_option maxHeartbeats 4000000
/-! Kz: what is shown tells the value -/
namespace Kz
open PySem PySem.Spec PyProof.Rows L2
/-- the signs of a shown value -/
def sg (d : PyData) : List Nat := d.shown.cps.toList
/-- what may stand behind a value within a tuple -/
def Stp (s : List Nat) : Prop := ∀ c l, s = c :: l → c = 44 ∨ c = 41
/-- what is shown tells this value, whatever stands behind it -/
def Tel (d : PyData) : Prop := ∀ e s t, Stp s → Stp t → sg e ++ s = sg d ++ t → e = d ∧ s = t
theorem stp_nil : Stp [] := fun c l h => by cases h
theorem stp_c {l : List Nat} : Stp (44 :: l) := fun c l h => by injection h with h; exact .inl h.symm
theorem stp_p {l : List Nat} : Stp (41 :: l) := fun c l h => by injection h with h; exact .inr h.symm
def dgt (l : List Char) : List Nat := l.map Char.toNat
theorem dgt_tell : ∀ {a b : List Char} {s t : List Nat}, (∀ c ∈ a, c.isDigit = true) → (∀ c ∈ b, c.isDigit = true) → Stp s → Stp t → dgt a ++ s = dgt b ++ t → a = b ∧ s = t
  | [], [], s, t, _, _, _, _, h => ⟨rfl, h⟩
  | [], c :: b, s, t, _, hb, hs, _, h => by
    have := digit_range (hb c (List.mem_cons_self ..))
    have := hs c.toNat (dgt b ++ t) h
    omega
  | c :: a, [], s, t, ha, _, _, ht, h => by
    have := digit_range (ha c (List.mem_cons_self ..))
    have := ht c.toNat (dgt a ++ s) h.symm
    omega
  | c :: a, d :: b, s, t, ha, hb, hs, ht, h => by
    have h' : c.toNat :: (dgt a ++ s) = d.toNat :: (dgt b ++ t) := h
    injection h' with h1 h2
    obtain ⟨e1, e2⟩ := dgt_tell (fun x hx => ha x (List.mem_cons_of_mem _ hx)) (fun x hx => hb x (List.mem_cons_of_mem _ hx)) hs ht h2
    have : c = d := Char.toNat_inj.mp h1
    exact ⟨by rw [this, e1], e2⟩
theorem sg_int (i : Int) : sg (.int i) = if 0 ≤ i then dgt (Nat.toDigits 10 i.toNat) else 45 :: dgt (Nat.toDigits 10 (-i).toNat) := by
  unfold sg dgt
  rw [PyData.shown_int, signs_ofString, Int.toString_eq_repr, Int.repr_eq_if]
  split
  · rw [Nat.toList_repr]
  · rw [String.toList_append, Nat.toList_repr, List.map_append]; rfl
theorem all_dig (n : Nat) : ∀ c ∈ Nat.toDigits 10 n, c.isDigit = true := fun c hc => Nat.isDigit_of_mem_toDigits (by decide) (by decide) hc
theorem dig_inj {n m : Nat} (h : Nat.toDigits 10 n = Nat.toDigits 10 m) : n = m := by
  rw [← Nat.ofDigitChars_toDigits (b := 10) (n := n) (by decide) (by decide), h, Nat.ofDigitChars_toDigits (by decide) (by decide)]
theorem dig_cons (n : Nat) : ∃ c l, dgt (Nat.toDigits 10 n) = c :: l ∧ 48 ≤ c ∧ c ≤ 57 := by
  have h0 := all_dig n
  have h1 := Nat.toDigits_ne_nil (n := n) (b := 10)
  cases h : Nat.toDigits 10 n with
  | nil => exact absurd h h1
  | cons c l =>
    rw [h] at h0
    exact ⟨c.toNat, dgt l, rfl, digit_range (h0 c (List.mem_cons_self ..))⟩
theorem int_tell {i j : Int} {s t : List Nat} (hs : Stp s) (ht : Stp t) (h : sg (.int i) ++ s = sg (.int j) ++ t) : i = j ∧ s = t := by
  rw [sg_int, sg_int] at h
  by_cases h1 : 0 ≤ i <;> by_cases h2 : 0 ≤ j
  · rw [if_pos h1, if_pos h2] at h
    obtain ⟨e, es⟩ := dgt_tell (all_dig _) (all_dig _) hs ht h
    have := dig_inj e
    exact ⟨by omega, es⟩
  · rw [if_pos h1, if_neg h2] at h
    obtain ⟨c, l, e, h3, h4⟩ := dig_cons i.toNat
    rw [e] at h
    injection h with h
    omega
  · rw [if_neg h1, if_pos h2] at h
    obtain ⟨c, l, e, h3, h4⟩ := dig_cons j.toNat
    rw [e] at h
    injection h with h
    omega
  · rw [if_neg h1, if_neg h2] at h
    injection h with _ h
    obtain ⟨e, es⟩ := dgt_tell (all_dig _) (all_dig _) hs ht h
    have := dig_inj e
    exact ⟨by omega, es⟩
theorem repr_sg (x : Str) : sg (.str x) = reprQuote x :: (x.cps.toList.flatMap (Builtin.Str.reprChar (reprQuote x)) ++ [reprQuote x]) := by
  unfold sg
  rw [PyData.shown_str]
  unfold reprText
  have key : ∀ (q : Nat) (l : List Nat) (acc : Array Nat), (l.foldl (fun out c => out ++ (Builtin.Str.reprChar q c).toArray) acc).toList = acc.toList ++ l.flatMap (Builtin.Str.reprChar q) := by
    intro q l
    induction l with
    | nil => intro acc; simp
    | cons c l ih => intro acc; rw [List.foldl_cons, ih]; simp
  show (Array.push _ _).toList = _
  rw [Array.toList_push, ← Array.foldl_toList, key]
  rfl
theorem quote_or (x : Str) : reprQuote x = 34 ∨ reprQuote x = 39 := by
  unfold reprQuote
  split <;> simp
theorem char_or (c : Nat) : (Builtin.Str.reprChar 39 c = [c] ∧ c ≠ 39) ∨ ∃ l, Builtin.Str.reprChar 39 c = 92 :: l := by
  unfold Builtin.Str.reprChar
  by_cases h1 : (c == 39 || c == 92) = true
  · exact .inr ⟨[c], by rw [if_pos h1]⟩
  simp only [if_neg h1]
  split
  · exact .inr ⟨_, rfl⟩
  split
  · exact .inr ⟨_, rfl⟩
  split
  · exact .inr ⟨_, rfl⟩
  split
  · exact .inl ⟨rfl, fun e => h1 (by rw [e]; rfl)⟩
  split
  · exact .inr ⟨_, rfl⟩
  split
  · exact .inr ⟨_, rfl⟩
  · exact .inr ⟨_, rfl⟩
theorem chars_tell : ∀ {xs W s t : List Nat}, 39 ∉ W → 92 ∉ W → xs.flatMap (Builtin.Str.reprChar 39) ++ 39 :: s = W ++ 39 :: t → xs = W ∧ s = t
  | [], [], s, t, _, _, h => by
    injection h with _ h
    exact ⟨rfl, h⟩
  | [], c :: W, s, t, h39, _, h => by
    injection h with h _
    exact absurd (h ▸ List.mem_cons_self ..) h39
  | c :: xs, W, s, t, h39, h92, h => by
    rw [List.flatMap_cons, List.append_assoc] at h
    rcases char_or c with ⟨e, hc⟩ | ⟨l, e⟩
    · rw [e] at h
      cases W with
      | nil => injection h with h _; exact absurd h hc
      | cons d W =>
        injection h with h1 h2
        obtain ⟨e1, e2⟩ := chars_tell (fun z => h39 (List.mem_cons_of_mem _ z)) (fun z => h92 (List.mem_cons_of_mem _ z)) h2
        exact ⟨by rw [h1, e1], e2⟩
    · rw [e] at h
      cases W with
      | nil => injection h with h _; exact absurd h (by decide)
      | cons d W =>
        injection h with h1 _
        exact absurd (h1 ▸ List.mem_cons_self ..) h92
/-- the first sign of a shown value -/
def HdK : PyData → Nat → Prop
  | .none, c => c = 78
  | .bool _, c => c = 84 ∨ c = 70
  | .int _, c => c = 45 ∨ (48 ≤ c ∧ c ≤ 57)
  | .str _, c => c = 34 ∨ c = 39
  | .list _, c => c = 91
  | .tuple _, c => c = 40
  | .dict _, c => c = 123
theorem app_cons {a b : Str} {c : Nat} {l : List Nat} (h : a.cps.toList = c :: l) : ∃ l', (a ++ b).cps.toList = c :: l' := ⟨l ++ b.cps.toList, by rw [cps_toList_append, h]; rfl⟩
theorem head_of (e : PyData) : ∃ c l, sg e = c :: l ∧ HdK e c := by
  cases e with
  | none => exact ⟨78, [111, 110, 101], by unfold sg; rw [PyData.shown_none]; decide, rfl⟩
  | bool b =>
    cases b with
    | true => exact ⟨84, [114, 117, 101], by unfold sg; rw [PyData.shown_bool]; decide, .inl rfl⟩
    | false => exact ⟨70, [97, 108, 115, 101], by unfold sg; rw [PyData.shown_bool]; decide, .inr rfl⟩
  | int i =>
    rw [sg_int]
    split
    · obtain ⟨c, l, e, h⟩ := dig_cons i.toNat
      exact ⟨c, l, e, .inr h⟩
    · exact ⟨45, _, rfl, .inl rfl⟩
  | str x => exact ⟨_, _, repr_sg x, quote_or x⟩
  | list xs =>
    have h0 : (("[" : String) : Str).cps.toList = 91 :: [] := by decide
    obtain ⟨l, h1⟩ := app_cons (b := Str.join ", " (PyData.shownAll xs)) h0
    obtain ⟨l', h2⟩ := app_cons (b := (("]" : String) : Str)) h1
    exact ⟨91, l', by unfold sg; rw [PyData.shown_list]; exact h2, rfl⟩
  | tuple xs =>
    have h0 : (("(" : String) : Str).cps.toList = 40 :: [] := by decide
    obtain ⟨l, h1⟩ := app_cons (b := Str.join ", " (PyData.shownAll xs)) h0
    obtain ⟨l', h2⟩ := app_cons (b := ((if (PyData.shownAll xs).length == 1 then ",)" else ")" : String) : Str)) h1
    refine ⟨40, l', ?_, rfl⟩
    unfold sg
    rw [PyData.shown_tuple]
    rw [← h2]
    congr 3
    rw [PyProof.Rows.shownAll_eq_map, List.length_map]
  | dict kvs =>
    have h0 : (("{" : String) : Str).cps.toList = 123 :: [] := by decide
    obtain ⟨l, h1⟩ := app_cons (b := Str.join ", " (PyData.shownKv kvs)) h0
    obtain ⟨l', h2⟩ := app_cons (b := (("}" : String) : Str)) h1
    exact ⟨123, l', by unfold sg; rw [PyData.shown_dict]; exact h2, rfl⟩
theorem head_eq {e d : PyData} {s t : List Nat} (h : sg e ++ s = sg d ++ t) : ∃ c, HdK e c ∧ HdK d c := by
  obtain ⟨c, l, h1, h2⟩ := head_of e
  obtain ⟨c', l', h3, h4⟩ := head_of d
  rw [h1, h3] at h
  injection h with h _
  exact ⟨c, h2, h ▸ h4⟩
theorem tel_int (i : Int) : Tel (.int i) := fun e s t hs ht h => by
  obtain ⟨c, h1, h2⟩ := head_eq h
  cases e with
  | int j =>
    obtain ⟨h3, h4⟩ := int_tell hs ht h
    exact ⟨by rw [h3], h4⟩
  | _ => simp only [HdK] at h1 h2; omega
theorem str_eq {x y : Str} (h : x.cps.toList = y.cps.toList) : x = y := by
  cases x; cases y
  congr 1
  exact Array.toList_inj.mp h
theorem tel_str {w : Str} (hq : sg (.str w) = 39 :: (w.cps.toList ++ [39])) (h1 : 39 ∉ w.cps.toList) (h2 : 92 ∉ w.cps.toList) : Tel (.str w) := fun e s t hs ht h => by
  obtain ⟨c, h3, h4⟩ := head_eq h
  cases e with
  | str x =>
    rw [hq, repr_sg] at h
    rcases quote_or x with q | q
    · rw [q] at h
      injection h with h _
      exact absurd h (by decide)
    · rw [q] at h
      injection h with _ h
      have h : (List.flatMap (Builtin.Str.reprChar 39) x.cps.toList ++ [39]) ++ s = (w.cps.toList ++ [39]) ++ t := h
      rw [List.append_assoc, List.append_assoc] at h
      obtain ⟨e1, e2⟩ := chars_tell h1 h2 h
      exact ⟨by rw [str_eq e1], e2⟩
  | _ => simp only [HdK] at h3 h4; omega
/-- the rest of a shown tuple behind its first value -/
def ctl : List PyData → List Nat
  | [] => [41]
  | d :: ds => 44 :: 32 :: (sg d ++ ctl ds)
theorem join_sg : ∀ (d : PyData) (ds : List PyData), (Str.join ", " (PyData.shownAll (d :: ds))).cps.toList ++ [41] = sg d ++ ctl ds
  | d, [] => by
    rw [PyData.shownAll_cons, PyData.shownAll_nil, join_one]; rfl
  | d, e :: ds => by
    have ih := join_sg e ds
    rw [PyData.shownAll_cons] at ih ⊢
    rw [PyData.shownAll_cons, join_cons_cons, cps_toList_append, cps_toList_append, signs_sep, List.append_assoc, ih]
    rw [List.append_assoc]
    rfl
theorem sg_nil : sg (.tuple []) = [40, 41] := by decide
theorem sg_one (d : PyData) : sg (.tuple [d]) = 40 :: (sg d ++ [44, 41]) := by
  unfold sg
  rw [PyData.shown_tuple, cps_toList_append, cps_toList_append, PyData.shownAll_cons, PyData.shownAll_nil, join_one, signs_lparen]
  rfl
theorem sg_more (d e : PyData) (ds : List PyData) : sg (.tuple (d :: e :: ds)) = 40 :: (sg d ++ ctl (e :: ds)) := by
  rw [← join_sg]
  unfold sg
  rw [PyData.shown_tuple, cps_toList_append, cps_toList_append, signs_lparen]
  have h : ((d :: e :: ds).length == 1) = false := by simp
  rw [h]
  have h2 : (((if false = true then ",)" else ")" : String)) : Str).cps.toList = [41] := by decide
  rw [h2, List.append_assoc]
  rfl
theorem stp_ctl (ds : List PyData) (s : List Nat) : Stp (ctl ds ++ s) := by
  cases ds with
  | nil => exact stp_p
  | cons d ds => exact stp_c
theorem ctl_tell : ∀ {ds es : List PyData} {s t : List Nat}, (∀ d ∈ ds, Tel d) → ctl es ++ s = ctl ds ++ t → es = ds ∧ s = t
  | [], [], s, t, _, h => by injection h with _ h; exact ⟨rfl, h⟩
  | [], e :: es, s, t, _, h => by injection h with h _; exact absurd h (by decide)
  | d :: ds, [], s, t, _, h => by injection h with h _; exact absurd h (by decide)
  | d :: ds, e :: es, s, t, hd, h => by
    injection h with _ h
    injection h with _ h
    have h' : (sg e ++ ctl es) ++ s = (sg d ++ ctl ds) ++ t := h
    rw [List.append_assoc, List.append_assoc] at h'
    obtain ⟨e1, e2⟩ := hd d (List.mem_cons_self ..) e _ _ (stp_ctl es s) (stp_ctl ds t) h'
    obtain ⟨e3, e4⟩ := ctl_tell (fun x hx => hd x (List.mem_cons_of_mem _ hx)) e2
    exact ⟨by rw [e1, e3], e4⟩
theorem not41 {d : PyData} {s t : List Nat} (h : sg d ++ s = 41 :: t) : False := by
  obtain ⟨c, l, h1, h2⟩ := head_of d
  rw [h1] at h
  injection h with h _
  subst h
  cases d <;> simp [HdK] at h2
theorem tel_tup {ds : List PyData} (hd : ∀ d ∈ ds, Tel d) : Tel (.tuple ds) := fun e s t hs ht h => by
  obtain ⟨c, h3, h4⟩ := head_eq h
  cases e with
  | tuple es =>
    match es, ds, hd, h with
    | [], [], _, h => 
      have := List.append_cancel_left h
      exact ⟨rfl, this⟩
    | [], [d], _, h =>
      rw [sg_nil, sg_one] at h
      injection h with _ h
      have h' : 41 :: s = sg d ++ ([44, 41] ++ t) := by rw [← List.append_assoc]; exact h
      exact (not41 h'.symm).elim
    | [], d :: d2 :: ds, _, h =>
      rw [sg_nil, sg_more] at h
      injection h with _ h
      have h' : 41 :: s = sg d ++ (ctl (d2 :: ds) ++ t) := by rw [← List.append_assoc]; exact h
      exact (not41 h'.symm).elim
    | [e], [], _, h =>
      rw [sg_nil, sg_one] at h
      injection h with _ h
      have h' : sg e ++ ([44, 41] ++ s) = 41 :: t := by rw [← List.append_assoc]; exact h
      exact (not41 h').elim
    | e :: e2 :: es, [], _, h =>
      rw [sg_nil, sg_more] at h
      injection h with _ h
      have h' : sg e ++ (ctl (e2 :: es) ++ s) = 41 :: t := by rw [← List.append_assoc]; exact h
      exact (not41 h').elim
    | [e], [d], hd, h =>
      rw [sg_one, sg_one] at h
      injection h with _ h
      have h' : sg e ++ ([44, 41] ++ s) = sg d ++ ([44, 41] ++ t) := by rw [← List.append_assoc, ← List.append_assoc]; exact h
      obtain ⟨e1, e2⟩ := hd d (List.mem_cons_self ..) e _ _ stp_c stp_c h'
      injection e2 with _ e2
      injection e2 with _ e2
      exact ⟨by rw [e1], e2⟩
    | [e], d :: d2 :: ds, hd, h =>
      rw [sg_one, sg_more] at h
      injection h with _ h
      have h' : sg e ++ ([44, 41] ++ s) = sg d ++ (ctl (d2 :: ds) ++ t) := by rw [← List.append_assoc, ← List.append_assoc]; exact h
      obtain ⟨e1, e2⟩ := hd d (List.mem_cons_self ..) e _ _ stp_c (stp_ctl _ _) h'
      injection e2 with _ e2
      injection e2 with e2 _
      exact absurd e2 (by decide)
    | e :: e2 :: es, [d], hd, h =>
      rw [sg_one, sg_more] at h
      injection h with _ h
      have h' : sg e ++ (ctl (e2 :: es) ++ s) = sg d ++ ([44, 41] ++ t) := by rw [← List.append_assoc, ← List.append_assoc]; exact h
      obtain ⟨e1, e2⟩ := hd d (List.mem_cons_self ..) e _ _ (stp_ctl _ _) stp_c h'
      injection e2 with _ e2
      injection e2 with e2 _
      exact absurd e2 (by decide)
    | e :: e2 :: es, d :: d2 :: ds, hd, h =>
      rw [sg_more, sg_more] at h
      injection h with _ h
      have h' : sg e ++ (ctl (e2 :: es) ++ s) = sg d ++ (ctl (d2 :: ds) ++ t) := by rw [← List.append_assoc, ← List.append_assoc]; exact h
      obtain ⟨e1, e3⟩ := hd d (List.mem_cons_self ..) e _ _ (stp_ctl _ _) (stp_ctl _ _) h'
      obtain ⟨e4, e5⟩ := ctl_tell (fun x hx => hd x (List.mem_cons_of_mem _ hx)) e3
      exact ⟨by rw [e1, e4], e5⟩
  | _ => simp only [HdK] at h3 h4; omega
theorem tel_row (l : List Int) : Tel (rowD l) := tel_tup fun d hd => by
  obtain ⟨i, _, rfl⟩ := List.mem_map.mp hd
  exact tel_int i
theorem tel_eq {d e : PyData} (h : Tel d) : (e.shown = d.shown) ↔ e = d :=
  ⟨fun he => (h e [] [] stp_nil stp_nil (by unfold sg; rw [he])).1, fun he => by rw [he]⟩
end Kz
set_option Elab.async false
set_option linter.all false
set_option maxRecDepth 100000
set_option maxHeartbeats 4000000
/-! Kz: the step that leads to a place, by Cramer; the only right certificate for two places -/
namespace Kz
open PySem PySem.Spec PyProof.Rows L2
theorem dt_row {n a : Nat} {r : Mat} {x : List Int} (s : Sq n r) (h1 : 1 ≤ n) (h3 : n ≤ 3) (hx : x.length = n) (ha : a < n) : dt (r.set a x) = (qv n r x).getD a 0 := by
  rcases n123 h1 h3 with rfl | rfl | rfl
  · obtain ⟨b, rfl⟩ := s.one
    obtain ⟨p, rfl⟩ := len1 hx
    obtain rfl : a = 0 := by omega
    simp [qv, adjM, lin1, dt]
  · obtain ⟨b, c, d, e, rfl⟩ := s.two
    obtain ⟨p, p', rfl⟩ := len2 hx
    rcases (show a = 0 ∨ a = 1 by omega) with rfl | rfl <;> simp [qv, adjM, lin2, dt] <;> grind
  · obtain ⟨b, c, d, e, f, g, h, i, j, rfl⟩ := s.three
    obtain ⟨p, p', p'', rfl⟩ := len3 hx
    rcases (show a = 0 ∨ a = 1 ∨ a = 2 by omega) with rfl | rfl | rfl <;> simp [qv, adjM, lin3, dt] <;> grind
def stepV (n : Nat) (r : Mat) (x : List Int) : List Int := (qv n r x).map fun t => t.fdiv (dt r)
theorem mu_inj {n : Nat} {k : Int} {x y : List Int} (hk : k ≠ 0) (hx : x.length = n) (hy : y.length = n) (h : mu n k x = mu n k y) : x = y := vec_ext (by omega) fun i => by
  have h1 := congrArg (fun l => l.getD i 0) h
  simp only [mu_get hx, mu_get hy] at h1
  exact Int.eq_of_mul_eq_mul_left hk h1
theorem lin_mu {n : Nat} {r : Mat} {k : Int} {x : List Int} (s : Sq n r) (h1 : 1 ≤ n) (h3 : n ≤ 3) (hx : x.length = n) : linC n (mu n k x) r = mu n k (linC n x r) := by
  show linC n (addT (zer n) x k) r = _
  rw [linC_add s h1 h3 (by simp) hx, linC_zer s h1 h3]
theorem lin_inj {n : Nat} {r : Mat} {x y : List Int} (s : Sq n r) (h1 : 1 ≤ n) (h3 : n ≤ 3) (hd : dt r ≠ 0) (hx : x.length = n) (hy : y.length = n) (h : linC n x r = linC n y r) : x = y := by
  have := congrArg (qv n r) h
  rw [q_fwd s h1 h3 hx, q_fwd s h1 h3 hy] at this
  exact mu_inj hd hx hy this
theorem stepV_len {n : Nat} {r : Mat} {x : List Int} (s : Sq n r) (h1 : 1 ≤ n) (h3 : n ≤ 3) : (stepV n r x).length = n := by
  unfold stepV; rw [List.length_map]; exact qv_len s h1 h3
theorem stepV_ok {n : Nat} {r : Mat} {x : List Int} (s : Sq n r) (h1 : 1 ≤ n) (h3 : n ≤ 3) (hd : dt r ≠ 0) (hx : x.length = n) (h : Spn n r x) : linC n (stepV n r x) r = x := by
  have hdv := (spn_iff s h1 h3 hd hx).mp h
  have hl := stepV_len (x := x) s h1 h3
  have e : mu n (dt r) (stepV n r x) = qv n r x := vec_ext (by rw [mu_len hl, qv_len s h1 h3]) fun i => by
    rw [mu_get hl]
    rcases Nat.lt_or_ge i n with hi | hi
    · have hi2 : i < (qv n r x).length := by rw [qv_len s h1 h3]; exact hi
      have h5 := hdv i
      rw [List.getD_eq_getElem?_getD, List.getElem?_eq_getElem hi2, Option.getD_some] at h5
      rw [List.getD_eq_getElem?_getD, List.getD_eq_getElem?_getD, List.getElem?_eq_getElem hi2]
      unfold stepV
      rw [List.getElem?_map, List.getElem?_eq_getElem hi2, Option.map_some, Option.getD_some, Option.getD_some]
      exact Int.mul_fdiv_cancel_of_dvd h5
    · have h5 : (qv n r x).length ≤ i := by rw [qv_len s h1 h3]; exact hi
      rw [List.getD_eq_getElem?_getD, List.getD_eq_getElem?_getD, List.getElem?_eq_none h5, List.getElem?_eq_none (by rw [hl]; exact hi)]
      simp
  have h2 := lin_mu (k := dt r) s h1 h3 hl
  rw [e, q_back s h1 h3 hx] at h2
  exact (mu_inj hd hx (linC_len s.w) h2).symm
theorem spn_lin {n : Nat} {r : Mat} {x c : List Int} (s : Sq n r) (h : linC n c r = x) : Spn n r x := h ▸ linC_spn s.w fun _ h => h
/-- the only right certificate for two places -/
def Due (n : Nat) (r T : Mat) (x y : List Int) (d : PyData) : Prop :=
  (∃ c, c.length = n ∧ linC n c r = addT x y (-1) ∧ d = .tuple [.str "same", rowD c]) ∨
  (¬ Cg n r x y ∧ ∃ w v, Wd n r T x w ∧ Wd n r T y v ∧ w ≠ v ∧ d = .tuple [.str "words", rowD w, rowD v])
theorem wd_cg {n : Nat} {r T : Mat} {x y w v : List Int} (s : Sq n r) (t : Tri n T) (e : Same n r T) (hx : x.length = n) (hy : y.length = n) (hw : Wd n r T x w) (hv : Wd n r T y v) : Cg n r x y ↔ w = v := by
  refine ⟨fun h => Wd.uniq t s.w hx e hw (Wd.of_cg s.w hy hx hv h), fun h => ?_⟩
  subst h
  exact cg_trans s.w hx hw.l hy hw.cg (cg_symm s.w hy hw.l hv.cg)
theorem due_tel {n : Nat} {r T : Mat} {x y : List Int} {d : PyData} (h : Due n r T x y d) : Tel d := by
  rcases h with ⟨c, _, _, rfl⟩ | ⟨_, w, v, _, _, _, rfl⟩
  · refine tel_tup fun d hd => ?_
    simp only [List.mem_cons, List.not_mem_nil, or_false] at hd
    rcases hd with rfl | rfl
    · exact tel_str (by decide +kernel) (by decide +kernel) (by decide +kernel)
    · exact tel_row c
  · refine tel_tup fun d hd => ?_
    simp only [List.mem_cons, List.not_mem_nil, or_false] at hd
    rcases hd with rfl | rfl | rfl
    · exact tel_str (by decide +kernel) (by decide +kernel) (by decide +kernel)
    · exact tel_row w
    · exact tel_row v
theorem due_uniq {n : Nat} {r T : Mat} {x y : List Int} {d d' : PyData} (s : Sq n r) (h1 : 1 ≤ n) (h3 : n ≤ 3) (hd : dt r ≠ 0) (t : Tri n T) (e : Same n r T) (hx : x.length = n) (hy : y.length = n) (h : Due n r T x y d) (h' : Due n r T x y d') : d = d' := by
  rcases h with ⟨c, l1, e1, rfl⟩ | ⟨n1, w, v, hw, hv, _, rfl⟩ <;> rcases h' with ⟨c', l2, e2, rfl⟩ | ⟨n2, w', v', hw', hv', _, rfl⟩
  · rw [lin_inj s h1 h3 hd l1 l2 (e1.trans e2.symm)]
  · exact absurd (spn_lin s e1) n2
  · exact absurd (spn_lin s e2) n1
  · rw [Wd.uniq t s.w hx e hw hw', Wd.uniq t s.w hy e hv hv']
theorem vdl_one {B m b : Nat} {d : PyData} (h : Vd B m b d) : VdL B m (b + 1) [d] := vdl_cons h (vdl_nil (b := 0))
theorem vd_tupI {B m b : Nat} {ds : List PyData} (h : Vd B m b (.tuple ds)) : ∃ k, m = k + 1 ∧ VdL B k b ds := by
  cases m with
  | zero => exact absurd h vd_tup0
  | succ m => exact ⟨m, rfl, vd_tup.mp h⟩
theorem vd_intI {B m b : Nat} {i : Int} (h : Vd B m b (.int i)) : i.natAbs ≤ B := by have := h.lf; simpa only [Kz.lf, decide_eq_true_eq] using this
theorem vd_strI {B m b : Nat} {x : Str} (h : Vd B m b (.str x)) : asc x = true ∧ x.cps.size ≤ b := ⟨by have := h.lf; simpa only [Kz.lf] using this, by have := h.bk; simpa [PyData.bulk] using this⟩
end Kz
set_option Elab.async false
set_option linter.all false
set_option maxRecDepth 100000
set_option maxHeartbeats 4000000
namespace Kz
open PySem PySem.Spec PyProof.Rows L2
abbrev s_law_told : Stmt := topS 31
/-- what is told, or the error with what it bears -/
def m_law_told (r : WR) : W PyData := fun R => r (fun d => R (.tuple [.str "told", d])) fun nm d => nm = "BadSpot" ∧ R (.tuple [.str "spot", d, .bool true])
section
variable {P : Program} {w : World} {K : PySem.W.Frag} {mg : Str → Option Value} {base : Heap} {Cs : Str → Addr} [GT]
def TTold (C : Addr) : (XK → Hp → VK → Prop) → Hp → VK → Prop := fun tl H Q =>
  tl (fun cls d H' => cls = .ref C ∧ ∃ dx fs v, d = some dx ∧ H' dx = some (.xd fs) ∧ fs.lookup ("thing" : Str) = some v ∧ ∀ H2 a, (∀ b, H' b ≠ none → H2 b = H' b) → Kp H' H2 → H2 a = none → Q (.ref a) (upd H2 a (.tup [.str "spot", v, .bl true]))) H
    (fun v H' => [V.str "told", v].length ≤ sizeLine ∧ ∀ a, H' a = none → Q (.ref a) (upd H' a (.tup [.str "told", v])))
theorem told_T {C : Addr} (hC : Cs "BadSpot" = C) : Told Cs (TTold C) m_law_told := by
  intro p S H tl r R Q hr ho hz hfr hc hq
  refine hc _ _ _ _ hr (fun v H' d k o hv hd => ⟨by rw [sizeLine_eq]; show 2 ≤ _; omega, fun a na => ?_⟩) (fun nm H' dx v d ⟨k, o⟩ hx hv hd => ?_)
  · have kn : Kp H' (upd H' a (.tup [.str "told", v])) := Kq.new na
    exact hq _ _ _ (k.trans kn.up) (o.kp kn) (.tup (hfr H' a k na) upd_same (.cons (.str _) (.cons (hv.kp kn) .nil))) hd
  · obtain ⟨rfl, hd⟩ := hd
    refine ⟨by rw [hC], dx, _, v, rfl, hx, rfl, fun H2 a same k2 na => ?_⟩
    have kn : Kp H2 (upd H2 a (.tup [.str "spot", v, .bl true])) := Kq.new na
    exact hq _ _ _ ((k.trans k2.up).trans kn.up) ((o.kp k2).kp kn) (.tup (hfr H2 a (k.trans k2.up) na) upd_same (.cons (.str _) (.cons ((hv.kp k2).kp kn) (.cons (.bl _) .nil)))) hd
theorem told_G (B : Bn mg) {Ng : List Str} (hNg : Ng = (["call", "e"] : List Str)) {g C D F1 F2 F3 : Addr} {cdg : Value} (gC : mg "BadSpot" = some (.ref C)) (gD : mg "StepError" = some (.ref D)) (g1 : mg "BadForm" = some (.ref F1)) (g2 : mg "BadStep" = some (.ref F2)) (g3 : mg "BadFraction" = some (.ref F3))
    (T : ErrX K C) (no : PySem.W.findIn K (.ref C) "thing" = some none) (e1 : PySem.W.exmOne K (.ref C) (.ref C) = some true) (e2 : PySem.W.kitOne K (.ref C) (.ref D) = some true) (e3 : PySem.W.kitAny K (.ref C) [.ref F1, .ref F2, .ref F3] = some false) :
    ∀ (X : Cx) (q : Str), X.prog = P → X.w = w → X.K = K → X.mg = mg → X.base = base → LamX.GivesTo X Ng "_law_told" (defScope s_law_told) g cdg (defBody s_law_told) "call" q (TTold C) := by
  intro X q hp hw hK hm hb f c' s H Q tl act hc h
  subst hp hw hK hm hb hNg
  let Z : Cx := (cxOf CX0 X.prog X.w X.K X.mg X.base ["call", "e"] "_law_told" (defScope s_law_told) g cdg X.A X.stack s H E0).nox
  have nd : Z.N.Nodup := show (["call", "e"] : List Str).Nodup by decide
  refine ⟨_, pss_one (ps_tryW (X := Z)
      (tb := fun W D σ H => ∃ Ech : XK, (∀ cls d σ' H', σ'.length = 2 → Ech cls d H' → W cls d σ' H') ∧ σ[0]? = some (some (.ref f)) ∧ H c' = some (LamX.CodeO c' q) ∧ tl Ech H (fun v H' => [V.str "told", v].length ≤ sizeLine ∧ ∀ a, H' a = none → D.rt (.ref a) (upd H' a (.tup [.str "told", v]))))
      rfl rfl (fun W pn xe tk _ => ?b)
      (hdw_as (X := Z) (i := 1) rfl rfl nd rfl rfl ⟨rfl, by decide, .inl gC⟩
        (fun a oe cls d pn hz hf => by
          exact pss_one (ps_ret (pe_tup (pa_cons pe_str (pa_cons (pe_xf (X := Z) T.f no hz hf (pv 1)) (pa_cons (pAndT X.K
            (pe_callB (call_isY (X := Z) (a := a) (pn := pn) T hz hf) (by rfl) B.isinstance (by decide +kernel) (pa_cons (pv 1) (pa_cons (pe_clsN (by rfl) gD) pa_nil)))
            (pe_one (pNotT X.K (pe_callB (call_isYT (X := Z) (a := a) (pn := pn) T hz hf) (by rfl) B.isinstance (by decide +kernel) (pa_cons (pv 1) (pa_cons (pe_tup (pa_cons (pe_clsN (by rfl) g1) (pa_cons (pe_clsN (by rfl) g2) (pa_cons (pe_clsN (by rfl) g3) pa_nil)))) pa_nil)))))) pa_nil))))))
        (hdw_un rfl rfl ⟨rfl, by decide, .inl gD⟩ (fun a oe cls d pn hz hf => by exact pss_one (ps_ret (pe_tup (pa_cons pe_str pa_nil)))) (hdw_nil rfl rfl LamX.takes0)))), ?fin⟩
  case b =>
    refine ⟨fun pins s' σ H' D I h' => ?_⟩
    obtain ⟨Ech, hW, h1, h2, h3⟩ := h'
    have hp := fun p1 p2 => act (fun cls d σ H => σ.length = 2 → W cls d σ H) pn xe Ech p1 p2 (Takes.len (X := Z.tr pn xe) tk) fun cls d σ' H' e l => hW cls d σ' H' l e
    exact (pss_one (ps_ret (pe_tup (pa_cons pe_str (pa_cons (hp _ _) pa_nil))))).run pins s' σ H' D I ⟨h1, h2, h3⟩
  case fin =>
    refine ⟨_, fun cls d σ' H' hl hE => ?_, rfl, hc, h⟩
    obtain ⟨rfl, dx, fs, v, rfl, hx, hv, hQ⟩ := hE
    refine ⟨true, e1, fun _ a na => ?_, fun z => by cases z⟩
    have s1 : (σ'.set 1 (some (V.ref a)))[1]? = some (some (V.ref a)) := List.getElem?_set_self (by rw [hl]; omega)
    refine ⟨_, s1, rfl, rfl, dx, fs, v, rfl, hx, hv, ?_⟩
    refine ⟨_, s1, rfl, dx, rfl, _, _, true, fs, rfl, .own D, hx, e2, true, rfl, ?_⟩
    rw [if_pos rfl]
    refine ⟨_, s1, by rw [sizeLine_eq]; show 3 ≤ _; omega, fun tp nt => ?_⟩
    have ne : dx ≠ tp := fun z => by rw [z, nt] at hx; cases hx
    refine ⟨rfl, dx, rfl, tp, _, _, false, fs, rfl, upd_same, .cons (.own F1) (.cons (.own F2) (.cons (.own F3) .nil)), by rw [upd_ne ne]; exact hx, e3, false, rfl, by rw [sizeLine_eq]; show 3 ≤ _; omega, fun a2 n2 => ?_⟩
    exact hQ _ a2 (fun b nb => upd_ne fun z => nb (by rw [z]; exact nt)) (Kq.new nt) n2
end
end Kz
set_option Elab.async false
set_option linter.all false
set_option maxRecDepth 100000
set_option maxHeartbeats 4000000
namespace Kz
open PySem PySem.Spec PyProof.Rows L2
def m_is_whole (p_thing : PyData) : W PyData := fun R => letW (fun P => isiW p_thing "int" fun c_2 => truthW c_2 fun b_1 => cW b_1 (isiW p_thing "bool" fun c_4 => truthW c_4 fun b_3 => P (PyData.bool (!b_3))) (P c_2)) R
def m_is_step (p_n : PyData) (p_thing : PyData) : W PyData := fun R => letW (fun P => isiW p_thing "tuple" fun c_2 => truthW c_2 fun b_1 => cW (!b_1) (P true) (lenW p_thing fun v_5 => neW v_5 p_n fun c_4 => boolW c_4 fun b_3 => P b_3)) fun b => cW b (letW (fun P => P (PyData.bool false)) R) (letW (fun P => iterW p_thing fun ds_6 => allGW (fun part_8 K => m_is_whole part_8 fun v_10 => K v_10) ds_6 fun c_9 => P c_9) R)
def m_common_divisor (p_tops : PyData) (p_bottom : PyData) : W PyData := fun R => letW (fun P => absW p_bottom fun v_10 => P v_10) fun common_1 => forL (S := PyData) (fun P => iterW p_tops fun ds_5 => P ds_5) (fun top_7 s_2 nx_3 bk_4 => letW (fun P => gcdW s_2 top_7 fun v_9 => P v_9) fun common_8 => nx_3 common_8) common_1 (fun s_2 => letW (fun P => P s_2) R)
def m_rounded (p_spot : PyData) : W PyData := fun R => letW (fun P => P p_spot) fun d_1 => unpS2W d_1 fun tops_2 bottom_3 => letW (fun P => iterW tops_2 fun ds_5 => ds_5.length ≤ 1000000 ∧ lcW (fun top_7 K => mulW (PyData.int 2) top_7 fun v_12 => addW v_12 bottom_3 fun v_11 => mulW (PyData.int 2) bottom_3 fun v_13 => fdivW v_11 v_13 fun v_10 => K [v_10]) ds_5 fun es_9 => tupleW (PyData.list es_9) fun v_8 => P v_8) R
def m_is_spot (p_n : PyData) (p_thing : PyData) : W PyData := fun R => letW (fun P => isiW p_thing "tuple" fun c_2 => truthW c_2 fun b_1 => cW (!b_1) (P true) (lenW p_thing fun v_5 => neW v_5 (PyData.int 2) fun c_4 => boolW c_4 fun b_3 => P b_3)) fun b => cW b (letW (fun P => P (PyData.bool false)) R) (letW (fun P => P p_thing) fun d_6 => unpS2W d_6 fun tops_7 bottom_8 => letW (fun P => m_is_step p_n tops_7 fun v_11 => truthW v_11 fun b_10 => cW (!b_10) (P true) (m_is_whole bottom_8 fun v_13 => truthW v_13 fun b_12 => cW (!b_12) (P true) (ltW bottom_8 (PyData.int 1) fun c_15 => boolW c_15 fun b_14 => P b_14))) fun b => cW b (letW (fun P => P (PyData.bool false)) R) (letW (fun P => m_common_divisor tops_7 bottom_8 fun v_17 => eqW v_17 (PyData.int 1) fun c_16 => P c_16) R))
def x_need_spot (p_n : PyData) (p_thing : PyData) : WR := fun R X => letW (fun P => m_is_spot p_n p_thing fun v_2 => truthW v_2 fun b_1 => P (!b_1)) fun b => cW b (X "BadSpot" p_thing) (R PyData.none)
def m_need_spot (p_n : PyData) (p_thing : PyData) : W PyData := fun R => letW (fun P => m_is_spot p_n p_thing fun v_4 => truthW v_4 fun b_3 => P (!b_3)) fun b => cW b (False) (R PyData.none)
def x_plain_place (p_n : PyData) (p_spot : PyData) : WR := fun R X => x_need_spot p_n p_spot (fun _ => letW (fun P => m_rounded p_spot fun v_1 => P v_1) R) X
def m_plain_place (p_n : PyData) (p_spot : PyData) : W PyData := fun R => letW (fun P => m_need_spot p_n p_spot fun v_4 => P v_4) fun _ => letW (fun P => m_rounded p_spot fun v_3 => P v_3) R
def m_law_pick (p_some : PyData) : W PyData := fun R => letW (fun P => lenW p_some fun v_2 => drawW v_2 fun v_3 => idxW p_some v_3 fun v_1 => P v_1) R
def m_law_is_step (p_n : PyData) (p_thing : PyData) : W PyData := fun R => letW (fun P => isiW p_thing "tuple" fun c_2 => truthW c_2 fun b_1 => cW (!b_1) (P true) (lenW p_thing fun v_5 => neW v_5 p_n fun c_4 => boolW c_4 fun b_3 => P b_3)) fun b => cW b (letW (fun P => P (PyData.bool false)) R) (letW (fun P => iterW p_thing fun ds_6 => ds_6.length ≤ 1000000 ∧ lcW (fun x_8 K => bindW (fun P => isiW x_8 "int" fun c_13 => truthW c_13 fun b_12 => cW (!b_12) (P true) (isiW x_8 "bool" fun c_15 => truthW c_15 fun b_14 => P b_14)) fun b_11 => cW b_11 (K [x_8]) (K [])) ds_6 fun es_10 => ([] : List PyData).length ≤ 1000 ∧ eqW (PyData.list es_10) (PyData.list []) fun c_9 => P c_9) R)
def m_law_common (p_one : PyData) (p_other : PyData) : W PyData := fun R => letW2 (fun P => absW p_one fun v_2 => P v_2) (fun P => absW p_other fun v_4 => P v_4) fun one_1 other_3 => whileW (S := PyData × PyData) (fun s_5 => fun P => neW s_5.2 (PyData.int 0) fun c_13 => boolW c_13 fun b_12 => P b_12) (fun s_5 nx_6 bk_7 => letW2 (fun P => P s_5.2) (fun P => intW s_5.1 fun v_11 => modW v_11 s_5.2 fun v_10 => P v_10) fun one_8 other_9 => nx_6 (one_8, other_9)) (one_1, other_3) (fun s_5 => letW (fun P => P s_5.1) R)
def m_law_spot (p_tops : PyData) (p_bottom : PyData) : W PyData := fun R => letW (fun P => P p_bottom) fun by_1 => forL (S := PyData) (fun P => iterW p_tops fun ds_5 => P ds_5) (fun top_7 s_2 nx_3 bk_4 => letW (fun P => m_law_common s_2 top_7 fun v_9 => P v_9) fun by_8 => nx_3 by_8) by_1 (fun s_2 => letW (fun P => iterW p_tops fun ds_10 => ds_10.length ≤ 1000000 ∧ lcW (fun top_12 K => fdivW top_12 s_2 fun v_15 => K [v_15]) ds_10 fun es_14 => tupleW (PyData.list es_14) fun v_13 => fdivW p_bottom s_2 fun v_16 => ([v_13, v_16] : List PyData).length ≤ 1000 ∧ P (PyData.tuple [v_13, v_16])) R)
def m_law_is_spot (p_n : PyData) (p_thing : PyData) : W PyData := fun R => letW (fun P => isiW p_thing "tuple" fun c_2 => truthW c_2 fun b_1 => cW (!b_1) (P true) (lenW p_thing fun v_5 => neW v_5 (PyData.int 2) fun c_4 => boolW c_4 fun b_3 => cW b_3 (P true) (idxW p_thing (PyData.int 0) fun v_7 => m_law_is_step p_n v_7 fun v_8 => truthW v_8 fun b_6 => P (!b_6)))) fun b => cW b (letW (fun P => P (PyData.bool false)) R) (letW (fun P => idxW p_thing (PyData.int 1) fun v_11 => isiW v_11 "int" fun c_10 => truthW c_10 fun b_9 => cW (!b_9) (P true) (idxW p_thing (PyData.int 1) fun v_14 => isiW v_14 "bool" fun c_13 => truthW c_13 fun b_12 => cW b_12 (P true) (idxW p_thing (PyData.int 1) fun v_17 => ltW v_17 (PyData.int 1) fun c_16 => boolW c_16 fun b_15 => P b_15))) fun b => cW b (letW (fun P => P (PyData.bool false)) R) (letW (fun P => idxW p_thing (PyData.int 0) fun v_19 => idxW p_thing (PyData.int 1) fun v_20 => m_law_spot v_19 v_20 fun v_21 => eqW v_21 p_thing fun c_18 => P c_18) R))
def m_law_drawn_spot (p_n : PyData) : W PyData := fun R => letW (fun P => drawW (PyData.int 10000) fun v_16 => addW (PyData.int 1) v_16 fun v_15 => ([(PyData.int 1), (PyData.int 2), (PyData.int 2), (PyData.int 3), (PyData.int 4), (PyData.int 6), (PyData.int 5), (PyData.int 7), (PyData.int 12), (PyData.int 100), (PyData.int 9973), v_15] : List PyData).length ≤ 1000 ∧ m_law_pick (PyData.list [(PyData.int 1), (PyData.int 2), (PyData.int 2), (PyData.int 3), (PyData.int 4), (PyData.int 6), (PyData.int 5), (PyData.int 7), (PyData.int 12), (PyData.int 100), (PyData.int 9973), v_15]) fun v_17 => P v_17) fun bottom_1 => letW (fun P => powW (PyData.int 10) (PyData.int 6) fun v_13 => ([(PyData.int 2), (PyData.int 3), (PyData.int 9), (PyData.int 100), v_13] : List PyData).length ≤ 1000 ∧ m_law_pick (PyData.list [(PyData.int 2), (PyData.int 3), (PyData.int 9), (PyData.int 100), v_13]) fun v_14 => P v_14) fun far_2 => letW (fun P => rng1W p_n fun ds_3 => ds_3.length ≤ 1000000 ∧ lcW (fun i_5 K => mulW (PyData.int 2) far_2 fun v_10 => addW v_10 (PyData.int 1) fun v_9 => drawW v_9 fun v_11 => subW v_11 far_2 fun v_8 => K [v_8]) ds_3 fun es_7 => tupleW (PyData.list es_7) fun v_6 => m_law_spot v_6 bottom_1 fun v_12 => P v_12) R
def m_law_any : Nat → PyData → W PyData
  | 0, _ => fun _ => False
  | fuel + 1, p_deep => fun R => letW (fun P => drawW (PyData.int 9) fun v_31 => P v_31) fun way_1 => letW (fun P => ltW way_1 (PyData.int 2) fun c_3 => boolW c_3 fun b_2 => P b_2) fun b => cW b (letW (fun P => negW (PyData.int 1) fun v_4 => powW (PyData.int 10) (PyData.int 39) fun v_5 => powW (PyData.int 10) (PyData.int 20) fun v_7 => negW v_7 fun v_6 => ([(PyData.int 0), (PyData.int 1), v_4, (PyData.int 2), (PyData.int 3), (PyData.int 7), v_5, v_6] : List PyData).length ≤ 1000 ∧ m_law_pick (PyData.list [(PyData.int 0), (PyData.int 1), v_4, (PyData.int 2), (PyData.int 3), (PyData.int 7), v_5, v_6]) fun v_8 => P v_8) R) (letW (fun P => eqW way_1 (PyData.int 2) fun c_10 => boolW c_10 fun b_9 => P b_9) fun b => cW b (letW (fun P => ([(PyData.str ""), (PyData.str "form"), (PyData.str "low"), (PyData.str "wall"), (PyData.str "other"), (PyData.str "nearest"), (PyData.str "0"), (PyData.str "~"), (PyData.str "Form")] : List PyData).length ≤ 1000 ∧ m_law_pick (PyData.list [(PyData.str ""), (PyData.str "form"), (PyData.str "low"), (PyData.str "wall"), (PyData.str "other"), (PyData.str "nearest"), (PyData.str "0"), (PyData.str "~"), (PyData.str "Form")]) fun v_11 => P v_11) R) (letW (fun P => eqW way_1 (PyData.int 3) fun c_13 => boolW c_13 fun b_12 => P b_12) fun b => cW b (letW (fun P => ([(PyData.bool true), (PyData.bool false), PyData.none] : List PyData).length ≤ 1000 ∧ m_law_pick (PyData.list [(PyData.bool true), (PyData.bool false), PyData.none]) fun v_14 => P v_14) R) (letW (fun P => gtW p_deep (PyData.int 0) fun c_26 => boolW c_26 fun b_25 => cW b_25 (drawW (PyData.int 4) fun v_30 => rng1W v_30 fun ds_16 => ds_16.length ≤ 1000000 ∧ lcW (fun turn_18 K => subW p_deep (PyData.int 1) fun v_28 => m_law_any fuel v_28 fun v_29 => K [v_29]) ds_16 fun es_27 => P (PyData.list es_27)) (([] : List PyData).length ≤ 1000 ∧ P (PyData.list []))) fun some_15 => letW (fun P => eqW way_1 (PyData.int 4) fun c_20 => boolW c_20 fun b_19 => P b_19) fun b => cW b (letW (fun P => P some_15) R) (letW (fun P => eqW way_1 (PyData.int 5) fun c_22 => boolW c_22 fun b_21 => cW b_21 (lenW some_15 fun v_23 => P (PyData.dict ((([.inr "form", .inl (1)] : List Key).map keyD).zip [v_23, PyData.none]))) (tupleW some_15 fun v_24 => P v_24)) R))))
def m_law_changed_tuple (p_thing : PyData) : W PyData := fun R => letW3 (fun P => drawW (PyData.int 8) fun v_2 => P v_2) (fun P => lenW p_thing fun v_5 => addW v_5 (PyData.int 1) fun v_4 => drawW v_4 fun v_6 => P v_6) (fun P => lenW p_thing fun v_9 => addW v_9 (PyData.int 1) fun v_8 => drawW v_8 fun v_10 => P v_10) fun way_1 at_3 to_7 => letW2 (fun P => min2W at_3 to_7 fun v_12 => P v_12) (fun P => max2W at_3 to_7 fun v_14 => P v_14) fun low_11 high_13 => letW (fun P => eqW way_1 (PyData.int 0) fun c_16 => boolW c_16 fun b_15 => P b_15) fun b => cW b (letW (fun P => listW p_thing fun v_17 => P v_17) R) (letW (fun P => eqW way_1 (PyData.int 1) fun c_19 => boolW c_19 fun b_18 => P b_18) fun b => cW b (letW (fun P => partIW at_3 fun o_20 => cutW p_thing none o_20 fun v_23 => addW at_3 (PyData.int 1) fun v_25 => partIW v_25 fun o_21 => cutW p_thing o_21 none fun v_24 => addW v_23 v_24 fun v_22 => P v_22) R) (letW (fun P => eqW way_1 (PyData.int 2) fun c_27 => boolW c_27 fun b_26 => P b_26) fun b => cW b (letW (fun P => partIW at_3 fun o_28 => cutW p_thing none o_28 fun v_34 => partIW at_3 fun o_29 => addW at_3 (PyData.int 1) fun v_36 => partIW v_36 fun o_30 => cutW p_thing o_29 o_30 fun v_35 => addW v_34 v_35 fun v_33 => partIW at_3 fun o_31 => cutW p_thing o_31 none fun v_37 => addW v_33 v_37 fun v_32 => P v_32) R) (letW (fun P => eqW way_1 (PyData.int 3) fun c_39 => boolW c_39 fun b_38 => P b_38) fun b => cW b (letW (fun P => partIW low_11 fun o_41 => cutW p_thing none o_41 fun v_57 => partIW high_13 fun o_42 => addW high_13 (PyData.int 1) fun v_59 => partIW v_59 fun o_43 => cutW p_thing o_42 o_43 fun v_58 => addW v_57 v_58 fun v_56 => addW low_11 (PyData.int 1) fun v_61 => partIW v_61 fun o_44 => partIW high_13 fun o_45 => cutW p_thing o_44 o_45 fun v_60 => addW v_56 v_60 fun v_55 => P v_55) fun some_40 => letW (fun P => partIW low_11 fun o_46 => addW low_11 (PyData.int 1) fun v_52 => partIW v_52 fun o_47 => cutW p_thing o_46 o_47 fun v_51 => addW some_40 v_51 fun v_50 => addW high_13 (PyData.int 1) fun v_54 => partIW v_54 fun o_48 => cutW p_thing o_48 none fun v_53 => addW v_50 v_53 fun v_49 => P v_49) R) (letW (fun P => eqW way_1 (PyData.int 4) fun c_63 => boolW c_63 fun b_62 => P b_62) fun b => cW b (letW (fun P => partIW at_3 fun o_64 => cutW p_thing none o_64 fun v_68 => m_law_any 4 (PyData.int 0) fun v_69 => ([v_69] : List PyData).length ≤ 1000 ∧ addW v_68 (PyData.tuple [v_69]) fun v_67 => partIW at_3 fun o_65 => cutW p_thing o_65 none fun v_70 => addW v_67 v_70 fun v_66 => P v_66) R) (letW (fun P => eqW way_1 (PyData.int 5) fun c_72 => boolW c_72 fun b_71 => P b_71) fun b => cW b (letW (fun P => ([p_thing] : List PyData).length ≤ 1000 ∧ P (PyData.tuple [p_thing])) R) (letW (fun P => eqW way_1 (PyData.int 6) fun c_77 => boolW c_77 fun b_76 => cW b_76 (revW p_thing fun v_73 => P v_73) (partIW low_11 fun o_74 => partIW high_13 fun o_75 => cutW p_thing o_74 o_75 fun v_78 => P v_78)) R))))))
def m_law_bent : Nat → PyData → W PyData
  | 0, _ => fun _ => False
  | fuel + 1, p_thing => fun R => letW (fun P => isiW p_thing "tuple" fun c_2 => truthW c_2 fun b_1 => cW b_1 (([] : List PyData).length ≤ 1000 ∧ neW p_thing (PyData.tuple []) fun c_4 => boolW c_4 fun b_3 => cW b_3 (drawW (PyData.int 5) fun v_7 => gtW v_7 (PyData.int 0) fun c_6 => boolW c_6 fun b_5 => P b_5) (P false)) (P false)) fun b => cW b (letW (fun P => lenW p_thing fun v_18 => drawW v_18 fun v_19 => P v_19) fun at_8 => letW (fun P => partIW at_8 fun o_9 => cutW p_thing none o_9 fun v_13 => idxW p_thing at_8 fun v_14 => m_law_bent fuel v_14 fun v_15 => ([v_15] : List PyData).length ≤ 1000 ∧ addW v_13 (PyData.tuple [v_15]) fun v_12 => addW at_8 (PyData.int 1) fun v_17 => partIW v_17 fun o_10 => cutW p_thing o_10 none fun v_16 => addW v_12 v_16 fun v_11 => P v_11) R) (letW (fun P => drawW (PyData.int 5) fun v_49 => P v_49) fun way_20 => letW (fun P => isiW p_thing "int" fun c_22 => truthW c_22 fun b_21 => cW b_21 (gtW way_20 (PyData.int 0) fun c_24 => boolW c_24 fun b_23 => P b_23) (P false)) fun b => cW b (letW (fun P => addW p_thing (PyData.int 1) fun v_29 => subW p_thing (PyData.int 1) fun v_30 => eqW p_thing (PyData.int 1) fun c_31 => subW (PyData.int 0) p_thing fun v_32 => ([v_29, v_30, c_31, v_32] : List PyData).length ≤ 1000 ∧ P (PyData.list [v_29, v_30, c_31, v_32])) fun some_25 => letW (fun P => strW p_thing fun v_27 => ([p_thing] : List PyData).length ≤ 1000 ∧ ([p_thing] : List PyData).length ≤ 1000 ∧ ([v_27, (PyData.tuple [p_thing]), (PyData.int 0), (PyData.list [p_thing])] : List PyData).length ≤ 1000 ∧ addW some_25 (PyData.list [v_27, (PyData.tuple [p_thing]), (PyData.int 0), (PyData.list [p_thing])]) fun v_26 => m_law_pick v_26 fun v_28 => P v_28) R) (letW (fun P => isiW p_thing "str" fun c_34 => truthW c_34 fun b_33 => cW b_33 (gtW way_20 (PyData.int 0) fun c_36 => boolW c_36 fun b_35 => P b_35) (P false)) fun b => cW b (letW (fun P => upperW p_thing fun v_38 => addW p_thing (PyData.str "s") fun v_39 => negW (PyData.int 1) fun v_41 => partIW v_41 fun o_37 => cutW p_thing none o_37 fun v_40 => ([p_thing] : List PyData).length ≤ 1000 ∧ ([(PyData.str "form"), (PyData.str "low"), (PyData.str "wall"), (PyData.str "other"), v_38, v_39, v_40, (PyData.tuple [p_thing])] : List PyData).length ≤ 1000 ∧ m_law_pick (PyData.list [(PyData.str "form"), (PyData.str "low"), (PyData.str "wall"), (PyData.str "other"), v_38, v_39, v_40, (PyData.tuple [p_thing])]) fun v_42 => P v_42) R) (letW (fun P => isiW p_thing "tuple" fun c_44 => truthW c_44 fun b_43 => cW b_43 (gtW way_20 (PyData.int 0) fun c_46 => boolW c_46 fun b_45 => P b_45) (P false)) fun b => cW b (letW (fun P => m_law_changed_tuple p_thing fun v_47 => P v_47) R) (letW (fun P => m_law_any 4 (PyData.int 1) fun v_48 => P v_48) R))))
def m_law_often_bent (p_thing : PyData) : W PyData := fun R => letW (fun P => drawW (PyData.int 12) fun v_3 => eqW v_3 (PyData.int 0) fun c_2 => boolW c_2 fun b_1 => P b_1) fun b => cW b (letW (fun P => m_law_any 4 (PyData.int 2) fun v_4 => P v_4) R) (forL (S := PyData) (fun P => ([(PyData.int 0), (PyData.int 1), (PyData.int 1), (PyData.int 1), (PyData.int 2)] : List PyData).length ≤ 1000 ∧ m_law_pick (PyData.list [(PyData.int 0), (PyData.int 1), (PyData.int 1), (PyData.int 1), (PyData.int 2)]) fun v_13 => rng1W v_13 fun ds_8 => P ds_8) (fun turn_10 s_5 nx_6 bk_7 => letW (fun P => m_law_bent 8 s_5 fun v_12 => P v_12) fun thing_11 => nx_6 thing_11) p_thing (fun s_5 => letW (fun P => P s_5) R))
def m_law_truths : Nat → PyData → W PyData
  | 0, _ => fun _ => False
  | fuel + 1, p_thing => fun R => letW (fun P => isiW p_thing "tuple" fun c_2 => truthW c_2 fun b_1 => P b_1) fun b => cW b (letW (fun P => iterW p_thing fun ds_3 => ds_3.length ≤ 1000000 ∧ lcW (fun it_5 K => m_law_truths fuel it_5 fun v_8 => K [v_8]) ds_3 fun es_7 => tupleW (PyData.list es_7) fun v_6 => P v_6) R) (letW (fun P => bindW (fun P => isiW p_thing "int" fun c_11 => truthW c_11 fun b_10 => cW b_10 (([(PyData.int 0), (PyData.int 1)] : List PyData).length ≤ 1000 ∧ inW p_thing (PyData.tuple [(PyData.int 0), (PyData.int 1)]) fun c_13 => boolW c_13 fun b_12 => P b_12) (P false)) fun b_9 => cW b_9 (eqW p_thing (PyData.int 1) fun c_14 => P c_14) (P p_thing)) R)
def m_law_plain (p_spot : PyData) : W PyData := fun R => letW (fun P => idxW p_spot (PyData.int 0) fun v_12 => iterW v_12 fun ds_1 => ds_1.length ≤ 1000000 ∧ lcW (fun top_3 K => mulW (PyData.int 2) top_3 fun v_8 => idxW p_spot (PyData.int 1) fun v_9 => addW v_8 v_9 fun v_7 => idxW p_spot (PyData.int 1) fun v_11 => mulW (PyData.int 2) v_11 fun v_10 => fdivW v_7 v_10 fun v_6 => K [v_6]) ds_1 fun es_5 => tupleW (PyData.list es_5) fun v_4 => P v_4) R
def m_law_value (p_n : PyData) : W PyData := fun R => letW2 (fun P => m_law_drawn_spot p_n fun v_2 => P v_2) (fun P => drawW (PyData.int 8) fun v_4 => P v_4) fun spot_1 way_3 => letW (fun P => P spot_1) fun d_5 => unpS2W d_5 fun tops_6 bottom_7 => letW (fun P => ltW way_3 (PyData.int 3) fun c_10 => boolW c_10 fun b_9 => P b_9) fun b => cW b (letW (fun P => P spot_1) R) (letW (fun P => eqW way_3 (PyData.int 3) fun c_12 => boolW c_12 fun b_11 => P b_11) fun b => cW b (letW (fun P => drawW (PyData.int 4) fun v_25 => addW (PyData.int 2) v_25 fun v_24 => P v_24) fun k_13 => letW (fun P => iterW tops_6 fun ds_14 => ds_14.length ≤ 1000000 ∧ lcW (fun top_16 K => mulW k_13 top_16 fun v_20 => fdivW v_20 (PyData.int 10) fun v_19 => K [v_19]) ds_14 fun es_18 => tupleW (PyData.list es_18) fun v_17 => fdivW bottom_7 (PyData.int 10) fun v_23 => addW v_23 (PyData.int 1) fun v_22 => mulW k_13 v_22 fun v_21 => ([v_17, v_21] : List PyData).length ≤ 1000 ∧ P (PyData.tuple [v_17, v_21])) R) (letW (fun P => eqW way_3 (PyData.int 4) fun c_27 => boolW c_27 fun b_26 => P b_26) fun b => cW b (letW (fun P => negW bottom_7 fun v_28 => mulW (PyData.int 2) bottom_7 fun v_29 => addW bottom_7 (PyData.int 1) fun v_30 => subW bottom_7 (PyData.int 1) fun v_31 => ([(PyData.int 0), v_28, v_29, v_30, v_31] : List PyData).length ≤ 1000 ∧ m_law_pick (PyData.list [(PyData.int 0), v_28, v_29, v_30, v_31]) fun v_32 => ([tops_6, v_32] : List PyData).length ≤ 1000 ∧ P (PyData.tuple [tops_6, v_32])) R) (letW (fun P => eqW way_3 (PyData.int 5) fun c_34 => boolW c_34 fun b_33 => P b_33) fun b => cW b (letW (fun P => ([(PyData.int 0)] : List PyData).length ≤ 1000 ∧ addW tops_6 (PyData.tuple [(PyData.int 0)]) fun v_36 => ([v_36, bottom_7] : List PyData).length ≤ 1000 ∧ partIW (PyData.int 1) fun o_35 => cutW tops_6 o_35 none fun v_37 => ([v_37, bottom_7] : List PyData).length ≤ 1000 ∧ ([bottom_7, tops_6] : List PyData).length ≤ 1000 ∧ ([tops_6] : List PyData).length ≤ 1000 ∧ ([tops_6, bottom_7, (PyData.int 1)] : List PyData).length ≤ 1000 ∧ ([(PyData.tuple [v_36, bottom_7]), (PyData.tuple [v_37, bottom_7]), (PyData.tuple [bottom_7, tops_6]), (PyData.tuple [tops_6]), tops_6, (PyData.tuple [tops_6, bottom_7, (PyData.int 1)])] : List PyData).length ≤ 1000 ∧ m_law_pick (PyData.list [(PyData.tuple [v_36, bottom_7]), (PyData.tuple [v_37, bottom_7]), (PyData.tuple [bottom_7, tops_6]), (PyData.tuple [tops_6]), tops_6, (PyData.tuple [tops_6, bottom_7, (PyData.int 1)])]) fun v_38 => P v_38) R) (letW (fun P => eqW way_3 (PyData.int 6) fun c_40 => boolW c_40 fun b_39 => cW b_39 (m_law_truths 4 spot_1 fun v_41 => P v_41) (([(PyData.int 0)] : List PyData).length ≤ 1000 ∧ mulW (PyData.tuple [(PyData.int 0)]) p_n fun v_42 => drawW (PyData.int 3) fun v_44 => addW (PyData.int 1) v_44 fun v_43 => ([v_42, v_43] : List PyData).length ≤ 1000 ∧ P (PyData.tuple [v_42, v_43]))) R))))
def m_law_is_great (p_n : PyData) (p_thing : PyData) : W PyData := fun R => letW (fun P => m_law_is_spot p_n p_thing fun v_2 => truthW v_2 fun b_1 => P (!b_1)) fun b => cW b (letW (fun P => P (PyData.bool false)) R) (letW (fun P => idxW p_thing (PyData.int 1) fun v_8 => gtW v_8 (PyData.int 10000) fun c_7 => truthW c_7 fun b_6 => cW b_6 (P c_7) (idxW p_thing (PyData.int 0) fun v_13 => iterW v_13 fun ds_3 => ds_3.length ≤ 1000000 ∧ lcW (fun top_5 K => absW top_5 fun v_12 => K [v_12]) ds_3 fun es_11 => maxSW (PyData.list es_11) fun v_10 => powW (PyData.int 10) (PyData.int 6) fun v_14 => gtW v_10 v_14 fun c_9 => P c_9)) R)
def m_law_is_moved_right (p_n : PyData) (p_spot : PyData) (p_due : PyData) : W PyData := fun R => letW (fun P => rng1W p_n fun ds_2 => ds_2.length ≤ 1000000 ∧ lcW (fun i_4 K => drawW (PyData.int 21) fun v_40 => subW v_40 (PyData.int 10) fun v_39 => K [v_39]) ds_2 fun es_38 => tupleW (PyData.list es_38) fun v_37 => P v_37) fun place_1 => letW (fun P => idxW p_spot (PyData.int 0) fun v_35 => zipW v_35 place_1 fun ds_6 => ds_6.length ≤ 1000000 ∧ lcW (fun d_7 K => unp2W d_7 fun top_8 x_9 => idxW p_spot (PyData.int 1) fun v_34 => mulW v_34 x_9 fun v_33 => addW top_8 v_33 fun v_32 => K [v_32]) ds_6 fun es_31 => tupleW (PyData.list es_31) fun v_30 => idxW p_spot (PyData.int 1) fun v_36 => ([v_30, v_36] : List PyData).length ≤ 1000 ∧ P (PyData.tuple [v_30, v_36])) fun moved_5 => letW (fun P => ([place_1, (PyData.int 1)] : List PyData).length ≤ 1000 ∧ m_plain_place p_n (PyData.tuple [place_1, (PyData.int 1)]) fun v_14 => reprW v_14 fun r_13 => reprW place_1 fun r_15 => neW r_13 r_15 fun c_12 => boolW c_12 fun b_11 => P b_11) fun b => cW b (letW (fun P => P (PyData.bool false)) R) (letW (fun P => m_law_is_great p_n moved_5 fun v_17 => truthW v_17 fun b_16 => P b_16) fun b => cW b (letW (fun P => P (PyData.bool true)) R) (letW (fun P => m_plain_place p_n moved_5 fun v_25 => reprW v_25 fun r_24 => zipW p_due place_1 fun ds_18 => ds_18.length ≤ 1000000 ∧ lcW (fun d_19 K => unp2W d_19 fun x_20 y_21 => addW x_20 y_21 fun v_29 => K [v_29]) ds_18 fun es_28 => tupleW (PyData.list es_28) fun v_27 => reprW v_27 fun r_26 => eqW r_24 r_26 fun c_23 => P c_23) R))
def m_law : W PyData := fun R => forL (S := Unit) (fun P => rng1W (PyData.int 14) fun ds_4 => P ds_4) (fun turn_6 s_1 nx_2 bk_3 => letW2 (fun P => drawW (PyData.int 3) fun v_9 => addW (PyData.int 1) v_9 fun v_8 => P v_8) (fun P => bandW turn_6 (PyData.int 1) fun v_11 => P v_11) fun n_7 way_10 => letW (fun P => m_law_value n_7 fun v_54 => P v_54) fun thing_12 => joinW (S := PyData) (fun s_15 => joinW (S := PyData) (fun s_21 => letW2 (fun P => m_law_is_spot n_7 s_21 fun v_26 => P v_26) (fun P => reprW s_21 fun r_28 => P r_28) fun due_25 text_27 => letW (fun P => eqW way_10 (PyData.int 0) fun c_51 => boolW c_51 fun b_50 => cW b_50 (m_is_spot n_7 s_21 fun v_52 => P v_52) (m_is_spot n_7 s_21 fun v_53 => P v_53)) fun told_29 => letW (fun P => m_law_told (fun P X => x_plain_place n_7 s_21 P X) fun v_49 => ([v_49] : List PyData).length ≤ 1000 ∧ P ([v_49] : List PyData)) fun near_30 => letW (fun P => m_law_told (fun P X => x_plain_place n_7 s_21 P X) fun v_48 => near_30.length ≤ 1000000 ∧ P (near_30 ++ [v_48])) fun near_31 => letW (fun P => truthW due_25 fun b_46 => cW b_46 (m_law_plain s_21 fun v_47 => ([(PyData.str "told"), v_47] : List PyData).length ≤ 1000 ∧ P (PyData.tuple [(PyData.str "told"), v_47])) (([(PyData.str "spot"), s_21, (PyData.bool true)] : List PyData).length ≤ 1000 ∧ P (PyData.tuple [(PyData.str "spot"), s_21, (PyData.bool true)]))) fun far_32 => letW (fun P => m_is_spot n_7 s_21 fun v_36 => ([told_29, v_36, (PyData.list near_31)] : List PyData).length ≤ 1000 ∧ reprW (PyData.tuple [told_29, v_36, (PyData.list near_31)]) fun r_35 => ([far_32] : List PyData).length ≤ 1000 ∧ mulW (PyData.list [far_32]) (PyData.int 2) fun v_38 => ([due_25, due_25, v_38] : List PyData).length ≤ 1000 ∧ reprW (PyData.tuple [due_25, due_25, v_38]) fun r_37 => neW r_35 r_37 fun c_34 => boolW c_34 fun b_33 => cW b_33 (P true) (reprW s_21 fun r_41 => neW r_41 text_27 fun c_40 => boolW c_40 fun b_39 => P b_39)) fun b => cW b (letW (fun P => P (PyData.bool false)) R) (letW (fun P => truthW due_25 fun b_42 => cW b_42 (idxW far_32 (PyData.int 1) fun v_44 => m_law_is_moved_right n_7 s_21 v_44 fun v_45 => truthW v_45 fun b_43 => P (!b_43)) (P false)) fun b => cW b (letW (fun P => P (PyData.bool false)) R) (nx_2 ()))) (fun k_22 => letW (fun P => m_law_is_great n_7 s_15 fun v_20 => truthW v_20 fun b_19 => P b_19) fun b => cW b (letW (fun P => ([(PyData.int 7)] : List PyData).length ≤ 1000 ∧ mulW (PyData.tuple [(PyData.int 7)]) n_7 fun v_24 => ([v_24, (PyData.int 2)] : List PyData).length ≤ 1000 ∧ P (PyData.tuple [v_24, (PyData.int 2)])) fun thing_23 => k_22 thing_23) (k_22 s_15))) (fun k_16 => letW (fun P => gtW turn_6 (PyData.int 6) fun c_14 => boolW c_14 fun b_13 => P b_13) fun b => cW b (letW (fun P => m_law_often_bent thing_12 fun v_18 => P v_18) fun thing_17 => k_16 thing_17) (k_16 thing_12))) () (fun s_1 => letW (fun P => P (PyData.bool true)) R)
end Kz
set_option Elab.async false
set_option linter.all false
set_option maxRecDepth 100000
set_option maxHeartbeats 4000000
namespace Kz
open PySem PySem.Spec PyProof.Rows L2
section
variable {P : Program} {w : World} {K : PySem.W.Frag} {mg : Str → Option Value} {base : Heap} {Ts : List Addr} {Cs : Str → Addr} [GT]
abbrev s_is_whole : Stmt := topS 8
abbrev N_is_whole : List Str := ["thing"]
theorem sc_is_whole : FnScope N_is_whole ["thing"] (defScope s_is_whole) := ⟨rfl, rfl, rfl, by decide +kernel, rfl, by decide +kernel, by decide +kernel⟩
theorem ok_is_whole (B : Bn mg) {f : Addr} {fd : FuncData} (F : Fun K "is_whole" "is_whole" s_is_whole f fd) : FnOk P w K mg base CX0 1 f fd ["thing"] (pureM Ts 1 (ap1 m_is_whole)) := by
  refine ok_pureM F sc_is_whole rfl (by decide) fun cdv A outer s H E hr => ⟨_, (pss_cons (ps_ret (pAndT K (pIsi' K B (pv 0) (nInt B)) (pe_one (pNotT K (pIsi' K B (pv 0) (nBool B)))))) pss_nil), fun p ds R hT hl hm => ?_⟩
  obtain ⟨p_thing, rfl, h⟩ := ap1_inv hm
  unfold m_is_whole at h
  change Rn _ _ [some (.dat p_thing)] _
  exact rx_ret (em_and (em_isi (em_var rfl) er_c) (em_not (em_isi (em_var rfl) er_c))) h
abbrev s_is_step : Stmt := topS 9
abbrev N_is_step : List Str := ["n", "thing", "part"]
theorem sc_is_step : FnScope N_is_step ["n", "thing"] (defScope s_is_step) := ⟨rfl, rfl, rfl, by decide +kernel, rfl, by decide +kernel, by decide +kernel⟩
theorem ok_is_step (B : Bn mg) {c0 P0 : Addr} (hP : P0 ∈ Ts ∧ GT.g P0) (TB : GxR.TabB base mg c0 P0) {f : Addr} {fd : FuncData} (F : FunC K "is_step" "is_step" s_is_step f fd c0) (C_is_whole : Cl P w K mg base "is_whole" ["thing"] 1 (pureM Ts 1 (ap1 m_is_whole))) : FnOk P w K mg base CX0 3 f fd ["n", "thing"] (pureM Ts 2 (ap2 m_is_step)) := by
  refine ok_pureMC F sc_is_step rfl (by decide) fun A outer s H E hr => ⟨_, (pss_cons (ps_if (PW.pt (pw_or (pt_not (ptTru K (pIsi' K B (pv 1) (nTuple B)))) (pw_or1 (pt_cmpR (opNe K hr.units) (pLen' K B (pv 1)) (pv 0) (nomark _))))) (pss_cons (ps_ret pe_bl) pss_nil) pss_nil) (pss_cons (ps_ret (Gz.pe_allG (own := [("part", 2)]) (k := 1) hr (by rfl) B.all TB rfl ⟨blkOk_by (own := [("part", 2)]) (N := N_is_step) (sc := defScope s_is_step) (by decide +kernel), rfl, by decide +kernel, by decide +kernel⟩ sc_is_step.nd rfl (piA K (pv 1)) (fun _ _ _ _ _ _ _ => (gN 2 sc_is_step.nd)) (fun _ _ _ _ _ _ _ _ => pts_nil) (fun _ _ _ _ _ _ _ hA => (pCall C_is_whole hA (by decide) (pa_cons (pv 2) pa_nil))))) pss_nil)), fun p ds R hT hl hm => ?_⟩
  obtain ⟨p_n, p_thing, rfl, h⟩ := ap2_inv hm
  unfold m_is_step at h
  change Rn _ _ [some (.dat p_n), some (.dat p_thing), none] _
  refine rx_if (et_or (et_not (et_truth (em_isi (em_var rfl) er_c))) (et_bool (em_op rs_ne (em_b1 b_len (em_var rfl)) (em_var rfl)))) h (fun h => ?_) (fun h => ?_)
  · refine rm_assoc ?_
    exact rx_ret em_bl h
  · refine rm_skip ?_
    exact rx_ret (em_allG _ ⟨hT _ hP.1, hP.2⟩ (ei_any (em_var rfl)) (fun d K h => by exact ⟨_, _, by decide, tg_name, (em_call hT ap1_len (ea_cons (em_var rfl) ea_nil)) _ h⟩)) h
abbrev s_common_divisor : Stmt := topS 11
abbrev N_common_divisor : List Str := ["tops", "bottom", "common", "top"]
theorem sc_common_divisor : FnScope N_common_divisor ["tops", "bottom"] (defScope s_common_divisor) := ⟨rfl, rfl, rfl, by decide +kernel, rfl, by decide +kernel, by decide +kernel⟩
theorem ok_common_divisor (B : Bn mg) (hgcd : mg "gcd" = some (.builtin "math.gcd")) {f : Addr} {fd : FuncData} (F : Fun K "common_divisor" "common_divisor" s_common_divisor f fd) : FnOk P w K mg base CX0 1 f fd ["tops", "bottom"] (pureM Ts 2 (ap2 m_common_divisor)) := by
  refine ok_pureM F sc_common_divisor rfl (by decide) fun cdv A outer s H E hr => ⟨_, (pss_cons (ps_set (i := 2) sc_common_divisor.nd rfl (.inl rfl) (pAbs B (pv 1))) (pss_cons (ps_for PassesOwn.never rfl (piA K (pv 0)) (gN 3 sc_common_divisor.nd) (pss_cons (ps_set (i := 2) sc_common_divisor.nd rfl (.inl rfl) (pGcd hgcd (pv 2) (pv 3))) pss_nil)) (pss_cons (ps_ret (pv 2)) pss_nil))), fun p ds R hT hl hm => ?_⟩
  obtain ⟨p_tops, p_bottom, rfl, h⟩ := ap2_inv hm
  unfold m_common_divisor at h
  change Rn _ _ [some (.dat p_tops), some (.dat p_bottom), none, none] _
  refine rx_set (em_b1 b_abs (em_var rfl)) h fun common_1 h => ?_
  change Rn _ _ [some (.dat p_tops), some (.dat p_bottom), some (.dat common_1), none] _
  refine rx_for (S := PyData) (fun s_2 => [some (.dat p_tops), some (.dat p_bottom), some (.dat s_2), none]) (ei_any (em_var rfl)) h (.same (.same (.same (.drop .nil)))) (fun top_7 s_2 nx_3 bk_4 h => ?_) (fun s_2 h => ?_)
  · refine ⟨_, _, tg_name, ?_⟩
    change Rn _ _ [some (.dat p_tops), some (.dat p_bottom), some (.dat s_2), some (.dat top_7)] _
    refine rx_set (em_b2 b_gcd (em_var rfl) (em_var rfl)) h fun common_8 h => ?_
    change Rn _ _ [some (.dat p_tops), some (.dat p_bottom), some (.dat common_8), some (.dat top_7)] _
    exact rn_next ⟨common_8, (.same (.same (.same (.drop .nil)))), h⟩
  · change Rn _ _ [some (.dat p_tops), some (.dat p_bottom), some (.dat s_2), none] _
    exact rx_ret (em_var rfl) h
abbrev s_rounded : Stmt := topS 12
abbrev N_rounded : List Str := ["spot", "tops", "bottom", "top"]
theorem sc_rounded : FnScope N_rounded ["spot"] (defScope s_rounded) := ⟨rfl, rfl, rfl, by decide +kernel, rfl, by decide +kernel, by decide +kernel⟩
theorem ok_rounded (B : Bn mg) {f : Addr} {fd : FuncData} (F : Fun K "rounded" "rounded" s_rounded f fd) : FnOk P w K mg base CX0 1 f fd ["spot"] (pureM Ts 1 (ap1 m_rounded)) := by
  refine ok_pureM F sc_rounded rfl (by decide) fun cdv A outer s H E hr => ⟨_, (pss_cons (ps_asg (pv 0) (pg_seqN K 2 rfl (pgs_cons (gN 1 sc_rounded.nd) (pgs_cons (gN 2 sc_rounded.nd) pgs_nil)))) (pss_cons (ps_ret (pTup' K B (pe_lc (own := [("top", 3)]) rfl sc_rounded.nd (piA K (pv 1)) (blkOk_by (own := [("top", 3)]) (N := N_rounded) (sc := defScope s_rounded) (by decide +kernel)) (fun _ _ _ _ _ => (gN 3 sc_rounded.nd)) (fun _ _ _ _ _ => pts_nil) (fun _ _ _ _ _ => (pe_op opFdiv (pe_op (opAdd K) (pe_op (opMul K) pe_int (pv 3)) (pv 2)) (pe_op (opMul K) pe_int (pv 2))))))) pss_nil)), fun p ds R hT hl hm => ?_⟩
  obtain ⟨p_spot, rfl, h⟩ := ap1_inv hm
  unfold m_rounded at h
  change Rn _ _ [some (.dat p_spot), none, none, none] _
  refine rx_unp (em_var rfl) h fun d_1 h => ?_
  replace h := unpS2_inv h
  obtain ⟨tops_2, bottom_3, he_4, h⟩ := h
  refine ⟨_, _, (tg_seq he_4 (tgs_cons tg_name (tgs_cons tg_name tgs_nil)) rfl), ?_⟩
  change Rn _ _ [some (.dat p_spot), some (.dat tops_2), some (.dat bottom_3), none] _
  exact rx_ret (em_b1 b_tuple (em_lc _ (ei_any (em_var rfl)) (fun d K h => by exact lc_item1 (by decide) tg_name (eo_of_em (em_op rs_fdiv (em_op rs_add (em_op rs_mul em_int (em_var rfl)) (em_var rfl)) (em_op rs_mul em_int (em_var rfl)))) h))) h
abbrev s_is_spot : Stmt := topS 14
abbrev N_is_spot : List Str := ["n", "thing", "tops", "bottom"]
theorem sc_is_spot : FnScope N_is_spot ["n", "thing"] (defScope s_is_spot) := ⟨rfl, rfl, rfl, by decide +kernel, rfl, by decide +kernel, by decide +kernel⟩
theorem ok_is_spot (B : Bn mg) {f : Addr} {fd : FuncData} (F : Fun K "is_spot" "is_spot" s_is_spot f fd) (C_common_divisor : Cl P w K mg base "common_divisor" ["tops", "bottom"] 1 (pureM Ts 2 (ap2 m_common_divisor))) (C_is_step : Cl P w K mg base "is_step" ["n", "thing"] 3 (pureM Ts 2 (ap2 m_is_step))) (C_is_whole : Cl P w K mg base "is_whole" ["thing"] 1 (pureM Ts 1 (ap1 m_is_whole))) : FnOk P w K mg base CX0 4 f fd ["n", "thing"] (pureM Ts 2 (ap2 m_is_spot)) := by
  refine ok_pureM F sc_is_spot rfl (by decide) fun cdv A outer s H E hr => ⟨_, (pss_cons (ps_if (PW.pt (pw_or (pt_not (ptTru K (pIsi' K B (pv 1) (nTuple B)))) (pw_or1 (pt_cmpR (opNe K hr.units) (pLen' K B (pv 1)) pe_int (nomark _))))) (pss_cons (ps_ret pe_bl) pss_nil) pss_nil) (pss_cons (ps_asg (pv 1) (pg_seqN K 2 rfl (pgs_cons (gN 2 sc_is_spot.nd) (pgs_cons (gN 3 sc_is_spot.nd) pgs_nil)))) (pss_cons (ps_if (PW.pt (pw_or (pt_not (ptTru K (pCall C_is_step hr (by decide) (pa_cons (pv 0) (pa_cons (pv 2) pa_nil))))) (pw_or (pt_not (ptTru K (pCall C_is_whole hr (by decide) (pa_cons (pv 3) pa_nil)))) (pw_or1 (pt_cmpR op_lt (pv 3) pe_int (nomark _)))))) (pss_cons (ps_ret pe_bl) pss_nil) pss_nil) (pss_cons (ps_ret (pe_cmpR (opEq K hr.units) (pCall C_common_divisor hr (by decide) (pa_cons (pv 2) (pa_cons (pv 3) pa_nil))) pe_int (nomark _))) pss_nil)))), fun p ds R hT hl hm => ?_⟩
  obtain ⟨p_n, p_thing, rfl, h⟩ := ap2_inv hm
  unfold m_is_spot at h
  change Rn _ _ [some (.dat p_n), some (.dat p_thing), none, none] _
  refine rx_if (et_or (et_not (et_truth (em_isi (em_var rfl) er_c))) (et_bool (em_op rs_ne (em_b1 b_len (em_var rfl)) em_int))) h (fun h => ?_) (fun h => ?_)
  · refine rm_assoc ?_
    exact rx_ret em_bl h
  · refine rm_skip ?_
    refine rx_unp (em_var rfl) h fun d_6 h => ?_
    replace h := unpS2_inv h
    obtain ⟨tops_7, bottom_8, he_9, h⟩ := h
    refine ⟨_, _, (tg_seq he_9 (tgs_cons tg_name (tgs_cons tg_name tgs_nil)) rfl), ?_⟩
    change Rn _ _ [some (.dat p_n), some (.dat p_thing), some (.dat tops_7), some (.dat bottom_8)] _
    refine rx_if (et_or (et_not (et_truth (em_call hT ap2_len (ea_cons (em_var rfl) (ea_cons (em_var rfl) ea_nil))))) (et_or (et_not (et_truth (em_call hT ap1_len (ea_cons (em_var rfl) ea_nil)))) (et_bool (em_op rs_lt (em_var rfl) em_int)))) h (fun h => ?_) (fun h => ?_)
    · refine rm_assoc ?_
      exact rx_ret em_bl h
    · refine rm_skip ?_
      exact rx_ret (em_op rs_eq (em_call hT ap2_len (ea_cons (em_var rfl) (ea_cons (em_var rfl) ea_nil))) em_int) h
abbrev sX_need_spot : Stmt := topS 16
theorem scX_need_spot : FnScope ["n", "thing"] ["n", "thing"] (defScope sX_need_spot) := ⟨rfl, rfl, rfl, by decide +kernel, rfl, by decide +kernel, by decide +kernel⟩
theorem okx_need_spot (B : Bn mg) {DE_BadSpot : Addr} (ZE_BadSpot : ErrI P w K mg base "thing" (Cs "BadSpot") DE_BadSpot) (gE_BadSpot : mg "BadSpot" = some (.ref (Cs "BadSpot"))) (C_is_spot : Cl P w K mg base "is_spot" ["n", "thing"] 4 (pureM Ts 2 (ap2 m_is_spot))) {f : Addr} {fd : FuncData} (F : Fun K "need_spot" "need_spot" sX_need_spot f fd) : FnOk P w K mg base (L2.CX P w) 5 f fd ["n", "thing"] (pureX Cs Ts 2 (ax2 x_need_spot)) := by
  refine ok_pureX F scX_need_spot rfl (by decide) fun cdv A outer s H E hr tkX => ⟨_, (pss_cons (ps_if (pt_not (ptTru K (pCall C_is_spot hr (by decide) (pa_cons (pv 0) (pa_cons (pv 1) pa_nil))))) (pss_cons (ps_err (W := fun cls d _ H => E cls d H) ZE_BadSpot rfl tkX (hr.mono (by decide)) rfl gE_BadSpot (pv 1)) pss_nil) pss_nil) (PSs.nox pss_nil)), fun p ds R X hT hl hm => ?_⟩
  obtain ⟨p_n, p_thing, rfl, h⟩ := ax2_inv hm
  unfold x_need_spot at h
  change RnX _ _ _ _ _ [some (.dat p_n), some (.dat p_thing)] _
  refine rnx_if (et_not (et_truth (em_call hT ap2_len (ea_cons (em_var rfl) (ea_cons (em_var rfl) ea_nil))))) h (fun h => ?_) (fun h => ?_)
  · refine rnx_assoc ?_
    exact rnx_raise (em_var rfl) h
  · refine rnx_skip ?_
    refine rnx_of ?_
    exact rn_next h
abbrev s_need_spot : Stmt := topS 16
abbrev N_need_spot : List Str := ["n", "thing"]
theorem sc_need_spot : FnScope N_need_spot ["n", "thing"] (defScope s_need_spot) := ⟨rfl, rfl, rfl, by decide +kernel, rfl, by decide +kernel, by decide +kernel⟩
theorem ok_need_spot (B : Bn mg) {f : Addr} {fd : FuncData} (F : Fun K "need_spot" "need_spot" s_need_spot f fd) (C_is_spot : Cl P w K mg base "is_spot" ["n", "thing"] 4 (pureM Ts 2 (ap2 m_is_spot))) : FnOk P w K mg base CX0 5 f fd ["n", "thing"] (pureM Ts 2 (ap2 m_need_spot)) := by
  refine ok_pureM F sc_need_spot rfl (by decide) fun cdv A outer s H E hr => ⟨_, (pss_cons (ps_if (pt_not (ptTru K (pCall C_is_spot hr (by decide) (pa_cons (pv 0) (pa_cons (pv 1) pa_nil))))) (pss_cons ps_never pss_nil) pss_nil) pss_nil), fun p ds R hT hl hm => ?_⟩
  obtain ⟨p_n, p_thing, rfl, h⟩ := ap2_inv hm
  unfold m_need_spot at h
  change Rn _ _ [some (.dat p_n), some (.dat p_thing)] _
  refine rx_if (et_not (et_truth (em_call hT ap2_len (ea_cons (em_var rfl) (ea_cons (em_var rfl) ea_nil))))) h (fun h => ?_) (fun h => ?_)
  · refine rm_assoc ?_
    exact h.elim
  · refine rm_skip ?_
    exact rn_next h
abbrev sX_plain_place : Stmt := topS 15
theorem scX_plain_place : FnScope ["n", "spot"] ["n", "spot"] (defScope sX_plain_place) := ⟨rfl, rfl, rfl, by decide +kernel, rfl, by decide +kernel, by decide +kernel⟩
theorem okx_plain_place (B : Bn mg) (C_rounded : Cl P w K mg base "rounded" ["spot"] 1 (pureM Ts 1 (ap1 m_rounded))) (X_need_spot : ClX P w K mg base "need_spot" ["n", "thing"] 5 (pureX Cs Ts 2 (ax2 x_need_spot))) {f : Addr} {fd : FuncData} (F : Fun K "plain_place" "plain_place" sX_plain_place f fd) : FnOk P w K mg base (L2.CX P w) 6 f fd ["n", "spot"] (pureX Cs Ts 2 (ax2 x_plain_place)) := by
  refine ok_pureX F scX_plain_place rfl (by decide) fun cdv A outer s H E hr tkX => ⟨_, (pss_cons (ps_expr (pCallX X_need_spot tkX hr (by decide) (pa_cons (pv 0) (pa_cons (pv 1) pa_nil)))) (PSs.nox (pss_cons (ps_ret (pCall C_rounded hr (by decide) (pa_cons (pv 1) pa_nil))) pss_nil))), fun p ds R X hT hl hm => ?_⟩
  obtain ⟨p_n, p_spot, rfl, h⟩ := ax2_inv hm
  unfold x_plain_place at h
  change RnX _ _ _ _ _ [some (.dat p_n), some (.dat p_spot)] _
  refine rnx_expr hT ax2_len (ea_cons (em_var rfl) (ea_cons (em_var rfl) ea_nil)) h fun h => ?_
  refine rnx_of ?_
  exact rx_ret (em_call hT ap1_len (ea_cons (em_var rfl) ea_nil)) h
abbrev s_plain_place : Stmt := topS 15
abbrev N_plain_place : List Str := ["n", "spot"]
theorem sc_plain_place : FnScope N_plain_place ["n", "spot"] (defScope s_plain_place) := ⟨rfl, rfl, rfl, by decide +kernel, rfl, by decide +kernel, by decide +kernel⟩
theorem ok_plain_place (B : Bn mg) {f : Addr} {fd : FuncData} (F : Fun K "plain_place" "plain_place" s_plain_place f fd) (C_need_spot : Cl P w K mg base "need_spot" ["n", "thing"] 5 (pureM Ts 2 (ap2 m_need_spot))) (C_rounded : Cl P w K mg base "rounded" ["spot"] 1 (pureM Ts 1 (ap1 m_rounded))) : FnOk P w K mg base CX0 6 f fd ["n", "spot"] (pureM Ts 2 (ap2 m_plain_place)) := by
  refine ok_pureM F sc_plain_place rfl (by decide) fun cdv A outer s H E hr => ⟨_, (pss_cons (ps_expr (pCall C_need_spot hr (by decide) (pa_cons (pv 0) (pa_cons (pv 1) pa_nil)))) (pss_cons (ps_ret (pCall C_rounded hr (by decide) (pa_cons (pv 1) pa_nil))) pss_nil)), fun p ds R hT hl hm => ?_⟩
  obtain ⟨p_n, p_spot, rfl, h⟩ := ap2_inv hm
  unfold m_plain_place at h
  change Rn _ _ [some (.dat p_n), some (.dat p_spot)] _
  refine rx_expr (em_call hT ap2_len (ea_cons (em_var rfl) (ea_cons (em_var rfl) ea_nil))) h fun h => ?_
  exact rx_ret (em_call hT ap1_len (ea_cons (em_var rfl) ea_nil)) h
abbrev s_law_pick : Stmt := topS 20
abbrev N_law_pick : List Str := ["deck", "some"]
theorem sc_law_pick : FnScope N_law_pick ["deck", "some"] (defScope s_law_pick) := ⟨rfl, rfl, rfl, by decide +kernel, rfl, by decide +kernel, by decide +kernel⟩
theorem ok_law_pick (B : Bn mg) {f : Addr} {fd : FuncData} (F : Fun K "_law_pick" "_law_pick" s_law_pick f fd) (C_law_draw : Cl P w K mg base "_law_draw" ["deck", "many"] 1 (deckM "draws" Ts 1 (ap1 drawW))) : FnOk P w K mg base CX0 2 f fd ["deck", "some"] (deckM "draws" Ts 1 (ap1 m_law_pick)) := by
  refine ok_deckM F sc_law_pick rfl (by decide) fun cdv A outer s H E hr => ⟨_, (pss_cons (ps_ret (pe_ix (ixU K) (pv 1) (pCall C_law_draw hr (by decide) (pa_cons (pv 0) (pa_cons (pLen' K B (pv 1)) pa_nil))) (fun _ _ => rfl))) pss_nil), fun S dk cl h1 h2 ds R hl hm => ?_⟩
  obtain ⟨p_some, rfl, h⟩ := ap1_inv hm
  have hT : ∀ T ∈ Ts, T ∈ (dPm "draws" S dk cl h1 h2 Ts).Ts := fun _ h => h
  unfold m_law_pick at h
  change Rn _ _ [some (.raw (.ref dk)), some (.dat p_some)] _
  exact rx_ret (em_op rs_ix (em_var rfl) (em_callD (fun _ h => h) ap1_len rfl (ea_cons (em_b1 b_len (em_var rfl)) ea_nil))) h
abbrev s_law_is_step : Stmt := topS 21
abbrev N_law_is_step : List Str := ["n", "thing", "x"]
theorem sc_law_is_step : FnScope N_law_is_step ["n", "thing"] (defScope s_law_is_step) := ⟨rfl, rfl, rfl, by decide +kernel, rfl, by decide +kernel, by decide +kernel⟩
theorem ok_law_is_step (B : Bn mg) {f : Addr} {fd : FuncData} (F : Fun K "_law_is_step" "_law_is_step" s_law_is_step f fd) : FnOk P w K mg base CX0 1 f fd ["n", "thing"] (pureM Ts 2 (ap2 m_law_is_step)) := by
  refine ok_pureM F sc_law_is_step rfl (by decide) fun cdv A outer s H E hr => ⟨_, (pss_cons (ps_if (PW.pt (pw_or (pt_not (ptTru K (pIsi' K B (pv 1) (nTuple B)))) (pw_or1 (pt_cmpR (opNe K hr.units) (pLen' K B (pv 1)) (pv 0) (nomark _))))) (pss_cons (ps_ret pe_bl) pss_nil) pss_nil) (pss_cons (ps_ret (pe_cmpR (opEq K hr.units) (pe_lc (own := [("x", 2)]) rfl sc_law_is_step.nd (piA K (pv 1)) (blkOk_by (own := [("x", 2)]) (N := N_law_is_step) (sc := defScope s_law_is_step) (by decide +kernel)) (fun _ _ _ _ _ => (gN 2 sc_law_is_step.nd)) (fun _ _ _ _ _ => pts_one (PW.pt (pw_or (pt_not (ptTru K (pIsi' K B (pv 2) (nInt B)))) (pw_or1 (ptTru K (pIsi' K B (pv 2) (nBool B))))))) (fun _ _ _ _ _ => (pv 2))) (pe_lst pa_nil) (nomark _))) pss_nil)), fun p ds R hT hl hm => ?_⟩
  obtain ⟨p_n, p_thing, rfl, h⟩ := ap2_inv hm
  unfold m_law_is_step at h
  change Rn _ _ [some (.dat p_n), some (.dat p_thing), none] _
  refine rx_if (et_or (et_not (et_truth (em_isi (em_var rfl) er_c))) (et_bool (em_op rs_ne (em_b1 b_len (em_var rfl)) (em_var rfl)))) h (fun h => ?_) (fun h => ?_)
  · refine rm_assoc ?_
    exact rx_ret em_bl h
  · refine rm_skip ?_
    exact rx_ret (em_op rs_eq (em_lc _ (ei_any (em_var rfl)) (fun d K h => by exact lc_item (by decide) tg_name (et_or (et_not (et_truth (em_isi (em_var rfl) er_c))) (et_truth (em_isi (em_var rfl) er_c))) (eo_of_em (em_var rfl)) h)) (em_lst ea_nil)) h
abbrev s_law_common : Stmt := topS 22
abbrev N_law_common : List Str := ["one", "other"]
theorem sc_law_common : FnScope N_law_common ["one", "other"] (defScope s_law_common) := ⟨rfl, rfl, rfl, by decide +kernel, rfl, by decide +kernel, by decide +kernel⟩
theorem ok_law_common (B : Bn mg) {f : Addr} {fd : FuncData} (F : Fun K "_law_common" "_law_common" s_law_common f fd) : FnOk P w K mg base CX0 1 f fd ["one", "other"] (pureM Ts 2 (ap2 m_law_common)) := by
  refine ok_pureM F sc_law_common rfl (by decide) fun cdv A outer s H E hr => ⟨_, (pss_cons (ps_par (i := 0) (j := 1) rfl sc_law_common.nd rfl rfl (by decide) rfl rfl (pa_cons (pAbs B (pv 0)) (pa_cons (pAbs B (pv 1)) pa_nil)) rfl) (pss_cons (ps_while PassesOwn.never (pt_cmpR (opNe K hr.units) (pv 1) pe_int (nomark _)) (pss_cons (ps_par (i := 0) (j := 1) rfl sc_law_common.nd rfl rfl (by decide) rfl rfl (pa_cons (pv 1) (pa_cons (pe_op op_modN (pInt B (pv 0)) (pv 1)) pa_nil)) rfl) pss_nil)) (pss_cons (ps_ret (pv 0)) pss_nil))), fun p ds R hT hl hm => ?_⟩
  obtain ⟨p_one, p_other, rfl, h⟩ := ap2_inv hm
  unfold m_law_common at h
  change Rn _ _ [some (.dat p_one), some (.dat p_other)] _
  refine ry_par (ek_d (em_b1 b_abs (em_var rfl))) (ek_d (em_b1 b_abs (em_var rfl))) h fun one_1 other_3 h => ?_
  change Rn _ _ [some (.dat one_1), some (.dat other_3)] _
  refine rm_while (S := PyData × PyData) (fun s_5 => [some (.dat s_5.1), some (.dat s_5.2)]) h (.same (.same .nil)) (fun s_5 => ?_) (fun s_5 nx_6 bk_7 h => ?_) (fun s_5 h => ?_)
  · exact (et_bool (em_op rs_ne (em_var rfl) em_int))
  · change Rn _ _ [some (.dat s_5.1), some (.dat s_5.2)] _
    refine ry_par (ek_d (em_var rfl)) (ek_d (em_op rs_mod (em_b1 b_int (em_var rfl)) (em_var rfl))) h fun one_8 other_9 h => ?_
    change Rn _ _ [some (.dat one_8), some (.dat other_9)] _
    exact rn_next ⟨(one_8, other_9), (.same (.same .nil)), h⟩
  · change Rn _ _ [some (.dat s_5.1), some (.dat s_5.2)] _
    exact rx_ret (em_var rfl) h
abbrev s_law_spot : Stmt := topS 23
abbrev N_law_spot : List Str := ["tops", "bottom", "by", "top"]
theorem sc_law_spot : FnScope N_law_spot ["tops", "bottom"] (defScope s_law_spot) := ⟨rfl, rfl, rfl, by decide +kernel, rfl, by decide +kernel, by decide +kernel⟩
theorem ok_law_spot (B : Bn mg) {f : Addr} {fd : FuncData} (F : Fun K "_law_spot" "_law_spot" s_law_spot f fd) (C_law_common : Cl P w K mg base "_law_common" ["one", "other"] 1 (pureM Ts 2 (ap2 m_law_common))) : FnOk P w K mg base CX0 2 f fd ["tops", "bottom"] (pureM Ts 2 (ap2 m_law_spot)) := by
  refine ok_pureM F sc_law_spot rfl (by decide) fun cdv A outer s H E hr => ⟨_, (pss_cons (ps_set (i := 2) sc_law_spot.nd rfl (.inr rfl) (pv 1)) (pss_cons (ps_for PassesOwn.never rfl (piA K (pv 0)) (gN 3 sc_law_spot.nd) (pss_cons (ps_set (i := 2) sc_law_spot.nd rfl (.inr rfl) (pCall C_law_common hr (by decide) (pa_cons (pv 2) (pa_cons (pv 3) pa_nil)))) pss_nil)) (pss_cons (ps_ret (pe_tup (pa_cons (pTup' K B (pe_lc (own := [("top", 3)]) rfl sc_law_spot.nd (piA K (pv 0)) (blkOk_by (own := [("top", 3)]) (N := N_law_spot) (sc := defScope s_law_spot) (by decide +kernel)) (fun _ _ _ _ _ => (gN 3 sc_law_spot.nd)) (fun _ _ _ _ _ => pts_nil) (fun _ _ _ _ _ => (pe_op opFdiv (pv 3) (pv 2))))) (pa_cons (pe_op opFdiv (pv 1) (pv 2)) pa_nil)))) pss_nil))), fun p ds R hT hl hm => ?_⟩
  obtain ⟨p_tops, p_bottom, rfl, h⟩ := ap2_inv hm
  unfold m_law_spot at h
  change Rn _ _ [some (.dat p_tops), some (.dat p_bottom), none, none] _
  refine rx_set (em_var rfl) h fun by_1 h => ?_
  change Rn _ _ [some (.dat p_tops), some (.dat p_bottom), some (.dat by_1), none] _
  refine rx_for (S := PyData) (fun s_2 => [some (.dat p_tops), some (.dat p_bottom), some (.dat s_2), none]) (ei_any (em_var rfl)) h (.same (.same (.same (.drop .nil)))) (fun top_7 s_2 nx_3 bk_4 h => ?_) (fun s_2 h => ?_)
  · refine ⟨_, _, tg_name, ?_⟩
    change Rn _ _ [some (.dat p_tops), some (.dat p_bottom), some (.dat s_2), some (.dat top_7)] _
    refine rx_set (em_call hT ap2_len (ea_cons (em_var rfl) (ea_cons (em_var rfl) ea_nil))) h fun by_8 h => ?_
    change Rn _ _ [some (.dat p_tops), some (.dat p_bottom), some (.dat by_8), some (.dat top_7)] _
    exact rn_next ⟨by_8, (.same (.same (.same (.drop .nil)))), h⟩
  · change Rn _ _ [some (.dat p_tops), some (.dat p_bottom), some (.dat s_2), none] _
    exact rx_ret (em_tup (ea_cons (em_b1 b_tuple (em_lc _ (ei_any (em_var rfl)) (fun d K h => by exact lc_item1 (by decide) tg_name (eo_of_em (em_op rs_fdiv (em_var rfl) (em_var rfl))) h))) (ea_cons (em_op rs_fdiv (em_var rfl) (em_var rfl)) ea_nil))) h
abbrev s_law_is_spot : Stmt := topS 24
abbrev N_law_is_spot : List Str := ["n", "thing"]
theorem sc_law_is_spot : FnScope N_law_is_spot ["n", "thing"] (defScope s_law_is_spot) := ⟨rfl, rfl, rfl, by decide +kernel, rfl, by decide +kernel, by decide +kernel⟩
theorem ok_law_is_spot (B : Bn mg) {f : Addr} {fd : FuncData} (F : Fun K "_law_is_spot" "_law_is_spot" s_law_is_spot f fd) (C_law_spot : Cl P w K mg base "_law_spot" ["tops", "bottom"] 2 (pureM Ts 2 (ap2 m_law_spot))) (C_law_is_step : Cl P w K mg base "_law_is_step" ["n", "thing"] 1 (pureM Ts 2 (ap2 m_law_is_step))) : FnOk P w K mg base CX0 3 f fd ["n", "thing"] (pureM Ts 2 (ap2 m_law_is_spot)) := by
  refine ok_pureM F sc_law_is_spot rfl (by decide) fun cdv A outer s H E hr => ⟨_, (pss_cons (ps_if (PW.pt (pw_or (pt_not (ptTru K (pIsi' K B (pv 1) (nTuple B)))) (pw_or (pt_cmpR (opNe K hr.units) (pLen' K B (pv 1)) pe_int (nomark _)) (pw_or1 (pt_not (ptTru K (pCall C_law_is_step hr (by decide) (pa_cons (pv 0) (pa_cons (pe_ix (ixU K) (pv 1) pe_int (fun _ _ => rfl)) pa_nil))))))))) (pss_cons (ps_ret pe_bl) pss_nil) pss_nil) (pss_cons (ps_if (PW.pt (pw_or (pt_not (ptTru K (pIsi' K B (pe_ix (ixU K) (pv 1) pe_int (fun _ _ => rfl)) (nInt B)))) (pw_or (ptTru K (pIsi' K B (pe_ix (ixU K) (pv 1) pe_int (fun _ _ => rfl)) (nBool B))) (pw_or1 (pt_cmpR op_lt (pe_ix (ixU K) (pv 1) pe_int (fun _ _ => rfl)) pe_int (nomark _)))))) (pss_cons (ps_ret pe_bl) pss_nil) pss_nil) (pss_cons (ps_ret (pe_cmpR (opEq K hr.units) (pCall C_law_spot hr (by decide) (pa_cons (pe_ix (ixU K) (pv 1) pe_int (fun _ _ => rfl)) (pa_cons (pe_ix (ixU K) (pv 1) pe_int (fun _ _ => rfl)) pa_nil))) (pv 1) (nomark _))) pss_nil))), fun p ds R hT hl hm => ?_⟩
  obtain ⟨p_n, p_thing, rfl, h⟩ := ap2_inv hm
  unfold m_law_is_spot at h
  change Rn _ _ [some (.dat p_n), some (.dat p_thing)] _
  refine rx_if (et_or (et_not (et_truth (em_isi (em_var rfl) er_c))) (et_or (et_bool (em_op rs_ne (em_b1 b_len (em_var rfl)) em_int)) (et_not (et_truth (em_call hT ap2_len (ea_cons (em_var rfl) (ea_cons (em_op rs_ix (em_var rfl) em_int) ea_nil))))))) h (fun h => ?_) (fun h => ?_)
  · refine rm_assoc ?_
    exact rx_ret em_bl h
  · refine rm_skip ?_
    refine rx_if (et_or (et_not (et_truth (em_isi (em_op rs_ix (em_var rfl) em_int) er_c))) (et_or (et_truth (em_isi (em_op rs_ix (em_var rfl) em_int) er_c)) (et_bool (em_op rs_lt (em_op rs_ix (em_var rfl) em_int) em_int)))) h (fun h => ?_) (fun h => ?_)
    · refine rm_assoc ?_
      exact rx_ret em_bl h
    · refine rm_skip ?_
      exact rx_ret (em_op rs_eq (em_call hT ap2_len (ea_cons (em_op rs_ix (em_var rfl) em_int) (ea_cons (em_op rs_ix (em_var rfl) em_int) ea_nil))) (em_var rfl)) h
abbrev s_law_drawn_spot : Stmt := topS 25
abbrev N_law_drawn_spot : List Str := ["deck", "n", "bottom", "far", "i"]
theorem sc_law_drawn_spot : FnScope N_law_drawn_spot ["deck", "n"] (defScope s_law_drawn_spot) := ⟨rfl, rfl, rfl, by decide +kernel, rfl, by decide +kernel, by decide +kernel⟩
theorem ok_law_drawn_spot (B : Bn mg) {f : Addr} {fd : FuncData} (F : Fun K "_law_drawn_spot" "_law_drawn_spot" s_law_drawn_spot f fd) (C_law_pick : Cl P w K mg base "_law_pick" ["deck", "some"] 2 (deckM "draws" Ts 1 (ap1 m_law_pick))) (C_law_spot : Cl P w K mg base "_law_spot" ["tops", "bottom"] 2 (pureM Ts 2 (ap2 m_law_spot))) (C_law_draw : Cl P w K mg base "_law_draw" ["deck", "many"] 1 (deckM "draws" Ts 1 (ap1 drawW))) : FnOk P w K mg base CX0 3 f fd ["deck", "n"] (deckM "draws" Ts 1 (ap1 m_law_drawn_spot)) := by
  refine ok_deckM F sc_law_drawn_spot rfl (by decide) fun cdv A outer s H E hr => ⟨_, (pss_cons (ps_set (i := 2) sc_law_drawn_spot.nd rfl (.inl rfl) (pCall C_law_pick hr (by decide) (pa_cons (pv 0) (pa_cons (pe_lst (pa_cons pe_int (pa_cons pe_int (pa_cons pe_int (pa_cons pe_int (pa_cons pe_int (pa_cons pe_int (pa_cons pe_int (pa_cons pe_int (pa_cons pe_int (pa_cons pe_int (pa_cons pe_int (pa_cons (pe_op (opAdd K) pe_int (pCall C_law_draw hr (by decide) (pa_cons (pv 0) (pa_cons pe_int pa_nil)))) pa_nil))))))))))))) pa_nil)))) (pss_cons (ps_set (i := 3) sc_law_drawn_spot.nd rfl (.inr rfl) (pCall C_law_pick hr (by decide) (pa_cons (pv 0) (pa_cons (pe_lst (pa_cons pe_int (pa_cons pe_int (pa_cons pe_int (pa_cons pe_int (pa_cons (pe_op op_pow pe_int pe_int) pa_nil)))))) pa_nil)))) (pss_cons (ps_ret (pCall C_law_spot hr (by decide) (pa_cons (pTup' K B (pe_lc (own := [("i", 4)]) rfl sc_law_drawn_spot.nd (piR B (pv 1)) (blkOk_by (own := [("i", 4)]) (N := N_law_drawn_spot) (sc := defScope s_law_drawn_spot) (by decide +kernel)) (fun _ _ _ _ _ => (gN 4 sc_law_drawn_spot.nd)) (fun _ _ _ _ _ => pts_nil) (fun _ _ _ _ _ => (pe_op opSub (pCall C_law_draw hr (by decide) (pa_cons (pv 0) (pa_cons (pe_op (opAdd K) (pe_op (opMul K) pe_int (pv 3)) pe_int) pa_nil))) (pv 3))))) (pa_cons (pv 2) pa_nil)))) pss_nil))), fun S dk cl h1 h2 ds R hl hm => ?_⟩
  obtain ⟨p_n, rfl, h⟩ := ap1_inv hm
  have hT : ∀ T ∈ Ts, T ∈ (dPm "draws" S dk cl h1 h2 Ts).Ts := fun _ h => h
  unfold m_law_drawn_spot at h
  change Rn _ _ [some (.raw (.ref dk)), some (.dat p_n), none, none, none] _
  refine rx_set (em_callD (fun _ h => h) ap1_len rfl (ea_cons (em_lst (ea_cons em_int (ea_cons em_int (ea_cons em_int (ea_cons em_int (ea_cons em_int (ea_cons em_int (ea_cons em_int (ea_cons em_int (ea_cons em_int (ea_cons em_int (ea_cons em_int (ea_cons (em_op rs_add em_int (em_callD (fun _ h => h) ap1_len rfl (ea_cons em_int ea_nil))) ea_nil))))))))))))) ea_nil)) h fun bottom_1 h => ?_
  change Rn _ _ [some (.raw (.ref dk)), some (.dat p_n), some (.dat bottom_1), none, none] _
  refine rx_set (em_callD (fun _ h => h) ap1_len rfl (ea_cons (em_lst (ea_cons em_int (ea_cons em_int (ea_cons em_int (ea_cons em_int (ea_cons (em_op rs_pow em_int em_int) ea_nil)))))) ea_nil)) h fun far_2 h => ?_
  change Rn _ _ [some (.raw (.ref dk)), some (.dat p_n), some (.dat bottom_1), some (.dat far_2), none] _
  exact rx_ret (em_call hT ap2_len (ea_cons (em_b1 b_tuple (em_lc _ (ei_rng1 (em_var rfl)) (fun d K h => by exact lc_item1 (by decide) tg_name (eo_of_em (em_op rs_sub (em_callD (fun _ h => h) ap1_len rfl (ea_cons (em_op rs_add (em_op rs_mul em_int (em_var rfl)) em_int) ea_nil)) (em_var rfl))) h))) (ea_cons (em_var rfl) ea_nil))) h
abbrev s_law_any : Stmt := topS 26
abbrev N_law_any : List Str := ["deck", "deep", "way", "some", "turn"]
theorem sc_law_any : FnScope N_law_any ["deck", "deep"] (defScope s_law_any) := ⟨rfl, rfl, rfl, by decide +kernel, rfl, by decide +kernel, by decide +kernel⟩
theorem ok_law_any (B : Bn mg) (D : Df K mg "_law_any" ["deck", "deep"] s_law_any) (C_law_draw : Cl P w K mg base "_law_draw" ["deck", "many"] 1 (deckM "draws" Ts 1 (ap1 drawW))) (C_law_pick : Cl P w K mg base "_law_pick" ["deck", "some"] 2 (deckM "draws" Ts 1 (ap1 m_law_pick))) : ∀ j : Nat, FnOk P w K mg base CX0 (2 + j + 1) D.f D.fd ["deck", "deep"] (deckM "draws" Ts 1 (ap1 (m_law_any j)))
  | 0 => by
    refine ok_deckM D.F sc_law_any rfl (by decide) fun cdv A outer s H E hr => ⟨_, pss_never, fun S dk cl h1 h2 ds R hl hm => ?_⟩
    obtain ⟨_, rfl, h⟩ := ap1_inv hm
    exact h.elim
  | fuel + 1 => by
    let C_law_any : Cl P w K mg base "_law_any" ["deck", "deep"] (2 + fuel + 1) (deckM "draws" Ts 1 (ap1 (m_law_any fuel))) := ⟨D.f, D.fd, ok_law_any B D C_law_draw C_law_pick fuel, D.g, D.F.kp, D.b⟩
    refine ok_deckM D.F sc_law_any rfl (by decide) fun cdv A outer s H E hr => ⟨_, (pss_cons (ps_set (i := 2) sc_law_any.nd rfl (.inl rfl) (pCall C_law_draw hr (by omega) (pa_cons (pv 0) (pa_cons pe_int pa_nil)))) (pss_cons (ps_if (pt_cmpR op_lt (pv 2) pe_int (nomark _)) (pss_cons (ps_ret (pCall C_law_pick hr (by omega) (pa_cons (pv 0) (pa_cons (pe_lst (pa_cons pe_int (pa_cons pe_int (pa_cons (pe_un un_neg pe_int) (pa_cons pe_int (pa_cons pe_int (pa_cons pe_int (pa_cons (pe_op op_pow pe_int pe_int) (pa_cons (pe_un un_neg (pe_op op_pow pe_int pe_int)) pa_nil))))))))) pa_nil)))) pss_nil) pss_nil) (pss_cons (ps_if (pt_cmpR (opEq K hr.units) (pv 2) pe_int (nomark _)) (pss_cons (ps_ret (pCall C_law_pick hr (by omega) (pa_cons (pv 0) (pa_cons (pe_lst (pa_cons pe_str (pa_cons pe_str (pa_cons pe_str (pa_cons pe_str (pa_cons pe_str (pa_cons pe_str (pa_cons pe_str (pa_cons pe_str (pa_cons pe_str pa_nil)))))))))) pa_nil)))) pss_nil) pss_nil) (pss_cons (ps_if (pt_cmpR (opEq K hr.units) (pv 2) pe_int (nomark _)) (pss_cons (ps_ret (pCall C_law_pick hr (by omega) (pa_cons (pv 0) (pa_cons (pe_lst (pa_cons pe_bl (pa_cons pe_bl (pa_cons pe_non pa_nil)))) pa_nil)))) pss_nil) pss_nil) (pss_cons (ps_set (i := 3) sc_law_any.nd rfl (.inl rfl) (pe_ifExp (pt_cmpR op_gt (pv 1) pe_int (nomark _)) (pe_lc (own := [("turn", 4)]) rfl sc_law_any.nd (piR B (pCall C_law_draw hr (by omega) (pa_cons (pv 0) (pa_cons pe_int pa_nil)))) (blkOk_by (own := [("turn", 4)]) (N := N_law_any) (sc := defScope s_law_any) (by decide +kernel)) (fun _ _ _ _ _ => (gN 4 sc_law_any.nd)) (fun _ _ _ _ _ => pts_nil) (fun _ _ _ _ _ => (pCall C_law_any hr (by omega) (pa_cons (pv 0) (pa_cons (pe_op opSub (pv 1) pe_int) pa_nil))))) (pe_lst pa_nil))) (pss_cons (ps_if (pt_cmpR (opEq K hr.units) (pv 2) pe_int (nomark _)) (pss_cons (ps_ret (pv 3)) pss_nil) pss_nil) (pss_cons (ps_ret (pe_ifExp (pt_cmpR (opEq K hr.units) (pv 2) pe_int (nomark _)) (pe_disp (pps_cons pe_str (pLen' K B (pv 3)) (pps_cons pe_int pe_non pps_nil)) (by rfl) (by rfl) (fun z => by cases z) (by decide)) (pTup' K B (pv 3)))) pss_nil))))))), fun S dk cl h1 h2 ds R hl hm => ?_⟩
    obtain ⟨p_deep, rfl, h⟩ := ap1_inv hm
    have hT : ∀ T ∈ Ts, T ∈ (dPm "draws" S dk cl h1 h2 Ts).Ts := fun _ h => h
    unfold m_law_any at h
    change Rn _ _ [some (.raw (.ref dk)), some (.dat p_deep), none, none, none] _
    refine rx_set (em_callD (fun _ h => h) ap1_len rfl (ea_cons em_int ea_nil)) h fun way_1 h => ?_
    change Rn _ _ [some (.raw (.ref dk)), some (.dat p_deep), some (.dat way_1), none, none] _
    refine rx_if (et_bool (em_op rs_lt (em_var rfl) em_int)) h (fun h => ?_) (fun h => ?_)
    · refine rm_assoc ?_
      exact rx_ret (em_callD (fun _ h => h) ap1_len rfl (ea_cons (em_lst (ea_cons em_int (ea_cons em_int (ea_cons (em_neg em_int) (ea_cons em_int (ea_cons em_int (ea_cons em_int (ea_cons (em_op rs_pow em_int em_int) (ea_cons (em_neg (em_op rs_pow em_int em_int)) ea_nil))))))))) ea_nil)) h
    · refine rm_skip ?_
      refine rx_if (et_bool (em_op rs_eq (em_var rfl) em_int)) h (fun h => ?_) (fun h => ?_)
      · refine rm_assoc ?_
        exact rx_ret (em_callD (fun _ h => h) ap1_len rfl (ea_cons (em_lst (ea_cons em_str (ea_cons em_str (ea_cons em_str (ea_cons em_str (ea_cons em_str (ea_cons em_str (ea_cons em_str (ea_cons em_str (ea_cons em_str ea_nil)))))))))) ea_nil)) h
      · refine rm_skip ?_
        refine rx_if (et_bool (em_op rs_eq (em_var rfl) em_int)) h (fun h => ?_) (fun h => ?_)
        · refine rm_assoc ?_
          exact rx_ret (em_callD (fun _ h => h) ap1_len rfl (ea_cons (em_lst (ea_cons em_bl (ea_cons em_bl (ea_cons em_non ea_nil)))) ea_nil)) h
        · refine rm_skip ?_
          refine rx_set (em_ifE (et_bool (em_op rs_gt (em_var rfl) em_int)) (em_lc _ (ei_rng1 (em_callD (fun _ h => h) ap1_len rfl (ea_cons em_int ea_nil))) (fun d K h => by exact lc_item1 (by decide) tg_name (eo_of_em (em_callD (fun _ h => h) ap1_len rfl (ea_cons (em_op rs_sub (em_var rfl) em_int) ea_nil))) h)) (em_lst ea_nil)) h fun some_15 h => ?_
          change Rn _ _ [some (.raw (.ref dk)), some (.dat p_deep), some (.dat way_1), some (.dat some_15), none] _
          refine rx_if (et_bool (em_op rs_eq (em_var rfl) em_int)) h (fun h => ?_) (fun h => ?_)
          · refine rm_assoc ?_
            exact rx_ret (em_var rfl) h
          · refine rm_skip ?_
            exact rx_ret (em_ifE (et_bool (em_op rs_eq (em_var rfl) em_int)) (em_disp (eps_cons (.inr "form") (em_b1 b_len (em_var rfl)) (eps_cons (.inl (1)) em_non eps_nil))) (em_b1 b_tuple (em_var rfl))) h
abbrev s_law_changed_tuple : Stmt := topS 27
abbrev N_law_changed_tuple : List Str := ["deck", "thing", "way", "at", "to", "low", "high", "some"]
theorem sc_law_changed_tuple : FnScope N_law_changed_tuple ["deck", "thing"] (defScope s_law_changed_tuple) := ⟨rfl, rfl, rfl, by decide +kernel, rfl, by decide +kernel, by decide +kernel⟩
theorem ok_law_changed_tuple (B : Bn mg) {f : Addr} {fd : FuncData} (F : Fun K "_law_changed_tuple" "_law_changed_tuple" s_law_changed_tuple f fd) (C_law_draw : Cl P w K mg base "_law_draw" ["deck", "many"] 1 (deckM "draws" Ts 1 (ap1 drawW))) (C_law_any : Cl P w K mg base "_law_any" ["deck", "deep"] 7 (deckM "draws" Ts 1 (ap1 (m_law_any 4)))) : FnOk P w K mg base CX0 8 f fd ["deck", "thing"] (deckM "draws" Ts 1 (ap1 m_law_changed_tuple)) := by
  refine ok_deckM F sc_law_changed_tuple rfl (by decide) fun cdv A outer s H E hr => ⟨_, (pss_cons (ps_par3 (i := 2) (j := 3) (l := 4) rfl sc_law_changed_tuple.nd rfl rfl rfl (by decide) (by decide) (by decide) rfl rfl rfl (pa_cons (pCall C_law_draw hr (by decide) (pa_cons (pv 0) (pa_cons pe_int pa_nil))) (pa_cons (pCall C_law_draw hr (by decide) (pa_cons (pv 0) (pa_cons (pe_op (opAdd K) (pLen' K B (pv 1)) pe_int) pa_nil))) (pa_cons (pCall C_law_draw hr (by decide) (pa_cons (pv 0) (pa_cons (pe_op (opAdd K) (pLen' K B (pv 1)) pe_int) pa_nil))) pa_nil))) rfl) (pss_cons (ps_par (i := 5) (j := 6) rfl sc_law_changed_tuple.nd rfl rfl (by decide) rfl rfl (pa_cons (pMin2' B rfl (pv 3) (pv 4)) (pa_cons (pMax2' B rfl (pv 3) (pv 4)) pa_nil)) rfl) (pss_cons (ps_if (pt_cmpR (opEq K hr.units) (pv 2) pe_int (nomark _)) (pss_cons (ps_ret (pList' K B (pv 1))) pss_nil) pss_nil) (pss_cons (ps_if (pt_cmpR (opEq K hr.units) (pv 2) pe_int (nomark _)) (pss_cons (ps_ret (pe_op (opAdd K) (pe_slice (slU K) (pv 1) po_none (po_some (pv 3))) (pe_slice (slU K) (pv 1) (po_some (pe_op (opAdd K) (pv 3) pe_int)) po_none))) pss_nil) pss_nil) (pss_cons (ps_if (pt_cmpR (opEq K hr.units) (pv 2) pe_int (nomark _)) (pss_cons (ps_ret (pe_op (opAdd K) (pe_op (opAdd K) (pe_slice (slU K) (pv 1) po_none (po_some (pv 3))) (pe_slice (slU K) (pv 1) (po_some (pv 3)) (po_some (pe_op (opAdd K) (pv 3) pe_int)))) (pe_slice (slU K) (pv 1) (po_some (pv 3)) po_none))) pss_nil) pss_nil) (pss_cons (ps_if (pt_cmpR (opEq K hr.units) (pv 2) pe_int (nomark _)) (pss_cons (ps_set (i := 7) sc_law_changed_tuple.nd rfl (.inl rfl) (pe_op (opAdd K) (pe_op (opAdd K) (pe_slice (slU K) (pv 1) po_none (po_some (pv 5))) (pe_slice (slU K) (pv 1) (po_some (pv 6)) (po_some (pe_op (opAdd K) (pv 6) pe_int)))) (pe_slice (slU K) (pv 1) (po_some (pe_op (opAdd K) (pv 5) pe_int)) (po_some (pv 6))))) (pss_cons (ps_ret (pe_op (opAdd K) (pe_op (opAdd K) (pv 7) (pe_slice (slU K) (pv 1) (po_some (pv 5)) (po_some (pe_op (opAdd K) (pv 5) pe_int)))) (pe_slice (slU K) (pv 1) (po_some (pe_op (opAdd K) (pv 6) pe_int)) po_none))) pss_nil)) pss_nil) (pss_cons (ps_if (pt_cmpR (opEq K hr.units) (pv 2) pe_int (nomark _)) (pss_cons (ps_ret (pe_op (opAdd K) (pe_op (opAdd K) (pe_slice (slU K) (pv 1) po_none (po_some (pv 3))) (pe_tup (pa_cons (pCall C_law_any hr (by decide) (pa_cons (pv 0) (pa_cons pe_int pa_nil))) pa_nil))) (pe_slice (slU K) (pv 1) (po_some (pv 3)) po_none))) pss_nil) pss_nil) (pss_cons (ps_if (pt_cmpR (opEq K hr.units) (pv 2) pe_int (nomark _)) (pss_cons (ps_ret (pe_tup (pa_cons (pv 1) pa_nil))) pss_nil) pss_nil) (pss_cons (ps_ret (pe_ifExp (pt_cmpR (opEq K hr.units) (pv 2) pe_int (nomark _)) (pRevT K (pv 1)) (pe_slice (slU K) (pv 1) (po_some (pv 5)) (po_some (pv 6))))) pss_nil))))))))), fun S dk cl h1 h2 ds R hl hm => ?_⟩
  obtain ⟨p_thing, rfl, h⟩ := ap1_inv hm
  have hT : ∀ T ∈ Ts, T ∈ (dPm "draws" S dk cl h1 h2 Ts).Ts := fun _ h => h
  unfold m_law_changed_tuple at h
  change Rn _ _ [some (.raw (.ref dk)), some (.dat p_thing), none, none, none, none, none, none] _
  refine ry_par3 (ek_d (em_callD (fun _ h => h) ap1_len rfl (ea_cons em_int ea_nil))) (ek_d (em_callD (fun _ h => h) ap1_len rfl (ea_cons (em_op rs_add (em_b1 b_len (em_var rfl)) em_int) ea_nil))) (ek_d (em_callD (fun _ h => h) ap1_len rfl (ea_cons (em_op rs_add (em_b1 b_len (em_var rfl)) em_int) ea_nil))) h fun way_1 at_3 to_7 h => ?_
  change Rn _ _ [some (.raw (.ref dk)), some (.dat p_thing), some (.dat way_1), some (.dat at_3), some (.dat to_7), none, none, none] _
  refine ry_par (ek_d (em_b2 b_min2 (em_var rfl) (em_var rfl))) (ek_d (em_b2 b_max2 (em_var rfl) (em_var rfl))) h fun low_11 high_13 h => ?_
  change Rn _ _ [some (.raw (.ref dk)), some (.dat p_thing), some (.dat way_1), some (.dat at_3), some (.dat to_7), some (.dat low_11), some (.dat high_13), none] _
  refine rx_if (et_bool (em_op rs_eq (em_var rfl) em_int)) h (fun h => ?_) (fun h => ?_)
  · refine rm_assoc ?_
    exact rx_ret (em_b1 b_list (em_var rfl)) h
  · refine rm_skip ?_
    refine rx_if (et_bool (em_op rs_eq (em_var rfl) em_int)) h (fun h => ?_) (fun h => ?_)
    · refine rm_assoc ?_
      exact rx_ret (em_op rs_add (em_slice (em_var rfl) ep_no (ep_part (em_var rfl))) (em_slice (em_var rfl) (ep_part (em_op rs_add (em_var rfl) em_int)) ep_no)) h
    · refine rm_skip ?_
      refine rx_if (et_bool (em_op rs_eq (em_var rfl) em_int)) h (fun h => ?_) (fun h => ?_)
      · refine rm_assoc ?_
        exact rx_ret (em_op rs_add (em_op rs_add (em_slice (em_var rfl) ep_no (ep_part (em_var rfl))) (em_slice (em_var rfl) (ep_part (em_var rfl)) (ep_part (em_op rs_add (em_var rfl) em_int)))) (em_slice (em_var rfl) (ep_part (em_var rfl)) ep_no)) h
      · refine rm_skip ?_
        refine rx_if (et_bool (em_op rs_eq (em_var rfl) em_int)) h (fun h => ?_) (fun h => ?_)
        · refine rm_assoc ?_
          refine rx_set (em_op rs_add (em_op rs_add (em_slice (em_var rfl) ep_no (ep_part (em_var rfl))) (em_slice (em_var rfl) (ep_part (em_var rfl)) (ep_part (em_op rs_add (em_var rfl) em_int)))) (em_slice (em_var rfl) (ep_part (em_op rs_add (em_var rfl) em_int)) (ep_part (em_var rfl)))) h fun some_40 h => ?_
          change Rn _ _ [some (.raw (.ref dk)), some (.dat p_thing), some (.dat way_1), some (.dat at_3), some (.dat to_7), some (.dat low_11), some (.dat high_13), some (.dat some_40)] _
          refine rm_assoc ?_
          exact rx_ret (em_op rs_add (em_op rs_add (em_var rfl) (em_slice (em_var rfl) (ep_part (em_var rfl)) (ep_part (em_op rs_add (em_var rfl) em_int)))) (em_slice (em_var rfl) (ep_part (em_op rs_add (em_var rfl) em_int)) ep_no)) h
        · refine rm_skip ?_
          refine rx_if (et_bool (em_op rs_eq (em_var rfl) em_int)) h (fun h => ?_) (fun h => ?_)
          · refine rm_assoc ?_
            exact rx_ret (em_op rs_add (em_op rs_add (em_slice (em_var rfl) ep_no (ep_part (em_var rfl))) (em_tup (ea_cons (em_callD (fun _ h => h) ap1_len rfl (ea_cons em_int ea_nil)) ea_nil))) (em_slice (em_var rfl) (ep_part (em_var rfl)) ep_no)) h
          · refine rm_skip ?_
            refine rx_if (et_bool (em_op rs_eq (em_var rfl) em_int)) h (fun h => ?_) (fun h => ?_)
            · refine rm_assoc ?_
              exact rx_ret (em_tup (ea_cons (em_var rfl) ea_nil)) h
            · refine rm_skip ?_
              exact rx_ret (em_ifE (et_bool (em_op rs_eq (em_var rfl) em_int)) (em_rev (em_var rfl)) (em_slice (em_var rfl) (ep_part (em_var rfl)) (ep_part (em_var rfl)))) h
abbrev s_law_bent : Stmt := topS 28
abbrev N_law_bent : List Str := ["deck", "thing", "at", "way", "some"]
theorem sc_law_bent : FnScope N_law_bent ["deck", "thing"] (defScope s_law_bent) := ⟨rfl, rfl, rfl, by decide +kernel, rfl, by decide +kernel, by decide +kernel⟩
theorem ok_law_bent (B : Bn mg) (D : Df K mg "_law_bent" ["deck", "thing"] s_law_bent) (C_law_draw : Cl P w K mg base "_law_draw" ["deck", "many"] 1 (deckM "draws" Ts 1 (ap1 drawW))) (C_law_any : Cl P w K mg base "_law_any" ["deck", "deep"] 7 (deckM "draws" Ts 1 (ap1 (m_law_any 4)))) (C_law_pick : Cl P w K mg base "_law_pick" ["deck", "some"] 2 (deckM "draws" Ts 1 (ap1 m_law_pick))) (C_law_changed_tuple : Cl P w K mg base "_law_changed_tuple" ["deck", "thing"] 8 (deckM "draws" Ts 1 (ap1 m_law_changed_tuple))) : ∀ j : Nat, FnOk P w K mg base CX0 (8 + j + 1) D.f D.fd ["deck", "thing"] (deckM "draws" Ts 1 (ap1 (m_law_bent j)))
  | 0 => by
    refine ok_deckM D.F sc_law_bent rfl (by decide) fun cdv A outer s H E hr => ⟨_, pss_never, fun S dk cl h1 h2 ds R hl hm => ?_⟩
    obtain ⟨_, rfl, h⟩ := ap1_inv hm
    exact h.elim
  | fuel + 1 => by
    let C_law_bent : Cl P w K mg base "_law_bent" ["deck", "thing"] (8 + fuel + 1) (deckM "draws" Ts 1 (ap1 (m_law_bent fuel))) := ⟨D.f, D.fd, ok_law_bent B D C_law_draw C_law_any C_law_pick C_law_changed_tuple fuel, D.g, D.F.kp, D.b⟩
    refine ok_deckM D.F sc_law_bent rfl (by decide) fun cdv A outer s H E hr => ⟨_, (pss_cons (ps_if (PW.pt (pw_and (ptTru K (pIsi' K B (pv 1) (nTuple B))) (pw_and (pt_cmpR (opNe K hr.units) (pv 1) (pe_tup pa_nil) (nomark _)) (pw_and1 (pt_cmpR op_gt (pCall C_law_draw hr (by omega) (pa_cons (pv 0) (pa_cons pe_int pa_nil))) pe_int (nomark _)))))) (pss_cons (ps_set (i := 2) sc_law_bent.nd rfl (.inl rfl) (pCall C_law_draw hr (by omega) (pa_cons (pv 0) (pa_cons (pLen' K B (pv 1)) pa_nil)))) (pss_cons (ps_ret (pe_op (opAdd K) (pe_op (opAdd K) (pe_slice (slU K) (pv 1) po_none (po_some (pv 2))) (pe_tup (pa_cons (pCall C_law_bent hr (by omega) (pa_cons (pv 0) (pa_cons (pe_ix (ixU K) (pv 1) (pv 2) (fun _ _ => rfl)) pa_nil))) pa_nil))) (pe_slice (slU K) (pv 1) (po_some (pe_op (opAdd K) (pv 2) pe_int)) po_none))) pss_nil)) pss_nil) (pss_cons (ps_set (i := 3) sc_law_bent.nd rfl (.inl rfl) (pCall C_law_draw hr (by omega) (pa_cons (pv 0) (pa_cons pe_int pa_nil)))) (pss_cons (ps_if (PW.pt (pw_and (ptTru K (pIsi' K B (pv 1) (nInt B))) (pw_and1 (pt_cmpR op_gt (pv 3) pe_int (nomark _))))) (pss_cons (ps_set (i := 4) sc_law_bent.nd rfl (.inl rfl) (pe_lst (pa_cons (pe_op (opAdd K) (pv 1) pe_int) (pa_cons (pe_op opSub (pv 1) pe_int) (pa_cons (pe_cmpR (opEq K hr.units) (pv 1) pe_int (nomark _)) (pa_cons (pe_op opSub pe_int (pv 1)) pa_nil)))))) (pss_cons (ps_ret (pCall C_law_pick hr (by omega) (pa_cons (pv 0) (pa_cons (pe_op (opAdd K) (pv 4) (pe_lst (pa_cons (pStr B (pv 1)) (pa_cons (pe_tup (pa_cons (pv 1) pa_nil)) (pa_cons pe_int (pa_cons (pe_lst (pa_cons (pv 1) pa_nil)) pa_nil)))))) pa_nil)))) pss_nil)) pss_nil) (pss_cons (ps_if (PW.pt (pw_and (ptTru K (pIsi' K B (pv 1) (nStr B))) (pw_and1 (pt_cmpR op_gt (pv 3) pe_int (nomark _))))) (pss_cons (ps_ret (pCall C_law_pick hr (by omega) (pa_cons (pv 0) (pa_cons (pe_lst (pa_cons pe_str (pa_cons pe_str (pa_cons pe_str (pa_cons pe_str (pa_cons (pe_upper (pv 1)) (pa_cons (pe_op (opAdd K) (pv 1) pe_str) (pa_cons (pe_slice (slU K) (pv 1) po_none (po_some (pe_un un_neg pe_int))) (pa_cons (pe_tup (pa_cons (pv 1) pa_nil)) pa_nil))))))))) pa_nil)))) pss_nil) pss_nil) (pss_cons (ps_if (PW.pt (pw_and (ptTru K (pIsi' K B (pv 1) (nTuple B))) (pw_and1 (pt_cmpR op_gt (pv 3) pe_int (nomark _))))) (pss_cons (ps_ret (pCall C_law_changed_tuple hr (by omega) (pa_cons (pv 0) (pa_cons (pv 1) pa_nil)))) pss_nil) pss_nil) (pss_cons (ps_ret (pCall C_law_any hr (by omega) (pa_cons (pv 0) (pa_cons pe_int pa_nil)))) pss_nil)))))), fun S dk cl h1 h2 ds R hl hm => ?_⟩
    obtain ⟨p_thing, rfl, h⟩ := ap1_inv hm
    have hT : ∀ T ∈ Ts, T ∈ (dPm "draws" S dk cl h1 h2 Ts).Ts := fun _ h => h
    unfold m_law_bent at h
    change Rn _ _ [some (.raw (.ref dk)), some (.dat p_thing), none, none, none] _
    refine rx_if (et_and (et_truth (em_isi (em_var rfl) er_c)) (et_and (et_bool (em_op rs_ne (em_var rfl) (em_tup ea_nil))) (et_bool (em_op rs_gt (em_callD (fun _ h => h) ap1_len rfl (ea_cons em_int ea_nil)) em_int)))) h (fun h => ?_) (fun h => ?_)
    · refine rm_assoc ?_
      refine rx_set (em_callD (fun _ h => h) ap1_len rfl (ea_cons (em_b1 b_len (em_var rfl)) ea_nil)) h fun at_8 h => ?_
      change Rn _ _ [some (.raw (.ref dk)), some (.dat p_thing), some (.dat at_8), none, none] _
      refine rm_assoc ?_
      exact rx_ret (em_op rs_add (em_op rs_add (em_slice (em_var rfl) ep_no (ep_part (em_var rfl))) (em_tup (ea_cons (em_callD (fun _ h => h) ap1_len rfl (ea_cons (em_op rs_ix (em_var rfl) (em_var rfl)) ea_nil)) ea_nil))) (em_slice (em_var rfl) (ep_part (em_op rs_add (em_var rfl) em_int)) ep_no)) h
    · refine rm_skip ?_
      refine rx_set (em_callD (fun _ h => h) ap1_len rfl (ea_cons em_int ea_nil)) h fun way_20 h => ?_
      change Rn _ _ [some (.raw (.ref dk)), some (.dat p_thing), none, some (.dat way_20), none] _
      refine rx_if (et_and (et_truth (em_isi (em_var rfl) er_c)) (et_bool (em_op rs_gt (em_var rfl) em_int))) h (fun h => ?_) (fun h => ?_)
      · refine rm_assoc ?_
        refine rx_set (em_lst (ea_cons (em_op rs_add (em_var rfl) em_int) (ea_cons (em_op rs_sub (em_var rfl) em_int) (ea_cons (em_op rs_eq (em_var rfl) em_int) (ea_cons (em_op rs_sub em_int (em_var rfl)) ea_nil))))) h fun some_25 h => ?_
        change Rn _ _ [some (.raw (.ref dk)), some (.dat p_thing), none, some (.dat way_20), some (.dat some_25)] _
        refine rm_assoc ?_
        exact rx_ret (em_callD (fun _ h => h) ap1_len rfl (ea_cons (em_op rs_add (em_var rfl) (em_lst (ea_cons (em_b1 b_str (em_var rfl)) (ea_cons (em_tup (ea_cons (em_var rfl) ea_nil)) (ea_cons em_int (ea_cons (em_lst (ea_cons (em_var rfl) ea_nil)) ea_nil)))))) ea_nil)) h
      · refine rm_skip ?_
        refine rx_if (et_and (et_truth (em_isi (em_var rfl) er_c)) (et_bool (em_op rs_gt (em_var rfl) em_int))) h (fun h => ?_) (fun h => ?_)
        · refine rm_assoc ?_
          exact rx_ret (em_callD (fun _ h => h) ap1_len rfl (ea_cons (em_lst (ea_cons em_str (ea_cons em_str (ea_cons em_str (ea_cons em_str (ea_cons (em_upper (em_var rfl)) (ea_cons (em_op rs_add (em_var rfl) em_str) (ea_cons (em_slice (em_var rfl) ep_no (ep_part (em_neg em_int))) (ea_cons (em_tup (ea_cons (em_var rfl) ea_nil)) ea_nil))))))))) ea_nil)) h
        · refine rm_skip ?_
          refine rx_if (et_and (et_truth (em_isi (em_var rfl) er_c)) (et_bool (em_op rs_gt (em_var rfl) em_int))) h (fun h => ?_) (fun h => ?_)
          · refine rm_assoc ?_
            exact rx_ret (em_callD (fun _ h => h) ap1_len rfl (ea_cons (em_var rfl) ea_nil)) h
          · refine rm_skip ?_
            exact rx_ret (em_callD (fun _ h => h) ap1_len rfl (ea_cons em_int ea_nil)) h
abbrev s_law_often_bent : Stmt := topS 29
abbrev N_law_often_bent : List Str := ["deck", "thing", "turn"]
theorem sc_law_often_bent : FnScope N_law_often_bent ["deck", "thing"] (defScope s_law_often_bent) := ⟨rfl, rfl, rfl, by decide +kernel, rfl, by decide +kernel, by decide +kernel⟩
theorem ok_law_often_bent (B : Bn mg) {f : Addr} {fd : FuncData} (F : Fun K "_law_often_bent" "_law_often_bent" s_law_often_bent f fd) (C_law_draw : Cl P w K mg base "_law_draw" ["deck", "many"] 1 (deckM "draws" Ts 1 (ap1 drawW))) (C_law_any : Cl P w K mg base "_law_any" ["deck", "deep"] 7 (deckM "draws" Ts 1 (ap1 (m_law_any 4)))) (C_law_pick : Cl P w K mg base "_law_pick" ["deck", "some"] 2 (deckM "draws" Ts 1 (ap1 m_law_pick))) (C_law_bent : Cl P w K mg base "_law_bent" ["deck", "thing"] 17 (deckM "draws" Ts 1 (ap1 (m_law_bent 8)))) : FnOk P w K mg base CX0 18 f fd ["deck", "thing"] (deckM "draws" Ts 1 (ap1 m_law_often_bent)) := by
  refine ok_deckM F sc_law_often_bent rfl (by decide) fun cdv A outer s H E hr => ⟨_, (pss_cons (ps_if (pt_cmpR (opEq K hr.units) (pCall C_law_draw hr (by decide) (pa_cons (pv 0) (pa_cons pe_int pa_nil))) pe_int (nomark _)) (pss_cons (ps_ret (pCall C_law_any hr (by decide) (pa_cons (pv 0) (pa_cons pe_int pa_nil)))) pss_nil) pss_nil) (pss_cons (ps_for PassesOwn.never rfl (piR B (pCall C_law_pick hr (by decide) (pa_cons (pv 0) (pa_cons (pe_lst (pa_cons pe_int (pa_cons pe_int (pa_cons pe_int (pa_cons pe_int (pa_cons pe_int pa_nil)))))) pa_nil)))) (gN 2 sc_law_often_bent.nd) (pss_cons (ps_set (i := 1) sc_law_often_bent.nd rfl (.inl rfl) (pCall C_law_bent hr (by decide) (pa_cons (pv 0) (pa_cons (pv 1) pa_nil)))) pss_nil)) (pss_cons (ps_ret (pv 1)) pss_nil))), fun S dk cl h1 h2 ds R hl hm => ?_⟩
  obtain ⟨p_thing, rfl, h⟩ := ap1_inv hm
  have hT : ∀ T ∈ Ts, T ∈ (dPm "draws" S dk cl h1 h2 Ts).Ts := fun _ h => h
  unfold m_law_often_bent at h
  change Rn _ _ [some (.raw (.ref dk)), some (.dat p_thing), none] _
  refine rx_if (et_bool (em_op rs_eq (em_callD (fun _ h => h) ap1_len rfl (ea_cons em_int ea_nil)) em_int)) h (fun h => ?_) (fun h => ?_)
  · refine rm_assoc ?_
    exact rx_ret (em_callD (fun _ h => h) ap1_len rfl (ea_cons em_int ea_nil)) h
  · refine rm_skip ?_
    refine rx_for (S := PyData) (fun s_5 => [some (.raw (.ref dk)), some (.dat s_5), none]) (ei_rng1 (em_callD (fun _ h => h) ap1_len rfl (ea_cons (em_lst (ea_cons em_int (ea_cons em_int (ea_cons em_int (ea_cons em_int (ea_cons em_int ea_nil)))))) ea_nil))) h (.same (.same (.drop .nil))) (fun turn_10 s_5 nx_6 bk_7 h => ?_) (fun s_5 h => ?_)
    · refine ⟨_, _, tg_name, ?_⟩
      change Rn _ _ [some (.raw (.ref dk)), some (.dat s_5), some (.dat turn_10)] _
      refine rx_set (em_callD (fun _ h => h) ap1_len rfl (ea_cons (em_var rfl) ea_nil)) h fun thing_11 h => ?_
      change Rn _ _ [some (.raw (.ref dk)), some (.dat thing_11), some (.dat turn_10)] _
      exact rn_next ⟨thing_11, (.same (.same (.drop .nil))), h⟩
    · change Rn _ _ [some (.raw (.ref dk)), some (.dat s_5), none] _
      exact rx_ret (em_var rfl) h
abbrev s_law_truths : Stmt := topS 30
abbrev N_law_truths : List Str := ["thing", "it"]
theorem sc_law_truths : FnScope N_law_truths ["thing"] (defScope s_law_truths) := ⟨rfl, rfl, rfl, by decide +kernel, rfl, by decide +kernel, by decide +kernel⟩
theorem ok_law_truths (B : Bn mg) (D : Df K mg "_law_truths" ["thing"] s_law_truths) : ∀ j : Nat, FnOk P w K mg base CX0 (0 + j + 1) D.f D.fd ["thing"] (pureM Ts 1 (ap1 (m_law_truths j)))
  | 0 => by
    refine ok_pureM D.F sc_law_truths rfl (by decide) fun cdv A outer s H E hr => ⟨_, pss_never, fun p ds R hT hl hm => ?_⟩
    obtain ⟨_, rfl, h⟩ := ap1_inv hm
    exact h.elim
  | fuel + 1 => by
    let C_law_truths : Cl P w K mg base "_law_truths" ["thing"] (0 + fuel + 1) (pureM Ts 1 (ap1 (m_law_truths fuel))) := ⟨D.f, D.fd, ok_law_truths B D  fuel, D.g, D.F.kp, D.b⟩
    refine ok_pureM D.F sc_law_truths rfl (by decide) fun cdv A outer s H E hr => ⟨_, (pss_cons (ps_if (ptTru K (pIsi' K B (pv 0) (nTuple B))) (pss_cons (ps_ret (pTup' K B (pe_lc (own := [("it", 1)]) rfl sc_law_truths.nd (piA K (pv 0)) (blkOk_by (own := [("it", 1)]) (N := N_law_truths) (sc := defScope s_law_truths) (by decide +kernel)) (fun _ _ _ _ _ => (gN 1 sc_law_truths.nd)) (fun _ _ _ _ _ => pts_nil) (fun _ _ _ _ _ => (pCall C_law_truths hr (by omega) (pa_cons (pv 1) pa_nil)))))) pss_nil) pss_nil) (pss_cons (ps_ret (pe_ifExp (PW.pt (pw_and (ptTru K (pIsi' K B (pv 0) (nInt B))) (pw_and1 (pt_cmpR (opIn K hr) (pv 0) (pe_tup (pa_cons pe_int (pa_cons pe_int pa_nil))) (by rfl))))) (pe_cmpR (opEq K hr.units) (pv 0) pe_int (nomark _)) (pv 0))) pss_nil)), fun p ds R hT hl hm => ?_⟩
    obtain ⟨p_thing, rfl, h⟩ := ap1_inv hm
    unfold m_law_truths at h
    change Rn _ _ [some (.dat p_thing), none] _
    refine rx_if (et_truth (em_isi (em_var rfl) er_c)) h (fun h => ?_) (fun h => ?_)
    · refine rm_assoc ?_
      exact rx_ret (em_b1 b_tuple (em_lc _ (ei_any (em_var rfl)) (fun d K h => by exact lc_item1 (by decide) tg_name (eo_of_em (em_call hT ap1_len (ea_cons (em_var rfl) ea_nil))) h))) h
    · refine rm_skip ?_
      exact rx_ret (em_ifE (et_and (et_truth (em_isi (em_var rfl) er_c)) (et_bool (em_op rs_in (em_var rfl) (em_tup (ea_cons em_int (ea_cons em_int ea_nil)))))) (em_op rs_eq (em_var rfl) em_int) (em_var rfl)) h
abbrev s_law_plain : Stmt := topS 32
abbrev N_law_plain : List Str := ["spot", "top"]
theorem sc_law_plain : FnScope N_law_plain ["spot"] (defScope s_law_plain) := ⟨rfl, rfl, rfl, by decide +kernel, rfl, by decide +kernel, by decide +kernel⟩
theorem ok_law_plain (B : Bn mg) {f : Addr} {fd : FuncData} (F : Fun K "_law_plain" "_law_plain" s_law_plain f fd) : FnOk P w K mg base CX0 1 f fd ["spot"] (pureM Ts 1 (ap1 m_law_plain)) := by
  refine ok_pureM F sc_law_plain rfl (by decide) fun cdv A outer s H E hr => ⟨_, (pss_cons (ps_ret (pTup' K B (pe_lc (own := [("top", 1)]) rfl sc_law_plain.nd (piA K (pe_ix (ixU K) (pv 0) pe_int (fun _ _ => rfl))) (blkOk_by (own := [("top", 1)]) (N := N_law_plain) (sc := defScope s_law_plain) (by decide +kernel)) (fun _ _ _ _ _ => (gN 1 sc_law_plain.nd)) (fun _ _ _ _ _ => pts_nil) (fun _ _ _ _ _ => (pe_op opFdiv (pe_op (opAdd K) (pe_op (opMul K) pe_int (pv 1)) (pe_ix (ixU K) (pv 0) pe_int (fun _ _ => rfl))) (pe_op (opMul K) pe_int (pe_ix (ixU K) (pv 0) pe_int (fun _ _ => rfl)))))))) pss_nil), fun p ds R hT hl hm => ?_⟩
  obtain ⟨p_spot, rfl, h⟩ := ap1_inv hm
  unfold m_law_plain at h
  change Rn _ _ [some (.dat p_spot), none] _
  exact rx_ret (em_b1 b_tuple (em_lc _ (ei_any (em_op rs_ix (em_var rfl) em_int)) (fun d K h => by exact lc_item1 (by decide) tg_name (eo_of_em (em_op rs_fdiv (em_op rs_add (em_op rs_mul em_int (em_var rfl)) (em_op rs_ix (em_var rfl) em_int)) (em_op rs_mul em_int (em_op rs_ix (em_var rfl) em_int)))) h))) h
abbrev s_law_value : Stmt := topS 33
abbrev N_law_value : List Str := ["deck", "n", "spot", "way", "tops", "bottom", "k", "top"]
theorem sc_law_value : FnScope N_law_value ["deck", "n"] (defScope s_law_value) := ⟨rfl, rfl, rfl, by decide +kernel, rfl, by decide +kernel, by decide +kernel⟩
theorem ok_law_value (B : Bn mg) {f : Addr} {fd : FuncData} (F : Fun K "_law_value" "_law_value" s_law_value f fd) (C_law_drawn_spot : Cl P w K mg base "_law_drawn_spot" ["deck", "n"] 3 (deckM "draws" Ts 1 (ap1 m_law_drawn_spot))) (C_law_draw : Cl P w K mg base "_law_draw" ["deck", "many"] 1 (deckM "draws" Ts 1 (ap1 drawW))) (C_law_pick : Cl P w K mg base "_law_pick" ["deck", "some"] 2 (deckM "draws" Ts 1 (ap1 m_law_pick))) (C_law_truths : Cl P w K mg base "_law_truths" ["thing"] 5 (pureM Ts 1 (ap1 (m_law_truths 4)))) : FnOk P w K mg base CX0 6 f fd ["deck", "n"] (deckM "draws" Ts 1 (ap1 m_law_value)) := by
  refine ok_deckM F sc_law_value rfl (by decide) fun cdv A outer s H E hr => ⟨_, (pss_cons (ps_par (i := 2) (j := 3) rfl sc_law_value.nd rfl rfl (by decide) rfl rfl (pa_cons (pCall C_law_drawn_spot hr (by decide) (pa_cons (pv 0) (pa_cons (pv 1) pa_nil))) (pa_cons (pCall C_law_draw hr (by decide) (pa_cons (pv 0) (pa_cons pe_int pa_nil))) pa_nil)) rfl) (pss_cons (ps_asg (pv 2) (pg_seqN K 2 rfl (pgs_cons (gN 4 sc_law_value.nd) (pgs_cons (gN 5 sc_law_value.nd) pgs_nil)))) (pss_cons (ps_if (pt_cmpR op_lt (pv 3) pe_int (nomark _)) (pss_cons (ps_ret (pv 2)) pss_nil) pss_nil) (pss_cons (ps_if (pt_cmpR (opEq K hr.units) (pv 3) pe_int (nomark _)) (pss_cons (ps_set (i := 6) sc_law_value.nd rfl (.inr rfl) (pe_op (opAdd K) pe_int (pCall C_law_draw hr (by decide) (pa_cons (pv 0) (pa_cons pe_int pa_nil))))) (pss_cons (ps_ret (pe_tup (pa_cons (pTup' K B (pe_lc (own := [("top", 7)]) rfl sc_law_value.nd (piA K (pv 4)) (blkOk_by (own := [("top", 7)]) (N := N_law_value) (sc := defScope s_law_value) (by decide +kernel)) (fun _ _ _ _ _ => (gN 7 sc_law_value.nd)) (fun _ _ _ _ _ => pts_nil) (fun _ _ _ _ _ => (pe_op opFdiv (pe_op (opMul K) (pv 6) (pv 7)) pe_int)))) (pa_cons (pe_op (opMul K) (pv 6) (pe_op (opAdd K) (pe_op opFdiv (pv 5) pe_int) pe_int)) pa_nil)))) pss_nil)) pss_nil) (pss_cons (ps_if (pt_cmpR (opEq K hr.units) (pv 3) pe_int (nomark _)) (pss_cons (ps_ret (pe_tup (pa_cons (pv 4) (pa_cons (pCall C_law_pick hr (by decide) (pa_cons (pv 0) (pa_cons (pe_lst (pa_cons pe_int (pa_cons (pe_un un_neg (pv 5)) (pa_cons (pe_op (opMul K) pe_int (pv 5)) (pa_cons (pe_op (opAdd K) (pv 5) pe_int) (pa_cons (pe_op opSub (pv 5) pe_int) pa_nil)))))) pa_nil))) pa_nil)))) pss_nil) pss_nil) (pss_cons (ps_if (pt_cmpR (opEq K hr.units) (pv 3) pe_int (nomark _)) (pss_cons (ps_ret (pCall C_law_pick hr (by decide) (pa_cons (pv 0) (pa_cons (pe_lst (pa_cons (pe_tup (pa_cons (pe_op (opAdd K) (pv 4) (pe_tup (pa_cons pe_int pa_nil))) (pa_cons (pv 5) pa_nil))) (pa_cons (pe_tup (pa_cons (pe_slice (slU K) (pv 4) (po_some pe_int) po_none) (pa_cons (pv 5) pa_nil))) (pa_cons (pe_tup (pa_cons (pv 5) (pa_cons (pv 4) pa_nil))) (pa_cons (pe_tup (pa_cons (pv 4) pa_nil)) (pa_cons (pv 4) (pa_cons (pe_tup (pa_cons (pv 4) (pa_cons (pv 5) (pa_cons pe_int pa_nil)))) pa_nil))))))) pa_nil)))) pss_nil) pss_nil) (pss_cons (ps_ret (pe_ifExp (pt_cmpR (opEq K hr.units) (pv 3) pe_int (nomark _)) (pCall C_law_truths hr (by decide) (pa_cons (pv 2) pa_nil)) (pe_tup (pa_cons (pe_op (opMul K) (pe_tup (pa_cons pe_int pa_nil)) (pv 1)) (pa_cons (pe_op (opAdd K) pe_int (pCall C_law_draw hr (by decide) (pa_cons (pv 0) (pa_cons pe_int pa_nil)))) pa_nil))))) pss_nil))))))), fun S dk cl h1 h2 ds R hl hm => ?_⟩
  obtain ⟨p_n, rfl, h⟩ := ap1_inv hm
  have hT : ∀ T ∈ Ts, T ∈ (dPm "draws" S dk cl h1 h2 Ts).Ts := fun _ h => h
  unfold m_law_value at h
  change Rn _ _ [some (.raw (.ref dk)), some (.dat p_n), none, none, none, none, none, none] _
  refine ry_par (ek_d (em_callD (fun _ h => h) ap1_len rfl (ea_cons (em_var rfl) ea_nil))) (ek_d (em_callD (fun _ h => h) ap1_len rfl (ea_cons em_int ea_nil))) h fun spot_1 way_3 h => ?_
  change Rn _ _ [some (.raw (.ref dk)), some (.dat p_n), some (.dat spot_1), some (.dat way_3), none, none, none, none] _
  refine rx_unp (em_var rfl) h fun d_5 h => ?_
  replace h := unpS2_inv h
  obtain ⟨tops_6, bottom_7, he_8, h⟩ := h
  refine ⟨_, _, (tg_seq he_8 (tgs_cons tg_name (tgs_cons tg_name tgs_nil)) rfl), ?_⟩
  change Rn _ _ [some (.raw (.ref dk)), some (.dat p_n), some (.dat spot_1), some (.dat way_3), some (.dat tops_6), some (.dat bottom_7), none, none] _
  refine rx_if (et_bool (em_op rs_lt (em_var rfl) em_int)) h (fun h => ?_) (fun h => ?_)
  · refine rm_assoc ?_
    exact rx_ret (em_var rfl) h
  · refine rm_skip ?_
    refine rx_if (et_bool (em_op rs_eq (em_var rfl) em_int)) h (fun h => ?_) (fun h => ?_)
    · refine rm_assoc ?_
      refine rx_set (em_op rs_add em_int (em_callD (fun _ h => h) ap1_len rfl (ea_cons em_int ea_nil))) h fun k_13 h => ?_
      change Rn _ _ [some (.raw (.ref dk)), some (.dat p_n), some (.dat spot_1), some (.dat way_3), some (.dat tops_6), some (.dat bottom_7), some (.dat k_13), none] _
      refine rm_assoc ?_
      exact rx_ret (em_tup (ea_cons (em_b1 b_tuple (em_lc _ (ei_any (em_var rfl)) (fun d K h => by exact lc_item1 (by decide) tg_name (eo_of_em (em_op rs_fdiv (em_op rs_mul (em_var rfl) (em_var rfl)) em_int)) h))) (ea_cons (em_op rs_mul (em_var rfl) (em_op rs_add (em_op rs_fdiv (em_var rfl) em_int) em_int)) ea_nil))) h
    · refine rm_skip ?_
      refine rx_if (et_bool (em_op rs_eq (em_var rfl) em_int)) h (fun h => ?_) (fun h => ?_)
      · refine rm_assoc ?_
        exact rx_ret (em_tup (ea_cons (em_var rfl) (ea_cons (em_callD (fun _ h => h) ap1_len rfl (ea_cons (em_lst (ea_cons em_int (ea_cons (em_neg (em_var rfl)) (ea_cons (em_op rs_mul em_int (em_var rfl)) (ea_cons (em_op rs_add (em_var rfl) em_int) (ea_cons (em_op rs_sub (em_var rfl) em_int) ea_nil)))))) ea_nil)) ea_nil))) h
      · refine rm_skip ?_
        refine rx_if (et_bool (em_op rs_eq (em_var rfl) em_int)) h (fun h => ?_) (fun h => ?_)
        · refine rm_assoc ?_
          exact rx_ret (em_callD (fun _ h => h) ap1_len rfl (ea_cons (em_lst (ea_cons (em_tup (ea_cons (em_op rs_add (em_var rfl) (em_tup (ea_cons em_int ea_nil))) (ea_cons (em_var rfl) ea_nil))) (ea_cons (em_tup (ea_cons (em_slice (em_var rfl) (ep_part em_int) ep_no) (ea_cons (em_var rfl) ea_nil))) (ea_cons (em_tup (ea_cons (em_var rfl) (ea_cons (em_var rfl) ea_nil))) (ea_cons (em_tup (ea_cons (em_var rfl) ea_nil)) (ea_cons (em_var rfl) (ea_cons (em_tup (ea_cons (em_var rfl) (ea_cons (em_var rfl) (ea_cons em_int ea_nil)))) ea_nil))))))) ea_nil)) h
        · refine rm_skip ?_
          exact rx_ret (em_ifE (et_bool (em_op rs_eq (em_var rfl) em_int)) (em_call hT ap1_len (ea_cons (em_var rfl) ea_nil)) (em_tup (ea_cons (em_op rs_mul (em_tup (ea_cons em_int ea_nil)) (em_var rfl)) (ea_cons (em_op rs_add em_int (em_callD (fun _ h => h) ap1_len rfl (ea_cons em_int ea_nil))) ea_nil)))) h
abbrev s_law_is_great : Stmt := topS 34
abbrev N_law_is_great : List Str := ["n", "thing", "top"]
theorem sc_law_is_great : FnScope N_law_is_great ["n", "thing"] (defScope s_law_is_great) := ⟨rfl, rfl, rfl, by decide +kernel, rfl, by decide +kernel, by decide +kernel⟩
theorem ok_law_is_great (B : Bn mg) {f : Addr} {fd : FuncData} (F : Fun K "_law_is_great" "_law_is_great" s_law_is_great f fd) (C_law_is_spot : Cl P w K mg base "_law_is_spot" ["n", "thing"] 3 (pureM Ts 2 (ap2 m_law_is_spot))) : FnOk P w K mg base CX0 4 f fd ["n", "thing"] (pureM Ts 2 (ap2 m_law_is_great)) := by
  refine ok_pureM F sc_law_is_great rfl (by decide) fun cdv A outer s H E hr => ⟨_, (pss_cons (ps_if (pt_not (ptTru K (pCall C_law_is_spot hr (by decide) (pa_cons (pv 0) (pa_cons (pv 1) pa_nil))))) (pss_cons (ps_ret pe_bl) pss_nil) pss_nil) (pss_cons (ps_ret (pOrT K (pe_cmpR op_gt (pe_ix (ixU K) (pv 1) pe_int (fun _ _ => rfl)) pe_int (nomark _)) (pe_one (pe_cmpR op_gt (pMaxS K B rfl (pe_lc (own := [("top", 2)]) rfl sc_law_is_great.nd (piA K (pe_ix (ixU K) (pv 1) pe_int (fun _ _ => rfl))) (blkOk_by (own := [("top", 2)]) (N := N_law_is_great) (sc := defScope s_law_is_great) (by decide +kernel)) (fun _ _ _ _ _ => (gN 2 sc_law_is_great.nd)) (fun _ _ _ _ _ => pts_nil) (fun _ _ _ _ _ => (pAbs B (pv 2))))) (pe_op op_pow pe_int pe_int) (nomark _))))) pss_nil)), fun p ds R hT hl hm => ?_⟩
  obtain ⟨p_n, p_thing, rfl, h⟩ := ap2_inv hm
  unfold m_law_is_great at h
  change Rn _ _ [some (.dat p_n), some (.dat p_thing), none] _
  refine rx_if (et_not (et_truth (em_call hT ap2_len (ea_cons (em_var rfl) (ea_cons (em_var rfl) ea_nil))))) h (fun h => ?_) (fun h => ?_)
  · refine rm_assoc ?_
    exact rx_ret em_bl h
  · refine rm_skip ?_
    exact rx_ret (em_or (em_op rs_gt (em_op rs_ix (em_var rfl) em_int) em_int) (em_op rs_gt (em_b1 b_maxS (em_lc _ (ei_any (em_op rs_ix (em_var rfl) em_int)) (fun d K h => by exact lc_item1 (by decide) tg_name (eo_of_em (em_b1 b_abs (em_var rfl))) h))) (em_op rs_pow em_int em_int))) h
abbrev s_law_is_moved_right : Stmt := topS 35
abbrev N_law_is_moved_right : List Str := ["deck", "n", "spot", "due", "place", "moved", "i", "top", "x", "y"]
theorem sc_law_is_moved_right : FnScope N_law_is_moved_right ["deck", "n", "spot", "due"] (defScope s_law_is_moved_right) := ⟨rfl, rfl, rfl, by decide +kernel, rfl, by decide +kernel, by decide +kernel⟩
theorem ok_law_is_moved_right (B : Bn mg) (hb : Hsb base) {f : Addr} {fd : FuncData} (F : Fun K "_law_is_moved_right" "_law_is_moved_right" s_law_is_moved_right f fd) (C_law_is_great : Cl P w K mg base "_law_is_great" ["n", "thing"] 4 (pureM Ts 2 (ap2 m_law_is_great))) (C_plain_place : Cl P w K mg base "plain_place" ["n", "spot"] 6 (pureM Ts 2 (ap2 m_plain_place))) (C_law_draw : Cl P w K mg base "_law_draw" ["deck", "many"] 1 (deckM "draws" Ts 1 (ap1 drawW))) : FnG P w K mg base 7 f fd ["deck", "n", "spot", "due"] (deckM "draws" Ts 3 (ap3 m_law_is_moved_right)) := by
  refine ok_deckMG F sc_law_is_moved_right rfl (by decide) fun cdv A outer s H hr hG => ⟨_, (pss_cons (ps_set (i := 4) sc_law_is_moved_right.nd rfl (.inl rfl) (pTup' K B (pe_lc (own := [("i", 6)]) rfl sc_law_is_moved_right.nd (piR B (pv 1)) (blkOk_by (own := [("i", 6)]) (N := N_law_is_moved_right) (sc := defScope s_law_is_moved_right) (by decide +kernel)) (fun _ _ _ _ _ => (gN 6 sc_law_is_moved_right.nd)) (fun _ _ _ _ _ => pts_nil) (fun _ _ _ _ _ => (pe_op opSub (pCall C_law_draw hr (by decide) (pa_cons (pv 0) (pa_cons pe_int pa_nil))) pe_int))))) (pss_cons (ps_set (i := 5) sc_law_is_moved_right.nd rfl (.inl rfl) (pe_tup (pa_cons (pTup' K B (pe_lc (own := [("top", 7), ("x", 8)]) rfl sc_law_is_moved_right.nd (piM K B (pe_ix (ixU K) (pv 2) pe_int (fun _ _ => rfl)) (pv 4)) (blkOk_by (own := [("top", 7), ("x", 8)]) (N := N_law_is_moved_right) (sc := defScope s_law_is_moved_right) (by decide +kernel)) (fun _ _ _ _ _ => (pg_tupN K 2 rfl (pgs_cons (gN 7 sc_law_is_moved_right.nd) (pgs_cons (gN 8 sc_law_is_moved_right.nd) pgs_nil)))) (fun _ _ _ _ _ => pts_nil) (fun _ _ _ _ _ => (pe_op (opAdd K) (pv 7) (pe_op (opMul K) (pe_ix (ixU K) (pv 2) pe_int (fun _ _ => rfl)) (pv 8)))))) (pa_cons (pe_ix (ixU K) (pv 2) pe_int (fun _ _ => rfl)) pa_nil)))) (pss_cons (ps_if (pt_cmpR (opNe K hr.units) (pRepv B hb hG hr.units (pCall C_plain_place hr (by decide) (pa_cons (pv 1) (pa_cons (pe_tup (pa_cons (pv 4) (pa_cons pe_int pa_nil))) pa_nil)))) (pRepv B hb hG hr.units (pv 4)) (nomark _)) (pss_cons (ps_ret pe_bl) pss_nil) pss_nil) (pss_cons (ps_if (ptTru K (pCall C_law_is_great hr (by decide) (pa_cons (pv 1) (pa_cons (pv 5) pa_nil)))) (pss_cons (ps_ret pe_bl) pss_nil) pss_nil) (pss_cons (ps_ret (pe_cmpR (opEq K hr.units) (pRepv B hb hG hr.units (pCall C_plain_place hr (by decide) (pa_cons (pv 1) (pa_cons (pv 5) pa_nil)))) (pRepv B hb hG hr.units (pTup' K B (pe_lc (own := [("x", 8), ("y", 9)]) rfl sc_law_is_moved_right.nd (piM K B (pv 3) (pv 4)) (blkOk_by (own := [("x", 8), ("y", 9)]) (N := N_law_is_moved_right) (sc := defScope s_law_is_moved_right) (by decide +kernel)) (fun _ _ _ _ _ => (pg_tupN K 2 rfl (pgs_cons (gN 8 sc_law_is_moved_right.nd) (pgs_cons (gN 9 sc_law_is_moved_right.nd) pgs_nil)))) (fun _ _ _ _ _ => pts_nil) (fun _ _ _ _ _ => (pe_op (opAdd K) (pv 8) (pv 9)))))) (nomark _))) pss_nil))))), fun S dk cl h1 h2 ds R hl hm => ?_⟩
  obtain ⟨p_n, p_spot, p_due, rfl, h⟩ := ap3_inv hm
  have hT : ∀ T ∈ Ts, T ∈ (dPm "draws" S dk cl h1 h2 Ts).Ts := fun _ h => h
  unfold m_law_is_moved_right at h
  change Rn _ _ [some (.raw (.ref dk)), some (.dat p_n), some (.dat p_spot), some (.dat p_due), none, none, none, none, none, none] _
  refine rx_set (em_b1 b_tuple (em_lc _ (ei_rng1 (em_var rfl)) (fun d K h => by exact lc_item1 (by decide) tg_name (eo_of_em (em_op rs_sub (em_callD (fun _ h => h) ap1_len rfl (ea_cons em_int ea_nil)) em_int)) h))) h fun place_1 h => ?_
  change Rn _ _ [some (.raw (.ref dk)), some (.dat p_n), some (.dat p_spot), some (.dat p_due), some (.dat place_1), none, none, none, none, none] _
  refine rx_set (em_tup (ea_cons (em_b1 b_tuple (em_lc _ (ei_zip (em_op rs_ix (em_var rfl) em_int) (em_var rfl)) (fun d K h => by replace h := unp2_inv h; obtain ⟨top_8, x_9, rfl, h⟩ := h; exact lc_item1 (by decide) (tg_tup (tgs_cons tg_name (tgs_cons tg_name tgs_nil)) rfl) (eo_of_em (em_op rs_add (em_var rfl) (em_op rs_mul (em_op rs_ix (em_var rfl) em_int) (em_var rfl)))) h))) (ea_cons (em_op rs_ix (em_var rfl) em_int) ea_nil))) h fun moved_5 h => ?_
  change Rn _ _ [some (.raw (.ref dk)), some (.dat p_n), some (.dat p_spot), some (.dat p_due), some (.dat place_1), some (.dat moved_5), none, none, none, none] _
  refine rx_if (et_bool (em_op rs_ne (em_b1 b_repr (em_call hT ap2_len (ea_cons (em_var rfl) (ea_cons (em_tup (ea_cons (em_var rfl) (ea_cons em_int ea_nil))) ea_nil)))) (em_b1 b_repr (em_var rfl)))) h (fun h => ?_) (fun h => ?_)
  · refine rm_assoc ?_
    exact rx_ret em_bl h
  · refine rm_skip ?_
    refine rx_if (et_truth (em_call hT ap2_len (ea_cons (em_var rfl) (ea_cons (em_var rfl) ea_nil)))) h (fun h => ?_) (fun h => ?_)
    · refine rm_assoc ?_
      exact rx_ret em_bl h
    · refine rm_skip ?_
      exact rx_ret (em_op rs_eq (em_b1 b_repr (em_call hT ap2_len (ea_cons (em_var rfl) (ea_cons (em_var rfl) ea_nil)))) (em_b1 b_repr (em_b1 b_tuple (em_lc _ (ei_zip (em_var rfl) (em_var rfl)) (fun d K h => by replace h := unp2_inv h; obtain ⟨x_20, y_21, rfl, h⟩ := h; exact lc_item1 (by decide) (tg_tup (tgs_cons tg_name (tgs_cons tg_name tgs_nil)) rfl) (eo_of_em (em_op rs_add (em_var rfl) (em_var rfl))) h))))) h
abbrev s_law : Stmt := topS 36
abbrev N_law : List Str := ["script", "deck", "turn", "n", "way", "thing", "due", "text", "told", "near", "far"]
theorem sc_law : FnScope N_law ["script"] (defScope s_law) := ⟨rfl, rfl, rfl, by decide +kernel, rfl, by decide +kernel, by decide +kernel⟩
theorem ok_law (B : Bn mg) (hb : Hsb base) {cL PL : Addr} (hQ : PL ∈ Ts ∧ ¬ GT.g PL ∧ GT.q PL = "law.<locals>.<lambda>") (TBL : GxR.TabB base mg cL PL) {f : Addr} {fd : FuncData} (F : FunC K "law" "law" s_law f fd cL) (C_law_deck : Cl P w K mg base "_law_deck" ["script"] 1 (spDeck "draws" K)) (C_law_value : Cl P w K mg base "_law_value" ["deck", "n"] 6 (deckM "draws" Ts 1 (ap1 m_law_value))) (C_law_is_great : Cl P w K mg base "_law_is_great" ["n", "thing"] 4 (pureM Ts 2 (ap2 m_law_is_great))) (C_law_often_bent : Cl P w K mg base "_law_often_bent" ["deck", "thing"] 18 (deckM "draws" Ts 1 (ap1 m_law_often_bent))) (C_law_is_spot : Cl P w K mg base "_law_is_spot" ["n", "thing"] 3 (pureM Ts 2 (ap2 m_law_is_spot))) (C_is_spot : Cl P w K mg base "is_spot" ["n", "thing"] 4 (pureM Ts 2 (ap2 m_is_spot))) (C_law_draw : Cl P w K mg base "_law_draw" ["deck", "many"] 1 (deckM "draws" Ts 1 (ap1 drawW))) (C_law_plain : Cl P w K mg base "_law_plain" ["spot"] 1 (pureM Ts 1 (ap1 m_law_plain))) (C_law_is_moved_right : ClG P w K mg base "_law_is_moved_right" ["deck", "n", "spot", "due"] 7 (deckM "draws" Ts 3 (ap3 m_law_is_moved_right))) (T_law_told : ClT P w K mg base "_law_told" "call" Cs m_law_told) (X_plain_place : ClX P w K mg base "plain_place" ["n", "spot"] 6 (pureX Cs Ts 2 (ax2 x_plain_place))) (kb_is_spot_0 : KBinds K C_is_spot.fd ["n", "thing"] ["thing", "n"] (perm .none 0 [1, 0]) (perm .non 0 [1, 0])) (kb_plain_place_0 : KBinds K X_plain_place.fd ["n", "spot"] ["spot", "n"] (perm .none 0 [1, 0]) (perm .non 0 [1, 0])) (hm : m_law (· = .bool true)) : FnG P w K mg base 19 f fd ["script"] (spLaw K Ts) := by
  refine ok_lawMC (nm := "draws") F sc_law (by decide) hm fun A outer s H hr hG => ⟨_, (pss_cons (ps_set (i := 1) sc_law.nd rfl (.inl rfl) (pCall C_law_deck hr (by decide) (pa_cons (pv 0) pa_nil))) (pss_cons (ps_for PassesOwn.never rfl (piR B pe_int) (gN 2 sc_law.nd) (pss_cons (ps_asg (pe_tup (pa_cons (pe_op (opAdd K) pe_int (pCall C_law_draw hr (by decide) (pa_cons (pv 1) (pa_cons pe_int pa_nil)))) (pa_cons (pe_op op_and (pv 2) pe_int) pa_nil))) (pg_tupN K 2 rfl (pgs_cons (gN 3 sc_law.nd) (pgs_cons (gN 4 sc_law.nd) pgs_nil)))) (pss_cons (ps_set (i := 5) sc_law.nd rfl (.inr rfl) (pCall C_law_value hr (by decide) (pa_cons (pv 1) (pa_cons (pv 3) pa_nil)))) (pss_cons (ps_if (pt_cmpR op_gt (pv 2) pe_int (nomark _)) (pss_cons (ps_set (i := 5) sc_law.nd rfl (.inr rfl) (pCall C_law_often_bent hr (by decide) (pa_cons (pv 1) (pa_cons (pv 5) pa_nil)))) pss_nil) pss_nil) (pss_cons (ps_if (ptTru K (pCall C_law_is_great hr (by decide) (pa_cons (pv 3) (pa_cons (pv 5) pa_nil)))) (pss_cons (ps_set (i := 5) sc_law.nd rfl (.inr rfl) (pe_tup (pa_cons (pe_op (opMul K) (pe_tup (pa_cons pe_int pa_nil)) (pv 3)) (pa_cons pe_int pa_nil)))) pss_nil) pss_nil) (pss_cons (ps_par (i := 6) (j := 7) rfl sc_law.nd rfl rfl (by decide) rfl rfl (pa_cons (pCall C_law_is_spot hr (by decide) (pa_cons (pv 3) (pa_cons (pv 5) pa_nil))) (pa_cons (pRepv B hb hG hr.units (pv 5)) pa_nil)) rfl) (pss_cons (ps_set (i := 8) sc_law.nd rfl (.inl rfl) (pe_ifExp (pt_cmpR (opEq K hr.units) (pv 4) pe_int (nomark _)) (pCall C_is_spot hr (by decide) (pa_cons (pv 3) (pa_cons (pv 5) pa_nil))) (pe_callK0 C_is_spot.G (hr.mono (by decide)) rfl C_is_spot.g C_is_spot.kp kb_is_spot_0 pass0 (pk_cons (pv 5) (pk_cons (pv 3) pk_nil))))) (pss_cons (ps_set (i := 9) sc_law.nd rfl (.inl rfl) (pe_lst (pa_cons (pLam (k := 6) T_law_told TBL hr (by decide) (fun _ _ _ _ _ _ _ hrL tkL => (pCallX X_plain_place tkL hrL (by decide) (pa_cons (pv 3) (pa_cons (pv 5) pa_nil))))) pa_nil))) (pss_cons (ps_expr (pe_bm PySem.F.plainAttrs_list PySem.F.slot_list_append PySem.F.type_list_append mt_append (pv 9) (pa_cons (pLam (k := 6) T_law_told TBL hr (by decide) (fun _ _ _ _ _ _ _ hrL tkL => (pe_callK0 X_plain_place.G (hrL.mono (by decide)) rfl X_plain_place.g X_plain_place.kp kb_plain_place_0 (passes_call tkL fun _ _ _ _ h => h) (pk_cons (pv 5) (pk_cons (pv 3) pk_nil))))) pa_nil))) (pss_cons (ps_set (i := 10) sc_law.nd rfl (.inl rfl) (pe_ifExp (ptTru K (pv 6)) (pe_tup (pa_cons pe_str (pa_cons (pCall C_law_plain hr (by decide) (pa_cons (pv 5) pa_nil)) pa_nil))) (pe_tup (pa_cons pe_str (pa_cons (pv 5) (pa_cons pe_bl pa_nil)))))) (pss_cons (ps_if (PW.pt (pw_or (pt_cmpR (opNe K hr.units) (pRepv B hb hG hr.units (pe_tup (pa_cons (pv 8) (pa_cons (pCall C_is_spot hr (by decide) (pa_cons (pv 3) (pa_cons (pv 5) pa_nil))) (pa_cons (pv 9) pa_nil))))) (pRepv B hb hG hr.units (pe_tup (pa_cons (pv 6) (pa_cons (pv 6) (pa_cons (pe_op (opMul K) (pe_lst (pa_cons (pv 10) pa_nil)) pe_int) pa_nil))))) (nomark _)) (pw_or1 (pt_cmpR (opNe K hr.units) (pRepv B hb hG hr.units (pv 5)) (pv 7) (nomark _))))) (pss_cons (ps_ret pe_bl) pss_nil) pss_nil) (pss_cons (ps_if (PW.pt (pw_and (ptTru K (pv 6)) (pw_and1 (pt_not (ptTru K (pCallG C_law_is_moved_right hr hG (by decide) (pa_cons (pv 1) (pa_cons (pv 3) (pa_cons (pv 5) (pa_cons (pe_ix (ixU K) (pv 10) pe_int (fun _ _ => rfl)) pa_nil)))))))))) (pss_cons (ps_ret pe_bl) pss_nil) pss_nil) pss_nil)))))))))))) (pss_cons (ps_ret pe_bl) pss_nil))), fun S dk cl h1 h2 R h => ?_⟩
  have hT : ∀ T ∈ Ts, T ∈ (dPm "draws" S dk cl h1 h2 Ts).Ts := fun _ h => h
  have hL : LamP (dPm "draws" S dk cl h1 h2 Ts) PL "law.<locals>.<lambda>" := ⟨hQ.1, hQ.2.1, hQ.2.2⟩
  unfold m_law at h
  change Rn _ _ [none, some (.raw (.ref dk)), none, none, none, none, none, none, none, none, none] _
  refine rx_for (S := Unit) (fun s_1 => [none, some (.raw (.ref dk)), none, none, none, none, none, none, none, none, none]) (ei_rng1 em_int) h (.drop (.same (.drop (.drop (.drop (.drop (.drop (.drop (.drop (.drop (.drop .nil))))))))))) (fun turn_6 s_1 nx_2 bk_3 h => ?_) (fun s_1 h => ?_)
  · refine ⟨_, _, tg_name, ?_⟩
    change Rn _ _ [none, some (.raw (.ref dk)), some (.dat turn_6), none, none, none, none, none, none, none, none] _
    refine ry_tup2 (ek_d (em_op rs_add em_int (em_callD (fun _ h => h) ap1_len rfl (ea_cons em_int ea_nil)))) (ek_d (em_op rs_band (em_var rfl) em_int)) h fun n_7 way_10 h => ?_
    change Rn _ _ [none, some (.raw (.ref dk)), some (.dat turn_6), some (.dat n_7), some (.dat way_10), none, none, none, none, none, none] _
    refine rx_set (em_callD (fun _ h => h) ap1_len rfl (ea_cons (em_var rfl) ea_nil)) h fun thing_12 h => ?_
    change Rn _ _ [none, some (.raw (.ref dk)), some (.dat turn_6), some (.dat n_7), some (.dat way_10), some (.dat thing_12), none, none, none, none, none] _
    refine rm_join (S := PyData) (fun s_15 => [none, some (.raw (.ref dk)), some (.dat turn_6), some (.dat n_7), some (.dat way_10), some (.dat s_15), none, none, none, none, none]) h (fun k_16 h => ?_) (fun s_15 h => ?_)
    · refine rx_ifE (et_bool (em_op rs_gt (em_var rfl) em_int)) h (fun h => ?_) (fun h => ?_)
      · refine rx_set (em_callD (fun _ h => h) ap1_len rfl (ea_cons (em_var rfl) ea_nil)) h fun thing_17 h => ?_
        change Rn _ _ [none, some (.raw (.ref dk)), some (.dat turn_6), some (.dat n_7), some (.dat way_10), some (.dat thing_17), none, none, none, none, none] _
        exact rn_next ⟨thing_17, (.drop (.same (.same (.same (.same (.same (.drop (.drop (.drop (.drop (.drop .nil))))))))))), h⟩
      · exact rn_next ⟨thing_12, (.drop (.same (.same (.same (.same (.same (.drop (.drop (.drop (.drop (.drop .nil))))))))))), h⟩
    · change Rn _ _ [none, some (.raw (.ref dk)), some (.dat turn_6), some (.dat n_7), some (.dat way_10), some (.dat s_15), none, none, none, none, none] _
      refine rm_join (S := PyData) (fun s_21 => [none, some (.raw (.ref dk)), some (.dat turn_6), some (.dat n_7), some (.dat way_10), some (.dat s_21), none, none, none, none, none]) h (fun k_22 h => ?_) (fun s_21 h => ?_)
      · refine rx_ifE (et_truth (em_call hT ap2_len (ea_cons (em_var rfl) (ea_cons (em_var rfl) ea_nil)))) h (fun h => ?_) (fun h => ?_)
        · refine rx_set (em_tup (ea_cons (em_op rs_mul (em_tup (ea_cons em_int ea_nil)) (em_var rfl)) (ea_cons em_int ea_nil))) h fun thing_23 h => ?_
          change Rn _ _ [none, some (.raw (.ref dk)), some (.dat turn_6), some (.dat n_7), some (.dat way_10), some (.dat thing_23), none, none, none, none, none] _
          exact rn_next ⟨thing_23, (.drop (.same (.same (.same (.same (.same (.drop (.drop (.drop (.drop (.drop .nil))))))))))), h⟩
        · exact rn_next ⟨s_15, (.drop (.same (.same (.same (.same (.same (.drop (.drop (.drop (.drop (.drop .nil))))))))))), h⟩
      · change Rn _ _ [none, some (.raw (.ref dk)), some (.dat turn_6), some (.dat n_7), some (.dat way_10), some (.dat s_21), none, none, none, none, none] _
        refine ry_par (ek_d (em_call hT ap2_len (ea_cons (em_var rfl) (ea_cons (em_var rfl) ea_nil)))) (ek_d (em_b1 b_repr (em_var rfl))) h fun due_25 text_27 h => ?_
        change Rn _ _ [none, some (.raw (.ref dk)), some (.dat turn_6), some (.dat n_7), some (.dat way_10), some (.dat s_21), some (.dat due_25), some (.dat text_27), none, none, none] _
        refine rx_set (em_ifE (et_bool (em_op rs_eq (em_var rfl) em_int)) (em_call hT ap2_len (ea_cons (em_var rfl) (ea_cons (em_var rfl) ea_nil))) (em_callK hT ap2_len ea_nil (ea_cons (em_var rfl) (ea_cons (em_var rfl) ea_nil)))) h fun told_29 h => ?_
        change Rn _ _ [none, some (.raw (.ref dk)), some (.dat turn_6), some (.dat n_7), some (.dat way_10), some (.dat s_21), some (.dat due_25), some (.dat text_27), some (.dat told_29), none, none] _
        refine rx_own (kd := kL) (ek_l (el_lst (ea_cons (em_lamC hL T_law_told.T hT ax2_len (ea_cons (em_var rfl) (ea_cons (em_var rfl) ea_nil))) ea_nil))) h fun near_30 h => ?_
        change Rn _ _ [none, some (.raw (.ref dk)), some (.dat turn_6), some (.dat n_7), some (.dat way_10), some (.dat s_21), some (.dat due_25), some (.dat text_27), some (.dat told_29), some (.own (oL near_30)), none] _
        refine rx_appendL rfl (em_lamK hL T_law_told.T hT ax2_len ea_nil (ea_cons (em_var rfl) (ea_cons (em_var rfl) ea_nil))) h fun near_31 h => ?_
        change Rn _ _ [none, some (.raw (.ref dk)), some (.dat turn_6), some (.dat n_7), some (.dat way_10), some (.dat s_21), some (.dat due_25), some (.dat text_27), some (.dat told_29), some (.own (oL near_31)), none] _
        refine rx_part (.same (.same (.same (.same (.same (.same (.same (.same (.same (.l (.same .nil))))))))))) ?_
        change Rn _ _ [none, some (.raw (.ref dk)), some (.dat turn_6), some (.dat n_7), some (.dat way_10), some (.dat s_21), some (.dat due_25), some (.dat text_27), some (.dat told_29), some (.dat (PyData.list near_31)), none] _
        refine rx_set (em_ifE (et_truth (em_var rfl)) (em_tup (ea_cons em_str (ea_cons (em_call hT ap1_len (ea_cons (em_var rfl) ea_nil)) ea_nil))) (em_tup (ea_cons em_str (ea_cons (em_var rfl) (ea_cons em_bl ea_nil))))) h fun far_32 h => ?_
        change Rn _ _ [none, some (.raw (.ref dk)), some (.dat turn_6), some (.dat n_7), some (.dat way_10), some (.dat s_21), some (.dat due_25), some (.dat text_27), some (.dat told_29), some (.dat (PyData.list near_31)), some (.dat far_32)] _
        refine rx_if (et_or (et_bool (em_op rs_ne (em_b1 b_repr (em_tup (ea_cons (em_var rfl) (ea_cons (em_call hT ap2_len (ea_cons (em_var rfl) (ea_cons (em_var rfl) ea_nil))) (ea_cons (em_var rfl) ea_nil))))) (em_b1 b_repr (em_tup (ea_cons (em_var rfl) (ea_cons (em_var rfl) (ea_cons (em_op rs_mul (em_lst (ea_cons (em_var rfl) ea_nil)) em_int) ea_nil))))))) (et_bool (em_op rs_ne (em_b1 b_repr (em_var rfl)) (em_var rfl)))) h (fun h => ?_) (fun h => ?_)
        · refine rm_assoc ?_
          exact rx_ret em_bl h
        · refine rm_skip ?_
          refine rx_if (et_and (et_truth (em_var rfl)) (et_not (et_truth (em_callD (fun _ h => h) ap3_len rfl (ea_cons (em_var rfl) (ea_cons (em_var rfl) (ea_cons (em_op rs_ix (em_var rfl) em_int) ea_nil))))))) h (fun h => ?_) (fun h => ?_)
          · refine rm_assoc ?_
            exact rx_ret em_bl h
          · refine rm_skip ?_
            exact rn_next ⟨(), (.drop (.same (.drop (.drop (.drop (.drop (.drop (.drop (.drop (.drop (.drop .nil))))))))))), h⟩
  · change Rn _ _ [none, some (.raw (.ref dk)), none, none, none, none, none, none, none, none, none] _
    exact rx_ret em_bl h
end
end Kz
set_option Elab.async false
set_option linter.all false
set_option maxRecDepth 100000
set_option maxHeartbeats 4000000
/-! Kz: kinds, of any value -/
namespace Kz
open PySem PySem.Spec PyProof.Rows L2
def isWhole : PyData → Bool
  | .int _ => true
  | _ => false
def isStep (n : Int) : PyData → Bool
  | .tuple ds => decide ((ds.length : Int) = n) && ds.all isWhole
  | _ => false
def isSquare (n : Int) : PyData → Bool
  | .tuple ds => decide ((ds.length : Int) = n) && ds.all (isStep n)
  | _ => false
theorem w_is_whole {d : PyData} {P : PyData → Prop} (h : P (.bool (isWhole d))) : m_is_whole d P := by
  cases d <;> first
    | exact ⟨_, rfl, ⟨_, rfl, h⟩⟩
    | exact ⟨_, rfl, h⟩
theorem allG_map {G : PyData → W PyData} {f : PyData → Bool} : ∀ {ds : List PyData}, (∀ d ∈ ds, ∀ K : PyData → Prop, K (.bool (f d)) → G d K) → ∀ {P : PyData → Prop}, P (.bool (ds.all f)) → allGW G ds P := by
  intro ds
  induction ds with
  | nil => intro _ P h; exact h
  | cons d ds ih =>
    intro hG P h
    refine hG d (by simp) _ ?_
    show cW (f d) _ _
    cases e : f d with
    | true => exact ih (fun x hx => hG x (by simp [hx])) (by simpa [e] using h)
    | false => simp only [List.all_cons, e, Bool.false_and] at h; exact h
theorem w_is_step {n : Int} {d : PyData} {P : PyData → Prop} (h : P (.bool (isStep n d))) : m_is_step (.int n) d P := by
  cases d with
  | tuple ds =>
    refine ⟨_, rfl, ?_⟩
    simp only [truth_b, Bool.not_true, cW_f, len_t, ne_ii, bool_b]
    by_cases e : (ds.length : Int) = n
    · simp only [e, decide_true, Bool.not_true, cW_f, letW, iter_t]
      refine allG_map (f := isWhole) (fun d _ K hK => w_is_whole hK) ?_
      simp only [isStep, e, decide_true, Bool.true_and] at h
      exact h
    · simp only [e, decide_false, Bool.not_false, cW_t, letW]
      simp only [isStep, e, decide_false, Bool.false_and] at h
      exact h
  | _ => exact ⟨_, rfl, h⟩
theorem isStep_row {n : Nat} {l : List Int} (h : l.length = n) : isStep n (rowD l) = true := by
  simp only [isStep, List.length_map, h, decide_true, Bool.true_and, List.all_map]
  exact List.all_eq_true.mpr fun _ _ => rfl
theorem isSquare_mat {n : Nat} {r : Mat} (s : Sq n r) : isSquare n (matD r) = true := by
  simp only [isSquare, List.length_map, s.h, decide_true, Bool.true_and, List.all_map]
  exact List.all_eq_true.mpr fun l hl => isStep_row (s.w l hl)
end Kz
set_option Elab.async false
set_option linter.all false
set_option maxRecDepth 100000
set_option maxHeartbeats 4000000
/-! Kz: the program's determinant -/
namespace Kz
open PySem PySem.Spec PyProof.Rows L2
def withoutM (r : Mat) (i j : Nat) : Mat := (r.take i ++ r.drop (i + 1)).map fun l => l.take j ++ l.drop (j + 1)
theorem sm_pow {i : Int} {k : Nat} (hk : k < 400000) (h : i.natAbs < 2 ^ k) : Sm i := by
  rcases Nat.eq_zero_or_pos k with e | e
  · subst e
    have : i.natAbs = 0 := by simpa using h
    unfold Sm bits
    rw [this]
    decide
  · exact Nat.lt_trans (bits_lt e h) hk
end Kz
set_option Elab.async false
set_option linter.all false
set_option maxRecDepth 100000
set_option maxHeartbeats 4000000
/-! Kz: the program's stairs -/
namespace Kz
open PySem PySem.Spec PyProof.Rows L2
def kb (k : Nat) : Nat → Nat
  | 0 => k
  | m + 1 => 2 * kb k m + 3
theorem kb_mono {k i j : Nat} (h : i ≤ j) : kb k i ≤ kb k j := by
  induction j with
  | zero => have : i = 0 := by omega
            rw [this]; exact Nat.le_refl _
  | succ j ih =>
    rcases Nat.lt_or_ge i (j + 1) with h' | h'
    · have := ih (by omega)
      show _ ≤ 2 * kb k j + 3
      omega
    · have : i = j + 1 := by omega
      rw [this]; exact Nat.le_refl _
theorem kb4 {k : Nat} : kb k 4 = 16 * k + 45 := by simp only [kb]; omega
theorem kb9 {k : Nat} : kb k 9 = 512 * k + 1533 := by simp only [kb]; omega
theorem rows_at {T : Mat} {f : List Int → PyData} {i : Nat} (h : i < T.length) : (T.map f)[i]? = some (f (T.getD i [])) := by
  rw [List.getElem?_map, List.getD_eq_getElem?_getD, List.getElem?_eq_getElem h]
  rfl
theorem row_at {l : List Int} {i : Nat} (h : i < l.length) : (l.map PyData.int)[i]? = some (.int (l.getD i 0)) := by
  rw [List.getElem?_map, List.getD_eq_getElem?_getD, List.getElem?_eq_getElem h]
  rfl
theorem set_map {T : Mat} {f : List Int → PyData} {i : Nat} {l : List Int} : (T.map f).set i (f l) = (T.set i l).map f := by rw [List.map_set]
theorem bp_all {k n : Nat} {T : Mat} (s : Sq n T) (h : Bp k T) {i : Nat} (hi : i < n) : AllLe (2 ^ k) (T.getD i []) := fun x hx => Nat.le_of_lt (h _ (row_mem (by rw [s.h]; exact hi)) x hx)
theorem range_at {n i : Nat} {f : Nat → PyData} {d : PyData} (h : ((List.range n).map f)[i]? = some d) : i < n ∧ d = f i := by
  have hi : i < n := by
    have := (List.getElem?_eq_some_iff.mp h).1
    simpa using this
  rw [List.getElem?_map, List.getElem?_range hi] at h
  exact ⟨hi, (Option.some.inj h).symm⟩
/-- the first columns done -/
structure Ech (n : Nat) (r : Mat) (a : Nat) (T : Mat) : Prop where
  s : Sq n T
  e : Same n r T
  d : dt T = dt r ∨ dt T = -dt r
  lo : ∀ c i, c < a → c < i → i < n → ent T i c = 0
  dg : ∀ c, c < a → c < n → 0 ≤ ent T c c
theorem prod_pos : ∀ {l : List Int}, (∀ x ∈ l, 0 ≤ x) → 0 ≤ prodL l
  | [], _ => by simp [prodL]
  | x :: l, h => by
    have := prod_pos (l := l) fun y hy => h y (by simp [hy])
    exact Int.mul_nonneg (h x (by simp)) this
theorem prod_ne {l : List Int} (h : prodL l ≠ 0) : ∀ x ∈ l, x ≠ 0 := by
  induction l with
  | nil => simp
  | cons a l ih =>
    intro x hx e
    rcases List.mem_cons.mp hx with rfl | hx
    · exact h (by simp [prodL, e])
    · exact ih (fun z => h (by simp [prodL, z])) x hx e
theorem Ech.tri {n : Nat} {r T : Mat} (h : Ech n r n T) (h1 : 1 ≤ n) (h3 : n ≤ 3) (hd : dt r ≠ 0) : Tri n T ∧ prodL (dgs n T) = (dt r).natAbs := by
  have up := dt_up h.s h1 h3 fun i j hj hi => h.lo j i (by omega) hj hi
  have nn : ∀ x ∈ dgs n T, 0 ≤ x := fun x hx => by
    unfold dgs at hx
    obtain ⟨i, hi, rfl⟩ := List.mem_map.mp hx
    have := List.mem_range.mp hi
    exact h.dg i this this
  have p0 := prod_pos nn
  have hne : prodL (dgs n T) ≠ 0 := fun z => by
    rw [z] at up
    rcases h.d with e | e <;> omega
  refine ⟨⟨h.s, fun i j hj hi => h.lo j i (by omega) hj hi, fun i hi => ?_⟩, by rcases h.d with e | e <;> omega⟩
  have m : ent T i i ∈ dgs n T := List.mem_map.mpr ⟨i, List.mem_range.mpr hi, rfl⟩
  have := nn _ m
  have := prod_ne hne _ m
  omega
theorem bp_neg {k n i : Nat} {T : Mat} (s : Sq n T) (b : Bp k T) (hi : i < n) : Bp k (T.set i (negT (T.getD i []))) := fun l hl x hx => by
  rcases List.mem_or_eq_of_mem_set hl with hl | rfl
  · exact b l hl x hx
  · obtain ⟨y, hy, rfl⟩ := List.mem_map.mp hx
    rw [Int.natAbs_neg]
    exact b _ (row_mem (by rw [s.h]; exact hi)) y hy
theorem Ech.neg {n a : Nat} {r T : Mat} (h : Ech n r a T) (h1 : 1 ≤ n) (h3 : n ≤ 3) (ha : a < n) : Ech n r a (T.set a (negT (T.getD a []))) := by
  have g : ∀ i, i ≠ a → (T.set a (negT (T.getD a []))).getD i [] = T.getD i [] := fun i hi => by rw [set_get (by rw [h.s.h]; exact ha), if_neg (Ne.symm hi)]
  have ga : (T.set a (negT (T.getD a []))).getD a [] = negT (T.getD a []) := by rw [set_get (by rw [h.s.h]; exact ha), if_pos rfl]
  refine ⟨h.s.set (by rw [List.length_map]; exact h.s.len ha), h.e.trans (same_neg h.s ha), ?_, fun c i hc hi hn => ?_, fun c hc hn => ?_⟩
  · rw [dt_neg h.s h1 h3 ha]
    rcases h.d with e | e
    · exact .inr (by rw [e])
    · exact .inl (by rw [e]; simp)
  · by_cases e : i = a
    · subst e
      rw [ent_get, ga, negT_get, show (T.getD i []).getD c 0 = 0 from h.lo c i hc hi hn]; rfl
    · rw [ent_get, g i e]; exact h.lo c i hc hi hn
  · rw [ent_get, g c (by omega)]; exact h.dg c hc hn
end Kz
set_option Elab.async false
set_option linter.all false
set_option maxRecDepth 100000
set_option maxHeartbeats 4000000
/-! Kz: the program's words -/
namespace Kz
open PySem PySem.Spec PyProof.Rows L2
theorem enum_rows (T : Mat) (f : List Int → PyData) : enumD (T.map f) = (List.range T.length).map fun i => .tuple [.int (i : Int), f (T.getD i [])] := by
  rw [enum_map]
  refine List.ext_getElem? fun i => ?_
  rw [List.getElem?_map, List.getElem?_map, List.getElem?_zipIdx]
  rcases Nat.lt_or_ge i T.length with h | h
  · rw [List.getElem?_range h, List.getElem?_eq_getElem h]
    have e : T.getD i [] = T[i] := by rw [List.getD_eq_getElem?_getD, List.getElem?_eq_getElem h]; rfl
    simp [List.getElem?_eq_getElem h]
  · rw [List.getElem?_eq_none h, List.getElem?_eq_none (by simpa using h)]
    rfl
/-- one more place of a word on the stairs -/
structure Wp (n : Nat) (T : Mat) (x : List Int) (a kw : Nat) (w : List Int) : Prop where
  l : w.length = n
  s : Spn n T (addT x w (-1))
  b : ∀ i, i < a → i < n → 0 ≤ w.getD i 0 ∧ w.getD i 0 < ent T i i
  k : BpL kw w
theorem fdiv_le {a d : Int} (hd : 0 < d) : (a.fdiv d).natAbs ≤ a.natAbs := by
  have h0 := fdiv_mul a d
  have h1 := Int.fmod_nonneg_of_pos a hd
  have h2 := Int.fmod_lt_of_pos a hd
  rcases Int.lt_or_le 0 (a.fdiv d) with h | h
  · have : 1 * a.fdiv d ≤ d * a.fdiv d := Int.mul_le_mul_of_nonneg_right (by omega) (by omega)
    have e : a.fdiv d * d = d * a.fdiv d := Int.mul_comm _ _
    omega
  · by_cases hz : a.fdiv d = 0
    · omega
    · -- q <= -1: a = q d + m < 0, and |a| >= |q| unless ..
      have hq : a.fdiv d + 1 ≤ 0 := by omega
      have : d * (a.fdiv d + 1) ≤ 1 * (a.fdiv d + 1) := by
        have := Int.mul_le_mul_of_nonneg_right (a := 1) (b := d) (c := -(a.fdiv d + 1)) (by omega) (by omega)
        have e1 : 1 * -(a.fdiv d + 1) = -(a.fdiv d + 1) := by omega
        have e2 : d * -(a.fdiv d + 1) = -(d * (a.fdiv d + 1)) := by rw [Int.mul_neg]
        omega
      have e : d * (a.fdiv d + 1) = a.fdiv d * d + d := by grind
      omega
theorem Wp.next {n a kw kr : Nat} {T : Mat} {x w : List Int} (t : Tri n T) (hx : x.length = n) (h : Wp n T x a kw w) (ha : a < n) (hb : Bp kr T) :
    Wp n T x (a + 1) (kw + kr + 1) (addT w (T.getD a []) (-((w.getD a 0).fdiv (ent T a a)))) := by
  have la := t.s.len ha
  have d := t.dg a ha
  have h0 := fdiv_mul (w.getD a 0) (ent T a a)
  refine ⟨addT_len' h.l la, ?_, fun i hi hn => ?_, fun z hz => ?_⟩
  · have := h.s.add ((w.getD a 0).fdiv (ent T a a)) (row_mem (i := a) (by rw [t.s.h]; exact ha))
    have e : addT (addT x w (-1)) (T.getD a []) ((w.getD a 0).fdiv (ent T a a)) = addT x (addT w (T.getD a []) (-((w.getD a 0).fdiv (ent T a a)))) (-1) := by
      rw [addT_assoc (by rw [hx, h.l]) (by rw [h.l, la])]
      have e2 : (-1 : Int) * -((w.getD a 0).fdiv (ent T a a)) = (w.getD a 0).fdiv (ent T a a) := by omega
      rw [e2]
    rwa [e] at this
  · rw [addT_get (by rw [h.l, la])]
    by_cases e : i = a
    · subst e
      have h1 := Int.fmod_nonneg_of_pos (w.getD i 0) d
      have h2 := Int.fmod_lt_of_pos (w.getD i 0) d
      have e3 : -((w.getD i 0).fdiv (ent T i i)) * (T.getD i []).getD i 0 = -((w.getD i 0).fdiv (ent T i i) * ent T i i) := by rw [Int.neg_mul]
      omega
    · rw [show (T.getD a []).getD i 0 = 0 from t.lo a i (by omega) ha, Int.mul_zero, Int.add_zero]
      exact h.b i (by omega) hn
  · obtain ⟨p, hp, q, hq, rfl⟩ := mem_addT hz
    have b1 := h.k p hp
    have b2 := hb _ (row_mem (by rw [t.s.h]; exact ha)) q hq
    have b3 : ((w.getD a 0).fdiv (ent T a a)).natAbs < 2 ^ kw := Nat.lt_of_le_of_lt (fdiv_le d) (h.k _ (getD_mem (by rw [h.l]; exact ha)))
    have b4 : (-((w.getD a 0).fdiv (ent T a a)) * q).natAbs ≤ 2 ^ kw * 2 ^ kr := by
      rw [Int.natAbs_mul, Int.natAbs_neg]
      exact Nat.mul_le_mul (Nat.le_of_lt b3) (Nat.le_of_lt b2)
    have e5 : 2 ^ (kw + kr + 1) = 2 ^ kw * 2 ^ kr * 2 := by rw [Nat.pow_succ, Nat.pow_add]
    have e6 : 2 ^ kw ≤ 2 ^ kw * 2 ^ kr := Nat.le_mul_of_pos_right _ Nat.one_le_two_pow
    omega
theorem Wp.done {n kw : Nat} {r T : Mat} {x w : List Int} (e : Same n r T) (h : Wp n T x n kw w) : Wd n r T x w := ⟨h.l, (e _).mpr h.s, fun i hi => h.b i hi hi⟩
theorem Wp.start {n kw : Nat} {T : Mat} {x : List Int} (hx : x.length = n) (hk : BpL kw x) : Wp n T x 0 kw x := ⟨hx, by
  have : addT x x (-1) = zer n := vec_ext (by rw [addT_len rfl]; simp [hx]) fun i => by rw [addT_get rfl, zer_get]; grind
  rw [this]; exact .zero, by omega, hk⟩
theorem diag_le {n : Nat} {T : Mat} (t : Tri n T) (h3 : n ≤ 3) (h1 : 1 ≤ n) {i : Nat} (hi : i < n) : ent T i i ≤ prodL (dgs n T) := by
  have d0 := t.dg 0 (by omega)
  rcases n123 h1 h3 with rfl | rfl | rfl
  · have : i = 0 := by omega
    subst this
    simp [dgs, prodL, List.range_succ]
  · have d1 := t.dg 1 (by omega)
    have e : prodL (dgs 2 T) = ent T 0 0 * ent T 1 1 := by simp [dgs, prodL, List.range_succ]
    rw [e]
    have q1 : 1 * ent T 1 1 ≤ ent T 0 0 * ent T 1 1 := Int.mul_le_mul_of_nonneg_right (by omega) (by omega)
    have q0 : ent T 0 0 * 1 ≤ ent T 0 0 * ent T 1 1 := Int.mul_le_mul_of_nonneg_left (by omega) (by omega)
    rcases lt2c hi with rfl | rfl <;> omega
  · have d1 := t.dg 1 (by omega)
    have d2 := t.dg 2 (by omega)
    have e : prodL (dgs 3 T) = ent T 0 0 * (ent T 1 1 * ent T 2 2) := by simp [dgs, prodL, List.range_succ]
    rw [e]
    have p12 : 0 < ent T 1 1 * ent T 2 2 := Int.mul_pos d1 d2
    have q1 : 1 * ent T 2 2 ≤ ent T 1 1 * ent T 2 2 := Int.mul_le_mul_of_nonneg_right (by omega) (by omega)
    have q0 : ent T 1 1 * 1 ≤ ent T 1 1 * ent T 2 2 := Int.mul_le_mul_of_nonneg_left (by omega) (by omega)
    have q2 : 1 * (ent T 1 1 * ent T 2 2) ≤ ent T 0 0 * (ent T 1 1 * ent T 2 2) := Int.mul_le_mul_of_nonneg_right (by omega) (by omega)
    have q3 : ent T 0 0 * 1 ≤ ent T 0 0 * (ent T 1 1 * ent T 2 2) := Int.mul_le_mul_of_nonneg_left (by omega) (by omega)
    rcases lt3c hi with rfl | rfl | rfl <;> omega
/-- all words, by the diagonal -/
def grow (ws : List (List Int)) (d : Int) : List (List Int) := ws.flatMap fun w => (List.range d.toNat).map fun (x : Nat) => w ++ [(x : Int)]
def wordsD (ds : List Int) : List (List Int) := ds.foldl grow [[]]
theorem grow_len (ws : List (List Int)) (d : Int) : (grow ws d).length = ws.length * d.toNat := by
  unfold grow
  induction ws with
  | nil => simp
  | cons w ws ih => rw [List.flatMap_cons, List.length_append, ih, List.length_map, List.length_range, List.length_cons]; grind
theorem words_len (ds : List Int) (h : ∀ d ∈ ds, 0 ≤ d) (ws : List (List Int)) : ((ds.foldl grow ws).length : Int) = ws.length * prodL ds := by
  induction ds generalizing ws with
  | nil => simp [prodL]
  | cons d ds ih =>
    rw [List.foldl_cons, ih (fun x hx => h x (by simp [hx])), grow_len]
    have := h d (by simp)
    have e : (((ws.length * d.toNat : Nat)) : Int) = ws.length * d := by rw [Int.natCast_mul]; congr 1; omega
    rw [e]
    simp only [prodL]
    grind
theorem take_dgs {n i : Nat} {T : Mat} (hi : i < n) : (dgs n T).take (i + 1) = (dgs n T).take i ++ [ent T i i] := by
  unfold dgs
  rw [← List.map_take, ← List.map_take, List.take_range, List.take_range, Nat.min_eq_left (by omega), Nat.min_eq_left (by omega), List.range_succ, List.map_append]
  rfl
theorem grow_all {ws : List (List Int)} {d : Int} {f : List Int → PyData} : ws.flatMap (fun w => (List.range d.toNat).map fun (x : Nat) => f (w ++ [(x : Int)])) = (grow ws d).map f := by
  unfold grow
  rw [List.map_flatMap]
  congr 1
  funext w
  rw [List.map_map]
  rfl
theorem grow_le {ws : List (List Int)} {d : Int} {m : Nat} (h : ∀ w ∈ ws, w.length = m) : ∀ w ∈ grow ws d, w.length = m + 1 := fun w hw => by
  unfold grow at hw
  obtain ⟨v, hv, hw⟩ := List.mem_flatMap.mp hw
  obtain ⟨x, _, rfl⟩ := List.mem_map.mp hw
  rw [List.length_append, h v hv]
  rfl
theorem prod_take {l : List Int} (h : ∀ x ∈ l, 0 < x) (i : Nat) : 1 ≤ prodL (l.take i) ∧ prodL (l.take i) ≤ prodL l := by
  induction l generalizing i with
  | nil => simp [prodL]
  | cons a l ih =>
    have ha := h a (by simp)
    obtain ⟨p1, p2⟩ := ih (fun x hx => h x (by simp [hx])) l.length
    rw [List.take_length] at p1 p2
    cases i with
    | zero =>
      simp only [List.take_zero, prodL]
      have : 1 * 1 ≤ a * prodL l := Int.mul_le_mul (by omega) p1 (by decide) (by omega)
      omega
    | succ i =>
      obtain ⟨q1, q2⟩ := ih (fun x hx => h x (by simp [hx])) i
      simp only [List.take_succ_cons, prodL]
      have e1 : 1 * 1 ≤ a * prodL (l.take i) := Int.mul_le_mul (by omega) q1 (by decide) (by omega)
      have e2 : a * prodL (l.take i) ≤ a * prodL l := Int.mul_le_mul_of_nonneg_left q2 (by omega)
      omega
theorem dgs_pos {n : Nat} {T : Mat} (t : Tri n T) : ∀ x ∈ dgs n T, 0 < x := fun x hx => by
  unfold dgs at hx
  obtain ⟨i, hi, rfl⟩ := List.mem_map.mp hx
  exact t.dg i (List.mem_range.mp hi)
theorem words_take {n i : Nat} {T : Mat} (t : Tri n T) : ((wordsD ((dgs n T).take i)).length : Int) ≤ prodL (dgs n T) := by
  have := words_len ((dgs n T).take i) (fun d hd => Int.le_of_lt (dgs_pos t d (List.mem_of_mem_take hd))) [[]]
  have h2 := (prod_take (dgs_pos t) i).2
  unfold wordsD
  rw [this]
  simpa using h2
theorem rng1_int {d : Int} {P : List PyData → Prop} (h0 : 0 ≤ d) (h : d < 1000000) (hp : P ((List.range d.toNat).map fun (i : Nat) => .int (i : Int))) : rng1W (.int d) P := by
  have e : ((d.toNat : Nat) : Int) = d := by omega
  have := rng1_nat (n := d.toNat) (by omega) hp
  rwa [e] at this
/-! what is asked first -/
theorem bd_bp {k M : Nat} {r : Mat} (h : Bd M r) (hM : M < 2 ^ k) : Bp k r := fun l hl x hx => Nat.lt_of_le_of_lt (h l hl x hx) hM
end Kz
set_option Elab.async false
set_option linter.all false
set_option maxRecDepth 100000
set_option maxHeartbeats 4000000
/-! Kz: the program's adjoint, sums and orders of words -/
namespace Kz
open PySem PySem.Spec PyProof.Rows L2
def sgnI (k : Nat) (x : Int) : Int := if k % 2 = 0 then x else -x
def dt1 : Mat → Int
  | [] => 1
  | r => dt r
theorem without_sq {n i j : Nat} {r : Mat} (s : Sq (n + 1) r) (hi : i < n + 1) (hj : j < n + 1) : Sq n (withoutM r i j) := by
  refine ⟨?_, fun l hl => ?_⟩
  · have := s.h
    simp only [withoutM, List.length_map, List.length_append, List.length_take, List.length_drop]
    omega
  · unfold withoutM at hl
    obtain ⟨x, hx, rfl⟩ := List.mem_map.mp hl
    have lx : x.length = n + 1 := by
      rcases List.mem_append.mp hx with hx | hx
      · exact s.w _ (List.mem_of_mem_take hx)
      · exact s.w _ (List.mem_of_mem_drop hx)
    simp only [List.length_append, List.length_take, List.length_drop]
    omega
theorem without_bd {M i j : Nat} {r : Mat} (b : Bd M r) : Bd M (withoutM r i j) := fun l hl x hx => by
  unfold withoutM at hl
  obtain ⟨y, hy, rfl⟩ := List.mem_map.mp hl
  have hy' : y ∈ r := by
    rcases List.mem_append.mp hy with hy | hy
    · exact List.mem_of_mem_take hy
    · exact List.mem_of_mem_drop hy
  refine b y hy' x ?_
  rcases List.mem_append.mp hx with hx | hx
  · exact List.mem_of_mem_take hx
  · exact List.mem_of_mem_drop hx
theorem adj_get {n : Nat} {r : Mat} (s : Sq n r) (h1 : 1 ≤ n) (h3 : n ≤ 3) : adjM r = (List.range n).map fun i => (List.range n).map fun j => sgnI (i + j) (dt1 (withoutM r j i)) := by
  rcases n123 h1 h3 with rfl | rfl | rfl
  · obtain ⟨a, rfl⟩ := s.one; rfl
  · obtain ⟨a, b, c, d, rfl⟩ := s.two; rfl
  · obtain ⟨a, b, c, d, e, f, g, h, i, rfl⟩ := s.three; rfl
theorem w_common {l : List Int} {b : Int} {P : PyData → Prop} (hp : P (.int (gcdL b.natAbs l : Nat))) : m_common_divisor (rowD l) (.int b) P := by
  unfold m_common_divisor
  simp only [letW, abs_i, forL, iter_t]
  have key : ∀ (l : List Int) (a : Nat) {P : PyData → Prop}, P (.int (gcdL a l : Nat)) → forW (S := PyData) (fun top s nx bk => gcdW s top fun v => nx v) (l.map .int) (.int (a : Int)) P := fun l => by
    induction l with
    | nil => intro a P hp; exact hp
    | cons t l ih =>
      intro a P hp
      show P (.int ((Nat.gcd a t.natAbs : Nat) : Int)) |> fun _ => _
      exact ih (Nat.gcd a t.natAbs) hp
  exact key l b.natAbs hp
theorem gcdL_neg : ∀ {l : List Int} {a : Nat}, gcdL a (negT l) = gcdL a l
  | [], _ => rfl
  | t :: l, a => by
    show gcdL (Nat.gcd a (-t).natAbs) (negT l) = gcdL (Nat.gcd a t.natAbs) l
    rw [Int.natAbs_neg]
    exact gcdL_neg
theorem adj_bd {n M : Nat} {r : Mat} (s : Sq n r) (h1 : 1 ≤ n) (h3 : n ≤ 3) (b : Bd M r) (hM : 1 ≤ M) : Bd (2 * (M * M)) (adjM r) := by
  have hM2 : M ≤ M * M := Nat.le_mul_of_pos_left _ hM
  have mm : ∀ x y z u : Int, x.natAbs ≤ M → y.natAbs ≤ M → z.natAbs ≤ M → u.natAbs ≤ M → (x * y - z * u).natAbs ≤ 2 * (M * M) := fun x y z u hx hy hz hu => by
    have h1 : (x * y).natAbs ≤ M * M := by rw [Int.natAbs_mul]; exact Nat.mul_le_mul hx hy
    have h2 : (z * u).natAbs ≤ M * M := by rw [Int.natAbs_mul]; exact Nat.mul_le_mul hz hu
    omega
  rcases n123 h1 h3 with rfl | rfl | rfl
  · obtain ⟨a, rfl⟩ := s.one
    intro l hl x hx
    simp only [adjM, List.mem_cons, List.not_mem_nil, or_false] at hl
    subst hl
    simp only [List.mem_cons, List.not_mem_nil, or_false] at hx
    subst hx
    have : 1 ≤ M * M := Nat.le_trans hM hM2
    show 1 ≤ _
    omega
  · obtain ⟨a, b', c, d, rfl⟩ := s.two
    have b1 := b [a, b'] (by simp)
    have b2 := b [c, d] (by simp)
    intro l hl x hx
    simp only [adjM, List.mem_cons, List.not_mem_nil, or_false] at hl
    have ha := b1 a (by simp); have hb := b1 b' (by simp); have hc := b2 c (by simp); have hd := b2 d (by simp)
    rcases hl with rfl | rfl <;> simp only [List.mem_cons, List.not_mem_nil, or_false] at hx <;> rcases hx with rfl | rfl <;> omega
  · obtain ⟨a, b', c, d, e, f, g, h, i, rfl⟩ := s.three
    have b1 := b [a, b', c] (by simp)
    have b2 := b [d, e, f] (by simp)
    have b3 := b [g, h, i] (by simp)
    have ha := b1 a (by simp); have hb := b1 b' (by simp); have hc := b1 c (by simp)
    have hd := b2 d (by simp); have he := b2 e (by simp); have hf := b2 f (by simp)
    have hg := b3 g (by simp); have hh := b3 h (by simp); have hi := b3 i (by simp)
    intro l hl x hx
    simp only [adjM, List.mem_cons, List.not_mem_nil, or_false] at hl
    rcases hl with rfl | rfl | rfl <;> simp only [List.mem_cons, List.not_mem_nil, or_false] at hx <;> rcases hx with rfl | rfl | rfl <;> (try rw [Int.natAbs_neg]) <;> apply mm <;> assumption
/-- the numbers of a spot, told by the rows -/
def toldV (n : Nat) (r : Mat) (x : List Int) : List Int := if 0 < dt r then qv n r x else negT (qv n r x)
theorem dt_bd {n M : Nat} {r : Mat} (s : Sq n r) (h1 : 1 ≤ n) (h3 : n ≤ 3) (b : Bd M r) (hM : 1 ≤ M) : (dt r).natAbs ≤ 6 * (M * (M * M)) := by
  have m2 : M ≤ M * M := Nat.le_mul_of_pos_left _ hM
  have m3 : M * M ≤ M * (M * M) := Nat.mul_le_mul_left M m2
  have mm : ∀ x y : Int, x.natAbs ≤ M → y.natAbs ≤ M → (x * y).natAbs ≤ M * M := fun x y hx hy => by rw [Int.natAbs_mul]; exact Nat.mul_le_mul hx hy
  have mmm : ∀ x y z u v : Int, x.natAbs ≤ M → y.natAbs ≤ M → z.natAbs ≤ M → u.natAbs ≤ M → v.natAbs ≤ M → (x * (y * z - u * v)).natAbs ≤ 2 * (M * (M * M)) := fun x y z u v hx hy hz hu hv => by
    have a1 := mm y z hy hz
    have a2 := mm u v hu hv
    have a3 : (y * z - u * v).natAbs ≤ 2 * (M * M) := by omega
    rw [Int.natAbs_mul]
    have := Nat.mul_le_mul hx a3
    have e : M * (2 * (M * M)) = 2 * (M * (M * M)) := by rw [Nat.mul_left_comm]
    omega
  rcases n123 h1 h3 with rfl | rfl | rfl
  · obtain ⟨a, rfl⟩ := s.one
    have := b [a] (by simp) a (by simp)
    show a.natAbs ≤ _
    omega
  · obtain ⟨a, b', c, d, rfl⟩ := s.two
    have b1 := b [a, b'] (by simp)
    have b2 := b [c, d] (by simp)
    have h1 := mm a d (b1 a (by simp)) (b2 d (by simp))
    have h2 := mm b' c (b1 b' (by simp)) (b2 c (by simp))
    show (a * d - b' * c).natAbs ≤ _
    omega
  · obtain ⟨a, b', c, d, e, f, g, h, i, rfl⟩ := s.three
    have b1 := b [a, b', c] (by simp)
    have b2 := b [d, e, f] (by simp)
    have b3 := b [g, h, i] (by simp)
    have h1 := mmm a e i f h (b1 a (by simp)) (b2 e (by simp)) (b3 i (by simp)) (b2 f (by simp)) (b3 h (by simp))
    have h2 := mmm b' d i f g (b1 b' (by simp)) (b2 d (by simp)) (b3 i (by simp)) (b2 f (by simp)) (b3 g (by simp))
    have h3 := mmm c d h e g (b1 c (by simp)) (b2 d (by simp)) (b3 h (by simp)) (b2 e (by simp)) (b3 g (by simp))
    show (a * (e * i - f * h) - b' * (d * i - f * g) + c * (d * h - e * g)).natAbs ≤ _
    omega
end Kz
set_option Elab.async false
set_option linter.all false
set_option maxRecDepth 100000
set_option maxHeartbeats 4000000
/-! Kz: the program's leans and forms -/
namespace Kz
open PySem PySem.Spec PyProof.Rows L2
theorem sm90 {i : Int} {A : Nat} (h : i.natAbs ≤ A) (hA : A ≤ 10 ^ 90) : Sm i := sm_of (10 ^ 90) (by decide +kernel) (Nat.le_trans h hA)
theorem sm_mul90 {i j : Int} {A B : Nat} (h : i.natAbs ≤ A) (hA : A ≤ 10 ^ 90) (k : j.natAbs ≤ B) (hB : B ≤ 10 ^ 90) : Sm (i * j) := sm_of (10 ^ 90 * 10 ^ 90) (by decide +kernel) (by rw [Int.natAbs_mul]; exact Nat.mul_le_mul (Nat.le_trans h hA) (Nat.le_trans k hB))
theorem w_lean_row {A B C : Nat} {num : Int} (hn : num.natAbs ≤ B) (hA : A ≤ 10 ^ 90) (hB : B ≤ 10 ^ 90) (hC : C ≤ 10 ^ 90) : ∀ {row y : List Int} {t : Int} {K : PyData → Prop}, BdL A row → BdL C y → K (.int (t + num * dotI row y)) →
    forW (S := PyData) (fun d s nx bk => unp2W d fun entry factor => letW (fun P => mulW entry (.int num) fun v => mulW v factor fun v => iaddW s v P) fun total => nx total) (zipD (row.map .int) (y.map .int)) (.int t) K
  | [], y, t, K, _, _, h => by
    have e : t + num * dotI [] y = t := by simp [dotI]
    rw [e] at h
    have z : zipD (([] : List Int).map PyData.int) (y.map .int) = [] := by cases y <;> rfl
    rw [z]
    exact h
  | a :: row, [], t, K, _, _, h => by
    have e : t + num * dotI (a :: row) [] = t := by simp [dotI]
    rw [e] at h
    exact h
  | a :: row, b :: y, t, K, h1, h2, h => by
    show letW (fun P => mulW (.int a) (.int num) fun v => mulW v (.int b) fun v => iaddW (.int t) v P) fun total => forW _ (zipD (row.map .int) (y.map .int)) total K
    simp only [letW]
    have ha := h1 a (by simp)
    have hb := h2 b (by simp)
    refine mul_i (sm90 ha hA) (sm90 hn hB) (mul_i (sm_mul90 ha hA hn hB) (sm90 hb hC) ?_)
    rw [iadd_ii]
    refine w_lean_row hn hA hB hC (fun x hx => h1 x (by simp [hx])) (fun x hx => h2 x (by simp [hx])) ?_
    have e : t + a * num * b + num * dotI row y = t + num * dotI (a :: row) (b :: y) := by simp only [dotI, List.zipWith_cons_cons, List.sum_cons]; grind
    rw [e]
    exact h
/-! ### tables and forms, of any value -/
theorem isStep_inv {n : Int} {d : PyData} (h : isStep n d = true) : ∃ l : List Int, d = rowD l ∧ (l.length : Int) = n := by
  cases d with
  | tuple ds =>
    simp only [isStep, Bool.and_eq_true, decide_eq_true_eq] at h
    obtain ⟨h1, h2⟩ := h
    have : ∀ ds : List PyData, ds.all isWhole = true → ∃ l : List Int, ds = l.map .int := by
      intro ds
      induction ds with
      | nil => intro _; exact ⟨[], rfl⟩
      | cons d ds ih =>
        intro h
        simp only [List.all_cons, Bool.and_eq_true] at h
        obtain ⟨l, rfl⟩ := ih h.2
        cases d with
        | int i => exact ⟨i :: l, rfl⟩
        | _ => simp [isWhole] at h
    obtain ⟨l, rfl⟩ := this ds h2
    exact ⟨l, rfl, by simpa using h1⟩
  | _ => simp [isStep] at h
theorem isSquare_inv {n : Int} {d : PyData} (h : isSquare n d = true) : ∃ r : Mat, d = matD r ∧ (r.length : Int) = n ∧ ∀ l ∈ r, (l.length : Int) = n := by
  cases d with
  | tuple ds =>
    simp only [isSquare, Bool.and_eq_true, decide_eq_true_eq] at h
    obtain ⟨h1, h2⟩ := h
    have : ∀ ds : List PyData, ds.all (isStep n) = true → ∃ r : Mat, ds = r.map rowD ∧ ∀ l ∈ r, (l.length : Int) = n := by
      intro ds
      induction ds with
      | nil => intro _; exact ⟨[], rfl, by simp⟩
      | cons d ds ih =>
        intro h
        simp only [List.all_cons, Bool.and_eq_true] at h
        obtain ⟨r, rfl, hr⟩ := ih h.2
        obtain ⟨l, rfl, hl⟩ := isStep_inv h.1
        exact ⟨l :: r, rfl, by simp [hl]; exact hr⟩
    obtain ⟨r, rfl, hr⟩ := this ds h2
    exact ⟨r, rfl, by simpa using h1, hr⟩
  | _ => simp [isSquare] at h
theorem isSquare_sq {n : Nat} {d : PyData} (h : isSquare n d = true) : ∃ r : Mat, d = matD r ∧ Sq n r := by
  obtain ⟨r, rfl, h1, h2⟩ := isSquare_inv h
  exact ⟨r, rfl, by omega, fun l hl => by have := h2 l hl; omega⟩
def symB (n : Nat) (r : Mat) : Bool := (List.range n).all fun i => (List.range i).all fun j => decide (ent r i j = ent r j i)
def intOf : PyData → Int
  | .int i => i
  | _ => 0
def rowOf : PyData → List Int
  | .tuple es => es.map intOf
  | _ => []
/-- of any value -/
def isTable : PyData → Bool
  | .tuple ds => decide (1 ≤ ds.length ∧ ds.length ≤ 3) && (isSquare ds.length (.tuple ds) && symB ds.length (ds.map rowOf))
  | _ => false
theorem unmat (r : Mat) : (r.map rowD).map rowOf = r := by
  rw [List.map_map]
  have : ∀ l : List Int, (rowOf ∘ rowD) l = l := fun l => by
    show (l.map PyData.int).map intOf = l
    rw [List.map_map]
    have : intOf ∘ PyData.int = id := rfl
    rw [this, List.map_id]
  rw [List.map_congr_left fun l _ => this l, List.map_id']
theorem isTable_mat {n : Nat} {r : Mat} (s : Sq n r) (h1 : 1 ≤ n) (h3 : n ≤ 3) : isTable (matD r) = symB n r := by
  show (decide (1 ≤ (r.map rowD).length ∧ (r.map rowD).length ≤ 3) && (isSquare (r.map rowD).length (matD r) && symB (r.map rowD).length _)) = _
  rw [unmat, List.length_map, s.h, decide_eq_true ⟨h1, h3⟩, isSquare_mat s]
  rfl
theorem isTable_inv {d : PyData} (h : isTable d = true) : ∃ (n : Nat) (r : Mat), d = matD r ∧ Sq n r ∧ 1 ≤ n ∧ n ≤ 3 ∧ symB n r = true := by
  cases d with
  | tuple ds =>
    simp only [isTable, Bool.and_eq_true, decide_eq_true_eq] at h
    obtain ⟨⟨h1, h3⟩, h2, h4⟩ := h
    obtain ⟨r, e, s⟩ := isSquare_sq h2
    have hl : ds = r.map rowD := by injection e
    subst hl
    rw [unmat] at h4
    exact ⟨_, r, rfl, s, h1, h3, h4⟩
  | _ => simp [isTable] at h
theorem all_b {bs : List Bool} {P : PyData → Prop} (hp : P (.bool (bs.all id))) : allW (.list (bs.map .bool)) P := by
  have : boolsOf (bs.map .bool) = some bs := by
    clear hp
    induction bs with
    | nil => rfl
    | cons b bs ih => simp only [List.map_cons, boolsOf, ih]; rfl
  show match boolsOf (bs.map .bool) with | some ns => _ | none => _
  rw [this]
  exact hp
theorem rngv_nat {n : Nat} {P : List PyData → Prop} (h : n < 1000000) (hp : P ((List.range n).map fun (i : Nat) => .int (i : Int))) : rngVW 0 (n : Int) P := ⟨by omega, by
  have : rngD 0 ((n : Int) - 0).toNat = (List.range n).map fun (i : Nat) => .int (i : Int) := by rw [show ((n : Int) - 0).toNat = n by omega, rng0]
  rw [this]; exact hp⟩
theorem notin_123 {n : Nat} {P : PyData → Prop} (hp : P (.bool (!decide (1 ≤ n ∧ n ≤ 3)))) : notInW (.int (n : Int)) (.tuple [.int 1, .int 2, .int 3]) P := by
  refine ⟨rfl, ?_⟩
  have : ([PyData.int 1, .int 2, .int 3].any fun z => PyData.eqv z (.int (n : Int))) = decide (1 ≤ n ∧ n ≤ 3) := by
    simp only [List.any_cons, List.any_nil, PyData.eqv, Bool.or_false]
    rcases n with _ | _ | _ | _ | n
    · rfl
    · rfl
    · rfl
    · rfl
    · have e : ¬ (1 ≤ n + 1 + 1 + 1 + 1 ∧ n + 1 + 1 + 1 + 1 ≤ 3) := by omega
      rw [decide_eq_false e]
      have h1 : ¬ (1 : Int) = ((n + 1 + 1 + 1 + 1 : Nat) : Int) := by omega
      have h2 : ¬ (2 : Int) = ((n + 1 + 1 + 1 + 1 : Nat) : Int) := by omega
      have h3 : ¬ (3 : Int) = ((n + 1 + 1 + 1 + 1 : Nat) : Int) := by omega
      simp [h1, h2, h3]
      exact ⟨by omega, by omega, by omega⟩
  rw [this]
  exact hp
end Kz
set_option Elab.async false
set_option linter.all false
set_option maxRecDepth 100000
set_option maxHeartbeats 4000000
/-! Kz: the program's forms, of any value -/
namespace Kz
open PySem PySem.Spec PyProof.Rows L2
def lead (r : Mat) (k : Nat) : Mat := (r.take k).map fun l => l.take k
theorem sq_lead {m k : Nat} {r : Mat} (s : Sq m r) (h : k ≤ m) : Sq k (lead r k) := by
  refine ⟨?_, fun l hl => ?_⟩
  · unfold lead
    rw [List.length_map, List.length_take, s.h]
    omega
  · unfold lead at hl
    obtain ⟨l', h', rfl⟩ := List.mem_map.mp hl
    rw [List.length_take, s.w l' (List.mem_of_mem_take h')]
    omega
theorem bd_lead {b k : Nat} {r : Mat} (h : Bd b r) : Bd b (lead r k) := fun l hl x hx => by
  unfold lead at hl
  obtain ⟨l', h', rfl⟩ := List.mem_map.mp hl
  exact h l' (List.mem_of_mem_take h') x (List.mem_of_mem_take hx)
/-- the first leading determinant that is not above 0 -/
def lowAt (n : Nat) (r : Mat) : Option Nat := ((List.range n).map (· + 1)).find? fun k => decide (dt (lead r k) ≤ 0)
def lowRow (n : Nat) (r : Mat) (k : Nat) : List Int := (adjM (lead r k)).getD (k - 1) [] ++ zer (n - k)
def lowD (n : Nat) (r : Mat) : PyData := match lowAt n r with
  | none => .none
  | some k => rowD (lowRow n r k)
theorem repT0 (i : Nat) : (List.replicate i [PyData.int 0]).flatten = (zer i).map .int := by
  induction i with
  | zero => rfl
  | succ i ih => rw [List.replicate_succ, List.flatten_cons, ih]; rfl
theorem mulT0 {n : Nat} {P : PyData → Prop} (h : n ≤ 1000) (hp : P (rowD (zer n))) : mulW (.tuple [.int 0]) (.int (n : Int)) P := ⟨⟨by simp, by omega, by omega, by simp⟩, by rw [repT0]; exact hp⟩
theorem idx_last {ds : List PyData} {d : PyData} {P : PyData → Prop} (h0 : 0 < ds.length) (h : ds[ds.length - 1]? = some d) (hp : P d) : idxW (.tuple ds) (.int (-1)) P := ⟨d, by
  unfold atI ixN
  have : ¬ (0 : Int) ≤ -1 := by decide
  rw [if_neg this]
  have e : ¬ (-1 : Int) + (ds.length : Int) < 0 := by omega
  have e2 : ((-1 : Int) + (ds.length : Int)).toNat = ds.length - 1 := by omega
  rw [if_pos (by omega)]
  show ds[((-1 : Int) + (ds.length : Int)).toNat]? = some d
  rw [e2]
  exact h, hp⟩
theorem adj_last {k : Nat} {r : Mat} (s : Sq k r) (h1 : 1 ≤ k) (h3 : k ≤ 3) : ((adjM r).map rowD)[((adjM r).map rowD).length - 1]? = some (rowD ((adjM r).getD (k - 1) [])) := by
  have sa := adj_sq s h1 h3
  rw [List.length_map, sa.h]
  exact rows_at (by rw [sa.h]; omega)
theorem low_pd {n : Nat} {r : Mat} (s : Sq n r) (h1 : 1 ≤ n) (h3 : n ≤ 3) (hs : symB n r = true) : (lowAt n r).isNone = pdB r := by
  have hk : (lowAt n r).isNone = true ↔ ∀ k, k < n → 0 < dt (lead r (k + 1)) := by
    unfold lowAt
    rw [Option.isNone_iff_eq_none, List.find?_eq_none]
    constructor
    · intro h k hk
      have := h (k + 1) (List.mem_map.mpr ⟨k, List.mem_range.mpr hk, rfl⟩)
      simp at this; omega
    · intro h x hx
      obtain ⟨j, hj, rfl⟩ := List.mem_map.mp hx
      have := h j (List.mem_range.mp hj)
      simp; omega
  refine Bool.eq_iff_iff.mpr (hk.trans ?_)
  rcases n123 h1 h3 with rfl | rfl | rfl
  · obtain ⟨a, rfl⟩ := s.one
    simp only [pdB, decide_eq_true_eq]
    refine ⟨fun h => h 0 (by decide), fun h k hk => ?_⟩
    have : k = 0 := by omega
    subst this
    exact h
  · obtain ⟨a, b, c, d, rfl⟩ := s.two
    have e : b = c := Eq.symm (by simpa [symB, ent, List.range_succ] using hs)
    subst e
    simp only [pdB, Bool.and_eq_true, decide_eq_true_eq, and_self, true_and]
    exact ⟨fun h => ⟨h 0 (by decide), h 1 (by decide)⟩, fun ⟨h0, h1⟩ k hk => by
      rcases lt2c hk with rfl | rfl
      · exact h0
      · exact h1⟩
  · obtain ⟨a, b, c, d, e, f, g, h, i, rfl⟩ := s.three
    have q : d = b ∧ g = c ∧ h = f := by simpa [symB, ent, List.range_succ] using hs
    obtain ⟨rfl, rfl, rfl⟩ := q
    simp only [pdB, Bool.and_eq_true, decide_eq_true_eq, and_self, true_and]
    exact ⟨fun h => ⟨h 0 (by decide), h 1 (by decide), h 2 (by decide)⟩, fun ⟨h0, h1, h2⟩ k hk => by
      rcases lt3c hk with rfl | rfl | rfl
      · exact h0
      · exact h1
      · exact h2⟩
theorem pd_sym {n : Nat} {r : Mat} (f : Pd n r) : symB n r = true := by
  rcases n123 f.lo f.hi with rfl | rfl | rfl
  · obtain ⟨a, rfl, _⟩ := f.one
    rfl
  · obtain ⟨a, b, d, rfl, _⟩ := f.two
    simp [symB, ent, List.range_succ]
  · obtain ⟨a, b, c, e, g, i, rfl, _⟩ := f.three
    simp [symB, ent, List.range_succ]
/-- of any value -/
def isForm (d : PyData) : Bool := isTable d && match d with | .tuple ds => pdB (ds.map rowOf) | _ => false
theorem isForm_mat {n : Nat} {r : Mat} (s : Sq n r) (h1 : 1 ≤ n) (h3 : n ≤ 3) : isForm (matD r) = (symB n r && pdB r) := by
  unfold isForm
  rw [isTable_mat s h1 h3]
  show (symB n r && pdB ((r.map rowD).map rowOf)) = _
  rw [unmat]
theorem isForm_pd {n : Nat} {r : Mat} (f : Pd n r) : isForm (matD r) = true := by rw [isForm_mat f.s f.lo f.hi, pd_sym f, f.p]; rfl
theorem isForm_inv {d : PyData} (h : isForm d = true) : ∃ (n : Nat) (r : Mat), d = matD r ∧ Pd n r := by
  unfold isForm at h
  rw [Bool.and_eq_true] at h
  obtain ⟨n, r, rfl, s, h1, h3, hs⟩ := isTable_inv h.1
  refine ⟨n, r, rfl, s, h1, h3, ?_⟩
  have := h.2
  simp only [matD] at this
  rwa [unmat] at this
/-- the numbers of a table, if it is one, are not too great -/
def TbOk (d : PyData) : Prop := ∀ (n : Nat) (r : Mat), d = matD r → Sq n r → 1 ≤ n → n ≤ 3 → Bd (10 ^ 90) r
theorem tb_mat {n M : Nat} {r : Mat} (b : Bd M r) (hM : M ≤ 10 ^ 90) : TbOk (matD r) := fun m r' e s _ _ l hl x hx => by
  have : r = r' := by
    have := congrArg (fun d => match d with | PyData.tuple ds => ds.map rowOf | _ => []) e
    simp only [matD] at this
    rwa [unmat, unmat] at this
  subst this
  exact Nat.le_trans (b l hl x hx) hM
end Kz
set_option Elab.async false
set_option linter.all false
set_option maxRecDepth 100000
set_option maxHeartbeats 4000000
/-! Kz: the program's spots and gaps -/
namespace Kz
open PySem PySem.Spec PyProof.Rows L2
abbrev spotD (t : List Int) (b : Int) : PyData := .tuple [rowD t, .int b]
def isSpot (n : Int) : PyData → Bool
  | .tuple [t, .int b] => isStep n t && (decide (1 ≤ b) && decide (gcdL b.natAbs (rowOf t) = 1))
  | _ => false
theorem rowOf_row (l : List Int) : rowOf (rowD l) = l := by
  show (l.map PyData.int).map intOf = l
  rw [List.map_map]
  have : intOf ∘ PyData.int = id := rfl
  rw [this, List.map_id]
theorem isSpot_ok {n : Nat} {t : List Int} {b : Int} (h : Spot n t b) : isSpot n (spotD t b) = true := by
  simp only [isSpot, isStep_row h.l, rowOf_row, h.g, decide_eq_true h.pos, decide_true, Bool.and_self]
theorem isSpot_inv {n : Nat} {d : PyData} (h : isSpot n d = true) : ∃ t b, d = spotD t b ∧ Spot n t b := by
  unfold isSpot at h
  split at h
  · next t b =>
    simp only [Bool.and_eq_true, decide_eq_true_eq] at h
    obtain ⟨l, rfl, hl⟩ := isStep_inv h.1
    rw [rowOf_row] at h
    exact ⟨l, b, rfl, by omega, h.2.1, h.2.2⟩
  · cases h
theorem eq_lt1 {b : Int} : decide (b < 1) = !decide (1 ≤ b) := by
  by_cases h : 1 ≤ b
  · rw [decide_eq_true h, decide_eq_false (by omega)]; rfl
  · rw [decide_eq_false h, decide_eq_true (by omega)]; rfl
theorem w_is_spot {n : Nat} {d : PyData} {P : PyData → Prop} (hp : P (.bool (isSpot n d))) : m_is_spot (.int (n : Int)) d P := by
  unfold m_is_spot
  simp only [letW]
  cases d with
  | tuple ds =>
    refine ⟨true, rfl, ?_⟩
    simp only [truth_b, Bool.not_true, cW_f, len_t, ne_ii, bool_b]
    by_cases h2 : ds.length = 2
    · obtain ⟨t, c, rfl⟩ := len2 h2
      simp only [List.length_cons, List.length_nil, Nat.zero_add, Nat.reduceAdd, Int.cast_ofNat_Int, decide_true, Bool.not_true, cW_f, unpS2_t]
      refine w_is_step ?_
      rw [truth_b]
      cases ht : isStep n t with
      | false =>
        have : isSpot n (.tuple [t, c]) = false := by cases c <;> simp [isSpot, ht]
        rw [this] at hp
        exact hp
      | true =>
        simp only [Bool.not_true, cW_f]
        refine w_is_whole ?_
        rw [truth_b]
        cases c with
        | int b =>
          simp only [isWhole, Bool.not_true, cW_f, lt_ii, bool_b]
          obtain ⟨l, rfl, hl⟩ := isStep_inv ht
          simp only [isSpot, ht, Bool.true_and, rowOf_row] at hp
          rw [eq_lt1]
          by_cases hb : 1 ≤ b
          · rw [decide_eq_true hb] at hp ⊢
            simp only [Bool.not_true, cW_f]
            refine w_common ?_
            rw [eq_ii]
            have e : decide (((gcdL b.natAbs l : Nat) : Int) = 1) = decide (gcdL b.natAbs l = 1) := decide_eq_decide.mpr (by omega)
            rw [e]
            exact hp
          · rw [decide_eq_false hb] at hp ⊢
            exact hp
        | bool c => exact hp
        | none => exact hp
        | str c => exact hp
        | list c => exact hp
        | tuple c => exact hp
        | dict c => exact hp
    · have e : ¬ ((ds.length : Int) = 2) := by omega
      have : isSpot n (.tuple ds) = false := by
        unfold isSpot
        split
        · next e => injection e with e; rw [e] at h2; simp at h2
        · rfl
      rw [this] at hp
      rw [decide_eq_false e]
      exact hp
  | _ => exact ⟨_, rfl, hp⟩
theorem w_need_spot {n : Nat} {t : List Int} {b : Int} {P : PyData → Prop} (h : Spot n t b) (hp : P .none) : m_need_spot (.int (n : Int)) (spotD t b) P := by
  unfold m_need_spot
  simp only [letW]
  refine w_is_spot ?_
  rw [truth_b, isSpot_ok h]
  exact hp
theorem bits_nat {g K : Nat} (h : g ≤ K) (hK : K < 2 ^ 8000) : bits ((g : Nat) : Int) < 9000 := Nat.lt_trans (bits_lt (k := 8000) (by decide) (by rw [Int.natAbs_natCast]; exact Nat.lt_of_le_of_lt h hK)) (by decide)
theorem gcd_ii {i j : Int} {P : PyData → Prop} : gcdW (.int i) (.int j) P = P (.int ((Nat.gcd i.natAbs j.natAbs : Nat) : Int)) := rfl
theorem bdl_addT {A B : Nat} {x y : List Int} {k : Int} (hx : BdL A x) (hy : BdL B y) : BdL (A + k.natAbs * B) (addT x y k) := AllLe.add hx hy
end Kz
set_option Elab.async false
set_option linter.all false
set_option maxRecDepth 100000
set_option maxHeartbeats 4000000
/-! Kz: plain places -/
namespace Kz
open PySem PySem.Spec PyProof.Rows L2
abbrev plainT (t : List Int) (b : Int) : List Int := t.map fun x => (2 * x + b).fdiv (2 * b)
section
variable {n : Nat} {t p : List Int} {b : Int} {P : PyData → Prop}
theorem plain_step {M : Nat} {x : Int} {K : List PyData → Prop} (hx : x.natAbs ≤ M) (hb : 1 ≤ b) (bb : b.natAbs ≤ M) (hM : M ≤ 10 ^ 60) (hK : K [.int ((2 * x + b).fdiv (2 * b))]) :
    mulW (.int 2) (.int x) fun v => addW v (.int b) fun v1 => mulW (.int 2) (.int b) fun v3 => fdivW v1 v3 fun v0 => K [v0] := by
  refine mul_i (sm_of 2 (by decide +kernel) (by decide)) (sm_of M (Nat.lt_of_le_of_lt hM (by decide +kernel)) hx) ?_
  rw [add_ii]
  refine mul_i (sm_of 2 (by decide +kernel) (by decide)) (sm_of M (Nat.lt_of_le_of_lt hM (by decide +kernel)) bb) ?_
  refine fdiv_ii (by omega) (Nat.lt_trans (bits_lt (k := 8000) (by decide) (Nat.lt_of_le_of_lt (m := 2 * M) (by omega) (Nat.lt_of_le_of_lt (Nat.mul_le_mul_left 2 hM) (by decide +kernel)))) (by decide)) hK
theorem w_rounded {M : Nat} (hl : t.length ≤ 1000000) (bt : BdL M t) (hb : 1 ≤ b) (bb : b.natAbs ≤ M) (hM : M ≤ 10 ^ 60) (hp : P (rowD (plainT t b))) : m_rounded (spotD t b) P := by
  unfold m_rounded
  simp only [letW, unpS2_t]
  refine w_map (f := fun x => (2 * x + b).fdiv (2 * b)) seq_row hl (fun x hx K hK => plain_step (bt x hx) hb bb hM hK) ?_
  rw [tuple_l]
  exact hp
theorem w_plain_place {M : Nat} (h : Spot n t b) (hn : n ≤ 1000) (bt : BdL M t) (bb : b.natAbs ≤ M) (hM : M ≤ 10 ^ 60) (hp : P (rowD (plainT t b))) : m_plain_place (.int (n : Int)) (spotD t b) P := by
  unfold m_plain_place
  simp only [letW]
  exact w_need_spot h (w_rounded (by rw [h.l]; omega) bt h.pos bb hM hp)
theorem plainT_move (hl : t.length = p.length) (hb : 1 ≤ b) : plainT (addT t p b) b = addT (plainT t b) p 1 := by
  have key : ∀ x y : Int, (2 * (x + b * y) + b).fdiv (2 * b) = (2 * x + b).fdiv (2 * b) + 1 * y := fun x y => by
    rw [Int.fdiv_eq_ediv_of_nonneg _ (by omega), Int.fdiv_eq_ediv_of_nonneg _ (by omega)]
    have e : 2 * (x + b * y) + b = (2 * x + b) + y * (2 * b) := by
      rw [Int.mul_add, Int.mul_comm y (2 * b), Int.mul_assoc]; omega
    rw [e, Int.add_mul_ediv_right _ _ (by omega), Int.one_mul]
  unfold plainT addT
  clear hl
  induction t generalizing p with
  | nil => simp
  | cons x t ih =>
    cases p with
    | nil => simp
    | cons y p => simp only [List.zipWith_cons_cons, List.map_cons, key, ih]
theorem plainT_one : plainT p 1 = p := by
  have key : ∀ x : Int, (2 * x + 1).fdiv (2 * 1) = x := fun x => by
    rw [Int.fdiv_eq_ediv_of_nonneg _ (by omega)]; omega
  unfold plainT
  rw [List.map_congr_left fun x _ => key x, List.map_id']
theorem plainT_bd {M : Nat} (bt : BdL M t) (hb : 1 ≤ b) : BdL (M + 1) (plainT t b) := fun x hx => by
  obtain ⟨y, hy, rfl⟩ := List.mem_map.mp hx
  have h := bt y hy
  rw [Int.fdiv_eq_ediv_of_nonneg _ (by omega)]
  have h1 : (2 * y + b) / (2 * b) * (2 * b) ≤ 2 * y + b := Int.ediv_mul_le _ (by omega)
  have h2 : 2 * y + b < ((2 * y + b) / (2 * b) + 1) * (2 * b) := Int.lt_ediv_add_one_mul_self _ (by omega)
  generalize (2 * y + b) / (2 * b) = z at *
  rcases Int.lt_or_le z 0 with hz | hz
  · have : z * (2 * b) ≤ z * 2 := Int.mul_le_mul_of_nonpos_left (by omega) (by omega)
    have h3 : 2 * y + b < z * (2 * b) + 2 * b := by rw [Int.add_mul, Int.one_mul] at h2; exact h2
    by_cases hz1 : z = -1
    · omega
    · have h4 : z * (2 * b) + 2 * b = (z + 1) * (2 * b) := by rw [Int.add_mul, Int.one_mul]
      have h5 : (z + 1) * (2 * b) = (2 * (z + 1)) * b := by rw [Int.mul_comm 2 (z + 1), Int.mul_assoc]
      have h6 : (2 * (z + 1)) * b ≤ (2 * (z + 1)) * 1 := Int.mul_le_mul_of_nonpos_left (by omega) (by omega)
      omega
  · by_cases hz0 : z = 0
    · omega
    · have h5 : z * (2 * b) = (2 * z) * b := by rw [Int.mul_comm 2 z, Int.mul_assoc]
      have h6 : (2 * z - 1) * 1 ≤ (2 * z - 1) * b := Int.mul_le_mul_of_nonneg_left hb (by omega)
      have h7 : (2 * z - 1) * b = (2 * z) * b - b := by rw [Int.sub_mul, Int.one_mul]
      omega
end
end Kz
set_option Elab.async false
set_option linter.all false
set_option maxRecDepth 100000
set_option maxHeartbeats 4000000
/-! Kz: the laws k00 to k14: their own words for tables and forms -/
namespace Kz
open PySem PySem.Spec PyProof.Rows L2
theorem empty_eq {es : List PyData} {P : PyData → Prop} (hp : P (.bool es.isEmpty)) : eqW (.list es) (.list []) P := ⟨by simp [eqOk, isLst], by cases es <;> exact hp⟩
theorem lc_filter {f : PyData → Bool} {G : PyData → W (List PyData)} : ∀ {xs : List PyData}, (∀ x ∈ xs, ∀ K : List PyData → Prop, K (if f x then [x] else []) → G x K) → ∀ {P : List PyData → Prop}, P (xs.filter f) → lcW G xs P := by
  intro xs
  induction xs with
  | nil => intro _ P hp; exact hp
  | cons x xs ih =>
    intro hG P hp
    refine hG x (by simp) _ (ih (fun y hy => hG y (by simp [hy])) ?_)
    cases e : f x with
    | true => simpa [e] using hp
    | false => simpa [e] using hp
theorem filter_empty (f : PyData → Bool) (xs : List PyData) : (xs.filter f).isEmpty = xs.all fun x => !f x := by
  induction xs with
  | nil => rfl
  | cons x xs ih => cases e : f x <;> simp [e, ih]
/-- nowhere too long -/
def Sz : PyData → Prop
  | .tuple ds => ds.length ≤ 1000000 ∧ ∀ d ∈ ds, match d with | .tuple es => es.length ≤ 1000000 | _ => True
  | _ => True
theorem sz_row {l : List Int} (h : l.length ≤ 1000000) : Sz (rowD l) := ⟨by simpa using h, fun d hd => by obtain ⟨x, _, rfl⟩ := List.mem_map.mp hd; trivial⟩
theorem sz_mat {r : Mat} (h : r.length ≤ 1000000) (h2 : ∀ l ∈ r, l.length ≤ 1000000) : Sz (matD r) := ⟨by simpa using h, fun d hd => by
  obtain ⟨x, hx, rfl⟩ := List.mem_map.mp hd
  simpa using h2 x hx⟩
theorem w_lis_step {n : Int} {d : PyData} {P : PyData → Prop} (hz : ∀ ds, d = .tuple ds → ds.length ≤ 1000000) (hp : P (.bool (isStep n d))) : m_law_is_step (.int n) d P := by
  unfold m_law_is_step
  simp only [letW]
  cases d with
  | tuple ds =>
    refine ⟨true, rfl, ?_⟩
    simp only [truth_b, Bool.not_true, cW_f, len_t, ne_ii, bool_b]
    by_cases e : (ds.length : Int) = n
    · simp only [e, decide_true, Bool.not_true, cW_f, iter_t]
      refine ⟨hz ds rfl, lc_filter (f := fun x => !isWhole x) (fun x hx K hK => ?_) ⟨by simp, empty_eq ?_⟩⟩
      · cases x with
        | int i => exact ⟨true, rfl, ⟨false, rfl, hK⟩⟩
        | bool b => exact ⟨true, rfl, ⟨true, rfl, hK⟩⟩
        | _ => exact ⟨false, rfl, hK⟩
      · rw [filter_empty]
        simp only [isStep, e, decide_true, Bool.true_and] at hp
        simpa using hp
    · simp only [e, decide_false, Bool.not_false, cW_t]
      simp only [isStep, e, decide_false, Bool.false_and] at hp
      exact hp
  | _ => exact ⟨_, rfl, hp⟩
theorem sym_rows {n : Nat} {r : Mat} (s : Sq n r) : (∀ i, i < n → r.getD i [] = r.map fun l => l.getD i 0) ↔ symB n r = true := by
  have h : symB n r = true ↔ ∀ i j, i < n → j < n → ent r i j = ent r j i := by
    simp only [symB, List.all_eq_true, List.mem_range, decide_eq_true_eq]
    constructor
    · intro h i j hi hj
      rcases Nat.lt_trichotomy i j with q | q | q
      · exact (h j hj i q).symm
      · rw [q]
      · exact h i hi j q
    · intro h i hi j hj
      exact h i j hi (by omega)
  rw [h]
  have col : ∀ i j, j < n → (r.map fun l => l.getD i 0).getD j 0 = ent r j i := fun i j hj => by
    rw [List.getD_eq_getElem?_getD, List.getElem?_map, List.getElem?_eq_getElem (by rw [s.h]; exact hj)]
    simp only [Option.map_some, Option.getD_some, ent]
    rw [List.getD_eq_getElem?_getD (l := r), List.getElem?_eq_getElem (by rw [s.h]; exact hj)]
    rfl
  constructor
  · intro h i j hi hj
    have := congrArg (fun l => l.getD j 0) (h i hi)
    simp only [col i j hj] at this
    exact this
  · intro h i hi
    refine vec_ext (by rw [s.len hi, List.length_map, s.h]) fun j => ?_
    by_cases hj : j < n
    · rw [col i j hj]; exact h i j hi hj
    · rw [List.getD_eq_getElem?_getD, List.getElem?_eq_none (by rw [s.len hi]; omega), List.getD_eq_getElem?_getD, List.getElem?_eq_none (by rw [List.length_map, s.h]; omega)]
end Kz
set_option Elab.async false
set_option linter.all false
set_option maxRecDepth 100000
set_option maxHeartbeats 4000000
/-! Kz: the laws k00 to k14: determinants, leans, changes -/
namespace Kz
open PySem PySem.Spec PyProof.Rows L2
theorem flm_congr {α β : Type} {f g : α → List β} : ∀ {l : List α}, (∀ a ∈ l, f a = g a) → l.flatMap f = l.flatMap g
  | [], _ => rfl
  | a :: l, h => by rw [List.flatMap_cons, List.flatMap_cons, h a (by simp), flm_congr fun b hb => h b (by simp [hb])]
theorem range_split {n : Nat} (i : Nat) (hi : i < n) : List.range n = List.range i ++ i :: (List.range (n - (i + 1))).map (· + (i + 1)) := by
  have : n = i + (1 + (n - (i + 1))) := by omega
  rw [this, List.range_add, List.range_add]
  simp only [List.map_append, List.map_map]
  congr 1
  have e : i + (1 + (n - (i + 1))) - (i + 1) = n - (i + 1) := by omega
  rw [e]
  simp [List.range_succ]
  intro a _
  omega
theorem band1s {j : Nat} {P : PyData → Prop} (hj : j ≤ 3) (hp : P (.int ((j % 2 : Nat) : Int))) : bandW (.int (j : Int)) (.int 1) P := by
  have : j = 0 ∨ j = 1 ∨ j = 2 ∨ j = 3 := by omega
  rcases this with rfl | rfl | rfl | rfl <;> exact hp
theorem sum_flat {ts : List (Int × Int)} : (ts.flatMap fun q => if q.1 = 0 then [] else [q.1 * q.2]).sum = (ts.map fun q => q.1 * q.2).sum := by
  induction ts with
  | nil => rfl
  | cons q ts ih =>
    rw [List.flatMap_cons, List.sum_append, ih, List.map_cons, List.sum_cons]
    by_cases e : q.1 = 0
    · rw [if_pos e, e]; simp
    · rw [if_neg e]; simp
/-- one row's opening -/
def openD (m : Nat) (r : Mat) : Int := ((List.range m).map fun j => ((1 - 2 * ((j % 2 : Nat) : Int)) * ent r 0 j) * dt1 (withoutM r 0 j)).sum
theorem open_dt {m : Nat} {r : Mat} (s : Sq m r) (h1 : 1 ≤ m) (h3 : m ≤ 3) : openD m r = dt r := by
  rcases n123 h1 h3 with rfl | rfl | rfl
  · obtain ⟨a, rfl⟩ := s.one
    simp [openD, ent, withoutM, dt1, dt, List.range_succ]
  · obtain ⟨a, b, c, d, rfl⟩ := s.two
    simp [openD, ent, withoutM, dt1, dt, List.range_succ]; grind
  · obtain ⟨a, b, c, d, e, f, g, h, i, rfl⟩ := s.three
    simp [openD, ent, withoutM, dt1, dt, List.range_succ]; grind
theorem dt1_pos {m : Nat} {r : Mat} (s : Sq m r) (h : 1 ≤ m) : dt1 r = dt r := by
  unfold dt1
  split
  · have := s.h; simp at this; omega
  · rfl
theorem dt1_bd {m M : Nat} {r : Mat} (s : Sq m r) (h3 : m ≤ 3) (b : Bd M r) (hM : 1 ≤ M) : (dt1 r).natAbs ≤ 6 * (M * (M * M)) := by
  rcases Nat.eq_zero_or_pos m with rfl | h
  · have : r = [] := List.length_eq_zero_iff.mp s.h
    subst this
    have h1 : 1 ≤ M * (M * M) := Nat.mul_pos hM (Nat.mul_pos hM hM)
    show 1 ≤ _
    omega
  · rw [dt1_pos s h]
    exact dt_bd s h h3 b hM
end Kz
set_option Elab.async false
set_option linter.all false
set_option maxRecDepth 100000
set_option maxHeartbeats 4000000
/-! Kz: the laws k00 to k14: leans, changes -/
namespace Kz
open PySem PySem.Spec PyProof.Rows L2
theorem w_pick1 {ds : List PyData} {P : PyData → Prop} (h0 : 0 < ds.length) (h1 : ds.length < 1000000) (h : ∀ d ∈ ds, P d) : m_law_pick (.list ds) P := by
  unfold m_law_pick
  simp only [letW, len_l]
  refine draw_i (by omega) (by omega) fun r r0 r1 => ?_
  have e : r = ((r.toNat : Nat) : Int) := by omega
  have hr : r.toNat < ds.length := by omega
  rw [e]
  exact idx_l (List.getElem?_eq_getElem hr) (h _ (List.getElem_mem hr))
theorem zip_ri (a : List Int) (b : Mat) (f : List Int → PyData) : zipD (b.map f) (a.map .int) = (b.zip a).map fun q => .tuple [f q.1, .int q.2] := by
  induction b generalizing a with
  | nil => cases a <;> rfl
  | cons x b ih => cases a with
    | nil => rfl
    | cons y a => simp only [List.map_cons, zipD, List.zipWith_cons_cons, List.zip_cons_cons]; exact congrArg _ (ih a)
theorem zipWith_zip {α β γ : Type} (f : α → β → γ) (a : List α) (b : List β) : List.zipWith f a b = (a.zip b).map fun q => f q.1 q.2 := by
  rw [List.zip, List.map_zipWith]
/-- the greatest sizes of the rows -/
theorem lc_maxrows {r : Mat} {P : List PyData → Prop} (hw : ∀ l ∈ r, l ≠ [] ∧ l.length ≤ 1000) (hp : ∀ ms : List Int, ms.length = r.length → (∀ (j : Nat) m l, ms[j]? = some m → r[j]? = some l → (∀ x ∈ l, (x.natAbs : Int) ≤ m) ∧ ∃ x ∈ l, m = (x.natAbs : Int)) → P (ms.map .int)) :
    lcW (fun row K => iterW row fun ds => ds.length ≤ 1000000 ∧ lcW (fun g K => absW g fun v => K [v]) ds fun es => maxSW (PyData.list es) fun v => K [v]) (r.map rowD) P :=
  lc_ints (R := fun l m => (∀ x ∈ l, (x.natAbs : Int) ≤ m) ∧ ∃ x ∈ l, m = (x.natAbs : Int)) (fun l hl K hK => abs_list (hw l hl).1 (hw l hl).2 fun m h1 h2 => hK m ⟨h1, h2⟩) hp
def unitM (n : Nat) : Mat := (List.range n).map fun i => (List.range n).map fun j => oneB (decide (i = j))
theorem unit_sq {n : Nat} : Sq n (unitM n) := ⟨by simp [unitM], fun l hl => by
  obtain ⟨i, _, rfl⟩ := List.mem_map.mp hl
  simp⟩
end Kz
set_option Elab.async false
set_option linter.all false
set_option maxRecDepth 100000
set_option maxHeartbeats 4000000
/-! Kz: the laws k00 to k14: drawn changes, drawn forms -/
namespace Kz
open PySem PySem.Spec PyProof.Rows L2
theorem popW_nat {ds : List PyData} {i : Nat} {k : PyData → List PyData → Prop} {d : PyData} (h : ds[i]? = some d) (hl : ds.length ≤ 1000000) (hk : k d (ds.eraseIdx i)) : popW ds (.int (i : Int)) k := by
  unfold popW
  refine ixD_nat (List.getElem?_eq_some_iff.mp h).1 ?_
  rw [h]
  exact ⟨hl, hk⟩
def sgT (sg : Int) (l : List Int) : List Int := l.map fun x => sg * x
/-- what is taken out of the rest comes behind the others, with a sign -/
theorem dt_move {n k : Nat} {a b : Mat} {l : List Int} {sg : Int} (s : Sq n (a ++ b)) (h3 : n ≤ 3) (hk : b[k]? = some l) (hs : sg = 1 ∨ sg = -1) : (dt ((a ++ [sgT sg l]) ++ b.eraseIdx k)).natAbs = (dt (a ++ b)).natAbs ∧ Sq n ((a ++ [sgT sg l]) ++ b.eraseIdx k) := by
  have hkb := (List.getElem?_eq_some_iff.mp hk).1
  have hlen : a.length + b.length = n := by have := s.h; rwa [List.length_append] at this
  have hlm : l ∈ b := List.mem_of_getElem? hk
  have sq : Sq n ((a ++ [sgT sg l]) ++ b.eraseIdx k) := ⟨by
    rw [List.length_append, List.length_append, List.length_eraseIdx_of_lt hkb]
    simp; omega, fun x hx => by
    rcases List.mem_append.mp hx with hx | hx
    · rcases List.mem_append.mp hx with hx | hx
      · exact s.w x (List.mem_append_left _ hx)
      · rw [List.mem_singleton.mp hx]
        unfold sgT
        rw [List.length_map]
        exact s.w l (List.mem_append_right _ hlm)
    · exact s.w x (List.mem_append_right _ (List.mem_of_mem_eraseIdx hx))⟩
  refine ⟨?_, sq⟩
  have key : ∀ {D E : Int}, (D = E ∨ D = -E) → D.natAbs = E.natAbs := fun h => by rcases h with rfl | rfl <;> simp
  have n123' : n = 1 ∨ n = 2 ∨ n = 3 := by omega
  rcases n123' with rfl | rfl | rfl
  · obtain ⟨x, e⟩ := s.one
    match a, b, hlen, k, hkb, hk with
    | [], [y], _, 0, _, hk =>
      have hl : l = y := by simpa using hk.symm
      subst hl
      have : l = [x] := by simpa using e
      subst this
      rcases hs with rfl | rfl <;> simp [sgT, dt]
    | p :: ps, b, hlen, k, hkb, hk => simp at hlen; omega
  · obtain ⟨x, y, u, v, e⟩ := s.two
    match a, b, hlen, k, hkb, hk with
    | [], [p, q], _, k, hkb, hk =>
      simp at e
      obtain ⟨rfl, rfl⟩ := e
      match k, hkb with
      | 0, _ =>
        have hl : l = [x, y] := by simpa using hk.symm
        subst hl
        rcases hs with rfl | rfl <;> (apply key; simp [sgT, dt] <;> grind)
      | 1, _ =>
        have hl : l = [u, v] := by simpa using hk.symm
        subst hl
        rcases hs with rfl | rfl <;> (apply key; simp [sgT, dt] <;> grind)
    | [p], [q], _, 0, hkb, hk =>
      simp at e
      obtain ⟨rfl, rfl⟩ := e
      have hl : l = [u, v] := by simpa using hk.symm
      subst hl
      rcases hs with rfl | rfl <;> (apply key; simp [sgT, dt] <;> grind)
    | p :: q :: ps, b, hlen, k, hkb, hk => simp at hlen; omega
  · obtain ⟨x, y, z, u, v, w, i, j, o, e⟩ := s.three
    match a, b, hlen, k, hkb, hk with
    | [], [p, q, t], _, k, hkb, hk =>
      simp at e
      obtain ⟨rfl, rfl, rfl⟩ := e
      match k, hkb with
      | 0, _ =>
        have hl : l = [x, y, z] := by simpa using hk.symm
        subst hl
        rcases hs with rfl | rfl <;> (apply key; simp [sgT, dt] <;> grind)
      | 1, _ =>
        have hl : l = [u, v, w] := by simpa using hk.symm
        subst hl
        rcases hs with rfl | rfl <;> (apply key; simp [sgT, dt] <;> grind)
      | 2, _ =>
        have hl : l = [i, j, o] := by simpa using hk.symm
        subst hl
        rcases hs with rfl | rfl <;> (apply key; simp [sgT, dt] <;> grind)
    | [p], [q, t], _, k, hkb, hk =>
      simp at e
      obtain ⟨rfl, rfl, rfl⟩ := e
      match k, hkb with
      | 0, _ =>
        have hl : l = [u, v, w] := by simpa using hk.symm
        subst hl
        rcases hs with rfl | rfl <;> (apply key; simp [sgT, dt] <;> grind)
      | 1, _ =>
        have hl : l = [i, j, o] := by simpa using hk.symm
        subst hl
        rcases hs with rfl | rfl <;> (apply key; simp [sgT, dt] <;> grind)
    | [p, q], [t], _, 0, hkb, hk =>
      simp at e
      obtain ⟨rfl, rfl, rfl⟩ := e
      have hl : l = [i, j, o] := by simpa using hk.symm
      subst hl
      rcases hs with rfl | rfl <;> (apply key; simp [sgT, dt] <;> grind)
    | p :: q :: t :: ps, b, hlen, k, hkb, hk => simp at hlen; omega
theorem unit_dt {n : Nat} (h1 : 1 ≤ n) (h3 : n ≤ 3) : dt (unitM n) = 1 := by rcases n123 h1 h3 with rfl | rfl | rfl <;> rfl
theorem unit_bd {n : Nat} : Bd 1 (unitM n) := fun l hl x hx => by
  obtain ⟨i, _, rfl⟩ := List.mem_map.mp hl
  obtain ⟨j, _, rfl⟩ := List.mem_map.mp hx
  unfold oneB
  split <;> decide
theorem eraseIdx_map {α β : Type} (f : α → β) : ∀ (l : List α) (j : Nat), (l.map f).eraseIdx j = (l.eraseIdx j).map f
  | [], _ => rfl
  | _ :: _, 0 => rfl
  | a :: l, j + 1 => by simp only [List.map_cons, List.eraseIdx_cons_succ, eraseIdx_map f l j]
structure ChM (n : Nat) (c : Mat) : Prop where
  s : Sq n c
  b : Bd 30 c
  u : (dt c).natAbs = 1
end Kz
set_option Elab.async false
set_option linter.all false
set_option maxRecDepth 100000
set_option maxHeartbeats 4000000
/-! Kz: the laws k00 to k14: drawn forms -/
namespace Kz
open PySem PySem.Spec PyProof.Rows L2
structure Gr (n B : Nat) (g : Mat) : Prop where
  h : g.length = n
  w : ∀ l ∈ g, l.length = n
  b : Bd B g
def llD (g : Mat) : List (List PyData) := g.map fun l => l.map PyData.int
theorem Gr.row {n B : Nat} {g : Mat} (G : Gr n B g) {i : Nat} (hi : i < n) : (g.getD i []).length = n := G.w _ (row_mem (by rw [G.h]; exact hi))
theorem Gr.set {n B : Nat} {g : Mat} (G : Gr n B g) {i j : Nat} {x : Int} (hi : i < n) (hj : j < n) (hx : x.natAbs ≤ B) : Gr n B (g.set i ((g.getD i []).set j x)) := ⟨by rw [List.length_set]; exact G.h, fun l hl => by
  rcases List.mem_or_eq_of_mem_set hl with q | q
  · exact G.w l q
  · rw [q, List.length_set]; exact G.row hi, fun l hl y hy => by
  rcases List.mem_or_eq_of_mem_set hl with q | q
  · exact G.b l q y hy
  · rw [q] at hy
    rcases List.mem_or_eq_of_mem_set hy with q2 | q2
    · exact G.b _ (row_mem (by rw [G.h]; exact hi)) y q2
    · rw [q2]; exact hx⟩
theorem ll_at {n B : Nat} {g : Mat} (G : Gr n B g) {i : Nat} (hi : i < n) : (llD g)[i]? = some ((g.getD i []).map PyData.int) := by
  unfold llD
  rw [List.getElem?_map, List.getElem?_eq_getElem (by rw [G.h]; exact hi), List.getD_eq_getElem?_getD, List.getElem?_eq_getElem (by rw [G.h]; exact hi)]
  rfl
/-- p[i][j] = x -/
theorem gr_put {n B : Nat} {g : Mat} (G : Gr n B g) {i j : Nat} {x : Int} {K : List (List PyData) → Prop} (hi : i < n) (hj : j < n) (hK : K (llD (g.set i ((g.getD i []).set j x)))) :
    atRow (llD g) (.int (i : Int)) fun n r => ixD r.length (.int (j : Int)) fun l => K ((llD g).set n (r.set l (.int x))) := by
  unfold atRow
  refine ixD_nat (by unfold llD; rw [List.length_map, G.h]; exact hi) ?_
  rw [ll_at G hi]
  refine ixD_nat (by rw [List.length_map, G.row hi]; exact hj) ?_
  have e : (llD g).set i (((g.getD i []).map PyData.int).set j (.int x)) = llD (g.set i ((g.getD i []).set j x)) := by
    unfold llD
    rw [List.map_set, List.map_set]
  rw [e]
  exact hK
theorem gr_get {n B : Nat} {g : Mat} (G : Gr n B g) {i : Nat} {P : PyData → Prop} (hi : i < n) (hp : P (.list ((g.getD i []).map .int))) : idxW (.list ((llD g).map .list)) (.int (i : Int)) P := by
  refine idx_l ?_ hp
  rw [List.getElem?_map, ll_at G hi]
  rfl
theorem gr_zero (n : Nat) : Gr n 9 (List.replicate n (zer n)) := ⟨by simp, fun l hl => by rw [(List.mem_replicate.mp hl).2]; simp, fun l hl x hx => by
  rw [(List.mem_replicate.mp hl).2] at hx
  rw [(List.mem_replicate.mp hx).2]
  decide⟩
theorem lcl_map {α : Type} {f : α → PyData} {h : α → List PyData} {G : PyData → W (List (List PyData))} : ∀ {xs : List α}, (∀ x ∈ xs, ∀ K : List (List PyData) → Prop, K [h x] → G (f x) K) → ∀ {P : List (List PyData) → Prop}, P (xs.map h) → lcW G (xs.map f) P := by
  intro xs
  induction xs with
  | nil => intro _ P hp; exact hp
  | cons x xs ih =>
    intro hG P hp
    exact hG x (by simp) _ (ih (fun y hy => hG y (by simp [hy])) hp)
theorem sz_of {m : Nat} {r : Mat} (s : Sq m r) (h : m ≤ 3) : Sz (matD r) := sz_mat (by rw [s.h]; omega) fun l hl => by rw [s.w l hl]; omega
theorem diag_pd {n : Nat} {ax : List Int} (h1 : 1 ≤ n) (h3 : n ≤ 3) (hl : ax.length = n) (hx : ∀ x ∈ ax, 1 ≤ x) : Pd n ((List.range n).map fun i => (List.range n).map fun j => ax.getD i 0 * oneB (decide (i = j))) := by
  rcases n123 h1 h3 with rfl | rfl | rfl
  · obtain ⟨a, rfl⟩ := len1 hl
    have ha := hx a (by simp)
    have e : ((List.range 1).map fun i => (List.range 1).map fun j => [a].getD i 0 * oneB (decide (i = j))) = [[a]] := by simp [List.range_succ, oneB]
    rw [e]
    exact Pd.mk1 (by omega)
  · obtain ⟨a, b, rfl⟩ := len2 hl
    have ha := hx a (by simp)
    have hb := hx b (by simp)
    have e : ((List.range 2).map fun i => (List.range 2).map fun j => [a, b].getD i 0 * oneB (decide (i = j))) = [[a, 0], [0, b]] := by simp [List.range_succ, oneB]
    rw [e]
    have := Int.mul_pos (show 0 < a by omega) (show 0 < b by omega)
    exact Pd.mk2 (by omega) (by simpa using this)
  · obtain ⟨a, b, c, rfl⟩ := len3 hl
    have ha := hx a (by simp)
    have hb := hx b (by simp)
    have hc := hx c (by simp)
    have e : ((List.range 3).map fun i => (List.range 3).map fun j => [a, b, c].getD i 0 * oneB (decide (i = j))) = [[a, 0, 0], [0, b, 0], [0, 0, c]] := by simp [List.range_succ, oneB]
    rw [e]
    have q1 := Int.mul_pos (show 0 < a by omega) (show 0 < b by omega)
    have q2 := Int.mul_pos (show 0 < a by omega) (Int.mul_pos (show 0 < b by omega) (show 0 < c by omega))
    exact Pd.mk3 (by omega) (by simpa using q1) (by simpa using q2)
/-- drawn rows, not known: a matrix -/
theorem lc_mat {α : Type} {n B : Nat} {f : α → PyData} {G : PyData → W (List PyData)} {xs : List α} (hG : ∀ x ∈ xs, ∀ K : List PyData → Prop, (∀ l : List Int, l.length = n → BdL B l → K [rowD l]) → G (f x) K) {P : List PyData → Prop}
    (hp : ∀ g : Mat, g.length = xs.length → (∀ l ∈ g, l.length = n) → Bd B g → P (g.map rowD)) : lcW G (xs.map f) P := by
  refine lc_any (R := fun _ d => ∃ l : List Int, d = rowD l ∧ l.length = n ∧ BdL B l) (fun x hx K hK => hG x hx K fun l h1 h2 => hK _ ⟨l, rfl, h1, h2⟩) fun ds hl hr => ?_
  have : ∀ ds : List PyData, (∀ d ∈ ds, ∃ l : List Int, d = rowD l ∧ l.length = n ∧ BdL B l) → ∃ g : Mat, ds = g.map rowD ∧ (∀ l ∈ g, l.length = n) ∧ Bd B g := fun ds => by
    induction ds with
    | nil => intro _; exact ⟨[], rfl, by simp, by simp [Bd]⟩
    | cons d ds ih =>
      intro h
      obtain ⟨l, rfl, h1, h2⟩ := h d (by simp)
      obtain ⟨g, rfl, h3, h4⟩ := ih fun d hd => h d (by simp [hd])
      refine ⟨l :: g, rfl, fun x hx => ?_, fun x hx => ?_⟩
      · rcases List.mem_cons.mp hx with rfl | hx
        · exact h1
        · exact h3 x hx
      · rcases List.mem_cons.mp hx with rfl | hx
        · exact h2
        · exact h4 x hx
  obtain ⟨g, rfl, h1, h2⟩ := this ds fun d hd => by
    obtain ⟨i, hi, rfl⟩ := List.mem_iff_getElem.mp hd
    have hi' : i < xs.length := by omega
    exact hr i _ _ (List.getElem?_eq_getElem hi) (List.getElem?_eq_getElem hi')
  exact hp g (by simpa using hl) h1 h2
theorem lc_bd {α : Type} {B : Nat} {f : α → PyData} {G : PyData → W (List PyData)} {xs : List α} (hG : ∀ x ∈ xs, ∀ K : List PyData → Prop, (∀ i : Int, i.natAbs ≤ B → K [.int i]) → G (f x) K) {P : List PyData → Prop} (hp : ∀ l : List Int, l.length = xs.length → BdL B l → P (l.map .int)) : lcW G (xs.map f) P :=
  lc_ints (R := fun _ i => i.natAbs ≤ B) hG fun l hl hr => hp l hl fun x hx => by
    obtain ⟨j, hj, rfl⟩ := List.mem_iff_getElem.mp hx
    have hj' : j < xs.length := by omega
    exact hr j _ _ (List.getElem?_eq_getElem hj) (List.getElem?_eq_getElem hj')
end Kz
set_option Elab.async false
set_option linter.all false
set_option maxRecDepth 100000
set_option maxHeartbeats 4000000
/-! Kz: the laws' own spots and fractions -/
namespace Kz
open PySem PySem.Spec PyProof.Rows L2
theorem w_lcommon {a b : Int} {P : PyData → Prop} (hp : P (.int ((Nat.gcd a.natAbs b.natAbs : Nat) : Int))) : m_law_common (.int a) (.int b) P := by
  unfold m_law_common
  simp only [letW, letW2, abs_i]
  refine while_inv (fun s : PyData × PyData => ∃ x y : Nat, s = (.int (x : Int), .int (y : Int)) ∧ Nat.gcd x y = Nat.gcd a.natAbs b.natAbs) (fun s => match s.2 with | .int i => i.natAbs | _ => 0) ⟨_, _, rfl, rfl⟩ fun s hI => ?_
  obtain ⟨x, y, rfl, e⟩ := hI
  refine ⟨!decide ((y : Int) = 0), fun P hP => ?_, fun ht nx bk hnx _ => ?_, fun hf => ?_⟩
  · rw [ne_ii, bool_b]
    exact hP
  · have hy : y ≠ 0 := fun z => by rw [z] at ht; simp at ht
    rw [int_i]
    refine mod_ii (by omega) ?_
    rw [fmodE (by omega)]
    have e2 : (x : Int) % (y : Int) = ((x % y : Nat) : Int) := by simp
    rw [e2]
    refine hnx _ ⟨y, x % y, rfl, ?_⟩ ?_
    · rw [← e, Nat.gcd_comm x y, Nat.gcd_rec y x, Nat.gcd_comm]
    · show ((x % y : Nat) : Int).natAbs < (y : Int).natAbs
      have := Nat.mod_lt x (Nat.pos_of_ne_zero hy)
      omega
  · have hy : y = 0 := by simpa using hf
    subst hy
    rw [Nat.gcd_zero_right] at e
    rw [e]
    exact hp
theorem w_lspot {n : Nat} {t : List Int} {b : Int} {P : PyData → Prop} (h1 : 1 ≤ n) (hn : n ≤ 1000) (hl : t.length = n) (hb : 1 ≤ b) (hb2 : b.natAbs < 2 ^ 8000) (hp : P (spotD (lowT t b) (lowB t b))) : m_law_spot (rowD t) (.int b) P := by
  unfold m_law_spot
  simp only [letW, forL, rowD, iter_t]
  have key : ∀ (l : List Int) (a : Int) {P : PyData → Prop}, 0 ≤ a → P (.int (gcdL a.natAbs l : Nat)) → forW (S := PyData) (fun top s nx bk => m_law_common s top fun v => nx v) (l.map .int) (.int a) P := fun l => by
    induction l with
    | nil =>
      intro a P ha hp
      have : ((gcdL a.natAbs [] : Nat) : Int) = a := by show ((a.natAbs : Nat) : Int) = a; omega
      rw [this] at hp
      exact hp
    | cons t l ih =>
      intro a P ha hp
      show m_law_common (.int a) (.int t) fun v => forW _ (l.map .int) v P
      refine w_lcommon (ih _ (by omega) ?_)
      rw [Int.natAbs_natCast]
      exact hp
  have gp : 0 < gcdL b.natAbs t := gcdL_pos (by omega)
  have gl := Nat.le_of_dvd (by omega) (gcdL_dvd (a := b.natAbs) (l := t)).1
  refine key t b (by omega) ⟨by rw [List.length_map]; omega, lc_map (h := fun x => .int (x.fdiv (gcdL b.natAbs t : Nat))) (fun x hx K hK => fdiv_ii (by omega) (bits_nat gl hb2) hK) ?_⟩
  rw [tuple_l]
  refine fdiv_ii (by omega) (bits_nat gl hb2) ⟨by simp, ?_⟩
  have e : t.map (fun x => PyData.int (x.fdiv (gcdL b.natAbs t : Nat))) = (lowT t b).map .int := by rw [List.map_map]; rfl
  rw [e]
  exact hp
end Kz
set_option Elab.async false
set_option linter.all false
set_option maxRecDepth 100000
set_option maxHeartbeats 4000000
/-! Kz: the laws k00 to k13: values of any kind -/
namespace Kz
open PySem PySem.Spec PyProof.Rows L2
abbrev B40 : Nat := 10 ^ 40
def cbA : Nat → Nat
  | 0 => 20
  | k + 1 => 3 * (cbA k + 1) + 20
theorem cbA_mono : ∀ k, 20 ≤ cbA k
  | 0 => Nat.le_refl _
  | k + 1 => by show 20 ≤ 3 * (cbA k + 1) + 20; omega
theorem vd_frm {B : Nat} {k : Int} {b : Nat} {m : Nat} (hk : k.natAbs ≤ B) (hB : 1 ≤ B) (hb : 20 ≤ b) : Vd B (m + 1) b (.dict ((([.inr "form", .inl 1] : List Key).map keyD).zip [.int k, .none])) := by
  refine ⟨?_, ?_, ?_⟩
  · show lf B (.dict [(.str "form", .int k), (.int 1, .none)]) = true
    simp only [Kz.lf, lfK, Bool.and_eq_true, decide_eq_true_eq, Bool.and_true]
    have : asc "form" = true := by decide +kernel
    simp [this, hk, hB]
  · show PyData.depth (.dict [(.str "form", .int k), (.int 1, .none)]) ≤ _
    simp [PyData.depth, PyData.depthKv]
  · show PyData.bulk (.dict [(.str "form", .int k), (.int 1, .none)]) ≤ _
    have e : PyData.bulk (.dict [(.str "form", .int k), (.int 1, .none)]) = PyData.bulk (.dict [(.str "form", .int 0), (.int 1, .none)]) := by simp [PyData.bulk, PyData.bulkKv]
    rw [e]
    exact Nat.le_trans (by decide +kernel) hb
theorem w_lany : ∀ (k fuel : Nat) {P : PyData → Prop}, k < fuel → k ≤ 5 → (∀ d, Vd B40 (k + 1) (cbA k) d → P d) → m_law_any fuel (.int (k : Int)) P := by
  intro k
  induction k with
  | zero =>
    intro fuel P hf _ hp
    obtain ⟨f, rfl⟩ : ∃ f, fuel = f + 1 := ⟨fuel - 1, by omega⟩
    unfold m_law_any
    simp only [letW]
    refine draw_i (by decide) (by decide) fun way _ _ => ?_
    simp only [lt_ii, eq_ii, gt_ii, bool_b, neg_i]
    cases decide (way < 2) with
    | true =>
      rw [cW_t]
      refine pow_ii (by decide) (by decide) (by decide) (pow_ii (by decide) (by decide) (by decide) ⟨by simp, w_pick1 (by simp) (by simp) fun d hd => hp d ?_⟩)
      simp only [List.mem_cons, List.not_mem_nil, or_false] at hd
      rcases hd with rfl | rfl | rfl | rfl | rfl | rfl | rfl | rfl <;> exact vd_int (by decide +kernel)
    | false =>
      rw [cW_f]
      cases decide (way = 2) with
      | true =>
        rw [cW_t]
        refine ⟨by simp, w_pick1 (by simp) (by simp) fun d hd => hp d ?_⟩
        simp only [List.mem_cons, List.not_mem_nil, or_false] at hd
        rcases hd with rfl | rfl | rfl | rfl | rfl | rfl | rfl | rfl | rfl <;> exact vd_str (by decide +kernel) (by decide +kernel)
      | false =>
        rw [cW_f]
        cases decide (way = 3) with
        | true =>
          rw [cW_t]
          refine ⟨by simp, w_pick1 (by simp) (by simp) fun d hd => hp d ?_⟩
          simp only [List.mem_cons, List.not_mem_nil, or_false] at hd
          rcases hd with rfl | rfl | rfl
          · exact vd_bool _
          · exact vd_bool _
          · exact vd_none
        | false =>
          rw [cW_f]
          show cW (decide ((0 : Int) < 0)) _ _
          refine ⟨by simp, ?_⟩
          cases decide (way = 4) with
          | true => exact hp _ (vd_lst.mpr vdl_nil)
          | false =>
            rw [cW_f]
            cases decide (way = 5) with
            | true => exact hp _ (vd_frm (by decide) (by decide +kernel) (by decide))
            | false => exact hp _ (vd_tup.mpr vdl_nil)
  | succ k ih =>
    intro fuel P hf h5 hp
    obtain ⟨f, rfl⟩ : ∃ f, fuel = f + 1 := ⟨fuel - 1, by omega⟩
    unfold m_law_any
    simp only [letW]
    have c20 := cbA_mono (k + 1)
    refine draw_i (by decide) (by decide) fun way _ _ => ?_
    simp only [lt_ii, eq_ii, gt_ii, bool_b, neg_i]
    cases decide (way < 2) with
    | true =>
      rw [cW_t]
      refine pow_ii (by decide) (by decide) (by decide) (pow_ii (by decide) (by decide) (by decide) ⟨by simp, w_pick1 (by simp) (by simp) fun d hd => hp d ?_⟩)
      simp only [List.mem_cons, List.not_mem_nil, or_false] at hd
      rcases hd with rfl | rfl | rfl | rfl | rfl | rfl | rfl | rfl <;> exact vd_int (by decide +kernel)
    | false =>
      rw [cW_f]
      cases decide (way = 2) with
      | true =>
        rw [cW_t]
        refine ⟨by simp, w_pick1 (by simp) (by simp) fun d hd => hp d ?_⟩
        simp only [List.mem_cons, List.not_mem_nil, or_false] at hd
        rcases hd with rfl | rfl | rfl | rfl | rfl | rfl | rfl | rfl | rfl <;> exact vd_str (by decide +kernel) (Nat.le_trans (by decide +kernel) c20)
      | false =>
        rw [cW_f]
        cases decide (way = 3) with
        | true =>
          rw [cW_t]
          refine ⟨by simp, w_pick1 (by simp) (by simp) fun d hd => hp d ?_⟩
          simp only [List.mem_cons, List.not_mem_nil, or_false] at hd
          rcases hd with rfl | rfl | rfl
          · exact vd_bool _
          · exact vd_bool _
          · exact vd_none
        | false =>
          rw [cW_f, decide_eq_true (show (0 : Int) < ((k + 1 : Nat) : Int) by omega), cW_t]
          refine draw_i (by decide) (by decide) fun q q0 q1 => ?_
          rw [show q = ((q.toNat : Nat) : Int) by omega]
          refine rng1_nat (by omega) ⟨by simp; omega, lc_any (R := fun _ d => Vd B40 (k + 1) (cbA k) d) (fun i hi K hK => ?_) fun ds hl hr => ?_⟩
          · rw [sub_ii, show ((k + 1 : Nat) : Int) - 1 = (k : Int) by omega]
            exact ih f (by omega) (by omega) hK
          rw [List.length_range] at hl
          have hall : ∀ d ∈ ds, Vd B40 (k + 1) (cbA k) d := fun d hd => by
            obtain ⟨i, hi, rfl⟩ := List.mem_iff_getElem.mp hd
            exact hr i _ i (List.getElem?_eq_getElem hi) (List.getElem?_range (by omega))
          have v := vdl_all hall
          have hb : ds.length * (cbA k + 1) ≤ cbA (k + 1) := by
            have : ds.length ≤ 3 := by omega
            have := Nat.mul_le_mul_right (cbA k + 1) this
            show _ ≤ 3 * (cbA k + 1) + 20
            omega
          cases decide (way = 4) with
          | true => exact hp _ (Vd.mono (vd_lst.mpr v) (Nat.le_refl _) (Nat.le_refl _) hb)
          | false =>
            rw [cW_f]
            cases decide (way = 5) with
            | true => exact hp _ (vd_frm (by rw [Int.natAbs_natCast]; have : ds.length ≤ 3 := by omega
                                             exact Nat.le_trans this (by decide +kernel)) (by decide +kernel) c20)
            | false => exact hp _ (Vd.mono (vd_tup.mpr v) (Nat.le_refl _) (Nat.le_refl _) hb)
/-- a tuple changed -/
theorem w_lchtup {B m b : Nat} {ds : List PyData} {P : PyData → Prop} (h : VdL B m b ds) (hB : B40 ≤ B) (hb : b ≤ 100000) (hp : ∀ d, Vd B (m + 2) (5 * b + 30) d → P d) : m_law_changed_tuple (.tuple ds) P := by
  have hl := vdl_len h
  unfold m_law_changed_tuple
  simp only [letW, letW2, letW3, len_t, add_ii]
  refine draw_i (by decide) (by decide) fun way _ _ => draw_i (by omega) (by omega) fun at_ a0 a1 => draw_i (by omega) (by omega) fun to t0 t1 => ?_
  simp only [min2_ii, max2_ii, eq_ii, bool_b, part_i, cut_t, add_ii, add_tt, list_t]
  have cl : ∀ lo hi, VdL B m b (cutD ds lo hi) := fun lo hi => vdl_cut lo hi h
  have cn : ∀ lo hi, (cutD ds lo hi).length ≤ 100000 := fun lo hi => Nat.le_trans (vdl_len (cl lo hi)) hb
  have up : ∀ {es : List PyData} {c : Nat}, VdL B m c es → c ≤ 5 * b + 30 → Vd B (m + 2) (5 * b + 30) (.tuple es) := fun v hc => Vd.mono (vd_tup.mpr v) (Nat.le_refl _) (by omega) hc
  cases decide (way = 0) with
  | true => exact hp _ (Vd.mono (vd_lst.mpr h) (Nat.le_refl _) (by omega) (by omega))
  | false =>
    rw [cW_f]
    cases decide (way = 1) with
    | true => exact ⟨by have := cn none (some at_); have := cn (some (at_ + 1)) none; omega, hp _ (up (vdl_app (cl _ _) (cl _ _)) (by omega))⟩
    | false =>
      rw [cW_f]
      cases decide (way = 2) with
      | true =>
        refine ⟨by have := cn none (some at_); have := cn (some at_) (some (at_ + 1)); omega, ?_, hp _ (up (vdl_app (vdl_app (cl _ _) (cl _ _)) (cl _ _)) (by omega))⟩
        rw [List.length_append]
        have := cn none (some at_)
        have := cn (some at_) (some (at_ + 1))
        have := cn (some at_) none
        omega
      | false =>
        rw [cW_f]
        cases decide (way = 3) with
        | true =>
          generalize min at_ to = low
          generalize max at_ to = high
          have g1 := cn none (some low)
          have g2 := cn (some high) (some (high + 1))
          have g3 := cn (some (low + 1)) (some high)
          have g4 := cn (some low) (some (low + 1))
          have g5 := cn (some (high + 1)) none
          refine ⟨by omega, by rw [List.length_append]; omega, by rw [List.length_append, List.length_append]; omega, by rw [List.length_append, List.length_append, List.length_append]; omega, hp _ (up (vdl_app (vdl_app (vdl_app (vdl_app (cl _ _) (cl _ _)) (cl _ _)) (cl _ _)) (cl _ _)) (by omega))⟩
        | false =>
          rw [cW_f]
          cases decide (way = 4) with
          | true =>
            refine w_lany 0 4 (by decide) (by decide) fun d hd => ⟨by simp, ?_⟩
            have hd' : Vd B (m + 1) 20 d := Vd.mono hd hB (by omega) (by decide)
            have g1 := cn none (some at_)
            have g2 := cn (some at_) none
            refine ⟨by simp; omega, by simp; omega, hp _ (Vd.mono (vd_tup.mpr (vdl_app (vdl_app (VdL.mono (cl none (some at_)) (m' := m + 1) (Nat.le_refl _) (by omega) (Nat.le_refl _)) (vdl_one hd')) (VdL.mono (cl (some at_) none) (m' := m + 1) (Nat.le_refl _) (by omega) (Nat.le_refl _)))) (Nat.le_refl _) (by omega) (by omega))⟩
          | false =>
            rw [cW_f]
            cases decide (way = 5) with
            | true => exact ⟨by simp, hp _ (Vd.mono (vd_tup.mpr (vdl_one (vd_tup.mpr h))) (Nat.le_refl _) (by omega) (by omega))⟩
            | false =>
              rw [cW_f]
              cases decide (way = 6) with
              | true => exact ⟨by omega, hp _ (up (vdl_rev h) (by omega))⟩
              | false => exact hp _ (up (cl _ _) (by omega))
theorem w_lbent : ∀ (fuel : Nat) {B m b : Nat} {d : PyData} {P : PyData → Prop}, m < fuel → Vd B m b d → B40 ≤ B → B < 10 ^ 50 → b ≤ 10000 → (∀ d', Vd (B + 1) (m + 2) (5 * b + 120) d' → P d') → m_law_bent fuel d P := by
  intro fuel
  induction fuel with
  | zero => intro B m b d P h; omega
  | succ f ih =>
    intro B m b d P hf h hB hB2 hb hp
    unfold m_law_bent
    simp only [letW]
    have anyL : ∀ {Q : PyData → Prop}, (∀ d', Vd (B + 1) (m + 2) (5 * b + 120) d' → Q d') → m_law_any 4 (.int 1) Q := fun hq => w_lany 1 4 (by decide) (by decide) fun d' hd' => hq d' (Vd.mono hd' (by omega) (by omega) (by show 3 * (20 + 1) + 20 ≤ _; omega))
    have mono1 : ∀ {d' : PyData}, Vd B m b d' → Vd (B + 1) (m + 2) (5 * b + 120) d' := fun v => Vd.mono v (by omega) (by omega) (by omega)
    have nums : ∀ {i : Int} {s : Str}, i.natAbs ≤ B → asc s = true → s.cps.size ≤ 100 → ∀ x ∈ [PyData.int (i + 1), .int (i - 1), .bool (PyData.eqv d (.int 1)), .int (0 - i), .str s, .tuple [d], .int 0, .list [d]], Vd (B + 1) (m + 2) (5 * b + 120) x := fun {i s} hi hs hz x hx => by
      simp only [List.mem_cons, List.not_mem_nil, or_false] at hx
      rcases hx with rfl | rfl | rfl | rfl | rfl | rfl | rfl | rfl
      · exact vd_int (by omega)
      · exact vd_int (by omega)
      · exact vd_bool _
      · exact vd_int (by omega)
      · exact vd_str hs (by omega)
      · exact Vd.mono (vd_tup.mpr (vdl_one h)) (by omega) (by omega) (by omega)
      · exact vd_int (by simp)
      · exact Vd.mono (vd_lst.mpr (vdl_one h)) (by omega) (by omega) (by omega)
    cases d with
    | tuple ds =>
      obtain ⟨k, rfl, hv⟩ := vd_tupI h
      have hl := vdl_len hv
      refine ⟨true, rfl, ?_⟩
      simp only [truth_b, cW_t]
      refine ⟨by simp, ⟨by simp [eqOk, isTup, tupS, strsOf], ?_⟩⟩
      simp only [bool_b]
      cases ds with
      | nil =>
        show cW false _ _
        simp only [cW_f, truth_b]
        refine draw_i (by decide) (by decide) fun way _ _ => ⟨false, rfl, ⟨false, rfl, ⟨true, rfl, ?_⟩⟩⟩
        simp only [truth_b, cW_t, gt_ii, bool_b]
        cases decide (0 < way) with
        | true => exact w_lchtup hv hB (by omega) fun d' hd' => hp d' (Vd.mono hd' (by omega) (by omega) (by omega))
        | false => exact anyL hp
      | cons d0 ds0 =>
        show cW true _ _
        rw [cW_t]
        refine draw_i (by decide) (by decide) fun q _ _ => ?_
        simp only [gt_ii, bool_b]
        cases decide (0 < q) with
        | true =>
          rw [cW_t, len_t]
          refine draw_i (by rw [List.length_cons]; omega) (by omega) fun a a0 a1 => ?_
          obtain ⟨j, rfl⟩ : ∃ j : Nat, a = (j : Int) := ⟨a.toNat, by omega⟩
          have hj : j < (d0 :: ds0).length := by omega
          rw [part_i, cut_t, cutD_toN]
          have hx : (d0 :: ds0)[j]? = some (d0 :: ds0)[j] := List.getElem?_eq_getElem hj
          refine idx_t hx ?_
          have e : d0 :: ds0 = (d0 :: ds0).take j ++ (d0 :: ds0)[j] :: (d0 :: ds0).drop (j + 1) := by rw [← List.drop_eq_getElem_cons hj, List.take_append_drop]
          have hv2 := hv
          rw [e] at hv2
          obtain ⟨c1, c2, v1, v2, hc⟩ := vdl_split hv2
          obtain ⟨c3, c4, v3, v4, hc2⟩ := vdl_inv v2
          refine ih (m := k) (b := c3) (by omega) v3 hB hB2 (by omega) fun d' hd' => ⟨by simp, ?_⟩
          rw [add_tt]
          have l1 := vdl_len v1
          have l4 := vdl_len v4
          refine ⟨by simp at l1 ⊢; omega, ?_⟩
          rw [add_ii, part_i, show (j : Int) + 1 = ((j + 1 : Nat) : Int) by omega, cut_t, cutD_fromN, add_tt]
          refine ⟨by simp at l1 l4 ⊢; omega, hp _ ?_⟩
          have u1 : VdL (B + 1) (k + 2) c1 ((d0 :: ds0).take j) := VdL.mono v1 (by omega) (by omega) (Nat.le_refl _)
          have u4 : VdL (B + 1) (k + 2) c4 ((d0 :: ds0).drop (j + 1)) := VdL.mono v4 (by omega) (by omega) (Nat.le_refl _)
          exact Vd.mono (vd_tup.mpr (vdl_app (vdl_app u1 (vdl_one hd')) u4)) (Nat.le_refl _) (by omega) (by omega)
        | false =>
          rw [cW_f]
          refine draw_i (by decide) (by decide) fun way _ _ => ⟨false, rfl, ⟨false, rfl, ⟨true, rfl, ?_⟩⟩⟩
          simp only [truth_b, cW_t, gt_ii, bool_b]
          cases decide (0 < way) with
          | true => exact w_lchtup hv hB (by omega) fun d' hd' => hp d' (Vd.mono hd' (by omega) (by omega) (by omega))
          | false => exact anyL hp
    | int i =>
      have hi := vd_intI h
      refine ⟨false, rfl, ?_⟩
      simp only [truth_b, cW_f]
      refine draw_i (by decide) (by decide) fun way _ _ => ⟨true, rfl, ?_⟩
      simp only [truth_b, cW_t, gt_ii, bool_b]
      cases decide (0 < way) with
      | true =>
        rw [cW_t, add_ii, sub_ii]
        refine ⟨rfl, ?_⟩
        simp only [sub_ii]
        have hbit : bits i < 1920 := Nat.lt_trans (bits_lt (k := 190) (by decide) (Nat.lt_of_le_of_lt hi (Nat.lt_trans hB2 (by decide +kernel)))) (by decide)
        refine ⟨by simp, ⟨hbit, by simp, by simp, by simp, ?_⟩⟩
        rw [add_ll]
        refine ⟨by simp, w_pick1 (by simp) (by simp) fun x hx => hp x ?_⟩
        exact nums hi (asc_int i) (len_int hi (Nat.lt_trans hB2 (by decide +kernel))) x (by simpa using hx)
      | false =>
        rw [cW_f]
        exact ⟨false, rfl, ⟨false, rfl, anyL hp⟩⟩
    | bool c =>
      refine ⟨false, rfl, ?_⟩
      simp only [truth_b, cW_f]
      refine draw_i (by decide) (by decide) fun way _ _ => ⟨true, rfl, ?_⟩
      simp only [truth_b, cW_t, gt_ii, bool_b]
      cases decide (0 < way) with
      | true =>
        rw [cW_t]
        have hi : (oneB c).natAbs ≤ B := Nat.le_trans (show (oneB c).natAbs ≤ 1 by unfold oneB; split <;> decide) (Nat.le_trans (by decide +kernel) hB)
        refine ⟨rfl, ?_⟩
        refine ⟨by simp, ⟨by simp, by simp, by simp, ?_⟩⟩
        rw [add_ll]
        refine ⟨by simp, w_pick1 (by simp) (by simp) fun x hx => hp x ?_⟩
        exact nums hi (s := if c then "True" else "False") (by cases c <;> decide +kernel) (by cases c <;> decide +kernel) x (by simpa using hx)
      | false =>
        rw [cW_f]
        exact ⟨false, rfl, ⟨false, rfl, anyL hp⟩⟩
    | str x =>
      obtain ⟨ha, hs⟩ := vd_strI h
      refine ⟨false, rfl, ?_⟩
      simp only [truth_b, cW_f]
      refine draw_i (by decide) (by decide) fun way _ _ => ⟨false, rfl, ⟨true, rfl, ?_⟩⟩
      simp only [truth_b, cW_t, gt_ii, bool_b]
      cases decide (0 < way) with
      | true =>
        rw [cW_t]
        obtain ⟨u1, u2⟩ := upper_ok ha
        have hlen : x.length ≤ 10000 := Nat.le_trans hs hb
        refine ⟨by omega, ?_⟩
        refine ⟨by show x.length + 1 ≤ _; omega, ?_⟩
        simp only [neg_i, part_i]
        obtain ⟨k1, k2⟩ := cut_ok ha none (some (-1))
        refine ⟨by omega, by simp, by simp, w_pick1 (by simp) (by simp) fun d' hd' => hp d' ?_⟩
        simp only [List.mem_cons, List.not_mem_nil, or_false] at hd'
        rcases hd' with rfl | rfl | rfl | rfl | rfl | rfl | rfl | rfl
        · exact vd_str (by decide +kernel) (Nat.le_trans (show _ ≤ 10 by decide +kernel) (by omega))
        · exact vd_str (by decide +kernel) (Nat.le_trans (show _ ≤ 10 by decide +kernel) (by omega))
        · exact vd_str (by decide +kernel) (Nat.le_trans (show _ ≤ 10 by decide +kernel) (by omega))
        · exact vd_str (by decide +kernel) (Nat.le_trans (show _ ≤ 10 by decide +kernel) (by omega))
        · exact vd_str u1 (by omega)
        · refine vd_str (asc_app ha (by decide +kernel)) ?_
          rw [size_app]
          show x.cps.size + 1 ≤ _
          omega
        · exact vd_str k1 (by omega)
        · exact Vd.mono (vd_tup.mpr (vdl_one h)) (by omega) (by omega) (by omega)
      | false =>
        rw [cW_f]
        exact ⟨false, rfl, anyL hp⟩
    | none =>
      refine ⟨false, rfl, ?_⟩
      simp only [truth_b, cW_f]
      refine draw_i (by decide) (by decide) fun way _ _ => ⟨false, rfl, ⟨false, rfl, ⟨false, rfl, anyL hp⟩⟩⟩
    | list ds =>
      refine ⟨false, rfl, ?_⟩
      simp only [truth_b, cW_f]
      refine draw_i (by decide) (by decide) fun way _ _ => ⟨false, rfl, ⟨false, rfl, ⟨false, rfl, anyL hp⟩⟩⟩
    | dict ds =>
      refine ⟨false, rfl, ?_⟩
      simp only [truth_b, cW_f]
      refine draw_i (by decide) (by decide) fun way _ _ => ⟨false, rfl, ⟨false, rfl, ⟨false, rfl, anyL hp⟩⟩⟩
end Kz
set_option Elab.async false
set_option linter.all false
set_option maxRecDepth 100000
set_option maxHeartbeats 4000000
/-! Kz: the laws k00 to k13: values of any kind, boxes -/
namespace Kz
open PySem PySem.Spec PyProof.Rows L2
theorem w_loften {B m b : Nat} {d : PyData} {P : PyData → Prop} (h : Vd B m b d) (hm : m ≤ 4) (hB : B40 ≤ B) (hB2 : B + 2 < 10 ^ 50) (hb : b ≤ 300) (hp : ∀ d', Vd (B + 2) 8 9000 d' → P d') : m_law_often_bent d P := by
  unfold m_law_often_bent
  simp only [letW, forL]
  refine draw_i (by decide) (by decide) fun q _ _ => ?_
  rw [eq_ii, bool_b]
  cases decide (q = 0) with
  | true =>
    rw [cW_t]
    refine w_lany 2 4 (by decide) (by decide) fun d' hd' => hp d' (Vd.mono hd' (by omega) (by omega) (by decide))
  | false =>
    rw [cW_f]
    refine ⟨by simp, w_pick1 (by simp) (by simp) fun g hg => ?_⟩
    have fin : ∀ k : Nat, k ≤ 2 → rng1W (.int (k : Int)) fun ds => forW (S := PyData) (fun turn s nx bk => m_law_bent 8 s fun v => nx v) ds d P := fun k hk => by
      refine rng1_nat (by omega) ?_
      rcases (by omega : k = 0 ∨ k = 1 ∨ k = 2) with rfl | rfl | rfl
      · exact hp d (Vd.mono h (by omega) (by omega) (by omega))
      · exact w_lbent 8 (by omega) h hB (by omega) (by omega) fun d1 h1 => hp d1 (Vd.mono h1 (by omega) (by omega) (by omega))
      · exact w_lbent 8 (by omega) h hB (by omega) (by omega) fun d1 h1 => w_lbent 8 (by omega) h1 (by omega) (by omega) (by omega) fun d2 h2 => hp d2 (Vd.mono h2 (by omega) (by omega) (by omega))
    simp only [List.mem_cons, List.not_mem_nil, or_false] at hg
    rcases hg with rfl | rfl | rfl | rfl | rfl
    · exact fin 0 (by decide)
    · exact fin 1 (by decide)
    · exact fin 1 (by decide)
    · exact fin 1 (by decide)
    · exact fin 2 (by decide)
/-- truths in the place of 0 and 1 -/
theorem w_ltruths : ∀ (fuel : Nat) {B m b : Nat} {d : PyData} {P : PyData → Prop}, m < fuel → Vd B m b d → b ≤ 100000 → (∀ d', Vd B m b d' → P d') → m_law_truths fuel d P := by
  intro fuel
  induction fuel with
  | zero => intro B m b d P h; omega
  | succ f ih =>
    intro B m b d P hf h hb hp
    unfold m_law_truths
    simp only [letW]
    cases d with
    | tuple ds =>
      obtain ⟨k, rfl, hv⟩ := vd_tupI h
      have hl := vdl_len hv
      refine ⟨true, rfl, ?_⟩
      simp only [truth_b, cW_t, iter_t]
      refine ⟨by omega, ?_⟩
      have key : ∀ (ds : List PyData) (b : Nat) {Q : List PyData → Prop}, VdL B k b ds → b ≤ 100000 → (∀ es, VdL B k b es → Q es) → lcW (fun it K => m_law_truths f it fun v => K [v]) ds Q := fun ds => by
        induction ds with
        | nil => intro b Q v _ hq; exact hq [] (VdL.mono (vdl_nil (b := 0)) (Nat.le_refl _) (Nat.le_refl _) (Nat.zero_le _))
        | cons d ds ihd =>
          intro b Q v hb hq
          obtain ⟨c, e, v1, v2, hc⟩ := vdl_inv v
          refine ih (by omega) v1 (by omega) fun d' hd' => ?_
          show lcW _ ds fun es => Q ([d'] ++ es)
          refine ihd e v2 (by omega) fun es hes => hq _ ?_
          exact VdL.mono (vdl_cons hd' hes) (Nat.le_refl _) (Nat.le_refl _) hc
      refine key ds b hv hb fun es hes => ?_
      rw [tuple_l]
      exact hp _ (vd_tup.mpr hes)
    | int i =>
      refine ⟨false, rfl, ?_⟩
      simp only [truth_b, cW_f, bindW]
      refine ⟨true, rfl, ?_⟩
      simp only [truth_b, cW_t]
      refine ⟨by simp, ⟨rfl, ?_⟩⟩
      simp only [bool_b]
      cases ([PyData.int 0, .int 1].any fun z => PyData.eqv z (.int i)) with
      | true =>
        rw [cW_t]
        exact ⟨rfl, hp _ (vd_bool _)⟩
      | false => exact hp _ h
    | bool c =>
      refine ⟨false, rfl, ?_⟩
      simp only [truth_b, cW_f, bindW]
      refine ⟨true, rfl, ?_⟩
      simp only [truth_b, cW_t]
      refine ⟨by simp, ⟨rfl, ?_⟩⟩
      simp only [bool_b]
      cases ([PyData.int 0, .int 1].any fun z => PyData.eqv z (.bool c)) with
      | true =>
        rw [cW_t]
        exact ⟨rfl, hp _ (vd_bool _)⟩
      | false => exact hp _ h
    | none => exact ⟨false, rfl, ⟨false, rfl, hp _ h⟩⟩
    | str x => exact ⟨false, rfl, ⟨false, rfl, hp _ h⟩⟩
    | list ds => exact ⟨false, rfl, ⟨false, rfl, hp _ h⟩⟩
    | dict ds => exact ⟨false, rfl, ⟨false, rfl, hp _ h⟩⟩
/-! ### boxes -/
def growB (found : Mat) (b : Nat) : Mat := found.flatMap fun s => (List.range (2 * b + 1)).map fun (x : Nat) => s ++ [(x : Int) - (b : Int)]
def boxM (bs : List Nat) : Mat := bs.foldl growB [[]]
theorem growB_len (found : Mat) (b : Nat) : (growB found b).length = found.length * (2 * b + 1) := by
  unfold growB
  induction found with
  | nil => simp
  | cons s f ih => rw [List.flatMap_cons, List.length_append, ih, List.length_map, List.length_range, List.length_cons, Nat.add_mul, Nat.one_mul]; omega
theorem growB_mem {found : Mat} {b : Nat} {l : List Int} : l ∈ growB found b ↔ ∃ s ∈ found, ∃ x : Int, x.natAbs ≤ b ∧ l = s ++ [x] := by
  unfold growB
  rw [List.mem_flatMap]
  constructor
  · rintro ⟨s, hs, hl⟩
    obtain ⟨x, hx, rfl⟩ := List.mem_map.mp hl
    have := List.mem_range.mp hx
    exact ⟨s, hs, _, by omega, rfl⟩
  · rintro ⟨s, hs, x, hx, rfl⟩
    refine ⟨s, hs, List.mem_map.mpr ⟨(x + b).toNat, List.mem_range.mpr (by omega), ?_⟩⟩
    congr 2
    omega
/-- how many the box has -/
def boxN (bs : List Nat) : Nat := bs.foldl (fun a b => a * (2 * b + 1)) 1
theorem box_len (bs : List Nat) : (boxM bs).length = boxN bs := by
  have : ∀ (bs : List Nat) (f : Mat), (bs.foldl growB f).length = bs.foldl (fun a b => a * (2 * b + 1)) f.length := fun bs => by
    induction bs with
    | nil => intro f; rfl
    | cons b bs ih => intro f; rw [List.foldl_cons, List.foldl_cons, ih, growB_len]
  exact this bs [[]]
end Kz
set_option Elab.async false
set_option linter.all false
set_option maxRecDepth 100000
set_option maxHeartbeats 4000000
/-! Kz: the laws' spots: drawn, told from others -/
namespace Kz
open PySem PySem.Spec PyProof.Rows L2
section
variable {n : Nat} {t p : List Int} {b : Int} {P : PyData → Prop}
theorem low_bdT {T : Nat} {l : List Int} {c : Int} (hc : 1 ≤ c) (h : BdL T l) : BdL T (lowT l c) := fun x hx => by
  obtain ⟨y, hy, rfl⟩ := List.mem_map.mp hx
  rw [Int.fdiv_eq_ediv_of_nonneg _ (by omega)]
  exact Nat.le_trans (Int.natAbs_ediv_le_natAbs _ _) (h y hy)
theorem low_bdB {U : Nat} {l : List Int} {c : Int} (hc : c.natAbs ≤ U) : (lowB l c).natAbs ≤ U := by
  show (c.fdiv _).natAbs ≤ U
  rw [Int.fdiv_eq_ediv_of_nonneg _ (by omega)]
  exact Nat.le_trans (Int.natAbs_ediv_le_natAbs _ _) hc
theorem pow6 {P : PyData → Prop} (hp : P (.int 1000000)) : powW (.int 10) (.int 6) P := pow_ii (by decide) (by decide) (by decide) hp
theorem w_ldrawn_spot (h1 : 1 ≤ n) (h3 : n ≤ 3) (hp : ∀ t b, Spot n t b → BdL (10 ^ 6) t → b.natAbs ≤ 10000 → P (spotD t b)) : m_law_drawn_spot (.int (n : Int)) P := by
  unfold m_law_drawn_spot
  simp only [letW]
  refine draw_i (by decide) (by decide) fun q q0 q1 => ?_
  rw [add_ii]
  refine ⟨by simp, w_pick1 (by simp) (by simp) fun g hg => ?_⟩
  obtain ⟨c, rfl, c1, c2⟩ : ∃ c : Int, g = .int c ∧ 1 ≤ c ∧ c ≤ 10000 := by
    simp only [List.mem_cons, List.not_mem_nil, or_false] at hg
    rcases hg with rfl | rfl | rfl | rfl | rfl | rfl | rfl | rfl | rfl | rfl | rfl | rfl <;> exact ⟨_, rfl, by omega, by omega⟩
  refine pow6 ⟨by simp, w_pick1 (by simp) (by simp) fun g hg => ?_⟩
  obtain ⟨far, rfl, f1, f2⟩ : ∃ c : Int, g = .int c ∧ 1 ≤ c ∧ c ≤ 1000000 := by
    simp only [List.mem_cons, List.not_mem_nil, or_false] at hg
    rcases hg with rfl | rfl | rfl | rfl | rfl <;> exact ⟨_, rfl, by decide, by decide⟩
  refine w_drawnR (B := 10 ^ 6) (by omega) (fun i hi K hK => ?_) fun l hl bl => ?_
  · refine mul_i (sm_of 2 (by decide +kernel) (by decide)) (sm_of 1000000 (by decide +kernel) (by omega)) ?_
    rw [add_ii]
    refine draw_i (by omega) (by omega) fun w w0 w1 => ?_
    rw [sub_ii]
    exact hK _ (by omega)
  rw [tuple_l]
  refine w_lspot h1 (by omega) hl c1 (Nat.lt_of_le_of_lt (show c.natAbs ≤ 10000 by omega) (by decide +kernel)) ?_
  obtain ⟨g, _, _, _, _, sp⟩ := low_ok hl c1
  exact hp _ _ sp (low_bdT c1 bl) (low_bdB (by omega))
theorem eqv_spot {a c : List Int} {b d : Int} : PyData.eqv (spotD a b) (spotD c d) = (decide (a = c) && decide (b = d)) := by
  show (PyData.eqv (rowD a) (rowD c) && (PyData.eqv (.int b) (.int d) && true)) = _
  rw [eqv_row, Bool.and_true]
  show (decide (a = c) && (b == d)) = _
  congr 1
theorem fl_spot {a : List Int} {b : Int} : Fl 64 (spotD a b) := fl_tup (m := 63) fun d hd => by
  simp only [List.mem_cons, List.not_mem_nil, or_false] at hd
  rcases hd with rfl | rfl
  · exact fl_row
  · exact fl_int
theorem eq_spot {a c : List Int} {b d : Int} : eqW (spotD a b) (spotD c d) P = P (.bool (decide (a = c) && decide (b = d))) :=
  propext ⟨fun h => by have := h.2; rwa [eqv_spot] at this, fun h => ⟨eqOk_fl fl_spot fl_spot, by rw [eqv_spot]; exact h⟩⟩
theorem low_same (hl : t.length = n) (hb : 1 ≤ b) : (decide (lowT t b = t) && decide (lowB t b = b)) = decide (gcdL b.natAbs t = 1) := by
  obtain ⟨g, g0, ge, e1, e2, sp⟩ := low_ok hl hb
  by_cases h : gcdL b.natAbs t = 1
  · have g1 : g = 1 := ge.trans h
    subst g1
    have a1 : lowT t b = t := by
      have e1 : List.map (fun x => (1 : Int) * x) (lowT t b) = t := e1
      have : List.map (fun x => (1 : Int) * x) (lowT t b) = lowT t b := by
        rw [show (fun x : Int => (1 : Int) * x) = id from by funext x; simp]; simp
      rw [← this]; exact e1
    have a2 : lowB t b = b := by have e2 : (1 : Int) * lowB t b = b := e2; rw [Int.one_mul] at e2; exact e2
    rw [decide_eq_true a1, decide_eq_true a2, decide_eq_true h]; rfl
  · rw [decide_eq_false h]
    by_cases a2 : lowB t b = b
    · exfalso
      rw [a2] at e2
      have : (g : Int) * b = 1 * b := by rw [Int.one_mul]; exact e2
      have g1 := Int.eq_of_mul_eq_mul_right (by omega) this
      exact h (by rw [← ge]; omega)
    · rw [decide_eq_false a2, Bool.and_false]
theorem w_lis_spot {B m k : Nat} {d : PyData} (h1 : 1 ≤ n) (hn : n ≤ 1000) (hv : Vd B m k d) (hB : B < 2 ^ 190) (hk : k ≤ 1000000) (hp : P (.bool (isSpot n d))) : m_law_is_spot (.int (n : Int)) d P := by
  unfold m_law_is_spot
  simp only [letW]
  cases d with
  | tuple ds =>
    refine ⟨true, rfl, ?_⟩
    simp only [truth_b, Bool.not_true, cW_f, len_t, ne_ii, bool_b]
    by_cases h2 : ds.length = 2
    · obtain ⟨t, c, rfl⟩ := len2 h2
      simp only [List.length_cons, List.length_nil, Nat.zero_add, Nat.reduceAdd, Int.cast_ofNat_Int, decide_true, Bool.not_true, cW_f, idx_t0, idx_t1]
      obtain ⟨m, rfl⟩ : ∃ j, m = j + 1 := by
        cases m with
        | zero => exact (vd_tup0 hv).elim
        | succ j => exact ⟨j, rfl⟩
      obtain ⟨k1, k2, vt, vr, hk2⟩ := vdl_inv (vd_tup.mp hv)
      obtain ⟨k3, k4, vc, _, _⟩ := vdl_inv vr
      refine w_lis_step (fun es e => ?_) ?_
      · subst e
        cases m with
        | zero => exact (vd_tup0 vt).elim
        | succ j => exact Nat.le_trans (vdl_len (vd_tup.mp vt)) (by omega)
      rw [truth_b]
      cases ht : isStep n t with
      | false =>
        have : isSpot n (.tuple [t, c]) = false := by cases c <;> simp [isSpot, ht]
        rw [this] at hp
        exact hp
      | true =>
        simp only [Bool.not_true, cW_f]
        obtain ⟨l, rfl, hl⟩ := isStep_inv ht
        cases c with
        | int b =>
          refine ⟨true, rfl, ?_⟩
          simp only [truth_b, Bool.not_true, cW_f]
          refine ⟨false, rfl, ?_⟩
          simp only [truth_b, cW_f, lt_ii, bool_b]
          simp only [isSpot, ht, Bool.true_and, rowOf_row] at hp
          rw [eq_lt1]
          by_cases hb : 1 ≤ b
          · rw [decide_eq_true hb] at hp ⊢
            simp only [Bool.not_true, cW_f]
            have bb : b.natAbs ≤ B := by have := vc.lf; simpa only [Kz.lf, decide_eq_true_eq] using this
            have b8 : b.natAbs < 2 ^ 8000 := Nat.lt_of_le_of_lt bb (Nat.lt_trans hB (by decide +kernel))
            have hl2 : l.length = n := by omega
            refine w_lspot h1 hn hl2 hb b8 ?_
            rw [eq_spot, low_same hl2 hb]
            simpa using hp
          · rw [decide_eq_false hb] at hp ⊢
            simp only [Bool.not_false, cW_t]
            simpa using hp
        | bool c => exact ⟨true, rfl, ⟨true, rfl, hp⟩⟩
        | none => exact ⟨false, rfl, hp⟩
        | str c => exact ⟨false, rfl, hp⟩
        | list c => exact ⟨false, rfl, hp⟩
        | tuple c => exact ⟨false, rfl, hp⟩
        | dict c => exact ⟨false, rfl, hp⟩
    · have e : ¬ ((ds.length : Int) = 2) := by omega
      have : isSpot n (.tuple ds) = false := by
        unfold isSpot
        split
        · next e => injection e with e; rw [e] at h2; simp at h2
        · rfl
      rw [this] at hp
      rw [decide_eq_false e]
      exact hp
  | _ => exact ⟨_, rfl, hp⟩
/-- something otherwise at up to two places, in a small thing -/
theorem w_loftenS {B m b : Nat} {d : PyData} (h : Vd B m b d) (hm : m ≤ 4) (hB : B40 ≤ B) (hB2 : B + 2 < 10 ^ 50) (hb : b ≤ 20) (hp : ∀ d', Vd (B + 2) 8 1300 d' → P d') : m_law_often_bent d P := by
  unfold m_law_often_bent
  simp only [letW, forL]
  refine draw_i (by decide) (by decide) fun q _ _ => ?_
  rw [eq_ii, bool_b]
  cases decide (q = 0) with
  | true =>
    rw [cW_t]
    refine w_lany 2 4 (by decide) (by decide) fun d' hd' => hp d' (Vd.mono hd' (by omega) (by omega) (by decide))
  | false =>
    rw [cW_f]
    refine ⟨by simp, w_pick1 (by simp) (by simp) fun g hg => ?_⟩
    have fin : ∀ k : Nat, k ≤ 2 → rng1W (.int (k : Int)) fun ds => forW (S := PyData) (fun turn s nx bk => m_law_bent 8 s fun v => nx v) ds d P := fun k hk => by
      refine rng1_nat (by omega) ?_
      rcases (by omega : k = 0 ∨ k = 1 ∨ k = 2) with rfl | rfl | rfl
      · exact hp d (Vd.mono h (by omega) (by omega) (by omega))
      · exact w_lbent 8 (by omega) h hB (by omega) (by omega) fun d1 h1 => hp d1 (Vd.mono h1 (by omega) (by omega) (by omega))
      · exact w_lbent 8 (by omega) h hB (by omega) (by omega) fun d1 h1 => w_lbent 8 (by omega) h1 (by omega) (by omega) (by omega) fun d2 h2 => hp d2 (Vd.mono h2 (by omega) (by omega) (by omega))
    simp only [List.mem_cons, List.not_mem_nil, or_false] at hg
    rcases hg with rfl | rfl | rfl | rfl | rfl
    · exact fin 0 (by decide)
    · exact fin 1 (by decide)
    · exact fin 1 (by decide)
    · exact fin 1 (by decide)
    · exact fin 2 (by decide)
end
end Kz
set_option Elab.async false
set_option linter.all false
set_option maxRecDepth 100000
set_option maxHeartbeats 4000000
/-! Kz: the law of spots and plain places -/
namespace Kz
open PySem PySem.Spec PyProof.Rows L2
theorem rep_one {n : Nat} {x : Int} : (List.replicate (n : Int).toNat [PyData.int x]).flatten = (List.replicate n x).map .int := by
  rw [Int.toNat_natCast]
  induction n with
  | zero => rfl
  | succ n ih => rw [List.replicate_succ, List.flatten_cons, ih]; rfl
section
variable {n : Nat} {t p : List Int} {b : Int} {P : PyData → Prop}
abbrev BV : Nat := 10 ^ 41
theorem spot_vd {B m k : Nat} (hv : Vd B m k (spotD t b)) : BdL B t ∧ b.natAbs ≤ B := by
  cases m with
  | zero => exact (vd_tup0 hv).elim
  | succ m =>
    obtain ⟨k1, k2, vt, vr, _⟩ := vdl_inv (vd_tup.mp hv)
    obtain ⟨k3, k4, vc, _, _⟩ := vdl_inv vr
    refine ⟨fun x hx => ?_, by have := vc.lf; simpa only [Kz.lf, decide_eq_true_eq] using this⟩
    cases m with
    | zero => exact (vd_tup0 vt).elim
    | succ m =>
      have := (vdl_mem (vd_tup.mp vt) (List.mem_map_of_mem (f := PyData.int) hx)).lf
      simpa only [Kz.lf, decide_eq_true_eq] using this
theorem vd_pair {B m k c : Nat} {d : PyData} {i : Int} (h : Vd B m k d) (hi : i.natAbs ≤ B) : Vd B (m + 1) (k + 1 + (0 + 1 + c)) (.tuple [d, .int i]) := vd_tup.mpr (vdl_cons h (vdl_cons (vd_int (b := 0) hi) (vdl_nil (b := c))))
theorem vd_spot {B : Nat} (bt : BdL B t) (hl : t.length ≤ 3) (bb : b.natAbs ≤ B) : Vd B 4 20 (spotD t b) := (vd_pair (c := 0) (vd_row (m := 0) (b := 3) bt hl) bb).mono
theorem w_lplain {M : Nat} (hl : t.length ≤ 1000000) (bt : BdL M t) (hb : 1 ≤ b) (bb : b.natAbs ≤ M) (hM : M ≤ 10 ^ 60) (hp : P (rowD (plainT t b))) : m_law_plain (spotD t b) P := by
  unfold m_law_plain
  simp only [letW, idx_t0, idx_t1]
  refine w_map (f := fun x => (2 * x + b).fdiv (2 * b)) seq_row hl (fun x hx K hK => plain_step (bt x hx) hb bb hM hK) ?_
  rw [tuple_l]
  exact hp
/-- the program's plain place, with its errors -/
theorem x_place {m k : Nat} {d : PyData} {X : Str → PyData → Prop} (hn : n ≤ 1000) (hv : Vd BV m k d) (h1 : ∀ t b, d = spotD t b → Spot n t b → P (rowD (plainT t b))) (h2 : isSpot n d = false → X "BadSpot" d) : x_plain_place (.int (n : Int)) d P X := by
  unfold x_plain_place x_need_spot
  simp only [letW]
  refine w_is_spot ?_
  rw [truth_b]
  cases hs : isSpot n d with
  | false => exact h2 hs
  | true =>
    obtain ⟨t, b, rfl, sp⟩ := isSpot_inv hs
    obtain ⟨bt, bb⟩ := spot_vd hv
    exact w_rounded (by rw [sp.l]; omega) bt sp.pos bb (by decide +kernel) (h1 t b rfl sp)
/-- a spot, or a pair that may be none -/
theorem w_lvalue (h1 : 1 ≤ n) (h3 : n ≤ 3) (hp : ∀ d, Vd B40 4 20 d → P d) : m_law_value (.int (n : Int)) P := by
  unfold m_law_value
  simp only [letW, letW2]
  refine w_ldrawn_spot h1 h3 fun t b sp bt bb => ?_
  have hl := sp.l
  have hpos := sp.pos
  have bt4 : BdL B40 t := AllLe.mono bt (by decide +kernel)
  have bb4 : b.natAbs ≤ B40 := Nat.le_trans bb (by decide +kernel)
  have vrow : Vd B40 1 3 (rowD t) := vd_row bt4 (by omega)
  have lit : ∀ {i : Int}, i.natAbs ≤ 100000000 → i.natAbs ≤ B40 := fun h => Nat.le_trans h (by decide +kernel)
  refine draw_i (by decide) (by decide) fun w w0 w1 => ?_
  rw [unpS2_t, lt_ii, bool_b]
  cases decide (w < 3) with
  | true => exact hp _ (vd_spot bt4 (by omega) bb4)
  | false =>
    rw [cW_f, eq_ii, bool_b]
    cases decide (w = 3) with
    | true =>
      rw [cW_t]
      refine draw_i (by decide) (by decide) fun k k0 k1 => ?_
      rw [add_ii]
      refine w_map (f := fun x => ((2 + k) * x).fdiv 10) seq_row (by omega) (fun x hx K hK => ?_) ?_
      · exact mul_i (sm_of 10 (by decide +kernel) (by omega)) (sm_of (10 ^ 6) (by decide +kernel) (bt x hx)) (fdiv_ii (by decide) (by decide +kernel) hK)
      rw [tuple_l]
      refine fdiv_ii (by decide) (by decide +kernel) ?_
      rw [add_ii]
      have q0 : 0 ≤ b.fdiv 10 := by rw [Int.fdiv_eq_ediv_of_nonneg _ (by decide)]; omega
      have q1 : b.fdiv 10 ≤ 10000 := by rw [Int.fdiv_eq_ediv_of_nonneg _ (by decide)]; omega
      refine mul_i (sm_of 10 (by decide +kernel) (by omega)) (sm_of 10001 (by decide +kernel) (by omega)) ⟨by simp, hp _ ?_⟩
      refine vd_spot (fun y hy => ?_) (by rw [List.length_map]; omega) (lit ?_)
      · obtain ⟨x, hx, rfl⟩ := List.mem_map.mp hy
        refine Nat.le_trans (fdiv_le (by decide)) ?_
        rw [Int.natAbs_mul]
        exact Nat.le_trans (Nat.mul_le_mul (show (2 + k).natAbs ≤ 10 by omega) (bt x hx)) (by decide +kernel)
      · rw [Int.natAbs_mul]
        exact Nat.le_trans (Nat.mul_le_mul (show (2 + k).natAbs ≤ 10 by omega) (show (b.fdiv 10 + 1).natAbs ≤ 10001 by omega)) (by decide)
    | false =>
      rw [cW_f, eq_ii, bool_b]
      cases decide (w = 4) with
      | true =>
        rw [cW_t, neg_i]
        refine mul_i (sm_of 2 (by decide +kernel) (by decide)) (sm_of 10000 (by decide +kernel) bb) ?_
        rw [add_ii, sub_ii]
        refine ⟨by simp, w_pick1 (by simp) (by simp) fun g hg => ⟨by simp, hp _ ?_⟩⟩
        simp only [List.mem_cons, List.not_mem_nil, or_false] at hg
        rcases hg with rfl | rfl | rfl | rfl | rfl <;> exact (vd_pair (c := 0) vrow (lit (by omega))).mono
      | false =>
        rw [cW_f, eq_ii, bool_b]
        cases decide (w = 5) with
        | true =>
          rw [cW_t]
          refine ⟨by simp, ?_⟩
          have vb : Vd B40 1 3 (.int b) := vd_int bb4
          have vapp : Vd B40 1 5 (.tuple (t.map .int ++ [.int 0])) := (vd_tup (m := 0)).mpr ((vdl_app (vdl_ints (m := 0) (b := 3) bt4 (by omega)) (vdl_cons (vd_int (b := 0) (by decide +kernel)) (vdl_nil (b := 0)))).mono (B' := B40) (m' := 0) (b' := 5))
          have vcut : Vd B40 1 3 (.tuple (cutD (t.map .int) (some 1) none)) := vd_tup.mpr (vdl_cut _ _ (vdl_ints (b := 3) bt4 (by omega)))
          rw [add_tt]
          refine ⟨by simp; omega, by simp, ?_⟩
          rw [part_i, cut_t]
          refine ⟨by simp, by simp, by simp, by simp, by simp, w_pick1 (by simp) (by simp) fun g hg => hp _ ?_⟩
          simp only [List.mem_cons, List.not_mem_nil, or_false] at hg
          rcases hg with rfl | rfl | rfl | rfl | rfl | rfl
          · exact (vd_tup.mpr (vdl_cons vapp (vdl_cons vb (vdl_nil (b := 0))))).mono
          · exact (vd_tup.mpr (vdl_cons vcut (vdl_cons vb (vdl_nil (b := 0))))).mono
          · exact (vd_tup.mpr (vdl_cons vb (vdl_cons vrow (vdl_nil (b := 0))))).mono
          · exact (vd_tup.mpr (vdl_cons vrow (vdl_nil (b := 0)))).mono
          · exact vrow.mono
          · exact (vd_tup.mpr (vdl_cons vrow (vdl_cons vb (vdl_cons (vd_int (B := B40) (b := 0) (i := 1) (by decide +kernel)) (vdl_nil (b := 0)))))).mono
        | false =>
          rw [cW_f, eq_ii, bool_b]
          cases decide (w = 6) with
          | true => exact w_ltruths 4 (by decide) ((vd_pair (c := 0) vrow bb4).mono (B' := B40) (m' := 3) (b' := 20)) (by decide) fun d hd => hp d hd.mono
          | false =>
            rw [cW_f]
            refine ⟨by simp, ⟨⟨by simp, by omega, by omega, by simp⟩, ?_⟩⟩
            refine draw_i (by decide) (by decide) fun k k0 k1 => ?_
            rw [add_ii]
            refine ⟨by simp, hp _ ?_⟩
            rw [rep_one]
            exact vd_spot (fun x hx => by rw [(List.mem_replicate.mp hx).2]; decide +kernel) (by simp; omega) (lit (by omega))
theorem w_lgreat {m k : Nat} {d : PyData} (h1 : 1 ≤ n) (h3 : n ≤ 3) (hv : Vd (10 ^ 50) m k d) (hk : k ≤ 100000) (hp : ∀ g : Bool, P (.bool g)) : m_law_is_great (.int (n : Int)) d P := by
  unfold m_law_is_great
  simp only [letW]
  refine w_lis_spot h1 (by omega) hv (by decide +kernel) (by omega) ?_
  rw [truth_b]
  cases hs : isSpot n d with
  | false => exact hp _
  | true =>
    obtain ⟨t, b, rfl, sp⟩ := isSpot_inv hs
    simp only [Bool.not_true, cW_f, idx_t0, idx_t1, gt_ii, truth_b]
    cases decide ((10000 : Int) < b) with
    | true => exact hp _
    | false =>
      rw [cW_f]
      refine w_maxabs (a := t) rfl (fun z => by have := sp.l; rw [z] at this; simp at this; omega) (by rw [sp.l]; omega) fun m hm => pow6 ?_
      rw [gt_ii]
      exact hp _
theorem same_repr {x : PyData} {Q : PyData → Prop} (hs : Shv x) (hq : Q (.bool false)) : reprW x fun r => reprW x fun s => neW r s Q := repr_d hs (repr_d hs (by rw [ne_same]; exact hq))
theorem w_lmoved {M : Nat} (h1 : 1 ≤ n) (h3 : n ≤ 3) (sp : Spot n t b) (bt : BdL BV t) (bb : b.natAbs ≤ BV) (hp : P (.bool true)) : m_law_is_moved_right (.int (n : Int)) (spotD t b) (rowD (plainT t b)) P := by
  unfold m_law_is_moved_right
  simp only [letW, idx_t0, idx_t1]
  have hl := sp.l
  have hb := sp.pos
  refine w_drawnR (B := 10) (by omega) (fun i hi K hK => ?_) fun p lp bp => ?_
  · refine draw_i (by decide) (by decide) fun w w0 w1 => ?_
    rw [sub_ii]
    exact hK _ (by omega)
  rw [tuple_l]
  refine w_zip (f := fun x y => x + b * y) seq_row seq_row (by omega) (fun x hx y hy K hK => ?_) ?_
  · refine mul_i (sm_of BV (by decide +kernel) bb) (sm_of 10 (by decide +kernel) (bp y hy)) ?_
    rw [add_ii]
    exact hK
  rw [zw_addT, tuple_l]
  have b10 : BdL (10 ^ 10) p := AllLe.mono bp (by decide)
  have vp : Shv (rowD p) := (vd_row (B := 10) (m := 0) (b := 3) bp (by omega)).shv (by decide) (by decide) (by decide)
  refine ⟨by simp, by simp, ?_⟩
  refine w_plain_place (t := p) (b := 1) (M := 10) (Spot.place lp) (by omega) bp (by decide) (by decide +kernel) ?_
  rw [plainT_one]
  refine same_repr vp ?_
  rw [bool_b, cW_f]
  have spm : Spot n (addT t p b) b := sp.shift lp
  have bm : BdL (BV + b.natAbs * 10) (addT t p b) := bdl_addT bt bp
  have hM : BV + b.natAbs * 10 ≤ 10 ^ 45 := Nat.le_trans (Nat.add_le_add_left (Nat.mul_le_mul_right 10 bb) BV) (by decide +kernel)
  have bm5 : BdL (10 ^ 45) (addT t p b) := AllLe.mono bm hM
  have bb5 : b.natAbs ≤ 10 ^ 45 := Nat.le_trans bb (by decide +kernel)
  refine w_lgreat h1 h3 ((vd_spot bm5 (by rw [spm.l]; omega) bb5).mono (B' := 10 ^ 50) (m' := 4) (b' := 20) (h1 := by decide +kernel)) (by decide) fun g => ?_
  rw [truth_b]
  cases g with
  | true => exact hp
  | false =>
    rw [cW_f]
    refine w_plain_place spm (by omega) bm5 bb5 (by decide +kernel) ?_
    have lpl : (plainT t b).length = p.length := by rw [List.length_map]; omega
    have hs : Shv (rowD (plainT (addT t p b) b)) := (vd_row (B := 10 ^ 45 + 1) (m := 0) (b := 3) (plainT_bd bm5 hb) (by rw [List.length_map, spm.l]; omega)).shv (by decide +kernel) (by decide) (by decide)
    refine repr_d hs ?_
    refine w_zip (f := fun x y => x + y) seq_row seq_row (by rw [List.length_map]; omega) (fun x hx y hy K hK => hK) ?_
    rw [zw_add, tuple_l, ← plainT_move (by omega) hb]
    refine repr_d hs ?_
    rw [eq_same]
    exact hp
end
theorem mul_l2 {d : PyData} {P : PyData → Prop} (hp : P (.list [d, d])) : mulW (.list [d]) (.int 2) P := ⟨⟨by decide, by decide, by simp⟩, hp⟩
theorem band_ii {i j : Int} {P : PyData → Prop} : bandW (.int i) (.int j) P = P (.int (Builtin.bitAnd i j)) := rfl
theorem shv_far {B : Nat} {c : Bool} {f : PyData} (hf : Vd B 9 1400 f) (hB : B < 2 ^ 190 := by decide +kernel) : Shv (.tuple [.bool c, .bool c, .list [f, f]]) :=
  (vd_tup.mpr (vdl_cons (vd_bool (m := 10) (b := 0) c) (vdl_cons (vd_bool (b := 0) c) (vdl_cons (vd_lst.mpr (vdl_cons hf (vdl_cons hf (vdl_nil (b := 0))))) (vdl_nil (b := 0)))))).shv hB (by decide) (by decide)
theorem told_bad {n m k : Nat} {d : PyData} {K' : PyData → Prop} (hn : n ≤ 1000) (hv : Vd BV m k d) (hs : isSpot n d = false) (hK : K' (.tuple [.str "spot", d, .bool true])) : m_law_told (fun P X => x_plain_place (.int (n : Int)) d P X) K' :=
  x_place hn hv (fun t b e sp => by rw [e, isSpot_ok sp] at hs; cases hs) fun _ => ⟨rfl, hK⟩
theorem told_good {n m k : Nat} {t : List Int} {b : Int} {K' : PyData → Prop} (hn : n ≤ 1000) (hv : Vd BV m k (spotD t b)) (sp : Spot n t b) (hK : K' (.tuple [.str "told", rowD (plainT t b)])) : m_law_told (fun P X => x_plain_place (.int (n : Int)) (spotD t b) P X) K' :=
  x_place hn hv (fun t' b' e _ => by
    injection e with e
    injection e with e1 e2
    injection e2 with e2 _
    injection e2 with e2
    rw [← row_inj e1, ← e2]
    exact hK) fun h => by rw [isSpot_ok sp] at h; cases h
theorem law_true : m_law (· = .bool true) := by
  unfold m_law
  simp only [forL, letW, letW2]
  refine rng1_nat (n := 14) (by decide) ?_
  refine for_inv (fun _ _ => True) trivial (fun i d s nx bk hd _ hnx _ => ?_) fun _ _ => trivial
  obtain ⟨j, hj, rfl⟩ : ∃ j : Nat, j < 14 ∧ d = .int (j : Int) := by
    rw [List.getElem?_map, Option.map_eq_some_iff] at hd
    obtain ⟨a, ha, rfl⟩ := hd
    exact ⟨a, List.mem_range.mp (List.mem_of_getElem? ha), rfl⟩
  refine draw_i (by decide) (by decide) fun q q0 q1 => ?_
  rw [add_ii]
  obtain ⟨n, en, h1, h3⟩ : ∃ n : Nat, 1 + q = (n : Int) ∧ 1 ≤ n ∧ n ≤ 3 := ⟨(1 + q).toNat, by omega, by omega, by omega⟩
  rw [en, band_ii]
  refine w_lvalue h1 h3 fun d0 hd0 => ?_
  refine join_by (fun d => Vd BV 8 1300 d) (fun d1 hv1 => ?_) fun k hk => ?_
  · refine join_by (fun d => Vd BV 8 1300 d) (fun d hv => ?_) fun k hk => ?_
    · have shd : Shv d := hv.shv (by decide +kernel) (by decide) (by decide)
      refine w_lis_spot h1 (by omega) hv (by decide +kernel) (by decide) (repr_d shd ?_)
      rw [eq_ii, bool_b]
      refine cW_same (w_is_spot ?_)
      cases hs : isSpot n d with
      | false =>
        have hf : Vd BV 9 1400 (.tuple [.str "spot", d, .bool true]) := (vd_tup.mpr (vdl_cons (vd_str (m := 8) (b := 4) (by decide +kernel) (by decide)) (vdl_cons hv (vdl_cons (vd_bool (b := 0) true) (vdl_nil (b := 0)))))).mono
        refine told_bad (by omega) hv hs ⟨by simp, told_bad (by omega) hv hs ⟨by simp, ?_⟩⟩
        rw [truth_b, cW_f]
        refine ⟨by simp, w_is_spot ?_⟩
        rw [hs]
        refine ⟨by simp, repr_d (shv_far hf) ⟨by simp, mul_l2 ⟨by simp, repr_d (shv_far hf) ?_⟩⟩⟩
        simp only [List.cons_append, List.nil_append]
        rw [ne_same, bool_b, cW_f]
        refine repr_d shd ?_
        rw [ne_same, bool_b, cW_f, truth_b, cW_f, cW_f]
        exact hnx _ trivial
      | true =>
        obtain ⟨t, b, rfl, sp⟩ := isSpot_inv hs
        obtain ⟨bt, bb⟩ := spot_vd hv
        have hl := sp.l
        have hf : Vd (10 ^ 42) 9 1400 (.tuple [.str "told", rowD (plainT t b)]) := (vd_tup.mpr (vdl_cons (vd_str (m := 1) (b := 4) (by decide +kernel) (by decide)) (vdl_cons (vd_row (B := 10 ^ 42) (m := 0) (b := 3) (AllLe.mono (plainT_bd bt sp.pos) (by decide +kernel)) (by rw [List.length_map]; omega)) (vdl_nil (b := 0))))).mono
        refine told_good (by omega) hv sp ⟨by simp, told_good (by omega) hv sp ⟨by simp, ?_⟩⟩
        rw [truth_b, cW_t]
        refine w_lplain (by omega) bt sp.pos bb (by decide +kernel) ⟨by simp, ?_⟩
        refine w_is_spot ?_
        rw [hs]
        refine ⟨by simp, repr_d (shv_far hf) ⟨by simp, mul_l2 ⟨by simp, repr_d (shv_far hf) ?_⟩⟩⟩
        simp only [List.cons_append, List.nil_append]
        rw [ne_same, bool_b, cW_f]
        refine repr_d shd ?_
        rw [ne_same, bool_b, cW_f, truth_b, cW_t, idx_t1]
        refine w_lmoved (M := 0) h1 h3 sp bt bb ?_
        rw [truth_b, Bool.not_true, cW_f]
        exact hnx _ trivial
    · refine w_lgreat h1 h3 (hv1.mono (B' := 10 ^ 50) (m' := 8) (b' := 1300) (h1 := by decide +kernel)) (by decide) fun g => ?_
      rw [truth_b]
      cases g with
      | false => exact hk _ hv1
      | true =>
        refine ⟨by simp, ⟨⟨by simp, by omega, by omega, by simp⟩, ⟨by simp, hk _ ?_⟩⟩⟩
        rw [rep_one]
        exact (vd_spot (t := List.replicate n 7) (B := BV) (fun x hx => by rw [(List.mem_replicate.mp hx).2]; decide +kernel) (by simp; omega) (by decide +kernel)).mono
  · rw [gt_ii, bool_b]
    cases decide ((6 : Int) < (j : Int)) with
    | false => exact hk _ (hd0.mono (B' := BV) (m' := 8) (b' := 1300) (h1 := by decide +kernel))
    | true => exact w_loftenS hd0 (by decide) (Nat.le_refl _) (by decide +kernel) (by decide) fun d hd => hk _ (hd.mono (B' := BV) (m' := 8) (b' := 1300) (h1 := by decide +kernel))
end Kz
set_option Elab.async false
set_option linter.all false
set_option maxRecDepth 100000
set_option maxHeartbeats 4000000
namespace Kz
open PySem PySem.Spec PyProof.Rows L2
theorem kb_is_spot_0 {K : PySem.W.Frag} {kV doc pm cdv ct : Value} {an : Option Addr} : KBinds K (PySem.W.fnOf "is_spot" "is_spot" (defArgs s_is_spot) (defBody s_is_spot) (defScope s_is_spot) .none kV doc pm an cdv ct) ["n", "thing"] ["thing", "n"] (perm .none 0 [1, 0]) (perm .non 0 [1, 0]) := kb_mk rfl (by decide) fun s us ws h1 h2 => match us, h1, ws, h2 with | [], _, [_, _], _ => .of_eq rfl
theorem kb_plain_place_0 {K : PySem.W.Frag} {kV doc pm cdv ct : Value} {an : Option Addr} : KBinds K (PySem.W.fnOf "plain_place" "plain_place" (defArgs s_plain_place) (defBody s_plain_place) (defScope s_plain_place) .none kV doc pm an cdv ct) ["n", "spot"] ["spot", "n"] (perm .none 0 [1, 0]) (perm .non 0 [1, 0]) := kb_mk rfl (by decide) fun s us ws h1 h2 => match us, h1, ws, h2 with | [], _, [_, _], _ => .of_eq rfl
theorem all_mk {l : PySem.W.OpenLaw} {w : World} {K : PySem.W.Frag} {h : Heap} {mg : Str → Option Value} {tc1 : Value} {td1 : Option Addr} {vs1 : Array Value} {ts1 : Array (Option Value)} {tc2 : Value} {td2 : Option Addr} {vs2 : Array Value} {ts2 : Array (Option Value)} {fa c2' P1 c3' P2 f1 f2 f3 f4 f5 f6 f7 f8 f9 f10 f11 f12 f13 f14 f15 f16 f17 f18 f19 f20 f21 f22 f23 f24 f25 f26 : Addr} (X : K.In h) (G : h.Ns mainGlobals mg) (hfa : mg "law" = some (.ref fa))
    {od1 an1 od2 an2 od3 an3 od4 an4 od5 an5 od6 an6 od7 an7 od8 an8 od9 an9 od10 an10 od11 an11 od12 an12 od13 an13 od14 an14 od15 an15 od16 an16 od17 an17 od18 an18 od19 an19 od20 an20 od21 an21 od22 an22 od23 an23 od24 an24 od25 an25 od26 an26 : Option Addr} {sl1 sl2 sl3 sl4 sl5 sl6 sl7 sl8 sl9 sl10 sl11 sl12 sl13 sl14 sl15 sl16 sl17 sl18 sl19 sl20 sl21 sl22 sl23 sl24 sl25 sl26 : Array (Option Value)} {oc1 kV1 dc1 pm1 ct1 cd1 oc2 kV2 dc2 pm2 ct2 cd2 oc3 kV3 dc3 pm3 ct3 cd3 oc4 kV4 dc4 pm4 ct4 oc5 kV5 dc5 pm5 ct5 cd5 oc6 kV6 dc6 pm6 ct6 cd6 oc7 kV7 dc7 pm7 ct7 cd7 oc8 kV8 dc8 pm8 ct8 cd8 oc9 kV9 dc9 pm9 ct9 cd9 oc10 kV10 dc10 pm10 ct10 cd10 oc11 kV11 dc11 pm11 ct11 cd11 oc12 kV12 dc12 pm12 ct12 cd12 oc13 kV13 dc13 pm13 ct13 cd13 oc14 kV14 dc14 pm14 ct14 cd14 oc15 kV15 dc15 pm15 ct15 cd15 oc16 kV16 dc16 pm16 ct16 cd16 oc17 kV17 dc17 pm17 ct17 cd17 oc18 kV18 dc18 pm18 ct18 cd18 oc19 kV19 dc19 pm19 ct19 cd19 oc20 kV20 dc20 pm20 ct20 cd20 oc21 kV21 dc21 pm21 ct21 cd21 oc22 kV22 dc22 pm22 ct22 cd22 oc23 kV23 dc23 pm23 ct23 cd23 oc24 kV24 dc24 pm24 ct24 cd24 oc25 kV25 dc25 pm25 ct25 cd25 oc26 kV26 dc26 pm26 ct26 : Value}
    (a1 : PySem.W.nsIn K mainGlobals "_law_deck" = some (some (.ref f1))) (l1 : K.lookup f1 = some ⟨oc1, od1, .func (PySem.W.fnOf "_law_deck" "_law_deck" (defArgs sDeck) (defBody sDeck) (defScope sDeck) .none kV1 dc1 pm1 an1 cd1 ct1), sl1⟩) (c1 : PySem.W.codeIn K cd1 "_law_deck" = true) (k1 : PySem.W.keepIn K (.ref f1) = true)
    (a2 : PySem.W.nsIn K mainGlobals "_law_draw" = some (some (.ref f2))) (l2 : K.lookup f2 = some ⟨oc2, od2, .func (PySem.W.fnOf "_law_draw" "_law_draw" (defArgs sDraw) (defBody sDraw) (defScope sDraw) .none kV2 dc2 pm2 an2 cd2 ct2), sl2⟩) (c2 : PySem.W.codeIn K cd2 "_law_draw" = true) (k2 : PySem.W.keepIn K (.ref f2) = true)
    (a3 : PySem.W.nsIn K mainGlobals "is_whole" = some (some (.ref f3))) (l3 : K.lookup f3 = some ⟨oc3, od3, .func (PySem.W.fnOf "is_whole" "is_whole" (defArgs s_is_whole) (defBody s_is_whole) (defScope s_is_whole) .none kV3 dc3 pm3 an3 cd3 ct3), sl3⟩) (c3 : PySem.W.codeIn K cd3 "is_whole" = true) (k3 : PySem.W.keepIn K (.ref f3) = true)
    (a4 : PySem.W.nsIn K mainGlobals "is_step" = some (some (.ref f4))) (l4 : K.lookup f4 = some ⟨oc4, od4, .func (PySem.W.fnOf "is_step" "is_step" (defArgs s_is_step) (defBody s_is_step) (defScope s_is_step) .none kV4 dc4 pm4 an4 (.ref c2') ct4), sl4⟩) (c4 : PySem.W.codeIn K (.ref c2') "is_step" = true) (k4 : PySem.W.keepIn K (.ref f4) = true)
    (a5 : PySem.W.nsIn K mainGlobals "common_divisor" = some (some (.ref f5))) (l5 : K.lookup f5 = some ⟨oc5, od5, .func (PySem.W.fnOf "common_divisor" "common_divisor" (defArgs s_common_divisor) (defBody s_common_divisor) (defScope s_common_divisor) .none kV5 dc5 pm5 an5 cd5 ct5), sl5⟩) (c5 : PySem.W.codeIn K cd5 "common_divisor" = true) (k5 : PySem.W.keepIn K (.ref f5) = true)
    (a6 : PySem.W.nsIn K mainGlobals "rounded" = some (some (.ref f6))) (l6 : K.lookup f6 = some ⟨oc6, od6, .func (PySem.W.fnOf "rounded" "rounded" (defArgs s_rounded) (defBody s_rounded) (defScope s_rounded) .none kV6 dc6 pm6 an6 cd6 ct6), sl6⟩) (c6 : PySem.W.codeIn K cd6 "rounded" = true) (k6 : PySem.W.keepIn K (.ref f6) = true)
    (a7 : PySem.W.nsIn K mainGlobals "is_spot" = some (some (.ref f7))) (l7 : K.lookup f7 = some ⟨oc7, od7, .func (PySem.W.fnOf "is_spot" "is_spot" (defArgs s_is_spot) (defBody s_is_spot) (defScope s_is_spot) .none kV7 dc7 pm7 an7 cd7 ct7), sl7⟩) (c7 : PySem.W.codeIn K cd7 "is_spot" = true) (k7 : PySem.W.keepIn K (.ref f7) = true)
    (a8 : PySem.W.nsIn K mainGlobals "need_spot" = some (some (.ref f8))) (l8 : K.lookup f8 = some ⟨oc8, od8, .func (PySem.W.fnOf "need_spot" "need_spot" (defArgs s_need_spot) (defBody s_need_spot) (defScope s_need_spot) .none kV8 dc8 pm8 an8 cd8 ct8), sl8⟩) (c8 : PySem.W.codeIn K cd8 "need_spot" = true) (k8 : PySem.W.keepIn K (.ref f8) = true)
    (a9 : PySem.W.nsIn K mainGlobals "plain_place" = some (some (.ref f9))) (l9 : K.lookup f9 = some ⟨oc9, od9, .func (PySem.W.fnOf "plain_place" "plain_place" (defArgs s_plain_place) (defBody s_plain_place) (defScope s_plain_place) .none kV9 dc9 pm9 an9 cd9 ct9), sl9⟩) (c9 : PySem.W.codeIn K cd9 "plain_place" = true) (k9 : PySem.W.keepIn K (.ref f9) = true)
    (a10 : PySem.W.nsIn K mainGlobals "_law_pick" = some (some (.ref f10))) (l10 : K.lookup f10 = some ⟨oc10, od10, .func (PySem.W.fnOf "_law_pick" "_law_pick" (defArgs s_law_pick) (defBody s_law_pick) (defScope s_law_pick) .none kV10 dc10 pm10 an10 cd10 ct10), sl10⟩) (c10 : PySem.W.codeIn K cd10 "_law_pick" = true) (k10 : PySem.W.keepIn K (.ref f10) = true)
    (a11 : PySem.W.nsIn K mainGlobals "_law_is_step" = some (some (.ref f11))) (l11 : K.lookup f11 = some ⟨oc11, od11, .func (PySem.W.fnOf "_law_is_step" "_law_is_step" (defArgs s_law_is_step) (defBody s_law_is_step) (defScope s_law_is_step) .none kV11 dc11 pm11 an11 cd11 ct11), sl11⟩) (c11 : PySem.W.codeIn K cd11 "_law_is_step" = true) (k11 : PySem.W.keepIn K (.ref f11) = true)
    (a12 : PySem.W.nsIn K mainGlobals "_law_common" = some (some (.ref f12))) (l12 : K.lookup f12 = some ⟨oc12, od12, .func (PySem.W.fnOf "_law_common" "_law_common" (defArgs s_law_common) (defBody s_law_common) (defScope s_law_common) .none kV12 dc12 pm12 an12 cd12 ct12), sl12⟩) (c12 : PySem.W.codeIn K cd12 "_law_common" = true) (k12 : PySem.W.keepIn K (.ref f12) = true)
    (a13 : PySem.W.nsIn K mainGlobals "_law_spot" = some (some (.ref f13))) (l13 : K.lookup f13 = some ⟨oc13, od13, .func (PySem.W.fnOf "_law_spot" "_law_spot" (defArgs s_law_spot) (defBody s_law_spot) (defScope s_law_spot) .none kV13 dc13 pm13 an13 cd13 ct13), sl13⟩) (c13 : PySem.W.codeIn K cd13 "_law_spot" = true) (k13 : PySem.W.keepIn K (.ref f13) = true)
    (a14 : PySem.W.nsIn K mainGlobals "_law_is_spot" = some (some (.ref f14))) (l14 : K.lookup f14 = some ⟨oc14, od14, .func (PySem.W.fnOf "_law_is_spot" "_law_is_spot" (defArgs s_law_is_spot) (defBody s_law_is_spot) (defScope s_law_is_spot) .none kV14 dc14 pm14 an14 cd14 ct14), sl14⟩) (c14 : PySem.W.codeIn K cd14 "_law_is_spot" = true) (k14 : PySem.W.keepIn K (.ref f14) = true)
    (a15 : PySem.W.nsIn K mainGlobals "_law_drawn_spot" = some (some (.ref f15))) (l15 : K.lookup f15 = some ⟨oc15, od15, .func (PySem.W.fnOf "_law_drawn_spot" "_law_drawn_spot" (defArgs s_law_drawn_spot) (defBody s_law_drawn_spot) (defScope s_law_drawn_spot) .none kV15 dc15 pm15 an15 cd15 ct15), sl15⟩) (c15 : PySem.W.codeIn K cd15 "_law_drawn_spot" = true) (k15 : PySem.W.keepIn K (.ref f15) = true)
    (a16 : PySem.W.nsIn K mainGlobals "_law_any" = some (some (.ref f16))) (l16 : K.lookup f16 = some ⟨oc16, od16, .func (PySem.W.fnOf "_law_any" "_law_any" (defArgs s_law_any) (defBody s_law_any) (defScope s_law_any) .none kV16 dc16 pm16 an16 cd16 ct16), sl16⟩) (c16 : PySem.W.codeIn K cd16 "_law_any" = true) (k16 : PySem.W.keepIn K (.ref f16) = true)
    (a17 : PySem.W.nsIn K mainGlobals "_law_changed_tuple" = some (some (.ref f17))) (l17 : K.lookup f17 = some ⟨oc17, od17, .func (PySem.W.fnOf "_law_changed_tuple" "_law_changed_tuple" (defArgs s_law_changed_tuple) (defBody s_law_changed_tuple) (defScope s_law_changed_tuple) .none kV17 dc17 pm17 an17 cd17 ct17), sl17⟩) (c17 : PySem.W.codeIn K cd17 "_law_changed_tuple" = true) (k17 : PySem.W.keepIn K (.ref f17) = true)
    (a18 : PySem.W.nsIn K mainGlobals "_law_bent" = some (some (.ref f18))) (l18 : K.lookup f18 = some ⟨oc18, od18, .func (PySem.W.fnOf "_law_bent" "_law_bent" (defArgs s_law_bent) (defBody s_law_bent) (defScope s_law_bent) .none kV18 dc18 pm18 an18 cd18 ct18), sl18⟩) (c18 : PySem.W.codeIn K cd18 "_law_bent" = true) (k18 : PySem.W.keepIn K (.ref f18) = true)
    (a19 : PySem.W.nsIn K mainGlobals "_law_often_bent" = some (some (.ref f19))) (l19 : K.lookup f19 = some ⟨oc19, od19, .func (PySem.W.fnOf "_law_often_bent" "_law_often_bent" (defArgs s_law_often_bent) (defBody s_law_often_bent) (defScope s_law_often_bent) .none kV19 dc19 pm19 an19 cd19 ct19), sl19⟩) (c19 : PySem.W.codeIn K cd19 "_law_often_bent" = true) (k19 : PySem.W.keepIn K (.ref f19) = true)
    (a20 : PySem.W.nsIn K mainGlobals "_law_truths" = some (some (.ref f20))) (l20 : K.lookup f20 = some ⟨oc20, od20, .func (PySem.W.fnOf "_law_truths" "_law_truths" (defArgs s_law_truths) (defBody s_law_truths) (defScope s_law_truths) .none kV20 dc20 pm20 an20 cd20 ct20), sl20⟩) (c20 : PySem.W.codeIn K cd20 "_law_truths" = true) (k20 : PySem.W.keepIn K (.ref f20) = true)
    (a21 : PySem.W.nsIn K mainGlobals "_law_told" = some (some (.ref f21))) (l21 : K.lookup f21 = some ⟨oc21, od21, .func (PySem.W.fnOf "_law_told" "_law_told" (defArgs s_law_told) (defBody s_law_told) (defScope s_law_told) .none kV21 dc21 pm21 an21 cd21 ct21), sl21⟩) (c21 : PySem.W.codeIn K cd21 "_law_told" = true) (k21 : PySem.W.keepIn K (.ref f21) = true)
    (a22 : PySem.W.nsIn K mainGlobals "_law_plain" = some (some (.ref f22))) (l22 : K.lookup f22 = some ⟨oc22, od22, .func (PySem.W.fnOf "_law_plain" "_law_plain" (defArgs s_law_plain) (defBody s_law_plain) (defScope s_law_plain) .none kV22 dc22 pm22 an22 cd22 ct22), sl22⟩) (c22 : PySem.W.codeIn K cd22 "_law_plain" = true) (k22 : PySem.W.keepIn K (.ref f22) = true)
    (a23 : PySem.W.nsIn K mainGlobals "_law_value" = some (some (.ref f23))) (l23 : K.lookup f23 = some ⟨oc23, od23, .func (PySem.W.fnOf "_law_value" "_law_value" (defArgs s_law_value) (defBody s_law_value) (defScope s_law_value) .none kV23 dc23 pm23 an23 cd23 ct23), sl23⟩) (c23 : PySem.W.codeIn K cd23 "_law_value" = true) (k23 : PySem.W.keepIn K (.ref f23) = true)
    (a24 : PySem.W.nsIn K mainGlobals "_law_is_great" = some (some (.ref f24))) (l24 : K.lookup f24 = some ⟨oc24, od24, .func (PySem.W.fnOf "_law_is_great" "_law_is_great" (defArgs s_law_is_great) (defBody s_law_is_great) (defScope s_law_is_great) .none kV24 dc24 pm24 an24 cd24 ct24), sl24⟩) (c24 : PySem.W.codeIn K cd24 "_law_is_great" = true) (k24 : PySem.W.keepIn K (.ref f24) = true)
    (a25 : PySem.W.nsIn K mainGlobals "_law_is_moved_right" = some (some (.ref f25))) (l25 : K.lookup f25 = some ⟨oc25, od25, .func (PySem.W.fnOf "_law_is_moved_right" "_law_is_moved_right" (defArgs s_law_is_moved_right) (defBody s_law_is_moved_right) (defScope s_law_is_moved_right) .none kV25 dc25 pm25 an25 cd25 ct25), sl25⟩) (c25 : PySem.W.codeIn K cd25 "_law_is_moved_right" = true) (k25 : PySem.W.keepIn K (.ref f25) = true)
    (a26 : PySem.W.nsIn K mainGlobals "law" = some (some (.ref f26))) (l26 : K.lookup f26 = some ⟨oc26, od26, .func (PySem.W.fnOf "law" "law" (defArgs s_law) (defBody s_law) (defScope s_law) .none kV26 dc26 pm26 an26 (.ref c3') ct26), sl26⟩) (c26 : PySem.W.codeIn K (.ref c3') "law" = true) (k26 : PySem.W.keepIn K (.ref f26) = true)
    (z1 : PySem.W.nsIn K mainGlobals "len" = some none)
    (z2 : PySem.W.nsIn K mainGlobals "all" = some none)
    (z3 : PySem.W.nsIn K mainGlobals "isinstance" = some none)
    (z4 : PySem.W.nsIn K mainGlobals "int" = some none)
    (z5 : PySem.W.nsIn K mainGlobals "bool" = some none)
    (z6 : PySem.W.nsIn K mainGlobals "tuple" = some none)
    (z7 : PySem.W.nsIn K mainGlobals "str" = some none)
    (z8 : PySem.W.nsIn K mainGlobals "range" = some none)
    (z9 : PySem.W.nsIn K mainGlobals "enumerate" = some none)
    (z10 : PySem.W.nsIn K mainGlobals "zip" = some none)
    (z11 : PySem.W.nsIn K mainGlobals "sum" = some none)
    (z12 : PySem.W.nsIn K mainGlobals "max" = some none)
    (z13 : PySem.W.nsIn K mainGlobals "min" = some none)
    (z14 : PySem.W.nsIn K mainGlobals "abs" = some none)
    (z15 : PySem.W.nsIn K mainGlobals "list" = some none)
    (z16 : PySem.W.nsIn K mainGlobals "repr" = some none)
    (z17 : PySem.W.nsIn K mainGlobals "any" = some none)
    (z18 : PySem.W.nsIn K mainGlobals "sorted" = some none)
    (z19 : PySem.W.nsIn K mainGlobals "set" = some none)
    (z20 : PySem.W.nsIn K mainGlobals "dict" = some none)
    (zg : PySem.W.nsIn K mainGlobals "gcd" = some (some (.builtin "math.gcd")))
    (t1 : K.lookup c2' = some ⟨tc1, td1, .fields vs1, ts1⟩) (v1 : vs1[11]? = some (.ref P1)) (u1 : K.lookup P1 = none)
    (t2 : K.lookup c3' = some ⟨tc2, td2, .fields vs2, ts2⟩) (v2 : vs2[11]? = some (.ref P2)) (u2 : K.lookup P2 = none)
    {C_BadSpot FI_BadSpot : Addr} {nm_BadSpot q_BadSpot : Str} {N_BadSpot : Addr} {bs_BadSpot : List Value} {sn_BadSpot : List Str} {sub_BadSpot : List Value} {ab_BadSpot : Bool} {col_BadSpot : Option Bool} {dd_BadSpot : Option Addr} {m0_BadSpot m1_BadSpot m2_BadSpot m3_BadSpot m5_BadSpot : Option Value} {iod_BadSpot ian_BadSpot : Option Addr} {isl_BadSpot : Array (Option Value)} {ioc_BadSpot ikV_BadSpot idc_BadSpot ipm_BadSpot icd_BadSpot ict_BadSpot : Value}
    {D_E : Addr}
    {O_BadForm O_BadStep O_BadFraction : Addr}
    (gD : PySem.W.nsIn K mainGlobals "StepError" = some (some (.ref D_E))) (iD : PySem.W.isClsIn K D_E = true) (tD : PySem.W.typeIn K (.ref D_E) = some (.type "type"))
    (hn : PySem.W.specialIn K (.builtin "object.__class__") "__get__" = some (some (.builtin "getset_descriptor.__get__"))) (ht : PySem.W.takesIn K (.builtin "object.__class__") = some true)
    (gO_BadForm : PySem.W.nsIn K mainGlobals "BadForm" = some (some (.ref O_BadForm))) (iO_BadForm : PySem.W.isClsIn K O_BadForm = true) (tO_BadForm : PySem.W.typeIn K (.ref O_BadForm) = some (.type "type"))
    (gO_BadStep : PySem.W.nsIn K mainGlobals "BadStep" = some (some (.ref O_BadStep))) (iO_BadStep : PySem.W.isClsIn K O_BadStep = true) (tO_BadStep : PySem.W.typeIn K (.ref O_BadStep) = some (.type "type"))
    (gO_BadFraction : PySem.W.nsIn K mainGlobals "BadFraction" = some (some (.ref O_BadFraction))) (iO_BadFraction : PySem.W.isClsIn K O_BadFraction = true) (tO_BadFraction : PySem.W.typeIn K (.ref O_BadFraction) = some (.type "type"))
    (gC_BadSpot : PySem.W.nsIn K mainGlobals "BadSpot" = some (some (.ref C_BadSpot))) (xC_BadSpot : K.lookup C_BadSpot = some (excClassObj nm_BadSpot q_BadSpot C_BadSpot N_BadSpot bs_BadSpot (.ref D_E :: PySem.ESX.exTail) true sn_BadSpot sub_BadSpot ab_BadSpot col_BadSpot dd_BadSpot m0_BadSpot m1_BadSpot m2_BadSpot m3_BadSpot m5_BadSpot "Exception.__new__"))
    (sa_BadSpot : PySem.W.findIn K (.ref C_BadSpot) "__setattr__" = some (some (.builtin "object.__setattr__"))) (ga_BadSpot : PySem.W.findIn K (.ref C_BadSpot) "__getattribute__" = some (some (.builtin "BaseException.__getattribute__"))) (gg_BadSpot : PySem.W.findIn K (.ref C_BadSpot) "__getattr__" = some none) (no_BadSpot : PySem.W.findIn K (.ref C_BadSpot) "thing" = some none)
    (iC_BadSpot : PySem.W.findIn K (.ref C_BadSpot) "__init__" = some (some (.ref FI_BadSpot))) (tI_BadSpot : PySem.W.typeIn K (.ref FI_BadSpot) = some (.type "function")) (lI_BadSpot : K.lookup FI_BadSpot = some ⟨ioc_BadSpot, iod_BadSpot, .func (PySem.W.fnOf "__init__" "BadSpot.__init__" (defArgs (clsFn (topS 5))) (defBody (clsFn (topS 5))) (defScope (clsFn (topS 5))) .none ikV_BadSpot idc_BadSpot ipm_BadSpot ian_BadSpot icd_BadSpot ict_BadSpot), isl_BadSpot⟩) (cI_BadSpot : PySem.W.codeIn K icd_BadSpot "BadSpot.__init__" = true) (kI_BadSpot : PySem.W.keepIn K (.ref FI_BadSpot) = true)
    (kC_BadSpot : PySem.W.keepIn K (.ref C_BadSpot) = true) (eC_BadSpot : PySem.W.subIn K (.ref C_BadSpot) (.type "BaseException") = some true) (tC_BadSpot : PySem.W.typeIn K (.ref C_BadSpot) = some (.type "type")) (hC_BadSpot : PySem.W.hasDictIn K C_BadSpot = true) (jC_BadSpot : PySem.W.isClsIn K C_BadSpot = true) (ha_BadSpot : PySem.W.findIn K (.ref C_BadSpot) "__class__" = some (some (.builtin "object.__class__"))) (hm_BadSpot : PySem.W.mroIn K C_BadSpot (.type "object") = some true) (sC_BadSpot : PySem.W.subIn K (.ref C_BadSpot) (.ref C_BadSpot) = some true) (sD_BadSpot : PySem.W.subIn K (.ref C_BadSpot) (.ref D_E) = some true) (nD_BadSpot : (C_BadSpot == D_E) = false)
    (sO_BadSpot_BadForm : PySem.W.subIn K (.ref C_BadSpot) (.ref O_BadForm) = some false) (nO_BadSpot_BadForm : (C_BadSpot == O_BadForm) = false)
    (sO_BadSpot_BadStep : PySem.W.subIn K (.ref C_BadSpot) (.ref O_BadStep) = some false) (nO_BadSpot_BadStep : (C_BadSpot == O_BadStep) = false)
    (sO_BadSpot_BadFraction : PySem.W.subIn K (.ref C_BadSpot) (.ref O_BadFraction) = some false) (nO_BadSpot_BadFraction : (C_BadSpot == O_BadFraction) = false)
    (dL_law : P2 ∉ ([P1] : List Addr))
    :
    ∃ (fd : FuncData) (cs : List (Addr × Addr)) (sp : Sp), (∀ p ∈ cs, ∃ y ∈ ([("is_step" : Str), ("law" : Str)] : List Str), PySem.W.tabIn K y = some p) ∧ (∀ p ∈ cs, K.lookup p.2 = none) ∧ (∀ (s : Shared) (u : Value), BindsTo s fd ⟨[u], []⟩ [("script", u)]) ∧
        (∀ (H : Hp) (a : Addr) (ns : List Int), ns.length ≤ 63 → (∀ z ∈ ns, Builtin.Int.intBits z ≤ 1048576) → (∀ p ∈ cs, H p.2 = some (.tbl #[])) → SqL K H a (ns.map V.int) → sp [.ref a] H (fun v _ => v = .bl true) E0) ∧
        ∀ base : Heap, K.In base → base.Ns mainGlobals mg → Hsb base → (∀ p ∈ cs, GxR.TabB base mg p.1 p.2) → FnG l.prog w K mg base 19 fa fd ["script"] sp := by
  have e := hfa.symm.trans (PySem.W.mg_of X G a26)
  cases e
  have B : Bn mg := ⟨PySem.W.mg_none_of X G z1, PySem.W.mg_none_of X G z2, PySem.W.mg_none_of X G z3, PySem.W.mg_none_of X G z4, PySem.W.mg_none_of X G z5, PySem.W.mg_none_of X G z6, PySem.W.mg_none_of X G z7, PySem.W.mg_none_of X G z8, PySem.W.mg_none_of X G z9, PySem.W.mg_none_of X G z10, PySem.W.mg_none_of X G z11, PySem.W.mg_none_of X G z12, PySem.W.mg_none_of X G z13, PySem.W.mg_none_of X G z14, PySem.W.mg_none_of X G z15, PySem.W.mg_none_of X G z16, PySem.W.mg_none_of X G z17, PySem.W.mg_none_of X G z18, PySem.W.mg_none_of X G z19, PySem.W.mg_none_of X G z20⟩
  have hgcd := PySem.W.mg_of X G zg
  have F1 := fun_mk (st := sDeck) l1 c1 k1
  have b1 := F1.binds (ps := ["script"]) fun _ _ _ _ _ _ us hl => match us, hl with | [_], _ => rfl
  have g1 := PySem.W.mg_of X G a1
  have F2 := fun_mk (st := sDraw) l2 c2 k2
  have b2 := F2.binds (ps := ["deck", "many"]) fun _ _ _ _ _ _ us hl => match us, hl with | [_, _], _ => rfl
  have g2 := PySem.W.mg_of X G a2
  have F3 := fun_mk (st := s_is_whole) l3 c3 k3
  have b3 := F3.binds (ps := ["thing"]) fun _ _ _ _ _ _ us hl => match us, hl with | [_], _ => rfl
  have g3 := PySem.W.mg_of X G a3
  have FC4 : FunC K "is_step" "is_step" s_is_step f4 _ c2' := ⟨⟨_, _, _, _, _, _, _, _, rfl, l4, c4⟩, k4⟩
  have F4 := FC4.fn
  have b4 := F4.binds (ps := ["n", "thing"]) fun _ _ _ _ _ _ us hl => match us, hl with | [_, _], _ => rfl
  have g4 := PySem.W.mg_of X G a4
  have F5 := fun_mk (st := s_common_divisor) l5 c5 k5
  have b5 := F5.binds (ps := ["tops", "bottom"]) fun _ _ _ _ _ _ us hl => match us, hl with | [_, _], _ => rfl
  have g5 := PySem.W.mg_of X G a5
  have F6 := fun_mk (st := s_rounded) l6 c6 k6
  have b6 := F6.binds (ps := ["spot"]) fun _ _ _ _ _ _ us hl => match us, hl with | [_], _ => rfl
  have g6 := PySem.W.mg_of X G a6
  have F7 := fun_mk (st := s_is_spot) l7 c7 k7
  have b7 := F7.binds (ps := ["n", "thing"]) fun _ _ _ _ _ _ us hl => match us, hl with | [_, _], _ => rfl
  have g7 := PySem.W.mg_of X G a7
  have F8 := fun_mk (st := s_need_spot) l8 c8 k8
  have b8 := F8.binds (ps := ["n", "thing"]) fun _ _ _ _ _ _ us hl => match us, hl with | [_, _], _ => rfl
  have g8 := PySem.W.mg_of X G a8
  have F9 := fun_mk (st := s_plain_place) l9 c9 k9
  have b9 := F9.binds (ps := ["n", "spot"]) fun _ _ _ _ _ _ us hl => match us, hl with | [_, _], _ => rfl
  have g9 := PySem.W.mg_of X G a9
  have F10 := fun_mk (st := s_law_pick) l10 c10 k10
  have b10 := F10.binds (ps := ["deck", "some"]) fun _ _ _ _ _ _ us hl => match us, hl with | [_, _], _ => rfl
  have g10 := PySem.W.mg_of X G a10
  have F11 := fun_mk (st := s_law_is_step) l11 c11 k11
  have b11 := F11.binds (ps := ["n", "thing"]) fun _ _ _ _ _ _ us hl => match us, hl with | [_, _], _ => rfl
  have g11 := PySem.W.mg_of X G a11
  have F12 := fun_mk (st := s_law_common) l12 c12 k12
  have b12 := F12.binds (ps := ["one", "other"]) fun _ _ _ _ _ _ us hl => match us, hl with | [_, _], _ => rfl
  have g12 := PySem.W.mg_of X G a12
  have F13 := fun_mk (st := s_law_spot) l13 c13 k13
  have b13 := F13.binds (ps := ["tops", "bottom"]) fun _ _ _ _ _ _ us hl => match us, hl with | [_, _], _ => rfl
  have g13 := PySem.W.mg_of X G a13
  have F14 := fun_mk (st := s_law_is_spot) l14 c14 k14
  have b14 := F14.binds (ps := ["n", "thing"]) fun _ _ _ _ _ _ us hl => match us, hl with | [_, _], _ => rfl
  have g14 := PySem.W.mg_of X G a14
  have F15 := fun_mk (st := s_law_drawn_spot) l15 c15 k15
  have b15 := F15.binds (ps := ["deck", "n"]) fun _ _ _ _ _ _ us hl => match us, hl with | [_, _], _ => rfl
  have g15 := PySem.W.mg_of X G a15
  have F16 := fun_mk (st := s_law_any) l16 c16 k16
  have b16 := F16.binds (ps := ["deck", "deep"]) fun _ _ _ _ _ _ us hl => match us, hl with | [_, _], _ => rfl
  have g16 := PySem.W.mg_of X G a16
  have F17 := fun_mk (st := s_law_changed_tuple) l17 c17 k17
  have b17 := F17.binds (ps := ["deck", "thing"]) fun _ _ _ _ _ _ us hl => match us, hl with | [_, _], _ => rfl
  have g17 := PySem.W.mg_of X G a17
  have F18 := fun_mk (st := s_law_bent) l18 c18 k18
  have b18 := F18.binds (ps := ["deck", "thing"]) fun _ _ _ _ _ _ us hl => match us, hl with | [_, _], _ => rfl
  have g18 := PySem.W.mg_of X G a18
  have F19 := fun_mk (st := s_law_often_bent) l19 c19 k19
  have b19 := F19.binds (ps := ["deck", "thing"]) fun _ _ _ _ _ _ us hl => match us, hl with | [_, _], _ => rfl
  have g19 := PySem.W.mg_of X G a19
  have F20 := fun_mk (st := s_law_truths) l20 c20 k20
  have b20 := F20.binds (ps := ["thing"]) fun _ _ _ _ _ _ us hl => match us, hl with | [_], _ => rfl
  have g20 := PySem.W.mg_of X G a20
  have F21 := fun_mk (st := s_law_told) l21 c21 k21
  have b21 := F21.binds (ps := ["call"]) fun _ _ _ _ _ _ us hl => match us, hl with | [_], _ => rfl
  have g21 := PySem.W.mg_of X G a21
  have F22 := fun_mk (st := s_law_plain) l22 c22 k22
  have b22 := F22.binds (ps := ["spot"]) fun _ _ _ _ _ _ us hl => match us, hl with | [_], _ => rfl
  have g22 := PySem.W.mg_of X G a22
  have F23 := fun_mk (st := s_law_value) l23 c23 k23
  have b23 := F23.binds (ps := ["deck", "n"]) fun _ _ _ _ _ _ us hl => match us, hl with | [_, _], _ => rfl
  have g23 := PySem.W.mg_of X G a23
  have F24 := fun_mk (st := s_law_is_great) l24 c24 k24
  have b24 := F24.binds (ps := ["n", "thing"]) fun _ _ _ _ _ _ us hl => match us, hl with | [_, _], _ => rfl
  have g24 := PySem.W.mg_of X G a24
  have F25 := fun_mk (st := s_law_is_moved_right) l25 c25 k25
  have b25 := F25.binds (ps := ["deck", "n", "spot", "due"]) fun _ _ _ _ _ _ us hl => match us, hl with | [_, _, _, _], _ => rfl
  have g25 := PySem.W.mg_of X G a25
  have FC26 : FunC K "law" "law" s_law fa _ c3' := ⟨⟨_, _, _, _, _, _, _, _, rfl, l26, c26⟩, k26⟩
  have F26 := FC26.fn
  have b26 := F26.binds (ps := ["script"]) fun _ _ _ _ _ _ us hl => match us, hl with | [_], _ => rfl
  have g26 := PySem.W.mg_of X G a26
  letI G0 : GT := gtL [P1] (fun P => "law.<locals>.<lambda>")
  refine ⟨PySem.W.fnOf "law" "law" (defArgs s_law) (defBody s_law) (defScope s_law) .none kV26 dc26 pm26 an26 (.ref c3') ct26, [(c2', P1), (c3', P2)], spLaw K [P1, P2], fun p hp => ?_, fun p hp => ?_, fun s v => .of_eq rfl, fun H a ns hl _ hT hS => ⟨a, ns, rfl, hS, hl, fun P hP => ?_, fun _ => rfl⟩, fun base _ _ hsb hTB => ?_⟩
  · rcases List.mem_cons.mp hp with e | hp
    · rw [e]; exact ⟨"is_step", by simp, tabIn_of a4 l4 rfl t1 v1⟩
    · rw [List.mem_singleton.mp hp]; exact ⟨"law", by simp, tabIn_of a26 l26 rfl t2 v2⟩
  · rcases List.mem_cons.mp hp with e | hp
    · rw [e]; exact u1
    · rw [List.mem_singleton.mp hp]; exact u2
  · rcases List.mem_cons.mp hP with e | hP
    · rw [e]; exact .inl ⟨show P1 ∈ _ by simp, #[], hT (c2', P1) (by simp), trivial⟩
    · rw [List.mem_singleton.mp hP]; exact .inr ⟨dL_law, LamX.TabS.nil (hT (c3', P2) (by simp))⟩
  let Cs : Str → Addr := fun x => C_BadSpot
  have hD := PySem.W.mg_of X G gD
  have eT_BadSpot : ErrC K C_BadSpot D_E := ⟨⟨_, _, _, _, _, _, _, _, _, _, _, _, _, _, xC_BadSpot⟩, sa_BadSpot, eC_BadSpot, tC_BadSpot, kC_BadSpot⟩
  have eX_BadSpot : ErrX K C_BadSpot := ⟨jC_BadSpot, ga_BadSpot, gg_BadSpot, eC_BadSpot, hC_BadSpot, ha_BadSpot, hn, ht, hm_BadSpot⟩
  have hC_g_BadSpot := PySem.W.mg_of X G gC_BadSpot
  have FI_f_BadSpot := fun_mk (st := (clsFn (topS 5))) lI_BadSpot cI_BadSpot kI_BadSpot
  have FI_b_BadSpot := FI_f_BadSpot.binds (ps := ["self", "thing"]) fun _ _ _ _ _ _ us hl => match us, hl with | [_, _], _ => rfl
  have ZE_BadSpot : ∀ base : Heap, ErrI l.prog w K mg base "thing" C_BadSpot D_E := fun base => ⟨eT_BadSpot, no_BadSpot, FI_BadSpot, _, "self", "thing", iC_BadSpot, tI_BadSpot, ok_init FI_f_BadSpot ⟨rfl, rfl, rfl, by decide +kernel, rfl, by decide +kernel, by decide +kernel⟩ rfl (.inl rfl) (.inl rfl) (fun _ => rfl), FI_b_BadSpot⟩
  have hO_BadForm := PySem.W.mg_of X G gO_BadForm
  have hO_BadStep := PySem.W.mg_of X G gO_BadStep
  have hO_BadFraction := PySem.W.mg_of X G gO_BadFraction
  let C_law_deck : Cl l.prog w K mg base "_law_deck" ["script"] 1 (spDeck "draws" K) := ⟨f1, _, ok_mkDeck B F1, g1, k1, b1⟩
  let C_law_draw : Cl l.prog w K mg base "_law_draw" ["deck", "many"] 1 (deckM "draws" [P1, P2] 1 (ap1 drawW)) := ⟨f2, _, ok_draw B F2, g2, k2, b2⟩
  let C_is_whole : Cl l.prog w K mg base "is_whole" ["thing"] 1 (pureM [P1, P2] 1 (ap1 m_is_whole)) := ⟨f3, _, ok_is_whole B F3 , g3, k3, b3⟩
  let C_is_step : Cl l.prog w K mg base "is_step" ["n", "thing"] 3 (pureM [P1, P2] 2 (ap2 m_is_step)) := ⟨f4, _, ok_is_step B (P0 := P1) ⟨by simp, show P1 ∈ _ by simp⟩ (hTB (c2', P1) (by simp)) FC4 C_is_whole, g4, k4, b4⟩
  let C_common_divisor : Cl l.prog w K mg base "common_divisor" ["tops", "bottom"] 1 (pureM [P1, P2] 2 (ap2 m_common_divisor)) := ⟨f5, _, ok_common_divisor B hgcd F5 , g5, k5, b5⟩
  let C_rounded : Cl l.prog w K mg base "rounded" ["spot"] 1 (pureM [P1, P2] 1 (ap1 m_rounded)) := ⟨f6, _, ok_rounded B F6 , g6, k6, b6⟩
  let C_is_spot : Cl l.prog w K mg base "is_spot" ["n", "thing"] 4 (pureM [P1, P2] 2 (ap2 m_is_spot)) := ⟨f7, _, ok_is_spot B F7 C_common_divisor C_is_step C_is_whole, g7, k7, b7⟩
  let C_need_spot : Cl l.prog w K mg base "need_spot" ["n", "thing"] 5 (pureM [P1, P2] 2 (ap2 m_need_spot)) := ⟨f8, _, ok_need_spot B F8 C_is_spot, g8, k8, b8⟩
  let X_need_spot : ClX l.prog w K mg base "need_spot" ["n", "thing"] 5 (pureX Cs [P1, P2] 2 (ax2 x_need_spot)) := ⟨f8, _, okx_need_spot B (ZE_BadSpot base) hC_g_BadSpot C_is_spot F8, g8, k8, b8⟩
  let C_plain_place : Cl l.prog w K mg base "plain_place" ["n", "spot"] 6 (pureM [P1, P2] 2 (ap2 m_plain_place)) := ⟨f9, _, ok_plain_place B F9 C_need_spot C_rounded, g9, k9, b9⟩
  let X_plain_place : ClX l.prog w K mg base "plain_place" ["n", "spot"] 6 (pureX Cs [P1, P2] 2 (ax2 x_plain_place)) := ⟨f9, _, okx_plain_place B C_rounded X_need_spot F9, g9, k9, b9⟩
  let C_law_pick : Cl l.prog w K mg base "_law_pick" ["deck", "some"] 2 (deckM "draws" [P1, P2] 1 (ap1 m_law_pick)) := ⟨f10, _, ok_law_pick B F10 C_law_draw, g10, k10, b10⟩
  let C_law_is_step : Cl l.prog w K mg base "_law_is_step" ["n", "thing"] 1 (pureM [P1, P2] 2 (ap2 m_law_is_step)) := ⟨f11, _, ok_law_is_step B F11 , g11, k11, b11⟩
  let C_law_common : Cl l.prog w K mg base "_law_common" ["one", "other"] 1 (pureM [P1, P2] 2 (ap2 m_law_common)) := ⟨f12, _, ok_law_common B F12 , g12, k12, b12⟩
  let C_law_spot : Cl l.prog w K mg base "_law_spot" ["tops", "bottom"] 2 (pureM [P1, P2] 2 (ap2 m_law_spot)) := ⟨f13, _, ok_law_spot B F13 C_law_common, g13, k13, b13⟩
  let C_law_is_spot : Cl l.prog w K mg base "_law_is_spot" ["n", "thing"] 3 (pureM [P1, P2] 2 (ap2 m_law_is_spot)) := ⟨f14, _, ok_law_is_spot B F14 C_law_spot C_law_is_step, g14, k14, b14⟩
  let C_law_drawn_spot : Cl l.prog w K mg base "_law_drawn_spot" ["deck", "n"] 3 (deckM "draws" [P1, P2] 1 (ap1 m_law_drawn_spot)) := ⟨f15, _, ok_law_drawn_spot B F15 C_law_pick C_law_spot C_law_draw, g15, k15, b15⟩
  let C_law_any : Cl l.prog w K mg base "_law_any" ["deck", "deep"] 7 (deckM "draws" [P1, P2] 1 (ap1 (m_law_any 4))) := ⟨f16, _, ok_law_any B ⟨_, _, F16, g16, b16⟩ C_law_draw C_law_pick 4, g16, k16, b16⟩
  let C_law_changed_tuple : Cl l.prog w K mg base "_law_changed_tuple" ["deck", "thing"] 8 (deckM "draws" [P1, P2] 1 (ap1 m_law_changed_tuple)) := ⟨f17, _, ok_law_changed_tuple B F17 C_law_draw C_law_any, g17, k17, b17⟩
  let C_law_bent : Cl l.prog w K mg base "_law_bent" ["deck", "thing"] 17 (deckM "draws" [P1, P2] 1 (ap1 (m_law_bent 8))) := ⟨f18, _, ok_law_bent B ⟨_, _, F18, g18, b18⟩ C_law_draw C_law_any C_law_pick C_law_changed_tuple 8, g18, k18, b18⟩
  let C_law_often_bent : Cl l.prog w K mg base "_law_often_bent" ["deck", "thing"] 18 (deckM "draws" [P1, P2] 1 (ap1 m_law_often_bent)) := ⟨f19, _, ok_law_often_bent B F19 C_law_draw C_law_any C_law_pick C_law_bent, g19, k19, b19⟩
  let C_law_truths : Cl l.prog w K mg base "_law_truths" ["thing"] 5 (pureM [P1, P2] 1 (ap1 (m_law_truths 4))) := ⟨f20, _, ok_law_truths B ⟨_, _, F20, g20, b20⟩  4, g20, k20, b20⟩
  let T_law_told : ClT l.prog w K mg base "_law_told" "call" Cs m_law_told := { TT := TTold C_BadSpot, hm := g21, hk := k21, lk := l21, hcg := c21, hb := b21, Sg := ⟨rfl, rfl, rfl, by decide +kernel, rfl, by decide +kernel, by decide +kernel⟩, hN := rfl, hv := .inl rfl, G := told_G B rfl hC_g_BadSpot hD hO_BadForm hO_BadStep hO_BadFraction eX_BadSpot no_BadSpot (exm_own eC_BadSpot hC_BadSpot tC_BadSpot sC_BadSpot) (kit_own nD_BadSpot iD tD sD_BadSpot) (kitAny_cons (kit_own nO_BadSpot_BadForm iO_BadForm tO_BadForm sO_BadSpot_BadForm) (fun _ => kitAny_cons (kit_own nO_BadSpot_BadStep iO_BadStep tO_BadStep sO_BadSpot_BadStep) (fun _ => kitAny_cons (kit_own nO_BadSpot_BadFraction iO_BadFraction tO_BadFraction sO_BadSpot_BadFraction) (fun _ => kitAny_nil) (fun z => by cases z)) (fun z => by cases z)) (fun z => by cases z)), T := told_T rfl, d1 := by decide, d2 := by decide, d3 := by decide }
  let C_law_plain : Cl l.prog w K mg base "_law_plain" ["spot"] 1 (pureM [P1, P2] 1 (ap1 m_law_plain)) := ⟨f22, _, ok_law_plain B F22 , g22, k22, b22⟩
  let C_law_value : Cl l.prog w K mg base "_law_value" ["deck", "n"] 6 (deckM "draws" [P1, P2] 1 (ap1 m_law_value)) := ⟨f23, _, ok_law_value B F23 C_law_drawn_spot C_law_draw C_law_pick C_law_truths, g23, k23, b23⟩
  let C_law_is_great : Cl l.prog w K mg base "_law_is_great" ["n", "thing"] 4 (pureM [P1, P2] 2 (ap2 m_law_is_great)) := ⟨f24, _, ok_law_is_great B F24 C_law_is_spot, g24, k24, b24⟩
  let C_law_is_moved_right : ClG l.prog w K mg base "_law_is_moved_right" ["deck", "n", "spot", "due"] 7 (deckM "draws" [P1, P2] 3 (ap3 m_law_is_moved_right)) := ⟨f25, _, ok_law_is_moved_right B hsb F25 C_law_is_great C_plain_place C_law_draw, g25, k25, b25⟩
  exact ok_law B hsb (PL := P2) ⟨by simp, dL_law, rfl⟩ (hTB (c3', P2) (by simp)) FC26 C_law_deck C_law_value C_law_is_great C_law_often_bent C_law_is_spot C_is_spot C_law_draw C_law_plain C_law_is_moved_right T_law_told X_plain_place kb_is_spot_0 kb_plain_place_0 (law_true)
end Kz
open PySem PySem.W PyProof.Rows
set_option Elab.async false
def Kz.modsK (P : Params) : List DictEntry := [⟨PyData.keyHash P (Str.ofString "builtins"), .str (Str.ofString "builtins") 162, .ref 4⟩, ⟨PyData.keyHash P (Str.ofString "__main__"), .str (Str.ofString "__main__") 163, .ref 5⟩, ⟨PyData.keyHash P (Str.ofString "math"), .str (Str.ofString "math") 284, .ref 13⟩]
local macro_rules | `(tactic| o_head (kHook $k $a $_e)) => `(tactic| o_head (Kz.kHook1 (fun P => ((1 : Nat), Kz.modsO Kz.modsK P) :: $k P) ((1 : Nat) :: $a) (fun _ => by kernel_rfl)))
local macro_rules | `(tactic| o_head (kmHook $k $a $_e $_t)) => `(tactic| o_head (Kz.kHook1 (fun P => ((1 : Nat), Kz.modsO Kz.modsK P) :: $k P) ((1 : Nat) :: $a) (fun _ => by kernel_rfl)))
set_option maxRecDepth 100000 in
set_option maxHeartbeats 0 in
theorem PySem.Challenge.cw_nearsteps_k13_spots_and_plain_places_amo_holds : PySem.Challenge.rw_nearsteps_k13_spots_and_plain_places_amo.Holds := by
  w_on; o_law; k_head; (case hw => w_witness2)
  k_fill
  refine Kz.walk_I (l := PySem.Challenge.rw_nearsteps_k13_spots_and_plain_places_amo) (n := 63) (k := 19) (x := "script") ["is_step", "law"] (fun w h Y => ⟨_, _, _, (Kz.in_tail (by kernel_rfl) (PySem.W.kIn_of Y)).2, rfl⟩) rfl (by decide) rfl ⟨rfl, by decide, by decide⟩ (fun w h Y => (Kz.in_tail (by kernel_rfl) (PySem.W.kIn_of Y)).1) (fun y hy => ?HT) ?F
  case HT =>
    rcases List.mem_cons.mp hy with e | hy
    · rw [e]; exact ⟨_, by rfl⟩
    · rw [List.mem_singleton.mp hy]; exact ⟨_, by rfl⟩
  case F =>
    intro w mg fa h KX G hmg
    refine' Kz.all_mk KX G hmg ?a1 ?l1 ?c1 ?k1 ?a2 ?l2 ?c2 ?k2 ?a3 ?l3 ?c3 ?k3 ?a4 ?l4 ?c4 ?k4 ?a5 ?l5 ?c5 ?k5 ?a6 ?l6 ?c6 ?k6 ?a7 ?l7 ?c7 ?k7 ?a8 ?l8 ?c8 ?k8 ?a9 ?l9 ?c9 ?k9 ?a10 ?l10 ?c10 ?k10 ?a11 ?l11 ?c11 ?k11 ?a12 ?l12 ?c12 ?k12 ?a13 ?l13 ?c13 ?k13 ?a14 ?l14 ?c14 ?k14 ?a15 ?l15 ?c15 ?k15 ?a16 ?l16 ?c16 ?k16 ?a17 ?l17 ?c17 ?k17 ?a18 ?l18 ?c18 ?k18 ?a19 ?l19 ?c19 ?k19 ?a20 ?l20 ?c20 ?k20 ?a21 ?l21 ?c21 ?k21 ?a22 ?l22 ?c22 ?k22 ?a23 ?l23 ?c23 ?k23 ?a24 ?l24 ?c24 ?k24 ?a25 ?l25 ?c25 ?k25 ?a26 ?l26 ?c26 ?k26 ?z1 ?z2 ?z3 ?z4 ?z5 ?z6 ?z7 ?z8 ?z9 ?z10 ?z11 ?z12 ?z13 ?z14 ?z15 ?z16 ?z17 ?z18 ?z19 ?z20 ?zg ?t1 ?v1 ?u1 ?t2 ?v2 ?u2 ?gD ?iD ?tD ?hn ?ht ?gO_BadForm ?iO_BadForm ?tO_BadForm ?gO_BadStep ?iO_BadStep ?tO_BadStep ?gO_BadFraction ?iO_BadFraction ?tO_BadFraction ?gC_BadSpot ?xC_BadSpot ?sa_BadSpot ?ga_BadSpot ?gg_BadSpot ?no_BadSpot ?iC_BadSpot ?tI_BadSpot ?lI_BadSpot ?cI_BadSpot ?kI_BadSpot ?kC_BadSpot ?eC_BadSpot ?tC_BadSpot ?hC_BadSpot ?jC_BadSpot ?ha_BadSpot ?hm_BadSpot ?sC_BadSpot ?sD_BadSpot ?nD_BadSpot ?sO_BadSpot_BadForm ?nO_BadSpot_BadForm ?sO_BadSpot_BadStep ?nO_BadSpot_BadStep ?sO_BadSpot_BadFraction ?nO_BadSpot_BadFraction ?dL_law
    (case a1 => k_is)
    (case l1 => k_is)
    (case c1 => k_is)
    (case k1 => k_is)
    (case a2 => k_is)
    (case l2 => k_is)
    (case c2 => k_is)
    (case k2 => k_is)
    (case a3 => k_is)
    (case l3 => k_is)
    (case c3 => k_is)
    (case k3 => k_is)
    (case a4 => k_is)
    (case l4 => k_is)
    (case c4 => k_is)
    (case k4 => k_is)
    (case a5 => k_is)
    (case l5 => k_is)
    (case c5 => k_is)
    (case k5 => k_is)
    (case a6 => k_is)
    (case l6 => k_is)
    (case c6 => k_is)
    (case k6 => k_is)
    (case a7 => k_is)
    (case l7 => k_is)
    (case c7 => k_is)
    (case k7 => k_is)
    (case a8 => k_is)
    (case l8 => k_is)
    (case c8 => k_is)
    (case k8 => k_is)
    (case a9 => k_is)
    (case l9 => k_is)
    (case c9 => k_is)
    (case k9 => k_is)
    (case a10 => k_is)
    (case l10 => k_is)
    (case c10 => k_is)
    (case k10 => k_is)
    (case a11 => k_is)
    (case l11 => k_is)
    (case c11 => k_is)
    (case k11 => k_is)
    (case a12 => k_is)
    (case l12 => k_is)
    (case c12 => k_is)
    (case k12 => k_is)
    (case a13 => k_is)
    (case l13 => k_is)
    (case c13 => k_is)
    (case k13 => k_is)
    (case a14 => k_is)
    (case l14 => k_is)
    (case c14 => k_is)
    (case k14 => k_is)
    (case a15 => k_is)
    (case l15 => k_is)
    (case c15 => k_is)
    (case k15 => k_is)
    (case a16 => k_is)
    (case l16 => k_is)
    (case c16 => k_is)
    (case k16 => k_is)
    (case a17 => k_is)
    (case l17 => k_is)
    (case c17 => k_is)
    (case k17 => k_is)
    (case a18 => k_is)
    (case l18 => k_is)
    (case c18 => k_is)
    (case k18 => k_is)
    (case a19 => k_is)
    (case l19 => k_is)
    (case c19 => k_is)
    (case k19 => k_is)
    (case a20 => k_is)
    (case l20 => k_is)
    (case c20 => k_is)
    (case k20 => k_is)
    (case a21 => k_is)
    (case l21 => k_is)
    (case c21 => k_is)
    (case k21 => k_is)
    (case a22 => k_is)
    (case l22 => k_is)
    (case c22 => k_is)
    (case k22 => k_is)
    (case a23 => k_is)
    (case l23 => k_is)
    (case c23 => k_is)
    (case k23 => k_is)
    (case a24 => k_is)
    (case l24 => k_is)
    (case c24 => k_is)
    (case k24 => k_is)
    (case a25 => k_is)
    (case l25 => k_is)
    (case c25 => k_is)
    (case k25 => k_is)
    (case a26 => k_is)
    (case l26 => k_is)
    (case c26 => k_is)
    (case k26 => k_is)
    (case z1 => k_is)
    (case z2 => k_is)
    (case z3 => k_is)
    (case z4 => k_is)
    (case z5 => k_is)
    (case z6 => k_is)
    (case z7 => k_is)
    (case z8 => k_is)
    (case z9 => k_is)
    (case z10 => k_is)
    (case z11 => k_is)
    (case z12 => k_is)
    (case z13 => k_is)
    (case z14 => k_is)
    (case z15 => k_is)
    (case z16 => k_is)
    (case z17 => k_is)
    (case z18 => k_is)
    (case z19 => k_is)
    (case z20 => k_is)
    (case zg => k_is)
    (case t1 => k_is)
    (case v1 => rfl)
    (case u1 => first | rfl | kernel_rfl)
    (case t2 => k_is)
    (case v2 => rfl)
    (case u2 => first | rfl | kernel_rfl)
    (case gD => k_is)
    (case iD => k_is)
    (case tD => k_is)
    (case hn => k_is)
    (case ht => k_is)
    (case gO_BadForm => k_is)
    (case iO_BadForm => k_is)
    (case tO_BadForm => k_is)
    (case gO_BadStep => k_is)
    (case iO_BadStep => k_is)
    (case tO_BadStep => k_is)
    (case gO_BadFraction => k_is)
    (case iO_BadFraction => k_is)
    (case tO_BadFraction => k_is)
    (case gC_BadSpot => k_is)
    (case xC_BadSpot => k_is)
    (case sa_BadSpot => k_is)
    (case ga_BadSpot => k_is)
    (case gg_BadSpot => k_is)
    (case no_BadSpot => k_is)
    (case iC_BadSpot => k_is)
    (case tI_BadSpot => k_is)
    (case lI_BadSpot => k_is)
    (case cI_BadSpot => k_is)
    (case kI_BadSpot => k_is)
    (case kC_BadSpot => k_is)
    (case eC_BadSpot => k_is)
    (case tC_BadSpot => k_is)
    (case hC_BadSpot => k_is)
    (case jC_BadSpot => k_is)
    (case ha_BadSpot => k_is)
    (case hm_BadSpot => k_is)
    (case sC_BadSpot => first | rfl | k_is)
    (case sD_BadSpot => first | rfl | k_is)
    (case nD_BadSpot => decide)
    (case sO_BadSpot_BadForm => first | rfl | k_is)
    (case nO_BadSpot_BadForm => decide)
    (case sO_BadSpot_BadStep => first | rfl | k_is)
    (case nO_BadSpot_BadStep => decide)
    (case sO_BadSpot_BadFraction => first | rfl | k_is)
    (case nO_BadSpot_BadFraction => decide)
    (case dL_law => decide)
