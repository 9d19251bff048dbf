import PyProof.Rows.All
import Wide.All
import OpenK.AllK
import Wide.FinOn
import HandS.ForMost
import HandS.GenOver
import HandS.AnyAll
import PyProof.GenQ
import PyProof.CodeObjX
import KE.KNest
import HandS.IsInst
import HandS.Zip
import HandS.TupAny
import HandS.TupMul
import HandS.Walk
import HandS.EndTab
import PyProof.ReprRoads
import PyProof.ReprLen
import PyProof.CallFns
import KE.GoesMore
import KE.GoesEnum
import PyProof.EnumMake
import HandS.Sort
import HandS.Wide
import KE.BitLaws
import KE.KEqSeq
import KE.GoesZip
import HandS.Gcd
import PyProof.NeKinds
import PyProof.NoPylong
import KE.KStrOpen
import HandS.Style
import KE.KRevSl
import PyProof.Rows.IntBool
import HandS.Text
import PyProof.Rows.ReprOcc
import HandS.TupLe
import PySem.Challenge.RW_nearsteps_k03_whole_changes_led_steps_an
set_option Elab.async false
set_option linter.all false
set_option maxRecDepth 100000
set_option maxHeartbeats 4000000
/-! all and any of a generator expression over whatever a for may walk; its element may call defs that hold such expressions themselves. -/
namespace Gz
open PySem PySem.Spec PyProof.Rows L2 GxR GenW
open Sem (wp)

/-- the environment of the expression's own frame -/
abbrev gEnv (env : Env) (scope : Scope) (C : Addr) (code : Value) : Env :=
  genEnv scope (cloFrom env.cells scope.names []) C code builtinsNs env
/-- the context of that frame; pn: the generator's own object -/
abbrev gCx (X : Cx) (s : Shared) (H : Hp) (e : Env) (fp : List Addr) (pn : List (Addr × Obj)) (A : Around) : Cx :=
  { X with A := A, s_0 := s, H_0 := H, env := e, outer := X.stack, stack := e :: X.stack, ex := fp,
           fn := fun _ => false, pn := pn, xe := fun _ _ => False }

/-- what is wanted of a generator expression's scope -/
structure GScope (N : List Str) (sc scope : Scope) (own : List (Str × Nat)) : Prop where
  blk : BlkOk N sc scope own
  co : scope.isCoroutine = false
  cell : ∀ y ∈ scope.names, y.2 ≠ .cell
  dot : scope.names.lookup (".0" : Str) = some NameKind.local

section
variable {X : Cx} {pins : List (Addr × Obj)} {σ : L2.St} {H H2 : Hp} {s : Shared}

/-- the frame's first state -/
theorem gen_start {scope : Scope} {own : List (Str × Nat)} {fp : List Addr} {code : Value} {h5 : Heap} {gens5 : Array GenState} {tk5 : Nat} {A' : Around} {m5 : Str → Option Value} {C a : Addr} {ob : Obj}
    (I : Inv X pins σ H s) (I2 : Inv X pins σ H2 { s with heap := h5, gens := gens5, toks := tk5 }) (ok : GScope X.N X.env.scope scope own) (hN : X.N.Nodup)
    (hfp : ∀ b ∈ fp, FpOk X pins H b ∧ b < s.heap.objs.size) (un : Un (frs X.stack) fp H H2 s.heap h5)
    (hA : A'.handled = none) (hF : A'.frames = some (gEnv X.env scope C code :: X.stack))
    (hC : s.heap.objs.size ≤ C) (hns : h5.Ns C m5) (hCn : H2 C = none)
    (ha : h5.get? a = some ob) (hac : C ≠ a) (hal : s.heap.objs.size ≤ a) (han : H2 a = none) (hob : ∀ v, ob.data ≠ .cell v) :
    Inv (gCx X s H (gEnv X.env scope C code) fp [(a, ob)] A') [] (wipe σ (own.map (·.2))) H2
      { s with heap := h5, gens := gens5, toks := tk5 } := by
  have hfree : ∀ y ∈ scope.names, y.2 = .free → ∃ c, X.env.cells.lookup y.1 = some c := fun y hy e => by
    rcases ok.blk.free y hy e with k | k
    · exact I.ok.has _ (.inl k)
    · exact I.ok.has _ (.inr k)
  have cm : ∀ {y c}, (gEnv X.env scope C code).cells.lookup y = some c →
      X.env.cells.lookup y = some c ∧ c < s.heap.objs.size := fun {y c} e => by
    have e1 : (cloFrom X.env.cells scope.names []).lookup y = some c := e
    rcases cloFrom_mem (PySem.mem_of_lookup e1) with z | ⟨z, rfl⟩
    · cases z
    · obtain ⟨c', hc⟩ := hfree _ z rfl
      rw [hc]
      obtain ⟨w', q⟩ := I.cell _ _ hc
      exact ⟨rfl, q.lt⟩
  have look : ∀ {y}, scope.names.lookup y = some .free →
      ∃ c, (gEnv X.env scope C code).cells.lookup y = some c ∧ X.env.cells.lookup y = some c := fun {y} hl => by
    obtain ⟨c', e'⟩ := mem_lookup (cloFrom_has (cells := X.env.cells) (acc := []) (PySem.mem_of_lookup hl))
    have e2 : (gEnv X.env scope C code).cells.lookup y = some c' := e'
    exact ⟨c', e2, (cm e2).1⟩
  have nocell : ∀ {y}, scope.names.lookup y ≠ some .cell := fun {y} h => ok.cell _ (PySem.mem_of_lookup h) rfl
  have okG : (gCx X s H (gEnv X.env scope C code) fp [(a, ob)] A').Ok := by
    constructor
    · exact I.ok.mod
    · exact ok.blk.kind
    · exact I.ok.glob
    · rfl
    · exact hC
    · intro y z c e1 e2
      exact I.ok.inj y z c (cm e1).1 (cm e2).1
    · intro y hy
      rcases hy with hy | hy
      · exact (nocell hy).elim
      · obtain ⟨c, q, _⟩ := look hy
        exact ⟨c, q⟩
    · intro y c z _
      have z' : false = true := z
      cases z'
    · exact fun _ => hA
    · exact hF
    · exact .inr ⟨rfl, rfl⟩
    · intro b hb
      refine ⟨fun z => ?_, fun y c e z => ?_⟩
      · have z' : b = C := z
        have q := (hfp b hb).2
        rw [z'] at q
        exact absurd (Nat.lt_of_lt_of_le q hC) (Nat.lt_irrefl _)
      · exact (hfp b hb).1.2.2.2.2.1 y c (cm e).1 z
    · exact I.bs
    · exact Nat.le_trans I.ok.bsz I.sz
    · intro b o e hb
      rcases (hfp b hb).1.2.2.2.1 with z | z
      · exact I.ok.noex b o e z
      · exact absurd (Nat.lt_of_lt_of_le (Heap.lt_size e) (Nat.le_trans I.ok.bsz z)) (Nat.lt_irrefl _)
    · intro b hb z
      rcases List.mem_cons.mp (I.stkSub b z) with z | z
      · exact (hfp b hb).1.2.1 z
      · exact (hfp b hb).1.2.2.1 z
    · exact I.stack
    · exact I.stkFree
  constructor
  · exact okG
  · rfl
  · exact I2.bare
  · exact un
  · refine ⟨m5, hns, fun i y av e1 e2 e3 => ?_⟩
    obtain ⟨e2, hne⟩ := wipe_some e2
    have own' : ¬ (scope.names.lookup y = some .local ∨ scope.names.lookup y = some .cell) := fun hh => by
      have hm : ∃ k, (y, k) ∈ scope.names ∧ (k = .local ∨ k = .cell) := by
        rcases hh with q | q
        · exact ⟨_, PySem.mem_of_lookup q, .inl rfl⟩
        · exact ⟨_, PySem.mem_of_lookup q, .inr rfl⟩
      obtain ⟨k, hm, hk⟩ := hm
      rcases ok.blk.own _ hm hk with e' | e'
      · obtain ⟨p, hp, hpy⟩ := List.mem_map.mp e'
        have e4 := ok.blk.ix p hp
        have hpy' : p.1 = y := hpy
        rw [hpy'] at e4
        exact hne (List.mem_map.mpr ⟨p, hp, nodup_ix hN e4 e1⟩)
      · exact e' (List.mem_of_getElem? e1)
    have hfr : scope.names.lookup y = some .free := by
      rcases e3 with e3 | e3 | e3
      · exact absurd (.inl e3) own'
      · exact absurd (.inr e3) own'
      · exact e3
    obtain ⟨m, hn, hl⟩ := I2.loc
    have hv : Vis X.env.scope y := (ok.blk.free _ (PySem.mem_of_lookup hfr) rfl).elim (fun k => .inr (.inl k)) fun k => .inr (.inr k)
    obtain ⟨u, r, q⟩ := hl i y av e1 e2 hv
    refine ⟨u, r, .inr ⟨.inr hfr, ?_⟩⟩
    obtain ⟨c, h1, h2⟩ := look hfr
    rcases q with ⟨k, _⟩ | ⟨_, c', e', z⟩
    · have k : X.env.scope.names.lookup y = some .local := k
      rcases ok.blk.free _ (PySem.mem_of_lookup hfr) rfl with k' | k'
      · rw [show X.env.scope.names.lookup y = _ from k'] at k; cases k
      · rw [show X.env.scope.names.lookup y = _ from k'] at k; cases k
    · rw [h2] at e'; cases e'
      exact ⟨c, h1, z⟩
  · intro y c e
    exact I2.cell y c (cm e).1
  · exact hCn
  · intro y c e
    exact I2.freeC y c (cm e).1
  · intro p hp
    have hp' : p ∈ [(a, ob)] ++ ([] : List (Addr × Obj)) := hp
    rw [List.append_nil] at hp'
    have e : p = (a, ob) := List.mem_singleton.mp hp'
    subst e
    refine ⟨ha, han, fun z => hac z.symm, fun z => ?_, hob⟩
    obtain ⟨_, o, ho, _⟩ := I.stack.mem z
    exact absurd (Nat.lt_of_lt_of_le (Heap.lt_size ho) hal) (Nat.lt_irrefl _)
  · exact I2.hok
  · rw [wipe_length]; exact I2.len
end

/-! ### the expression's turns -/
/-- the walked thing's turns by measure, the element's value: as long as it is kb the consumer goes on -/
structure GW where
  J : It
  g : TG
  tt : TT
  te : TE
  σ : L2.St
  vs : List Nat
  W : Nat → Nat → Hp → Prop
  kb : Bool
  Q : VK
def GW.turn (G : GW) : Prop := ∀ i m H, G.W i m H → (G.J.stop i H ∧ G.Q (.bl G.kb) H) ∨ (G.J.go i H ∧ ∃ Nx : Hp → Prop, (∀ H', Nx H' → ∃ m', m' < m ∧ G.W (i + 1) m' H') ∧
  ∀ x H', G.J.yld i H x H' → G.g x (wipe G.σ G.vs) H' fun σ8 H8 => wipe σ8 G.vs = wipe G.σ G.vs ∧ G.tt σ8 H8 fun b H9 =>
    if b = true then G.te σ8 H9 fun y H10 => ∃ c : Bool, y = .bl c ∧ if c = G.kb then Nx H10 else G.Q (.bl c) H10 else Nx H9)
/-- the state while the expression sleeps -/
def Dozed (s s' : Shared) : Prop := s'.os = s.os ∧ s'.heap = s.heap ∧ AllBare s'.gens
/-- what it hands out -/
def GY (Y : Cx) (G : GW) : Protocol := fun n s₀ v s kap =>
  ∃ (c : Bool) (pl : List (Addr × Obj)) (σ8 : L2.St) (H9 : Hp), v = .bool c ∧ Inv Y pl σ8 H9 s ∧
    (c = G.kb → ∀ s', Dozed s s' → kap (.send .none) s') ∧ (c ≠ G.kb → G.Q (.bl c) H9)
def GE (Y : Cx) (G : GW) : Nat → Shared → Shared → Prop := fun n s₀ s => ∃ (σ8 : L2.St) (H9 : Hp), Inv Y [] σ8 H9 s ∧ G.Q (.bl G.kb) H9

section
variable {X Y : Cx}
theorem inv_doze {pl : List (Addr × Obj)} {σ : L2.St} {H : Hp} {s s' : Shared} (I : Inv Y pl σ H s) (d : Dozed s s') : Inv Y pl σ H s' := by
  obtain ⟨d1, d2, d3⟩ := d
  obtain ⟨h', g', dr', t', os'⟩ := s'
  have e1 : os' = s.os := d1
  have e2 : h' = s.heap := d2
  subst e1 e2
  exact I.step (g' := g') (d' := dr') (t' := t') (ch := []) (fun _ z => nomatch z) (fun b o _ _ _ e _ => e) (fun b o _ _ _ e _ => ⟨o.slots, e⟩)
    (fun _ _ _ _ n => n) (fun b o _ e => ⟨o, e⟩) (fun _ _ e => e) (fun _ _ _ e => e) (fun b ps e => ⟨#[], by rw [e]; simp⟩) (fun m h => h)
    (fun b u e => I.hok b u e) d3

theorem gen_loop {elt tg iter : Expr} {ifs : List Expr} {scope : Scope} {pos : Pos} {fp : List Addr} {tn : Nat → Heap → Prop} {it : Addr} {G : GW} {B : Around}
    (hYA : Y.A = B.over (.compLoop (.GeneratorExp elt [⟨tg, iter, ifs, 0⟩] scope pos) 0 (.ref it) .none Y.env) [])
    (hc : Y.calm = true) (hxe : Y.xe = fun _ _ => False) (hex : Y.ex = fp) (hpn : ∀ p ∈ Y.pn, ∀ b ∈ fp, p.1 ≠ b)
    (hco : Y.env.scope.isCoroutine = false) (T : Turn Y.prog Y.w Y.K tg G.J fp it tn) (pg : PG Y tg G.g) (pt : PTs Y ifs G.tt) (pe : PE Y elt G.te) (turn : G.turn) :
    ∀ (m n i : Nat) (s₀ s : Shared) (H : Hp), m < n → Inv Y [] (wipe G.σ G.vs) H s → tn i s.heap → (∀ b ∈ fp, H b = none) → G.W i m H →
      Seg (model Y.prog Y.w) B (fun n s₀ r s₁ => r = .ok .next ∧ GE Y G n s₀ s₁) (GY Y G) n s₀
        (.compLoop (.GeneratorExp elt [⟨tg, iter, ifs, 0⟩] scope pos) 0 (.ref it) .none Y.env)
        ((model Y.prog Y.w).den (.compLoop (.GeneratorExp elt [⟨tg, iter, ifs, 0⟩] scope pos) 0 (.ref it) .none Y.env)) [] s := by
  have stat : ∀ {σ' : L2.St} {H' : Hp} {s' : Shared}, Inv Y [] σ' H' s' → (∀ b ∈ fp, H' b = none) → ∀ b ∈ fp, FpOk Y [] H' b := fun {σ' H' s'} I' hn b hb =>
    ⟨hn b hb, (I'.ok.exf b (by rw [hex]; exact hb)).1, I'.ok.exfs b (by rw [hex]; exact hb), .inl (by rw [hex]; exact hb),
      fun x c e => (I'.ok.exf b (by rw [hex]; exact hb)).2 x c e, fun p hp => hpn p (by simpa using hp) b hb⟩
  intro m
  induction m using Nat.strongRecOn with
  | ind m ih =>
    intro n i s₀ s H hmn I st fn w
    show Seg _ B _ _ _ s₀ _ ((compTurn (.GeneratorExp elt [⟨tg, iter, ifs, 0⟩] scope pos) 0 (.ref it) .none Y.env).onRaise (leaving Y.env)) [] s
    rw [compTurn_gen, Sem.onRaise_eq_wrap]
    refine seg_bind_wrap (wpAny_standAt ?_)
    rcases turn i m H w with ⟨stop, q⟩ | ⟨go, Nx, hNx, step⟩
    · refine seg_bind_wrap ?_
      rw [← hYA]
      refine wpAny_mono (T.done Y rfl rfl rfl hc i [] s _ H (fun _ _ => False) I (stat I fn) st stop) (fun r s1 ⟨hr, I1⟩ => ?_) fun _ _ z => False.elim z
      subst hr
      exact seg_end (.ok .next) ⟨rfl, _, _, I1, q⟩
    · refine seg_bind_wrap ?_
      rw [← hYA]
      refine wpAny_mono (T.item Y rfl rfl rfl hc i [] s _ H (fun _ _ => False) I (stat I fn) st go) (fun r s1 ⟨u, hr, h1⟩ => ?_) fun _ _ z => False.elim z
      subst hr
      refine seg_bind_wrap ?_
      rw [← hYA]
      refine wpAny_mono h1 (fun _ s2 ⟨x, H2, I2, r2, y2, st2, n2⟩ => ?_) fun _ _ z => False.elim z
      have I2' := I2.pinned (stat I2 n2) (T.obj _ _ st2)
      refine seg_bind_wrap ?_
      rw [← hYA]
      have hg := pg.run _ s2 _ H2 x u _ I2' r2 (step x H2 y2)
      rw [hxe] at hg
      refine wpAny_mono hg (fun _ s3 ⟨σ3, H3, I3, hw3, q3⟩ => ?_) fun _ _ z => False.elim z
      refine seg_bind_wrap ?_
      rw [← hYA]
      have ht := pt.run _ s3 σ3 H3 _ I3 q3
      rw [hxe] at ht
      refine wpAny_mono ht (fun b s4 ⟨H4, I4, q4⟩ => ?_) fun _ _ z => False.elim z
      have fin : ∀ {s' : Shared} {H' : Hp} (n' : Nat) (s0 : Shared), m ≤ n' → Inv Y ([] ++ pinsAt fp s2.heap) σ3 H' s' → Nx H' →
          Seg (model Y.prog Y.w) B (fun n s₀ r s₁ => r = .ok .next ∧ GE Y G n s₀ s₁) (GY Y G) n' s0
            (.compLoop (.GeneratorExp elt [⟨tg, iter, ifs, 0⟩] scope pos) 0 (.ref it) .none Y.env)
            ((model Y.prog Y.w).den (.compLoop (.GeneratorExp elt [⟨tg, iter, ifs, 0⟩] scope pos) 0 (.ref it) .none Y.env)) [] s' := fun {s' H'} n' s0 hn' I' nx => by
        obtain ⟨m', hm, w'⟩ := hNx H' nx
        have pin' : ∀ b ∈ fp, ∀ o, s2.heap.get? b = some o → s'.heap.get? b = some o ∧ H' b = none := fun b hb o e =>
          let z := I'.pin (b, o) (List.mem_append_right _ (List.mem_append_right _ (mem_pinsAt hb e)))
          ⟨z.1, z.2.1⟩
        have hl : (wipe G.σ G.vs).length = σ3.length := by rw [← hw3, wipe_length]
        refine ih m' hm n' (i + 1) s0 s' H' (by omega) ((I'.unpinned (pins := [])).weak hl fun j v e => ?_) (T.keep _ _ _ st2 fun b hb o e => (pin' b hb o e).1) (fun b hb => ?_) w'
        · rw [← hw3] at e
          exact (wipe_some e).1
        · obtain ⟨o, e, _⟩ := T.obj _ _ st2 b hb
          exact (pin' b hb o e).2
      cases b with
      | false =>
        simp only [Bool.false_eq_true, if_false] at q4 ⊢
        exact seg_again rfl (fin n s₀ (by omega) I4 q4)
      | true =>
        simp only [if_true] at q4 ⊢
        have hy : ∀ v, yieldOut Y.env v = yieldValue v := fun v => by simp only [yieldOut, hco, Bool.false_eq_true, if_false]
        simp only [hy]
        rw [Sem.bind_eq_wrap', Sem.bind_eq_wrap', Sem.wrap_wrap, Sem.wrap_wrap]
        refine seg_wrap ?_
        rw [← hYA]
        have hel := pe.run _ s4 σ3 H4 _ I4 q4
        rw [hxe] at hel
        refine wpAny_mono hel (fun z s5 ⟨yv, H5, I5, r5, c, hyv, q5⟩ => ?_) fun _ _ z => False.elim z
        subst hyv
        have r5' : z = .bool c := r5
        subst r5'
        obtain ⟨n', rfl⟩ : ∃ n', n = n' + 1 := ⟨n - 1, by omega⟩
        refine seg_at (seg_yield rfl rfl rfl ⟨c, _, σ3, H5, rfl, I5, fun hcc s' hd => ?_, fun hcc => ?_⟩)
        · rw [if_pos hcc] at q5
          exact seg_again rfl (fin n' s' (by omega) (inv_doze I5 hd) q5)
        · rw [if_neg hcc] at q5
          exact q5
end
end Gz
set_option Elab.async false
set_option linter.all false
set_option maxRecDepth 100000
set_option maxHeartbeats 4000000
namespace Gz
open PySem PySem.Spec PyProof.Rows L2 GxR GenW
open Sem (wp)

section
variable {X Y : Cx}
theorem gen_first {elt tg iter : Expr} {ifs : List Expr} {scope : Scope} {pos : Pos} {tn : Nat → Heap → Prop} {it : Addr} {B : Around} {R : GenEnd} {Z : Protocol} {P : Program} {w : World} {env : Env} {n : Nat} {s₀ s : Shared}
    (self : ∀ (A : Around) (i : Nat) (s : Shared) (Q : Value → Shared → Prop) (E : Value → Shared → Prop), tn i s.heap → Q (.ref it) s → wpAny (model P w) A (pyIter (.ref it)) Q E s)
    (hst : tn 0 s.heap)
    (loop : Seg (model P w) B R Z n s₀ (.compLoop (.GeneratorExp elt [⟨tg, iter, ifs, 0⟩] scope pos) 0 (.ref it) .none env)
        ((model P w).den (.compLoop (.GeneratorExp elt [⟨tg, iter, ifs, 0⟩] scope pos) 0 (.ref it) .none env)) [] s) :
    Seg (model P w) B R Z n s₀ (.compStart (.GeneratorExp elt [⟨tg, iter, ifs, 0⟩] scope pos) 0 (.ref it) .none env)
        ((model P w).den (.compStart (.GeneratorExp elt [⟨tg, iter, ifs, 0⟩] scope pos) 0 (.ref it) .none env)) [] s := by
  show Seg _ B _ _ _ s₀ _ ((compStart (.GeneratorExp elt [⟨tg, iter, ifs, 0⟩] scope pos) 0 (.ref it) .none env).onRaise (leaving env)) [] s
  unfold compStart
  rw [Sem.onRaise_eq_wrap]
  show Seg _ B _ _ _ s₀ _ ((ask >>= _).wrap _ _ _ _) [] s
  refine seg_bind_wrap (wpAny_askSetting ?_)
  split
  · exact seg_again rfl loop
  · first
      | exact seg_bind_wrap (wpAny_rule (seg_bind_wrap (wpAny_standAt (seg_bind_wrap (self _ 0 s _ _ hst (seg_again rfl loop))))))
      | (refine seg_bind_wrap (wpAny_rule ?_)
         show Seg _ B _ _ _ s₀ _ ((standAt iter.pos >>= _).wrap _ _ _ _) [] s
         exact seg_bind_wrap (wpAny_standAt (seg_bind_wrap (self _ 0 s _ _ hst (seg_again rfl loop)))))

theorem bare_set {s : Shared} {g : Nat} {x : GenState} (h : AllBare s.gens) (hx : x.bare = true) : AllBare (s.setGen g x).gens := fun y hy => by
  obtain ⟨i, hi, e⟩ := Array.mem_iff_getElem.mp hy
  have q1 : (s.setGen g x).gens[i]? = some y := by rw [Array.getElem?_eq_getElem hi, e]
  have q2 : (s.gens.setIfInBounds g x)[i]? = some y := q1
  by_cases z : i = g
  · subst z
    rw [Array.getElem?_setIfInBounds] at q2
    simp only [if_true] at q2
    split at q2
    · cases q2; exact hx
    · cases q2
  · rw [Array.getElem?_setIfInBounds_ne (Ne.symm z)] at q2
    exact h y (Array.mem_of_getElem? q2)
theorem set_at {s : Shared} {g : Nat} {x : GenState} (h : g < s.gens.size) : (s.setGen g x).gens[g]? = some x := by
  show (s.gens.setIfInBounds g x)[g]? = some x
  simp [h]

/-- the consumers «all», «any»: each turn of their loop -/
theorem all_turns {G : GW} {a : Addr} {g : Nat} {ob : Obj} {A : Around} {R : Result → Shared → Prop} (hkb : G.kb = true)
    (hh : A.handled = none) (hd : A.depth < recursionLimit) (hg : ∀ h : Heap, h.get? a = some ob → h.IsGen a g) (hpn : (a, ob) ∈ Y.pn)
    (fin : ∀ (c : Bool) (pl : List (Addr × Obj)) (σ8 : L2.St) (H9 : Hp) (s' : Shared), Inv Y pl σ8 H9 s' → G.Q (.bl c) H9 → R (.ok (.ret (.bool c))) s') :
    ∀ (n : Nat) (pl : List (Addr × Obj)) (σ8 : L2.St) (H9 : Hp) (s : Shared), Inv Y pl σ8 H9 s →
      (∃ gs, s.gens[g]? = some gs ∧ gs.Goes (model Y.prog Y.w) A.in1.in1 (fun n s₀ r s₁ => r = .ok .next ∧ GE Y G n s₀ s₁) (GY Y G) n (.send .none) (s.setGen g .running)) →
      codeAny (model Y.prog Y.w) A (.builtin "all.loop" ⟨[.ref a], []⟩) R s := by
  intro n
  induction n with
  | zero =>
    intro pl σ8 H9 s I ⟨gs, hgs, hgo⟩
    have hag : s.heap.IsGen a g := hg _ (I.pin (a, ob) (List.mem_append_left _ hpn)).1
    refine codeAny_builtin F.entry_all_loop ?_
    rw [Around.under_plainId F.plain_all_loop _]
    show wpAny _ A.in1 (pyNext (.ref a) >>= _) _ _ s
    refine wpAny_bind (wpAny_pyNext_genexpQ (A := A.in1) hh I.nolimit hd hag hgs hgo (fun v s₁ gs' hbare hv => ?_) (fun s₁ hp h' hk => ?_))
    · obtain ⟨c, pl', σ', H', rfl, I1, hk, hs⟩ := hv
      refine wpAny_bind (wpAny_holding (wpAny_truthy_bool (wpAny_bind (wpAny_letGo ?_))))
      cases c with
      | true => exact (hk hkb.symm s₁ ⟨rfl, rfl, I1.bare⟩).elim
      | false =>
        simp only [Bool.false_eq_true, if_false]
        exact wpAny_bind (wpAny_rule (wpAny_pure (fin false _ _ _ _ (inv_doze I1 ⟨rfl, rfl, bare_set I1.bare hbare⟩) (hs (by rw [hkb]; decide)))))
    · obtain ⟨σ', H', I1, q⟩ := hp
      have I2 := inv_doze (I1.kept (t' := s₁.toks) hk) (s' := { s₁.setGen g .finished with heap := h' }) ⟨rfl, rfl, bare_set I1.bare rfl⟩
      rw [hkb] at q
      exact wpAny_bind (wpAny_rule (wpAny_pure (fin true _ _ _ _ I2 q)))
  | succ n ih =>
    intro pl σ8 H9 s I ⟨gs, hgs, hgo⟩
    have hgl : g < s.gens.size := (Array.getElem?_eq_some_iff.mp hgs).1
    have hag : s.heap.IsGen a g := hg _ (I.pin (a, ob) (List.mem_append_left _ hpn)).1
    refine codeAny_builtin F.entry_all_loop ?_
    rw [Around.under_plainId F.plain_all_loop _]
    show wpAny _ A.in1 (pyNext (.ref a) >>= _) _ _ s
    refine wpAny_bind (wpAny_gsz (n := g + 1) hgl (wpAny_pyNext_genexpQ (A := A.in1) hh I.nolimit hd hag hgs hgo (fun v s₁ gs' hbare hv => ?_) (fun s₁ hp h' hk => ?_)))
    · intro hsz
      have hsz1 : g < s₁.gens.size := by
        have q : (s₁.setGen g gs').gens.size = s₁.gens.size := setGen_size _ _ _
        omega
      obtain ⟨c, pl', σ', H', rfl, I1, hk, hs⟩ := hv
      refine wpAny_bind (wpAny_holding (wpAny_truthy_bool (wpAny_bind (wpAny_letGo ?_))))
      have J := inv_doze I1 (s' := s₁.setGen g gs') ⟨rfl, rfl, bare_set I1.bare hbare⟩
      cases c with
      | true =>
        simp only [if_true]
        refine wpAny_pure ⟨plainId_quiet F.plain_all_loop _, ih pl' σ' H' _ J ⟨gs', set_at hsz1, ?_⟩⟩
        exact hk hkb.symm ((s₁.setGen g gs').setGen g .running) ⟨rfl, rfl, bare_set (bare_set I1.bare hbare) rfl⟩
      | false =>
        simp only [Bool.false_eq_true, if_false]
        exact wpAny_bind (wpAny_rule (wpAny_pure (fin false _ _ _ _ J (hs (by rw [hkb]; decide)))))
    · intro hsz
      obtain ⟨σ', H', I1, q⟩ := hp
      have I2 := inv_doze (I1.kept (t' := s₁.toks) hk) (s' := { s₁.setGen g .finished with heap := h' }) ⟨rfl, rfl, bare_set I1.bare rfl⟩
      rw [hkb] at q
      exact wpAny_bind (wpAny_rule (wpAny_pure (fin true _ _ _ _ I2 q)))
end
end Gz
set_option Elab.async false
set_option linter.all false
set_option maxRecDepth 100000
set_option maxHeartbeats 4000000
namespace Gz
open PySem PySem.Spec PyProof.Rows L2 GxR GenW
open Sem (wp)

/-- all(elt for tg in iter if ..): kb true; any(..): kb false -/
def tGen (kb : Bool) (P : Addr) (wi : TI) (g : TG) (tt : TT) (te : TE) (vs : List Nat) : TE := fun σ H Q => wi σ H fun J H1 => TabG H1 P ∧ ∀ H2, Tabbed P H1 H2 →
  ∃ W : Nat → Nat → Hp → Prop, (∃ m, W 0 m H2) ∧ (GW.mk J g tt te σ vs W kb Q).turn

section
variable {X : Cx}
/-- the expression made: what its consumer then finds -/
theorem gen_made {c P : Addr} {elt tg iter : Expr} {ifs : List Expr} {scope : Scope} {own : List (Str × Nat)} {gpos : Pos} {wi : TI} {g : TG} {tt : TT} {te : TE} {k : Nat} {kb : Bool}
    {pins : List (Addr × Obj)} {s : Shared} {σ : L2.St} {H : Hp} {Q : VK} {Q' : Value → Shared → Prop}
    (hr : Room (k + 1) X.A) (TB : TabB X.base X.mg c P) (hcode : X.env.code = .ref c) (S : GScope X.N X.env.scope scope own) (hN : X.N.Nodup) (hc : X.calm = true) (hi : PI X tg iter wi)
    (pg : ∀ s H C code fp pn A', PG (gCx X s H (gEnv X.env scope C code) fp pn A') tg g)
    (pt : ∀ s H C code fp pn A', Room k A' → PTs (gCx X s H (gEnv X.env scope C code) fp pn A') ifs tt)
    (pe : ∀ s H C code fp pn A', Room k A' → PE (gCx X s H (gEnv X.env scope C code) fp pn A') elt te)
    (hs : ∀ v, genFold iter X.env v = pure v) (I : Inv X pins σ H s) (h : tGen kb P wi g tt te (own.map (·.2)) σ H Q)
    (hQ : ∀ (Y : Cx) (G : GW) (a : Addr) (gn : Nat) (ob : Obj) (n : Nat) (s5 : Shared) (H5 : Hp) (gs : GenState), Y.prog = X.prog → Y.w = X.w → G.kb = kb → G.Q = Q →
      (∀ h : Heap, h.get? a = some ob → h.IsGen a gn) → (a, ob) ∈ Y.pn → Inv Y [] (wipe G.σ G.vs) H5 s5 → s5.gens[gn]? = some gs →
      gs.Goes (model Y.prog Y.w) X.A.in1.in1 (fun n s₀ r s₁ => r = .ok .next ∧ GE Y G n s₀ s₁) (GY Y G) n (.send .none) (s5.setGen gn .running) →
      (∀ pl σ8 H9 s', Inv Y pl σ8 H9 s' → Inv X pins σ H9 s') → Q' (.ref a) s5) :
    wpAny (model X.prog X.w) X.A (eval (.GeneratorExp elt [⟨tg, iter, ifs, 0⟩] scope gpos) X.env) Q' X.xe s := by
  have hfree : ∀ y ∈ scope.names, y.2 = .free → ∃ c, X.env.cells.lookup y.1 = some c := fun y hy e => by
    rcases S.blk.free y hy e with q | q
    · exact I.ok.has _ (.inl q)
    · exact I.ok.has _ (.inr q)
  refine wpAny_GeneratorExp_make S.co (closure_ok hfree) S.cell S.dot S.blk.kind hr.depth ?_ hs
  refine thn (hi.run pins s σ H _ I h) fun xv s1 h1 => thn h1 fun itv s2 h2 => ?_
  obtain ⟨it, fp, tn, J, H2, e, I2, T, st2, f2, hT, q⟩ := h2
  subst e
  refine ⟨I2.nolimit, ?_⟩
  obtain ⟨ps, hP, ht⟩ := hT
  have hPs : s2.heap.get? P = some { cls := .none, data := .fields ps } := I2.hok P _ hP
  have cd : PySem.W.CodeHd s2.heap c P := TB.code.keeps I2.bk
  have szf : ∀ b ∈ fp, b < s2.heap.objs.size := fun b hb => let ⟨_, e, _⟩ := T.obj _ _ st2 b hb; Heap.lt_size e
  have cont : ∀ (code : Value) (h3 : Heap) (tk : Nat) (ps' : Array Value), Heap.ExtBut P s2.heap h3 → s2.heap.objs.size ≤ h3.objs.size → h3.get? P = some { cls := .none, data := .fields ps' } →
      (∃ more, ps' = ps ++ more) → TriplesOk ps'.toList →
      wpAny (model X.prog X.w) X.A (builtinsFor X.env.globals X.env.builtins) (fun bi s₄ =>
        ∀ h', h'.Ns s₄.heap.objs.size (fun y => if y = ".0" then some (.ref it) else none) → Heap.SameBut s₄.heap.objs.size (s₄.heap.push { cls := .type "frame", data := .dict #[] }) h' →
          Q' (.ref h'.objs.size) { s₄ with
            gens := s₄.gens.push (.fresh (.compStart (.GeneratorExp elt [⟨tg, iter, ifs, 0⟩] scope gpos) 0 (.ref it) .none (genEnv scope (cloFrom X.env.cells scope.names []) s₄.heap.objs.size code bi X.env))),
            toks := s₄.toks + 1 + 1 + 1,
            heap := h'.push { cls := .type "generator", data := .fields #[.int s₄.gens.size 0, .str "<genexpr>" (s₄.toks + 1), .str (X.env.qual ++ "<genexpr>") (s₄.toks + 1 + 1)] } }) X.xe { s2 with heap := h3, toks := tk } := by
    intro code h3 tk ps' hx hsz hP3 hmore ht3
    obtain ⟨bm, obm, e1, e2, e3, e4, e5, e6, e7, e8⟩ := TB.bm
    have keep3 : ∀ b u, b ≠ P → s2.heap.get? b = some u → h3.get? b = some u := fun b u hb e => hx b u hb e
    refine wpAny_builtinsFor (m := X.mg) (by rw [I2.ok.glob]; exact (I2.mod.glob.keeps I2.bk).extBut hx TB.gP) e1 e2 (keep3 _ _ e4 (I2.bk _ _ e5)) e6 e7 e8 ?_
    intro h' hn' hs'
    obtain ⟨more, rfl⟩ := hmore
    have hs1 : h'.objs.size = h3.objs.size + 1 := by rw [hs'.1, Heap.size_push]
    have kept : ∀ (o5 : Obj) b u, h3.get? b = some u → (h'.push o5).get? b = some u := fun o5 b u e =>
      Heap.get?_push_of_some _ ((hs'.2 b (Nat.ne_of_lt (Heap.lt_size e))).trans (Heap.get?_push_of_some _ e))
    generalize hob : ({ cls := .type "generator", data := .fields #[.int s2.gens.size 0, .str "<genexpr>" (tk + 1), .str (X.env.qual ++ "<genexpr>") (tk + 1 + 1)] } : Obj) = ob
    have hgen : ∀ h : Heap, h.get? h'.objs.size = some ob → h.IsGen h'.objs.size s2.gens.size := fun h e => by
      rw [← hob] at e
      exact ⟨_, _, _, e, rfl, rfl, rfl⟩
    have keep5 : ∀ b u, b ≠ P → s2.heap.get? b = some u → (h'.push ob).get? b = some u := fun b u hb e => kept ob b u (keep3 b u hb e)
    have tab5 : (h'.push ob).get? P = some { cls := .none, data := .fields (ps ++ more) } := kept ob P _ hP3
    have bare5 : AllBare (s2.gens.push (.fresh (.compStart (.GeneratorExp elt [⟨tg, iter, ifs, 0⟩] scope gpos) 0 (.ref it) .none (gEnv X.env scope h3.objs.size code)))) := I2.bare.push rfl
    have J2 := inv_tab (more := more) (h' := h'.push ob) (d' := s2.drawn) (t' := tk + 1 + 1 + 1) I2 hP keep5 tab5 bare5
    have nP : ∀ b, H2 b = none → b ≠ P := fun b e z => by rw [z, hP] at e; cases e
    have nT : ∀ b u, H2 b = some u → (∀ z, u ≠ .tbl z) → b ≠ P := fun b u e q z => by
      rw [z, hP] at e
      exact q ps (Option.some.inj e).symm
    have un : Un (frs X.stack) fp H2 (upd H2 P (.tbl (ps ++ more))) s2.heap (h'.push ob) := by
      constructor
      · exact fun b o e n _ _ => keep5 b o (nP b n) e
      · exact fun b o e n _ _ => ⟨o.slots, keep5 b o (nP b n) e⟩
      · intro b o e n _
        rw [upd_ne (nP b n)]; exact n
      · intro b o e _
        by_cases hb : b = P
        · subst hb; exact ⟨_, tab5⟩
        · exact ⟨o, keep5 b o hb e⟩
      · intro b xs e
        rw [upd_ne (nT b _ e fun z q => by cases q)]; exact e
      · intro b o u e
        rw [upd_ne (nT b _ e fun z q => by cases q)]; exact e
      · intro b qs e
        by_cases hb : b = P
        · subst hb
          rw [hP] at e
          cases e
          exact ⟨more, upd_same⟩
        · rw [upd_ne hb, e]
          exact ⟨#[], by simp⟩
    generalize hA' : X.A.in1.in1.over (.compLoop (.GeneratorExp elt [⟨tg, iter, ifs, 0⟩] scope gpos) 0 (.ref it) .none (gEnv X.env scope h3.objs.size code)) [] = A'
    have hdep : A'.depth = X.A.depth + 1 := by rw [← hA']; rfl
    have huni : A'.units = X.A.units + 1 + 1 + 3 := by rw [← hA']; rfl
    have hhd : A'.handled = none := by rw [← hA']; exact hr.hd
    have hfr : A'.frames = some (gEnv X.env scope h3.objs.size code :: X.stack) := by
      have e0 : A'.frames = pushEnvs [gEnv X.env scope h3.objs.size code] X.A.frames := by rw [← hA']; rfl
      rw [e0, I2.ok.frames]
      rfl
    have hrA : Room k A' := ⟨hhd, by have := hr.dp; rw [hdep]; omega, by have := hr.un; rw [huni]; omega⟩
    have sz5 : (h'.push ob).objs.size = h'.objs.size + 1 := Heap.size_push ..
    have fresh : ∀ b, s2.heap.objs.size ≤ b → upd H2 P (.tbl (ps ++ more)) b = none := fun b hb => by
      have n0 := I2.hok.fresh hb
      rw [upd_ne (nP b n0)]; exact n0
    have hns5 : (h'.push ob).Ns h3.objs.size (fun y => if y = ".0" then some (.ref it) else none) := hn'.push ob
    have I5 := gen_start (code := code) (C := h3.objs.size) (a := h'.objs.size) (ob := ob) (A' := A') (fp := fp) I2 J2 S hN (fun b hb => ⟨f2 b hb, szf b hb⟩) un hhd hfr hsz hns5 (fresh _ hsz)
      (Heap.get?_push_size _ (by rw [← hob]; rfl)) (by rw [hs1]; exact Nat.ne_of_lt (Nat.lt_succ_self _)) (by rw [hs1]; exact Nat.le_succ_of_le hsz) (fresh _ (by rw [hs1]; exact Nat.le_succ_of_le hsz))
      (fun v z => by rw [← hob] at z; cases z)
    obtain ⟨W, ⟨m0, w0⟩, turn⟩ := q (upd H2 P (.tbl (ps ++ more))) ⟨⟨_, upd_same, ht3⟩, fun b hb => upd_ne hb⟩
    have st5 : tn 0 (h'.push ob) := T.keep _ _ _ st2 fun b hb o e => keep5 b o (nP b (f2 b hb).1) e
    refine hQ (gCx X s2 H2 (gEnv X.env scope h3.objs.size code) fp [(h'.objs.size, ob)] A') (GW.mk J g tt te σ (own.map (·.2)) W kb Q) h'.objs.size s2.gens.size ob (m0 + 1) _ _ _
      rfl rfl rfl rfl hgen (List.mem_singleton.mpr rfl) I5 (Array.getElem?_push_size ..) ⟨rfl, ?_⟩ ?_
    · refine gen_first (fun A i s Q E => T.self A i s Q E) st5 ?_
      have hpn : ∀ p ∈ [(h'.objs.size, ob)], ∀ b ∈ fp, p.1 ≠ b := fun p hp b hb z => by
        have e : p = (h'.objs.size, ob) := List.mem_singleton.mp hp
        rw [e] at z
        have l := szf b hb
        have z' : h'.objs.size = b := z
        rw [← z', hs1] at l
        exact absurd (Nat.lt_of_lt_of_le l hsz) (Nat.not_lt.mpr (Nat.le_succ _))
      exact gen_loop (Y := gCx X s2 H2 (gEnv X.env scope h3.objs.size code) fp [(h'.objs.size, ob)] A') (G := GW.mk J g tt te σ (own.map (·.2)) W kb Q) hA'.symm hc rfl rfl hpn S.co T
        (pg ..) (pt _ _ _ _ _ _ _ hrA) (pe _ _ _ _ _ _ _ hrA) turn m0 (m0 + 1) 0 _ _ _ (Nat.lt_succ_self _)
        (inv_doze I5 ⟨rfl, rfl, bare_set bare5 rfl⟩) st5 (fun b hb => by rw [upd_ne (nP b (f2 b hb).1)]; exact (f2 b hb).1) w0
    · intro pl σ8 H9 s' I9
      exact I2.call' (ch := fp) I9.os I9.base I9.hok I9.bare fun b hb => ⟨(f2 b hb).2.2.2.1, (f2 b hb).2.1, (f2 b hb).2.2.2.2.1, (f2 b hb).2.2.2.2.2⟩
  cases hf : codeAmong gpos ps.toList with
  | none =>
    refine wpAny_genexprCodeX hcode (cd.code hPs ht) (cd.tab hPs) hf fun c' h' tk hx hge hlt hco' _ htab' _ => ?_
    obtain ⟨o1, vs, f1, tf, fl, tg, inF, tx, tt, op, _, _, _, _, _, _, _, _, _, htr, _⟩ := hco'
    exact cont _ h' tk _ hx (Nat.le_trans hge (Nat.le_of_lt hlt)) htab'.2 ⟨_, rfl⟩ htr
  | some cv =>
    refine wpAny_genexprCode_hit hcode (cd.code hPs ht) hf ?_
    exact cont cv s2.heap s2.toks ps (Heap.ExtBut.refl _ _) (Nat.le_refl _) hPs ⟨#[], by simp⟩ ht

theorem pe_allG {c P : Addr} {elt tg iter : Expr} {ifs : List Expr} {scope : Scope} {own : List (Str × Nat)} {p pos gpos : Pos} {wi : TI} {g : TG} {tt : TT} {te : TE} {k : Nat}
    (hr : Room (k + 1) X.A) (hg : Gl X "all") (hm : X.mg "all" = none) (TB : TabB X.base X.mg c P) (hcode : X.env.code = .ref c) (S : GScope X.N X.env.scope scope own) (hN : X.N.Nodup) (hc : X.calm = true) (hi : PI X tg iter wi)
    (pg : ∀ s H C code fp pn A', PG (gCx X s H (gEnv X.env scope C code) fp pn A') tg g)
    (pt : ∀ s H C code fp pn A', Room k A' → PTs (gCx X s H (gEnv X.env scope C code) fp pn A') ifs tt)
    (pe : ∀ s H C code fp pn A', Room k A' → PE (gCx X s H (gEnv X.env scope C code) fp pn A') elt te)
    (hs : ∀ v, genFold iter X.env v = pure v := by intro _; rfl) (hb : bootBuiltins "all" = some (.builtin "all") := by decide +kernel)
    (he : starEach [.GeneratorExp elt [⟨tg, iter, ifs, 0⟩] scope gpos] X.env = (false, eval (.GeneratorExp elt [⟨tg, iter, ifs, 0⟩] scope gpos) X.env) :: starEach [] X.env := by rfl) :
    PE X (.Call (.Name "all" p) [.GeneratorExp elt [⟨tg, iter, ifs, 0⟩] scope gpos] [] pos) (tGen true P wi g tt te (own.map (·.2))) := by
  refine ⟨fun pins s σ H Q I h => ?_⟩
  refine wpAny_Call_Name_kw (ld_blt I hg hm hb ?_)
  refine PyProof.Rows.callWith_builtin1 ?_ he (by rfl)
  rw [he]
  show wpAny _ _ (spliced ((false, eval (.GeneratorExp elt [⟨tg, iter, ifs, 0⟩] scope gpos) X.env) :: backTo pos (starEach [] X.env))) _ _ s
  refine Calls.spliced_cons (gen_made (Q := Q) hr TB hcode S hN hc hi pg pt pe hs I h fun Y G a gn ob n s5 H5 gs hP hw hk hQ hgen hpn I5 hgs hgo back => ?_)
  refine Calls.spliced_nil ?_
  refine call_function_tree F.kind_all F.plain_all F.entry_all (F.args_all1 _) ?_
  unfold Builtin.«all»
  refine wpAny_bind (m := oneArg "all" _) (wpAny_pure ?_)
  refine wpAny_bind (wpAny_pyIter_gen (hgen _ (I5.pin (a, ob) (List.mem_append_left _ hpn)).1) ?_)
  refine wpAny_pure ⟨plainId_quiet F.plain_all_loop _, ?_⟩
  rw [← hP, ← hw]
  refine all_turns (A := X.A) hk hr.hd hr.depth hgen hpn (fun c pl σ8 H9 s' I9 q => ?_) n [] _ H5 s5 I5 ⟨gs, hgs, hgo⟩
  rw [hQ] at q
  exact ⟨.bl c, H9, back _ _ _ _ I9, rfl, q⟩
end
#print axioms pe_allG
end Gz
set_option Elab.async false
set_option linter.all false
set_option maxRecDepth 100000
set_option maxHeartbeats 4000000
/-! Kz: data in the heap, what is kept, what an expression evaluates to -/
namespace Kz
open PySem PySem.Spec PyProof.Rows L2

/-! ### what is kept -/
abbrev NT (o : HO) : Prop := ∀ ps, o ≠ .tbl ps
/-- all that is tracked outside Z is kept; tables may grow -/
structure Kq (Z : Addr → Prop) (H H' : Hp) : Prop where
  at_ : ∀ a o, ¬ Z a → H a = some o → NT o → H' a = some o
  tab : ∀ P, GxR.TabG H P → GxR.TabG H' P
  nn : ∀ a, H a ≠ none → H' a ≠ none
abbrev Z0 : Addr → Prop := fun _ => False
abbrev Kp (H H' : Hp) : Prop := Kq Z0 H H'
section
variable {Z Z' : Addr → Prop} {H H1 H2 : Hp}
theorem nn_upd {p : Addr} {o : HO} : ∀ a, H a ≠ none → upd H p o a ≠ none := fun a h => by
  unfold upd
  split
  · simp
  · exact h
theorem Kq.refl (H : Hp) : Kq Z H H := ⟨fun _ _ _ h _ => h, fun _ h => h, fun _ h => h⟩
theorem Kq.trans (a : Kq Z H H1) (b : Kq Z H1 H2) : Kq Z H H2 := ⟨fun x o z h n => b.at_ x o z (a.at_ x o z h n) n, fun P h => b.tab P (a.tab P h), fun x h => b.nn x (a.nn x h)⟩
theorem Kq.mono (a : Kq Z H H1) (h : ∀ x, Z x → Z' x) : Kq Z' H H1 := ⟨fun x o z e n => a.at_ x o (fun q => z (h x q)) e n, a.tab, a.nn⟩
theorem Kq.up (a : Kp H H1) : Kq Z H H1 := a.mono fun _ h => h.elim
theorem Kq.new {p : Addr} {o : HO} (h : H p = none) : Kq Z H (upd H p o) := ⟨fun x u _ e _ => by
    rw [upd_ne (ne_of_none e h)]; exact e, fun P ⟨ps, e, t⟩ => ⟨ps, by rw [upd_ne (ne_of_none e h)]; exact e, t⟩, nn_upd⟩
theorem Kq.tbl {P : Addr} (t : GxR.Tabbed P H H1) (h : GxR.TabG H P) : Kq Z H H1 := by
  obtain ⟨t1, t2⟩ := t
  obtain ⟨ps, hP, _⟩ := h
  refine ⟨fun x o _ e n => ?_, fun P' h' => ?_, fun x n => ?_⟩
  · by_cases q : x = P
    · rw [q, hP] at e
      cases e
      exact (n ps rfl).elim
    · rw [t2 x q]; exact e
  · by_cases q : P' = P
    · rw [q]; exact t1
    · obtain ⟨qs, e, u⟩ := h'
      exact ⟨qs, by rw [t2 P' q]; exact e, u⟩
  · by_cases q : x = P
    · obtain ⟨qs, e, _⟩ := t1
      rw [q, e]; simp
    · rw [t2 x q]; exact n
/-- a tracked object that may change -/
theorem Kq.put {p : Addr} {o u : HO} (e : H p = some u) (hu : NT u) (hz : Z p) : Kq Z H (upd H p o) := ⟨fun x w z h _ => by
    have ne : x ≠ p := fun q => z (q ▸ hz)
    rw [upd_ne ne]; exact h, fun P ⟨ps, h, t⟩ => ⟨ps, by
    have ne : P ≠ p := fun q => by
      rw [q, e] at h
      cases h
      exact hu ps rfl
    rw [upd_ne ne]; exact h, t⟩, nn_upd⟩
/-- an object unknown ahead, changed now -/
theorem Kq.own {p : Addr} {o u : HO} (k : Kq Z H H1) (n : H p = none) (e : H1 p = some u) (hu : NT u) : Kq Z H (upd H1 p o) := ⟨fun x w z h t => by
    rw [upd_ne (ne_of_none h n)]; exact k.at_ x w z h t, fun P h => by
    obtain ⟨ps, q, t⟩ := k.tab P h
    have ne : P ≠ p := fun z => by
      rw [z, e] at q
      cases q
      exact hu ps rfl
    exact ⟨ps, by rw [upd_ne ne]; exact q, t⟩, fun a h => nn_upd a (k.nn a h)⟩
theorem Kq.back (k : Kq Z H H1) {a : Addr} (h : H1 a = none) : H a = none := by
  cases e : H a with
  | none => rfl
  | some o => exact absurd h (k.nn a (by rw [e]; simp))
theorem nt_lst {xs : List V} : NT (.lst xs) := fun _ q => by cases q
theorem nt_tup {xs : List V} : NT (.tup xs) := fun _ q => by cases q
theorem nt_dK {xs : List (Key × V)} : NT (.dK xs) := fun _ q => by cases q
end

/-! ### data -/
def keyD : Key → PyData
  | .inl i => .int i
  | .inr x => .str x
mutual
/-- the value stands for the datum; none of its objects is at an address of S -/
inductive Dv (S : Addr → Prop) (H : Hp) : V → PyData → Prop
  | non : Dv S H .non .none
  | bl (b : Bool) : Dv S H (.bl b) (.bool b)
  | int (i : Int) : Dv S H (.int i) (.int i)
  | str (x : Str) : Dv S H (.str x) (.str x)
  | lst {a : Addr} {xs : List V} {ds : List PyData} : ¬ S a → H a = some (.lst xs) → DvL S H xs ds → Dv S H (.ref a) (.list ds)
  | tup {a : Addr} {xs : List V} {ds : List PyData} : ¬ S a → H a = some (.tup xs) → DvL S H xs ds → Dv S H (.ref a) (.tuple ds)
  | dct {a : Addr} {kvs : List (Key × V)} {ps : List (PyData × PyData)} : ¬ S a → H a = some (.dK kvs) → DvK S H kvs ps → Dv S H (.ref a) (.dict ps)
inductive DvL (S : Addr → Prop) (H : Hp) : List V → List PyData → Prop
  | nil : DvL S H [] []
  | cons {v : V} {vs : List V} {d : PyData} {ds : List PyData} : Dv S H v d → DvL S H vs ds → DvL S H (v :: vs) (d :: ds)
inductive DvK (S : Addr → Prop) (H : Hp) : List (Key × V) → List (PyData × PyData) → Prop
  | nil : DvK S H [] []
  | cons {k : Key} {v : V} {vs : List (Key × V)} {d : PyData} {ds : List (PyData × PyData)} : Dv S H v d → DvK S H vs ds → DvK S H ((k, v) :: vs) ((keyD k, d) :: ds)
end
section
variable {S S' : Addr → Prop} {H H' : Hp}
mutual
theorem Dv.map (hS : ∀ a, ¬ S a → H a ≠ none → ¬ S' a) (hk : ∀ a o, ¬ S a → H a = some o → NT o → H' a = some o) : ∀ (d : PyData) (v : V), Dv S H v d → Dv S' H' v d
  | .none, _, h => by cases h; exact .non
  | .bool _, _, h => by cases h; exact .bl _
  | .int _, _, h => by cases h; exact .int _
  | .str _, _, h => by cases h; exact .str _
  | .list ds, _, h => by
    cases h with
    | lst n e r => exact .lst (hS _ n (by rw [e]; simp)) (hk _ _ n e nt_lst) (DvL.map hS hk ds _ r)
  | .tuple ds, _, h => by
    cases h with
    | tup n e r => exact .tup (hS _ n (by rw [e]; simp)) (hk _ _ n e nt_tup) (DvL.map hS hk ds _ r)
  | .dict ps, _, h => by
    cases h with
    | dct n e r => exact .dct (hS _ n (by rw [e]; simp)) (hk _ _ n e nt_dK) (DvK.map hS hk ps _ r)
theorem DvL.map (hS : ∀ a, ¬ S a → H a ≠ none → ¬ S' a) (hk : ∀ a o, ¬ S a → H a = some o → NT o → H' a = some o) : ∀ (ds : List PyData) (vs : List V), DvL S H vs ds → DvL S' H' vs ds
  | [], _, h => by cases h; exact .nil
  | d :: ds, _, h => by
    cases h with
    | cons h1 h2 => exact .cons (Dv.map hS hk d _ h1) (DvL.map hS hk ds _ h2)
theorem DvK.map (hS : ∀ a, ¬ S a → H a ≠ none → ¬ S' a) (hk : ∀ a o, ¬ S a → H a = some o → NT o → H' a = some o) : ∀ (ds : List (PyData × PyData)) (vs : List (Key × V)), DvK S H vs ds → DvK S' H' vs ds
  | [], _, h => by cases h; exact .nil
  | (k, d) :: ds, _, h => by
    cases h with
    | cons h1 h2 => exact .cons (Dv.map hS hk d _ h1) (DvK.map hS hk ds _ h2)
end
theorem Dv.kq {Z : Addr → Prop} {v : V} {d : PyData} (h : Dv S H v d) (k : Kq Z H H') (hz : ∀ a, Z a → S a) : Dv S H' v d := h.map (fun _ n _ => n) (fun a o n e t => k.at_ a o (fun z => n (hz a z)) e t)
theorem DvL.kq {Z : Addr → Prop} {v : List V} {d : List PyData} (h : DvL S H v d) (k : Kq Z H H') (hz : ∀ a, Z a → S a) : DvL S H' v d := h.map (fun _ n _ => n) (fun a o n e t => k.at_ a o (fun z => n (hz a z)) e t)
theorem Dv.kp {v : V} {d : PyData} (h : Dv S H v d) (k : Kp H H') : Dv S H' v d := h.kq k fun _ z => z.elim
theorem DvL.kp {v : List V} {d : List PyData} (h : DvL S H v d) (k : Kp H H') : DvL S H' v d := h.kq k fun _ z => z.elim
theorem DvL.length {vs : List V} {ds : List PyData} : DvL S H vs ds → vs.length = ds.length := by
  intro h
  induction ds generalizing vs with
  | nil => cases h; rfl
  | cons d ds ih =>
    cases h with
    | cons h1 h2 => simp only [List.length_cons, ih h2]
theorem DvL.get {vs : List V} {ds : List PyData} {i : Nat} {v : V} (h : DvL S H vs ds) (e : vs[i]? = some v) : ∃ d, ds[i]? = some d ∧ Dv S H v d := by
  induction ds generalizing vs i with
  | nil => cases h; simp at e
  | cons d ds ih =>
    cases h with
    | cons h1 h2 =>
      cases i with
      | zero => simp only [List.getElem?_cons_zero, Option.some.injEq] at e; subst e; exact ⟨d, rfl, h1⟩
      | succ i => simpa using ih h2 (by simpa using e)
theorem DvL.getD {vs : List V} {ds : List PyData} {i : Nat} {d : PyData} (h : DvL S H vs ds) (e : ds[i]? = some d) : ∃ v, vs[i]? = some v ∧ Dv S H v d := by
  have hl := h.length
  have hi : i < vs.length := by rw [hl]; exact (List.getElem?_eq_some_iff.mp e).1
  obtain ⟨d', e', h'⟩ := h.get (List.getElem?_eq_getElem hi)
  rw [e] at e'
  cases e'
  exact ⟨_, List.getElem?_eq_getElem hi, h'⟩
theorem DvL.append {vs ws : List V} {ds es : List PyData} (h : DvL S H vs ds) (k : DvL S H ws es) : DvL S H (vs ++ ws) (ds ++ es) := by
  induction ds generalizing vs with
  | nil => cases h; exact k
  | cons d ds ih =>
    cases h with
    | cons h1 h2 => exact .cons h1 (ih h2)
theorem DvL.take {vs : List V} {ds : List PyData} (n : Nat) (h : DvL S H vs ds) : DvL S H (vs.take n) (ds.take n) := by
  induction ds generalizing vs n with
  | nil => cases h; simp only [List.take_nil]; exact .nil
  | cons d ds ih =>
    cases h with
    | cons h1 h2 =>
      cases n with
      | zero => exact .nil
      | succ n => exact .cons h1 (ih n h2)
theorem DvL.drop {vs : List V} {ds : List PyData} (n : Nat) (h : DvL S H vs ds) : DvL S H (vs.drop n) (ds.drop n) := by
  induction ds generalizing vs n with
  | nil => cases h; simp only [List.drop_nil]; exact .nil
  | cons d ds ih =>
    cases n with
    | zero => exact h
    | succ n =>
      cases h with
      | cons h1 h2 => exact ih n h2
theorem DvL.one {v : V} {d : PyData} (h : Dv S H v d) : DvL S H [v] [d] := .cons h .nil
/-- ints by themselves -/
theorem DvL.ints (ns : List Int) : DvL S H (ns.map V.int) (ns.map PyData.int) := by
  induction ns with
  | nil => exact .nil
  | cons n ns ih => exact .cons (.int n) ih
theorem DvL.ints_inv {vs : List V} {ns : List Int} (h : DvL S H vs (ns.map PyData.int)) : vs = ns.map V.int := by
  induction ns generalizing vs with
  | nil => cases h; rfl
  | cons n ns ih =>
    cases h with
    | cons h1 h2 =>
      cases h1
      rw [ih h2]; rfl
theorem DvL.bools_inv {vs : List V} {ns : List Bool} (h : DvL S H vs (ns.map PyData.bool)) : vs = ns.map V.bl := by
  induction ns generalizing vs with
  | nil => cases h; rfl
  | cons n ns ih =>
    cases h with
    | cons h1 h2 =>
      cases h1
      rw [ih h2]; rfl
end
end Kz
set_option Elab.async false
set_option linter.all false
set_option maxRecDepth 100000
set_option maxHeartbeats 4000000
/-! Kz: the data of a def's names, what its expressions, tests and statements come to -/
namespace Kz
open PySem PySem.Spec PyProof.Rows L2

/-- S: addresses that no datum has; Z: those whose objects may be changed; M: what holds of them; Ts: tables of code objects -/
structure Pm where
  S : Addr → Prop
  Z : Addr → Prop
  M : Hp → Prop
  Ts : List Addr
  zs : ∀ a, Z a → S a
  ms : ∀ H H', M H → (∀ a, S a → H' a = H a) → M H'
structure Ok (p : Pm) (H : Hp) : Prop where
  tr : ∀ a, p.S a → ∃ o, H a = some o ∧ NT o
  tb : ∀ P ∈ p.Ts, GxR.TabG H P
  mm : p.M H
theorem Ok.kp {p : Pm} {H H' : Hp} (h : Ok p H) (k : Kp H H') : Ok p H' :=
  ⟨fun a s => let ⟨o, e, n⟩ := h.tr a s; ⟨o, k.at_ a o (fun z => z) e n, n⟩, fun P m => k.tab P (h.tb P m),
    p.ms H H' h.mm fun a s => let ⟨o, e, n⟩ := h.tr a s; by rw [e, k.at_ a o (fun z => z) e n]⟩
/-- what stands in a slot: a datum; a list of this def's own; any one value -/
inductive Sl where
  | dat (d : PyData)
  | own (ds : List PyData)
  | raw (v : V)
  | rng (lo hi : Int)
abbrev Rho := List (Option Sl)
abbrev SO (p : Pm) (O : Addr → Prop) : Addr → Prop := fun a => p.S a ∨ O a
def Has (p : Pm) (O : Addr → Prop) (σ : L2.St) (H : Hp) (i : Nat) : Sl → Prop
  | .dat d => ∃ v, σ[i]? = some (some v) ∧ Dv (SO p O) H v d
  | .own ds => ∃ a xs, σ[i]? = some (some (.ref a)) ∧ O a ∧ H a = some (.lst xs) ∧ DvL (SO p O) H xs ds
  | .raw v => σ[i]? = some (some v)
  | .rng lo hi => ∃ a, σ[i]? = some (some (.ref a)) ∧ ¬ SO p O a ∧ H a = some (.rng lo hi)
/-- a base: a heap, and the lists of this def's own that stood in it -/
structure Bs where
  h : Hp
  o : Addr → Prop
abbrev ZO (p : Pm) (O : Addr → Prop) : Addr → Prop := fun a => p.Z a ∨ O a
structure En (p : Pm) (H0 : Bs) (O : Addr → Prop) (σ : L2.St) (H : Hp) (ρ : Rho) : Prop where
  fr : Kq (ZO p H0.o) H0.h H
  bo : ∀ a, H0.o a → O a
  ok : Ok p H
  ow : ∀ a, O a → (H0.o a ∨ H0.h a = none) ∧ ¬ p.S a ∧ ∃ xs, H a = some (.lst xs)
  sl : ∀ (i : Nat) (s : Sl), ρ[i]? = some (some s) → Has p O σ H i s
  un : ∀ (i j : Nat) (a : Addr) (ds es : List PyData), ρ[i]? = some (some (.own ds)) → ρ[j]? = some (some (.own es)) → σ[i]? = some (some (.ref a)) → σ[j]? = some (some (.ref a)) → i = j
  ln : σ.length = ρ.length
section
variable {p : Pm} {H0 : Bs} {H H' : Hp} {O : Addr → Prop} {σ : L2.St} {ρ : Rho}
theorem so_trk (e : En p H0 O σ H ρ) : ∀ a, SO p O a → ∃ o, H a = some o ∧ NT o := fun a s => by
  rcases s with s | s
  · exact e.ok.tr a s
  · obtain ⟨_, _, xs, h⟩ := e.ow a s
    exact ⟨_, h, nt_lst⟩
theorem so_z : ∀ a, p.Z a → SO p O a := fun a z => .inl (p.zs a z)
theorem so_zo : ∀ a, ZO p O a → SO p O a := fun a z => z.elim (fun z => .inl (p.zs a z)) .inr
theorem Has.kq {i : Nat} {s : Sl} (e : En p H0 O σ H ρ) (h : Has p O σ H i s) (k : Kq p.Z H H') : Has p O σ H' i s := by
  cases s with
  | dat d => obtain ⟨v, h1, h2⟩ := h; exact ⟨v, h1, h2.kq k so_z⟩
  | own ds =>
    obtain ⟨a, xs, h1, h2, h3, h4⟩ := h
    exact ⟨a, xs, h1, h2, k.at_ a _ (fun z => (e.ow a h2).2.1 (p.zs a z)) h3 nt_lst, h4.kq k so_z⟩
  | raw v => exact h
  | rng lo hi =>
    obtain ⟨a, h1, h2, h3⟩ := h
    exact ⟨a, h1, h2, k.at_ a _ (fun z => h2 (so_z a z)) h3 (fun _ q => by cases q)⟩
theorem En.kq (e : En p H0 O σ H ρ) (k : Kq p.Z H H') (o : Ok p H') : En p H0 O σ H' ρ :=
  ⟨e.fr.trans (k.mono fun _ z => .inl z), e.bo, o, fun a z => let ⟨n, ns, xs, h⟩ := e.ow a z; ⟨n, ns, xs, k.at_ a _ (fun q => ns (p.zs a q)) h nt_lst⟩, fun i s h => (e.sl i s h).kq e k, e.un, e.ln⟩
theorem En.kp (e : En p H0 O σ H ρ) (k : Kp H H') : En p H0 O σ H' ρ := e.kq k.up (e.ok.kp k)
end

/-! ### what comes out -/
/-- an expression gives some datum of which P holds -/
def Ex (p : Pm) (te : TE) (ρ : Rho) (P : PyData → Prop) : Prop := ∀ H0 O σ H, En p H0 O σ H ρ → ∀ Q : VK, (∀ v H2 d, Kq p.Z H H2 → Ok p H2 → Dv (SO p O) H2 v d → P d → Q v H2) → te σ H Q
/-- .. just this one -/
abbrev Ed (p : Pm) (te : TE) (ρ : Rho) (d : PyData) : Prop := Ex p te ρ (· = d)
def Ea (p : Pm) (ta : TA) (ρ : Rho) (P : List PyData → Prop) : Prop := ∀ H0 O σ H, En p H0 O σ H ρ → ∀ Q : List V → Hp → Prop, (∀ vs H2 ds, Kq p.Z H H2 → Ok p H2 → DvL (SO p O) H2 vs ds → P ds → Q vs H2) → ta σ H Q
def Et (p : Pm) (tt : TT) (ρ : Rho) (P : Bool → Prop) : Prop := ∀ H0 O σ H, En p H0 O σ H ρ → ∀ Q : Bool → Hp → Prop, (∀ b H2, Kq p.Z H H2 → Ok p H2 → P b → Q b H2) → tt σ H Q
/-- a value that is no datum -/
def Er (p : Pm) (te : TE) (ρ : Rho) (v : V) : Prop := ∀ H0 O σ H, En p H0 O σ H ρ → ∀ Q : VK, (∀ H2, Kq p.Z H H2 → Ok p H2 → Q v H2) → te σ H Q
structure Po where
  N : Rho → Prop
  R : PyData → Prop
  B : Rho → Prop := fun _ => False
  C : Rho → Prop := fun _ => False
def Rn (p : Pm) (ts : TS) (ρ : Rho) (w : Po) : Prop := ∀ H0 O σ H D, En p H0 O σ H ρ → (∀ O' σ' H' ρ', En p H0 O' σ' H' ρ' → w.N ρ' → D.nx σ' H') →
  (∀ v d H', Kq (ZO p H0.o) H0.h H' → Ok p H' → Dv p.S H' v d → w.R d → D.rt v H') → (∀ O' σ' H' ρ', En p H0 O' σ' H' ρ' → w.B ρ' → D.bk σ' H') → (∀ O' σ' H' ρ', En p H0 O' σ' H' ρ' → w.C ρ' → D.ct σ' H') → ts D σ H
section
variable {p : Pm} {ρ : Rho} {ta tb te : TE} {tt : TT}
theorem Ex.imp {P P' : PyData → Prop} (h : Ex p te ρ P) (i : ∀ d, P d → P' d) : Ex p te ρ P' := fun H0 O σ H e Q q => h H0 O σ H e Q fun v H2 d k o x y => q v H2 d k o x (i d y)
theorem Ed.cast {d d' : PyData} (h : Ed p te ρ d) (e : d = d') : Ed p te ρ d' := h.imp fun x z => z.trans e
theorem Et.imp {P P' : Bool → Prop} (h : Et p tt ρ P) (i : ∀ d, P d → P' d) : Et p tt ρ P' := fun H0 O σ H e Q q => h H0 O σ H e Q fun b H2 k o y => q b H2 k o (i b y)
theorem Ea.imp {ta : TA} {P P' : List PyData → Prop} (h : Ea p ta ρ P) (i : ∀ d, P d → P' d) : Ea p ta ρ P' := fun H0 O σ H e Q q => h H0 O σ H e Q fun v H2 d k o x y => q v H2 d k o x (i d y)

/-! ### names, constants, arguments -/
theorem ex_var {i : Nat} {d : PyData} (h : ρ[i]? = some (some (.dat d))) : Ed p (tVar i) ρ d := fun H0 O σ H e Q q => by
  obtain ⟨v, h1, h2⟩ := e.sl i _ h
  exact ⟨v, h1, q v H d (Kq.refl H) e.ok h2 rfl⟩
theorem er_var {i : Nat} {v : V} (h : ρ[i]? = some (some (.raw v))) : Er p (tVar i) ρ v := fun H0 O σ H e Q q => ⟨v, e.sl i _ h, q H (Kq.refl H) e.ok⟩
theorem er_c {v : V} : Er p (tC v) ρ v := fun H0 O σ H e Q q => q H (Kq.refl H) e.ok
theorem ex_int {i : Int} : Ed p (tC (.int i)) ρ (.int i) := fun H0 O σ H e Q q => q _ H _ (Kq.refl H) e.ok (.int i) rfl
theorem ex_bool {b : Bool} : Ed p (tC (.bl b)) ρ (.bool b) := fun H0 O σ H e Q q => q _ H _ (Kq.refl H) e.ok (.bl b) rfl
theorem ex_none : Ed p (tC .non) ρ .none := fun H0 O σ H e Q q => q _ H _ (Kq.refl H) e.ok .non rfl
theorem ex_str {x : Str} : Ed p (tC (.str x)) ρ (.str x) := fun H0 O σ H e Q q => q _ H _ (Kq.refl H) e.ok (.str x) rfl
theorem ea_nil : Ea p tNil ρ (· = []) := fun H0 O σ H e Q q => q [] H [] (Kq.refl H) e.ok .nil rfl
theorem ea_cons {tr : TA} {P : PyData → Prop} {P' : List PyData → Prop} (h : Ex p ta ρ P) (k : Ea p tr ρ P') : Ea p (tCons ta tr) ρ (fun l => ∃ d r, l = d :: r ∧ P d ∧ P' r) := fun H0 O σ H e Q q => by
  refine h H0 O σ H e _ fun v H2 d k2 o2 hd pd => ?_
  refine k H0 O σ H2 (e.kq k2 o2) _ fun vs H3 ds k3 o3 hds pds => ?_
  exact q (v :: vs) H3 (d :: ds) (k2.trans k3) o3 (.cons (hd.kq k3 so_z) hds) ⟨d, ds, rfl, pd, pds⟩
theorem ea_one {d : PyData} (h : Ed p ta ρ d) : Ea p (tCons ta tNil) ρ (· = [d]) := (ea_cons h ea_nil).imp fun l ⟨x, r, e, e1, e2⟩ => by rw [e, e1, e2]
theorem ea_consD {tr : TA} {d : PyData} {ds : List PyData} (h : Ed p ta ρ d) (k : Ea p tr ρ (· = ds)) : Ea p (tCons ta tr) ρ (· = d :: ds) := (ea_cons h k).imp fun l ⟨x, r, e, e1, e2⟩ => by rw [e, e1, e2]
theorem ea_oneX {P : PyData → Prop} (h : Ex p ta ρ P) : Ea p (tCons ta tNil) ρ (fun l => ∃ d, l = [d] ∧ P d) := (ea_cons h ea_nil).imp fun l ⟨x, r, e, e1, e2⟩ => ⟨x, by rw [e, e2], e1⟩

/-! ### displays -/
theorem ex_tup {t : TA} {P : List PyData → Prop} (h : Ea p t ρ P) (hs : ∀ ds, P ds → ds.length ≤ 1000) : Ex p (tTup t) ρ (fun d => ∃ ds, d = .tuple ds ∧ P ds) := fun H0 O σ H e Q q => by
  refine h H0 O σ H e _ fun vs H2 ds k2 o2 hds pds => ?_
  have e2 := e.kq k2 o2
  refine ⟨by rw [hds.length]; exact Nat.le_trans (hs ds pds) (by decide), fun a na => ?_⟩
  have kn : Kp H2 (upd H2 a (.tup vs)) := Kq.new na
  refine q _ _ (.tuple ds) (k2.trans kn.up) (o2.kp kn) (.tup (fun z => ?_) upd_same (hds.kp kn)) ⟨ds, rfl, pds⟩
  obtain ⟨o, ho, _⟩ := so_trk e2 a z
  rw [na] at ho; cases ho
theorem ed_tup {t : TA} {ds : List PyData} (h : Ea p t ρ (· = ds)) (hs : ds.length ≤ 1000 := by decide) : Ed p (tTup t) ρ (.tuple ds) := (ex_tup h fun l e => by rw [e]; exact hs).imp fun d ⟨l, e, e'⟩ => by rw [e, e']
theorem ex_lst {t : TA} {P : List PyData → Prop} (h : Ea p t ρ P) (hs : ∀ ds, P ds → ds.length ≤ 1000) : Ex p (tLst t) ρ (fun d => ∃ ds, d = .list ds ∧ P ds) := fun H0 O σ H e Q q => by
  refine h H0 O σ H e _ fun vs H2 ds k2 o2 hds pds => ?_
  have e2 := e.kq k2 o2
  refine ⟨by rw [hds.length]; exact Nat.le_trans (hs ds pds) (by decide), fun a na => ?_⟩
  have kn : Kp H2 (upd H2 a (.lst vs)) := Kq.new na
  refine q _ _ (.list ds) (k2.trans kn.up) (o2.kp kn) (.lst (fun z => ?_) upd_same (hds.kp kn)) ⟨ds, rfl, pds⟩
  obtain ⟨o, ho, _⟩ := so_trk e2 a z
  rw [na] at ho; cases ho
theorem ed_lst {t : TA} {ds : List PyData} (h : Ea p t ρ (· = ds)) (hs : ds.length ≤ 1000 := by decide) : Ed p (tLst t) ρ (.list ds) := (ex_lst h fun l e => by rw [e]; exact hs).imp fun d ⟨l, e, e'⟩ => by rw [e, e']

/-! ### operators -/
/-- a rule on two values: from data d, e it gives a datum of which P holds -/
def R2x (p : Pm) (r : R2) (d e : PyData) (P : PyData → Prop) : Prop := ∀ H0 O σ (ρ : Rho) H x y, En p H0 O σ H ρ → Dv (SO p O) H x d → Dv (SO p O) H y e → ∀ Q : VK, (∀ v H2 f, Kq p.Z H H2 → Ok p H2 → Dv (SO p O) H2 v f → P f → Q v H2) → r x y H Q
theorem ex_op {r : R2} {P1 P2 P : PyData → Prop} (h : Ex p ta ρ P1) (k : Ex p tb ρ P2) (hr : ∀ d e, P1 d → P2 e → R2x p r d e P) : Ex p (tOp r ta tb) ρ P := fun H0 O σ H e Q q => by
  refine h H0 O σ H e _ fun v H2 d k2 o2 hd pd => ?_
  have e2 := e.kq k2 o2
  refine k H0 O σ H2 e2 _ fun u H3 d' k3 o3 hd' pd' => ?_
  exact hr d d' pd pd' H0 O σ ρ H3 v u (e2.kq k3 o3) (hd.kq k3 so_z) hd' Q fun v H4 f k4 o4 hv pf => q v H4 f ((k2.trans k3).trans k4) o4 hv pf
theorem ed_op {r : R2} {d e : PyData} {P : PyData → Prop} (h : Ed p ta ρ d) (k : Ed p tb ρ e) (hr : R2x p r d e P) : Ex p (tOp r ta tb) ρ P := ex_op h k fun _ _ e1 e2 => by rw [e1, e2]; exact hr
theorem r2_I0 {g : Int → Int → V} {g' : Int → Int → PyData} {i j : Int} (h : ∀ S H, Dv S H (g i j) (g' i j)) : R2x p (rI0 g) (.int i) (.int j) (· = g' i j) := fun H0 O σ ρ H x y e hx hy Q q => by
  cases hx; cases hy
  exact ⟨i, j, rfl, rfl, q _ H _ (Kq.refl H) e.ok (h _ _) rfl⟩
theorem r2_I {C : Int → Int → Prop} {g : Int → Int → V} {g' : Int → Int → PyData} {i j : Int} (hc : C i j) (h : ∀ S H, Dv S H (g i j) (g' i j)) : R2x p (rI C g) (.int i) (.int j) (· = g' i j) := fun H0 O σ ρ H x y e hx hy Q q => by
  cases hx; cases hy
  exact ⟨i, j, rfl, rfl, hc, q _ H _ (Kq.refl H) e.ok (h _ _) rfl⟩
theorem ed_add {i j : Int} (h : Ed p ta ρ (.int i)) (k : Ed p tb ρ (.int j)) : Ed p (tOp (rI0 fun i j => .int (i + j)) ta tb) ρ (.int (i + j)) := ed_op h k (r2_I0 (g' := fun i j => .int (i + j)) fun _ _ => .int _)
theorem ed_sub {i j : Int} (h : Ed p ta ρ (.int i)) (k : Ed p tb ρ (.int j)) : Ed p (tOp (rI0 fun i j => .int (i - j)) ta tb) ρ (.int (i - j)) := ed_op h k (r2_I0 (g' := fun i j => .int (i - j)) fun _ _ => .int _)
theorem ed_mul {i j : Int} (h : Ed p ta ρ (.int i)) (k : Ed p tb ρ (.int j)) (hb : CMul i j) : Ed p (tOp (rI CMul fun i j => .int (i * j)) ta tb) ρ (.int (i * j)) := ed_op h k (r2_I (g' := fun i j => .int (i * j)) hb fun _ _ => .int _)
theorem ed_cmp {c : Int → Int → Bool} {i j : Int} (h : Ed p ta ρ (.int i)) (k : Ed p tb ρ (.int j)) : Ed p (tOp (rI0 fun i j => .bl (c i j)) ta tb) ρ (.bool (c i j)) := ed_op h k (r2_I0 (g' := fun i j => .bool (c i j)) fun _ _ => .bl _)
theorem ed_and {i j : Int} (h : Ed p ta ρ (.int i)) (k : Ed p tb ρ (.int j)) : Ed p (tOp (rI0 fun i j => .int (Builtin.bitAnd i j)) ta tb) ρ (.int (Builtin.bitAnd i j)) := ed_op h k (r2_I0 (g' := fun i j => .int (Builtin.bitAnd i j)) fun _ _ => .int _)
theorem ed_neg {i : Int} (h : Ed p ta ρ (.int i)) : Ed p (tUn (rU fun i => .int (-i)) ta) ρ (.int (-i)) := fun H0 O σ H e Q q => by
  refine h H0 O σ H e _ fun v H2 d k2 o2 hd pd => ?_
  subst pd
  cases hd
  exact ⟨i, rfl, q _ H2 _ k2 o2 (.int _) rfl⟩
/-- an item of a tuple -/
theorem ed_ixT {K : PySem.W.Frag} {ds : List PyData} {i : Int} {d : PyData} (h : Ed p ta ρ (.tuple ds)) (k : Ed p tb ρ (.int i)) (hi : atI ds i = some d) : Ed p (tOp (rIxT K) ta tb) ρ d :=
  ed_op h k fun H0 O σ ρ H x y e hx hy Q q => by
    cases hx with
    | tup n ea r =>
      cases hy
      unfold atI at hi
      rw [← r.length] at hi
      obtain ⟨j, hj, e2⟩ := Option.bind_eq_some_iff.mp hi
      obtain ⟨v, hv, hd⟩ := r.getD e2
      exact ⟨_, _, i, v, rfl, rfl, .inl (.inl ea), by unfold atI; rw [hj]; exact hv, q v H d (Kq.refl H) e.ok hd rfl⟩
theorem ed_ixL {K : PySem.W.Frag} {ds : List PyData} {i : Int} {d : PyData} (h : Ed p ta ρ (.list ds)) (k : Ed p tb ρ (.int i)) (hi : atI ds i = some d) : Ed p (tOp (rIxL K) ta tb) ρ d :=
  ed_op h k fun H0 O σ ρ H x y e hx hy Q q => by
    cases hx with
    | lst n ea r =>
      cases hy
      unfold atI at hi
      rw [← r.length] at hi
      obtain ⟨j, hj, e2⟩ := Option.bind_eq_some_iff.mp hi
      obtain ⟨v, hv, hd⟩ := r.getD e2
      exact ⟨_, _, i, v, rfl, rfl, .inl (.inl ea), by unfold atI; rw [hj]; exact hv, q v H d (Kq.refl H) e.ok hd rfl⟩

/-! ### tests -/
theorem et_test {b : Bool} (h : Ed p te ρ (.bool b)) : Et p (tTest te) ρ (· = b) := fun H0 O σ H e Q q => by
  refine h H0 O σ H e _ fun v H2 d k2 o2 hd pd => ?_
  subst pd
  cases hd
  exact ⟨b, rfl, q b H2 k2 o2 rfl⟩
theorem et_B {b : Bool} (h : Ed p te ρ (.bool b)) : Et p (tB te) ρ (· = b) := et_test h
theorem et_testX {P : PyData → Prop} {P' : Bool → Prop} (h : Ex p te ρ P) (hb : ∀ d, P d → ∃ b, d = .bool b ∧ P' b) : Et p (tTest te) ρ P' := fun H0 O σ H e Q q => by
  refine h H0 O σ H e _ fun v H2 d k2 o2 hd pd => ?_
  obtain ⟨b, rfl, pb⟩ := hb d pd
  cases hd
  exact ⟨b, rfl, q b H2 k2 o2 pb⟩
theorem et_not {P : Bool → Prop} (h : Et p tt ρ P) : Et p (tNot tt) ρ (fun b => P (!b)) := fun H0 O σ H e Q q => h H0 O σ H e _ fun b H2 k o pb => q (!b) H2 k o (show P (!!b) by rw [Bool.not_not]; exact pb)
theorem et_notD {b : Bool} (h : Et p tt ρ (· = b)) : Et p (tNot tt) ρ (· = !b) := (et_not h).imp fun c e => by rw [← e, Bool.not_not]
theorem et_and {tu : TT} {a b : Bool} (h : Et p tt ρ (· = a)) (k : a = true → Et p tu ρ (· = b)) : Et p (tAnd tt tu) ρ (· = (a && b)) := fun H0 O σ H e Q q => by
  refine h H0 O σ H e _ fun c H2 k2 o2 pc => ?_
  subst pc
  cases c with
  | false => exact q false H2 k2 o2 rfl
  | true => exact k rfl H0 O σ H2 (e.kq k2 o2) _ fun d H3 k3 o3 pd => q d H3 (k2.trans k3) o3 (by rw [pd]; rfl)
theorem et_or {tu : TT} {a b : Bool} (h : Et p tt ρ (· = a)) (k : a = false → Et p tu ρ (· = b)) : Et p (tOr tt tu) ρ (· = (a || b)) := fun H0 O σ H e Q q => by
  refine h H0 O σ H e _ fun c H2 k2 o2 pc => ?_
  subst pc
  cases c with
  | true => exact q true H2 k2 o2 rfl
  | false => exact k rfl H0 O σ H2 (e.kq k2 o2) _ fun d H3 k3 o3 pd => q d H3 (k2.trans k3) o3 (by rw [pd]; rfl)
theorem ed_andV {a : Bool} {P : PyData → Prop} (h : Ed p ta ρ (.bool a)) (k1 : a = true → Ex p tb ρ P) (k2 : a = false → P (.bool false)) : Ex p (tAndV ta tb) ρ P := fun H0 O σ H e Q q => by
  refine h H0 O σ H e _ fun v H2 d k o hd pd => ?_
  subst pd
  cases hd
  refine ⟨a, rfl, ?_⟩
  cases a with
  | true => exact k1 rfl H0 O σ H2 (e.kq k o) _ fun v H3 d k3 o3 hd pd => q v H3 d (k.trans k3) o3 hd pd
  | false => exact q _ H2 _ k o (.bl false) (k2 rfl)
theorem ed_notV {a : Bool} (h : Ed p ta ρ (.bool a)) : Ed p (tNotV ta) ρ (.bool (!a)) := fun H0 O σ H e Q q => by
  refine h H0 O σ H e _ fun v H2 d k o hd pd => ?_
  subst pd
  cases hd
  exact ⟨a, rfl, q _ H2 _ k o (.bl _) rfl⟩
theorem ex_ifE {Pt : Bool → Prop} {P : PyData → Prop} (h : Et p tt ρ Pt) (k1 : Pt true → Ex p ta ρ P) (k2 : Pt false → Ex p tb ρ P) : Ex p (tIf tt ta tb) ρ P := fun H0 O σ H e Q q => by
  refine h H0 O σ H e _ fun c H2 k o pc => ?_
  cases c with
  | true => exact k1 pc H0 O σ H2 (e.kq k o) _ fun v H3 d k3 o3 hd pd => q v H3 d (k.trans k3) o3 hd pd
  | false => exact k2 pc H0 O σ H2 (e.kq k o) _ fun v H3 d k3 o3 hd pd => q v H3 d (k.trans k3) o3 hd pd
theorem ed_isN {d : PyData} {b : Bool} (h : Ed p ta ρ d) (hb : b = match d with | .none => true | _ => false) : Ed p (tIsN ta) ρ (.bool b) := fun H0 O σ H e Q q => by
  refine h H0 O σ H e _ fun v H2 d' k o hd pd => ?_
  subst pd
  have e2 : decide (v = V.non) = b := by
    rw [hb]
    cases hd <;> first | rfl | exact decide_eq_false (fun z => by cases z)
  rw [e2]
  exact q _ H2 _ k o (.bl _) rfl
end
end Kz
set_option Elab.async false
set_option linter.all false
set_option maxRecDepth 100000
set_option maxHeartbeats 4000000
namespace Kz
open PySem PySem.Spec PyProof.Rows L2

section
variable {p : Pm} {ρ : Rho} {ta tb te : TE} {tt : TT}
/-! ### built-ins by values -/
def Bc (p : Pm) (r : List V → Hp → VK → Prop) (ds : List PyData) (P : PyData → Prop) : Prop := ∀ H0 O σ (ρ : Rho) H vs, En p H0 O σ H ρ → DvL (SO p O) H vs ds → ∀ Q : VK, (∀ v H2 f, Kq p.Z H H2 → Ok p H2 → Dv (SO p O) H2 v f → P f → Q v H2) → r vs H Q
theorem ex_cb {r : List V → Hp → VK → Prop} {t : TA} {Pa : List PyData → Prop} {P : PyData → Prop} (h : Ea p t ρ Pa) (k : ∀ ds, Pa ds → Bc p r ds P) : Ex p (tCB r t) ρ P := fun H0 O σ H e Q q => by
  refine h H0 O σ H e _ fun vs H2 ds k2 o2 hd pd => ?_
  exact k ds pd H0 O σ ρ H2 vs (e.kq k2 o2) hd Q fun v H3 f k3 o3 hv pf => q v H3 f (k2.trans k3) o3 hv pf
theorem ed_cb {r : List V → Hp → VK → Prop} {t : TA} {ds : List PyData} {P : PyData → Prop} (h : Ea p t ρ (· = ds)) (k : Bc p r ds P) : Ex p (tCB r t) ρ P := ex_cb h fun _ e => by rw [e]; exact k
theorem DvL.one_inv {S : Addr → Prop} {H : Hp} {vs : List V} {d : PyData} (h : DvL S H vs [d]) : ∃ v, vs = [v] ∧ Dv S H v d := by
  cases h with
  | cons h1 h2 => cases h2; exact ⟨_, rfl, h1⟩
theorem DvL.two_inv {S : Addr → Prop} {H : Hp} {vs : List V} {d e : PyData} (h : DvL S H vs [d, e]) : ∃ v w, vs = [v, w] ∧ Dv S H v d ∧ Dv S H w e := by
  cases h with
  | cons h1 h2 =>
    obtain ⟨w, rfl, hw⟩ := h2.one_inv
    exact ⟨_, w, rfl, h1, hw⟩
/-- a list or tuple -/
inductive SeqD : PyData → List PyData → Prop
  | l (ds : List PyData) : SeqD (.list ds) ds
  | t (ds : List PyData) : SeqD (.tuple ds) ds
theorem bc_len {K : PySem.W.Frag} {d : PyData} {ds : List PyData} (s : SeqD d ds) : Bc p (fun xs H Q => ∃ p ys, xs = [.ref p] ∧ (SqL K H p ys ∨ SqT K H p ys) ∧ Q (.int ys.length) H) [d] (· = .int ds.length) := fun H0 O σ ρ H vs e hv Q q => by
  obtain ⟨v, rfl, hw⟩ := hv.one_inv
  cases s with
  | l => cases hw with
    | lst n ea r => exact ⟨_, _, rfl, .inl (.inl (.inl ea)), by rw [r.length]; exact q _ H _ (Kq.refl H) e.ok (.int _) rfl⟩
  | t => cases hw with
    | tup n ea r => exact ⟨_, _, rfl, .inr (.inl (.inl ea)), by rw [r.length]; exact q _ H _ (Kq.refl H) e.ok (.int _) rfl⟩
theorem fresh_so {H0 : Bs} {H : Hp} {O : Addr → Prop} {σ : L2.St} (e : En p H0 O σ H ρ) {a : Addr} (h : H a = none) : ¬ SO p O a := fun z => by
  obtain ⟨o, ho, _⟩ := so_trk e a z
  rw [h] at ho; cases ho
theorem bc_tuple {K : PySem.W.Frag} {d : PyData} {ds : List PyData} (s : SeqD d ds) : Bc p (fun xs H Q => ∃ p ys, xs = [.ref p] ∧ ((SqL K H p ys ∧ ∀ l, H l = none → Q (.ref l) (upd H l (.tup ys))) ∨ (SqT K H p ys ∧ Q (.ref p) H))) [d] (· = .tuple ds) := fun H0 O σ ρ H vs e hv Q q => by
  obtain ⟨v, rfl, hw⟩ := hv.one_inv
  cases s with
  | l => cases hw with
    | lst n ea r => exact ⟨_, _, rfl, .inl ⟨.inl (.inl ea), fun l hl => q _ _ _ (Kq.new hl) (e.ok.kp (Kq.new hl)) (.tup (fresh_so e hl) upd_same (r.kp (Kq.new hl))) rfl⟩⟩
  | t => cases hw with
    | tup n ea r => exact ⟨_, _, rfl, .inr ⟨.inl (.inl ea), q _ H _ (Kq.refl H) e.ok (.tup n ea r) rfl⟩⟩
theorem bc_list {K : PySem.W.Frag} {d : PyData} {ds : List PyData} (s : SeqD d ds) : Bc p (fun xs H Q => ∃ p ys, xs = [.ref p] ∧ (SqL K H p ys ∨ SqT K H p ys) ∧ ∀ l, H l = none → Q (.ref l) (upd H l (.lst ys))) [d] (· = .list ds) := fun H0 O σ ρ H vs e hv Q q => by
  obtain ⟨v, rfl, hw⟩ := hv.one_inv
  cases s with
  | l => cases hw with
    | lst n ea r => exact ⟨_, _, rfl, .inl (.inl (.inl ea)), fun l hl => q _ _ _ (Kq.new hl) (e.ok.kp (Kq.new hl)) (.lst (fresh_so e hl) upd_same (r.kp (Kq.new hl))) rfl⟩
  | t => cases hw with
    | tup n ea r => exact ⟨_, _, rfl, .inr (.inl (.inl ea)), fun l hl => q _ _ _ (Kq.new hl) (e.ok.kp (Kq.new hl)) (.lst (fresh_so e hl) upd_same (r.kp (Kq.new hl))) rfl⟩
theorem bc_int {i : Int} : Bc p (fun xs H Q => (∃ i, xs = [.int i] ∧ Q (.int i) H) ∨ ∃ k, xs = [.bl k] ∧ Q (.int (if k then 1 else 0)) H) [.int i] (· = .int i) := fun H0 O σ ρ H vs e hv Q q => by
  obtain ⟨v, rfl, hw⟩ := hv.one_inv
  cases hw
  exact .inl ⟨i, rfl, q _ H _ (Kq.refl H) e.ok (.int i) rfl⟩
theorem bc_intB {b : Bool} : Bc p (fun xs H Q => (∃ i, xs = [.int i] ∧ Q (.int i) H) ∨ ∃ k, xs = [.bl k] ∧ Q (.int (if k then 1 else 0)) H) [.bool b] (· = .int (if b then 1 else 0)) := fun H0 O σ ρ H vs e hv Q q => by
  obtain ⟨v, rfl, hw⟩ := hv.one_inv
  cases hw
  exact .inr ⟨b, rfl, q _ H _ (Kq.refl H) e.ok (.int _) rfl⟩
theorem bc_sum {K : PySem.W.Frag} {ns : List Int} : Bc p (rSum K) [.list (ns.map .int)] (· = .int ns.sum) := fun H0 O σ ρ H vs e hv Q q => by
  obtain ⟨v, rfl, hw⟩ := hv.one_inv
  cases hw with
  | lst n ea r =>
    have er := r.ints_inv
    subst er
    exact ⟨_, ns, rfl, .inl (.inl ea), q _ H _ (Kq.refl H) e.ok (.int _) rfl⟩
theorem bc_max {K : PySem.W.Frag} {ns : List Int} (h0 : 0 < ns.length) : Bc p (rMax K) [.list (ns.map .int)] (fun d => ∃ m, d = .int m ∧ m ∈ ns ∧ ∀ y ∈ ns, y ≤ m) := fun H0 O σ ρ H vs e hv Q q => by
  obtain ⟨v, rfl, hw⟩ := hv.one_inv
  cases hw with
  | lst n ea r =>
    have er := r.ints_inv
    subst er
    exact ⟨_, ns, rfl, .inl (.inl ea), h0, fun m hm hy => q _ H _ (Kq.refl H) e.ok (.int _) ⟨m, rfl, hm, hy⟩⟩
theorem bc_all {K : PySem.W.Frag} {bs : List Bool} : Bc p (rAll K) [.list (bs.map .bool)] (· = .bool (bs.all id)) := fun H0 O σ ρ H vs e hv Q q => by
  obtain ⟨v, rfl, hw⟩ := hv.one_inv
  cases hw with
  | lst n ea r =>
    have er := r.bools_inv
    subst er
    exact ⟨_, bs, rfl, .inl (.inl ea), q _ H _ (Kq.refl H) e.ok (.bl _) rfl⟩
theorem bc_abs {i : Int} : Bc p (fun xs H Q => ∃ i, xs = [.int i] ∧ Q (.int (if i < 0 then -i else i)) H) [.int i] (· = .int (if i < 0 then -i else i)) := fun H0 O σ ρ H vs e hv Q q => by
  obtain ⟨v, rfl, hw⟩ := hv.one_inv
  cases hw
  exact ⟨i, rfl, q _ H _ (Kq.refl H) e.ok (.int _) rfl⟩
theorem bc_max2 {i j : Int} : Bc p (fun xs H Q => ∃ i j, xs = [.int i, .int j] ∧ Q (.int (if j > i then j else i)) H) [.int i, .int j] (· = .int (if j > i then j else i)) := fun H0 O σ ρ H vs e hv Q q => by
  obtain ⟨v, w, rfl, hw, hw'⟩ := hv.two_inv
  cases hw; cases hw'
  exact ⟨i, j, rfl, q _ H _ (Kq.refl H) e.ok (.int _) rfl⟩

/-! ### isinstance with a built-in type -/
def tyD : PyData → String
  | .none => "NoneType"
  | .bool _ => "bool"
  | .int _ => "int"
  | .str _ => "str"
  | .list _ => "list"
  | .tuple _ => "tuple"
  | .dict _ => "dict"
theorem tyx {K : PySem.W.Frag} {S : Addr → Prop} {H : Hp} {v : V} {d : PyData} (h : Dv S H v d) : TyX K H v (.type (tyD d)) := by
  cases h with
  | non => exact .base .non
  | bl b => exact .base (.bl b)
  | int i => exact .base (.int i)
  | str x => exact .base (.str x)
  | lst _ e _ => exact .base (.lst e)
  | tup _ e _ => exact .base (.tup e)
  | dct _ e _ => exact .base (.dK e)
theorem ed_isi {K : PySem.W.Frag} {d : PyData} {T : String} {b : Bool} (h : Ed p ta ρ d) (k : Er p tb ρ (.ty T)) (hb : kitB (tyD d) T = some b) : Ed p (tCB (rIsi K) (tCons ta (tCons tb tNil))) ρ (.bool b) := fun H0 O σ H e Q q => by
  refine h H0 O σ H e _ fun v H2 d' k2 o2 hd pd => ?_
  subst pd
  refine k H0 O σ H2 (e.kq k2 o2) _ fun H3 k3 o3 => ?_
  exact ⟨v, .ty T, _, _, b, rfl, .ty T, tyx (hd.kq k3 so_z), kit_ty hb, q _ H3 _ (k2.trans k3) o3 (.bl b) rfl⟩

/-! ### slices, sums of tuples -/
def cutD (ds : List PyData) (lo hi : Option Int) : List PyData := (ds.drop (HT.sIx ds.length 0 lo)).take (HT.sIx ds.length ds.length hi - HT.sIx ds.length 0 lo)
def Eo (p : Pm) (to : TO) (ρ : Rho) (o : Option Int) : Prop := ∀ H0 O σ H, En p H0 O σ H ρ → ∀ Q : Option Int → Hp → Prop, (∀ H2, Kq p.Z H H2 → Ok p H2 → Q o H2) → to σ H Q
theorem eo_no : Eo p tNoPart ρ none := fun H0 O σ H e Q q => q H (Kq.refl H) e.ok
theorem eo_part {i : Int} (h : Ed p ta ρ (.int i)) : Eo p (tPart ta) ρ (some i) := fun H0 O σ H e Q q => by
  refine h H0 O σ H e _ fun v H2 d k2 o2 hd pd => ?_
  subst pd
  cases hd
  exact ⟨i, rfl, q H2 k2 o2⟩
theorem ed_slT {K : PySem.W.Frag} {tl th : TO} {ds : List PyData} {lo hi : Option Int} (h : Ed p ta ρ (.tuple ds)) (hl : Eo p tl ρ lo) (hh : Eo p th ρ hi) : Ed p (tSl (rSlA K) ta tl th) ρ (.tuple (cutD ds lo hi)) := fun H0 O σ H e Q q => by
  refine h H0 O σ H e _ fun v H2 d k2 o2 hd pd => ?_
  subst pd
  have e2 := e.kq k2 o2
  refine hl H0 O σ H2 e2 _ fun H3 k3 o3 => ?_
  have e3 := e2.kq k3 o3
  refine hh H0 O σ H3 e3 _ fun H4 k4 o4 => ?_
  have e4 := e3.kq k4 o4
  have hd4 := (hd.kq k3 so_z).kq k4 so_z
  cases hd4 with
  | @tup a xs _ n ea r =>
    have hlen := r.length
    have hcut : DvL (SO p O) H4 (cutV xs lo hi) (cutD ds lo hi) := by
      unfold cutV cutD
      rw [hlen]
      exact (r.drop _).take _
    refine ⟨a, xs, rfl, .inl (.inl ea), fun hw => ?_, fun _ l hl => ?_⟩
    · have e5 : cutV xs lo hi = xs := by
        unfold cutV
        rw [hw.1, hw.2]
        simp
      rw [e5] at hcut
      exact q _ H4 _ ((k2.trans k3).trans k4) o4 (.tup n ea hcut) rfl
    · exact q _ _ _ (((k2.trans k3).trans k4).trans (Kq.new hl)) (o4.kp (Kq.new hl)) (.tup (fresh_so e4 hl) upd_same (hcut.kp (Kq.new hl))) rfl
theorem ed_catT {K : PySem.W.Frag} {ds es : List PyData} (h : Ed p ta ρ (.tuple ds)) (k : Ed p tb ρ (.tuple es)) (hz : ds.length + es.length ≤ 10000) : Ed p (tOp (rCatA K) ta tb) ρ (.tuple (ds ++ es)) := ed_op h k fun H0 O σ ρ H x y e hx hy Q q => by
  cases hx with
  | @tup a xs _ n ea r =>
    cases hy with
    | @tup b ys _ m eb r' =>
      have l1 := r.length
      have l2 := r'.length
      refine ⟨a, b, xs, ys, rfl, rfl, .inl (.inl ea), .inl (.inl eb), Nat.le_trans (by omega) (show 10000 ≤ sizeLine by decide), fun h0 => ?_, fun _ h0 => ?_, fun _ _ l hl => ?_⟩
      · subst h0
        cases ds with
        | nil => exact q _ H _ (Kq.refl H) e.ok (.tup m eb r') rfl
        | cons _ _ => simp at l1
      · subst h0
        cases es with
        | nil => exact q _ H _ (Kq.refl H) e.ok (.tup n ea (by rw [List.append_nil]; exact r)) rfl
        | cons _ _ => simp at l2
      · exact q _ _ _ (Kq.new hl) (e.ok.kp (Kq.new hl)) (.tup (fresh_so e hl) upd_same ((r.append r').kp (Kq.new hl))) rfl
theorem ed_eqI {i j : Int} (h : Ed p ta ρ (.int i)) (k : Ed p tb ρ (.int j)) : Ed p (tOp rEq ta tb) ρ (.bool (decide (i = j))) := ed_op h k fun H0 O σ ρ H x y e hx hy Q q => by
  cases hx; cases hy
  refine ⟨rfl, ?_⟩
  have e1 : decide (V.int i = V.int j) = decide (i = j) := by simp
  rw [e1]
  exact q _ H _ (Kq.refl H) e.ok (.bl _) rfl
theorem ed_neI {i j : Int} (h : Ed p ta ρ (.int i)) (k : Ed p tb ρ (.int j)) : Ed p (tOp rNe ta tb) ρ (.bool (!decide (i = j))) := ed_op h k fun H0 O σ ρ H x y e hx hy Q q => by
  cases hx; cases hy
  refine ⟨rfl, ?_⟩
  have e1 : decide (V.int i = V.int j) = decide (i = j) := by simp
  rw [e1]
  exact q _ H _ (Kq.refl H) e.ok (.bl _) rfl
theorem ed_neS {i j : Str} (h : Ed p ta ρ (.str i)) (k : Ed p tb ρ (.str j)) : Ed p (tOp rNe ta tb) ρ (.bool (!decide (i = j))) := ed_op h k fun H0 O σ ρ H x y e hx hy Q q => by
  cases hx; cases hy
  refine ⟨rfl, ?_⟩
  have e1 : decide (V.str i = V.str j) = decide (i = j) := by simp
  rw [e1]
  exact q _ H _ (Kq.refl H) e.ok (.bl _) rfl
/-- an int in or not in a tuple of ints -/
theorem ed_inI {K : PySem.W.Frag} {neg : Bool} {i : Int} {ns : List Int} (h : Ed p ta ρ (.int i)) (k : Ed p tb ρ (.tuple (ns.map .int))) : Ed p (tOp (rIn K neg) ta tb) ρ (.bool (if neg then !ns.contains i else ns.contains i)) := ed_op h k fun H0 O σ ρ H x y e hx hy Q q => by
  cases hx
  cases hy with
  | tup n ea r =>
    have er := r.ints_inv
    subst er
    refine ⟨_, _, rfl, .inr (.inl (.inl ea)), rfl, ?_, ?_⟩
    · rw [List.all_map]
      exact List.all_eq_true.mpr fun _ _ => rfl
    · have e1 : inV (.int i) (ns.map V.int) = ns.contains i := by
        unfold inV
        rw [List.any_map, List.contains_eq_any_beq]
        congr 1
        funext j
        show (j == i) = (i == j)
        rw [Bool.eq_iff_iff, beq_iff_eq, beq_iff_eq]
        exact eq_comm
      rw [e1]
      exact q _ H _ (Kq.refl H) e.ok (.bl _) rfl
end
end Kz
set_option Elab.async false
set_option linter.all false
set_option maxRecDepth 100000
set_option maxHeartbeats 4000000
namespace Kz
open PySem PySem.Spec PyProof.Rows L2

/-! ### what is walked -/
/-- a later heap; the list of this def's own at O' may have come -/
structure Lat (p : Pm) (O : Addr → Prop) (Hs : Hp) (O' : Addr → Prop) (H' : Hp) : Prop where
  k : Kq (ZO p O) Hs H'
  up : ∀ a, O a → O' a
  new : ∀ a, O' a → O a ∨ Hs a = none
  ok : Ok p H'
  ow : ∀ a, O' a → ∃ xs, H' a = some (.lst xs)
structure Wk (p : Pm) (O : Addr → Prop) (Hs : Hp) (J : It) (ds : List PyData) : Prop where
  go : ∀ O' H' i, Lat p O Hs O' H' → i < ds.length → J.go i H'
  stop : ∀ O' H', Lat p O Hs O' H' → J.stop ds.length H'
  yld : ∀ O' H' i x H'' d, Lat p O Hs O' H' → ds[i]? = some d → J.yld i H' x H'' → Kp H' H'' ∧ Dv (SO p O') H'' x d
def Ii (p : Pm) (wi : TI) (ρ : Rho) (P : List PyData → Prop) : Prop := ∀ H0 O σ H, En p H0 O σ H ρ → ∀ R : It → Hp → Prop, (∀ J H2 ds, Kq p.Z H H2 → Ok p H2 → P ds → Wk p O H2 J ds → R J H2) → wi σ H R
section
variable {p : Pm} {ρ : Rho} {ta tb te : TE} {tt : TT} {H0 : Bs} {H Hs H' : Hp} {O O' : Addr → Prop} {σ : L2.St}
theorem Lat.dv {v : V} {d : PyData} (l : Lat p O Hs O' H') (h : Dv (SO p O) Hs v d) : Dv (SO p O') H' v d := h.map (fun a n t z => by
    rcases z with z | z
    · exact n (.inl z)
    · rcases l.new a z with z | z
      · exact n (.inr z)
      · exact t z) fun a o n e t => l.k.at_ a o (fun z => n (so_zo a z)) e t
theorem Lat.fresh {a : Addr} (l : Lat p O Hs O' H') (h : H' a = none) : ¬ SO p O' a := fun z => by
  rcases z with z | z
  · obtain ⟨o, e, _⟩ := l.ok.tr a z
    rw [h] at e; cases e
  · obtain ⟨xs, e⟩ := l.ow a z
    rw [h] at e; cases e
theorem Lat.refl (e : En p H0 O σ H ρ) : Lat p O H O H := ⟨Kq.refl H, fun _ h => h, fun _ h => .inl h, e.ok, fun a h => (e.ow a h).2.2⟩
theorem tup_stays {a : Addr} {xs : List V} (l : Lat p O Hs O' H') (n : ¬ SO p O a) (h : Hs a = some (.tup xs)) : H' a = some (.tup xs) := l.k.at_ a _ (fun z => n (so_zo a z)) h nt_tup
theorem lst_stays {a : Addr} {xs : List V} (l : Lat p O Hs O' H') (n : ¬ SO p O a) (h : Hs a = some (.lst xs)) : H' a = some (.lst xs) := l.k.at_ a _ (fun z => n (so_zo a z)) h nt_lst
/-- what a tracked tuple, list is read as -/
theorem rdT {K : PySem.W.Frag} {a : Addr} {xs ys : List V} (h : H a = some (.tup xs)) : SqT K H a xs := .inl (.inl h)
theorem rdL {K : PySem.W.Frag} {a : Addr} {xs ys : List V} (h : H a = some (.lst xs)) : SqL K H a xs := .inl (.inl h)
theorem ii_tup {K : PySem.W.Frag} {ds : List PyData} (h : Ed p ta ρ (.tuple ds)) : Ii p (iTup K ta) ρ (· = ds) := fun H0 O σ H e R q => by
  refine h H0 O σ H e _ fun v H2 d k2 o2 hd pd => ?_
  subst pd
  cases hd with
  | @tup a xs _ n ea r =>
    refine ⟨a, rfl, ⟨xs, .inl (.inl ea)⟩, q _ H2 ds k2 o2 rfl ⟨fun O' H' i l hi => ?_, fun O' H' l => ?_, fun O' H' i x H'' d l hd y => ?_⟩⟩
    · have e2 := tup_stays l n ea
      have hi' : i < xs.length := by rw [r.length]; exact hi
      exact ⟨xs, xs[i], .inl (.inl e2), List.getElem?_eq_getElem hi'⟩
    · exact ⟨xs, .inl (.inl (tup_stays l n ea)), by rw [r.length]; exact Nat.le_refl _⟩
    · obtain ⟨e1, hy⟩ := y
      subst e1
      have hx := hy xs (.inl (.inl (tup_stays l n ea)))
      obtain ⟨d', hd', hv⟩ := r.get hx
      rw [hd] at hd'
      cases hd'
      exact ⟨Kq.refl _, l.dv hv⟩
theorem ii_list {K : PySem.W.Frag} {ds : List PyData} (h : Ed p ta ρ (.list ds)) : Ii p (iList K ta) ρ (· = ds) := fun H0 O σ H e R q => by
  refine h H0 O σ H e _ fun v H2 d k2 o2 hd pd => ?_
  subst pd
  cases hd with
  | @lst a xs _ n ea r =>
    refine ⟨a, rfl, ⟨xs, .inl (.inl ea)⟩, q _ H2 ds k2 o2 rfl ⟨fun O' H' i l hi => ?_, fun O' H' l => ?_, fun O' H' i x H'' d l hd y => ?_⟩⟩
    · have e2 := lst_stays l n ea
      have hi' : i < xs.length := by rw [r.length]; exact hi
      exact ⟨xs, xs[i], .inl (.inl e2), List.getElem?_eq_getElem hi'⟩
    · exact ⟨xs, .inl (.inl (lst_stays l n ea)), by rw [r.length]; exact Nat.le_refl _⟩
    · obtain ⟨e1, hy⟩ := y
      subst e1
      have hx := hy xs (.inl (.inl (lst_stays l n ea)))
      obtain ⟨d', hd', hv⟩ := r.get hx
      rw [hd] at hd'
      cases hd'
      exact ⟨Kq.refl _, l.dv hv⟩
/-- lo, lo + 1, .. -/
def rngD (lo : Int) (n : Nat) : List PyData := (List.range n).map fun (i : Nat) => .int (lo + i)
theorem wk_rng {lo : Int} {n : Nat} : Wk p O Hs (Itr lo n) (rngD lo n) := by
  have hl : (rngD lo n).length = n := by unfold rngD; rw [List.length_map, List.length_range]
  refine ⟨fun O' H' i l hi => by rw [hl] at hi; exact hi, fun O' H' l => by rw [hl]; exact Nat.le_refl _, fun O' H' i x H'' d l hd y => ?_⟩
  obtain ⟨e1, e2⟩ := y
  subst e1 e2
  have hi : i < n := by rw [← hl]; exact (List.getElem?_eq_some_iff.mp hd).1
  unfold rngD at hd
  rw [List.getElem?_map, List.getElem?_range hi] at hd
  cases hd
  exact ⟨Kq.refl _, .int _⟩
theorem ii_rng1 {i : Int} (h : Ed p ta ρ (.int i)) (hb : -(2 ^ 62) ≤ i ∧ i < 2 ^ 62) : Ii p (iRng1 (tCons ta tNil)) ρ (· = rngD 0 i.toNat) := fun H0 O σ H e R q => by
  refine h H0 O σ H e _ fun v H2 d k2 o2 hd pd => ?_
  subst pd
  cases hd
  exact ⟨i, rfl, hb.1, hb.2, q _ H2 _ k2 o2 rfl wk_rng⟩
theorem ii_rng2 {i j : Int} (h : Ed p ta ρ (.int i)) (k : Ed p tb ρ (.int j)) (hb : -(2 ^ 62) ≤ i ∧ i < 2 ^ 62 ∧ -(2 ^ 62) ≤ j ∧ j < 2 ^ 62) : Ii p (iRng2 (tCons ta (tCons tb tNil))) ρ (· = rngD i (j - i).toNat) := fun H0 O σ H e R q => by
  refine h H0 O σ H e _ fun v H2 d k2 o2 hd pd => ?_
  subst pd
  cases hd
  refine k H0 O σ H2 (e.kq k2 o2) _ fun v H3 d k3 o3 hd pd => ?_
  subst pd
  cases hd
  exact ⟨i, j, rfl, hb, q _ H3 _ (k2.trans k3) o3 rfl wk_rng⟩
/-- pairs -/
def zipD (ds es : List PyData) : List PyData := List.zipWith (fun a b => .tuple [a, b]) ds es
theorem zipD_len (ds es : List PyData) : (zipD ds es).length = min ds.length es.length := List.length_zipWith
theorem zipD_get {ds es : List PyData} {i : Nat} {d : PyData} (h : (zipD ds es)[i]? = some d) : ∃ a b, ds[i]? = some a ∧ es[i]? = some b ∧ d = .tuple [a, b] := by
  unfold zipD at h
  rw [List.getElem?_zipWith] at h
  cases h1 : ds[i]? with
  | none => rw [h1] at h; simp at h
  | some a =>
    cases h2 : es[i]? with
    | none => rw [h1, h2] at h; simp at h
    | some b => rw [h1, h2] at h; cases h; exact ⟨a, b, rfl, rfl, rfl⟩
theorem pair_dv {T : Addr} {x y : V} {a b : PyData} (l : Lat p O Hs O' H') (hT : H' T = none) (hx : Dv (SO p O') H' x a) (hy : Dv (SO p O') H' y b) : Kp H' (upd H' T (.tup [x, y])) ∧ Dv (SO p O') (upd H' T (.tup [x, y])) (.ref T) (.tuple [a, b]) :=
  ⟨Kq.new hT, .tup (l.fresh hT) upd_same (.cons (hx.kp (Kq.new hT)) (.cons (hy.kp (Kq.new hT)) .nil))⟩
theorem ii_zipT {K : PySem.W.Frag} {ds es : List PyData} (h : Ed p ta ρ (.tuple ds)) (k : Ed p tb ρ (.tuple es)) : Ii p (RZ.iZipA K (tCons ta (tCons tb tNil))) ρ (· = zipD ds es) := fun H0 O σ H e R q => by
  refine h H0 O σ H e _ fun v H2 d k2 o2 hd pd => ?_
  subst pd
  refine k H0 O σ H2 (e.kq k2 o2) _ fun w H3 d k3 o3 hd' pd => ?_
  subst pd
  have hd3 := hd.kq k3 so_z
  cases hd3 with
  | @tup a xs _ n ea r =>
    cases hd' with
    | @tup b ys _ m eb r' =>
      refine ⟨a, b, xs, ys, rfl, .inr ⟨.inl (.inl ea), .inl (.inl eb), q _ H3 _ (k2.trans k3) o3 rfl ⟨fun O' H' i l hi => ?_, fun O' H' l => ?_, fun O' H' i x H'' d l hd y => ?_⟩⟩⟩
      · rw [zipD_len] at hi
        have h1 : i < xs.length := by rw [r.length]; omega
        have h2 : i < ys.length := by rw [r'.length]; omega
        exact ⟨xs, ys, xs[i], ys[i], .inl (.inl (tup_stays l n ea)), .inl (.inl (tup_stays l m eb)), List.getElem?_eq_getElem h1, List.getElem?_eq_getElem h2⟩
      · refine ⟨xs, ys, .inl (.inl (tup_stays l n ea)), .inl (.inl (tup_stays l m eb)), ?_⟩
        rw [zipD_len, r.length, r'.length]
        omega
      · obtain ⟨T, x1, y1, e1, hT, e2, f1, f2⟩ := y
        subst e1 e2
        obtain ⟨a', b', g1, g2, rfl⟩ := zipD_get hd
        obtain ⟨a2, q1, hv1⟩ := r.get (f1 xs (.inl (.inl (tup_stays l n ea))))
        obtain ⟨b2, q2, hv2⟩ := r'.get (f2 ys (.inl (.inl (tup_stays l m eb))))
        rw [g1] at q1; cases q1
        rw [g2] at q2; cases q2
        exact pair_dv l hT (l.dv hv1) (l.dv hv2)

/-! ### targets -/
/-- the slots at ts are stored; ρ' is what stands then -/
def Tg (p : Pm) (g : TG) (ts : List Nat) (ρ : Rho) (d : PyData) (ρ' : Rho) : Prop := ∀ H0 O σ H x, En p H0 O σ H ρ → Dv (SO p O) H x d → ∀ Q : L2.St → Hp → Prop,
  (∀ σ', En p H0 O σ' H ρ' → (∀ vs, (∀ i ∈ ts, i ∈ vs) → wipe σ' vs = wipe σ vs) → Q σ' H) → g x σ H Q
theorem wipe_at (σ : L2.St) {i : Nat} : ∀ {vs : List Nat}, i ∈ vs → i < σ.length → (wipe σ vs)[i]? = some none
  | v :: vs, h, hl => by
    unfold wipe
    by_cases e : v = i
    · subst e
      exact List.getElem?_set_self (by rw [wipe_length]; exact hl)
    · rw [List.getElem?_set_ne e]
      rcases List.mem_cons.mp h with z | z
      · exact absurd z.symm e
      · exact wipe_at σ z hl
theorem wipe_off (σ : L2.St) {i : Nat} : ∀ {vs : List Nat}, i ∉ vs → (wipe σ vs)[i]? = σ[i]?
  | [], _ => rfl
  | v :: vs, h => by
    have h1 : v ≠ i := fun e => h (by rw [e]; exact List.mem_cons_self)
    unfold wipe
    rw [List.getElem?_set_ne h1]
    exact wipe_off σ fun z => h (List.mem_cons_of_mem _ z)
theorem wipe_ext {σ τ : L2.St} {vs : List Nat} (hl : σ.length = τ.length) (h : ∀ i, i ∉ vs → σ[i]? = τ[i]?) : wipe σ vs = wipe τ vs := by
  apply List.ext_getElem?
  intro i
  by_cases hi : i ∈ vs
  · by_cases hl' : i < σ.length
    · rw [wipe_at σ hi hl', wipe_at τ hi (by rw [← hl]; exact hl')]
    · rw [List.getElem?_eq_none (by rw [wipe_length]; omega), List.getElem?_eq_none (by rw [wipe_length]; omega)]
  · rw [wipe_off σ hi, wipe_off τ hi]
    exact h i hi
def wipeR (ρ : Rho) : List Nat → Rho
  | [] => ρ
  | v :: vs => (wipeR ρ vs).set v none
theorem wipeR_len (ρ : Rho) : ∀ vs, (wipeR ρ vs).length = ρ.length
  | [] => rfl
  | v :: vs => by unfold wipeR; rw [List.length_set, wipeR_len ρ vs]
theorem wipeR_some {ρ : Rho} {i : Nat} {s : Sl} : ∀ {vs : List Nat}, (wipeR ρ vs)[i]? = some (some s) → ρ[i]? = some (some s) ∧ i ∉ vs
  | [], h => ⟨h, by simp⟩
  | v :: vs, h => by
    unfold wipeR at h
    by_cases e : v = i
    · subst e
      by_cases hv : v < (wipeR ρ vs).length
      · rw [List.getElem?_set_self hv] at h; cases h
      · rw [List.getElem?_eq_none (by simpa using hv)] at h; cases h
    · rw [List.getElem?_set_ne e] at h
      obtain ⟨h1, h2⟩ := wipeR_some h
      exact ⟨h1, by simp only [List.mem_cons, not_or]; exact ⟨fun z => e z.symm, h2⟩⟩
theorem Has.slot {τ : L2.St} {i : Nat} {s : Sl} (h : Has p O σ H i s) (e : τ[i]? = σ[i]?) : Has p O τ H i s := by
  cases s with
  | dat d => obtain ⟨v, h1, h2⟩ := h; exact ⟨v, by rw [e]; exact h1, h2⟩
  | own ds => obtain ⟨a, xs, h1, h2⟩ := h; exact ⟨a, xs, by rw [e]; exact h1, h2⟩
  | raw v => exact e.trans h
  | rng lo hi => obtain ⟨a, h1, h2⟩ := h; exact ⟨a, by rw [e]; exact h1, h2⟩
theorem En.wipe (e : En p H0 O σ H ρ) (vs : List Nat) : En p H0 O (wipe σ vs) H (wipeR ρ vs) := by
  refine ⟨e.fr, e.bo, e.ok, e.ow, fun i s h => ?_, fun i j a ds es h1 h2 h3 h4 => ?_, by rw [wipe_length, wipeR_len, e.ln]⟩
  · obtain ⟨h1, h2⟩ := wipeR_some h
    exact (e.sl i s h1).slot (wipe_off σ h2)
  · obtain ⟨q1, n1⟩ := wipeR_some h1
    obtain ⟨q2, n2⟩ := wipeR_some h2
    rw [wipe_off σ n1] at h3
    rw [wipe_off σ n2] at h4
    exact e.un i j a ds es q1 q2 h3 h4
/-- a slot is stored -/
theorem En.set (e : En p H0 O σ H ρ) {i : Nat} {v : V} {d : PyData} (h : Dv (SO p O) H v d) : En p H0 O (σ.set i (some v)) H (ρ.set i (some (.dat d))) := by
  refine ⟨e.fr, e.bo, e.ok, e.ow, fun j s hj => ?_, fun j l a ds es h1 h2 h3 h4 => ?_, by rw [List.length_set, List.length_set, e.ln]⟩
  · by_cases z : i = j
    · subst z
      have hi : i < ρ.length := by
        have := (List.getElem?_eq_some_iff.mp hj).1
        rwa [List.length_set] at this
      rw [List.getElem?_set_self hi] at hj
      cases hj
      exact ⟨v, List.getElem?_set_self (by rw [e.ln]; exact hi), h⟩
    · rw [List.getElem?_set_ne z] at hj
      exact (e.sl j s hj).slot (List.getElem?_set_ne z)
  · have hne : ∀ {m : Nat} {fs : List PyData}, (ρ.set i (some (.dat d)))[m]? = some (some (.own fs)) → i ≠ m := fun {m fs} hm z => by
      subst z
      have hi : i < ρ.length := by
        have := (List.getElem?_eq_some_iff.mp hm).1
        rwa [List.length_set] at this
      rw [List.getElem?_set_self hi] at hm
      cases hm
    have n1 := hne h1
    have n2 := hne h2
    rw [List.getElem?_set_ne n1] at h1 h3
    rw [List.getElem?_set_ne n2] at h2 h4
    exact e.un j l a ds es h1 h2 h3 h4
theorem tg_name {i : Nat} {d : PyData} : Tg p (gName i) [i] ρ d (ρ.set i (some (.dat d))) := fun H0 O σ H x e h Q q =>
  q _ (e.set h) fun vs hv => wipe_ext (by rw [List.length_set]) fun j hj => List.getElem?_set_ne fun z => hj (hv j (by rw [z]; exact List.mem_singleton.mpr rfl))
theorem tg_pair {K : PySem.W.Frag} {g1 g2 : TG} {t1 t2 : List Nat} {d1 d2 : PyData} {ρ1 ρ2 : Rho} (h1 : Tg p g1 t1 ρ d1 ρ1) (h2 : Tg p g2 t2 ρ1 d2 ρ2) : Tg p (gTup K 2 (gCons g1 (gCons g2 gNil))) (t1 ++ t2) ρ (.tuple [d1, d2]) ρ2 := fun H0 O σ H x e h Q q => by
  cases h with
  | tup n ea r =>
    obtain ⟨v, w, rfl, hv, hw⟩ := r.two_inv
    refine ⟨_, _, rfl, .inl (.inl ea), rfl, v, [w], rfl, ?_⟩
    refine h1 H0 O σ H v e hv _ fun σ' e' wp => ?_
    refine ⟨w, [], rfl, h2 H0 O σ' H w e' hw _ fun σ'' e'' wp' => ⟨rfl, q σ'' e'' fun vs hm => ?_⟩⟩
    rw [wp' vs fun i hi => hm i (List.mem_append_right _ hi), wp vs fun i hi => hm i (List.mem_append_left _ hi)]
end

/-! ### list comprehensions -/
section
variable {p : Pm} {ρ : Rho} {ta tb te : TE} {tt : TT}
theorem ex_lc {wi : TI} {g : TG} {vs : List Nat} {Pi : List PyData → Prop} {P : PyData → Prop} (inv : List PyData → Nat → List PyData → Prop) (hi : Ii p wi ρ Pi) (hz : ∀ ds, Pi ds → ds.length ≤ 10000) (h0 : ∀ ds, Pi ds → inv ds 0 [])
    (hs : ∀ ds i d es, Pi ds → ds[i]? = some d → inv ds i es → ∃ (ts : List Nat) (ρ' : Rho) (Pt : Bool → Prop), (∀ i ∈ ts, i ∈ vs) ∧ Tg p g ts (wipeR ρ vs) d ρ' ∧ Et p tt ρ' Pt ∧ (Pt true → Ex p te ρ' (fun e => inv ds (i + 1) (es ++ [e]))) ∧ (Pt false → inv ds (i + 1) es))
    (hd : ∀ ds es, Pi ds → inv ds ds.length es → P (.list es)) : Ex p (tLc wi g tt te vs) ρ P := fun H0 O σ H e Q q => by
  refine hi H0 O σ H e _ fun J H1 ds k1 o1 pi w => ?_
  intro D hD
  have e1 := e.kq k1 o1
  have hwi : wipe (wipe σ vs) vs = wipe σ vs := wipe_ext (wipe_length _ _) fun i hi => wipe_off σ hi
  -- behind i turns
  let St : Nat → Hp → Prop := fun i H' => i ≤ ds.length ∧ ∃ es xs, Kq p.Z H1 H' ∧ Ok p H' ∧ H' D = some (.lst xs) ∧ DvL (SO p (fun a => O a ∨ a = D)) H' xs es ∧ xs.length ≤ i ∧ inv ds i es
  have hnS : ¬ p.S D := fun z => fresh_so e1 hD (.inl z)
  have mk : ∀ {H' : Hp} {xs : List V}, Kq p.Z H1 H' → Ok p H' → H' D = some (.lst xs) → Lat p O H1 (fun a => O a ∨ a = D) H' ∧ En p H0 (fun a => O a ∨ a = D) (wipe σ vs) H' (wipeR ρ vs) := fun {H' xs} k' o' hD' => by
    have l : Lat p O H1 (fun a => O a ∨ a = D) H' := ⟨k'.mono fun _ z => .inl z, fun a h => .inl h, fun a h => h.elim .inl fun z => .inr (by rw [z]; exact hD), o', fun a h => by
      rcases h with h | h
      · obtain ⟨n, ns, ys, hy⟩ := e1.ow a h
        exact ⟨ys, k'.at_ a _ (fun z => ns (p.zs a z)) hy nt_lst⟩
      · rw [h]; exact ⟨xs, hD'⟩⟩
    refine ⟨l, ?_⟩
    have ew := (e1.wipe vs).kq k' o'
    refine ⟨ew.fr, fun a h => .inl (ew.bo a h), o', fun a h => ?_, fun i s h => ?_, ew.un, ew.ln⟩
    · rcases h with h | h
      · exact ew.ow a h
      · rw [h]; exact ⟨.inr (e1.fr.back hD), hnS, xs, hD'⟩
    · have hs := (e1.wipe vs).sl i s h
      cases s with
      | dat d => obtain ⟨v, g1, g2⟩ := hs; exact ⟨v, g1, l.dv g2⟩
      | own ds =>
        obtain ⟨a, ys, g1, g2, g3, g4⟩ := hs
        refine ⟨a, ys, g1, .inl g2, k'.at_ a _ (fun z => (e1.ow a g2).2.1 (p.zs a z)) g3 nt_lst, g4.map (fun b n t z => ?_) fun b o n eb t => k'.at_ b o (fun z => n (so_z b z)) eb t⟩
        rcases z with z | z | z
        · exact n (.inl z)
        · exact n (.inr z)
        · exact t (by rw [z]; exact hD)
      | raw v => exact hs
      | rng lo hi =>
        obtain ⟨a, g1, g2, g3⟩ := hs
        refine ⟨a, g1, fun z => ?_, k'.at_ a _ (fun z => g2 (so_z a z)) g3 (fun _ q => by cases q)⟩
        rcases z with z | z | z
        · exact g2 (.inl z)
        · exact g2 (.inr z)
        · rw [z, hD] at g3; cases g3
  refine ⟨fun i m H' => m = ds.length - i ∧ St i H', ⟨ds.length, by simp, Nat.zero_le _, [], [], ?_, ?_, upd_same, .nil, Nat.zero_le _, h0 ds pi⟩, ?_⟩
  · exact Kq.new hD
  · exact o1.kp (Kq.new hD)
  rintro i m H' ⟨rfl, hil, es, xs, k', o', hD', hes, hxl, iv⟩
  obtain ⟨l, eL⟩ := mk k' o' hD'
  by_cases hlt : i < ds.length
  · refine .inr ⟨w.go _ H' i l hlt, St (i + 1), fun H'' s => ⟨ds.length - (i + 1), by omega, rfl, s⟩, fun x H2 y => ?_⟩
    obtain ⟨d, hdi⟩ : ∃ d, ds[i]? = some d := ⟨ds[i], List.getElem?_eq_getElem hlt⟩
    obtain ⟨k2, hx⟩ := w.yld _ H' i x H2 d l hdi y
    obtain ⟨ts, ρ', Pt, hts, tg, et, ht, hf⟩ := hs ds i d es pi hdi iv
    have e2 := eL.kp k2
    refine tg H0 _ _ H2 x e2 hx _ fun σ3 e3 wp => ⟨by rw [wp vs hts, hwi], ?_⟩
    refine et H0 _ σ3 H2 e3 _ fun b H4 k4 o4 pb => ?_
    have kk : Kq p.Z H1 H4 := (k'.trans k2.up).trans k4
    have hD4 : H4 D = some (.lst xs) := k4.at_ D _ (fun z => hnS (p.zs D z)) (k2.at_ D _ (fun z => z) hD' nt_lst) nt_lst
    have hes4 := (hes.kp k2).kq k4 so_z
    cases b with
    | false =>
      rw [if_neg (by decide)]
      exact ⟨hlt, es, xs, kk, o4, hD4, hes4, Nat.le_succ_of_le hxl, hf pb⟩
    | true =>
      rw [if_pos rfl]
      refine ht pb H0 _ σ3 H4 (e3.kq k4 o4) _ fun v H5 f k5 o5 hv iv' => ?_
      have hD5 : H5 D = some (.lst xs) := k5.at_ D _ (fun z => hnS (p.zs D z)) hD4 nt_lst
      have hes5 := hes4.kq k5 so_z
      have hzz := hz ds pi
      refine ⟨xs, hD5, Nat.lt_of_lt_of_le (show xs.length < 20000 by omega) (by decide), hlt, es ++ [f], xs ++ [v], Kq.own (kk.trans k5) hD hD5 nt_lst, ?_, upd_same, ?_, by rw [List.length_append]; exact Nat.succ_le_succ hxl, iv'⟩
      · have ko : ∀ a, p.S a → upd H5 D (.lst (xs ++ [v])) a = H5 a := fun a z => upd_ne fun q => hnS (q ▸ z)
        refine ⟨fun a z => by rw [ko a z]; exact o5.tr a z, fun P hP => ?_, p.ms _ _ o5.mm ko⟩
        obtain ⟨ps, hp, tp⟩ := o5.tb P hP
        exact ⟨ps, by rw [upd_ne (fun q => by rw [q, hD5] at hp; cases hp)]; exact hp, tp⟩
      · have off : ∀ (a : Addr) (o : HO), ¬ SO p (fun a => O a ∨ a = D) a → H5 a = some o → NT o → upd H5 D (.lst (xs ++ [v])) a = some o := fun a o n eo _ => by
          rw [upd_ne fun q => n (.inr (.inr q))]; exact eo
        exact DvL.map (fun _ n _ => n) off _ _ (hes5.append (.one hv))
  · have he : i = ds.length := by omega
    subst he
    refine .inl ⟨w.stop _ H' l, q (.ref D) H' (.list es) (k1.trans k') o' (.lst (fun z => ?_) hD' (hes.map (fun a n _ z => n (z.elim .inl fun z => .inr (.inl z))) fun a o n eo t => eo)) (hd ds es pi iv)⟩
    exact fresh_so e1 hD z
end
end Kz
set_option Elab.async false
set_option linter.all false
set_option maxRecDepth 100000
set_option maxHeartbeats 4000000
namespace Kz
open PySem PySem.Spec PyProof.Rows L2

/-! ### statements -/
section
variable {p : Pm} {ρ : Rho} {ta tb te : TE} {tt : TT} {w : Po} {tu tw : TS}
theorem dv_out {O : Addr → Prop} {H : Hp} {v : V} {d : PyData} (h : Dv (SO p O) H v d) : Dv p.S H v d := h.map (fun _ n _ z => n (.inl z)) fun _ _ _ e _ => e
theorem Rn.imp {w' : Po} (h : Rn p tu ρ w) (hN : ∀ r, w.N r → w'.N r) (hR : ∀ d, w.R d → w'.R d) (hB : ∀ r, w.B r → w'.B r) (hC : ∀ r, w.C r → w'.C r) : Rn p tu ρ w' := fun H0 O σ H D e n r b c =>
  h H0 O σ H D e (fun O' σ' H' ρ' e' q => n O' σ' H' ρ' e' (hN _ q)) (fun v d H' k o h q => r v d H' k o h (hR _ q)) (fun O' σ' H' ρ' e' q => b O' σ' H' ρ' e' (hB _ q)) (fun O' σ' H' ρ' e' q => c O' σ' H' ρ' e' (hC _ q))
theorem rn_next (h : w.N ρ) : Rn p tNext ρ w := fun H0 O σ H D e n _ _ _ => n O σ H ρ e h
theorem rn_seq {Nm : Rho → Prop} (h : Rn p tu ρ { w with N := Nm }) (k : ∀ ρ', Nm ρ' → Rn p tw ρ' w) : Rn p (tSeq tu tw) ρ w := fun H0 O σ H D e n r b c =>
  h H0 O σ H _ e (fun O' σ' H' ρ' e' q => k ρ' q H0 O' σ' H' D e' n r b c) r b c
theorem rn_setX {i : Nat} {P : PyData → Prop} (h : Ex p te ρ P) (k : ∀ d, P d → w.N (ρ.set i (some (.dat d)))) : Rn p (tAsg te (gName i)) ρ w := fun H0 O σ H D e n r b c =>
  h H0 O σ H e _ fun v H2 d k2 o2 hd pd => n O _ H2 _ ((e.kq k2 o2).set hd) (k d pd)
theorem rn_set {i : Nat} {d : PyData} (h : Ed p te ρ d) (k : w.N (ρ.set i (some (.dat d)))) : Rn p (tAsg te (gName i)) ρ w := rn_setX h fun _ e => by rw [e]; exact k
/-- x = e; the rest -/
theorem rn_set_ {i : Nat} {d : PyData} (h : Ed p te ρ d) (k : Rn p tw (ρ.set i (some (.dat d))) w) : Rn p (tSeq (tAsg te (gName i)) tw) ρ w := rn_seq (Nm := fun r => r = ρ.set i (some (.dat d))) (rn_set h rfl) fun r e => by rw [e]; exact k
theorem rn_setX_ {i : Nat} {P : PyData → Prop} (h : Ex p te ρ P) (k : ∀ d, P d → Rn p tw (ρ.set i (some (.dat d))) w) : Rn p (tSeq (tAsg te (gName i)) tw) ρ w := rn_seq (Nm := fun r => ∃ d, P d ∧ r = ρ.set i (some (.dat d))) (rn_setX h fun d q => ⟨d, q, rfl⟩) fun r ⟨d, q, e⟩ => by rw [e]; exact k d q
theorem rn_asg {g : TG} {ts : List Nat} {d : PyData} {ρ' : Rho} (h : Ed p te ρ d) (t : Tg p g ts ρ d ρ') (k : w.N ρ') : Rn p (tAsg te g) ρ w := fun H0 O σ H D e n r b c =>
  h H0 O σ H e _ fun v H2 d' k2 o2 hd pd => by
    subst pd
    exact t H0 O σ H2 v (e.kq k2 o2) hd _ fun σ' e' _ => n O σ' H2 ρ' e' k
theorem rn_retX {P : PyData → Prop} (h : Ex p te ρ P) (k : ∀ d, P d → w.R d) : Rn p (tRet te) ρ w := fun H0 O σ H D e n r b c =>
  h H0 O σ H e _ fun v H2 d k2 o2 hd pd => r v d H2 (e.kq k2 o2).fr o2 (dv_out hd) (k d pd)
theorem rn_ret {d : PyData} (h : Ed p te ρ d) (k : w.R d) : Rn p (tRet te) ρ w := rn_retX h fun _ e => by rw [e]; exact k
theorem rn_ifX {P : Bool → Prop} (h : Et p tt ρ P) (k1 : P true → Rn p tu ρ w) (k2 : P false → Rn p tw ρ w) : Rn p (tIfS tt tu tw) ρ w := fun H0 O σ H D e n r b c =>
  h H0 O σ H e _ fun t H2 kk o2 pt => by
    have e2 := e.kq kk o2
    cases t with
    | true => rw [if_pos rfl]; exact k1 pt H0 O σ H2 D e2 n r b c
    | false => rw [if_neg (by decide)]; exact k2 pt H0 O σ H2 D e2 n r b c
theorem rn_if {t : Bool} (h : Et p tt ρ (· = t)) (k1 : t = true → Rn p tu ρ w) (k2 : t = false → Rn p tw ρ w) : Rn p (tIfS tt tu tw) ρ w := rn_ifX h (fun e => k1 e.symm) fun e => k2 e.symm
/-- if ..: (no else); the rest -/
theorem rn_when_ {t : Bool} {tz : TS} (h : Et p tt ρ (· = t)) (k1 : t = true → Rn p (tSeq tu tz) ρ w) (k2 : t = false → Rn p tz ρ w) : Rn p (tSeq (tIfS tt tu tNext) tz) ρ w := fun H0 O σ H D e n r b c =>
  h H0 O σ H e _ fun q H2 kk o2 pt => by
    have e2 := e.kq kk o2
    subst pt
    cases q with
    | true => rw [if_pos rfl]; exact k1 rfl H0 O σ H2 D e2 n r b c
    | false => rw [if_neg (by decide)]; exact k2 rfl H0 O σ H2 D e2 n r b c
theorem rn_drop {P : PyData → Prop} (h : Ex p te ρ P) (k : w.N ρ) : Rn p (tDrop te) ρ w := fun H0 O σ H D e n r b c =>
  h H0 O σ H e _ fun v H2 d k2 o2 hd pd => n O σ H2 ρ (e.kq k2 o2) k
/-- an in-place operator on an int name -/
theorem rn_aug {i : Nat} {f : Int → Int → Int} {a b : Int} (hx : ρ[i]? = some (some (.dat (.int a)))) (h : Ed p te ρ (.int b)) (k : w.N (ρ.set i (some (.dat (.int (f a b)))))) : Rn p (tAug i te (ipI f)) ρ w := fun H0 O σ H D e n r bk c => by
  obtain ⟨v, h1, h2⟩ := e.sl i _ hx
  cases h2
  refine ⟨_, h1, h H0 O σ H e _ fun u H2 d k2 o2 hd pd => ?_⟩
  subst pd
  cases hd
  exact ⟨a, b, rfl, rfl, n O _ H2 _ ((e.kq k2 o2).set (.int _)) k⟩
/-- two names at once -/
theorem rn_par {i j : Nat} {P1 P2 : PyData → Prop} (h : Ex p ta ρ P1) (h2 : Ex p tb ρ P2) (k : ∀ d e, P1 d → P2 e → w.N ((ρ.set i (some (.dat d))).set j (some (.dat e)))) : Rn p (tPar i j (tCons ta (tCons tb tNil))) ρ w := fun H0 O σ H D e n r b c => by
  refine h H0 O σ H e _ fun v H2 d k2 o2 hd pd => ?_
  refine h2 H0 O σ H2 (e.kq k2 o2) _ fun u H3 d' k3 o3 hd' pd' => ?_
  have e3 := (e.kq k2 o2).kq k3 o3
  refine ⟨v, u, rfl, n O _ H3 _ ((e3.set (hd.kq k3 so_z)).set hd') (k d d' pd pd')⟩

/-! ### for -/
theorem frame_in {H0 : Bs} {O : Addr → Prop} {σ : L2.St} {H1 H3 : Hp} (e : En p H0 O σ H1 ρ) (k : Kq (ZO p O) H1 H3) : Kq (ZO p H0.o) H0.h H3 :=
  ⟨fun a o n h t => k.at_ a o (fun z => by
      rcases z with z | z
      · exact n (.inl z)
      · rcases (e.ow a z).1 with q | q
        · exact n (.inr q)
        · rw [q] at h; cases h) (e.fr.at_ a o n h t) t, fun P h => k.tab P (e.fr.tab P h), fun a h => k.nn a (e.fr.nn a h)⟩
/-- from here on the base is this heap -/
theorem En.rebase {H0 : Bs} {O O' : Addr → Prop} {σ : L2.St} {H1 H' : Hp} {r : Rho} (e : En p H0 O' σ H' r) (l : Lat p O H1 O' H') : En p ⟨H1, O⟩ O' σ H' r :=
  ⟨l.k, l.up, l.ok, fun a h => ⟨l.new a h, (e.ow a h).2⟩, e.sl, e.un, e.ln⟩
theorem En.back {H0 : Bs} {O O' : Addr → Prop} {σ σ' : L2.St} {H1 H' : Hp} {r : Rho} (e1 : En p H0 O σ H1 ρ) (e : En p ⟨H1, O⟩ O' σ' H' r) : En p H0 O' σ' H' r :=
  ⟨frame_in e1 e.fr, fun a h => e.bo a (e1.bo a h), e.ok, fun a h => ⟨by
      rcases (e.ow a h).1 with z | z
      · exact (e1.ow a z).1
      · exact .inr (e1.fr.back z), (e.ow a h).2⟩, e.sl, e.un, e.ln⟩
theorem En.lat {O O' : Addr → Prop} {σ : L2.St} {H1 H' : Hp} {r : Rho} (e : En p ⟨H1, O⟩ O' σ H' r) : Lat p O H1 O' H' :=
  ⟨e.fr, e.bo, fun a h => (e.ow a h).1, e.ok, fun a h => (e.ow a h).2.2⟩
theorem Lat.kp {O O' : Addr → Prop} {H1 H' H2 : Hp} (l : Lat p O H1 O' H') (k : Kp H' H2) : Lat p O H1 O' H2 :=
  ⟨l.k.trans k.up, l.up, l.new, l.ok.kp k, fun a h => let ⟨xs, e⟩ := l.ow a h; ⟨xs, k.at_ a _ (fun z => z) e nt_lst⟩⟩
theorem rn_for {wi : TI} {g : TG} {Pi : List PyData → Prop} (inv : List PyData → Nat → Rho → Prop) (hi : Ii p wi ρ Pi) (h0 : ∀ ds, Pi ds → inv ds 0 ρ)
    (hs : ∀ ds i d r, Pi ds → ds[i]? = some d → inv ds i r → ∃ ts r', Tg p g ts r d r' ∧ Rn p tu r' { N := inv ds (i + 1), C := inv ds (i + 1), B := w.N, R := w.R })
    (hd : ∀ ds r, Pi ds → inv ds ds.length r → w.N r) : Rn p (tFor wi g tu) ρ w := fun H0 O σ H D e n rt bk c => by
  refine hi H0 O σ H e _ fun J H1 ds k1 o1 pi wk => ?_
  have e1 := e.kq k1 o1
  let St : Nat → L2.St → Hp → Prop := fun i σ' H' => i ≤ ds.length ∧ ∃ O' r, En p ⟨H1, O⟩ O' σ' H' r ∧ inv ds i r
  refine ⟨fun i m σ' H' => m = ds.length - i ∧ St i σ' H', ⟨ds.length, by simp, Nat.zero_le _, O, ρ, e1.rebase (Lat.refl e1), h0 ds pi⟩, ?_⟩
  rintro i m σ' H' ⟨rfl, hil, O', r, eL, iv⟩
  have l := eL.lat
  by_cases hlt : i < ds.length
  · refine .inr ⟨wk.go _ H' i l hlt, St (i + 1), fun σ2 H2 s => ⟨ds.length - (i + 1), by omega, rfl, s⟩, fun x H2 y => ?_⟩
    obtain ⟨d, hdi⟩ : ∃ d, ds[i]? = some d := ⟨ds[i], List.getElem?_eq_getElem hlt⟩
    obtain ⟨k2, hx⟩ := wk.yld _ H' i x H2 d l hdi y
    obtain ⟨ts, r', tg, hr⟩ := hs ds i d r pi hdi iv
    refine tg _ _ _ H2 x (eL.kp k2) hx _ fun σ3 e3 _ => ?_
    refine hr _ _ _ _ _ e3 (fun O2 σ2 H3 r2 e4 q => ⟨hlt, O2, r2, e4, q⟩) (fun v d' H3 k3 o3 hv q => rt v d' H3 (frame_in e1 k3) o3 hv q)
      (fun O2 σ2 H3 r2 e4 q => n O2 σ2 H3 r2 (e1.back e4) q) (fun O2 σ2 H3 r2 e4 q => ⟨hlt, O2, r2, e4, q⟩)
  · have he : i = ds.length := by omega
    subst he
    exact .inl ⟨wk.stop _ H' l, n O' σ' H' r (e1.back eL) (hd ds r pi iv)⟩

/-! ### lists of a def's own -/
/-- x = [..]: a new list that this def may change -/
theorem rn_own {t : TA} {i : Nat} {P : List PyData → Prop} (h : Ea p t ρ P) (hs : ∀ ds, P ds → ds.length ≤ 1000) (k : ∀ ds, P ds → w.N (ρ.set i (some (.own ds)))) : Rn p (tAsg (tLst t) (gName i)) ρ w := fun H0 O σ H D e n r b c => by
  refine h H0 O σ H e _ fun vs H2 ds k2 o2 hds pds => ?_
  have e2 := e.kq k2 o2
  refine ⟨by rw [hds.length]; exact Nat.le_trans (hs ds pds) (by decide), fun a na => ?_⟩
  have kn : Kp H2 (upd H2 a (.lst vs)) := Kq.new na
  have nS : ¬ p.S a := fun z => fresh_so e2 na (.inl z)
  have nO : ¬ O a := fun z => fresh_so e2 na (.inr z)
  refine n (fun b => O b ∨ b = a) _ _ _ ⟨e2.fr.trans kn.up, fun b z => .inl (e2.bo b z), o2.kp kn, fun b z => ?_, fun j s hj => ?_, fun j l b es fs h1 h2 h3 h4 => ?_, by rw [List.length_set, List.length_set, e.ln]⟩ (k ds pds)
  · rcases z with z | z
    · obtain ⟨q1, q2, xs, q3⟩ := e2.ow b z
      exact ⟨q1, q2, xs, kn.at_ b _ (fun z => z) q3 nt_lst⟩
    · rw [z]; exact ⟨.inr (e2.fr.back na), nS, vs, upd_same⟩
  · have lift : ∀ {v : V} {d : PyData}, Dv (SO p O) H2 v d → Dv (SO p (fun b => O b ∨ b = a)) (upd H2 a (.lst vs)) v d := fun {v d} hv => hv.map (fun b n t z => by
      rcases z with z | z | z
      · exact n (.inl z)
      · exact n (.inr z)
      · exact t (by rw [z]; exact na)) fun b o _ eb t => kn.at_ b o (fun z => z) eb t
    have liftL : ∀ {v : List V} {d : List PyData}, DvL (SO p O) H2 v d → DvL (SO p (fun b => O b ∨ b = a)) (upd H2 a (.lst vs)) v d := fun {v d} hv => hv.map (fun b n t z => by
      rcases z with z | z | z
      · exact n (.inl z)
      · exact n (.inr z)
      · exact t (by rw [z]; exact na)) fun b o _ eb t => kn.at_ b o (fun z => z) eb t
    by_cases z : i = j
    · subst z
      have hi : i < ρ.length := by
        have := (List.getElem?_eq_some_iff.mp hj).1
        rwa [List.length_set] at this
      rw [List.getElem?_set_self hi] at hj
      cases hj
      exact ⟨a, vs, List.getElem?_set_self (by rw [e.ln]; exact hi), .inr rfl, upd_same, liftL hds⟩
    · rw [List.getElem?_set_ne z] at hj
      have q := e2.sl j s hj
      cases s with
      | dat d => obtain ⟨v, q1, q2⟩ := q; exact ⟨v, (List.getElem?_set_ne z).trans q1, lift q2⟩
      | own es =>
        obtain ⟨b, ys, q1, q2, q3, q4⟩ := q
        exact ⟨b, ys, (List.getElem?_set_ne z).trans q1, .inl q2, kn.at_ b _ (fun z => z) q3 nt_lst, liftL q4⟩
      | raw v => exact (List.getElem?_set_ne z).trans q
      | rng lo hi =>
        obtain ⟨b, q1, q2, q3⟩ := q
        refine ⟨b, (List.getElem?_set_ne z).trans q1, fun y => ?_, kn.at_ b _ (fun z => z) q3 (fun _ q => by cases q)⟩
        rcases y with y | y | y
        · exact q2 (.inl y)
        · exact q2 (.inr y)
        · rw [y, na] at q3; cases q3
  · -- the new list is no other one
    have key : ∀ {m : Nat} {gs : List PyData}, i ≠ m → (ρ.set i (some (.own ds)))[m]? = some (some (.own gs)) → (σ.set i (some (.ref a)))[m]? = some (some (.ref a)) → False := fun {m gs} hm g1 g2 => by
      rw [List.getElem?_set_ne hm] at g1 g2
      obtain ⟨b', ys, q1, q2, _⟩ := e2.sl m _ g1
      rw [g2] at q1
      cases q1
      exact nO q2
    by_cases z1 : i = j
    · by_cases z2 : i = l
      · rw [← z1, ← z2]
      · subst z1
        have hi : i < ρ.length := by
          have := (List.getElem?_eq_some_iff.mp h1).1
          rwa [List.length_set] at this
        rw [List.getElem?_set_self (by rw [e.ln]; exact hi)] at h3
        cases h3
        exact (key z2 h2 h4).elim
    · by_cases z2 : i = l
      · subst z2
        have hi : i < ρ.length := by
          have := (List.getElem?_eq_some_iff.mp h2).1
          rwa [List.length_set] at this
        rw [List.getElem?_set_self (by rw [e.ln]; exact hi)] at h4
        cases h4
        exact (key z1 h1 h3).elim
      · rw [List.getElem?_set_ne z1] at h1 h3
        rw [List.getElem?_set_ne z2] at h2 h4
        exact e2.un j l b es fs h1 h2 h3 h4
/-- the list in slot i now holds es -/
theorem En.put {H0 : Bs} {O : Addr → Prop} {σ : L2.St} {H : Hp} {i : Nat} {ds es : List PyData} {a : Addr} {xs ys : List V} (e : En p H0 O σ H ρ) (hi : ρ[i]? = some (some (.own ds))) (hσ : σ[i]? = some (some (.ref a))) (hO : O a) (hH : H a = some (.lst xs)) (hy : DvL (SO p O) H ys es) :
    En p H0 O σ (upd H a (.lst ys)) (ρ.set i (some (.own es))) := by
  have nS := (e.ow a hO).2.1
  have off : ∀ (b : Addr) (o : HO), ¬ SO p O b → H b = some o → NT o → upd H a (.lst ys) b = some o := fun b o n eb _ => by
    rw [upd_ne fun q => n (.inr (by rw [q]; exact hO))]; exact eb
  have okd : Ok p (upd H a (.lst ys)) := by
    have ko : ∀ b, p.S b → upd H a (.lst ys) b = H b := fun b z => upd_ne fun q => nS (q ▸ z)
    refine ⟨fun b z => by rw [ko b z]; exact e.ok.tr b z, fun P hP => ?_, p.ms _ _ e.ok.mm ko⟩
    obtain ⟨ps, hp, tp⟩ := e.ok.tb P hP
    exact ⟨ps, by rw [upd_ne (fun q => by rw [q, hH] at hp; cases hp)]; exact hp, tp⟩
  have hlen : i < ρ.length := (List.getElem?_eq_some_iff.mp hi).1
  refine ⟨?_, e.bo, okd, fun b z => ?_, fun j s hj => ?_, fun j l b gs fs h1 h2 h3 h4 => ?_, by rw [List.length_set, e.ln]⟩
  · by_cases hb : H0.o a
    · exact e.fr.trans (Kq.put hH nt_lst (.inr hb))
    · exact Kq.own e.fr ((e.ow a hO).1.resolve_left hb) hH nt_lst
  · by_cases q : b = a
    · rw [q]; exact ⟨(e.ow a hO).1, nS, ys, upd_same⟩
    · obtain ⟨q1, q2, zs, q3⟩ := e.ow b z
      exact ⟨q1, q2, zs, by rw [upd_ne q]; exact q3⟩
  · by_cases z : i = j
    · subst z
      rw [List.getElem?_set_self hlen] at hj
      cases hj
      exact ⟨a, ys, hσ, hO, upd_same, hy.map (fun _ n _ => n) off⟩
    · rw [List.getElem?_set_ne z] at hj
      have q := e.sl j s hj
      cases s with
      | dat d => obtain ⟨v, q1, q2⟩ := q; exact ⟨v, q1, q2.map (fun _ n _ => n) off⟩
      | own gs =>
        obtain ⟨b, zs, q1, q2, q3, q4⟩ := q
        have nb : b ≠ a := fun w => z (e.un i j a ds gs hi hj hσ (by rw [q1, w]))
        exact ⟨b, zs, q1, q2, by rw [upd_ne nb]; exact q3, q4.map (fun _ n _ => n) off⟩
      | raw v => exact q
      | rng lo hi =>
        obtain ⟨b, q1, q2, q3⟩ := q
        exact ⟨b, q1, q2, off b _ q2 q3 (fun _ q => by cases q)⟩
  · have was : ∀ {m : Nat} {gs : List PyData}, (ρ.set i (some (.own es)))[m]? = some (some (.own gs)) → ∃ gs', ρ[m]? = some (some (.own gs')) := fun {m gs} hm => by
      by_cases z : i = m
      · subst z; exact ⟨ds, hi⟩
      · rw [List.getElem?_set_ne z] at hm; exact ⟨gs, hm⟩
    obtain ⟨_, g1⟩ := was h1
    obtain ⟨_, g2⟩ := was h2
    exact e.un j l b _ _ g1 g2 h3 h4
/-- x.append(e) -/
theorem rn_append {K : PySem.W.Frag} {i : Nat} {ds : List PyData} {P : PyData → Prop} (hi : ρ[i]? = some (some (.own ds))) (hl : ds.length ≤ 10000) (h : Ex p te ρ P) (k : ∀ d, P d → w.N (ρ.set i (some (.own (ds ++ [d]))))) :
    Rn p (tDrop (tBM K "list" rAppend (tVar i) (tCons te tNil))) ρ w := fun H0 O σ H D e n r b c => by
  obtain ⟨a, xs, h1, h2, h3, h4⟩ := e.sl i _ hi
  refine ⟨_, h1, .inl ⟨rfl, _, .inl (.inl h3)⟩, h H0 O σ H e _ fun v H2 d k2 o2 hd pd => ?_⟩
  have e2 := e.kq k2 o2
  have h5 : H2 a = some (.lst xs) := k2.at_ a _ (fun z => (e.ow a h2).2.1 (p.zs a z)) h3 nt_lst
  have hx : xs.length = ds.length := h4.length
  refine ⟨a, xs, v, rfl, rfl, h5, Nat.lt_of_lt_of_le (show xs.length < 20000 by omega) (by decide), ?_⟩
  exact n O σ _ _ (e2.put hi h1 h2 h5 ((h4.kq k2 so_z).append (.one hd))) (k d pd)
theorem DvL.set {S : Addr → Prop} {H : Hp} {v : V} {d : PyData} : ∀ {vs : List V} {ds : List PyData} (m : Nat), DvL S H vs ds → Dv S H v d → DvL S H (vs.set m v) (ds.set m d)
  | _, _, _, .nil, _ => .nil
  | _, _, 0, .cons _ b, h => .cons h b
  | _, _, m + 1, .cons a b, h => .cons a (DvL.set m b h)
/-- x[j] = e -/
theorem rn_setitem {i : Nat} {j : Int} {m : Nat} {ds : List PyData} {P : PyData → Prop} (hi : ρ[i]? = some (some (.own ds))) (h : Ex p te ρ P) (hj : Ed p tb ρ (.int j)) (hm : ixN ds.length j = some m) (k : ∀ d, P d → w.N (ρ.set i (some (.own (ds.set m d))))) :
    Rn p (tAsg te (gSub (tVar i) tb rSetL)) ρ w := fun H0 O σ H D e n r b c => by
  refine h H0 O σ H e _ fun v H2 d k2 o2 hd pd => ?_
  have e2 := e.kq k2 o2
  obtain ⟨a, xs, h1, h2, h3, h4⟩ := e2.sl i _ hi
  refine ⟨_, h1, hj H0 O σ H2 e2 _ fun u H3 d' k3 o3 hd' pd' => ?_⟩
  subst pd'
  cases hd'
  have e3 := e2.kq k3 o3
  have h5 : H3 a = some (.lst xs) := k3.at_ a _ (fun z => (e2.ow a h2).2.1 (p.zs a z)) h3 nt_lst
  have h6 := h4.kq k3 so_z
  refine ⟨a, xs, j, m, rfl, rfl, h5, by rw [h6.length]; exact hm, n O σ _ _ (e3.put hi h1 h2 h5 ?_) (k d pd)⟩
  exact DvL.set m h6 (hd.kq k3 so_z)
/-- x = range(..): the object itself is held -/
def rngSp (r : List V → Hp → VK → Prop) (ds : List PyData) (lo hi : Int) : Prop := ∀ (S : Addr → Prop) H vs, DvL S H vs ds → ∀ Q : VK, (∀ a, H a = none → Q (.ref a) (upd H a (.rng lo hi))) → r vs H Q
theorem rn_rng {i : Nat} {r : List V → Hp → VK → Prop} {t : TA} {ds : List PyData} {lo hi : Int} (h : Ea p t ρ (· = ds)) (hr : rngSp r ds lo hi) (k : w.N (ρ.set i (some (.rng lo hi)))) : Rn p (tAsg (tCB r t) (gName i)) ρ w := fun H0 O σ H D e n rt b c => by
  refine h H0 O σ H e _ fun vs H2 l k2 o2 hd pd => ?_
  subst pd
  have e2 := e.kq k2 o2
  refine hr _ H2 vs hd _ fun a na => ?_
  have kn : Kp H2 (upd H2 a (.rng lo hi)) := Kq.new na
  have e3 := e2.kp kn
  refine n O _ _ _ ⟨e3.fr, e3.bo, e3.ok, e3.ow, fun j s hj => ?_, fun j l a' gs fs h1 h2 h3 h4 => ?_, by rw [List.length_set, List.length_set, e.ln]⟩ k
  · by_cases z : i = j
    · subst z
      have hi : i < ρ.length := by
        have := (List.getElem?_eq_some_iff.mp hj).1
        rwa [List.length_set] at this
      rw [List.getElem?_set_self hi] at hj
      cases hj
      exact ⟨a, List.getElem?_set_self (by rw [e.ln]; exact hi), fresh_so e2 na, upd_same⟩
    · rw [List.getElem?_set_ne z] at hj
      exact (e3.sl j s hj).slot (List.getElem?_set_ne z)
  · have hne : ∀ {m : Nat} {gs : List PyData}, (ρ.set i (some (.rng lo hi)))[m]? = some (some (.own gs)) → i ≠ m := fun {m gs} hm z => by
      subst z
      have hi : i < ρ.length := by
        have := (List.getElem?_eq_some_iff.mp hm).1
        rwa [List.length_set] at this
      rw [List.getElem?_set_self hi] at hm
      cases hm
    have n1 := hne h1
    have n2 := hne h2
    rw [List.getElem?_set_ne n1] at h1 h3
    rw [List.getElem?_set_ne n2] at h2 h4
    exact e.un j l a' gs fs h1 h2 h3 h4
end
/-- a range object, walked -/
def iRv (te : TE) : TI := fun σ H R => te σ H fun x H1 => ∃ a lo hi, x = .ref a ∧ H1 a = some (.rng lo hi) ∧ (-(2 ^ 62) ≤ lo ∧ lo < 2 ^ 62 ∧ -(2 ^ 62) ≤ hi ∧ hi < 2 ^ 62) ∧ R (Itr lo (hi - lo).toNat) H1
theorem pi_rv {X : Cx} {tg e : Expr} {te : TE} (he : PE X e te) : PI X tg e (iRv te) := by
  refine ⟨fun pins s σ H R I h => ?_⟩
  refine thn (he.run pins s σ H _ I h) fun v s1 ⟨x, H1, I1, r1, a, lo, hi, ex, ha, hb, q⟩ => ?_
  subst ex
  cases r1
  obtain ⟨t, u, v, ho⟩ := I1.hok a _ ha
  refine wpAny_pyIter_range (show IsRange s1.heap a lo hi 1 t u v from ho) (small_one hb.1 hb.2.1 hb.2.2.1 hb.2.2.2) ?_
  refine ⟨s1.heap.objs.size, [s1.heap.objs.size], _, _, H1, rfl, I1.kept (t' := s1.toks) fun b o e => Heap.get?_push_of_some _ e, turn_range _ lo (hi - lo).toNat, ?_, fun b hb => ?_, q⟩
  · have e1 : lo + ((0 : Nat) : Int) * 1 = lo := by simp
    have e2 : (((hi - lo).toNat : Nat) : Int) - ((0 : Nat) : Int) = Builtin.Range.rangeSize lo hi 1 := by
      rw [rangeSize_one]
      split <;> omega
    show IsRangeIter _ _ (lo + ((0 : Nat) : Int) * 1) ((((hi - lo).toNat : Nat) : Int) - ((0 : Nat) : Int)) 1
    rw [e1, e2]
    exact Heap.get?_push_size _ rfl
  · have e : b = s1.heap.objs.size := by simpa using hb
    subst e
    exact I1.fpOk (Nat.le_refl _) (I1.hok.fresh (Nat.le_refl _))
section
variable {p : Pm} {ρ : Rho}
theorem ii_rv {i : Nat} {lo hi : Int} (h : ρ[i]? = some (some (.rng lo hi))) (hb : -(2 ^ 62) ≤ lo ∧ lo < 2 ^ 62 ∧ -(2 ^ 62) ≤ hi ∧ hi < 2 ^ 62) : Ii p (iRv (tVar i)) ρ (· = rngD lo (hi - lo).toNat) := fun H0 O σ H e R q => by
  obtain ⟨a, h1, h2, h3⟩ := e.sl i _ h
  exact ⟨_, h1, a, lo, hi, rfl, h3, hb, q _ H _ (Kq.refl H) e.ok rfl wk_rng⟩
end
end Kz
set_option Elab.async false
set_option linter.all false
set_option maxRecDepth 100000
set_option maxHeartbeats 4000000
namespace Kz
open PySem PySem.Spec PyProof.Rows L2

/-! ### all(.. for ..) -/
section
variable {p : Pm} {ρ : Rho} {ta tb te : TE} {tt : TT}
theorem ex_all {P : Addr} {wi : TI} {g : TG} {vs : List Nat} {Pi : List PyData → Prop} (f : PyData → Bool) (hi : Ii p wi ρ Pi) (hP : P ∈ p.Ts)
    (hs : ∀ (ds : List PyData) (i : Nat) (d : PyData), Pi ds → ds[i]? = some d → ∃ (ts : List Nat) (ρ' : Rho), (∀ i ∈ ts, i ∈ vs) ∧ Tg p g ts (wipeR ρ vs) d ρ' ∧ Ed p te ρ' (.bool (f d))) :
    Ex p (Gz.tGen true P wi g tYes te vs) ρ (fun r => ∃ ds, Pi ds ∧ r = .bool (ds.all f)) := fun H0 O σ H e Q q => by
  refine hi H0 O σ H e _ fun J H1 ds k1 o1 pi w => ?_
  have e1 := e.kq k1 o1
  refine ⟨o1.tb P hP, fun H2 ht => ?_⟩
  have kt : Kp H1 H2 := Kq.tbl ht (o1.tb P hP)
  have hwi : wipe (wipe σ vs) vs = wipe σ vs := wipe_ext (wipe_length _ _) fun i hi => wipe_off σ hi
  refine ⟨fun i m H' => m = ds.length - i ∧ i ≤ ds.length ∧ Kq p.Z H1 H' ∧ Ok p H' ∧ (ds.take i).all f = true, ⟨ds.length, by simp, Nat.zero_le _, kt.up, o1.kp kt, rfl⟩, ?_⟩
  rintro i m H' ⟨rfl, hil, k', o', hall⟩
  have el := (e1.wipe vs).kq k' o'
  have l : Lat p O H1 O H' := ⟨k'.mono fun _ z => .inl z, fun _ h => h, fun _ h => .inl h, o', fun a h => ((e1.kq k' o').ow a h).2.2⟩
  by_cases hlt : i < ds.length
  · refine .inr ⟨w.go _ H' i l hlt, fun H'' => i < ds.length ∧ Kq p.Z H1 H'' ∧ Ok p H'' ∧ (ds.take (i + 1)).all f = true, fun H'' s => ⟨ds.length - (i + 1), by omega, rfl, s.1, s.2⟩, fun x H3 y => ?_⟩
    obtain ⟨d, hdi⟩ : ∃ d, ds[i]? = some d := ⟨ds[i], List.getElem?_eq_getElem hlt⟩
    obtain ⟨k3, hx⟩ := w.yld _ H' i x H3 d l hdi y
    obtain ⟨ts, ρ', hts, tg, he⟩ := hs ds i d pi hdi
    refine tg H0 _ _ H3 x (el.kp k3) hx _ fun σ4 e4 wp => ⟨by rw [wp vs hts]; exact hwi, ?_⟩
    dsimp only [tYes]
    rw [if_pos rfl]
    refine he H0 O σ4 H3 e4 _ fun v H5 f' k5 o5 hv hf => ?_
    subst hf
    cases hv
    have htk : (ds.take (i + 1)).all f = (f d) := by
      rw [List.take_add_one, hdi, List.all_append, hall]
      simp
    refine ⟨f d, rfl, ?_⟩
    by_cases hc : f d = true
    · rw [if_pos hc]
      exact ⟨hlt, (k'.trans k3.up).trans k5, o5, by rw [htk]; exact hc⟩
    · rw [if_neg hc]
      have hf : f d = false := by simpa using hc
      refine q _ H5 (.bool (f d)) ((k1.trans k').trans (k3.up.trans k5)) o5 (.bl _) ⟨ds, pi, ?_⟩
      rw [hf]
      congr 1
      symm
      rw [List.all_eq_false]
      exact ⟨d, List.mem_of_getElem? hdi, by rw [hf]; decide⟩
  · have he : i = ds.length := by omega
    subst he
    rw [List.take_length] at hall
    exact .inl ⟨w.stop _ H' l, q _ H' _ (k1.trans k') o' (.bl true) ⟨ds, pi, by rw [hall]⟩⟩
end

/-! ### defs that only reckon -/
/-- from data of which Pre holds to a datum as Post says; all that is tracked stays -/
def pureSp (Ts : List Addr) (n : Nat) (Pre : List PyData → Prop) (Post : List PyData → PyData → Prop) : Sp := fun vs H Q _ => vs.length = n ∧ ∃ (S : Addr → Prop) (ds : List PyData),
  (∀ a, S a → ∃ o, H a = some o ∧ NT o) ∧ (∀ P ∈ Ts, GxR.TabG H P) ∧ DvL S H vs ds ∧ Pre ds ∧ ∀ v H' d, Kp H H' → Dv S H' v d → Post ds d → Q v H'
section
variable {p : Pm} {ρ : Rho} {ta tb te : TE} {tt : TT}
theorem ex_call {Ts : List Addr} {n : Nat} {Pre : List PyData → Prop} {Post : List PyData → PyData → Prop} {E : XK} {t : TA} {Pa : List PyData → Prop} (h : Ea p t ρ Pa) (hn : ∀ ds, Pa ds → ds.length = n ∧ Pre ds) (hT : ∀ P ∈ Ts, P ∈ p.Ts) :
    Ex p (tCall (pureSp Ts n Pre Post) [] E t) ρ (fun d => ∃ ds, Pa ds ∧ Post ds d) := fun H0 O σ H e Q q => by
  refine h H0 O σ H e _ fun vs H2 ds k2 o2 hd pd => ?_
  have e2 := e.kq k2 o2
  refine ⟨by rw [List.append_nil, hd.length]; exact (hn ds pd).1, SO p O, ds, so_trk e2, fun P hP => o2.tb P (hT P hP), by rw [List.append_nil]; exact hd, (hn ds pd).2, fun v H3 d k3 hv hp => ?_⟩
  exact q v H3 d (k2.trans k3.up) (o2.kp k3) hv ⟨ds, pd, hp⟩
theorem ed_call {Ts : List Addr} {n : Nat} {Pre : List PyData → Prop} {f : List PyData → PyData} {E : XK} {t : TA} {ds : List PyData} (h : Ea p t ρ (· = ds)) (hn : ds.length = n) (hp : Pre ds) (hT : ∀ P ∈ Ts, P ∈ p.Ts) :
    Ed p (tCall (pureSp Ts n Pre (fun ds d => d = f ds)) [] E t) ρ (f ds) := (ex_call h (fun l e => by rw [e]; exact ⟨hn, hp⟩) hT).imp fun d ⟨l, e, z⟩ => by rw [z, e]
theorem ex_callK {Ts : List Addr} {n : Nat} {Pre : List PyData → Prop} {Post : List PyData → PyData → Prop} {E : XK} {t tk : TA} {gV : List V → List V → List V} {gD : List PyData → List PyData → List PyData} {Pa Pk : List PyData → Prop} (h : Ea p t ρ Pa) (k : Ea p tk ρ Pk)
    (hg : ∀ S H vs zs ds es, Pa ds → Pk es → DvL S H vs ds → DvL S H zs es → DvL S H (gV vs zs) (gD ds es)) (hn : ∀ ds es, Pa ds → Pk es → (gD ds es).length = n ∧ Pre (gD ds es)) (hT : ∀ P ∈ Ts, P ∈ p.Ts) :
    Ex p (tCallK (pureSp Ts n Pre Post) gV E t tk) ρ (fun d => ∃ ds es, Pa ds ∧ Pk es ∧ Post (gD ds es) d) := fun H0 O σ H e Q q => by
  refine h H0 O σ H e _ fun vs H2 ds k2 o2 hd pd => ?_
  refine k H0 O σ H2 (e.kq k2 o2) _ fun zs H3 es k3 o3 he pe => ?_
  have e3 := (e.kq k2 o2).kq k3 o3
  have hh := hg (SO p O) H3 vs zs ds es pd pe (hd.kq k3 so_z) he
  refine ⟨by rw [hh.length]; exact (hn ds es pd pe).1, SO p O, gD ds es, so_trk e3, fun P hP => o3.tb P (hT P hP), hh, (hn ds es pd pe).2, fun v H4 d k4 hv hp => ?_⟩
  exact q v H4 d ((k2.trans k3).trans k4.up) (o3.kp k4) hv ⟨ds, es, pd, pe, hp⟩
end
def startR (N : List Str) (ds : List PyData) : Rho := ds.map (fun d => some (.dat d)) ++ List.replicate (N.length - ds.length) none
/-- a def that only reckons, by its body -/
def pPm (S : Addr → Prop) (Ts : List Addr) : Pm := ⟨S, Z0, fun _ => True, Ts, fun _ h => h.elim, fun _ _ _ _ => trivial⟩
theorem start_get {N : List Str} {vs : List V} {ds : List PyData} {S : Addr → Prop} {H : Hp} (h : DvL S H vs ds) : ∀ (i : Nat) (s : Sl), (startR N ds)[i]? = some (some s) → ∃ d v, s = .dat d ∧ (start N vs)[i]? = some (some v) ∧ Dv S H v d := by
  intro i s hs
  unfold startR at hs
  by_cases hi : i < ds.length
  · rw [List.getElem?_append_left (by simpa using hi), List.getElem?_map, List.getElem?_eq_getElem hi] at hs
    cases hs
    obtain ⟨v, hv, hd⟩ := h.getD (List.getElem?_eq_getElem hi)
    refine ⟨_, v, rfl, ?_, hd⟩
    unfold L2.start
    rw [List.getElem?_append_left (by rw [List.length_map, h.length]; exact hi), List.getElem?_map, hv]
    rfl
  · rw [List.getElem?_append_right (by simpa using hi), List.getElem?_replicate] at hs
    split at hs <;> cases hs
section
variable {P : Program} {w : World} {K : PySem.W.Frag} {mg : Str → Option Value} {base : Heap}
theorem pure_body {N ps : List Str} {n : Nat} {Ts : List Addr} {Pre : List PyData → Prop} {Post : List PyData → PyData → Prop} {t : TS} {vs : List V} {H : Hp} {Q : VK} {E : XK} (hn : n ≤ N.length)
    (h : pureSp Ts n Pre Post vs H Q E) (hb : ∀ (p : Pm) (ds : List PyData), (∀ P ∈ Ts, P ∈ p.Ts) → ds.length = n → Pre ds → Rn p t (startR N ds) { N := fun _ => Post ds .none, R := Post ds }) :
    t { nx := fun _ H' => Q .non H', rt := Q } (start N vs) H := by
  obtain ⟨hl, S, ds, tr, tb, hd, hp, q⟩ := h
  have hz : ∀ a : Addr, ¬ ZO (pPm S Ts) (fun _ => False) a := fun a z => z.elim (fun z => z) (fun z => z)
  refine hb (pPm S Ts) ds (fun _ h => h) (by rw [← hd.length]; exact hl) hp ⟨H, fun _ => False⟩ (fun _ => False) _ H _ ⟨Kq.refl H, fun _ h => h, ⟨tr, tb, trivial⟩, fun a h => h.elim, fun i s hs => ?_, fun i j a es fs h1 => ?_, ?_⟩
    (fun O' σ' H' ρ' e pn => q .non H' .none (e.fr.mono fun a z => (hz a z).elim) .non pn) (fun v d H' k o hv pr => q v H' d (k.mono fun a z => (hz a z).elim) hv pr) (fun _ _ _ _ _ z => False.elim z) (fun _ _ _ _ _ z => False.elim z)
  · obtain ⟨d, v, rfl, h1, h2⟩ := start_get (N := N) hd i s hs
    exact ⟨v, h1, h2.map (fun a n _ z => z.elim n fun z => z) fun _ _ _ e _ => e⟩
  · obtain ⟨d, v, z, _⟩ := start_get (N := N) hd i _ h1
    cases z
  · unfold L2.start startR
    rw [List.length_append, List.length_append, List.length_map, List.length_map, List.length_replicate, List.length_replicate, hd.length]
theorem ok_pure {x qual : Str} {st : Stmt} {f : Addr} {fd : FuncData} {N ps : List Str} {k n : Nat} {Ts : List Addr} {Pre : List PyData → Prop} {Post : List PyData → PyData → Prop} (F : Fun K x qual st f fd) (Sc : FnScope N ps (defScope st)) (hps : ps.length = n) (hn : n ≤ N.length)
    (hb : ∀ (cdv : Value) (A : Around) (outer : List PySem.Env) (s : Shared) (H : Hp) (E : XK), Room k (A.deeper (envOfC qual (defScope st) s.heap.objs.size f cdv)) →
      ∃ t, PSs (cxOf CX0 P w K mg base N qual (defScope st) f cdv A outer s H E).nox (defBody st) t ∧
        ∀ (p : Pm) (ds : List PyData), (∀ P ∈ Ts, P ∈ p.Ts) → ds.length = n → Pre ds → Rn p t (startR N ds) { N := fun _ => Post ds .none, R := Post ds }) : FnOk P w K mg base CX0 (k + 1) f fd ps (pureSp Ts n Pre Post) := by
  refine F.ok Sc (fun vs H Q E h => by rw [h.1, hps]) (fun cdv A outer s H vs Q E hr h => ?_)
  obtain ⟨t, ht, hR⟩ := hb cdv A outer s H E hr
  exact ⟨t, ht, pure_body (ps := ps) hn h hR⟩
/-- a def whose code object is the one at c -/
structure FunC (K : PySem.W.Frag) (x qual : Str) (st : Stmt) (f : Addr) (fd : FuncData) (c : Addr) : Prop where
  ex : ∃ (oc : Value) (od : Option Addr) (kV doc pm : Value) (an : Option Addr) (ct : Value) (osl : Array (Option Value)),
    fd = PySem.W.fnOf x qual (defArgs st) (defBody st) (defScope st) .none kV doc pm an (.ref c) ct ∧ K.lookup f = some ⟨oc, od, .func fd, osl⟩ ∧ PySem.W.codeIn K (.ref c) qual = true
  kp : PySem.W.keepIn K (.ref f) = true
theorem FunC.fn {x qual : Str} {st : Stmt} {f c : Addr} {fd : FuncData} (F : FunC K x qual st f fd c) : Fun K x qual st f fd :=
  ⟨let ⟨oc, od, kV, doc, pm, an, ct, osl, h1, h2, h3⟩ := F.ex; ⟨oc, od, kV, doc, pm, an, _, ct, osl, h1, h2, h3⟩, F.kp⟩
theorem ok_pureC {x qual : Str} {st : Stmt} {f c : Addr} {fd : FuncData} {N ps : List Str} {k n : Nat} {Ts : List Addr} {Pre : List PyData → Prop} {Post : List PyData → PyData → Prop} (F : FunC K x qual st f fd c) (Sc : FnScope N ps (defScope st)) (hps : ps.length = n) (hn : n ≤ N.length)
    (hb : ∀ (A : Around) (outer : List PySem.Env) (s : Shared) (H : Hp) (E : XK), Room k (A.deeper (envOfC qual (defScope st) s.heap.objs.size f (.ref c))) →
      ∃ t, PSs (cxOf CX0 P w K mg base N qual (defScope st) f (.ref c) A outer s H E).nox (defBody st) t ∧
        ∀ (p : Pm) (ds : List PyData), (∀ P ∈ Ts, P ∈ p.Ts) → ds.length = n → Pre ds → Rn p t (startR N ds) { N := fun _ => Post ds .none, R := Post ds }) : FnOk P w K mg base CX0 (k + 1) f fd ps (pureSp Ts n Pre Post) := by
  obtain ⟨oc, od, kV, doc, pm, an, ct, osl, rfl, lk, hcd⟩ := F.ex
  refine fn_of lk hcd Sc (fun vs H Q E h => by rw [h.1, hps]) fun A outer s H vs Q E hr h => ?_
  obtain ⟨t, ht, hR⟩ := hb A outer s H E hr
  exact ⟨t, ht.nox, pure_body (ps := ps) hn h hR⟩
end
end Kz
set_option Elab.async false
set_option linter.all false
set_option maxRecDepth 100000
set_option maxHeartbeats 4000000
/-! Kz: defs that show values (repr), and the end of a law that calls them; keywords alone -/
namespace Kz
open PySem PySem.Spec PyProof.Rows L2

/-! ### repr -/
mutual
theorem Dv.dp {K : PySem.W.Frag} {S : Addr → Prop} {H : Hp} : ∀ (d : PyData) (v : V), d.hasDict = false → Dv S H v d → Dp K H v d
  | .none, _, _, h => by cases h; exact .non
  | .bool _, _, _, h => by cases h; exact .bl _
  | .int _, _, _, h => by cases h; exact .int _
  | .str _, _, _, h => by cases h; exact .str _
  | .list ds, _, n, h => by
    cases h with
    | lst _ e r => exact .lst (.inl (.inl e)) (DvL.dp ds _ (by simpa only [PyData.hasDict] using n) r)
  | .tuple ds, _, n, h => by
    cases h with
    | tup _ e r => exact .tup (.inl (.inl e)) (DvL.dp ds _ (by simpa only [PyData.hasDict] using n) r)
  | .dict _, _, n, _ => by simp only [PyData.hasDict] at n; cases n
theorem DvL.dp {K : PySem.W.Frag} {S : Addr → Prop} {H : Hp} : ∀ (ds : List PyData) (vs : List V), PyData.hasDictAll ds = false → DvL S H vs ds → DpAll K H vs ds
  | [], _, _, h => by cases h; exact .nil
  | d :: ds, _, n, h => by
    cases h with
    | cons h1 h2 =>
      have n' : d.hasDict = false ∧ PyData.hasDictAll ds = false := by simpa only [PyData.hasDictAll, Bool.or_eq_false_iff] using n
      exact .cons (Dv.dp d _ n'.1 h1) (DvL.dp ds _ n'.2 h2)
end
/-- a datum that may be shown -/
structure Shw (d : PyData) : Prop where
  nd : d.hasDict = false
  sh : d.showable = true
  dp : d.depth ≤ 20
  sz : d.shown.length ≤ sizeLine
def rRepr (K : PySem.W.Frag) : List V → Hp → VK → Prop := fun vs H Q => ∃ v d, vs = [v] ∧ Dp K H v d ∧ Shw d ∧ Q (.str d.shown) H
theorem call_repr {X : Cx} (hG : X.A.guards = some []) (hu : X.A.units + 64 < cLine) : CallR X (.builtin "repr") (rRepr X.K) := by
  intro pins s σ H vs us Q I r h
  obtain ⟨v, d, rfl, hd, sh, q⟩ := h
  obtain ⟨u, rfl, ru⟩ : ∃ u, us = [u] ∧ RelV v u := by
    cases r with
    | cons a b => cases b; exact ⟨_, rfl, a⟩
  obtain ⟨as, hr⟩ := Dp.reads I d v u hd ru
  have fin : ∀ tk, EP X pins σ Q (.str d.shown tk) { s with toks := s.toks + 1 } := fun tk => ⟨.str d.shown, H, I.tok _, ⟨tk, rfl⟩, q⟩
  have ref : ∀ a, u = Value.ref a → wpAny (model X.prog X.w) X.A (call (.builtin "repr") [u]) (EP X pins σ Q) X.xe s := fun a e => by
    subst e
    exact repr_of_reads' hr sh.sh (fun z => by rw [sh.nd] at z; cases z) hG (by have := sh.dp; omega) (fun _ _ e => e) (fun h' t tk k => ⟨.str d.shown, H, I.kept k, ⟨t, rfl⟩, q⟩) sh.sz
  cases hd with
  | non => cases ru; exact PySem.P.repr_of_none (fin _)
  | bl b => cases ru; exact PySem.P.repr_of_bool (fin _)
  | int i =>
    obtain ⟨t, rfl⟩ := ru
    exact PySem.P.repr_of_int (by have := sh.sh; simpa only [PyData.showable, decide_eq_true_eq] using this) (fin _)
  | str x =>
    obtain ⟨t, rfl⟩ := ru
    exact PySem.P.repr_of_str (fin _) sh.sz
  | lst _ _ => exact ref _ ru
  | tup _ _ => exact ref _ ru
theorem bc_repr {p : Pm} {K : PySem.W.Frag} {d : PyData} (sh : Shw d) : Bc p (rRepr K) [d] (· = .str d.shown) := fun H0 O σ ρ H vs e hv Q q => by
  obtain ⟨v, rfl, hw⟩ := hv.one_inv
  exact ⟨v, d, rfl, hw.dp d v sh.nd, sh, q _ H _ (Kq.refl H) e.ok (.str _) rfl⟩

/-! ### defs with a clear stack of shown values -/
structure FnG (P : Program) (w : World) (K : PySem.W.Frag) (mg : Str → Option Value) (base : Heap) (k : Nat) (f : Addr) (fd : FuncData) (ps : List Str) (sp : Sp) : Prop where
  len : ∀ vs H Q E, sp vs H Q E → vs.length = ps.length
  run : ∀ (A : Around) (outer : List PySem.Env) (s : Shared) (H : Hp) (args : Args) (us : List Value) (vs : List V) (Q : VK), Room k A → A.guards = some [] → Env0 P w K mg base A outer s H →
    BindsTo s fd args (ps.zip us) → Vals vs us → sp vs H Q E0 → codeAny (model P w) A (.call (.ref f) args) (CR CX0 outer P w H s Q E0) s
theorem FnOk.g {P : Program} {w : World} {K : PySem.W.Frag} {mg : Str → Option Value} {base : Heap} {k : Nat} {f : Addr} {fd : FuncData} {ps : List Str} {sp : Sp} (F : FnOk P w K mg base CX0 k f fd ps sp) : FnG P w K mg base k f fd ps sp :=
  ⟨F.len, fun A outer s H args us vs Q hr _ e b r h => F.run A outer s H args us vs Q E0 hr e b r h⟩
theorem fng_of {P : Program} {w : World} {K : PySem.W.Frag} {mg : Str → Option Value} {base : Heap} {x qual : Str} {st : Stmt} {f : Addr} {fd : FuncData} {N ps : List Str} {k : Nat} {sp : Sp} (F : Fun K x qual st f fd) (Sc : FnScope N ps (defScope st)) (len : ∀ vs H Q E, sp vs H Q E → vs.length = ps.length)
    (hbody : ∀ (cdv : Value) (A : Around) (outer : List PySem.Env) (s : Shared) (H : Hp) (vs : List V) (Q : VK), Room k (A.deeper (envOfC qual (defScope st) s.heap.objs.size f cdv)) →
      (A.deeper (envOfC qual (defScope st) s.heap.objs.size f cdv)).guards = some [] → sp vs H Q E0 →
      ∃ t, PSs (cxOf CX0 P w K mg base N qual (defScope st) f cdv A outer s H E0).nox (defBody st) t ∧ t { nx := fun _ H' => Q .non H', rt := Q } (L2.start N vs) H) : FnG P w K mg base (k + 1) f fd ps sp := by
  obtain ⟨oc, od, kV, doc, pm, an, cdv, ct, osl, rfl, lk, hcd⟩ := F.ex
  refine ⟨len, fun A outer s H args us vs Q hr hG e0 hb r hsp => ?_⟩
  have hl := len _ _ _ _ hsp
  have KX : K.In s.heap := e0.mod.kin.keeps fun b o e => (e0.bs b o e).1
  have lim : s.heap.NoLimit := e0.mod.nolimit.keeps fun b o e => (e0.bs b o e).1
  have kinds : ∀ y ∈ ps.zip us, (defScope st).names.lookup y.1 = some .local ∨ ((defScope st).names.lookup y.1 = some .cell ∧ ((cellsFrom (s.heap.objs.size + 1) (defScope st).names []).lookup y.1).isSome = true) := by
    rintro ⟨n, v⟩ hy
    rcases Sc.par n (List.of_mem_zip hy).1 with q | q
    · exact .inl q
    · exact .inr ⟨q, PySem.W.cellsFrom_some _ _ _ (.inl q)⟩
  refine codeAny_call_function hr.depth (KX _ _ lk) rfl Sc.co Sc.gen rfl (PySem.W.codeRec_of KX hcd) (hb _ _ _ _ ?_)
  refine wpAny_newFunctionEnv_cells Sc.kind kinds fun env he s1 x => ?_
  subst he
  refine ⟨lim.keeps x.toInCall.keep, codeAny_func ?_⟩
  obtain ⟨t, ht, hq⟩ := hbody cdv A outer s H vs Q (hr.deeper _) hG hsp
  have I : Inv (cxOf CX0 P w K mg base N qual (defScope st) f cdv A outer s H E0) [] (L2.start N vs) H s1 := inv_start Sc hr.hd e0 hl r x
  refine wpAny_mono (ht.nox.run [] s1 (L2.start N vs) H _ I hq) (fun fl s' hs => ?_) fun e s' hs => hs
  cases fl with
  | ret u =>
    obtain ⟨v, σ', H', J, rv, q⟩ := hs
    exact ⟨v, H', J.os, J.bare, J.base, J.hok, rv, q⟩
  | next =>
    obtain ⟨σ', H', J, q⟩ := hs
    exact ⟨V.non, H', J.os, J.bare, J.base, J.hok, rfl, q⟩
  | brk => exact hs.elim fun _ z => z.elim fun _ z => z.2.elim
  | cont => exact hs.elim fun _ z => z.elim fun _ z => z.2.elim
section
variable {X : Cx} {k : Nat} {f : Addr} {fd : FuncData} {ps ks : List Str} {sp : Sp} {x : Str} {p pos : Pos} {e : Expr} {es : List Expr} {kws : List Keyword} {t tk : TA} {g : List Value → List Value → List Value} {gV : List V → List V → List V}
theorem run_fnG {pins : List (Addr × Obj)} {σ : L2.St} {H : Hp} {s : Shared} {Q : VK} {us : List Value} {vs : List V} (F : FnG X.prog X.w X.K X.mg X.base k f fd ps sp) (hr : Room k X.A) (hG : X.A.guards = some []) (hb : Binds X.K fd ps [])
    (I : Inv X pins σ H s) (r : Vals vs us) (h : sp vs H Q E0) : wpAny (model X.prog X.w) X.A (call (.ref f) us) (EP X pins σ Q) X.xe s := by
  have hl : (us ++ []).length = ps.length := by rw [List.append_nil, ← r.length]; exact F.len _ _ _ _ h
  have hb' := hb s us I.kIn hl
  rw [List.append_nil] at hb'
  refine wpAny_call (codeAny_mono (F.run X.A X.stack s H ⟨us, []⟩ us vs Q hr hG I.env0 hb' r h) fun r s' hq => ?_)
  cases r with
  | error e => exact False.elim hq
  | ok fl =>
    cases fl with
    | ret u => exact I.after hq
    | next => exact False.elim hq
    | brk => exact False.elim hq
    | cont => exact False.elim hq
theorem pe_callG (F : FnG X.prog X.w X.K X.mg X.base k f fd ps sp) (hr : Room k X.A) (hG : X.A.guards = some []) (hg : Gl X x) (hm : X.mg x = some (.ref f)) (hk : PySem.W.keepIn X.K (.ref f) = true) (hb : Binds X.K fd ps [])
    (ha : PA X (e :: es) t) (hdb : (x == ("__debug__" : Str)) = false := by decide) (he : starEach (e :: es) X.env = (false, eval e X.env) :: starEach es X.env := by rfl) (hpl : (backTo pos (starEach es X.env)).any (·.1) = false := by rfl) :
    PE X (.Call (.Name x p) (e :: es) [] pos) (tCall sp [] E0 t) := by
  refine ⟨fun pins s σ H Q I h => ?_⟩
  refine wpAny_Call_Name_kw (ld_glob I hg hm ?_ hdb)
  refine PySem.W.callWith_K (h₀ := X.base) I.ok.mod.kin hk (thn (ha.run pos pins s σ H _ I h) fun us s1 ⟨vs, H1, I1, r, q⟩ => ⟨I1.kIn, ?_⟩) he hpl
  have q' : sp (vs ++ []) H1 Q E0 := q
  rw [List.append_nil] at q'
  exact run_fnG F hr hG hb I1 r q'
/-- f(k = v, ..): keywords alone -/
theorem pe_callK0 {CX : CXT} {E : XK} (F : FnOk X.prog X.w X.K X.mg X.base CX k f fd ps sp) (hr : Room k X.A) (hg : Gl X x) (hm : X.mg x = some (.ref f)) (hk : PySem.W.keepIn X.K (.ref f) = true) (hb : KBinds X.K fd ps ks g gV) (hx : Passes CX X E)
    (hkw : PK X kws tk) (hall : (backToKw pos (keywordEach kws X.env)).all (·.1.isSome) = true := by rfl) (hks : (backToKw pos (keywordEach kws X.env)).filterMap (·.1) = ks := by rfl)
    (hdb : (x == ("__debug__" : Str)) = false := by decide) (hpl : ((backTo pos (starEach [] X.env)).any (·.1) || (backToKw pos (keywordEach kws X.env)).any (·.1.isNone)) = false := by rfl) :
    PE X (.Call (.Name x p) [] kws pos) (tCallK sp gV E tNil tk) := by
  refine ⟨fun pins s σ H Q I h => ?_⟩
  refine wpAny_Call_Name_kw (ld_glob I hg hm ?_ hdb)
  refine PySem.W.callWith_KW0 (h₀ := X.base) I.ok.mod.kin hk hall ?_ hpl
  refine thn (hkw.run pos pins s σ H _ I h) fun ws s2 ⟨zs, H2, I2, rz, q2⟩ => ⟨I2.kIn, ?_⟩
  rw [hks]
  exact run_fnk F hr hb hx I2 .nil rz q2
end

/-! ### the end of a law -/
theorem law_callG {P : Program} {w : World} {K : PySem.W.Frag} {mg mb : Str → Option Value} {k : Nat} {fa a : Addr} {cs : List (Addr × Addr)} {fd : FuncData} {x : Str} {sp : Sp} {s₁ : Shared} {vs : List Value} {ns : List Int}
    (KX : K.In s₁.heap) (hns : s₁.heap.Ns mainGlobals mg) (hb : s₁.heap.Ns builtinsNs mb) (hbb : ∀ x : Str, x ≠ "__name__" → mb x = bootBuiltins x) (hlim : s₁.heap.NoLimit) (hg : s₁.gens = #[])
    (hT : ∀ p ∈ cs, s₁.heap.get? p.2 = some { cls := .none, data := .fields #[] }) (nT : ∀ p ∈ cs, K.lookup p.2 = none) (C : ∀ p ∈ cs, PySem.W.CodeHd s₁.heap p.1 p.2)
    (hbm : ∃ (bm : Addr) (ob : Obj), mg "__builtins__" = some (.ref bm) ∧ bm ≠ builtinsNs ∧ s₁.heap.get? bm = some ob ∧ ob.cls = .type "module" ∧ ob.dict = some builtinsNs ∧ ob.data = .plain)
    (ha : s₁.heap.get? a = some { cls := .type "list", data := .seq vs.toArray }) (hi : IntsAre vs ns) (hl : ns.length ≤ sizeLine) (hr : Room k callerA)
    (F : ∀ base : Heap, K.In base → base.Ns mainGlobals mg → (∀ p ∈ cs, GxR.TabB base mg p.1 p.2) → FnG P w K mg base k fa fd [x] sp) (hbind : ∀ (s : Shared) (u : Value), BindsTo s fd ⟨[u], []⟩ [(x, u)])
    (hsp : ∀ H : Hp, (∀ p ∈ cs, H p.2 = some (.tbl #[])) → SqL K H a (ns.map V.int) → sp [.ref a] H (fun v _ => v = .bl true) E0) :
    codeAny (model P w) callerA (.call (.ref fa) ⟨[.ref a], []⟩) (fun r s' => r = .ok (.ret (.bool true)) ∧ OldK s₁.heap s'.heap ∧ s'.os = s₁.os ∧ AllBare s'.gens) s₁ := by
  have rv := vals_ints hi
  have lenV := hi.length
  have isT : ∀ b : Addr, b ∈ cs.map (·.2) → s₁.heap.get? b = some { cls := .none, data := .fields #[] } := by
    intro b hb
    obtain ⟨p, hp, e⟩ := List.mem_map.mp hb
    rw [← e]
    exact hT p hp
  have memT : ∀ p ∈ cs, p.2 ∈ cs.map (·.2) := fun p hp => List.mem_map_of_mem hp
  have aT : a ∉ cs.map (·.2) := by
    intro z
    have q := isT a z
    rw [ha] at q
    have z' := congrArg Obj.data (Option.some.inj q)
    cases z'
  have core : ∀ H : Hp, (∀ p ∈ cs, H p.2 = some (.tbl #[])) → (∀ b, H b = none ∨ b ∈ cs.map (·.2) ∨ ∃ o xs, H b = some (.frz o (.lst xs))) → SqL K H a (ns.map V.int) → HOk P w H s₁.heap →
      (∀ b, H b ≠ none → b = a ∨ b ∈ cs.map (·.2)) → (H a ≠ none → K.lookup a = none) →
      codeAny (model P w) callerA (.call (.ref fa) ⟨[.ref a], []⟩) (fun r s' => r = .ok (.ret (.bool true)) ∧ OldK s₁.heap s'.heap ∧ s'.os = s₁.os ∧ AllBare s'.gens) s₁ := by
    intro H hH hO hS hok hA hK
    have out : ∀ {b : Addr} {o : Obj}, s₁.heap.get? b = some o → H b = none → (hidT s₁.heap H).get? b = some o := fun e n => hidT_get e n
    -- an object that is neither the script nor a table is not tracked
    have off : ∀ {b : Addr} {o : Obj}, s₁.heap.get? b = some o → (∀ us n, o.data ≠ .seq us n) → o.data ≠ .fields #[] → H b = none := by
      intro b o e h1 h2
      cases q : H b with
      | none => rfl
      | some u =>
        rcases hA b (by rw [q]; simp) with e' | e'
        · subst e'
          rw [ha] at e
          cases e
          exact absurd rfl (h1 _ _)
        · rw [isT b e'] at e
          cases e
          exact absurd rfl h2
    have nsK : ∀ {b : Addr} {m : Str → Option Value}, s₁.heap.Ns b m → (hidT s₁.heap H).Ns b m := by
      rintro b m ⟨o, es, ep, e, d, r⟩
      refine ⟨o, es, ep, out e (off e (fun us n z => ?_) fun z => ?_), d, r⟩
      · rw [d] at z; cases z
      · rw [d] at z; cases z
    have hKb : K.In (hidT s₁.heap H) := by
      intro b o e
      refine out (KX b o e) ?_
      cases q : H b with
      | none => rfl
      | some u =>
        exfalso
        rcases hA b (by rw [q]; simp) with e' | e'
        · subst e'
          rw [hK (by rw [q]; simp)] at e
          cases e
        · obtain ⟨p, hp, ep⟩ := List.mem_map.mp e'
          rw [← ep, nT p hp] at e
          cases e
    have hM : L2.Mod K mg (hidT s₁.heap H) := ⟨hKb, nsK hns, ⟨mb, nsK hb, hbb⟩, let ⟨mc, h1, h2⟩ := hlim; ⟨mc, nsK h1, h2⟩⟩
    have TB : ∀ p ∈ cs, GxR.TabB (hidT s₁.heap H) mg p.1 p.2 := by
      intro p hp
      have hTp := hT p hp
      refine ⟨?_, ?_, fun z => ?_⟩
      · obtain ⟨o, us, file, tf, flags, tg, inF, text, tt, e1, r1, r2, r3, rest⟩ := C p hp
        refine ⟨o, us, file, tf, flags, tg, inF, text, tt, out e1 (off e1 (fun vs n z => ?_) fun z => ?_), r1, r2, r3, rest⟩
        · rw [r2] at z; cases z
        · rw [r2] at z
          cases z
          simp at r3
      · obtain ⟨bm, ob, b1, b2, b3, b4, b5, b6⟩ := hbm
        refine ⟨bm, ob, b1, b2, fun q => ?_, fun q => ?_, out b3 (off b3 (fun vs n z => ?_) fun z => ?_), b4, b5, b6⟩
        · obtain ⟨o, es, ep, e, hd, _⟩ := hns
          rw [q, e] at b3
          cases b3
          rw [hd] at b6; cases b6
        · rw [q, hTp] at b3
          cases b3
          cases b6
        · rw [b6] at z; cases z
        · rw [b6] at z; cases z
      · obtain ⟨o, es, ep, e, hd, _⟩ := hns
        rw [z, hTp] at e
        cases e
        cases hd
    have e0 : Env0 P w K mg (hidT s₁.heap H) callerA [] s₁ H := ⟨rfl, hM, fun b o e => of_hidT e, Nat.le_of_eq (hidT_size _ _), trivial, fun b hb => absurd (show b ∈ ([] : List Addr) from hb) (by simp), hok, .of_eq hg⟩
    refine codeAny_mono ((F _ hKb (nsK hns) TB).run callerA [] s₁ H ⟨[.ref a], []⟩ [.ref a] [.ref a] _ hr rfl e0 (hbind s₁ (.ref a)) (.cons rfl .nil) (hsp H hH hS)) fun r s' h => ?_
    cases r with
    | error e => exact False.elim h
    | ok fl =>
      cases fl with
      | next => exact False.elim h
      | brk => exact False.elim h
      | cont => exact False.elim h
      | ret u =>
        obtain ⟨v, H', os, bare, un, hok', r', q⟩ := h
        have q' : v = .bl true := q
        subst q'
        obtain rfl : u = Value.bool true := r'
        have key : ∀ b o, b ∉ cs.map (·.2) → s₁.heap.get? b = some o → s'.heap.get? b = some o := by
          intro b o nb e
          rcases hO b with q | z | ⟨ob, xs, z⟩
          · exact un.keep b o e q (by intro z; exact absurd (show b ∈ ([] : List Addr) from z) (by simp)) (by simp)
          · exact absurd z nb
          · obtain ⟨e1, _⟩ := hok b _ z
            obtain ⟨e2, _⟩ := hok' b _ (un.frzs b ob _ z)
            rw [e] at e1; cases e1
            exact e2
        have grown : ∀ p ∈ cs, ∃ more : Array Value, s'.heap.get? p.2 = some { cls := .none, data := .fields more } := by
          intro p hp
          obtain ⟨more, z⟩ := un.tbls p.2 #[] (hH p hp)
          exact ⟨_, hok' p.2 _ z⟩
        refine ⟨rfl, ⟨fun b o e => ?_, fun b o e => ?_⟩, os, bare⟩
        · by_cases hb : b ∈ cs.map (·.2)
          · obtain ⟨p, hp, ep⟩ := List.mem_map.mp hb
            obtain ⟨more, hm⟩ := grown p hp
            rw [← ep] at e ⊢
            rw [hT p hp] at e
            cases e
            exact .inr (.inl ⟨((C p hp).tab (hT p hp)).isCodeTable, rfl, #[], more, rfl, by rw [Array.empty_append]; exact hm⟩)
          · exact .inl (key b o hb e)
        · by_cases hb : b ∈ cs.map (·.2)
          · obtain ⟨p, hp, ep⟩ := List.mem_map.mp hb
            obtain ⟨more, hm⟩ := grown p hp
            rw [← ep]
            exact ⟨_, hm⟩
          · exact ⟨o, key b o hb e⟩
  have hTb : ∀ (H : Hp) (b : Addr), H b = some (.tbl #[]) → b ∈ cs.map (·.2) → ObjOk P w H s₁.heap b (.tbl #[]) := fun H b _ hb => isT b hb
  cases hk : K.lookup a with
  | some o =>
    have e := KX a o hk
    rw [ha] at e
    cases e
    let H : Hp := fun b => if b ∈ cs.map (·.2) then some (.tbl #[]) else none
    have hin : ∀ b, b ∈ cs.map (·.2) → H b = some (.tbl #[]) := fun b h => if_pos h
    have hno : ∀ b, b ∉ cs.map (·.2) → H b = none := fun b h => if_neg h
    refine core H (fun p hp => hin _ (memT p hp)) (fun b => ?_) (.inr ⟨_, vs.toArray, _, hk, rfl, rfl, rfl, by rw [List.size_toArray, lenV]; exact hl, by simpa using rv⟩) (fun b u z => ?_) (fun b z => ?_) fun z => absurd (hno a aT) z
    · by_cases hb : b ∈ cs.map (·.2)
      · exact .inr (.inl hb)
      · exact .inl (hno b hb)
    · by_cases hb : b ∈ cs.map (·.2)
      · rw [hin b hb] at z; cases z
        exact isT b hb
      · rw [hno b hb] at z; cases z
    · by_cases hb : b ∈ cs.map (·.2)
      · exact .inr hb
      · exact absurd (hno b hb) z
  | none =>
    let H : Hp := fun b => if b = a then some (.frz { cls := .type "list", data := .seq vs.toArray } (.lst (ns.map V.int))) else if b ∈ cs.map (·.2) then some (.tbl #[]) else none
    have hat : H a = some (.frz { cls := .type "list", data := .seq vs.toArray } (.lst (ns.map V.int))) := if_pos rfl
    have hin : ∀ b, b ∈ cs.map (·.2) → H b = some (.tbl #[]) := fun b h => (if_neg (show ¬ b = a from fun z => aT (by rw [← z]; exact h))).trans (if_pos h)
    have hno : ∀ b, b ≠ a → b ∉ cs.map (·.2) → H b = none := fun b h1 h2 => (if_neg h1).trans (if_neg h2)
    refine core H (fun p hp => hin _ (memT p hp)) (fun b => ?_) (.inl (.inr ⟨_, hat⟩)) (fun b u z => ?_) (fun b z => ?_) fun _ => hk
    · by_cases hb : b = a
      · exact .inr (.inr ⟨_, _, by rw [hb]; exact hat⟩)
      · by_cases hb2 : b ∈ cs.map (·.2)
        · exact .inr (.inl hb2)
        · exact .inl (hno b hb hb2)
    · by_cases hb : b = a
      · subst hb
        rw [hat] at z; cases z
        exact ⟨ha, by rw [List.length_map]; exact hl, vs, _, rv, ha⟩
      · by_cases hb2 : b ∈ cs.map (·.2)
        · rw [hin b hb2] at z; cases z
          exact isT b hb2
        · rw [hno b hb hb2] at z; cases z
    · by_cases hb : b = a
      · exact .inl hb
      · by_cases hb2 : b ∈ cs.map (·.2)
        · exact .inr hb2
        · exact absurd (hno b hb hb2) z
/-- the goal that the head leaves: tn, the names of the defs that hold generator expressions -/
theorem walk_G {l : PySem.W.OpenLaw} {n k : Nat} {q : Program} {loose : List Str} {XP : (Str → Option Value) → Heap → Prop} {YP : World → Heap → Prop} {d : DefRec} {K : Params → PySem.W.Frag} {x : Str} (tn : List Str)
    (hn : l.most = some n) (hn2 : n ≤ sizeLine) (hdf : d.params.defaults = []) (hr : Room k callerA) (hY : ∀ (w : World) (h : Heap), YP w h → (K w.params).In h)
    (htn : ∀ y ∈ tn, ∃ r, (recsOf q).find? (fun e => e.name == y) = some r)
    (F : ∀ (w : World) (mg : Str → Option Value) (fa : Addr) (h : Heap), (K w.params).In h → h.Ns mainGlobals mg → mg d.name = some (.ref fa) →
      ∃ (fd : FuncData) (cs : List (Addr × Addr)) (sp : Sp), (∀ p ∈ cs, ∃ y ∈ tn, PySem.W.tabIn (K w.params) y = some p) ∧ (∀ p ∈ cs, (K w.params).lookup p.2 = none) ∧ (∀ (s : Shared) (u : Value), BindsTo s fd ⟨[u], []⟩ [(x, u)]) ∧
        (∀ (H : Hp) (a : Addr) (ns : List Int), ns.length ≤ n → (∀ z ∈ ns, Builtin.Int.intBits z ≤ 1048576) → (∀ p ∈ cs, H p.2 = some (.tbl #[])) → SqL (K w.params) H a (ns.map V.int) → sp [.ref a] H (fun v _ => v = .bl true) E0) ∧
        ∀ base : Heap, (K w.params).In base → base.Ns mainGlobals mg → (∀ p ∈ cs, GxR.TabB base mg p.1 p.2) → FnG l.prog w (K w.params) mg base k fa fd [x] sp) :
    PySem.W.WalkO q loose XP YP l.row.toRowW d [] (fun f vs => PySem.call f vs) := by
  refine Att.attach_callB hn hdf fun w s₀ s₁ mg mb fa o pm cd doc a vs ns G Y ho hd hcd hmg hobj hints hlen hbits hg => ?_
  have KX := hY w _ Y
  obtain ⟨fd, cs, sp, ht, nT, hb, hsp, hF⟩ := F w mg fa _ KX G.T.g hmg
  have tabs : ∀ p ∈ cs, PySem.W.CodeHd s₁.heap p.1 p.2 ∧ s₁.heap.get? p.2 = some (PySem.W.tabObj #[]) := fun p hp => by
    obtain ⟨y, hy, e⟩ := ht p hp
    obtain ⟨r, hr⟩ := htn y hy
    exact PySem.W.tab_of (c := p.1) (P := p.2) G.T KX hr e
  exact law_callG KX G.T.g G.T.b G.T.builtins G.T.nolimit hg (fun p hp => (tabs p hp).2) nT (fun p hp => (tabs p hp).1) G.T.bmain hobj hints (Nat.le_trans hlen hn2) hr hF hb (fun H hH hS => hsp H a ns hlen hbits hH hS)
end Kz
set_option Elab.async false
set_option linter.all false
set_option maxRecDepth 100000
set_option maxHeartbeats 4000000
/-! Kz: enumerate of a tuple; range(n) as a value -/
namespace Kz
open PySem PySem.Spec PyProof.Rows L2
open AutoSeq1 (wpAny_loadPart')

theorem meets_enum1 {v : Value} {o : Obj} {H : Heap → Prop} (B : Begins v o H) : Meets (Builtin.«enumerate.__new__» ⟨[.type "enumerate", v], []⟩) (fun _ R s => H s.heap ∧
      R (.ok (.ret (.ref (s.heap.push o).objs.size))) { s with heap := (s.heap.push o).push { cls := .type "enumerate", data := .fields #[.none, .bool false, .ref s.heap.objs.size, rawInt 0, .none, .none] } }) :=
  .of_wp fun prog w A R s h => by
    obtain ⟨hp, g, d, tk, os⟩ := s
    obtain ⟨h1, h⟩ := h
    have hsub := sub_enumerate
    have q1 : ∀ {A' : Around} {E : Value → Shared → Prop} {Q : Value → Shared → Prop}, Q (.ref hp.objs.size) ⟨hp.push o, g, d, tk, os⟩ → wpAny (model prog w) A' (pyIter v) Q E ⟨hp, g, d, tk, os⟩ :=
      fun q => B.iter prog w _ _ ⟨hp, g, d, tk, os⟩ _ h1 q
    wp_walk using q1
    refine wpAny_stack_any fun st => wpAny_pure ?_
    split
    · rename_i c _ _ _ _ _
      cases (c == Value.type "enumerate")
      · wp_walk using q1
        exact ⟨_, rfl, h⟩
      · wp_walk using q1
        exact ⟨_, rfl, h⟩
    · wp_walk using q1
      exact ⟨_, rfl, h⟩
section
variable {prog : Program} {w : World} {A : Around} {E : Value → Shared → Prop} {s : Shared}
theorem call_enum1 {v : Value} {o : Obj} {H : Heap → Prop} {Q : Value → Shared → Prop} (B : Begins v o H) (h1 : H s.heap) (h : ∀ h', IsEnum h' (s.heap.objs.size + 1) s.heap.objs.size 0 .none → h'.get? s.heap.objs.size = some o → h'.objs.size = s.heap.objs.size + 2 →
      (∀ b o, s.heap.get? b = some o → h'.get? b = some o) → Q (.ref (s.heap.objs.size + 1)) { s with heap := h' }) : wpAny (model prog w) A (call (.type "enumerate") [v]) Q E s := by
  refine callType_new F.called_enumerate (by decide) (F.typeCall_enumerate_1 _) (F.newCall_enumerate_1 _) (fun obj => F.args_object_init_2 obj _) F.entry_enumerate_new (meets_enum1 B) ⟨h1, ?_⟩
  have hz : (s.heap.push o).objs.size = s.heap.objs.size + 1 := Heap.size_push ..
  show _ ∧ _
  rw [hz]
  have he : IsEnum ((s.heap.push o).push { cls := .type "enumerate", data := .fields #[.none, .bool false, .ref s.heap.objs.size, rawInt 0, .none, .none] }) (s.heap.objs.size + 1) s.heap.objs.size 0 .none := by
    have q := Heap.get?_push_size (s.heap.push o) (o := { cls := .type "enumerate", data := .fields #[.none, .bool false, .ref s.heap.objs.size, rawInt 0, .none, .none] }) rfl
    rw [hz] at q
    exact q
  exact ⟨⟨_, he, rfl⟩, h _ he (Heap.get?_push_of_some _ (Heap.get?_push_size _ B.free)) (by rw [Heap.size_push, hz]) fun b o x => Heap.get?_push_of_some _ (Heap.get?_push_of_some _ x)⟩
end
/-- the tuple at a, each item in a new pair with its place -/
def IteT (K : PySem.W.Frag) (a : Addr) : It :=
  ⟨fun i H => ∃ (xs : List V) (x : V), SqT K H a xs ∧ xs[i]? = some x, fun i H v H' => ∃ T x, v = .ref T ∧ H T = none ∧ H' = upd H T (.tup [.int (i : Nat), x]) ∧ ∀ xs, SqT K H a xs → xs[i]? = some x,
   fun i H => ∃ xs : List V, SqT K H a xs ∧ xs.length ≤ i⟩
theorem turn_enumT {P : Program} {w : World} {K : PySem.W.Frag} {elts : List Expr} {kk : Nat} {tpos : Pos} (a e it : Addr) :
    Turn P w K (.Tuple elts kk tpos) (IteT K a) [e, it] e (fun i h => (∃ old, IsEnum h e it ((i : Nat) : Int) old) ∧ h.IsTupleIter it a i ∧ e ≠ it ∧ a ≠ it ∧ e ≠ a) where
  mem := by simp
  obj := by
    rintro i h ⟨⟨old, he⟩, ⟨o, ho, hc, hd⟩, _⟩ b hb
    have e' : b = e ∨ b = it := by simpa using hb
    rcases e' with z | z
    · rw [z]; exact ⟨_, he, fun v q => nomatch q⟩
    · rw [z]; exact ⟨o, ho, fun v q => by rw [hd] at q; cases q⟩
  keep := fun i h h' st k => let ⟨⟨old, he⟩, hi, hne⟩ := st; ⟨⟨old, k e (by simp) _ he⟩, hi.at fun o q => k it (by simp) o q, hne⟩
  item := by
    intro X hP hw hK hc i pins s σ H E I hf st hg
    subst hP hw hK
    obtain ⟨⟨old, he⟩, hit, hne, hai, hea⟩ := st
    obtain ⟨xs, x, hq, hx⟩ := hg
    obtain ⟨its, rv, p, hz⟩ := I.tuple hq
    obtain ⟨u, hu, ru⟩ := rv.get hx
    have hel : e < s.heap.objs.size := Heap.lt_size he
    have hil : it < s.heap.objs.size := by obtain ⟨_, q, _⟩ := hit; exact Heap.lt_size q
    have hlt : i < its.toArray.size := by
      rw [List.size_toArray]
      exact (List.getElem?_eq_some_iff.mp hu).1
    have D := Draws.tuple (prog := X.prog) (w := X.w) (A := X.A.in1) (I.ok.hd hc) it a hai its.toArray
    refine wpAny_pyNext_enum_itemD D he ⟨hit, p⟩ hlt hne (by simp [hne, hea]) fun u' h' tk hu' ho hst hT hsz hk => ?_
    obtain ⟨hit', _⟩ := hst
    have eu : u' = u := by
      rw [List.getElem?_toArray, hu] at hu'
      exact (Option.some.inj hu').symm
    subst eu
    refine ⟨_, rfl, wpAny_letOwnedTupleGo_enum (s := { s with heap := h', toks := tk + 1 }) ho fun h'' he' sb => ?_⟩
    have hT2 : h''.get? s.heap.objs.size = some { cls := .type "tuple", data := .seq #[.int i tk, u'] } := (sb.2 _ (Nat.ne_of_gt hel)).trans hT
    have new : ObjOk X.prog X.w (upd H s.heap.objs.size (.tup [.int (i : Nat), x])) h'' s.heap.objs.size (.tup [.int (i : Nat), x]) :=
      ⟨by show 2 ≤ sizeLine; decide, [.int i tk, u'], .cons ⟨_, rfl⟩ (.cons ru .nil), ⟨_, hT2, rfl, _, rfl⟩⟩
    have I1 : Inv X pins σ (upd H s.heap.objs.size (.tup [.int (i : Nat), x])) { s with heap := h'', toks := tk + 1 } :=
      I.turnedNew (ch := [e, it]) (fun b ob hb q => (sb.2 b (fun z => hb (by simp [z]))).trans (hk b ob (fun z => hb (by simp [z])) (fun z => hb (by simp [z])) q)) hf (Nat.le_refl _) new
    refine ⟨.ref s.heap.objs.size, _, I1, rfl, ⟨_, x, rfl, I.hok.fresh (Nat.le_refl _), rfl, fun ys hy => by rw [I.tuple_inj hy hq]; exact hx⟩, ⟨⟨u', ?_⟩, hit'.at fun o q => (sb.2 it (Ne.symm hne)).trans q, hne, hai, hea⟩, fun b hb => ?_⟩
    · have e1 : ((i + 1 : Nat) : Int) = (i : Int) + 1 := by omega
      rw [e1]; exact he'
    · have hb' : b < s.heap.objs.size := by
        have e' : b = e ∨ b = it := by simpa using hb
        rcases e' with z | z
        · rw [z]; exact hel
        · rw [z]; exact hil
      rw [upd_ne (Nat.ne_of_lt hb')]
      exact (hf b hb).1
  done := by
    intro X hP hw hK hc i pins s σ H E I hf st hg
    subst hP hw hK
    obtain ⟨⟨old, he⟩, hit, hne, hai, hea⟩ := st
    obtain ⟨xs, hq, hx⟩ := hg
    obtain ⟨its, rv, p, hz⟩ := I.tuple hq
    obtain ⟨f0, f1, f2, f3, f4, f5⟩ := hf it (by simp)
    have hl := rv.length
    by_cases hi : i = its.toArray.size
    · have D := Draws.tuple (prog := X.prog) (w := X.w) (A := X.A.in1) (I.ok.hd hc) it a hai its.toArray
      exact wpAny_pyNext_enum_endD D he ⟨hi ▸ hit, p⟩ fun h' eb => ⟨rfl, I.turned (t' := s.toks) (fun b o hb q => eb b o hb q) f0 f1 f3 f4 f5⟩
    · have nx : its.toArray[i]? = none := by
        rw [List.getElem?_toArray]
        exact List.getElem?_eq_none (by rw [← hl]; exact hx)
      have hTy : s.TypeIs (.ref e) "enumerate" := ⟨_, he, rfl⟩
      unfold pyNext
      refine wpAny_bind (wpAny_attempt (wpAny_callSpecial?_slot (name := Str.ofString "__next__") hTy F.slot_enumerate_next (wpAny_call_entry F.slot_enumerate_next hTy F.entry_enumerate_next ?_ (F.args_enumerate_next_1 _))))
      show wpAny _ _ (field (.ref e) 2 >>= _) _ _ _
      refine wpAny_bind (wpAny_field he rfl (x := .ref it) rfl ?_)
      refine wpAny_bind (wpAny_nextOf_tuple_end (I.ok.hd hc) hit p nx fun h' x he' hx' => ?_)
      obtain ⟨o, ho, hcl⟩ := hx'
      refine wpAny_bind (wpAny_isInstance (T := "StopIteration") (b := true) ⟨o, ho, hcl⟩ isSubtype_stop ?_)
      exact wpAny_pure ⟨rfl, I.turned (t' := s.toks) (fun b o hb q => he' b o hb q) f0 f1 f3 f4 f5⟩
  self := fun A i s Q E st h => let ⟨⟨_, he⟩, _⟩ := st; wpAny_pyIter_enum he h
def iEnumT (K : PySem.W.Frag) (ta : TA) : TI := fun σ H R => ta σ H fun vs H1 => ∃ a xs, vs = [.ref a] ∧ SqT K H1 a xs ∧ R (IteT K a) H1
theorem pi_enumT {X : Cx} {e : Expr} {ta : TA} {p pos tpos : Pos} {elts : List Expr} {kk : Nat} (hg : Gl X "enumerate") (hm : X.mg "enumerate" = none) (ha : PA X [e] ta) (hs : starEach [e] X.env = [(false, eval e X.env)] := by rfl) :
    PI X (.Tuple elts kk tpos) (.Call (.Name "enumerate" p) [e] [] pos) (iEnumT X.K ta) := by
  refine ⟨fun pins s σ H R I h => ?_⟩
  refine Call_ (ld_blt I hg hm boot_enumerate (PyProof.Rows.callWith_type1 (thn (ha.run pos pins s σ H _ I h) fun us s1 ⟨vs, H1, I1, r1, q1⟩ => ?_) hs rfl))
  obtain ⟨a, xs, ex, hq, q⟩ := q1
  subst ex
  cases r1 with
  | cons r rr =>
    cases rr
    cases r
    obtain ⟨its, rv, p', hz⟩ := I1.tuple hq
    have hal : a < s1.heap.objs.size := p'.lt
    refine call_enum1 (begins_tuple a its.toArray) p' fun h' he hit hsz hk => wpAny_pyIter_enum he ?_
    have I2 : Inv X pins σ H1 { s1 with heap := h' } := I1.kept (t' := s1.toks) hk
    refine ⟨s1.heap.objs.size + 1, [s1.heap.objs.size + 1, s1.heap.objs.size], _, _, H1, rfl, I2, turn_enumT a (s1.heap.objs.size + 1) s1.heap.objs.size,
      ⟨⟨.none, he⟩, ⟨_, hit, rfl, rfl⟩, Nat.succ_ne_self _, Nat.ne_of_lt hal, Nat.ne_of_gt (Nat.lt_succ_of_lt hal)⟩, fun b hb => ?_, q⟩
    have e' : b = s1.heap.objs.size + 1 ∨ b = s1.heap.objs.size := by simpa using hb
    have hle : s1.heap.objs.size ≤ b := by
      rcases e' with z | z
      · rw [z]; exact Nat.le_add_right _ _
      · rw [z]; exact Nat.le_refl _
    exact I1.fpOk hle (I1.hok.fresh hle)
/-- places and items -/
def enumD (ds : List PyData) : List PyData := ds.zipIdx.map fun q => .tuple [.int q.2, q.1]
section
variable {p : Pm} {ρ : Rho} {ta : TE}
theorem enumD_len (ds : List PyData) : (enumD ds).length = ds.length := by unfold enumD; rw [List.length_map, List.length_zipIdx]
theorem enumD_get {ds : List PyData} {i : Nat} {d : PyData} (h : (enumD ds)[i]? = some d) : ∃ x, ds[i]? = some x ∧ d = .tuple [.int i, x] := by
  unfold enumD at h
  rw [List.getElem?_map, List.getElem?_zipIdx] at h
  cases e : ds[i]? with
  | none => rw [e] at h; cases h
  | some x => rw [e] at h; cases h; exact ⟨x, rfl, by simp⟩
theorem ii_enumT {K : PySem.W.Frag} {ds : List PyData} (h : Ed p ta ρ (.tuple ds)) : Ii p (iEnumT K (tCons ta tNil)) ρ (· = enumD ds) := fun H0 O σ H e R q => by
  refine h H0 O σ H e _ fun v H2 d k2 o2 hd pd => ?_
  subst pd
  cases hd with
  | @tup a xs _ n ea r =>
    refine ⟨a, xs, rfl, .inl (.inl ea), q _ H2 _ k2 o2 rfl ⟨fun O' H' i l hi => ?_, fun O' H' l => ?_, fun O' H' i x H'' d l hd y => ?_⟩⟩
    · rw [enumD_len] at hi
      have hi' : i < xs.length := by rw [r.length]; exact hi
      exact ⟨xs, xs[i], .inl (.inl (tup_stays l n ea)), List.getElem?_eq_getElem hi'⟩
    · exact ⟨xs, .inl (.inl (tup_stays l n ea)), by rw [enumD_len, r.length]; exact Nat.le_refl _⟩
    · obtain ⟨T, x1, e1, hT, e2, hx⟩ := y
      subst e1 e2
      obtain ⟨x2, g1, rfl⟩ := enumD_get hd
      obtain ⟨d', q1, hv⟩ := r.get (hx xs (.inl (.inl (tup_stays l n ea))))
      rw [g1] at q1; cases q1
      exact pair_dv l hT (.int _) (l.dv hv)
end
theorem cr_range1 {X : Cx} : CallR X (.type "range") (fun vs H Q => ∃ i, vs = [V.int i] ∧ ∀ p, H p = none → Q (.ref p) (upd H p (.rng 0 i))) := by
  intro pins s σ H vs us Q I r h
  obtain ⟨i, rfl, q⟩ := h
  obtain ⟨u1, rfl, ri⟩ : ∃ u, us = [u] ∧ RelV (.int i) u := by
    cases r with
    | cons a b => cases b; exact ⟨_, rfl, a⟩
  obtain ⟨t, rfl⟩ := ri
  refine call_range_1 ⟨.ref s.heap.objs.size, upd H s.heap.objs.size (.rng 0 i), I.laid (t' := s.toks + 1 + 1) (fun b o e => Heap.get?_push_of_some _ e) (Nat.le_refl _) ?_, rfl, q _ (I.hok.fresh (Nat.le_refl _))⟩
  exact ⟨s.toks, t, _, Heap.get?_push_size _ rfl⟩
theorem rng1_sp {i : Int} : rngSp (fun vs H Q => ∃ i, vs = [V.int i] ∧ ∀ p, H p = none → Q (.ref p) (upd H p (.rng 0 i))) [.int i] 0 i := fun S H vs hv Q q => by
  obtain ⟨v, rfl, hw⟩ := hv.one_inv
  cases hw
  exact ⟨i, rfl, q⟩
end Kz
set_option Elab.async false
set_option linter.all false
set_option maxRecDepth 100000
set_option maxHeartbeats 4000000
/-! Kz: short words for the constructs of a text -/
namespace Kz
open PySem PySem.Spec PyProof.Rows L2
/-- the built-ins' names, not stored by the module -/
structure Bn (mg : Str → Option Value) : Prop where
  len : mg "len" = none
  all : mg "all" = none
  isinstance : mg "isinstance" = none
  int : mg "int" = none
  bool : mg "bool" = none
  tuple : mg "tuple" = none
  str : mg "str" = none
  range : mg "range" = none
  enumerate : mg "enumerate" = none
  zip : mg "zip" = none
  sum : mg "sum" = none
  max : mg "max" = none
  min : mg "min" = none
  abs : mg "abs" = none
  list : mg "list" = none
  repr : mg "repr" = none
/-- a def that may be called by its name -/
structure Cl (P : Program) (w : World) (K : PySem.W.Frag) (mg : Str → Option Value) (base : Heap) (x : Str) (ps : List Str) (k : Nat) (sp : Sp) where
  f : Addr
  fd : FuncData
  G : FnOk P w K mg base CX0 k f fd ps sp
  g : mg x = some (.ref f)
  kp : PySem.W.keepIn K (.ref f) = true
  b : Binds K fd ps []
/-- what stands of a def before its body is walked -/
structure Df (K : PySem.W.Frag) (mg : Str → Option Value) (x : Str) (ps : List Str) (st : Stmt) where
  f : Addr
  fd : FuncData
  F : Fun K x x st f fd
  g : mg x = some (.ref f)
  b : Binds K fd ps []
section
variable {P : Program} {w : World} {K : PySem.W.Frag} {mg : Str → Option Value} {base : Heap} {x : Str} {ps : List Str} {k : Nat} {sp : Sp} {st : Stmt}
def Df.cl (D : Df K mg x ps st) (G : FnOk P w K mg base CX0 k D.f D.fd ps sp) : Cl P w K mg base x ps k sp := ⟨D.f, D.fd, G, D.g, D.F.kp, D.b⟩
end
section
variable {X : Cx} {e a b : Expr} {es : List Expr} {te ta tb : TE} {t : TA} {p pos apos : Pos}
abbrev rLn (K : PySem.W.Frag) : List V → Hp → VK → Prop := fun xs H Q => ∃ p ys, xs = [.ref p] ∧ (SqL K H p ys ∨ SqT K H p ys) ∧ Q (.int ys.length) H
abbrev rTp (K : PySem.W.Frag) : List V → Hp → VK → Prop := fun xs H Q => ∃ p ys, xs = [.ref p] ∧ ((SqL K H p ys ∧ ∀ l, H l = none → Q (.ref l) (upd H l (.tup ys))) ∨ (SqT K H p ys ∧ Q (.ref p) H))
abbrev rLs (K : PySem.W.Frag) : List V → Hp → VK → Prop := fun xs H Q => ∃ p ys, xs = [.ref p] ∧ (SqL K H p ys ∨ SqT K H p ys) ∧ ∀ l, H l = none → Q (.ref l) (upd H l (.lst ys))
abbrev rIt : List V → Hp → VK → Prop := fun xs H Q => (∃ i, xs = [.int i] ∧ Q (.int i) H) ∨ ∃ k, xs = [.bl k] ∧ Q (.int (if k then 1 else 0)) H
abbrev rAb : List V → Hp → VK → Prop := fun xs H Q => ∃ i, xs = [.int i] ∧ Q (.int (if i < 0 then -i else i)) H
abbrev rMx2 : List V → Hp → VK → Prop := fun xs H Q => ∃ i j, xs = [.int i, .int j] ∧ Q (.int (if j > i then j else i)) H
theorem pLen (B : Bn X.mg) (h : PE X e te) (hg : Gl X "len" := by rfl) (he : starEach [e] X.env = (false, eval e X.env) :: starEach [] X.env := by rfl) : PE X (.Call (.Name "len" p) [e] [] pos) (tCB (rLn X.K) (tCons te tNil)) :=
  pe_callB call_len_seq hg B.len PySem.boot_len (pa_cons h pa_nil he) (by decide) (by decide) he
theorem pTuple (B : Bn X.mg) (h : PE X e te) (hg : Gl X "tuple" := by rfl) (he : starEach [e] X.env = (false, eval e X.env) :: starEach [] X.env := by rfl) : PE X (.Call (.Name "tuple" p) [e] [] pos) (tCB (rTp X.K) (tCons te tNil)) :=
  pe_callTy call_tuple_of hg B.tuple (by decide +kernel) (pa_cons h pa_nil he) (by decide) (by decide) he
theorem pList (B : Bn X.mg) (h : PE X e te) (hg : Gl X "list" := by rfl) (he : starEach [e] X.env = (false, eval e X.env) :: starEach [] X.env := by rfl) : PE X (.Call (.Name "list" p) [e] [] pos) (tCB (rLs X.K) (tCons te tNil)) :=
  pe_callTy call_list_of hg B.list (by decide +kernel) (pa_cons h pa_nil he) (by decide) (by decide) he
theorem pInt (B : Bn X.mg) (h : PE X e te) (hg : Gl X "int" := by rfl) (he : starEach [e] X.env = (false, eval e X.env) :: starEach [] X.env := by rfl) : PE X (.Call (.Name "int" p) [e] [] pos) (tCB rIt (tCons te tNil)) :=
  pe_callTy call_int1 hg B.int (by decide +kernel) (pa_cons h pa_nil he) (by decide) (by decide) he
theorem pSum (B : Bn X.mg) (hc : X.calm = true) (h : PE X e te) (hg : Gl X "sum" := by rfl) (he : starEach [e] X.env = (false, eval e X.env) :: starEach [] X.env := by rfl) : PE X (.Call (.Name "sum" p) [e] [] pos) (tCB (rSum X.K) (tCons te tNil)) :=
  pe_callB (cr_sum hc) hg B.sum (by decide +kernel) (pa_cons h pa_nil he) (by decide) (by decide) he
theorem pMax (B : Bn X.mg) (hc : X.calm = true) (h : PE X e te) (hg : Gl X "max" := by rfl) (he : starEach [e] X.env = (false, eval e X.env) :: starEach [] X.env := by rfl) : PE X (.Call (.Name "max" p) [e] [] pos) (tCB (rMax X.K) (tCons te tNil)) :=
  pe_callB (cr_max hc) hg B.max (by decide +kernel) (pa_cons h pa_nil he) (by decide) (by decide) he
theorem pAllL (B : Bn X.mg) (hc : X.calm = true) (h : PE X e te) (hg : Gl X "all" := by rfl) (he : starEach [e] X.env = (false, eval e X.env) :: starEach [] X.env := by rfl) : PE X (.Call (.Name "all" p) [e] [] pos) (tCB (rAll X.K) (tCons te tNil)) :=
  pe_callB (cr_all hc) hg B.all (by decide +kernel) (pa_cons h pa_nil he) (by decide) (by decide) he
theorem pAbs (B : Bn X.mg) (h : PE X e te) (hg : Gl X "abs" := by rfl) (he : starEach [e] X.env = (false, eval e X.env) :: starEach [] X.env := by rfl) : PE X (.Call (.Name "abs" p) [e] [] pos) (tCB rAb (tCons te tNil)) :=
  pe_callB call_abs hg B.abs (by decide +kernel) (pa_cons h pa_nil he) (by decide) (by decide) he
theorem pIsi (B : Bn X.mg) (h : PE X a ta) (k : PE X b tb) (hg : Gl X "isinstance" := by rfl) (he : starEach [a, b] X.env = (false, eval a X.env) :: starEach [b] X.env := by rfl) (he2 : starEach [b] X.env = (false, eval b X.env) :: starEach [] X.env := by rfl)
    (hpl : (backTo pos (starEach [b] X.env)).any (·.1) = false := by rfl) : PE X (.Call (.Name "isinstance" p) [a, b] [] pos) (tCB (rIsi X.K) (tCons ta (tCons tb tNil))) :=
  pe_callB call_isi hg B.isinstance (by decide +kernel) (pa_cons h (pa_cons k pa_nil he2) he) (by decide) (by decide) he hpl
theorem pMax2 (B : Bn X.mg) (hc : X.calm = true) (h : PE X a ta) (k : PE X b tb) (hg : Gl X "max" := by rfl) (he : starEach [a, b] X.env = (false, eval a X.env) :: starEach [b] X.env := by rfl) (he2 : starEach [b] X.env = (false, eval b X.env) :: starEach [] X.env := by rfl)
    (hpl : (backTo pos (starEach [b] X.env)).any (·.1) = false := by rfl) : PE X (.Call (.Name "max" p) [a, b] [] pos) (tCB rMx2 (tCons ta (tCons tb tNil))) :=
  pe_callB (call_max2 hc) hg B.max (by decide +kernel) (pa_cons h (pa_cons k pa_nil he2) he) (by decide) (by decide) he hpl
theorem nInt (B : Bn X.mg) (hg : Gl X "int" := by rfl) : PE X (.Name "int" pos) (tC (.ty "int")) := pe_bltn hg B.int (by decide +kernel) rfl
theorem nBool (B : Bn X.mg) (hg : Gl X "bool" := by rfl) : PE X (.Name "bool" pos) (tC (.ty "bool")) := pe_bltn hg B.bool (by decide +kernel) rfl
theorem nTuple (B : Bn X.mg) (hg : Gl X "tuple" := by rfl) : PE X (.Name "tuple" pos) (tC (.ty "tuple")) := pe_bltn hg B.tuple (by decide +kernel) rfl
theorem nStr (B : Bn X.mg) (hg : Gl X "str" := by rfl) : PE X (.Name "str" pos) (tC (.ty "str")) := pe_bltn hg B.str (by decide +kernel) rfl
/-- a call of a def by its place -/
theorem pCall {x : Str} {ps : List Str} {k j : Nat} {sp : Sp} (C : Cl X.prog X.w X.K X.mg X.base x ps k sp) (hr : Room j X.A) (hk : k ≤ j) (ha : PA X (e :: es) t) (hg : Gl X x := by rfl) (hdb : (x == ("__debug__" : Str)) = false := by decide)
    (he : starEach (e :: es) X.env = (false, eval e X.env) :: starEach es X.env := by rfl) (hpl : (backTo pos (starEach es X.env)).any (·.1) = false := by rfl) : PE X (.Call (.Name x p) (e :: es) [] pos) (tCall sp [] E0 t) :=
  pe_call C.G (hr.mono hk) hg C.g C.kp C.b .nil pass0 ha hdb he hpl
end
section
variable {p : Pm} {ρ : Rho} {te : TE} {tz : TS} {w : Po}
theorem rn_ret_ {d : PyData} (h : Ed p te ρ d) (k : w.R d) : Rn p (tSeq (tRet te) tz) ρ w := rn_seq (Nm := fun _ => False) (rn_ret h k) fun _ z => z.elim
theorem rn_ret_X {P : PyData → Prop} (h : Ex p te ρ P) (k : ∀ d, P d → w.R d) : Rn p (tSeq (tRet te) tz) ρ w := rn_seq (Nm := fun _ => False) (rn_retX h k) fun _ z => z.elim
end
end Kz
set_option Elab.async false
set_option linter.all false
set_option maxRecDepth 100000
set_option maxHeartbeats 4000000
namespace Kz
open PySem PySem.Spec PyProof.Rows L2
def topS (i : Nat) : Stmt := PySem.Challenge.pw_nearsteps_k03_whole_changes_led_steps_an.main.body.getD i (.Pass ⟨0, 0, 0, 0⟩)

/-! ### kinds -/
def isWhole : PyData → Bool
  | .int _ => true
  | _ => false
def isStep (n : Int) : PyData → Bool
  | .tuple ds => decide ((ds.length : Int) = n) && ds.all isWhole
  | _ => false
def isSquare (n : Int) : PyData → Bool
  | .tuple ds => decide ((ds.length : Int) = n) && ds.all (isStep n)
  | _ => false
def isIntB : PyData → Bool
  | .int _ => true
  | .bool _ => true
  | _ => false
def isBoolB : PyData → Bool
  | .bool _ => true
  | _ => false
def isTupB : PyData → Bool
  | .tuple _ => true
  | _ => false
section
variable {p : Pm} {ρ : Rho}
theorem args1 {ds : List PyData} (h : ds.length = 1) : ∃ a, ds = [a] := by
  match ds, h with
  | [a], _ => exact ⟨a, rfl⟩
theorem args2 {ds : List PyData} (h : ds.length = 2) : ∃ a b, ds = [a, b] := by
  match ds, h with
  | [a, b], _ => exact ⟨a, b, rfl⟩
theorem args3 {ds : List PyData} (h : ds.length = 3) : ∃ a b c, ds = [a, b, c] := by
  match ds, h with
  | [a, b, c], _ => exact ⟨a, b, c, rfl⟩
end
abbrev spWhole : Sp := pureSp [] 1 (fun _ => True) (fun ds d => ∀ a, ds = [a] → d = .bool (isWhole a))
abbrev spStep (Ts : List Addr) : Sp := pureSp Ts 2 (fun ds => ∃ n a, ds = [.int n, a]) (fun ds d => ∀ n a, ds = [.int n, a] → d = .bool (isStep n a))
abbrev spSquare (Ts : List Addr) : Sp := pureSp Ts 2 (fun ds => ∃ n a, ds = [.int n, a]) (fun ds d => ∀ n a, ds = [.int n, a] → d = .bool (isSquare n a))
abbrev sWhole : Stmt := topS 6
abbrev sStep : Stmt := topS 7
abbrev sSquare : Stmt := topS 8
theorem scWhole : FnScope ["thing"] ["thing"] (defScope sWhole) := ⟨rfl, rfl, rfl, by decide +kernel, rfl, by decide +kernel, by decide +kernel⟩
theorem scStep : FnScope ["n", "thing", "part"] ["n", "thing"] (defScope sStep) := ⟨rfl, rfl, rfl, by decide +kernel, rfl, by decide +kernel, by decide +kernel⟩
theorem scSquare : FnScope ["n", "thing", "row"] ["n", "thing"] (defScope sSquare) := ⟨rfl, rfl, rfl, by decide +kernel, rfl, by decide +kernel, by decide +kernel⟩
section
variable {P : Program} {w : World} {K : PySem.W.Frag} {mg : Str → Option Value} {base : Heap}
theorem ok_whole (B : Bn mg) {f : Addr} {fd : FuncData} (F : Fun K "is_whole" "is_whole" sWhole f fd) : FnOk P w K mg base CX0 1 f fd ["thing"] spWhole := by
  refine ok_pure F scWhole rfl (by decide) fun cdv A outer s H E hr => ⟨_, pss_one (ps_ret (pe_and (pIsi B (pv 0) (nInt B)) (pe_one (pe_not (pIsi B (pv 0) (nBool B)))))), fun p ds hT hl hp => ?_⟩
  obtain ⟨a, rfl⟩ := args1 hl
  have va : Ed p (tVar 0) (startR ["thing"] [a]) a := ex_var rfl
  refine rn_ret (d := .bool (isWhole a)) ?_ (fun a' e => by cases e; rfl)
  refine ed_andV (a := isIntB a) (ed_isi va er_c (by cases a <;> rfl)) (fun e => (ed_notV (ed_isi (b := isBoolB a) va er_c (by cases a <;> rfl))).cast (by cases a <;> simp_all [isIntB, isBoolB, isWhole])) fun e => by cases a <;> simp_all [isIntB, isWhole]
/-- a tuple, and how long -/
theorem et_notTup {p : Pm} {ρ : Rho} {ta tb : TE} {K : PySem.W.Frag} {d : PyData} (h : Ed p ta ρ d) (k : Er p tb ρ (.ty "tuple")) : Et p (tNot (tTest (tCB (rIsi K) (tCons ta (tCons tb tNil))))) ρ (· = !isTupB d) := et_notD (et_test (ed_isi h k (by cases d <;> rfl)))
theorem ok_step (B : Bn mg) {f c P1 : Addr} {fd : FuncData} (F : FunC K "is_step" "is_step" sStep f fd c) (TB : GxR.TabB base mg c P1) (C : Cl P w K mg base "is_whole" ["thing"] 1 spWhole) : FnOk P w K mg base CX0 4 f fd ["n", "thing"] (spStep [P1]) := by
  refine ok_pureC F scStep rfl (by decide) fun A outer s H E hr => ⟨_, pss_cons (ps_if (PW.pt (pw_or (pt_not (pt_val (pIsi B (pv 1) (nTuple B)))) (pw_or1 (pt_cmpR op_ne (pLen B (pv 1)) (pv 0) (nomark _))))) (pss_one (ps_ret pe_bl)) pss_nil)
    (pss_one (ps_ret (Gz.pe_allG (own := [("part", 2)]) (k := 2) hr (by rfl) B.all TB rfl ⟨blkOk_by (own := [("part", 2)]) (N := ["n", "thing", "part"]) (sc := defScope sStep) (by decide +kernel), rfl, by decide +kernel, by decide +kernel⟩ scStep.nd rfl (pi_tup (pv 1))
      (fun _ _ _ _ _ _ _ => pg_name (i := 2) scStep.nd rfl (.inl rfl)) (fun _ _ _ _ _ _ _ _ => pts_nil) (fun _ _ _ _ _ _ _ hA => pCall C hA (by decide) (pa_cons (pv 2) pa_nil))))), fun p ds hT hl hp => ?_⟩
  obtain ⟨n, a, rfl⟩ := hp
  have v0 : Ed p (tVar 0) (startR ["n", "thing", "part"] [.int n, a]) (.int n) := ex_var rfl
  have v1 : Ed p (tVar 1) (startR ["n", "thing", "part"] [.int n, a]) a := ex_var rfl
  by_cases ht : isTupB a = true
  · obtain ⟨es, rfl⟩ : ∃ es, a = .tuple es := by
      cases a <;> first | exact ⟨_, rfl⟩ | cases ht
    refine rn_when_ (et_or (a := false) (et_notTup v1 er_c) fun _ => et_test (ed_neI (ed_cb (ea_one v1) (bc_len (.t es))) v0)) (fun e => rn_ret_ ex_bool fun n' a' e' => ?_) fun e => ?_
    · cases e'
      have hn : ¬ (es.length : Int) = n := by simpa using e
      simp [isStep, hn]
    · have hn : (es.length : Int) = n := by simpa using e
      refine rn_retX (ex_all isWhole (ii_tup v1) (hT P1 (by simp)) fun ds i d hd hi => ⟨[2], _, fun j hj => hj, tg_name, ?_⟩) ?_
      · exact (ex_call (ea_one (ex_var rfl)) (fun l e => by rw [e]; exact ⟨rfl, trivial⟩) (by simp)).imp fun r ⟨l, e, h⟩ => h d e
      · rintro d ⟨ds, rfl, rfl⟩ n' a' e'
        cases e'
        simp [isStep, hn]
  · have hf : isTupB a = false := by simpa using ht
    refine rn_when_ (t := true) (et_or (a := true) (b := true) ((et_notTup v1 er_c).imp fun b e => by rw [e, hf]; rfl) fun e => by cases e) (fun _ => rn_ret_ ex_bool fun n' a' e' => ?_) fun e => by cases e
    cases e'
    cases a <;> first | rfl | cases hf
theorem ok_square (B : Bn mg) {f c P1 P2 : Addr} {fd : FuncData} (F : FunC K "is_square" "is_square" sSquare f fd c) (TB : GxR.TabB base mg c P2) (C : Cl P w K mg base "is_step" ["n", "thing"] 4 (spStep [P1])) : FnOk P w K mg base CX0 7 f fd ["n", "thing"] (spSquare [P1, P2]) := by
  refine ok_pureC F scSquare rfl (by decide) fun A outer s H E hr => ⟨_, pss_cons (ps_if (PW.pt (pw_or (pt_not (pt_val (pIsi B (pv 1) (nTuple B)))) (pw_or1 (pt_cmpR op_ne (pLen B (pv 1)) (pv 0) (nomark _))))) (pss_one (ps_ret pe_bl)) pss_nil)
    (pss_one (ps_ret (Gz.pe_allG (own := [("row", 2)]) (k := 5) hr (by rfl) B.all TB rfl ⟨blkOk_by (own := [("row", 2)]) (N := ["n", "thing", "row"]) (sc := defScope sSquare) (by decide +kernel), rfl, by decide +kernel, by decide +kernel⟩ scSquare.nd rfl (pi_tup (pv 1))
      (fun _ _ _ _ _ _ _ => pg_name (i := 2) scSquare.nd rfl (.inl rfl)) (fun _ _ _ _ _ _ _ _ => pts_nil) (fun _ _ _ _ _ _ _ hA => pCall C hA (by decide) (pa_cons (pv 0) (pa_cons (pv 2) pa_nil)))))), fun p ds hT hl hp => ?_⟩
  obtain ⟨n, a, rfl⟩ := hp
  have v0 : Ed p (tVar 0) (startR ["n", "thing", "row"] [.int n, a]) (.int n) := ex_var rfl
  have v1 : Ed p (tVar 1) (startR ["n", "thing", "row"] [.int n, a]) a := ex_var rfl
  by_cases ht : isTupB a = true
  · obtain ⟨es, rfl⟩ : ∃ es, a = .tuple es := by
      cases a <;> first | exact ⟨_, rfl⟩ | cases ht
    refine rn_when_ (et_or (a := false) (et_notTup v1 er_c) fun _ => et_test (ed_neI (ed_cb (ea_one v1) (bc_len (.t es))) v0)) (fun e => rn_ret_ ex_bool fun n' a' e' => ?_) fun e => ?_
    · cases e'
      have hn : ¬ (es.length : Int) = n := by simpa using e
      simp [isSquare, hn]
    · have hn : (es.length : Int) = n := by simpa using e
      refine rn_retX (ex_all (isStep n) (ii_tup v1) (hT P2 (by simp)) fun ds i d hd hi => ⟨[2], _, fun j hj => hj, tg_name, ?_⟩) ?_
      · exact (ex_call (ea_consD (ex_var rfl) (ea_one (ex_var rfl))) (fun l e => by rw [e]; exact ⟨rfl, n, d, rfl⟩) (fun Q hQ => hT Q (by simp at hQ; simp [hQ]))).imp fun r ⟨l, e, h⟩ => h n d e
      · rintro d ⟨ds, rfl, rfl⟩ n' a' e'
        cases e'
        simp [isSquare, hn]
  · have hf : isTupB a = false := by simpa using ht
    refine rn_when_ (t := true) (et_or (a := true) (b := true) ((et_notTup v1 er_c).imp fun b e => by rw [e, hf]; rfl) fun e => by cases e) (fun _ => rn_ret_ ex_bool fun n' a' e' => ?_) fun e => by cases e
    cases e'
    cases a <;> first | rfl | cases hf
end
end Kz
set_option Elab.async false
set_option linter.all false
set_option maxRecDepth 100000
set_option maxHeartbeats 4000000
/-! Kz: rows of ints, determinants: the mathematics -/
namespace Kz
open PySem PySem.Spec PyProof.Rows L2
abbrev Mat := List (List Int)
def rowD (l : List Int) : PyData := .tuple (l.map .int)
def matD (r : Mat) : PyData := .tuple (r.map rowD)
def withoutM (r : Mat) (i j : Nat) : Mat := (r.take i ++ r.drop (i + 1)).map fun l => l.take j ++ l.drop (j + 1)
def detE : Mat → Int
  | [] => 1
  | [[a]] => a
  | [[a, b], [c, d]] => a * d - b * c
  | [[a, b, c], [d, e, f], [g, h, i]] => a * (e * i - f * h) - b * (d * i - f * g) + c * (d * h - e * g)
  | _ => 0
structure Sq (m : Nat) (r : Mat) : Prop where
  h : r.length = m
  w : ∀ l ∈ r, l.length = m
theorem sq0 {r : Mat} (s : Sq 0 r) : r = [] := List.length_eq_zero_iff.mp s.h
theorem sq1 {r : Mat} (s : Sq 1 r) : ∃ a, r = [[a]] := by
  obtain ⟨h, w⟩ := s
  match r, h with
  | [l], _ =>
    have := w l (by simp)
    match l, this with
    | [a], _ => exact ⟨a, rfl⟩
theorem sq2 {r : Mat} (s : Sq 2 r) : ∃ a b c d, r = [[a, b], [c, d]] := by
  obtain ⟨h, w⟩ := s
  match r, h with
  | [l, m], _ =>
    have h1 := w l (by simp)
    have h2 := w m (by simp)
    match l, m, h1, h2 with
    | [a, b], [c, d], _, _ => exact ⟨a, b, c, d, rfl⟩
theorem sq3 {r : Mat} (s : Sq 3 r) : ∃ a b c d e f g h i, r = [[a, b, c], [d, e, f], [g, h, i]] := by
  obtain ⟨h, w⟩ := s
  match r, h with
  | [l, m, n], _ =>
    have h1 := w l (by simp)
    have h2 := w m (by simp)
    have h3 := w n (by simp)
    match l, m, n, h1, h2, h3 with
    | [a, b, c], [d, e, f], [g, h, i], _, _, _ => exact ⟨a, b, c, d, e, f, g, h, i, rfl⟩
def sgn (j : Nat) (x : Int) : Int := if j % 2 = 1 then -x else x
/-- the first i items of the first row's expansion -/
def detP (r : Mat) (i : Nat) : Int := ((List.range i).map fun j => sgn j ((r.headD []).getD j 0 * detE (withoutM r 0 j))).sum
theorem detP_succ (r : Mat) (i : Nat) : detP r (i + 1) = detP r i + sgn i ((r.headD []).getD i 0 * detE (withoutM r 0 i)) := by
  unfold detP
  rw [List.range_succ, List.map_append, List.sum_append]
  simp
theorem detP_all {m : Nat} {r : Mat} (s : Sq (m + 1) r) (hm : m + 1 ≤ 3) : detP r (m + 1) = detE r := by
  have h : m = 0 ∨ m = 1 ∨ m = 2 := by omega
  rcases h with rfl | rfl | rfl
  · obtain ⟨a, rfl⟩ := sq1 s
    simp [detP, detE, withoutM, sgn, List.range_succ]
  · obtain ⟨a, b, c, d, rfl⟩ := sq2 s
    simp [detP, detE, withoutM, sgn, List.range_succ]
    grind
  · obtain ⟨a, b, c, d, e, f, g, h, i, rfl⟩ := sq3 s
    simp [detP, detE, withoutM, sgn, List.range_succ]
    grind
theorem sq_minor {m : Nat} {r : Mat} (s : Sq (m + 1) r) {i j : Nat} (hi : i ≤ m) (hj : j ≤ m) : Sq m (withoutM r i j) := by
  have hh := s.h
  refine ⟨?_, fun l hl => ?_⟩
  · unfold withoutM
    rw [List.length_map, List.length_append, List.length_take, List.length_drop]
    omega
  · unfold withoutM at hl
    obtain ⟨l', hl', rfl⟩ := List.mem_map.mp hl
    have hm : l' ∈ r := by
      rcases List.mem_append.mp hl' with q | q
      · exact List.mem_of_mem_take q
      · exact List.mem_of_mem_drop q
    have hw := s.w l' hm
    rw [List.length_append, List.length_take, List.length_drop]
    omega
/-- entries below 2 ^ b -/
def Bd (b : Nat) (r : Mat) : Prop := ∀ l ∈ r, ∀ x ∈ l, x.natAbs < 2 ^ b
theorem bd_minor {b : Nat} {r : Mat} (h : Bd b r) (i j : Nat) : Bd b (withoutM r i j) := by
  intro l hl x hx
  unfold withoutM at hl
  obtain ⟨l', hl', rfl⟩ := List.mem_map.mp hl
  have hm : l' ∈ r := by
    rcases List.mem_append.mp hl' with q | q
    · exact List.mem_of_mem_take q
    · exact List.mem_of_mem_drop q
  have hx' : x ∈ l' := by
    rcases List.mem_append.mp hx with q | q
    · exact List.mem_of_mem_take q
    · exact List.mem_of_mem_drop q
  exact h l' hm x hx'
theorem nat_sub_lt {x y : Int} {a : Nat} (hx : x.natAbs < 2 ^ a) (hy : y.natAbs < 2 ^ a) : (x - y).natAbs < 2 ^ (a + 1) := by
  rw [Nat.pow_succ]
  omega
theorem det_bd {m b : Nat} {r : Mat} (s : Sq m r) (hm : m ≤ 2) (h : Bd b r) (hb : 1 ≤ b) : (detE r).natAbs < 2 ^ (b + b + 1) := by
  have h' : m = 0 ∨ m = 1 ∨ m = 2 := by omega
  rcases h' with rfl | rfl | rfl
  · rw [sq0 s]
    show 1 < 2 ^ (b + b + 1)
    exact Nat.one_lt_two_pow (by omega)
  · obtain ⟨a, rfl⟩ := sq1 s
    have := h [a] (by simp) a (by simp)
    exact Nat.lt_of_lt_of_le this (Nat.pow_le_pow_right (by decide) (by omega))
  · obtain ⟨a, b', c, d, rfl⟩ := sq2 s
    have h1 := h [a, b'] (by simp) a (by simp)
    have h2 := h [a, b'] (by simp) b' (by simp)
    have h3 := h [c, d] (by simp) c (by simp)
    have h4 := h [c, d] (by simp) d (by simp)
    exact nat_sub_lt (wide_lt h1 h4) (wide_lt h2 h3)
/-! slices by places -/
theorem cutD_to (ds : List PyData) (i : Nat) : cutD ds none (some (i : Int)) = ds.take i := by
  unfold cutD
  rw [HT.sIx_none, HT.sIx_nat]
  simp
theorem cutD_from (ds : List PyData) (i : Nat) : cutD ds (some (i : Int)) none = ds.drop i := by
  unfold cutD
  rw [HT.sIx_none, HT.sIx_nat]
  rcases Nat.le_total i ds.length with h | h
  · rw [Nat.min_eq_left h]
    exact List.take_of_length_le (by simp)
  · rw [Nat.min_eq_right h]
    simp [List.drop_of_length_le h]
theorem rowD_at {l : List Int} {j : Nat} {x : Int} (h : l[j]? = some x) : atI (l.map PyData.int) (j : Int) = some (.int x) := atI_nat (by rw [List.getElem?_map, h]; rfl)
theorem matD_at {r : Mat} {j : Nat} {l : List Int} (h : r[j]? = some l) : atI (r.map rowD) (j : Int) = some (rowD l) := atI_nat (by rw [List.getElem?_map, h]; rfl)
theorem without_data (r : Mat) (i j : Nat) : ((r.map rowD).take i ++ (r.map rowD).drop (i + 1)) = (r.take i ++ r.drop (i + 1)).map rowD := by
  rw [List.map_append, List.map_take, List.map_drop]
/-- the lean by a table -/
def dot (a b : List Int) : Int := (List.zipWith (· * ·) a b).sum
def leanM (t : Mat) (x y : List Int) : Int := (List.zipWith (fun row a => a * dot row y) t x).sum
theorem tr_odd {i : Nat} : Builtin.bitAnd (i : Int) 1 = ((i % 2 : Nat) : Int) := by
  rw [PyProof.Rows.bitAnd_m1]
  omega
end Kz
set_option Elab.async false
set_option linter.all false
set_option maxRecDepth 100000
set_option maxHeartbeats 4000000
/-! Kz: contracts with a ghost, comprehensions item by item -/
namespace Kz
open PySem PySem.Spec PyProof.Rows L2
/-- from the data that g stands for to a datum of which R g holds -/
def pureG (Ts : List Addr) (n : Nat) {G : Type} (enc : G → List PyData) (ok : G → Prop) (R : G → PyData → Prop) : Sp := fun vs H Q E => ∃ g, ok g ∧ pureSp Ts n (· = enc g) (fun _ d => R g d) vs H Q E
section
variable {p : Pm} {ρ : Rho} {ta tb te : TE} {tt : TT} {G : Type} {enc : G → List PyData} {ok : G → Prop} {R : G → PyData → Prop}
theorem ex_callG {Ts : List Addr} {n : Nat} {E : XK} {t : TA} (g : G) (h : Ea p t ρ (· = enc g)) (hl : (enc g).length = n) (hg : ok g) (hT : ∀ P ∈ Ts, P ∈ p.Ts) : Ex p (tCall (pureG Ts n enc ok R) [] E t) ρ (R g) := fun H0 O σ H e Q q => by
  refine h H0 O σ H e _ fun vs H2 ds k2 o2 hd pd => ?_
  subst pd
  have e2 := e.kq k2 o2
  exact ⟨g, hg, by rw [List.append_nil, hd.length]; exact hl, SO p O, _, so_trk e2, fun P hP => o2.tb P (hT P hP), by rw [List.append_nil]; exact hd, rfl, fun v H3 d k3 hv hp => q v H3 d (k2.trans k3.up) (o2.kp k3) hv hp⟩
theorem ed_callG {Ts : List Addr} {n : Nat} {E : XK} {t : TA} {v : PyData} (g : G) (h : Ea p t ρ (· = enc g)) (hl : (enc g).length = n) (hg : ok g) (hT : ∀ P ∈ Ts, P ∈ p.Ts) (hv : ∀ d, R g d → d = v) : Ed p (tCall (pureG Ts n enc ok R) [] E t) ρ v := (ex_callG g h hl hg hT).imp hv
theorem ex_callGX {Ts : List Addr} {n : Nat} {E : XK} {t : TA} {Pa : List PyData → Prop} (h : Ea p t ρ Pa) (hg : ∀ ds, Pa ds → ∃ g, ds = enc g ∧ (enc g).length = n ∧ ok g) (hT : ∀ P ∈ Ts, P ∈ p.Ts) :
    Ex p (tCall (pureG Ts n enc ok R) [] E t) ρ (fun d => ∃ g, Pa (enc g) ∧ ok g ∧ R g d) := fun H0 O σ H e Q q => by
  refine h H0 O σ H e _ fun vs H2 ds k2 o2 hd pd => ?_
  obtain ⟨g, rfl, hl, hg⟩ := hg ds pd
  have e2 := e.kq k2 o2
  exact ⟨g, hg, by rw [List.append_nil, hd.length]; exact hl, SO p O, _, so_trk e2, fun P hP => o2.tb P (hT P hP), by rw [List.append_nil]; exact hd, rfl, fun v H3 d k3 hv hp => q v H3 d (k2.trans k3.up) (o2.kp k3) hv ⟨g, pd, hg, hp⟩⟩
end
section
variable {P : Program} {w : World} {K : PySem.W.Frag} {mg : Str → Option Value} {base : Heap}
theorem ok_pureG {x qual : Str} {st : Stmt} {f : Addr} {fd : FuncData} {N ps : List Str} {k n : Nat} {Ts : List Addr} {G : Type} {enc : G → List PyData} {ok : G → Prop} {R : G → PyData → Prop} (F : Fun K x qual st f fd) (Sc : FnScope N ps (defScope st)) (hps : ps.length = n) (hn : n ≤ N.length)
    (hb : ∀ (cdv : Value) (A : Around) (outer : List PySem.Env) (s : Shared) (H : Hp) (E : XK), Room k (A.deeper (envOfC qual (defScope st) s.heap.objs.size f cdv)) →
      ∃ t, PSs (cxOf CX0 P w K mg base N qual (defScope st) f cdv A outer s H E).nox (defBody st) t ∧
        ∀ (p : Pm) (g : G), (∀ P ∈ Ts, P ∈ p.Ts) → ok g → Rn p t (startR N (enc g)) { N := fun _ => R g .none, R := R g }) : FnOk P w K mg base CX0 (k + 1) f fd ps (pureG Ts n enc ok R) := by
  refine F.ok Sc (fun vs H Q E h => by obtain ⟨g, _, h⟩ := h; rw [h.1, hps]) (fun cdv A outer s H vs Q E hr h => ?_)
  obtain ⟨g, hg, h⟩ := h
  obtain ⟨t, ht, hR⟩ := hb cdv A outer s H E hr
  exact ⟨t, ht, pure_body (ps := ps) hn h (fun p ds hT hl hp => by rw [hp]; exact hR p g hT hg)⟩
end
section
variable {p : Pm} {ρ : Rho} {ta tb te : TE} {tt : TT}
/-- a comprehension without a test, item by item -/
theorem ex_lcR {wi : TI} {g : TG} {vs : List Nat} {ds : List PyData} (R : Nat → PyData → PyData → Prop) (hi : Ii p wi ρ (· = ds)) (hz : ds.length ≤ 10000)
    (hs : ∀ (i : Nat) (d : PyData), ds[i]? = some d → ∃ (ts : List Nat) (ρ' : Rho), (∀ i ∈ ts, i ∈ vs) ∧ Tg p g ts (wipeR ρ vs) d ρ' ∧ Ex p te ρ' (R i d)) :
    Ex p (tLc wi g tYes te vs) ρ (fun r => ∃ es, r = .list es ∧ es.length = ds.length ∧ ∀ i d e, ds[i]? = some d → es[i]? = some e → R i d e) := by
  refine ex_lc (fun ds' i es => ds' = ds ∧ i ≤ ds.length ∧ es.length = i ∧ ∀ j d e, ds[j]? = some d → es[j]? = some e → R j d e) hi (fun l e => by rw [e]; exact hz) (fun l e => ⟨e, Nat.zero_le _, rfl, fun j d e h1 h2 => by simp at h2⟩) (fun l i d es hl hd iv => ?_) (fun l es hl iv => ⟨es, rfl, by rw [iv.2.2.1, hl], iv.2.2.2⟩)
  subst hl
  obtain ⟨_, hil, hlen, hall⟩ := iv
  obtain ⟨ts, ρ', h1, h2, h3⟩ := hs i d hd
  have hlt : i < l.length := (List.getElem?_eq_some_iff.mp hd).1
  refine ⟨ts, ρ', (· = true), h1, h2, fun H0 O σ H e Q q => q true H (Kq.refl H) e.ok rfl, fun _ => h3.imp fun e he => ⟨rfl, hlt, by simp [hlen], fun j d' e' g1 g2 => ?_⟩, fun z => by cases z⟩
  by_cases hj : j < es.length
  · rw [List.getElem?_append_left hj] at g2
    exact hall j d' e' g1 g2
  · have hj' : j = i := by
      have := (List.getElem?_eq_some_iff.mp g2).1
      simp at this
      omega
    subst hj'
    rw [List.getElem?_append_right (by omega)] at g2
    simp [hlen] at g2
    subst g2
    rw [hd] at g1
    cases g1
    exact he
theorem ed_lcM {wi : TI} {g : TG} {vs : List Nat} {ds : List PyData} (es : List PyData) (hi : Ii p wi ρ (· = ds)) (hl : es.length = ds.length) (hz : ds.length ≤ 10000)
    (hs : ∀ (i : Nat) (d e : PyData), ds[i]? = some d → es[i]? = some e → ∃ (ts : List Nat) (ρ' : Rho), (∀ i ∈ ts, i ∈ vs) ∧ Tg p g ts (wipeR ρ vs) d ρ' ∧ Ed p te ρ' e) : Ed p (tLc wi g tYes te vs) ρ (.list es) := by
  refine (ex_lcR (fun i _ e => es[i]? = some e) hi hz fun i d hd => ?_).imp fun r ⟨fs, h1, h2, h3⟩ => ?_
  · have hlt : i < es.length := by rw [hl]; exact (List.getElem?_eq_some_iff.mp hd).1
    obtain ⟨ts, ρ', g1, g2, g3⟩ := hs i d es[i] hd (List.getElem?_eq_getElem hlt)
    exact ⟨ts, ρ', g1, g2, g3.imp fun e he => by rw [he, List.getElem?_eq_getElem hlt]⟩
  · rw [h1]
    congr 1
    apply List.ext_getElem?
    intro i
    by_cases h : i < ds.length
    · obtain ⟨q1, q2⟩ := And.intro (List.getElem?_eq_getElem h) (List.getElem?_eq_getElem (h2 ▸ h : i < fs.length))
      rw [q2, h3 i _ _ q1 q2]
    · rw [List.getElem?_eq_none (by omega), List.getElem?_eq_none (by omega)]
/-- .. with a test: the items that pass, as they are -/
theorem ed_lcF {wi : TI} {g : TG} {vs : List Nat} {ds : List PyData} (f : PyData → Bool) (F : PyData → PyData) (hi : Ii p wi ρ (· = ds)) (hz : ds.length ≤ 10000)
    (hs : ∀ (i : Nat) (d : PyData), ds[i]? = some d → ∃ (ts : List Nat) (ρ' : Rho), (∀ i ∈ ts, i ∈ vs) ∧ Tg p g ts (wipeR ρ vs) d ρ' ∧ Et p tt ρ' (· = f d) ∧ (f d = true → Ed p te ρ' (F d))) : Ed p (tLc wi g tt te vs) ρ (.list ((ds.filter f).map F)) := by
  refine ex_lc (fun ds' i es => es = ((ds.take i).filter f).map F) hi (fun l e => by rw [e]; exact hz) (fun l e => rfl) (fun l i d es hl hd iv => ?_) (fun l es hl iv => by subst hl; rw [iv, List.take_length])
  subst hl iv
  obtain ⟨ts, ρ', h1, h2, h3, h4⟩ := hs i d hd
  have htk : (l.take (i + 1)).filter f = (l.take i).filter f ++ (if f d then [d] else []) := by
    rw [List.take_add_one, hd, List.filter_append]
    congr 1
    simp [List.filter_cons]
  refine ⟨ts, ρ', _, h1, h2, h3, fun e => (h4 e.symm).imp fun x z => ?_, fun e => ?_⟩
  · rw [htk, z, ← e]; simp
  · rw [htk, ← e]; simp
theorem ed_mulW {i j : Int} (h : Ed p ta ρ (.int i)) (k : Ed p tb ρ (.int j)) (hb : CMulW i j) : Ed p (tOp (rI CMulW fun i j => .int (i * j)) ta tb) ρ (.int (i * j)) := ed_op h k (r2_I (g' := fun i j => .int (i * j)) hb fun _ _ => .int _)
theorem et_truI {K : PySem.W.Frag} {i : Int} (h : Ed p ta ρ (.int i)) : Et p (fun σ H Q => ta σ H fun x H' => ∃ k, TruV K x H' k ∧ Q k H') ρ (· = (i != 0)) := fun H0 O σ H e Q q => by
  refine h H0 O σ H e _ fun v H2 d k2 o2 hd pd => ?_
  subst pd
  cases hd
  exact ⟨_, rfl, q _ H2 k2 o2 rfl⟩
end
section
variable {X : Cx}
/-- a name that is stored -/
theorem gN (i : Nat) {x : Str} {pos : Pos} (hN : X.N.Nodup) (hi : X.N[i]? = some x := by rfl) (hx : Loc X.env.scope x := by first | exact Or.inl rfl | exact Or.inr rfl) (hf : X.fn x = true ∨ X.env.scope.names.lookup x = some .local := by first | exact .inl rfl | exact .inr rfl) : PG X (.Name x pos) (gName i) := pg_name hN hi hx hf
theorem gP (i j : Nat) {x y : Str} {p1 p2 pos : Pos} {k : Nat} (hc : X.calm = true) (hN : X.N.Nodup) (hi : X.N[i]? = some x := by rfl) (hx : Loc X.env.scope x := by first | exact Or.inl rfl | exact Or.inr rfl) (hf : X.fn x = true ∨ X.env.scope.names.lookup x = some .local := by first | exact .inl rfl | exact .inr rfl)
    (hj : X.N[j]? = some y := by rfl) (hy : Loc X.env.scope y := by first | exact Or.inl rfl | exact Or.inr rfl) (hfy : X.fn y = true ∨ X.env.scope.names.lookup y = some .local := by first | exact .inl rfl | exact .inr rfl) : PG X (.Tuple [.Name x p1, .Name y p2] k pos) (gTup X.K 2 (gCons (gName i) (gCons (gName j) gNil))) :=
  pg_tup hc (pgs_cons (gN i hN hi hx hf) (pgs_cons (gN j hN hj hy hfy) pgs_nil))
end
section
variable {X : Cx} {e a b : Expr} {es : List Expr} {te ta tb : TE} {t : TA} {p pos apos : Pos}
/-! the same with the pinned objects named -/
theorem slA (K : PySem.W.Frag) (h : X.K = K := by rfl) : SlR X (rSlA K) := h ▸ sl_tupA
theorem opCat (K : PySem.W.Frag) (h : X.K = K := by rfl) : OpR X (binaryOp .Add) (rCatA K) := h ▸ op_catA
theorem ixT (K : PySem.W.Frag) (h : X.K = K := by rfl) : IxR X (rIxT K) := h ▸ ix_tup
theorem ixL (K : PySem.W.Frag) (h : X.K = K := by rfl) : IxR X (rIxL K) := h ▸ ix_list
theorem pTup' (K : PySem.W.Frag) (B : Bn X.mg) (h : PE X e te) (hK : X.K = K := by rfl) (hg : Gl X "tuple" := by rfl) (he : starEach [e] X.env = (false, eval e X.env) :: starEach [] X.env := by rfl) : PE X (.Call (.Name "tuple" p) [e] [] pos) (tCB (rTp K) (tCons te tNil)) := hK ▸ pTuple B h hg he
theorem pLen' (K : PySem.W.Frag) (B : Bn X.mg) (h : PE X e te) (hK : X.K = K := by rfl) (hg : Gl X "len" := by rfl) (he : starEach [e] X.env = (false, eval e X.env) :: starEach [] X.env := by rfl) : PE X (.Call (.Name "len" p) [e] [] pos) (tCB (rLn K) (tCons te tNil)) := hK ▸ pLen B h hg he
theorem pSum' (K : PySem.W.Frag) (B : Bn X.mg) (hc : X.calm = true) (h : PE X e te) (hK : X.K = K := by rfl) (hg : Gl X "sum" := by rfl) (he : starEach [e] X.env = (false, eval e X.env) :: starEach [] X.env := by rfl) : PE X (.Call (.Name "sum" p) [e] [] pos) (tCB (rSum K) (tCons te tNil)) := hK ▸ pSum B hc h hg he
theorem pMax' (K : PySem.W.Frag) (B : Bn X.mg) (hc : X.calm = true) (h : PE X e te) (hK : X.K = K := by rfl) (hg : Gl X "max" := by rfl) (he : starEach [e] X.env = (false, eval e X.env) :: starEach [] X.env := by rfl) : PE X (.Call (.Name "max" p) [e] [] pos) (tCB (rMax K) (tCons te tNil)) := hK ▸ pMax B hc h hg he
theorem pIsi' (K : PySem.W.Frag) (B : Bn X.mg) (h : PE X a ta) (k : PE X b tb) (hK : X.K = K := by rfl) (hg : Gl X "isinstance" := by rfl) (he : starEach [a, b] X.env = (false, eval a X.env) :: starEach [b] X.env := by rfl) (he2 : starEach [b] X.env = (false, eval b X.env) :: starEach [] X.env := by rfl)
    (hpl : (backTo pos (starEach [b] X.env)).any (·.1) = false := by rfl) : PE X (.Call (.Name "isinstance" p) [a, b] [] pos) (tCB (rIsi K) (tCons ta (tCons tb tNil))) := hK ▸ pIsi B h k hg he he2 hpl
theorem piT (K : PySem.W.Frag) {tg : Expr} (h : PE X e te) (hK : X.K = K := by rfl) : PI X tg e (iTup K te) := hK ▸ pi_tup h
theorem piL (K : PySem.W.Frag) {tg : Expr} (h : PE X e te) (hK : X.K = K := by rfl) : PI X tg e (iList K te) := hK ▸ pi_list h
theorem piZ (K : PySem.W.Frag) (B : Bn X.mg) {tpos : Pos} {elts : List Expr} {kk : Nat} (ha : PE X a ta) (hb : PE X b tb) (hK : X.K = K := by rfl) (hg : Gl X "zip" := by rfl) (hs : starEach [a, b] X.env = (false, eval a X.env) :: starEach [b] X.env := by rfl) (hs2 : starEach [b] X.env = (false, eval b X.env) :: starEach [] X.env := by rfl) (hpl : (backTo pos (starEach [b] X.env)).any (·.1) = false := by rfl) :
    PI X (.Tuple elts kk tpos) (.Call (.Name "zip" p) [a, b] [] pos) (RZ.iZipA K (tCons ta (tCons tb tNil))) := hK ▸ RZ.pi_zipA hg B.zip (pa_cons ha (pa_cons hb pa_nil hs2) hs) hs hpl
theorem piE (K : PySem.W.Frag) (B : Bn X.mg) {tpos : Pos} {elts : List Expr} {kk : Nat} (ha : PE X a ta) (hK : X.K = K := by rfl) (hg : Gl X "enumerate" := by rfl) (hs : starEach [a] X.env = (false, eval a X.env) :: starEach [] X.env := by rfl) :
    PI X (.Tuple elts kk tpos) (.Call (.Name "enumerate" p) [a] [] pos) (iEnumT K (tCons ta tNil)) := hK ▸ pi_enumT hg B.enumerate (pa_cons ha pa_nil hs) hs
theorem piR (B : Bn X.mg) {tg : Expr} (ha : PE X a ta) (hg : Gl X "range" := by rfl) (hs : starEach [a] X.env = (false, eval a X.env) :: starEach [] X.env := by rfl) : PI X tg (.Call (.Name "range" p) [a] [] pos) (iRng1 (tCons ta tNil)) := pi_range1 hg B.range (pa_cons ha pa_nil hs) hs
theorem piR2 (B : Bn X.mg) {tg : Expr} (ha : PE X a ta) (hb : PE X b tb) (hg : Gl X "range" := by rfl) (hs : starEach [a, b] X.env = (false, eval a X.env) :: starEach [b] X.env := by rfl) (hs2 : starEach [b] X.env = (false, eval b X.env) :: starEach [] X.env := by rfl) : PI X tg (.Call (.Name "range" p) [a, b] [] pos) (iRng2 (tCons ta (tCons tb tNil))) := pi_range2 hg B.range (pa_cons ha (pa_cons hb pa_nil hs2) hs) (by rw [hs, hs2]; rfl) (by rw [hs2]; rfl)
theorem gP' (K : PySem.W.Frag) (i j : Nat) {x y : Str} {p1 p2 pos : Pos} {k : Nat} (hc : X.calm = true) (hN : X.N.Nodup) (hK : X.K = K := by rfl) (hi : X.N[i]? = some x := by rfl) (hx : Loc X.env.scope x := by first | exact Or.inl rfl | exact Or.inr rfl) (hf : X.fn x = true ∨ X.env.scope.names.lookup x = some .local := by first | exact .inl rfl | exact .inr rfl)
    (hj : X.N[j]? = some y := by rfl) (hy : Loc X.env.scope y := by first | exact Or.inl rfl | exact Or.inr rfl) (hfy : X.fn y = true ∨ X.env.scope.names.lookup y = some .local := by first | exact .inl rfl | exact .inr rfl) : PG X (.Tuple [.Name x p1, .Name y p2] k pos) (gTup K 2 (gCons (gName i) (gCons (gName j) gNil))) :=
  hK ▸ gP i j hc hN hi hx hf hj hy hfy
end
end Kz
set_option Elab.async false
set_option linter.all false
set_option maxRecDepth 100000
set_option maxHeartbeats 4000000
namespace Kz
open PySem PySem.Spec PyProof.Rows L2
section
variable {p : Pm} {ρ : Rho} {ta tb te : TE} {tt : TT} {H0 : Bs} {H H' : Hp} {O : Addr → Prop} {σ : L2.St}
/-- lists at O may have changed; no slot holds one -/
theorem En.poke (e : En p H0 O σ H ρ) (hno : ∀ (i : Nat) (fs : List PyData), ρ[i]? ≠ some (some (.own fs))) (l : Lat p O H O H') : En p H0 O σ H' ρ :=
  ⟨frame_in e l.k, e.bo, l.ok, fun a h => ⟨(e.ow a h).1, (e.ow a h).2.1, l.ow a h⟩, fun i s h => by
    have q := e.sl i s h
    cases s with
    | dat d => obtain ⟨v, q1, q2⟩ := q; exact ⟨v, q1, l.dv q2⟩
    | own fs => exact absurd h (hno i fs)
    | raw v => exact q
    | rng lo hi => obtain ⟨a, q1, q2, q3⟩ := q; exact ⟨a, q1, q2, l.k.at_ a _ (fun z => q2 (so_zo a z)) q3 (fun _ q => by cases q)⟩, fun i j a ds es h => absurd h (hno i ds), e.ln⟩
/-- the list at D now holds one more -/
theorem Lat.app {D : Addr} {xs : List V} {v : V} {H2 : Hp} (l : Lat p O H O H') (hO : O D) (hnS : ¬ p.S D) (k : Kq p.Z H' H2) (o : Ok p H2) (h : H2 D = some (.lst xs)) (w : ∀ a, O a → ∃ ys, H2 a = some (.lst ys)) : Lat p O H O (upd H2 D (.lst (xs ++ [v]))) := by
  have ko : ∀ a, p.S a → upd H2 D (.lst (xs ++ [v])) a = H2 a := fun a z => upd_ne fun q => hnS (q ▸ z)
  refine ⟨(l.k.trans (k.mono fun _ z => .inl z)).trans (Kq.put h nt_lst (.inr hO)), fun _ h => h, fun _ h => .inl h, ⟨fun a z => by rw [ko a z]; exact o.tr a z, fun P hP => ?_, p.ms _ _ o.mm ko⟩, fun a ha => ?_⟩
  · obtain ⟨ps, hp, tp⟩ := o.tb P hP
    exact ⟨ps, by rw [upd_ne (fun q => by rw [q, h] at hp; cases hp)]; exact hp, tp⟩
  · by_cases q : a = D
    · rw [q]; exact ⟨_, upd_same⟩
    · obtain ⟨ys, e⟩ := w a ha
      exact ⟨ys, by rw [upd_ne q]; exact e⟩
theorem ex_lc2 {wi wi1 : TI} {g g1 : TG} {tt1 : TT} {vs vs1 : List Nat} {Pi : List PyData → Prop} {P : PyData → Prop} (inv : List PyData → Nat → List PyData → Prop) (hi : Ii p wi ρ Pi) (h0 : ∀ ds, Pi ds → inv ds 0 [])
    (hs : ∀ (ds : List PyData) (i : Nat) (d : PyData) (es : List PyData), Pi ds → ds[i]? = some d → inv ds i es → ∃ (ts : List Nat) (ρ' : Rho) (ds1 : List PyData) (inv1 : Nat → List PyData → Prop), (∀ i ∈ ts, i ∈ vs) ∧ Tg p g ts (wipeR ρ vs) d ρ' ∧
      (∀ (i : Nat) (fs : List PyData), ρ'[i]? ≠ some (some (.own fs))) ∧ Ii p wi1 ρ' (· = ds1) ∧ inv1 0 es ∧ (∀ j es, inv1 j es → es.length ≤ 10000) ∧
      (∀ (j : Nat) (e : PyData) (fs : List PyData), ds1[j]? = some e → inv1 j fs → ∃ (ts1 : List Nat) (ρ'' : Rho) (Pt : Bool → Prop), (∀ i ∈ ts1, i ∈ vs1) ∧ Tg p g1 ts1 (wipeR ρ' vs1) e ρ'' ∧ Et p tt1 ρ'' Pt ∧
        (Pt true → Ex p te ρ'' (fun x => inv1 (j + 1) (fs ++ [x]))) ∧ (Pt false → inv1 (j + 1) fs)) ∧ (∀ fs, inv1 ds1.length fs → inv ds (i + 1) fs))
    (hd : ∀ ds es, Pi ds → inv ds ds.length es → P (.list es)) : Ex p (tLc2 wi g tYes wi1 g1 tt1 te vs vs1) ρ P := fun H0 O σ H e Q q => by
  refine hi H0 O σ H e _ fun J H1 ds k1 o1 pi w => ?_
  intro D hD
  have e1 := e.kq k1 o1
  have hwi : wipe (wipe σ vs) vs = wipe σ vs := wipe_ext (wipe_length _ _) fun i hi => wipe_off σ hi
  let St : Nat → Hp → Prop := fun i H' => i ≤ ds.length ∧ ∃ es xs, Kq p.Z H1 H' ∧ Ok p H' ∧ H' D = some (.lst xs) ∧ DvL (SO p (fun a => O a ∨ a = D)) H' xs es ∧ inv ds i es
  have hnS : ¬ p.S D := fun z => fresh_so e1 hD (.inl z)
  have mk : ∀ {H' : Hp} {xs : List V}, Kq p.Z H1 H' → Ok p H' → H' D = some (.lst xs) → Lat p O H1 (fun a => O a ∨ a = D) H' ∧ En p H0 (fun a => O a ∨ a = D) (wipe σ vs) H' (wipeR ρ vs) := fun {H' xs} k' o' hD' => by
    have l : Lat p O H1 (fun a => O a ∨ a = D) H' := ⟨k'.mono fun _ z => .inl z, fun a h => .inl h, fun a h => h.elim .inl fun z => .inr (by rw [z]; exact hD), o', fun a h => by
      rcases h with h | h
      · obtain ⟨n, ns, ys, hy⟩ := e1.ow a h
        exact ⟨ys, k'.at_ a _ (fun z => ns (p.zs a z)) hy nt_lst⟩
      · rw [h]; exact ⟨xs, hD'⟩⟩
    refine ⟨l, ?_⟩
    have ew := (e1.wipe vs).kq k' o'
    refine ⟨ew.fr, fun a h => .inl (ew.bo a h), o', fun a h => ?_, fun i s h => ?_, ew.un, ew.ln⟩
    · rcases h with h | h
      · exact ew.ow a h
      · rw [h]; exact ⟨.inr (e1.fr.back hD), hnS, xs, hD'⟩
    · have hs := (e1.wipe vs).sl i s h
      cases s with
      | dat d => obtain ⟨v, g1, g2⟩ := hs; exact ⟨v, g1, l.dv g2⟩
      | own ds =>
        obtain ⟨a, ys, g1, g2, g3, g4⟩ := hs
        refine ⟨a, ys, g1, .inl g2, k'.at_ a _ (fun z => (e1.ow a g2).2.1 (p.zs a z)) g3 nt_lst, g4.map (fun b n t z => ?_) fun b o n eb t => k'.at_ b o (fun z => n (so_z b z)) eb t⟩
        rcases z with z | z | z
        · exact n (.inl z)
        · exact n (.inr z)
        · exact t (by rw [z]; exact hD)
      | raw v => exact hs
      | rng lo hi =>
        obtain ⟨a, g1, g2, g3⟩ := hs
        refine ⟨a, g1, fun z => ?_, k'.at_ a _ (fun z => g2 (so_z a z)) g3 (fun _ q => by cases q)⟩
        rcases z with z | z | z
        · exact g2 (.inl z)
        · exact g2 (.inr z)
        · rw [z, hD] at g3; cases g3
  refine ⟨fun i m H' => m = ds.length - i ∧ St i H', ⟨ds.length, by simp, Nat.zero_le _, [], [], ?_, ?_, upd_same, .nil, h0 ds pi⟩, ?_⟩
  · exact Kq.new hD
  · exact o1.kp (Kq.new hD)
  rintro i m H' ⟨rfl, hil, es, xs, k', o', hD', hes, iv⟩
  obtain ⟨l, eL⟩ := mk k' o' hD'
  by_cases hlt : i < ds.length
  · refine .inr ⟨w.go _ H' i l hlt, St (i + 1), fun H'' s => ⟨ds.length - (i + 1), by omega, rfl, s⟩, fun x H2 y => ?_⟩
    obtain ⟨d, hdi⟩ : ∃ d, ds[i]? = some d := ⟨ds[i], List.getElem?_eq_getElem hlt⟩
    obtain ⟨k2, hx⟩ := w.yld _ H' i x H2 d l hdi y
    obtain ⟨ts, ρ', ds1, inv1, hts, tg, hno, hi1, i10, hz1, step1, done1⟩ := hs ds i d es pi hdi iv
    have e2 := eL.kp k2
    refine tg H0 _ _ H2 x e2 hx _ fun σ3 e3 wp => ⟨by rw [wp vs hts, hwi], ?_⟩
    dsimp only [tYes]
    rw [if_pos rfl]
    refine hi1 H0 _ σ3 H2 e3 _ fun J1 H4 ds1' k4 o4 hds w1 => ?_
    subst hds
    have e4 := e3.kq k4 o4
    have kk : Kq p.Z H1 H4 := (k'.trans k2.up).trans k4
    have hD4 : H4 D = some (.lst xs) := k4.at_ D _ (fun z => hnS (p.zs D z)) (k2.at_ D _ (fun z => z) hD' nt_lst) nt_lst
    have hes4 := (hes.kp k2).kq k4 so_z
    have hwi1 : wipe (wipe σ3 vs1) vs1 = wipe σ3 vs1 := wipe_ext (wipe_length _ _) fun i hi => wipe_off σ3 hi
    refine ⟨fun j m H' => m = ds1'.length - j ∧ j ≤ ds1'.length ∧ Lat p (fun a => O a ∨ a = D) H4 (fun a => O a ∨ a = D) H' ∧ Kq p.Z H1 H' ∧ ∃ fs ys, H' D = some (.lst ys) ∧ DvL (SO p (fun a => O a ∨ a = D)) H' ys fs ∧ inv1 j fs,
      ⟨ds1'.length, by simp, Nat.zero_le _, Lat.refl e4, kk, es, xs, hD4, hes4, i10⟩, ?_⟩
    rintro j m H5 ⟨rfl, hjl, l5, k5, fs, ys, hD5, hfs, iv1⟩
    have e5 := e4.poke hno l5
    by_cases hjlt : j < ds1'.length
    · refine .inr ⟨w1.go _ H5 j l5 hjlt, fun H' => j < ds1'.length ∧ Lat p (fun a => O a ∨ a = D) H4 (fun a => O a ∨ a = D) H' ∧ Kq p.Z H1 H' ∧ ∃ fs ys, H' D = some (.lst ys) ∧ DvL (SO p (fun a => O a ∨ a = D)) H' ys fs ∧ inv1 (j + 1) fs,
        fun H'' s => ⟨ds1'.length - (j + 1), by omega, rfl, s.1, s.2⟩, fun x1 H6 y1 => ?_⟩
      obtain ⟨d1, hdj⟩ : ∃ d, ds1'[j]? = some d := ⟨ds1'[j], List.getElem?_eq_getElem hjlt⟩
      obtain ⟨k6, hx1⟩ := w1.yld _ H5 j x1 H6 d1 l5 hdj y1
      obtain ⟨ts1, ρ'', Pt, hts1, tg1, et1, ht1, hf1⟩ := step1 j d1 fs hdj iv1
      refine tg1 H0 _ _ H6 x1 ((e5.wipe vs1).kp k6) hx1 _ fun σ7 e7 wp1 => ⟨by rw [wp1 vs1 hts1, hwi1], ?_⟩
      refine et1 H0 _ σ7 H6 e7 _ fun b H8 k8 o8 pb => ?_
      have e8 := e7.kq k8 o8
      have kq8 : Kq p.Z H5 H8 := k6.up.trans k8
      have hD8 : H8 D = some (.lst ys) := kq8.at_ D _ (fun z => hnS (p.zs D z)) hD5 nt_lst
      have hfs8 := hfs.kq kq8 so_z
      cases b with
      | false =>
        rw [if_neg (by decide)]
        exact ⟨hjlt, ⟨l5.k.trans (kq8.mono fun _ z => .inl z), l5.up, l5.new, o8, fun a h => (e8.ow a h).2.2⟩, k5.trans kq8, fs, ys, hD8, hfs8, hf1 pb⟩
      | true =>
        rw [if_pos rfl]
        refine ht1 pb H0 _ σ7 H8 e8 _ fun v H9 f k9 o9 hv iv' => ?_
        have e9 := e8.kq k9 o9
        have hD9 : H9 D = some (.lst ys) := k9.at_ D _ (fun z => hnS (p.zs D z)) hD8 nt_lst
        have hfs9 := hfs8.kq k9 so_z
        have hzz := hz1 j fs iv1
        have hyl := hfs.length
        refine ⟨ys, hD9, Nat.lt_of_lt_of_le (show ys.length < 20000 by omega) (by decide), hjlt, l5.app (.inr rfl) hnS (kq8.trans k9) o9 hD9 (fun a h => (e9.ow a h).2.2), Kq.own ((k5.trans kq8).trans k9) hD hD9 nt_lst, fs ++ [f], ys ++ [v], upd_same, ?_, iv'⟩
        have off : ∀ (a : Addr) (o : HO), ¬ SO p (fun a => O a ∨ a = D) a → H9 a = some o → NT o → upd H9 D (.lst (ys ++ [v])) a = some o := fun a o n eo _ => by
          rw [upd_ne fun q => n (.inr (.inr q))]; exact eo
        exact DvL.map (fun _ n _ => n) off _ _ (hfs9.append (.one hv))
    · have he : j = ds1'.length := by omega
      subst he
      exact .inl ⟨w1.stop _ H5 l5, hlt, fs, ys, k5, l5.ok, hD5, hfs, done1 fs iv1⟩
  · have he : i = ds.length := by omega
    subst he
    refine .inl ⟨w.stop _ H' l, q (.ref D) H' (.list es) (k1.trans k') o' (.lst (fun z => ?_) hD' (hes.map (fun a n _ z => n (z.elim .inl fun z => .inr (.inl z))) fun a o n eo t => eo)) (hd ds es pi iv)⟩
    exact fresh_so e1 hD z
end
end Kz
set_option Elab.async false
set_option linter.all false
set_option maxRecDepth 100000
set_option maxHeartbeats 4000000
namespace Kz
open PySem PySem.Spec PyProof.Rows L2
section
variable {P : Program} {w : World} {K : PySem.W.Frag} {mg : Str → Option Value} {base : Heap}
abbrev sWithout : Stmt := topS 10
abbrev sSigned : Stmt := topS 11
abbrev sDet : Stmt := topS 12
abbrev sLeanBy : Stmt := topS 14
abbrev sSizeBy : Stmt := topS 15
theorem scWithout : FnScope ["rows", "down", "across", "kept", "row"] ["rows", "down", "across"] (defScope sWithout) := ⟨rfl, rfl, rfl, by decide +kernel, rfl, by decide +kernel, by decide +kernel⟩
theorem scSigned : FnScope ["place", "number"] ["place", "number"] (defScope sSigned) := ⟨rfl, rfl, rfl, by decide +kernel, rfl, by decide +kernel, by decide +kernel⟩
theorem scDet : FnScope ["rows", "total", "at", "number"] ["rows"] (defScope sDet) := ⟨rfl, rfl, rfl, by decide +kernel, rfl, by decide +kernel, by decide +kernel⟩
theorem scLeanBy : FnScope ["table", "one", "other", "total", "row", "number", "entry", "factor"] ["table", "one", "other"] (defScope sLeanBy) := ⟨rfl, rfl, rfl, by decide +kernel, rfl, by decide +kernel, by decide +kernel⟩
theorem scSizeBy : FnScope ["table", "step"] ["table", "step"] (defScope sSizeBy) := ⟨rfl, rfl, rfl, by decide +kernel, rfl, by decide +kernel, by decide +kernel⟩
abbrev spWithout : Sp := pureG [] 3 (G := Mat × Nat × Nat) (fun g => [matD g.1, .int (g.2.1 : Int), .int (g.2.2 : Int)]) (fun g => g.1.length ≤ 1000 ∧ ∀ l ∈ g.1, l.length ≤ 1000) (fun g d => d = matD (withoutM g.1 g.2.1 g.2.2))
theorem ok_without (B : Bn mg) {f : Addr} {fd : FuncData} (F : Fun K "without" "without" sWithout f fd) : FnOk P w K mg base CX0 1 f fd ["rows", "down", "across"] spWithout := by
  refine ok_pureG F scWithout rfl (by decide) fun cdv A outer s H E hr => ⟨_, pss_cons (ps_set (i := 3) scWithout.nd rfl (.inl rfl) (pe_op op_catA (pe_slice sl_tupA (pv 0) po_none (po_some (pv 1))) (pe_slice sl_tupA (pv 0) (po_some (pe_op op_add (pv 1) pe_int)) po_none)))
    (pss_one (ps_ret (pTuple B (pe_lc (own := [("row", 4)]) rfl scWithout.nd (pi_tup (pv 3)) (blkOk_by (own := [("row", 4)]) (N := ["rows", "down", "across", "kept", "row"]) (sc := defScope sWithout) (by decide +kernel)) (fun _ _ _ _ _ => gN 4 scWithout.nd) (fun _ _ _ _ _ => pts_nil)
      (fun _ _ _ _ _ => pe_op (opCat K) (pe_slice (slA K) (pv 4) po_none (po_some (pv 2))) (pe_slice (slA K) (pv 4) (po_some (pe_op op_add (pv 2) pe_int)) po_none)))))), fun p g hT hg => ?_⟩
  obtain ⟨r, i, j⟩ := g
  obtain ⟨h1, h2⟩ := hg
  refine rn_set_ (d := .tuple ((r.take i ++ r.drop (i + 1)).map rowD)) ((ed_catT (ed_slT (ds := r.map rowD) (ex_var rfl) eo_no (eo_part (i := (i : Int)) (ex_var rfl))) (ed_slT (ds := r.map rowD) (ex_var rfl) (eo_part (ed_add (i := (i : Int)) (ex_var rfl) ex_int)) eo_no) ?_).cast ?_) (rn_ret (d := matD (withoutM r i j)) (ed_cb (ea_one (ed_lcM ((withoutM r i j).map rowD) (ii_tup (ex_var rfl)) ?_ ?_ fun m d e hd he => ⟨[4], _, fun j hj => hj, tg_name, ?_⟩)) (bc_tuple (.l _))) rfl)
  · simp only [cutD]; simp at h1; simp; omega
  · rw [cutD_to]
    have e1 : ((i : Int) + 1) = ((i + 1 : Nat) : Int) := by omega
    rw [e1, cutD_from, without_data r i 0]
  · unfold withoutM; simp
  · simp at h1; simp; omega
  · unfold withoutM at he
    rw [List.map_map, List.getElem?_map] at he
    rw [List.getElem?_map] at hd
    obtain ⟨l, hl, rfl⟩ := Option.map_eq_some_iff.mp hd
    rw [hl] at he
    cases he
    have hm : l ∈ r := by
      rcases List.mem_append.mp (List.mem_of_getElem? hl) with q | q
      · exact List.mem_of_mem_take q
      · exact List.mem_of_mem_drop q
    have hw := h2 l hm
    refine (ed_catT (ed_slT (ds := l.map .int) (ex_var rfl) eo_no (eo_part (i := (j : Int)) (ex_var rfl))) (ed_slT (ds := l.map .int) (ex_var rfl) (eo_part (ed_add (i := (j : Int)) (ex_var rfl) ex_int)) eo_no) ?_).cast ?_
    · simp only [cutD]; simp; omega
    · rw [cutD_to]
      have e1 : ((j : Int) + 1) = ((j + 1 : Nat) : Int) := by omega
      rw [e1, cutD_from]
      show _ = rowD _
      unfold rowD
      rw [List.map_append, List.map_take, List.map_drop]
abbrev spSigned : Sp := pureG [] 2 (G := Nat × Int) (fun g => [.int (g.1 : Int), .int g.2]) (fun _ => True) (fun g d => d = .int (sgn g.1 g.2))
theorem ok_signed (B : Bn mg) {f : Addr} {fd : FuncData} (F : Fun K "signed" "signed" sSigned f fd) : FnOk P w K mg base CX0 1 f fd ["place", "number"] spSigned := by
  refine ok_pureG F scSigned rfl (by decide) fun cdv A outer s H E hr => ⟨_, pss_one (ps_ret (pe_ifExp (pt_truth (pe_op op_and (pv 0) pe_int) (fun _ => rfl)) (pe_un un_neg (pv 1)) (pv 1))), fun p g hT hg => ?_⟩
  obtain ⟨i, x⟩ := g
  refine rn_retX (ex_ifE (P := fun d => d = .int (sgn i x)) (et_truI (ed_and (ex_var rfl) ex_int)) (fun e => (ed_neg (ex_var rfl)).cast ?_) (fun e => (ex_var (d := .int x) rfl).cast ?_)) fun d h => h
  · rw [tr_odd] at e
    have h : i % 2 = 1 := by
      have : ((i % 2 : Nat) : Int) ≠ 0 := by simpa using e.symm
      omega
    unfold sgn
    rw [if_pos h]
  · rw [tr_odd] at e
    have h : ¬ i % 2 = 1 := by
      have : ((i % 2 : Nat) : Int) = 0 := by simpa using e.symm
      omega
    unfold sgn
    rw [if_neg h]
/-- entries below 2 ^ 1000 -/
abbrev spDet (m : Nat) : Sp := pureG [] 1 (G := Mat) (fun r => [matD r]) (fun r => Sq m r ∧ Bd 1000 r) (fun r d => d = .int (detE r))
abbrev psRows : List Str := ["rows"]
theorem getD_some {l : List Int} {i : Nat} {x : Int} (h : l[i]? = some x) : l.getD i 0 = x := by rw [List.getD_eq_getElem?_getD, h]; rfl
theorem mul_ok {x y : Int} {a b : Nat} (hx : x.natAbs < 2 ^ a) (hy : y.natAbs < 2 ^ b) (ha : 0 < a := by decide) (hb : 0 < b := by decide) (h : a + b ≤ 1000000 := by decide) : CMulW x y := wide_mul hx hy ha hb h
theorem ok_det0 (B : Bn mg) {f : Addr} {fd : FuncData} (F : Fun K "determinant" "determinant" sDet f fd) : FnOk P w K mg base CX0 1 f fd ["rows"] (spDet 0) := by
  refine ok_pureG F scDet rfl (by decide) fun cdv A outer s H E hr => ⟨_, pss_cons (ps_if (pt_cmpR op_eq (pLen B (pv 0)) pe_int (nomark _)) (pss_one (ps_ret pe_int)) pss_nil) pss_never, fun p r hT hg => ?_⟩
  refine rn_when_ (t := true) (et_test ((ed_eqI (ed_cb (ea_one (ex_var (d := matD r) rfl)) (bc_len (.t _))) ex_int).cast ?_)) (fun _ => rn_ret_ ex_int ?_) (fun e => by cases e)
  · rw [sq0 hg.1]; rfl
  · rw [sq0 hg.1]; rfl
theorem ok_detS (B : Bn mg) {m k : Nat} (hm : m ≤ 2) {f : Addr} {fd : FuncData} (F : Fun K "determinant" "determinant" sDet f fd) (Cw : Cl P w K mg base "without" ["rows", "down", "across"] 1 spWithout) (Cs : Cl P w K mg base "signed" ["place", "number"] 1 spSigned)
    (C : Cl P w K mg base "determinant" ["rows"] (k + 1) (spDet m)) : FnOk P w K mg base CX0 (k + 2) f fd ["rows"] (spDet (m + 1)) := by
  refine ok_pureG F scDet rfl (by decide) fun cdv A outer s H E hr => ⟨_, pss_cons (ps_if (pt_cmpR op_eq (pLen B (pv 0)) pe_int (nomark _)) (pss_one (ps_ret pe_int)) pss_nil) (pss_cons (ps_set (i := 1) scDet.nd rfl (.inl rfl) pe_int)
    (pss_cons (ps_for PassesOwn.never rfl (piE K B (pe_ix (ixT K) (pv 0) pe_int (fun _ _ => rfl))) (gP' K 2 3 rfl scDet.nd)
      (pss_one (ps_aug (i := 1) scDet.nd rfl (.inl rfl) (pCall Cs hr (by omega) (pa_cons (pv 2) (pa_cons (pe_op op_mulW (pv 3) (pCall C hr (by omega) (pa_cons (pCall Cw hr (by omega) (pa_cons (pv 0) (pa_cons pe_int (pa_cons (pv 2) pa_nil)))) pa_nil))) pa_nil))) ip_add)))
      (pss_one (ps_ret (pv 1))))), fun p r hT hg => ?_⟩
  obtain ⟨sq, bd⟩ := hg
  have hlen := sq.h
  obtain ⟨row, hrow⟩ : ∃ row, r[0]? = some row := ⟨r[0], List.getElem?_eq_getElem (by omega)⟩
  have hmem : row ∈ r := List.mem_of_getElem? hrow
  have hwid : row.length = m + 1 := sq.w row hmem
  have hhd : r.headD [] = row := by rw [List.headD_eq_head?_getD, List.head?_eq_getElem?, hrow]; rfl
  refine rn_when_ (t := false) (et_test ((ed_eqI (ed_cb (ea_one (ex_var (d := matD r) rfl)) (bc_len (.t _))) ex_int).cast ?_)) (fun e => by cases e) fun _ => rn_set_ ex_int ?_
  · congr 1
    rw [decide_eq_false_iff_not, List.length_map, hlen]
    omega
  refine rn_seq (Nm := fun ρ => ρ[1]? = some (some (.dat (.int (detP r (m + 1)))))) (rn_for (fun ds i ρ => ρ.length = 4 ∧ ρ[0]? = some (some (.dat (matD r))) ∧ ρ[1]? = some (some (.dat (.int (detP r i))))) (ii_enumT (ed_ixT (ds := r.map rowD) (d := rowD row) (ex_var rfl) ex_int (matD_at (j := 0) hrow)))
    (fun ds e => ⟨rfl, rfl, rfl⟩) (fun ds i d ρ e hd iv => ?_) (fun ds ρ e iv => ?_)) fun ρ e => rn_ret (ex_var e) (by rw [detP_all sq (by omega)])
  · subst e
    obtain ⟨hl, h0, h1⟩ := iv
    obtain ⟨x', hx', rfl⟩ := enumD_get hd
    rw [List.getElem?_map] at hx'
    obtain ⟨x, hx, rfl⟩ := Option.map_eq_some_iff.mp hx'
    have hi : i < row.length := (List.getElem?_eq_some_iff.mp hx).1
    refine ⟨_, _, tg_pair tg_name tg_name, ?_⟩
    have g0 : ((ρ.set 2 (some (.dat (.int (i : Int))))).set 3 (some (.dat (.int x))))[0]? = some (some (.dat (matD r))) := by
      rw [List.getElem?_set_ne (by decide), List.getElem?_set_ne (by decide)]; exact h0
    have g1 : ((ρ.set 2 (some (.dat (.int (i : Int))))).set 3 (some (.dat (.int x))))[1]? = some (some (.dat (.int (detP r i)))) := by
      rw [List.getElem?_set_ne (by decide), List.getElem?_set_ne (by decide)]; exact h1
    have g2 : ((ρ.set 2 (some (.dat (.int (i : Int))))).set 3 (some (.dat (.int x))))[2]? = some (some (.dat (.int (i : Int)))) := by
      rw [List.getElem?_set_ne (by decide), List.getElem?_set_self (by omega)]
    have g3 : ((ρ.set 2 (some (.dat (.int (i : Int))))).set 3 (some (.dat (.int x))))[3]? = some (some (.dat (.int x))) := by
      rw [List.getElem?_set_self (by rw [List.length_set]; omega)]
    have sqm := sq_minor sq (i := 0) (j := i) (by omega) (by omega)
    have bdm := bd_minor bd 0 i
    have hmul := mul_ok (bd row hmem x (List.mem_of_getElem? hx)) (det_bd sqm hm bdm (by decide))
    refine rn_aug (b := sgn i (x * detE (withoutM r 0 i))) g1 (ex_callG (i, x * detE (withoutM r 0 i)) (ea_consD (ex_var g2) (ea_one (ed_mulW (ex_var g3) (ex_callG (withoutM r 0 i) (ea_one (ex_callG (r, 0, i) (ea_consD (ex_var g0) (ea_consD ex_int (ea_one (ex_var g2)))) rfl ⟨by show r.length ≤ 1000; omega, fun l hl => by rw [sq.w l hl]; omega⟩ (by simp))) rfl ⟨sqm, bdm⟩ (by simp)) hmul))) rfl trivial (by simp)) ?_
    refine ⟨by simp [hl], ?_, ?_⟩
    · rw [List.getElem?_set_ne (by decide)]; exact g0
    · rw [List.getElem?_set_self (by simp [hl]), detP_succ, hhd, getD_some hx]
  · subst e
    rw [enumD_len, List.length_map, hwid] at iv
    exact iv.2.2
theorem sum_take_succ {l : List Int} {i : Nat} {x : Int} (h : l[i]? = some x) : (l.take (i + 1)).sum = (l.take i).sum + x := by
  rw [List.take_add_one, h, List.sum_append]; simp
theorem zipWith_at {α β γ : Type} {f : α → β → γ} {l : List α} {m : List β} {i : Nat} {a : α} {b : β} (h1 : l[i]? = some a) (h2 : m[i]? = some b) : (List.zipWith f l m)[i]? = some (f a b) := by
  rw [List.getElem?_zipWith, h1, h2]
abbrev BdL (b : Nat) (l : List Int) : Prop := ∀ x ∈ l, x.natAbs < 2 ^ b
abbrev spLeanBy : Sp := pureG [] 3 (G := Mat × List Int × List Int) (fun g => [matD g.1, rowD g.2.1, rowD g.2.2]) (fun g => Bd 1000 g.1 ∧ BdL 1000 g.2.1 ∧ BdL 1000 g.2.2) (fun g d => d = .int (leanM g.1 g.2.1 g.2.2))
abbrev spSizeBy : Sp := pureG [] 2 (G := Mat × List Int) (fun g => [matD g.1, rowD g.2]) (fun g => Bd 1000 g.1 ∧ BdL 1000 g.2) (fun g d => d = .int (leanM g.1 g.2 g.2))
theorem ok_leanBy (B : Bn mg) {f : Addr} {fd : FuncData} (F : Fun K "lean_by" "lean_by" sLeanBy f fd) : FnOk P w K mg base CX0 1 f fd ["table", "one", "other"] spLeanBy := by
  refine ok_pureG F scLeanBy rfl (by decide) fun cdv A outer s H E hr => ⟨_, pss_cons (ps_set (i := 3) scLeanBy.nd rfl (.inl rfl) pe_int)
    (pss_cons (ps_for PassesOwn.never rfl (piZ K B (pv 0) (pv 1)) (gP' K 4 5 rfl scLeanBy.nd) (pss_one (ps_for PassesOwn.never rfl (piZ K B (pv 4) (pv 2)) (gP' K 6 7 rfl scLeanBy.nd)
      (pss_one (ps_aug (i := 3) scLeanBy.nd rfl (.inl rfl) (pe_op op_mulW (pe_op op_mulW (pv 6) (pv 5)) (pv 7)) ip_add)))))
      (pss_one (ps_ret (pv 3)))), fun p g hT hg => ?_⟩
  obtain ⟨t, x, y⟩ := g
  obtain ⟨bt, bx, by'⟩ := hg
  dsimp only at bt bx by'
  let T : List Int := List.zipWith (fun row a => a * dot row y) t x
  refine rn_set_ ex_int (rn_seq (Nm := fun ρ => ρ[3]? = some (some (.dat (.int (leanM t x y))))) (rn_for (fun ds i ρ => ρ.length = 8 ∧ ρ[2]? = some (some (.dat (rowD y))) ∧ ρ[3]? = some (some (.dat (.int (T.take i).sum))))
    (ii_zipT (ds := t.map rowD) (es := x.map .int) (ex_var rfl) (ex_var rfl)) (fun ds e => ⟨rfl, rfl, rfl⟩) (fun ds i d ρ e hd iv => ?_) (fun ds ρ e iv => ?_)) fun ρ e => rn_ret (ex_var e) rfl)
  · subst e
    obtain ⟨hl, h2, h3⟩ := iv
    obtain ⟨r', a', g1, g2, rfl⟩ := zipD_get hd
    rw [List.getElem?_map] at g1 g2
    obtain ⟨row, hrow, rfl⟩ := Option.map_eq_some_iff.mp g1
    obtain ⟨a, ha, rfl⟩ := Option.map_eq_some_iff.mp g2
    have hTi : T[i]? = some (a * dot row y) := zipWith_at hrow ha
    have brow := bt row (List.mem_of_getElem? hrow)
    have ba := bx a (List.mem_of_getElem? ha)
    refine ⟨_, _, tg_pair tg_name tg_name, ?_⟩
    let L : List Int := List.zipWith (· * ·) row y
    refine rn_for (fun ds j ρ => ρ.length = 8 ∧ ρ[2]? = some (some (.dat (rowD y))) ∧ ρ[5]? = some (some (.dat (.int a))) ∧ ρ[3]? = some (some (.dat (.int ((T.take i).sum + a * (L.take j).sum)))))
      (ii_zipT (ds := row.map .int) (es := y.map .int) (ex_var ?_) (ex_var ?_)) (fun ds e => ⟨by simp [hl], ?_, ?_, ?_⟩) (fun ds j d ρ' e hd iv => ?_) (fun ds ρ' e iv => ?_)
    · rw [List.getElem?_set_ne (by decide), List.getElem?_set_self (by omega)]; rfl
    · rw [List.getElem?_set_ne (by decide), List.getElem?_set_ne (by decide)]; exact h2
    · rw [List.getElem?_set_ne (by decide), List.getElem?_set_ne (by decide)]; exact h2
    · rw [List.getElem?_set_self (by rw [List.length_set]; omega)]
    · rw [List.getElem?_set_ne (by decide), List.getElem?_set_ne (by decide), h3]; simp
    · subst e
      obtain ⟨hl', q2, q5, q3⟩ := iv
      obtain ⟨e', f', g1, g2, rfl⟩ := zipD_get hd
      rw [List.getElem?_map] at g1 g2
      obtain ⟨en, hen, rfl⟩ := Option.map_eq_some_iff.mp g1
      obtain ⟨fa, hfa, rfl⟩ := Option.map_eq_some_iff.mp g2
      have hLj : L[j]? = some (en * fa) := zipWith_at hen hfa
      have be := brow en (List.mem_of_getElem? hen)
      have bf := by' fa (List.mem_of_getElem? hfa)
      refine ⟨_, _, tg_pair tg_name tg_name, ?_⟩
      refine rn_aug (b := en * a * fa) (i := 3) (a := (T.take i).sum + a * (L.take j).sum) ?_ (ed_mulW (ed_mulW (ex_var ?_) (ex_var ?_) (mul_ok be ba)) (ex_var ?_) (mul_ok (wide_lt be ba) bf)) ⟨by simp [hl'], ?_, ?_, ?_⟩
      · rw [List.getElem?_set_ne (by decide), List.getElem?_set_ne (by decide)]; exact q3
      · rw [List.getElem?_set_ne (by decide), List.getElem?_set_self (by omega)]
      · rw [List.getElem?_set_ne (by decide), List.getElem?_set_ne (by decide)]; exact q5
      · rw [List.getElem?_set_self (by rw [List.length_set]; omega)]
      · rw [List.getElem?_set_ne (by decide), List.getElem?_set_ne (by decide), List.getElem?_set_ne (by decide)]; exact q2
      · rw [List.getElem?_set_ne (by decide), List.getElem?_set_ne (by decide), List.getElem?_set_ne (by decide)]; exact q5
      · rw [List.getElem?_set_self (by simp [hl']), sum_take_succ hLj]
        have : (T.take i).sum + a * (L.take j).sum + en * a * fa = (T.take i).sum + a * ((L.take j).sum + en * fa) := by grind
        rw [this]
    · subst e
      obtain ⟨hl', q2, q5, q3⟩ := iv
      refine ⟨hl', q2, ?_⟩
      rw [q3, sum_take_succ hTi, zipD_len, List.length_map, List.length_map, List.take_of_length_le (show L.length ≤ min row.length y.length by rw [List.length_zipWith]; exact Nat.le_refl _)]
      rfl
  · subst e
    rw [zipD_len, List.length_map, List.length_map, List.take_of_length_le (show T.length ≤ min t.length x.length by rw [List.length_zipWith]; exact Nat.le_refl _)] at iv
    exact iv.2.2
theorem ok_sizeBy (B : Bn mg) {f : Addr} {fd : FuncData} (F : Fun K "size_by" "size_by" sSizeBy f fd) (C : Cl P w K mg base "lean_by" ["table", "one", "other"] 1 spLeanBy) : FnOk P w K mg base CX0 2 f fd ["table", "step"] spSizeBy := by
  refine ok_pureG F scSizeBy rfl (by decide) fun cdv A outer s H E hr => ⟨_, pss_one (ps_ret (pCall C hr (by omega) (pa_cons (pv 0) (pa_cons (pv 1) (pa_cons (pv 1) pa_nil))))), fun p g hT hg => ?_⟩
  obtain ⟨t, x⟩ := g
  exact rn_retX (ex_callG (t, x, x) (ea_consD (ex_var rfl) (ea_consD (ex_var rfl) (ea_one (ex_var rfl)))) rfl ⟨hg.1, hg.2, hg.2⟩ (by simp)) fun d h => h
end
end Kz
set_option Elab.async false
set_option linter.all false
set_option maxRecDepth 100000
set_option maxHeartbeats 4000000
namespace Kz
open PySem PySem.Spec PyProof.Rows L2
/-! tables -/
theorem wholes : ∀ {ds : List PyData}, ds.all isWhole = true → ∃ l : List Int, ds = l.map .int
  | [], _ => ⟨[], rfl⟩
  | d :: ds, h => by
    rw [List.all_cons, Bool.and_eq_true] at h
    obtain ⟨l, rfl⟩ := wholes h.2
    cases d with
    | int i => exact ⟨i :: l, rfl⟩
    | _ => cases h.1
theorem wholes_of (l : List Int) : (l.map PyData.int).all isWhole = true := by
  rw [List.all_map]; exact List.all_eq_true.mpr fun _ _ => rfl
theorem isStep_iff {n : Int} {a : PyData} : isStep n a = true ↔ ∃ l : List Int, a = rowD l ∧ (l.length : Int) = n := by
  constructor
  · intro h
    cases a with
    | tuple ds =>
      unfold isStep at h
      rw [Bool.and_eq_true] at h
      obtain ⟨l, rfl⟩ := wholes h.2
      exact ⟨l, rfl, by simpa using h.1⟩
    | _ => cases h
  · rintro ⟨l, rfl, h⟩
    show (decide _ && _) = true
    rw [wholes_of, Bool.and_true, List.length_map]
    exact decide_eq_true h
theorem stepsD {n : Int} : ∀ {ds : List PyData}, ds.all (isStep n) = true → ∃ r : Mat, ds = r.map rowD ∧ ∀ l ∈ r, (l.length : Int) = n
  | [], _ => ⟨[], rfl, by simp⟩
  | d :: ds, h => by
    rw [List.all_cons, Bool.and_eq_true] at h
    obtain ⟨r, rfl, hr⟩ := stepsD h.2
    obtain ⟨l, rfl, hl⟩ := isStep_iff.mp h.1
    exact ⟨l :: r, rfl, fun m hm => (List.mem_cons.mp hm).elim (fun e => by rw [e]; exact hl) (hr m)⟩
theorem isSquare_iff {m : Nat} {a : PyData} : isSquare (m : Int) a = true ↔ ∃ r, a = matD r ∧ Sq m r := by
  constructor
  · intro h
    cases a with
    | tuple ds =>
      unfold isSquare at h
      rw [Bool.and_eq_true] at h
      obtain ⟨r, rfl, hr⟩ := stepsD h.2
      have h1 := h.1
      rw [decide_eq_true_iff, List.length_map] at h1
      exact ⟨r, rfl, by omega, fun l hl => by have := hr l hl; omega⟩
    | _ => cases h
  · rintro ⟨r, rfl, s⟩
    show (decide _ && _) = true
    rw [List.length_map, s.h, decide_eq_true rfl, Bool.true_and, List.all_map]
    exact List.all_eq_true.mpr fun l hl => isStep_iff.mpr ⟨l, rfl, by rw [s.w l hl]⟩
def ent (r : Mat) (i j : Nat) : Int := (r.getD i []).getD j 0
def SymM (r : Mat) : Prop := ∀ i j, ent r i j = ent r j i
def IsTab (a : PyData) : Prop := ∃ m r, a = matD r ∧ Sq m r ∧ 1 ≤ m ∧ m ≤ 3 ∧ SymM r
theorem ent_out {m : Nat} {r : Mat} (s : Sq m r) {i j : Nat} (h : m ≤ i ∨ m ≤ j) : ent r i j = 0 := by
  unfold ent
  by_cases hi : i < r.length
  · have hj : m ≤ j := by have := s.h; omega
    have e : r.getD i [] = r[i] := by rw [List.getD_eq_getElem?_getD, List.getElem?_eq_getElem hi]; rfl
    rw [e, List.getD_eq_getElem?_getD, List.getElem?_eq_none (by rw [s.w _ (List.getElem_mem hi)]; exact hj)]
    rfl
  · have e : r.getD i [] = [] := by rw [List.getD_eq_getElem?_getD, List.getElem?_eq_none (by omega)]; rfl
    rw [e]; rfl
theorem sym_of {m : Nat} {r : Mat} (s : Sq m r) (h : ∀ i j, j < i → i < m → ent r i j = ent r j i) : SymM r := fun i j => by
  by_cases hi : i < m
  · by_cases hj : j < m
    · rcases Nat.lt_trichotomy i j with z | z | z
      · exact (h j i z hj).symm
      · rw [z]
      · exact h i j z hi
    · rw [ent_out s (.inr (by omega)), ent_out s (.inl (by omega))]
  · rw [ent_out s (.inl (by omega)), ent_out s (.inr (by omega))]
theorem rowD_inj {l m : List Int} (h : rowD l = rowD m) : l = m := by
  injection h with h
  exact List.map_inj_right (fun _ _ e => by injection e) |>.mp h
theorem matD_inj {r s : Mat} (h : matD r = matD s) : r = s := by
  injection h with h
  exact List.map_inj_right (fun _ _ e => rowD_inj e) |>.mp h
/-- entry by entry -/
theorem ent_at {m : Nat} {r : Mat} (s : Sq m r) {i j : Nat} (hi : i < m) (hj : j < m) : ∃ row, r[i]? = some row ∧ row[j]? = some (ent r i j) := by
  have hi' : i < r.length := by rw [s.h]; exact hi
  refine ⟨r[i], List.getElem?_eq_getElem hi', ?_⟩
  have hj' : j < r[i].length := by rw [s.w _ (List.getElem_mem hi')]; exact hj
  have e : r.getD i [] = r[i] := by rw [List.getD_eq_getElem?_getD, List.getElem?_eq_getElem hi']; rfl
  unfold ent
  rw [e, List.getElem?_eq_getElem hj', List.getD_eq_getElem?_getD, List.getElem?_eq_getElem hj']
  rfl
section
variable {X : Cx} {e : Expr} {te : TE} {p pos : Pos}
abbrev rRg1 : List V → Hp → VK → Prop := fun vs H Q => ∃ i, vs = [V.int i] ∧ ∀ p, H p = none → Q (.ref p) (upd H p (.rng 0 i))
theorem pRange (B : Bn X.mg) (h : PE X e te) (hg : Gl X "range" := by rfl) (he : starEach [e] X.env = (false, eval e X.env) :: starEach [] X.env := by rfl) : PE X (.Call (.Name "range" p) [e] [] pos) (tCB rRg1 (tCons te tNil)) :=
  pe_callTy cr_range1 hg B.range (by decide +kernel) (pa_cons h pa_nil he) (by decide) (by decide) he
end
theorem rngD_get {lo : Int} {n i : Nat} {d : PyData} (h : (rngD lo n)[i]? = some d) : i < n ∧ d = .int (lo + i) := by
  unfold rngD at h
  rw [List.getElem?_map] at h
  obtain ⟨k, hk, rfl⟩ := Option.map_eq_some_iff.mp h
  obtain ⟨h1, h2⟩ := List.getElem?_eq_some_iff.mp hk
  rw [List.length_range] at h1
  rw [List.getElem_range] at h2
  exact ⟨h1, by rw [h2]⟩
theorem rngD_len (lo : Int) (n : Nat) : (rngD lo n).length = n := by unfold rngD; rw [List.length_map, List.length_range]
theorem Bc.imp {p : Pm} {r : List V → Hp → VK → Prop} {ds : List PyData} {P P' : PyData → Prop} (h : Bc p r ds P) (i : ∀ d, P d → P' d) : Bc p r ds P' := fun H0 O σ ρ H vs e hv Q q => h H0 O σ ρ H vs e hv Q fun v H2 f k o d pf => q v H2 f k o d (i f pf)
section
variable {P : Program} {w : World} {K : PySem.W.Frag} {mg : Str → Option Value} {base : Heap}
abbrev sTable : Stmt := topS 19
theorem scTable : FnScope ["thing", "places", "i", "j"] ["thing"] (defScope sTable) := ⟨rfl, rfl, rfl, by decide +kernel, rfl, by decide +kernel, by decide +kernel⟩
abbrev spTable (Ts : List Addr) : Sp := pureG Ts 1 (G := PyData) (fun a => [a]) (fun _ => True) (fun a d => ∃ b, d = .bool b ∧ (b = true ↔ IsTab a))
theorem not_tab {a : PyData} (h : ¬ IsTab a) : ∃ b, PyData.bool false = .bool b ∧ (b = true ↔ IsTab a) := ⟨false, rfl, by simp [h]⟩
theorem ok_table (B : Bn mg) {f P1 P2 : Addr} {fd : FuncData} (F : Fun K "is_table" "is_table" sTable f fd) (C : Cl P w K mg base "is_square" ["n", "thing"] 7 (spSquare [P1, P2])) : FnOk P w K mg base CX0 8 f fd ["thing"] (spTable [P1, P2]) := by
  refine ok_pureG F scTable rfl (by decide) fun cdv A outer s H E hr => ⟨_, pss_cons (ps_if (PW.pt (pw_or (pt_not (pt_val (pIsi B (pv 0) (nTuple B)))) (pw_or1 (pt_cmpR op_notIn_seq (pLen B (pv 0)) (pe_tup (pa_cons pe_int (pa_cons pe_int (pa_cons pe_int pa_nil)))) rfl)))) (pss_one (ps_ret pe_bl)) pss_nil)
    (pss_cons (ps_if (pt_not (pt_val (pCall C hr (by decide) (pa_cons (pLen B (pv 0)) (pa_cons (pv 0) pa_nil))))) (pss_one (ps_ret pe_bl)) pss_nil)
      (pss_cons (ps_set (i := 1) scTable.nd rfl (.inl rfl) (pRange B (pLen B (pv 0))))
        (pss_one (ps_ret (pAllL B rfl (pe_lc2 (own := [("i", 2), ("j", 3)]) (vs1 := [3]) rfl scTable.nd (pi_rv (pv 1)) (blkOk_by (own := [("i", 2), ("j", 3)]) (N := ["thing", "places", "i", "j"]) (sc := defScope sTable) (by decide +kernel)) (by decide)
          (fun _ _ _ _ _ => gN 2 scTable.nd) (fun _ _ _ _ _ => pts_nil) (fun _ _ _ _ _ => piR B (pv 2)) (fun _ _ _ _ _ => gN 3 scTable.nd) (fun _ _ _ _ _ => pts_nil)
          (fun _ _ _ _ _ => pe_cmpR op_eq (pe_ix (ixT K) (pe_ix (ixT K) (pv 0) (pv 2) (fun _ _ => rfl)) (pv 3) (fun _ _ => rfl)) (pe_ix (ixT K) (pe_ix (ixT K) (pv 0) (pv 3) (fun _ _ => rfl)) (pv 2) (fun _ _ => rfl)) (nomark _)))))))), fun p a hT hg => ?_⟩
  rcases (Bool.eq_false_or_eq_true (isTupB a)).symm with hf | ht
  · refine rn_when_ (t := true) (et_or (a := true) (b := true) ((et_notTup (ex_var (d := a) rfl) er_c).imp fun b e => by rw [e, hf]; rfl) fun e => by cases e) (fun _ => rn_ret_ ex_bool (not_tab fun ⟨m, r, e, _⟩ => ?_)) fun e => by cases e
    rw [e] at hf
    cases hf
  obtain ⟨es, rfl⟩ : ∃ es, a = .tuple es := by
    cases a <;> first | exact ⟨_, rfl⟩ | cases ht
  have v0 : Ed p (tVar 0) (startR ["thing", "places", "i", "j"] [.tuple es]) (.tuple es) := ex_var rfl
  refine rn_when_ (et_or (a := false) (et_notTup v0 er_c) fun _ => et_test (ed_inI (ns := [1, 2, 3]) (ed_cb (ea_one v0) (bc_len (.t es))) (ed_tup (ea_consD ex_int (ea_consD ex_int (ea_one ex_int)))))) (fun e => rn_ret_ ex_bool (not_tab fun ⟨m, r, e2, s, h1, h2, _⟩ => ?_)) fun e => ?_
  · have : es.length = m := by
      injection e2 with e2
      rw [e2, List.length_map, s.h]
    have h3 : m = 1 ∨ m = 2 ∨ m = 3 := by omega
    rw [this] at e
    rcases h3 with rfl | rfl | rfl <;> simp at e
  have hlen : 1 ≤ es.length ∧ es.length ≤ 3 := by
    simp at e
    omega
  refine rn_when_ (t := !isSquare (es.length : Int) (.tuple es)) (et_notD (et_testX (ex_call (Pa := (· = [.int (es.length : Int), .tuple es])) (ea_consD (ed_cb (ea_one v0) (bc_len (.t es))) (ea_one v0)) (fun l e => by rw [e]; exact ⟨rfl, _, _, rfl⟩) (fun Q hQ => hT Q hQ)) fun d ⟨l, e, h⟩ => ⟨_, h _ _ e, rfl⟩)) (fun e => rn_ret_ ex_bool (not_tab fun ⟨m, r, e2, s, _⟩ => ?_)) fun e => ?_
  · have h3 : es.length = m := by
      injection e2 with e2
      rw [e2, List.length_map, s.h]
    have h4 := isSquare_iff.mpr ⟨r, rfl, s⟩
    rw [← e2, ← h3] at h4
    rw [h4] at e
    cases e
  obtain ⟨r, er, s⟩ := isSquare_iff.mp (show isSquare (es.length : Int) (.tuple es) = true by simpa using e)
  rw [er] at v0 ⊢
  generalize es.length = m at *
  refine rn_seq (Nm := fun ρ => ρ = (startR ["thing", "places", "i", "j"] [matD r]).set 1 (some (.rng 0 (m : Int)))) (rn_rng (ea_one (ed_cb (ea_one (ex_var (d := matD r) rfl)) ((bc_len (.t _)) ))) (by rw [List.length_map, s.h]; exact rng1_sp) rfl) fun ρ e => ?_
  subst e
  refine rn_retX (ex_cb (P := fun d => ∃ b, d = .bool b ∧ (b = true ↔ IsTab (matD r))) (ea_oneX (ex_lc2 (Pi := (· = rngD 0 m)) (P := fun d => ∃ bs : List Bool, d = .list (bs.map .bool) ∧ (bs.all id = true ↔ SymM r)) (fun ds i es => ∃ bs : List Bool, es = bs.map .bool ∧ es.length ≤ i * 3 ∧ (bs.all id = true ↔ ∀ i' j', j' < i' → i' < i → ent r i' j' = ent r j' i'))
    ((ii_rv (lo := 0) (hi := (m : Int)) rfl (by omega))) (fun ds e => ⟨[], rfl, by simp, by simp⟩) (fun ds i d es hds hd iv => ?_) (fun ds es hds iv => ?_))) ?_) (fun d h => h)
  · subst hds
    obtain ⟨hi, rfl⟩ := rngD_get hd
    obtain ⟨bs, rfl, hbl, hb⟩ := iv
    have ei : (0 : Int) + (i : Int) = (i : Int) := by omega
    rw [ei]
    refine ⟨[2], _, rngD 0 (i : Int).toNat, fun j fs => ∃ bs : List Bool, fs = bs.map .bool ∧ fs.length ≤ i * 3 + j ∧ j ≤ i ∧ (bs.all id = true ↔ (∀ i' j', j' < i' → i' < i → ent r i' j' = ent r j' i') ∧ ∀ j', j' < j → ent r i j' = ent r j' i), by simp, tg_name, fun k fs => ?_, ii_rng1 (ex_var rfl) (by omega), ⟨bs, rfl, by omega, Nat.zero_le _, by simp [hb]⟩, fun j es iv => by obtain ⟨_, _, q, _⟩ := iv; omega, fun j e fs hj iv1 => ?_, fun fs iv1 => ?_⟩
    · match k with
      | 0 => exact fun z => by cases z
      | 1 => exact fun z => by cases z
      | 2 => exact fun z => by cases z
      | 3 => exact fun z => by cases z
      | k + 4 => exact fun z => by cases z
    · obtain ⟨hj', rfl⟩ := rngD_get hj
      obtain ⟨cs, rfl, hcl, hji, hc⟩ := iv1
      have hjlt : j < i := by simpa using hj'
      have ej : (0 : Int) + (j : Int) = (j : Int) := by omega
      rw [ej]
      obtain ⟨ra, hra, hra2⟩ := ent_at s (i := i) (j := j) (by omega) (by omega)
      obtain ⟨rb, hrb, hrb2⟩ := ent_at s (i := j) (j := i) (by omega) (by omega)
      refine ⟨[3], _, (· = true), by simp, tg_name, fun H0 O σ H e Q q => q true H (Kq.refl H) e.ok rfl, fun _ => ?_, fun z => by cases z⟩
      refine (ed_eqI (ed_ixT (ds := ra.map .int) (i := (j : Int)) (ed_ixT (ds := r.map rowD) (i := (i : Int)) (ex_var rfl) (ex_var rfl) (matD_at hra)) (ex_var rfl) (rowD_at hra2)) (ed_ixT (ds := rb.map .int) (i := (i : Int)) (ed_ixT (ds := r.map rowD) (i := (j : Int)) (ex_var rfl) (ex_var rfl) (matD_at hrb)) (ex_var rfl) (rowD_at hrb2))).imp fun x hx => ?_
      refine ⟨cs ++ [decide (ent r i j = ent r j i)], by rw [hx]; simp, by simp at hcl ⊢; omega, hjlt, ?_⟩
      rw [List.all_append, Bool.and_eq_true, hc]
      constructor
      · rintro ⟨⟨q1, q2⟩, q3⟩
        refine ⟨q1, fun j' hj' => ?_⟩
        rcases Nat.lt_succ_iff_lt_or_eq.mp hj' with z | z
        · exact q2 j' z
        · rw [z]; simpa using q3
      · rintro ⟨q1, q2⟩
        exact ⟨⟨q1, fun j' z => q2 j' (by omega)⟩, by simpa using q2 j (by omega)⟩
    · obtain ⟨cs, rfl, hcl, hji, hc⟩ := iv1
      rw [rngD_len] at hcl hc
      refine ⟨cs, rfl, by simp at hcl ⊢; omega, hc.trans ⟨?_, ?_⟩⟩
      · rintro ⟨q1, q2⟩ i' j' h1 h2
        rcases Nat.lt_succ_iff_lt_or_eq.mp h2 with z | z
        · exact q1 i' j' h1 z
        · subst z; exact q2 j' (by simpa using h1)
      · exact fun q => ⟨fun i' j' h1 h2 => q i' j' h1 (by omega), fun j' h => q i j' (by simpa using h) (by omega)⟩
  · subst hds
    obtain ⟨bs, rfl, _, hb⟩ := iv
    rw [rngD_len] at hb
    exact ⟨bs, rfl, hb.trans ⟨fun q => sym_of s fun i j h1 h2 => q i j h1 h2, fun q i j _ _ => q i j⟩⟩
  · rintro ds ⟨d, rfl, bs, rfl, hb⟩
    exact bc_all.imp fun x hx => ⟨_, hx, hb.trans ⟨fun q => ⟨m, r, rfl, s, hlen.1, hlen.2, q⟩, fun ⟨m', r', e, _, _, _, q⟩ => by rw [matD_inj e]; exact q⟩⟩
end
end Kz
set_option Elab.async false
set_option linter.all false
set_option maxRecDepth 100000
set_option maxHeartbeats 4000000
namespace Kz
open PySem PySem.Spec PyProof.Rows L2
def lead (r : Mat) (k : Nat) : Mat := (r.take k).map fun l => l.take k
structure FormM (m : Nat) (r : Mat) : Prop where
  s : Sq m r
  lo : 1 ≤ m
  hi : m ≤ 3
  sym : SymM r
  pos : ∀ k, 1 ≤ k → k ≤ m → 0 < detE (lead r k)
theorem sq_lead {m k : Nat} {r : Mat} (s : Sq m r) (h : k ≤ m) : Sq k (lead r k) := by
  refine ⟨?_, fun l hl => ?_⟩
  · unfold lead
    rw [List.length_map, List.length_take, s.h]
    omega
  · unfold lead at hl
    obtain ⟨l', h', rfl⟩ := List.mem_map.mp hl
    rw [List.length_take, s.w l' (List.mem_of_mem_take h')]
    omega
theorem bd_lead {b k : Nat} {r : Mat} (h : Bd b r) : Bd b (lead r k) := fun l hl x hx => by
  unfold lead at hl
  obtain ⟨l', h', rfl⟩ := List.mem_map.mp hl
  exact h l' (List.mem_of_mem_take h') x (List.mem_of_mem_take hx)
theorem lead_data {r : Mat} {k : Nat} : PyData.tuple ((lead r k).map rowD) = matD (lead r k) := rfl
section
variable {P : Program} {w : World} {K : PySem.W.Frag} {mg : Str → Option Value} {base : Heap}
abbrev spDetA : Sp := pureG [] 1 (G := Mat) (fun r => [matD r]) (fun r => (∃ m, m ≤ 3 ∧ Sq m r) ∧ Bd 1000 r) (fun r d => d = .int (detE r))
theorem ok_det (B : Bn mg) (D : Df K mg "determinant" ["rows"] sDet) (Cw : Cl P w K mg base "without" ["rows", "down", "across"] 1 spWithout) (Cs : Cl P w K mg base "signed" ["place", "number"] 1 spSigned) : FnOk P w K mg base CX0 4 D.f D.fd ["rows"] spDetA := by
  have g0 : FnOk P w K mg base CX0 1 D.f D.fd ["rows"] (spDet 0) := ok_det0 B D.F
  have g1 : FnOk P w K mg base CX0 2 D.f D.fd ["rows"] (spDet 1) := ok_detS (m := 0) (k := 0) B (by decide) D.F Cw Cs (D.cl g0)
  have g2 : FnOk P w K mg base CX0 3 D.f D.fd ["rows"] (spDet 2) := ok_detS (m := 1) (k := 1) B (by decide) D.F Cw Cs (D.cl g1)
  have g3 : FnOk P w K mg base CX0 4 D.f D.fd ["rows"] (spDet 3) := ok_detS (m := 2) (k := 2) B (by decide) D.F Cw Cs (D.cl g2)
  refine ⟨fun vs H Q E ⟨r, _, h⟩ => h.1, fun A outer s H args us vs Q E hr he hb hv ⟨r, ⟨⟨m, hm, sq⟩, bd⟩, h⟩ => ?_⟩
  match m, hm, sq with
  | 0, _, sq => exact g0.run A outer s H args us vs Q E (hr.mono (by decide)) he hb hv ⟨r, ⟨sq, bd⟩, h⟩
  | 1, _, sq => exact g1.run A outer s H args us vs Q E (hr.mono (by decide)) he hb hv ⟨r, ⟨sq, bd⟩, h⟩
  | 2, _, sq => exact g2.run A outer s H args us vs Q E (hr.mono (by decide)) he hb hv ⟨r, ⟨sq, bd⟩, h⟩
  | 3, _, sq => exact g3.run A outer s H args us vs Q E hr he hb hv ⟨r, ⟨sq, bd⟩, h⟩
abbrev sIsForm : Stmt := topS 20
abbrev sLean : Stmt := topS 21
abbrev sSize : Stmt := topS 22
abbrev sLow : Stmt := topS 27
abbrev sNeedF : Stmt := topS 28
abbrev sNeedS : Stmt := topS 29
theorem scIsForm : FnScope ["thing"] ["thing"] (defScope sIsForm) := ⟨rfl, rfl, rfl, by decide +kernel, rfl, by decide +kernel, by decide +kernel⟩
theorem scLean : FnScope ["form", "one", "other"] ["form", "one", "other"] (defScope sLean) := ⟨rfl, rfl, rfl, by decide +kernel, rfl, by decide +kernel, by decide +kernel⟩
theorem scSize : FnScope ["form", "step"] ["form", "step"] (defScope sSize) := ⟨rfl, rfl, rfl, by decide +kernel, rfl, by decide +kernel, by decide +kernel⟩
theorem scLow : FnScope ["table", "many", "leading", "row"] ["table"] (defScope sLow) := ⟨rfl, rfl, rfl, by decide +kernel, rfl, by decide +kernel, by decide +kernel⟩
theorem scNeedF : FnScope ["thing"] ["thing"] (defScope sNeedF) := ⟨rfl, rfl, rfl, by decide +kernel, rfl, by decide +kernel, by decide +kernel⟩
theorem scNeedS : FnScope ["n", "thing"] ["n", "thing"] (defScope sNeedS) := ⟨rfl, rfl, rfl, by decide +kernel, rfl, by decide +kernel, by decide +kernel⟩
/-- a form of n with integers below 2 ^ 1000 -/
abbrev OkF (g : Nat × Mat) : Prop := FormM g.1 g.2 ∧ Bd 1000 g.2
abbrev spLow : Sp := pureG [] 1 (G := Nat × Mat) (fun g => [matD g.2]) OkF (fun _ d => d = .none)
abbrev spIsForm (Ts : List Addr) : Sp := pureG Ts 1 (G := Nat × Mat) (fun g => [matD g.2]) OkF (fun _ d => d = .bool true)
abbrev spNeedF (Ts : List Addr) : Sp := pureG Ts 1 (G := Nat × Mat) (fun g => [matD g.2]) OkF (fun _ d => d = .none)
abbrev spNeedS (Ts : List Addr) : Sp := pureG Ts 2 (G := List Int) (fun l => [.int (l.length : Int), rowD l]) (fun _ => True) (fun _ d => d = .none)
abbrev OkL (g : Nat × Mat × List Int × List Int) : Prop := OkF (g.1, g.2.1) ∧ g.2.2.1.length = g.1 ∧ BdL 1000 g.2.2.1 ∧ g.2.2.2.length = g.1 ∧ BdL 1000 g.2.2.2
abbrev spLean (Ts : List Addr) : Sp := pureG Ts 3 (G := Nat × Mat × List Int × List Int) (fun g => [matD g.2.1, rowD g.2.2.1, rowD g.2.2.2]) OkL (fun g d => d = .int (leanM g.2.1 g.2.2.1 g.2.2.2))
abbrev OkS (g : Nat × Mat × List Int) : Prop := OkF (g.1, g.2.1) ∧ g.2.2.length = g.1 ∧ BdL 1000 g.2.2
abbrev spSize (Ts : List Addr) : Sp := pureG Ts 2 (G := Nat × Mat × List Int) (fun g => [matD g.2.1, rowD g.2.2]) OkS (fun g d => d = .int (leanM g.2.1 g.2.2 g.2.2))
theorem ok_low (B : Bn mg) {f : Addr} {fd : FuncData} (F : Fun K "low_step" "low_step" sLow f fd) (C : Cl P w K mg base "determinant" ["rows"] 4 spDetA) : FnOk P w K mg base CX0 5 f fd ["table"] spLow := by
  refine ok_pureG F scLow rfl (by decide) fun cdv A outer s H E hr => ⟨_, pss_cons (ps_for PassesOwn.never rfl (piR2 B pe_int (pe_op op_add (pLen B (pv 0)) pe_int)) (gN 1 scLow.nd)
    (pss_cons (ps_set (i := 2) scLow.nd rfl (.inl rfl) (pTuple B (pe_lc (own := [("row", 3)]) rfl scLow.nd (piT K (pe_slice (slA K) (pv 0) po_none (po_some (pv 1)))) (blkOk_by (own := [("row", 3)]) (N := ["table", "many", "leading", "row"]) (sc := defScope sLow) (by decide +kernel)) (fun _ _ _ _ _ => gN 3 scLow.nd) (fun _ _ _ _ _ => pts_nil)
      (fun _ _ _ _ _ => pe_slice (slA K) (pv 3) po_none (po_some (pv 1))))))
      (pss_one (ps_if (pt_cmpR op_le (pCall C hr (by decide) (pa_cons (pv 2) pa_nil)) pe_int (nomark _)) pss_never pss_nil)))) (pss_one (ps_ret pe_non)), fun p g hT hg => ?_⟩
  obtain ⟨m, r⟩ := g
  obtain ⟨fm, bd⟩ := hg
  dsimp only at fm bd
  refine rn_seq (Nm := fun ρ => True) (rn_for (fun ds i ρ => ρ.length = 4 ∧ ρ[0]? = some (some (.dat (matD r)))) ((ii_rng2 ex_int (ed_add (i := (m : Int)) (Ed.cast (ed_cb (ea_one (ex_var (d := matD r) rfl)) (bc_len (.t _))) (by rw [List.length_map, fm.s.h])) ex_int) (by have := fm.hi; omega))) (fun ds e => ⟨rfl, rfl⟩) (fun ds i d ρ e hd iv => ?_) (fun ds ρ e iv => trivial)) fun ρ _ => rn_ret ex_none rfl
  subst e
  obtain ⟨hl, h0⟩ := iv
  obtain ⟨hi, rfl⟩ := rngD_get hd
  have ek : (1 : Int) + (i : Int) = ((i + 1 : Nat) : Int) := by omega
  rw [ek]
  have hk : i + 1 ≤ m := by omega
  generalize i + 1 = k at *
  refine ⟨_, _, tg_name, ?_⟩
  have h0' : (ρ.set 1 (some (.dat (.int (k : Int)))))[0]? = some (some (.dat (matD r))) := by rw [List.getElem?_set_ne (by decide)]; exact h0
  have h1' : (ρ.set 1 (some (.dat (.int (k : Int)))))[1]? = some (some (.dat (.int (k : Int)))) := by rw [List.getElem?_set_self (by omega)]
  refine rn_set_ (d := matD (lead r k)) (ed_cb (ea_one (ed_lcM ((lead r k).map rowD) (ii_tup ((ed_slT (ds := r.map rowD) (ex_var h0') eo_no (eo_part (i := (k : Int)) (ex_var h1'))).cast (by rw [cutD_to, ← List.map_take]))) (by unfold lead; simp) (by simp [fm.s.h]; have := fm.hi; omega) fun j d e hd he => ?_)) (bc_tuple (.l _))) ?_
  · unfold lead at he
    rw [List.map_map, List.getElem?_map] at he
    rw [List.getElem?_map] at hd
    obtain ⟨l, hl', rfl⟩ := Option.map_eq_some_iff.mp hd
    rw [hl'] at he
    cases he
    refine ⟨[3], _, fun j hj => hj, tg_name, (ed_slT (ds := l.map .int) (ex_var (by rw [List.getElem?_set_self (by rw [wipeR_len, List.length_set]; omega)]; rfl)) eo_no (eo_part (i := (k : Int)) (ex_var ?_))).cast ?_⟩
    · rw [List.getElem?_set_ne (by decide)]
      show (wipeR _ [3])[1]? = _
      unfold wipeR
      rw [List.getElem?_set_ne (by decide)]
      exact h1'
    · rw [cutD_to, ← List.map_take]; rfl
  · have okk : (∃ m, m ≤ 3 ∧ Sq m (lead r k)) ∧ Bd 1000 (lead r k) := ⟨⟨k, by have := fm.hi; omega, sq_lead fm.s hk⟩, bd_lead bd⟩
    have h2' : ((ρ.set 1 (some (.dat (.int (k : Int))))).set 2 (some (.dat (matD (lead r k)))))[2]? = some (some (.dat (matD (lead r k)))) := by rw [List.getElem?_set_self (by rw [List.length_set]; omega)]
    refine rn_if (t := false) (et_test (Ed.cast (ed_cmp (i := detE (lead r k)) (ed_callG (lead r k) (ea_one (ex_var h2')) rfl okk (by simp) fun d h => h) ex_int) ?_)) (fun e => by cases e) fun _ => rn_next ⟨by simp [hl], ?_⟩
    · have := fm.pos k (by omega) hk
      congr 1
      exact decide_eq_false (by omega)
    · rw [List.getElem?_set_ne (by decide)]; exact h0'
theorem tab_form {m : Nat} {r : Mat} (h : FormM m r) : IsTab (matD r) := ⟨m, r, rfl, h.s, h.lo, h.hi, h.sym⟩
theorem ok_isForm (B : Bn mg) {f P1 P2 : Addr} {fd : FuncData} (F : Fun K "is_form" "is_form" sIsForm f fd) (C : Cl P w K mg base "is_table" ["thing"] 8 (spTable [P1, P2])) (C2 : Cl P w K mg base "low_step" ["table"] 5 spLow) : FnOk P w K mg base CX0 9 f fd ["thing"] (spIsForm [P1, P2]) := by
  refine ok_pureG F scIsForm rfl (by decide) fun cdv A outer s H E hr => ⟨_, pss_one (ps_ret (pe_and (pCall C hr (by decide) (pa_cons (pv 0) pa_nil)) (pe_one (pe_cmp (pc_isN (pCall C2 hr (by decide) (pa_cons (pv 0) pa_nil))))))), fun p g hT hg => ?_⟩
  obtain ⟨m, r⟩ := g
  refine rn_ret (d := .bool true) (ed_andV (a := true) (ed_callG (matD r) (ea_one (ex_var rfl)) rfl trivial hT fun d ⟨b, e, h⟩ => by rw [e, h.mpr (tab_form hg.1)]) (fun _ => ed_isN (ex_callG (m, r) (ea_one (ex_var rfl)) rfl hg (by simp)) rfl) (fun e => by cases e)) rfl
theorem ok_needF (B : Bn mg) {f P1 P2 : Addr} {fd : FuncData} (F : Fun K "need_form" "need_form" sNeedF f fd) (C : Cl P w K mg base "is_form" ["thing"] 9 (spIsForm [P1, P2])) : FnOk P w K mg base CX0 10 f fd ["thing"] (spNeedF [P1, P2]) := by
  refine ok_pureG F scNeedF rfl (by decide) fun cdv A outer s H E hr => ⟨_, pss_one (ps_if (pt_not (pt_val (pCall C hr (by decide) (pa_cons (pv 0) pa_nil)))) pss_never pss_nil), fun p g hT hg => ?_⟩
  exact rn_if (t := false) (et_notD (b := true) (et_test (ex_callG g (ea_one (ex_var rfl)) rfl hg hT))) (fun e => by cases e) fun _ => rn_next rfl
theorem ok_needS (B : Bn mg) {f P1 : Addr} {fd : FuncData} (F : Fun K "need_step" "need_step" sNeedS f fd) (C : Cl P w K mg base "is_step" ["n", "thing"] 4 (spStep [P1])) : FnOk P w K mg base CX0 5 f fd ["n", "thing"] (spNeedS [P1]) := by
  refine ok_pureG F scNeedS rfl (by decide) fun cdv A outer s H E hr => ⟨_, pss_one (ps_if (pt_not (pt_val (pCall C hr (by decide) (pa_cons (pv 0) (pa_cons (pv 1) pa_nil))))) pss_never pss_nil), fun p l hT hg => ?_⟩
  refine rn_if (t := false) (et_notD (b := true) (et_testX (ex_call (Pa := (· = [.int (l.length : Int), rowD l])) (ea_consD (ex_var rfl) (ea_one (ex_var rfl))) (fun l' e => by rw [e]; exact ⟨rfl, _, _, rfl⟩) (fun Q hQ => hT Q hQ)) fun d ⟨l', e, h⟩ => ⟨_, h _ _ e, ?_⟩)) (fun e => by cases e) fun _ => rn_next rfl
  exact isStep_iff.mpr ⟨l, rfl, rfl⟩
theorem ok_lean (B : Bn mg) {f P1 P2 : Addr} {fd : FuncData} (F : Fun K "lean" "lean" sLean f fd) (C : Cl P w K mg base "need_form" ["thing"] 10 (spNeedF [P1, P2])) (C2 : Cl P w K mg base "need_step" ["n", "thing"] 5 (spNeedS [P1])) (C3 : Cl P w K mg base "lean_by" ["table", "one", "other"] 1 spLeanBy) : FnOk P w K mg base CX0 11 f fd ["form", "one", "other"] (spLean [P1, P2]) := by
  refine ok_pureG F scLean rfl (by decide) fun cdv A outer s H E hr => ⟨_, pss_cons (ps_expr (pCall C hr (by decide) (pa_cons (pv 0) pa_nil))) (pss_cons (ps_expr (pCall C2 hr (by decide) (pa_cons (pLen B (pv 0)) (pa_cons (pv 1) pa_nil)))) (pss_cons (ps_expr (pCall C2 hr (by decide) (pa_cons (pLen B (pv 0)) (pa_cons (pv 2) pa_nil))))
    (pss_one (ps_ret (pCall C3 hr (by decide) (pa_cons (pv 0) (pa_cons (pv 1) (pa_cons (pv 2) pa_nil)))))))), fun p g hT hg => ?_⟩
  obtain ⟨m, r, x, y⟩ := g
  obtain ⟨h1, h2, h3, h4, h5⟩ := hg
  dsimp only at h1 h2 h3 h4 h5
  have hT1 : ∀ Q ∈ [P1], Q ∈ p.Ts := fun Q hQ => hT Q (by simp at hQ; simp [hQ])
  have hln : Ed p (tCB (rLn K) (tCons (tVar 0) tNil)) (startR ["form", "one", "other"] [matD r, rowD x, rowD y]) (.int (m : Int)) := Ed.cast (ed_cb (ea_one (ex_var (d := matD r) rfl)) (bc_len (.t _))) (by rw [List.length_map, h1.1.s.h])
  refine rn_seq (Nm := fun ρ => ρ = _) (rn_drop (ex_callG (m, r) (ea_one (ex_var rfl)) rfl h1 hT) rfl) fun ρ e => ?_
  subst e
  refine rn_seq (Nm := fun ρ => ρ = _) (rn_drop (ex_callG x (ea_consD (hln.cast (by rw [h2])) (ea_one (ex_var rfl))) rfl trivial hT1) rfl) fun ρ e => ?_
  subst e
  refine rn_seq (Nm := fun ρ => ρ = _) (rn_drop (ex_callG y (ea_consD (hln.cast (by rw [h4])) (ea_one (ex_var rfl))) rfl trivial hT1) rfl) fun ρ e => ?_
  subst e
  exact rn_ret (ex_callG (r, x, y) (ea_consD (ex_var rfl) (ea_consD (ex_var rfl) (ea_one (ex_var rfl)))) rfl ⟨h1.2, h3, h5⟩ (by simp)) rfl
theorem ok_size (B : Bn mg) {f P1 P2 : Addr} {fd : FuncData} (F : Fun K "size" "size" sSize f fd) (C : Cl P w K mg base "need_form" ["thing"] 10 (spNeedF [P1, P2])) (C2 : Cl P w K mg base "need_step" ["n", "thing"] 5 (spNeedS [P1])) (C3 : Cl P w K mg base "size_by" ["table", "step"] 2 spSizeBy) : FnOk P w K mg base CX0 11 f fd ["form", "step"] (spSize [P1, P2]) := by
  refine ok_pureG F scSize rfl (by decide) fun cdv A outer s H E hr => ⟨_, pss_cons (ps_expr (pCall C hr (by decide) (pa_cons (pv 0) pa_nil))) (pss_cons (ps_expr (pCall C2 hr (by decide) (pa_cons (pLen B (pv 0)) (pa_cons (pv 1) pa_nil))))
    (pss_one (ps_ret (pCall C3 hr (by decide) (pa_cons (pv 0) (pa_cons (pv 1) pa_nil)))))), fun p g hT hg => ?_⟩
  obtain ⟨m, r, x⟩ := g
  obtain ⟨h1, h2, h3⟩ := hg
  dsimp only at h1 h2 h3
  have hT1 : ∀ Q ∈ [P1], Q ∈ p.Ts := fun Q hQ => hT Q (by simp at hQ; simp [hQ])
  have hln : Ed p (tCB (rLn K) (tCons (tVar 0) tNil)) (startR ["form", "step"] [matD r, rowD x]) (.int (m : Int)) := Ed.cast (ed_cb (ea_one (ex_var (d := matD r) rfl)) (bc_len (.t _))) (by rw [List.length_map, h1.1.s.h])
  refine rn_seq (Nm := fun ρ => ρ = _) (rn_drop (ex_callG (m, r) (ea_one (ex_var rfl)) rfl h1 hT) rfl) fun ρ e => ?_
  subst e
  refine rn_seq (Nm := fun ρ => ρ = _) (rn_drop (ex_callG x (ea_consD (hln.cast (by rw [h2])) (ea_one (ex_var rfl))) rfl trivial hT1) rfl) fun ρ e => ?_
  subst e
  exact rn_ret (ex_callG (r, x) (ea_consD (ex_var rfl) (ea_one (ex_var rfl))) rfl ⟨h1.2, h3⟩ (by simp)) rfl
end
end Kz
set_option Elab.async false
set_option linter.all false
set_option maxRecDepth 100000
set_option maxHeartbeats 4000000
/-! Kz: the deck -/
namespace Kz
open PySem PySem.Spec PyProof.Rows L2
abbrev kC : Key := .inr "cells"
abbrev kM : Key := .inr "mixed"
abbrev kD : Key := .inr "draws"
def DkOk (dk cl : Addr) (H : Hp) : Prop := ∃ (ns : List Int) (m d : Int), H dk = some (.dK [(kC, .ref cl), (kM, .int m), (kD, .int d)]) ∧ H cl = some (.lst (ns.map .int)) ∧ ns.length ≤ 64
def Zd (dk cl : Addr) : Addr → Prop := fun a => a = dk ∨ a = cl
def dPm (S : Addr → Prop) (dk cl : Addr) (h1 : S dk) (h2 : S cl) (Ts : List Addr) : Pm := ⟨S, Zd dk cl, DkOk dk cl, Ts, fun a z => z.elim (fun e => e ▸ h1) (fun e => e ▸ h2),
  fun H H' ⟨ns, m, d, e1, e2, l⟩ hk => ⟨ns, m, d, by rw [hk dk h1]; exact e1, by rw [hk cl h2]; exact e2, l⟩⟩
/-- a def with the deck as its first parameter -/
def deckSp (Ts : List Addr) (n : Nat) {G : Type} (enc : G → List PyData) (ok : G → Prop) (R : G → PyData → Prop) : Sp := fun vs H Q _ => ∃ (g : G) (dk cl : Addr) (ws : List V), ok g ∧ vs = .ref dk :: ws ∧ ws.length = n ∧
  ∃ (S : Addr → Prop) (h1 : S dk) (h2 : S cl), Ok (dPm S dk cl h1 h2 Ts) H ∧ DvL S H ws (enc g) ∧ ∀ v H' d, Kq (Zd dk cl) H H' → Ok (dPm S dk cl h1 h2 Ts) H' → Dv S H' v d → R g d → Q v H'
section
variable {S : Addr → Prop} {dk cl : Addr} {h1 : S dk} {h2 : S cl} {Ts' : List Addr} {ρ : Rho} {G : Type} {enc : G → List PyData} {ok : G → Prop} {R : G → PyData → Prop}
theorem ex_callD {Ts : List Addr} {n i : Nat} {E : XK} {t : TA} (g : G) (hd : ρ[i]? = some (some (.raw (.ref dk)))) (h : Ea (dPm S dk cl h1 h2 Ts') t ρ (· = enc g)) (hl : (enc g).length = n) (hg : ok g) (hT : ∀ P ∈ Ts, P ∈ Ts') :
    Ex (dPm S dk cl h1 h2 Ts') (tCall (deckSp Ts n enc ok R) [] E (tCons (tVar i) t)) ρ (R g) := fun H0 O σ H e Q q => by
  refine ⟨_, e.sl i _ hd, ?_⟩
  refine h H0 O σ H e _ fun vs H2 ds k2 o2 hds pd => ?_
  subst pd
  have e2 := e.kq k2 o2
  refine ⟨g, dk, cl, vs, hg, by rw [List.append_nil], by rw [hds.length]; exact hl, SO (dPm S dk cl h1 h2 Ts') O, .inl h1, .inl h2, ⟨so_trk e2, fun P hP => o2.tb P (hT P hP), o2.mm⟩, hds, fun v H3 d k3 o3 hv hr => ?_⟩
  exact q v H3 d (k2.trans k3) ⟨fun a z => o3.tr a (.inl z), fun P hP => k3.tab P (o2.tb P hP), o3.mm⟩ hv hr
/-- the deck's only argument is the deck -/
theorem ex_callD0 {Ts : List Addr} {i : Nat} {E : XK} (g : G) (hd : ρ[i]? = some (some (.raw (.ref dk)))) (he : enc g = []) (hg : ok g) (hT : ∀ P ∈ Ts, P ∈ Ts') :
    Ex (dPm S dk cl h1 h2 Ts') (tCall (deckSp Ts 0 enc ok R) [] E (tCons (tVar i) tNil)) ρ (R g) := ex_callD g hd (by rw [he]; exact ea_nil) (by rw [he]; rfl) hg hT
end
def startD (N : List Str) (dk : Addr) (ds : List PyData) : Rho := some (.raw (.ref dk)) :: ds.map (fun d => some (.dat d)) ++ List.replicate (N.length - (ds.length + 1)) none
section
variable {P : Program} {w : World} {K : PySem.W.Frag} {mg : Str → Option Value} {base : Heap}
theorem ok_deck {x qual : Str} {st : Stmt} {f : Addr} {fd : FuncData} {N ps : List Str} {k n : Nat} {Ts : List Addr} {G : Type} {enc : G → List PyData} {ok : G → Prop} {R : G → PyData → Prop} (F : Fun K x qual st f fd) (Sc : FnScope N ps (defScope st)) (hps : ps.length = n + 1) (hn : n + 1 ≤ N.length)
    (hb : ∀ (cdv : Value) (A : Around) (outer : List PySem.Env) (s : Shared) (H : Hp) (E : XK), Room k (A.deeper (envOfC qual (defScope st) s.heap.objs.size f cdv)) →
      ∃ t, PSs (cxOf CX0 P w K mg base N qual (defScope st) f cdv A outer s H E).nox (defBody st) t ∧
        ∀ (S : Addr → Prop) (dk cl : Addr) (h1 : S dk) (h2 : S cl) (g : G), ok g → Rn (dPm S dk cl h1 h2 Ts) t (startD N dk (enc g)) { N := fun _ => R g .none, R := R g }) : FnOk P w K mg base CX0 (k + 1) f fd ps (deckSp Ts n enc ok R) := by
  refine F.ok Sc (fun vs H Q E h => by obtain ⟨g, dk, cl, ws, _, e, hl, _⟩ := h; rw [e, hps, List.length_cons, hl]) (fun cdv A outer s H vs Q E hr h => ?_)
  obtain ⟨g, dk, cl, ws, hg, rfl, hl, S, h1, h2, o, hd, q⟩ := h
  obtain ⟨t, ht, hR⟩ := hb cdv A outer s H E hr
  refine ⟨t, ht, ?_⟩
  have hz : ∀ a : Addr, ZO (dPm S dk cl h1 h2 Ts) (fun _ => False) a → Zd dk cl a := fun a z => z.elim (fun z => z) (fun z => z.elim)
  have hlen : (enc g).length = n := by rw [← hd.length]; exact hl
  refine hR S dk cl h1 h2 g hg ⟨H, fun _ => False⟩ (fun _ => False) _ H _ ⟨Kq.refl H, fun _ h => h, o, fun a h => h.elim, fun i s hs => ?_, fun i j a es fs h1 => ?_, ?_⟩
    (fun O' σ' H' ρ' e pn => q .non H' .none (e.fr.mono hz) e.ok .non pn) (fun v d H' k o hv pr => q v H' d (k.mono hz) o hv pr) (fun _ _ _ _ _ z => False.elim z) (fun _ _ _ _ _ z => False.elim z)
  · cases i with
    | zero => cases hs; rfl
    | succ i =>
      have hs' : (startR (List.replicate (N.length - 1) default) (enc g))[i]? = some (some s) := by
        unfold startR
        rw [List.length_replicate]
        have e : N.length - 1 - (enc g).length = N.length - ((enc g).length + 1) := by omega
        rw [e]
        exact hs
      obtain ⟨d, v, rfl, g1, g2⟩ := start_get (N := List.replicate (N.length - 1) default) hd i s hs'
      refine ⟨v, ?_, g2.map (fun a n _ z => z.elim n fun z => z) fun _ _ _ e _ => e⟩
      unfold L2.start at g1 ⊢
      rw [List.length_replicate] at g1
      rw [List.length_cons]
      have e : N.length - 1 - ws.length = N.length - (ws.length + 1) := by omega
      rw [← e]
      exact g1
  · have : ∀ (m : Nat) (gs : List PyData), (startD N dk (enc g))[m]? ≠ some (some (.own gs)) := fun m gs z => by
      cases m with
      | zero => cases z
      | succ m =>
        have hs' : (startR (List.replicate (N.length - 1) default) (enc g))[m]? = some (some (.own gs)) := by
          unfold startR
          rw [List.length_replicate]
          have e : N.length - 1 - (enc g).length = N.length - ((enc g).length + 1) := by omega
          rw [e]
          exact z
        obtain ⟨d, v, z, _⟩ := start_get (N := List.replicate (N.length - 1) default) hd m _ hs'
        cases z
    exact absurd h1 (this _ _)
  · unfold L2.start startD
    simp [hl, hlen]
end
section
variable {S : Addr → Prop} {dk cl : Addr} {h1 : S dk} {h2 : S cl} {Ts : List Addr} {ρ : Rho}
theorem nt_dk {xs : List (Key × V)} : NT (.dK xs) := fun _ q => by cases q
theorem dk_ne {H : Hp} (h : DkOk dk cl H) : dk ≠ cl := fun e => by
  obtain ⟨ns, m, d, e1, e2, _⟩ := h
  rw [e, e2] at e1
  cases e1
theorem ok_putD {H : Hp} {a : Addr} {u o : HO} (k : Ok (dPm S dk cl h1 h2 Ts) H) (e : H a = some u) (hu : NT u) (ho : NT o) (m : DkOk dk cl (upd H a o)) : Ok (dPm S dk cl h1 h2 Ts) (upd H a o) := by
  refine ⟨fun b z => ?_, fun P hP => ?_, m⟩
  · by_cases q : b = a
    · rw [q]; exact ⟨o, upd_same, ho⟩
    · rw [upd_ne q]; exact k.tr b z
  · obtain ⟨ps, hp, tp⟩ := k.tb P hP
    exact ⟨ps, by rw [upd_ne (fun q => by rw [q, e] at hp; cases hp; exact hu ps rfl)]; exact hp, tp⟩
theorem kCD : ¬ kC = kD := by decide
theorem kMD : ¬ kM = kD := by decide
theorem kCM : ¬ kC = kM := by decide
theorem val_D {v a b : V} : valV [(kC, a), (kM, b), (kD, v)] kD = some v := by
  rw [valV_neg kCD, valV_neg kMD, valV_pos rfl]
theorem val_M {v a b : V} : valV [(kC, a), (kM, v), (kD, b)] kM = some v := by
  rw [valV_neg kCM, valV_pos rfl]
theorem val_C {v a b : V} : valV [(kC, v), (kM, a), (kD, b)] kC = some v := by
  rw [valV_pos rfl]
theorem ex_dkD {i : Nat} (h : ρ[i]? = some (some (.raw (.ref dk)))) : Ex (dPm S dk cl h1 h2 Ts) (tDGet (tVar i) (tC (.str "draws"))) ρ (fun d => ∃ k, d = .int k) := fun H0 O σ H e Q q => by
  obtain ⟨ns, m, d, e1, e2, hl⟩ := e.ok.mm
  refine ⟨_, e.sl i _ h, dk, .int d, rfl, ?_, q _ H _ (Kq.refl H) e.ok (.int d) ⟨d, rfl⟩⟩
  have := DGet.k (k := kD) e1
  rw [val_D] at this
  exact this
theorem ex_dkM {i : Nat} (h : ρ[i]? = some (some (.raw (.ref dk)))) : Ex (dPm S dk cl h1 h2 Ts) (tDGet (tVar i) (tC (.str "mixed"))) ρ (fun d => ∃ k, d = .int k) := fun H0 O σ H e Q q => by
  obtain ⟨ns, m, d, e1, e2, hl⟩ := e.ok.mm
  refine ⟨_, e.sl i _ h, dk, .int m, rfl, ?_, q _ H _ (Kq.refl H) e.ok (.int m) ⟨m, rfl⟩⟩
  have := DGet.k (k := kM) e1
  rw [val_M] at this
  exact this
theorem put_D {a b v w : V} : putK [(kC, a), (kM, b), (kD, v)] kD w = [(kC, a), (kM, b), (kD, w)] := by
  unfold putK
  rw [if_pos (by simp)]
  simp only [List.map_cons, List.map_nil]
  rw [if_neg kCD, if_neg kMD, if_pos trivial]
theorem rn_putD {i : Nat} {te : TE} {w : Po} (h : ρ[i]? = some (some (.raw (.ref dk)))) (k : Ex (dPm S dk cl h1 h2 Ts) te ρ (fun d => ∃ k, d = .int k)) (n : w.N ρ) : Rn (dPm S dk cl h1 h2 Ts) (sDPut (tVar i) (tC (.str "draws")) te) ρ w := fun H0 O σ H D e nx rt bk ct => by
  refine k H0 O σ H e _ fun v H2 d k2 o2 hd ⟨x, ex⟩ => ?_
  subst ex
  cases hd
  have e2 := e.kq k2 o2
  obtain ⟨ns, m, d, q1, q2, hl⟩ := o2.mm
  have hp := DPut.k (k := kD) (v := V.int x) q1 (show _ < sizeLine from Nat.lt_of_lt_of_le (show 3 < 1000 by decide) (by decide))
  rw [put_D] at hp
  refine ⟨_, e.sl i _ h, dk, _, rfl, hp, nx O σ _ ρ (e2.kq (Kq.put q1 nt_dk (.inl rfl)) (ok_putD o2 q1 nt_dk nt_dk ⟨ns, m, x, upd_same, ?_, hl⟩)) n⟩
  rw [upd_ne (fun q => dk_ne o2.mm q.symm)]
  exact q2
end
section
variable {P : Program} {w : World} {K : PySem.W.Frag} {mg : Str → Option Value} {base : Heap}
abbrev sDraw : Stmt := topS 33
theorem scDraw : FnScope ["deck", "many", "number", "cell"] ["deck", "many"] (defScope sDraw) := ⟨rfl, rfl, rfl, by decide +kernel, rfl, by decide +kernel, by decide +kernel⟩
abbrev DrawR (many : Int) (d : PyData) : Prop := ∃ r, d = .int r ∧ 0 ≤ r ∧ r < many
abbrev spDraw : Sp := deckSp [] 1 (G := Int) (fun many => [.int many]) (fun many => 0 < many ∧ many < 1073741824) DrawR
theorem hdA : ∀ ns : List Int, PyData.hasDictAll (ns.map PyData.int) = false
  | [] => rfl
  | _ :: r => by simp [PyData.hasDictAll, PyData.hasDict, hdA r]
theorem hdI (ns : List Int) : (PyData.list (ns.map PyData.int)).hasDict = false := by simp [PyData.hasDict, hdA]
theorem shI (ns : List Int) : SeqAt.shaped (.list (ns.map PyData.int)) = true := PySem.W.ke_shaped_ints ns
theorem ok_draw (B : Bn mg) {f : Addr} {fd : FuncData} (F : Fun K "_law_draw" "_law_draw" sDraw f fd) : FnOk P w K mg base CX0 1 f fd ["deck", "many"] spDraw := by
  refine ok_deck F scDraw rfl (by decide) fun cdv A outer s H E hr => ⟨_, pss_cons (ps_dput (hu_of hr) (pv 0) pe_str (pe_op op_add (pe_dget (hu_of hr) (pv 0) pe_str (fun _ _ => rfl)) pe_int) rfl)
    (pss_cons (ps_set (i := 2) scDraw.nd rfl (.inl rfl) (pe_op op_add (pe_dget (hu_of hr) (pv 0) pe_str (fun _ _ => rfl)) (pe_op op_mul pe_int (pe_dget (hu_of hr) (pv 0) pe_str (fun _ _ => rfl)))))
    (pss_cons (ps_if (pt_cmpR (op_neD hr.units) (pe_dget (hu_of hr) (pv 0) pe_str (fun _ _ => rfl)) (pe_lst pa_nil) (nomark _))
      (pss_cons (ps_set (i := 3) scDraw.nd rfl (.inl rfl) (pe_bm0 PySem.F.plainAttrs_list PySem.F.slot_list_pop PySem.F.type_list_pop mt_pop (pe_dget (hu_of hr) (pv 0) pe_str (fun _ _ => rfl))))
        (pss_cons (ps_if (pt_cmpR op_ge (pv 3) (pe_op op_pow pe_int pe_int) (nomark _))
            (pss_cons (ps_expr (pe_bm PySem.F.plainAttrs_list PySem.F.slot_list_append PySem.F.type_list_append mt_append (pe_dget (hu_of hr) (pv 0) pe_str (fun _ _ => rfl)) (pa_cons (pe_op op_fdiv (pv 3) (pMax2 B rfl pe_int (pv 1))) pa_nil)))
              (pss_one (ps_ret (pe_op op_mod (pInt B (pv 3)) (pv 1))))) pss_nil)
          (pss_one (ps_set (i := 2) scDraw.nd rfl (.inl rfl) (pe_op op_add (pv 2) (pe_op op_mod (pInt B (pv 3)) pe_int))))))
      pss_nil)
    (pss_cons (ps_set (i := 2) scDraw.nd rfl (.inl rfl) (pe_op op_mod (pInt B (pe_op op_add (pe_op op_mul (pv 2) pe_int) pe_int)) pe_int))
    (pss_cons (ps_set (i := 2) scDraw.nd rfl (.inl rfl) (pe_op op_mod (pInt B (pe_op op_add (pe_op op_add (pe_op op_mul (pv 2) (pv 2)) (pe_op op_mul pe_int (pe_dget (hu_of hr) (pv 0) pe_str (fun _ _ => rfl)))) pe_int)) pe_int))
    (pss_cons (ps_set (i := 2) scDraw.nd rfl (.inl rfl) (pe_op op_mod (pInt B (pe_op op_mul (pv 2) pe_int)) pe_int))
      (pss_one (ps_ret (pe_op op_mod (pInt B (pe_op op_fdiv (pv 2) pe_int)) (pv 1))))))))), fun S dk cl h1 h2 many hm => ?_⟩
  obtain ⟨hm1, hm2⟩ := hm
  have addX : ∀ {ta tb : TE} {ρ : Rho}, Ex (dPm S dk cl h1 h2 []) ta ρ (fun d => ∃ k, d = .int k) → Ex (dPm S dk cl h1 h2 []) tb ρ (fun d => ∃ k, d = .int k) → Ex (dPm S dk cl h1 h2 []) (tOp (rI0 fun i j => .int (i + j)) ta tb) ρ (fun d => ∃ k, d = .int k) := fun ha hb =>
    ex_op ha hb fun d e ⟨i, hi⟩ ⟨j, hj⟩ => by subst hi hj; exact fun H0 O σ ρ H x y e hx hy Q q => r2_I0 (g' := fun i j => .int (i + j)) (fun _ _ => .int _) H0 O σ ρ H x y e hx hy Q fun v H2 f k o hv hf => q v H2 f k o hv ⟨_, hf⟩
  have mulX : ∀ {ta tb : TE} {ρ : Rho} {a : Int}, Ed (dPm S dk cl h1 h2 []) ta ρ (.int a) → a.natAbs < 2 ^ 64 → Ex (dPm S dk cl h1 h2 []) tb ρ (fun d => ∃ k, d = .int k) → Ex (dPm S dk cl h1 h2 []) (tOp (rI CMul fun i j => .int (i * j)) ta tb) ρ (fun d => ∃ k, d = .int k) := fun {ta tb ρ a} ha hl hb =>
    ex_op ha hb fun d e hi ⟨j, hj⟩ => by
      subst hi hj
      exact fun H0 O σ ρ H x y e hx hy Q q => r2_I (C := CMul) (g' := fun i j => .int (i * j)) (.inl (by omega)) (fun _ _ => .int _) H0 O σ ρ H x y e hx hy Q fun v H2 f k o hv hf => q v H2 f k o hv ⟨_, hf⟩
  have modX : ∀ {ta tb : TE} {ρ : Rho} {b : Int}, Ex (dPm S dk cl h1 h2 []) ta ρ (fun d => ∃ k, d = .int k) → Ed (dPm S dk cl h1 h2 []) tb ρ (.int b) → 0 < b → Ex (dPm S dk cl h1 h2 []) (tOp (rI (fun _ j => 0 < j) fun i j => .int (i % j)) ta tb) ρ (DrawR b) := fun {ta tb ρ b} ha hb hl =>
    ex_op ha hb fun d e ⟨i, hi⟩ hj => by
      subst hi hj
      exact fun H0 O σ ρ H x y e hx hy Q q => r2_I (C := fun _ j => 0 < j) (g' := fun i j => .int (i % j)) hl (fun _ _ => .int _) H0 O σ ρ H x y e hx hy Q fun v H2 f k o hv hf => q v H2 f k o hv ⟨_, hf, Int.emod_nonneg i (by omega), Int.emod_lt_of_pos i hl⟩
  have intX : ∀ {ta : TE} {ρ : Rho}, Ex (dPm S dk cl h1 h2 []) ta ρ (fun d => ∃ k, d = .int k) → Ex (dPm S dk cl h1 h2 []) (tCB rIt (tCons ta tNil)) ρ (fun d => ∃ k, d = .int k) := fun ha =>
    ex_cb (ea_oneX ha) fun ds ⟨d, e, i, ei⟩ => by subst e ei; exact bc_int.imp fun x h => ⟨_, h⟩
  have wk : ∀ {ta : TE} {ρ : Rho} {b : Int}, Ex (dPm S dk cl h1 h2 []) ta ρ (DrawR b) → Ex (dPm S dk cl h1 h2 []) ta ρ (fun d => ∃ k, d = .int k) := fun h => h.imp fun d ⟨r, e, _⟩ => ⟨r, e⟩
  have up : ∀ {ta : TE} {ρ : Rho} {a : Int}, Ed (dPm S dk cl h1 h2 []) ta ρ (.int a) → Ex (dPm S dk cl h1 h2 []) ta ρ (fun d => ∃ k, d = .int k) := fun h => h.imp fun d e => ⟨_, e⟩
  refine rn_seq (Nm := fun ρ => ρ = startD ["deck", "many", "number", "cell"] dk [.int many]) (rn_putD rfl (addX (ex_dkD rfl) (up ex_int)) rfl) fun ρ e => ?_
  subst e
  refine rn_setX_ (P := fun d => ∃ k, d = .int k) (addX (ex_dkM rfl) (mulX ex_int (by decide) (ex_dkD rfl))) ?_
  rintro d ⟨num, rfl⟩
  refine rn_seq (Nm := fun ρ => ρ.length = 4 ∧ ρ[0]? = some (some (.raw (.ref dk))) ∧ ρ[1]? = some (some (.dat (.int many))) ∧ ∃ x, ρ[2]? = some (some (.dat (.int x)))) ?_ ?_
  · intro H0 O σ H D e nx rt bk ct
    obtain ⟨ns, m, dd, q1, q2, hlen⟩ := e.ok.mm
    have s0 : σ[0]? = some (some (.ref dk)) := e.sl 0 _ rfl
    have s1 : σ[1]? = some (some (.int many)) := by
      obtain ⟨v, g1, g2⟩ := e.sl 1 (.dat (.int many)) rfl
      cases g2; exact g1
    have hln : σ.length = 4 := e.ln
    have gC : ∀ {H' : Hp}, H' dk = some (.dK [(kC, .ref cl), (kM, .int m), (kD, .int dd)]) → DGet H' dk (.str "cells") (some (.ref cl)) := fun h => by
      have := DGet.k (k := kC) h
      rw [val_C] at this
      exact this
    refine ⟨_, s0, dk, .ref cl, rfl, gC q1, by decide, fun l hl' => ?_⟩
    have kn : Kp H (upd H l (.lst [])) := Kq.new hl'
    have e1 := e.kp kn
    have q1' := kn.at_ dk _ (fun z => z) q1 nt_dk
    have q2' := kn.at_ cl _ (fun z => z) q2 nt_lst
    refine ⟨.list (ns.map .int), .list [], (Dv.lst (S := Z0) (fun z => z) q2' (DvL.ints ns)).dp _ _ (hdI ns), (Dv.lst (S := Z0) (fun z => z) upd_same .nil).dp _ _ rfl, shI ns, shI [], _, rfl, ?_⟩
    generalize hH1 : upd H l (.lst []) = H1 at *
    rcases List.eq_nil_or_concat ns with rfl | ⟨ms, c, rfl⟩
    · rw [if_neg (by decide)]
      exact nx O σ H1 _ e1 ⟨rfl, rfl, rfl, _, rfl⟩
    · rw [List.concat_eq_append] at *
      have hnn : (!PyData.eqv (.list ((ms ++ [c]).map .int)) (.list [])) = true := by
        cases ms <;> rfl
      rw [if_pos hnn]
      have hxl : ((ms ++ [c]).map V.int)[((ms ++ [c]).map V.int).length - 1]? = some (.int c) := by simp
      have hdl : ((ms ++ [c]).map V.int).dropLast = ms.map V.int := by simp
      have hms : ms.length ≤ 63 := by simp at hlen; omega
      refine ⟨_, s0, dk, .ref cl, rfl, gC q1', .inl ⟨rfl, _, .inl (.inl q2')⟩, cl, _, .int c, rfl, rfl, q2', hxl, ?_⟩
      rw [hdl]
      have hne : dk ≠ cl := dk_ne e.ok.mm
      have p1 : (upd H1 cl (.lst (ms.map .int))) dk = some (.dK [(kC, .ref cl), (kM, .int m), (kD, .int dd)]) := by rw [upd_ne hne]; exact q1'
      have ok2 : Ok (dPm S dk cl h1 h2 []) (upd H1 cl (.lst (ms.map .int))) := ok_putD e1.ok q2' nt_lst nt_lst ⟨ms, m, dd, p1, upd_same, by omega⟩
      have e2 := (e1.kq (Kq.put q2' nt_lst (.inr rfl)) ok2).set (i := 3) (v := .int c) (d := .int c) (.int c)
      have q3 : (upd H1 cl (.lst (ms.map .int))) cl = some (.lst (ms.map .int)) := upd_same
      generalize upd H1 cl (.lst (ms.map .int)) = H2 at *
      have t0 : (σ.set 3 (some (.int c)))[0]? = some (some (.ref dk)) := by rw [List.getElem?_set_ne (by decide)]; exact s0
      have t1 : (σ.set 3 (some (.int c)))[1]? = some (some (.int many)) := by rw [List.getElem?_set_ne (by decide)]; exact s1
      have t3 : (σ.set 3 (some (.int c)))[3]? = some (some (.int c)) := by rw [List.getElem?_set_self (by omega)]
      refine ⟨_, t3, _, _, rfl, rfl, ⟨by decide, by decide, by decide⟩, c, _, rfl, rfl, _, rfl, ?_⟩
      by_cases hc : decide ((10 : Int) ^ (18 : Int).toNat ≤ c) = true
      · dsimp only
        rw [if_pos hc]
        refine ⟨_, t0, dk, .ref cl, rfl, gC p1, .inl ⟨rfl, _, .inl (.inl q3)⟩, _, t3, _, t1, 2, many, rfl, c, if many > 2 then many else 2, rfl, rfl, ⟨?_, ?_⟩, cl, _, .int (c / if many > 2 then many else 2), rfl, rfl, q3, Nat.lt_of_lt_of_le (show _ < 1000 by rw [List.length_map]; omega) (by decide), ?_⟩
        · split <;> omega
        · split <;> omega
        have e3 := e2.kq (Kq.put q3 nt_lst (.inr rfl)) (ok_putD (o := .lst (ms.map .int ++ [.int (c / if many > 2 then many else 2)])) e2.ok q3 nt_lst nt_lst ⟨ms ++ [c / if many > 2 then many else 2], m, dd, by rw [upd_ne hne]; exact p1, by rw [List.map_append]; exact upd_same, by simp; omega⟩)
        exact rn_retX (w := { N := fun _ => False, R := DrawR many }) (modX (intX (up (ex_var (d := .int c) rfl))) (ex_var (d := .int many) rfl) hm1) (fun d h => h) _ _ _ _ _ e3 (fun _ _ _ _ _ z => z.elim) rt (fun _ _ _ _ _ z => z.elim) (fun _ _ _ _ _ z => z.elim)
      · dsimp only
        rw [if_neg hc]
        refine rn_setX (w := { N := fun ρ => ρ.length = 4 ∧ ρ[0]? = some (some (.raw (.ref dk))) ∧ ρ[1]? = some (some (.dat (.int many))) ∧ ∃ x, ρ[2]? = some (some (.dat (.int x))), R := DrawR many }) (P := fun d => ∃ k, d = .int k) (addX (up (ex_var (d := .int num) rfl)) (wk (modX (intX (up (ex_var (d := .int c) rfl))) ex_int (by decide)))) (fun d ⟨k, ek⟩ => ?_) _ _ _ _ _ e2 nx rt (fun _ _ _ _ _ z => z.elim) (fun _ _ _ _ _ z => z.elim)
        subst ek
        exact ⟨rfl, rfl, rfl, _, rfl⟩
  · rintro ρ ⟨hl, r0, r1, x, r2⟩
    have mulR : ∀ {ta tb : TE} {ρ : Rho} {a : Int}, Ex (dPm S dk cl h1 h2 []) ta ρ (fun d => ∃ k, d = .int k) → Ed (dPm S dk cl h1 h2 []) tb ρ (.int a) → a.natAbs < 2 ^ 64 → Ex (dPm S dk cl h1 h2 []) (tOp (rI CMul fun i j => .int (i * j)) ta tb) ρ (fun d => ∃ k, d = .int k) := fun {ta tb ρ a} ha hb hl =>
      ex_op ha hb fun d e ⟨j, hj⟩ hi => by
        subst hi hj
        exact fun H0 O σ ρ H x y e hx hy Q q => r2_I (C := CMul) (g' := fun i j => .int (i * j)) (.inr (by omega)) (fun _ _ => .int _) H0 O σ ρ H x y e hx hy Q fun v H2 f k o hv hf => q v H2 f k o hv ⟨_, hf⟩
    have keep : ∀ (ρ : Rho) (x : Int), ρ.length = 4 → ρ[0]? = some (some (.raw (.ref dk))) → ρ[1]? = some (some (.dat (.int many))) → (ρ.set 2 (some (.dat (.int x)))).length = 4 ∧ (ρ.set 2 (some (.dat (.int x))))[0]? = some (some (.raw (.ref dk))) ∧ (ρ.set 2 (some (.dat (.int x))))[1]? = some (some (.dat (.int many))) ∧ (ρ.set 2 (some (.dat (.int x))))[2]? = some (some (.dat (.int x))) := fun ρ x hl r0 r1 =>
      ⟨by rw [List.length_set]; exact hl, by rw [List.getElem?_set_ne (by decide)]; exact r0, by rw [List.getElem?_set_ne (by decide)]; exact r1, by rw [List.getElem?_set_self (by omega)]⟩
    refine rn_setX_ (modX (intX (addX (mulR (up (ex_var r2)) ex_int (by decide)) (up ex_int))) ex_int (by decide)) ?_
    rintro d ⟨y, rfl, hy0, hy1⟩
    obtain ⟨hl, r0, r1, r2⟩ := keep ρ y hl r0 r1
    generalize ρ.set 2 (some (.dat (.int y))) = ρ at *
    refine rn_setX_ (modX (intX (addX (addX (mulR (up (ex_var r2)) (ex_var r2) (by omega)) (mulX ex_int (by decide) (ex_dkD r0))) (up ex_int))) ex_int (by decide)) ?_
    rintro d ⟨z, rfl, hz0, hz1⟩
    obtain ⟨hl, r0, r1, r2⟩ := keep ρ z hl r0 r1
    generalize ρ.set 2 (some (.dat (.int z))) = ρ at *
    refine rn_setX_ (modX (intX (mulR (up (ex_var r2)) ex_int (by decide))) ex_int (by decide)) ?_
    rintro d ⟨u, rfl, hu0, hu1⟩
    obtain ⟨hl, r0, r1, r2⟩ := keep ρ u hl r0 r1
    generalize ρ.set 2 (some (.dat (.int u))) = ρ at *
    refine rn_retX (modX (intX (up (ed_op (P := (· = .int (u / 64))) (ex_var r2) ex_int (r2_I (C := CDiv) (g' := fun i j => .int (i / j)) ⟨show (0 : Int) < 64 by decide, show (64 : Int) < 1073741824 by decide⟩ fun _ _ => .int _)))) (ex_var r1) hm1) fun d h => h
end
end Kz
set_option Elab.async false
set_option linter.all false
set_option maxRecDepth 100000
set_option maxHeartbeats 4000000
/-! Kz: the law's own reckoning -/
namespace Kz
open PySem PySem.Spec PyProof.Rows L2
/-- the scope of a comprehension's block within sc -/
def relab (sc scope : Scope) : Scope := relabel scope (envOfC "" sc 0 0 .none)
section
variable {p : Pm} {ρ : Rho} {ta tb tc te : TE} {tt : TT}
theorem et_orX {tu : TT} {a b c : Bool} (h : Et p tt ρ (· = a)) (k : a = false → Et p tu ρ (· = b)) (e : (a || b) = c) : Et p (tOr tt tu) ρ (· = c) := (et_or h k).imp fun x z => z.trans e
theorem et_andX {tu : TT} {a b c : Bool} (h : Et p tt ρ (· = a)) (k : a = true → Et p tu ρ (· = b)) (e : (a && b) = c) : Et p (tAnd tt tu) ρ (· = c) := (et_and h k).imp fun x z => z.trans e
theorem et_notX {b c : Bool} (h : Et p tt ρ (· = b)) (e : (!b) = c) : Et p (tNot tt) ρ (· = c) := (et_notD h).imp fun x z => z.trans e
theorem et_notR {P P' : Bool → Prop} (h : Et p tt ρ P) (i : ∀ b, P b → P' (!b)) : Et p (tNot tt) ρ P' := fun H0 O σ H e Q q => h H0 O σ H e _ fun b H2 k o pb => q (!b) H2 k o (i b pb)
theorem et_testE {b c : Bool} (h : Ed p te ρ (.bool b)) (e : b = c) : Et p (tTest te) ρ (· = c) := (et_test h).imp fun x z => z.trans e
/-- what == and != read -/
structure Eqd (d : PyData) : Prop where
  nd : d.hasDict = false
  sh : SeqAt.shaped d = true
theorem ed_eqD {K : PySem.W.Frag} {d e : PyData} (h : Ed p ta ρ d) (k : Ed p tb ρ e) (a : Eqd d) (b : Eqd e) : Ed p (tOp (rEqD K) ta tb) ρ (.bool (PyData.eqv d e)) := ed_op h k fun H0 O σ ρ H x y en hx hy Q q =>
  ⟨d, e, hx.dp d x a.nd, hy.dp e y b.nd, a.sh, b.sh, q _ H _ (Kq.refl H) en.ok (.bl _) rfl⟩
theorem ed_neD {K : PySem.W.Frag} {d e : PyData} (h : Ed p ta ρ d) (k : Ed p tb ρ e) (a : Eqd d) (b : Eqd e) : Ed p (tOp (rNeD K) ta tb) ρ (.bool (!PyData.eqv d e)) := ed_op h k fun H0 O σ ρ H x y en hx hy Q q =>
  ⟨d, e, hx.dp d x a.nd, hy.dp e y b.nd, a.sh, b.sh, q _ H _ (Kq.refl H) en.ok (.bl _) rfl⟩
theorem ed_chainII {f g : Int → Int → Bool} {i j k : Int} (h1 : Ed p ta ρ (.int i)) (h2 : Ed p tb ρ (.int j)) (h3 : Ed p tc ρ (.int k)) : Ed p (tChain (rI0 fun i j => .bl (f i j)) (rI0 fun i j => .bl (g i j)) ta tb tc) ρ (.bool (f i j && g j k)) := fun H0 O σ H e Q q => by
  refine h1 H0 O σ H e _ fun v H2 d k2 o2 hd pd => ?_
  subst pd
  cases hd
  have e2 := e.kq k2 o2
  refine h2 H0 O σ H2 e2 _ fun v H3 d k3 o3 hd pd => ?_
  subst pd
  cases hd
  have e3 := e2.kq k3 o3
  refine ⟨_, _, rfl, rfl, _, rfl, ?_⟩
  cases hf : f i j with
  | false => exact q _ H3 _ (k2.trans k3) o3 (.bl false) (by show PyData.bool false = PyData.bool (f i j && g j k); rw [hf]; rfl)
  | true =>
    refine h3 H0 O σ H3 e3 _ fun v H4 d k4 o4 hd pd => ?_
    subst pd
    cases hd
    exact ⟨_, _, rfl, rfl, q _ H4 _ ((k2.trans k3).trans k4) o4 (.bl _) (by show _ = _; rw [hf, Bool.true_and])⟩
end
theorem opNeD {X : Cx} (K : PySem.W.Frag) (hu : X.A.units + 64 < cLine) (h : X.K = K := by rfl) : OpR X (compareOp .NotEq) (rNeD K) := h ▸ op_neD hu
theorem opEqD {X : Cx} (K : PySem.W.Frag) (hu : X.A.units + 64 < cLine) (h : X.K = K := by rfl) : OpR X (compareOp .Eq) (rEqD K) := h ▸ op_eqD hu
theorem eqd_nil : Eqd (.list []) := ⟨rfl, rfl⟩
theorem hdRow (l : List Int) : (rowD l).hasDict = false := by simp [rowD, PyData.hasDict, hdA]
theorem eqd_row (l : List Int) : Eqd (rowD l) := ⟨hdRow l, by have := shI l; exact this⟩
theorem eqd_ints (l : List Int) : Eqd (.list (l.map .int)) := ⟨hdI l, shI l⟩
theorem eqv_ints : ∀ a b : List Int, PyData.eqvAll (a.map .int) (b.map .int) = decide (a = b)
  | [], [] => rfl
  | [], _ :: _ => rfl
  | _ :: _, [] => rfl
  | x :: a, y :: b => by
    show (PyData.eqv (.int x) (.int y) && PyData.eqvAll (a.map .int) (b.map .int)) = _
    rw [eqv_ints a b]
    show ((x == y) && _) = _
    rw [Bool.eq_iff_iff, Bool.and_eq_true, beq_iff_eq, decide_eq_true_iff, decide_eq_true_iff]
    simp
theorem eqv_row (a b : List Int) : PyData.eqv (rowD a) (rowD b) = decide (a = b) := eqv_ints a b
theorem eqv_nilI (l : List Int) : PyData.eqv (.list (l.map .int)) (.list []) = decide (l = []) := eqv_ints l []
section
variable {P : Program} {w : World} {K : PySem.W.Frag} {mg : Str → Option Value} {base : Heap}
abbrev sLStep : Stmt := topS 35
abbrev sLSq : Stmt := topS 36
abbrev sLTab : Stmt := topS 37
abbrev sLMinor : Stmt := topS 38
abbrev sLDet : Stmt := topS 39
abbrev sLForm : Stmt := topS 40
abbrev sLLean : Stmt := topS 41
abbrev sLLow : Stmt := topS 42
abbrev sLUnit : Stmt := topS 43
abbrev sLChd : Stmt := topS 45
theorem scLStep : FnScope ["n", "thing", "x"] ["n", "thing"] (defScope sLStep) := ⟨rfl, rfl, rfl, by decide +kernel, rfl, by decide +kernel, by decide +kernel⟩
theorem scLSq : FnScope ["n", "thing", "row"] ["n", "thing"] (defScope sLSq) := ⟨rfl, rfl, rfl, by decide +kernel, rfl, by decide +kernel, by decide +kernel⟩
theorem scLTab : FnScope ["thing", "i", "row", "other"] ["thing"] (defScope sLTab) := ⟨rfl, rfl, rfl, by decide +kernel, rfl, by decide +kernel, by decide +kernel⟩
theorem scLMinor : FnScope ["rows", "i", "j", "at", "row"] ["rows", "i", "j"] (defScope sLMinor) := ⟨rfl, rfl, rfl, by decide +kernel, rfl, by decide +kernel, by decide +kernel⟩
theorem scLDet : FnScope ["rows", "j", "x"] ["rows"] (defScope sLDet) := ⟨rfl, rfl, rfl, by decide +kernel, rfl, by decide +kernel, by decide +kernel⟩
theorem scLForm : FnScope ["thing", "k", "row"] ["thing"] (defScope sLForm) := ⟨rfl, rfl, rfl, by decide +kernel, rfl, by decide +kernel, by decide +kernel⟩
theorem scLLean : FnScope ["form", "one", "other", "x", "row", "g", "y"] ["form", "one", "other"] (defScope sLLean) := ⟨rfl, rfl, rfl, by decide +kernel, rfl, by decide +kernel, by decide +kernel⟩
theorem scLLow : FnScope ["form", "most", "row", "g"] ["form", "most"] (defScope sLLow) := ⟨rfl, rfl, rfl, by decide +kernel, rfl, by decide +kernel, by decide +kernel⟩
theorem scLUnit : FnScope ["n", "i", "j"] ["n"] (defScope sLUnit) := ⟨rfl, rfl, rfl, by decide +kernel, rfl, by decide +kernel, by decide +kernel⟩
theorem scLChd : FnScope ["form", "change", "one", "other"] ["form", "change"] (defScope sLChd) := ⟨rfl, rfl, rfl, by decide +kernel, rfl, by decide +kernel, by decide +kernel⟩
/-- rows of at most 64 -/
abbrev Sm (t : Mat) : Prop := t.length ≤ 64 ∧ ∀ l ∈ t, l.length ≤ 64
abbrev OkLL (g : Mat × List Int × List Int) : Prop := (Bd 1000 g.1 ∧ BdL 1000 g.2.1 ∧ BdL 1000 g.2.2) ∧ Sm g.1
abbrev spLLean : Sp := pureG [] 3 (G := Mat × List Int × List Int) (fun g => [matD g.1, rowD g.2.1, rowD g.2.2]) OkLL (fun g d => d = .int (leanM g.1 g.2.1 g.2.2))
theorem sum_bd {b : Nat} : ∀ {l : List Int}, (∀ x ∈ l, x.natAbs ≤ b) → l.sum.natAbs ≤ l.length * b
  | [], _ => by simp
  | x :: l, h => by
    have h1 := h x (by simp)
    have h2 := sum_bd (l := l) fun y hy => h y (by simp [hy])
    rw [List.sum_cons, List.length_cons, Nat.add_mul]
    omega
theorem dot_bd {row y : List Int} (h1 : BdL 1000 row) (h2 : BdL 1000 y) (hl : row.length ≤ 64) : (dot row y).natAbs < 2 ^ 2010 := by
  have h : ∀ x ∈ List.zipWith (· * ·) row y, x.natAbs ≤ 2 ^ 2000 := fun x hx => by
    obtain ⟨i, hi, e⟩ := List.mem_iff_getElem.mp hx
    rw [List.getElem_zipWith] at e
    rw [← e]
    exact Nat.le_of_lt (wide_lt (a := 1000) (b := 1000) (h1 _ (List.getElem_mem _)) (h2 _ (List.getElem_mem _)))
  have h3 := sum_bd h
  have h4 : (List.zipWith (· * ·) row y).length ≤ 64 := by rw [List.length_zipWith]; omega
  refine Nat.lt_of_le_of_lt (Nat.le_trans h3 (Nat.mul_le_mul_right _ h4)) ?_
  decide +kernel
theorem leanM_swap (t : Mat) (x y : List Int) : List.zipWith (fun a row => a * dot row y) x t = List.zipWith (fun row a => a * dot row y) t x := List.zipWith_comm
/-- [x * sum([g * y for g, y in zip(row, other)]) for x, row in zip(one, form)] -/
theorem ok_lLean (B : Bn mg) {f : Addr} {fd : FuncData} (F : Fun K "_law_lean" "_law_lean" sLLean f fd) : FnOk P w K mg base CX0 1 f fd ["form", "one", "other"] spLLean := by
  refine ok_pureG F scLLean rfl (by decide) fun cdv A outer s H E hr => ⟨_, pss_one (ps_ret (pSum B rfl (pe_lc (own := [("x", 3), ("row", 4)]) rfl scLLean.nd (piZ K B (pv 1) (pv 0)) (blkOk_by (own := [("x", 3), ("row", 4)]) (N := ["form", "one", "other", "x", "row", "g", "y"]) (sc := defScope sLLean) (by decide +kernel)) (fun _ _ _ _ _ => gP' K 3 4 rfl scLLean.nd) (fun _ _ _ _ _ => pts_nil)
    (fun _ _ _ _ _ => pe_op op_mulW (pv 3) (pSum' K B rfl (pe_lc (own := [("g", 5), ("y", 6)]) rfl scLLean.nd (piZ K B (pv 4) (pv 2)) (blkOk_by (own := [("g", 5), ("y", 6)]) (N := ["form", "one", "other", "x", "row", "g", "y"]) (sc := relab (defScope sLLean) _) (by decide +kernel)) (fun _ _ _ _ _ => gP' K 5 6 rfl scLLean.nd) (fun _ _ _ _ _ => pts_nil) (fun _ _ _ _ _ => pe_op op_mulW (pv 5) (pv 6))))))))
    , fun p g hT hg => ?_⟩
  obtain ⟨t, x, y⟩ := g
  obtain ⟨⟨bt, bx, by'⟩, hs1, hs2⟩ := hg
  dsimp only at bt bx by' hs1 hs2
  refine rn_ret (d := .int (leanM t x y)) (ed_cb (ea_one (ed_lcM ((List.zipWith (fun a row => a * dot row y) x t).map .int) (ii_zipT (ds := x.map .int) (es := t.map rowD) (ex_var rfl) (ex_var rfl)) (by rw [zipD_len]; simp) (by rw [zipD_len]; simp; omega) fun i d e hd he => ?_)) (bc_sum.imp fun d h => ?_)) rfl
  · obtain ⟨a', r', g1, g2, rfl⟩ := zipD_get hd
    rw [List.getElem?_map] at g1 g2
    obtain ⟨a, ha, rfl⟩ := Option.map_eq_some_iff.mp g1
    obtain ⟨row, hrow, rfl⟩ := Option.map_eq_some_iff.mp g2
    rw [List.getElem?_map, zipWith_at ha hrow] at he
    cases he
    have brow := bt row (List.mem_of_getElem? hrow)
    have ba := bx a (List.mem_of_getElem? ha)
    have hrl := hs2 row (List.mem_of_getElem? hrow)
    refine ⟨_, _, ?_, tg_pair tg_name tg_name, ?_⟩
    · decide
    refine ed_mulW (ex_var rfl) (ed_cb (ea_one (ed_lcM ((List.zipWith (· * ·) row y).map .int) (ii_zipT (ds := row.map .int) (es := y.map .int) (ex_var rfl) (ex_var rfl)) (by rw [zipD_len]; simp) (by rw [zipD_len]; simp; omega) fun j d e hd he => ?_)) bc_sum) (mul_ok ba (dot_bd brow by' hrl))
    obtain ⟨a', r', g1, g2, rfl⟩ := zipD_get hd
    rw [List.getElem?_map] at g1 g2
    obtain ⟨u, hu, rfl⟩ := Option.map_eq_some_iff.mp g1
    obtain ⟨v, hv, rfl⟩ := Option.map_eq_some_iff.mp g2
    rw [List.getElem?_map, zipWith_at hu hv] at he
    cases he
    refine ⟨_, _, ?_, tg_pair tg_name tg_name, ed_mulW (ex_var rfl) (ex_var rfl) (mul_ok (brow u (List.mem_of_getElem? hu)) (by' v (List.mem_of_getElem? hv)))⟩
    decide
  · rw [h, leanM_swap]; rfl
abbrev spLStep : Sp := pureG [] 2 (G := List Int) (fun l => [.int (l.length : Int), rowD l]) (fun l => l.length ≤ 1000) (fun _ d => d = .bool true)
theorem ok_lStep (B : Bn mg) {f : Addr} {fd : FuncData} (F : Fun K "_law_is_step" "_law_is_step" sLStep f fd) : FnOk P w K mg base CX0 1 f fd ["n", "thing"] spLStep := by
  refine ok_pureG F scLStep rfl (by decide) fun cdv A outer s H E hr => ⟨_, pss_cons (ps_if (PW.pt (pw_or (pt_not (pt_val (pIsi B (pv 1) (nTuple B)))) (pw_or1 (pt_cmpR op_ne (pLen B (pv 1)) (pv 0) (nomark _))))) pss_never pss_nil)
    (pss_one (ps_ret (pe_cmpR (op_eqD hr.units) (pe_lc (own := [("x", 2)]) rfl scLStep.nd (piT K (pv 1)) (blkOk_by (own := [("x", 2)]) (N := ["n", "thing", "x"]) (sc := defScope sLStep) (by decide +kernel)) (fun _ _ _ _ _ => gN 2 scLStep.nd)
      (fun _ _ _ _ _ => pts_one (PW.pt (pw_or (pt_not (pt_val (pIsi' K B (pv 2) (nInt B)))) (pw_or1 (pt_val (pIsi' K B (pv 2) (nBool B))))))) (fun _ _ _ _ _ => pv 2)) (pe_lst pa_nil) (nomark _)))), fun p l hT hg => ?_⟩
  have v1 : Ed p (tVar 1) (startR ["n", "thing", "x"] [.int (l.length : Int), rowD l]) (rowD l) := ex_var rfl
  refine rn_when_ (t := false) (et_or (a := false) (et_notTup v1 er_c) fun _ => et_test (Ed.cast (ed_neI (ed_cb (ea_one v1) (bc_len (.t _))) (ex_var rfl)) (by simp))) (fun e => by cases e) fun _ => ?_
  refine rn_ret (d := .bool true) (Ed.cast (ed_eqD (d := .list []) (e := .list []) (Ed.cast (ed_lcF (fun _ => false) id (ii_tup (ds := l.map .int) v1) (by simp at hg ⊢; omega) fun i d hd => ?_) ?_) (ed_lst ea_nil) eqd_nil eqd_nil) rfl) rfl
  · rw [List.getElem?_map] at hd
    obtain ⟨x, hx, rfl⟩ := Option.map_eq_some_iff.mp hd
    refine ⟨[2], _, fun j hj => hj, tg_name, et_or (a := false) (b := false) (et_notD (b := true) (et_test (ed_isi (ex_var (d := .int x) rfl) er_c rfl))) (fun _ => et_test (ed_isi (ex_var (d := .int x) rfl) er_c rfl)), fun z => by cases z⟩
  · simp
abbrev spLSq : Sp := pureG [] 2 (G := Nat × Mat) (fun g => [.int (g.1 : Int), matD g.2]) (fun g => Sq g.1 g.2 ∧ g.1 ≤ 3) (fun _ d => d = .bool true)
theorem ok_lSq (B : Bn mg) {f : Addr} {fd : FuncData} (F : Fun K "_law_is_square" "_law_is_square" sLSq f fd) (C : Cl P w K mg base "_law_is_step" ["n", "thing"] 1 spLStep) : FnOk P w K mg base CX0 2 f fd ["n", "thing"] spLSq := by
  refine ok_pureG F scLSq rfl (by decide) fun cdv A outer s H E hr => ⟨_, pss_one (ps_ret (pe_and (pIsi B (pv 1) (nTuple B)) (pe_and (pe_cmpR op_eq (pLen B (pv 1)) (pv 0) (nomark _)) (pe_one (pe_cmpR (op_eqD hr.units) (pe_lc (own := [("row", 2)]) rfl scLSq.nd (piT K (pv 1)) (blkOk_by (own := [("row", 2)]) (N := ["n", "thing", "row"]) (sc := defScope sLSq) (by decide +kernel)) (fun _ _ _ _ _ => gN 2 scLSq.nd)
      (fun _ _ _ _ _ => pts_one (pt_not (pt_val (pCall C hr (by decide) (pa_cons (pv 0) (pa_cons (pv 2) pa_nil)))))) (fun _ _ _ _ _ => pv 2)) (pe_lst pa_nil) (nomark _)))))), fun p g hT hg => ?_⟩
  obtain ⟨m, r⟩ := g
  obtain ⟨sq, hm⟩ := hg
  dsimp only at sq hm
  have v1 : Ed p (tVar 1) (startR ["n", "thing", "row"] [.int (m : Int), matD r]) (matD r) := ex_var rfl
  refine rn_ret (d := .bool true) (ed_andV (a := true) (ed_isi v1 er_c rfl) (fun _ => ed_andV (a := true) (Ed.cast (ed_eqI (ed_cb (ea_one v1) (bc_len (.t _))) (ex_var rfl)) (by rw [List.length_map, sq.h]; simp)) (fun _ => Ed.cast (ed_eqD (d := .list []) (e := .list []) (Ed.cast (ed_lcF (fun _ => false) id (ii_tup (ds := r.map rowD) v1) (by have := sq.h; simp; omega) fun i d hd => ?_) ?_) (ed_lst ea_nil) eqd_nil eqd_nil) rfl) (fun z => by cases z)) (fun z => by cases z)) rfl
  · rw [List.getElem?_map] at hd
    obtain ⟨l, hl, rfl⟩ := Option.map_eq_some_iff.mp hd
    have hw := sq.w l (List.mem_of_getElem? hl)
    refine ⟨[2], _, fun j hj => hj, tg_name, et_notD (b := true) (et_test (ed_callG l (ea_consD (Ed.cast (ex_var rfl) (by rw [hw])) (ea_one (ex_var rfl))) rfl (by omega) (by simp) fun d h => h)), fun z => by cases z⟩
  · simp
end
end Kz
set_option Elab.async false
set_option linter.all false
set_option maxRecDepth 100000
set_option maxHeartbeats 4000000
namespace Kz
open PySem PySem.Spec PyProof.Rows L2
def unitM (n : Nat) : Mat := (List.range n).map fun i => (List.range n).map fun j => if i = j then 1 else 0
def chM (t c : Mat) : Mat := c.map fun one => c.map fun other => leanM t one other
section
variable {X : Cx} {e : Expr} {te : TE} {p pos : Pos}
theorem pAbs' (B : Bn X.mg) (h : PE X e te) (hg : Gl X "abs" := by rfl) (he : starEach [e] X.env = (false, eval e X.env) :: starEach [] X.env := by rfl) : PE X (.Call (.Name "abs" p) [e] [] pos) (tCB rAb (tCons te tNil)) := pAbs B h hg he
end
section
variable {P : Program} {w : World} {K : PySem.W.Frag} {mg : Str → Option Value} {base : Heap}
abbrev spLUnit : Sp := pureG [] 1 (G := Nat) (fun n => [.int (n : Int)]) (fun n => n ≤ 64) (fun n d => d = matD (unitM n))
theorem ok_lUnit (B : Bn mg) {f : Addr} {fd : FuncData} (F : Fun K "_law_unit" "_law_unit" sLUnit f fd) : FnOk P w K mg base CX0 1 f fd ["n"] spLUnit := by
  refine ok_pureG F scLUnit rfl (by decide) fun cdv A outer s H E hr => ⟨_, pss_one (ps_ret (pTuple B (pe_lc (own := [("i", 1)]) rfl scLUnit.nd (piR B (pv 0)) (blkOk_by (own := [("i", 1)]) (N := ["n", "i", "j"]) (sc := defScope sLUnit) (by decide +kernel)) (fun _ _ _ _ _ => gN 1 scLUnit.nd) (fun _ _ _ _ _ => pts_nil)
    (fun _ _ _ _ _ => pTup' K B (pe_lc (own := [("j", 2)]) rfl scLUnit.nd (piR B (pv 0)) (blkOk_by (own := [("j", 2)]) (N := ["n", "i", "j"]) (sc := relab (defScope sLUnit) _) (by decide +kernel)) (fun _ _ _ _ _ => gN 2 scLUnit.nd) (fun _ _ _ _ _ => pts_nil) (fun _ _ _ _ _ => pInt B (pe_cmpR op_eq (pv 1) (pv 2) (nomark _))))))))
    , fun p n hT hn => ?_⟩
  refine rn_ret (d := matD (unitM n)) (ed_cb (ea_one (ed_lcM ((unitM n).map rowD) (ii_rng1 (i := (n : Int)) (ex_var rfl) (by omega)) (by rw [rngD_len]; simp [unitM]) (by rw [rngD_len]; simp; omega) fun i d e hd he => ?_)) (bc_tuple (.l _))) rfl
  obtain ⟨hi, rfl⟩ := rngD_get hd
  have hi' : i < n := by simpa using hi
  have ei : (0 : Int) + (i : Int) = (i : Int) := by omega
  rw [ei]
  rw [List.getElem?_map] at he
  obtain ⟨row, hrow, rfl⟩ := Option.map_eq_some_iff.mp he
  unfold unitM at hrow
  rw [List.getElem?_map, List.getElem?_range hi'] at hrow
  cases hrow
  refine ⟨[1], _, fun j hj => hj, tg_name, ed_cb (ea_one (ed_lcM (((List.range n).map fun j => if i = j then (1 : Int) else 0).map .int) (ii_rng1 (i := (n : Int)) (ex_var rfl) (by omega)) (by rw [rngD_len]; simp) (by rw [rngD_len]; simp; omega) fun j d e hd he => ?_)) (bc_tuple (.l _))⟩
  obtain ⟨hj, rfl⟩ := rngD_get hd
  have hj' : j < n := by simpa using hj
  have ej : (0 : Int) + (j : Int) = (j : Int) := by omega
  rw [ej]
  rw [List.map_map, List.getElem?_map, List.getElem?_range hj'] at he
  cases he
  refine ⟨[2], _, fun j hj => hj, tg_name, Ed.cast (ed_cb (ea_one (ed_eqI (i := (i : Int)) (j := (j : Int)) (ex_var rfl) (ex_var rfl))) bc_intB) ?_⟩
  by_cases h : i = j
  · simp [h]
  · have : ¬ (i : Int) = (j : Int) := by omega
    simp [h, this]
abbrev spLChd : Sp := pureG [] 2 (G := Mat × Mat) (fun g => [matD g.1, matD g.2]) (fun g => (Bd 1000 g.1 ∧ Bd 1000 g.2) ∧ Sm g.1 ∧ g.2.length ≤ 64) (fun g d => d = matD (chM g.1 g.2))
theorem ok_lChd (B : Bn mg) {f : Addr} {fd : FuncData} (F : Fun K "_law_changed" "_law_changed" sLChd f fd) (C : Cl P w K mg base "_law_lean" ["form", "one", "other"] 1 spLLean) : FnOk P w K mg base CX0 2 f fd ["form", "change"] spLChd := by
  refine ok_pureG F scLChd rfl (by decide) fun cdv A outer s H E hr => ⟨_, pss_one (ps_ret (pTuple B (pe_lc (own := [("one", 2)]) rfl scLChd.nd (piT K (pv 1)) (blkOk_by (own := [("one", 2)]) (N := ["form", "change", "one", "other"]) (sc := defScope sLChd) (by decide +kernel)) (fun _ _ _ _ _ => gN 2 scLChd.nd) (fun _ _ _ _ _ => pts_nil)
    (fun _ _ _ _ _ => pTup' K B (pe_lc (own := [("other", 3)]) rfl scLChd.nd (piT K (pv 1)) (blkOk_by (own := [("other", 3)]) (N := ["form", "change", "one", "other"]) (sc := relab (defScope sLChd) _) (by decide +kernel)) (fun _ _ _ _ _ => gN 3 scLChd.nd) (fun _ _ _ _ _ => pts_nil) (fun _ _ _ _ _ => pCall C hr (by decide) (pa_cons (pv 0) (pa_cons (pv 2) (pa_cons (pv 3) pa_nil)))))))))
    , fun p g hT hg => ?_⟩
  obtain ⟨t, c⟩ := g
  obtain ⟨⟨bt, bc⟩, hs, hl⟩ := hg
  dsimp only at bt bc hs hl
  refine rn_ret (d := matD (chM t c)) (ed_cb (ea_one (ed_lcM ((chM t c).map rowD) (ii_tup (ds := c.map rowD) (ex_var rfl)) (by simp [chM]) (by simp; omega) fun i d e hd he => ?_)) (bc_tuple (.l _))) rfl
  unfold chM at he
  rw [List.map_map, List.getElem?_map] at he
  rw [List.getElem?_map] at hd
  obtain ⟨one, ho, rfl⟩ := Option.map_eq_some_iff.mp hd
  rw [ho] at he
  cases he
  refine ⟨[2], _, fun j hj => hj, tg_name, ed_cb (ea_one (ed_lcM ((c.map fun other => leanM t one other).map .int) (ii_tup (ds := c.map rowD) (ex_var rfl)) (by simp) (by simp; omega) fun j d e hd he => ?_)) (bc_tuple (.l _))⟩
  rw [List.map_map, List.getElem?_map] at he
  rw [List.getElem?_map] at hd
  obtain ⟨other, ho2, rfl⟩ := Option.map_eq_some_iff.mp hd
  rw [ho2] at he
  cases he
  exact ⟨[3], _, fun j hj => hj, tg_name, ed_callG (t, one, other) (ea_consD (ex_var rfl) (ea_consD (ex_var rfl) (ea_one (ex_var rfl)))) rfl ⟨⟨bt, bc one (List.mem_of_getElem? ho), bc other (List.mem_of_getElem? ho2)⟩, hs⟩ (by simp) fun d h => h⟩
/-- max([max([abs(g) for g in row]) for row in form]) <= most -/
abbrev spLLow : Sp := pureG [] 2 (G := Mat × Int) (fun g => [matD g.1, .int g.2]) (fun g => g.1 ≠ [] ∧ (∀ l ∈ g.1, l ≠ []) ∧ Sm g.1) (fun g d => ∃ b, d = .bool b ∧ (b = true → ∀ l ∈ g.1, ∀ x ∈ l, (x.natAbs : Int) ≤ g.2))
theorem ok_lLow (B : Bn mg) {f : Addr} {fd : FuncData} (F : Fun K "_law_is_low" "_law_is_low" sLLow f fd) : FnOk P w K mg base CX0 1 f fd ["form", "most"] spLLow := by
  refine ok_pureG F scLLow rfl (by decide) fun cdv A outer s H E hr => ⟨_, pss_one (ps_ret (pe_cmpR op_le (pMax B rfl (pe_lc (own := [("row", 2)]) rfl scLLow.nd (piT K (pv 0)) (blkOk_by (own := [("row", 2)]) (N := ["form", "most", "row", "g"]) (sc := defScope sLLow) (by decide +kernel)) (fun _ _ _ _ _ => gN 2 scLLow.nd) (fun _ _ _ _ _ => pts_nil)
    (fun _ _ _ _ _ => pMax' K B rfl (pe_lc (own := [("g", 3)]) rfl scLLow.nd (piT K (pv 2)) (blkOk_by (own := [("g", 3)]) (N := ["form", "most", "row", "g"]) (sc := relab (defScope sLLow) _) (by decide +kernel)) (fun _ _ _ _ _ => gN 3 scLLow.nd) (fun _ _ _ _ _ => pts_nil) (fun _ _ _ _ _ => pAbs' B (pv 3)))))) (pv 1) (nomark _)))
    , fun p g hT hg => ?_⟩
  obtain ⟨t, most⟩ := g
  obtain ⟨hne, hne2, hs1, hs2⟩ := hg
  dsimp only at hne hne2 hs1 hs2
  refine rn_retX (ex_op (P1 := fun d => ∃ m, d = .int m ∧ ∀ l ∈ t, ∀ x ∈ l, (x.natAbs : Int) ≤ m) (P2 := (· = .int most)) (P := fun d => ∃ b, d = .bool b ∧ (b = true → ∀ l ∈ t, ∀ x ∈ l, (x.natAbs : Int) ≤ most)) (ex_cb (ea_oneX (ex_lcR (fun i d e => ∃ m, e = .int m ∧ ∀ l, d = rowD l → ∀ x ∈ l, (x.natAbs : Int) ≤ m) (ii_tup (ds := t.map rowD) (ex_var rfl)) (by simp; omega) fun i d hd => ?_)) fun ds hds => ?_) (ex_var rfl) fun d e hd he => ?_) fun d h => h
  · rw [List.getElem?_map] at hd
    obtain ⟨row, hr', rfl⟩ := Option.map_eq_some_iff.mp hd
    have hrn := hne2 row (List.mem_of_getElem? hr')
    have hrl := hs2 row (List.mem_of_getElem? hr')
    refine ⟨[2], _, fun j hj => hj, tg_name, ed_cb (ea_one (ed_lcM ((row.map fun g => if g < 0 then -g else g).map .int) (ii_tup (ds := row.map .int) (ex_var rfl)) (by simp) (by simp; omega) fun j d e hd he => ?_)) ((bc_max (by rw [List.length_map]; exact List.length_pos_iff.mpr hrn)).imp fun d ⟨m, e, _, h⟩ => ⟨m, e, fun l el x hx => ?_⟩)⟩
    · rw [List.map_map, List.getElem?_map] at he
      rw [List.getElem?_map] at hd
      obtain ⟨x, hx, rfl⟩ := Option.map_eq_some_iff.mp hd
      rw [hx] at he
      cases he
      exact ⟨[3], _, fun j hj => hj, tg_name, ed_cb (ea_one (ex_var (d := .int x) rfl)) bc_abs⟩
    · have := rowD_inj el
      subst this
      have := h _ (List.mem_map.mpr ⟨x, hx, rfl⟩)
      split at this <;> omega
  · obtain ⟨d, rfl, es, rfl, hl, hall⟩ := hds
    have hex : ∀ es : List PyData, (∀ e ∈ es, ∃ m, e = PyData.int m) → ∃ ms : List Int, es = ms.map .int := by
      intro es
      induction es with
      | nil => exact fun _ => ⟨[], rfl⟩
      | cons e es ih =>
        intro h
        obtain ⟨m, rfl⟩ := h e (by simp)
        obtain ⟨ms, rfl⟩ := ih fun e he => h e (by simp [he])
        exact ⟨m :: ms, rfl⟩
    obtain ⟨ms, rfl⟩ := hex es fun e he => by
      obtain ⟨i, hi, rfl⟩ := List.mem_iff_getElem.mp he
      have hi' : i < (t.map rowD).length := by omega
      obtain ⟨m, hm, _⟩ := hall i _ _ (List.getElem?_eq_getElem hi') (List.getElem?_eq_getElem hi)
      exact ⟨m, hm⟩
    have hml : ms.length = t.length := by simpa using hl
    refine (bc_max (by rw [hml]; exact List.length_pos_iff.mpr hne)).imp fun d ⟨m, e, _, h⟩ => ⟨m, e, fun l hl x hx => ?_⟩
    obtain ⟨i, hi, rfl⟩ := List.mem_iff_getElem.mp hl
    obtain ⟨m', hm', h'⟩ := hall i (rowD t[i]) (.int (ms[i]'(by omega))) (by rw [List.getElem?_map, List.getElem?_eq_getElem hi]; rfl) (by rw [List.getElem?_map, List.getElem?_eq_getElem (by omega)]; rfl)
    cases hm'
    exact Int.le_trans (h' _ rfl x hx) (h _ (List.getElem_mem _))
  · obtain ⟨m, rfl, hm⟩ := hd
    subst he
    exact fun H0 O σ ρ H x y e hx hy Q q => r2_I0 (g' := fun i j => .bool (decide (i ≤ j))) (fun _ _ => .bl _) H0 O σ ρ H x y e hx hy Q fun v H2 f k o hv hf => q v H2 f k o hv ⟨_, hf, fun h l hl x hx => Int.le_trans (hm l hl x hx) (of_decide_eq_true h)⟩
end
end Kz
set_option Elab.async false
set_option linter.all false
set_option maxRecDepth 100000
set_option maxHeartbeats 4000000
namespace Kz
open PySem PySem.Spec PyProof.Rows L2
section
variable {P : Program} {w : World} {K : PySem.W.Frag} {mg : Str → Option Value} {base : Heap}
/-- the minor of row 0 -/
abbrev spLMinor : Sp := pureG [] 3 (G := Mat × Nat) (fun g => [matD g.1, .int 0, .int (g.2 : Int)]) (fun g => g.1.length ≤ 64 ∧ ∀ l ∈ g.1, l.length ≤ 64) (fun g d => d = matD (withoutM g.1 0 g.2))
theorem ok_lMinor (B : Bn mg) {f : Addr} {fd : FuncData} (F : Fun K "_law_minor" "_law_minor" sLMinor f fd) : FnOk P w K mg base CX0 1 f fd ["rows", "i", "j"] spLMinor := by
  refine ok_pureG F scLMinor rfl (by decide) fun cdv A outer s H E hr => ⟨_, pss_one (ps_ret (pTuple B (pe_lc (own := [("at", 3), ("row", 4)]) rfl scLMinor.nd (piE K B (pv 0)) (blkOk_by (own := [("at", 3), ("row", 4)]) (N := ["rows", "i", "j", "at", "row"]) (sc := defScope sLMinor) (by decide +kernel)) (fun _ _ _ _ _ => gP' K 3 4 rfl scLMinor.nd)
    (fun _ _ _ _ _ => pts_one (pt_cmpR op_ne (pv 3) (pv 1) (nomark _))) (fun _ _ _ _ _ => pe_op (opCat K) (pe_slice (slA K) (pv 4) po_none (po_some (pv 2))) (pe_slice (slA K) (pv 4) (po_some (pe_op op_add (pv 2) pe_int)) po_none)))))
    , fun p g hT hg => ?_⟩
  obtain ⟨r, j⟩ := g
  obtain ⟨h1, h2⟩ := hg
  dsimp only at h1 h2
  refine rn_ret (d := matD (withoutM r 0 j)) (ed_cb (ea_one (ex_lc (P := (· = .list ((withoutM r 0 j).map rowD))) (fun ds k es => es = (((r.take k).drop 1).map fun l => rowD (l.take j ++ l.drop (j + 1)))) (ii_enumT (ds := r.map rowD) (ex_var rfl)) (fun l e => by rw [e, enumD_len]; simp; omega) (fun l e => rfl) (fun l k d es hl hd iv => ?_) (fun l es hl iv => ?_))) (bc_tuple (.l _))) rfl
  · subst hl
    obtain ⟨x', hx', rfl⟩ := enumD_get hd
    rw [List.getElem?_map] at hx'
    obtain ⟨x, hx, rfl⟩ := Option.map_eq_some_iff.mp hx'
    have hxl := h2 x (List.mem_of_getElem? hx)
    refine ⟨_, _, _, ?_, tg_pair tg_name tg_name, et_test (ed_neI (i := (k : Int)) (j := 0) (ex_var rfl) (ex_var rfl)), fun e => ?_, fun e => ?_⟩
    · decide
    · have hk : ¬ k = 0 := by
        simp at e
        omega
      refine (Ed.cast (ed_catT (ed_slT (ds := x.map .int) (ex_var rfl) eo_no (eo_part (i := (j : Int)) (ex_var rfl))) (ed_slT (ds := x.map .int) (ex_var rfl) (eo_part (ed_add (i := (j : Int)) (ex_var rfl) ex_int)) eo_no) ?_) (d' := rowD (x.take j ++ x.drop (j + 1))) ?_).imp fun y hy => ?_
      · simp only [cutD]; simp; omega
      · rw [cutD_to]
        have e1 : ((j : Int) + 1) = ((j + 1 : Nat) : Int) := by omega
        rw [e1, cutD_from]
        unfold rowD
        rw [List.map_append, List.map_take, List.map_drop]
      · rw [iv, hy, List.take_add_one, hx]
        have hkl : k ≤ r.length := Nat.le_of_lt (List.getElem?_eq_some_iff.mp hx).1
        rw [List.drop_append_of_le_length (by rw [List.length_take]; omega), List.map_append]
        rfl
    · have hk : k = 0 := by
        simp at e
        omega
      subst hk
      rw [iv, List.take_add_one, hx]
      rfl
  · subst hl
    rw [iv, enumD_len, List.length_map, List.take_length]
    show _ = PyData.list _
    unfold withoutM
    rw [List.map_map]
    simp [Function.comp_def]
abbrev spLDet (m : Nat) : Sp := pureG [] 1 (G := Mat) (fun r => [matD r]) (fun r => Sq m r ∧ Bd 1000 r) (fun r d => d = .int (detE r))
theorem ok_lDet0 (B : Bn mg) {f : Addr} {fd : FuncData} (F : Fun K "_law_det" "_law_det" sLDet f fd) : FnOk P w K mg base CX0 1 f fd ["rows"] (spLDet 0) := by
  refine ok_pureG F scLDet rfl (by decide) fun cdv A outer s H E hr => ⟨_, pss_cons (ps_if (pt_cmpR op_eq (pLen B (pv 0)) pe_int (nomark _)) (pss_one (ps_ret pe_int)) pss_nil) pss_never, fun p r hT hg => ?_⟩
  refine rn_when_ (t := true) (et_test (Ed.cast (ed_eqI (ed_cb (ea_one (ex_var (d := matD r) rfl)) (bc_len (.t _))) ex_int) ?_)) (fun _ => rn_ret_ ex_int ?_) (fun e => by cases e)
  · rw [sq0 hg.1]; rfl
  · rw [sq0 hg.1]; rfl
theorem sgn_mul (j : Nat) (x y : Int) : (1 - 2 * ((j % 2 : Nat) : Int)) * x * y = sgn j (x * y) := by
  unfold sgn
  by_cases h : j % 2 = 1
  · rw [h]; simp [Int.neg_mul]
  · have : j % 2 = 0 := by omega
    rw [this]; simp
theorem sgn0 (j : Nat) (y : Int) : sgn j (0 * y) = 0 := by unfold sgn; split <;> simp
theorem ok_lDetS (B : Bn mg) {m k : Nat} (hm : m ≤ 2) {f : Addr} {fd : FuncData} (F : Fun K "_law_det" "_law_det" sLDet f fd) (Cw : Cl P w K mg base "_law_minor" ["rows", "i", "j"] 1 spLMinor)
    (C : Cl P w K mg base "_law_det" ["rows"] (k + 1) (spLDet m)) : FnOk P w K mg base CX0 (k + 2) f fd ["rows"] (spLDet (m + 1)) := by
  refine ok_pureG F scLDet rfl (by decide) fun cdv A outer s H E hr => ⟨_, pss_cons (ps_if (pt_cmpR op_eq (pLen B (pv 0)) pe_int (nomark _)) (pss_one (ps_ret pe_int)) pss_nil)
    (pss_one (ps_ret (pSum B rfl (pe_lc (own := [("j", 1), ("x", 2)]) rfl scLDet.nd (piE K B (pe_ix (ixT K) (pv 0) pe_int (fun _ _ => rfl))) (blkOk_by (own := [("j", 1), ("x", 2)]) (N := ["rows", "j", "x"]) (sc := defScope sLDet) (by decide +kernel)) (fun _ _ _ _ _ => gP' K 1 2 rfl scLDet.nd)
      (fun _ _ _ _ _ => pts_one (pt_cmpR op_ne (pv 2) pe_int (nomark _)))
      (fun _ _ _ _ _ => pe_op op_mulW (pe_op op_mulW (pe_op op_sub pe_int (pe_op op_mul pe_int (pe_op op_and (pv 1) pe_int))) (pv 2)) (pCall C hr (by omega) (pa_cons (pCall Cw hr (by omega) (pa_cons (pv 0) (pa_cons pe_int (pa_cons (pv 1) pa_nil)))) pa_nil))))))), fun p r hT hg => ?_⟩
  obtain ⟨sq, bd⟩ := hg
  have hlen := sq.h
  obtain ⟨row, hrow⟩ : ∃ row, r[0]? = some row := ⟨r[0], List.getElem?_eq_getElem (by omega)⟩
  have hmem : row ∈ r := List.mem_of_getElem? hrow
  have hwid : row.length = m + 1 := sq.w row hmem
  have hhd : r.headD [] = row := by rw [List.headD_eq_head?_getD, List.head?_eq_getElem?, hrow]; rfl
  refine rn_when_ (t := false) (et_test (Ed.cast (ed_eqI (ed_cb (ea_one (ex_var (d := matD r) rfl)) (bc_len (.t _))) ex_int) ?_)) (fun e => by cases e) fun _ => ?_
  · congr 1
    rw [decide_eq_false_iff_not, List.length_map, hlen]
    omega
  refine rn_ret (d := .int (detE r)) (ex_cb (ea_oneX (ex_lc (P := fun d => ∃ ns : List Int, d = .list (ns.map .int) ∧ ns.sum = detE r) (fun ds i es => ∃ ns : List Int, es = ns.map .int ∧ ns.sum = detP r i) (ii_enumT (ed_ixT (ds := r.map rowD) (d := rowD row) (ex_var rfl) ex_int (matD_at (j := 0) hrow)))
    (fun l e => by rw [e, enumD_len]; simp; omega) (fun l e => ⟨[], rfl, rfl⟩) (fun l i d es hl hd iv => ?_) (fun l es hl iv => ?_))) fun ds hds => ?_) rfl
  · subst hl
    obtain ⟨ns, rfl, hns⟩ := iv
    obtain ⟨x', hx', rfl⟩ := enumD_get hd
    rw [List.getElem?_map] at hx'
    obtain ⟨x, hx, rfl⟩ := Option.map_eq_some_iff.mp hx'
    have hi : i < row.length := (List.getElem?_eq_some_iff.mp hx).1
    have sqm := sq_minor sq (i := 0) (j := i) (by omega) (by omega)
    have bdm := bd_minor bd 0 i
    have bx := bd row hmem x (List.mem_of_getElem? hx)
    have hb1 : (1 - 2 * ((i % 2 : Nat) : Int)).natAbs < 2 ^ 1 := by omega
    have hmul := mul_ok (wide_lt hb1 bx) (det_bd sqm hm bdm (by decide))
    refine ⟨_, _, _, ?_, tg_pair tg_name tg_name, et_test (ed_neI (i := x) (j := 0) (ex_var rfl) ex_int), fun e => ?_, fun e => ?_⟩
    · decide
    · refine Ex.imp (P := (· = .int ((1 - 2 * ((i % 2 : Nat) : Int)) * x * detE (withoutM r 0 i)))) (ed_mulW (ed_mulW (Ed.cast (ed_sub ex_int (ed_mul (i := 2) (j := ((i % 2 : Nat) : Int)) ex_int (Ed.cast (ed_and (i := (i : Int)) (ex_var rfl) ex_int) (by rw [tr_odd])) (.inl (by omega)))) rfl) (ex_var rfl) (mul_ok hb1 bx)) (ed_callG (withoutM r 0 i) (ea_one (ed_callG (r, i) (ea_consD (ex_var rfl) (ea_consD ex_int (ea_one (ex_var rfl)))) rfl ⟨by show r.length ≤ 64; omega, fun l hl => by rw [sq.w l hl]; omega⟩ (by simp) fun d h => h)) rfl ⟨sqm, bdm⟩ (by simp) fun d h => h) hmul) fun y hy => ⟨ns ++ [sgn i (x * detE (withoutM r 0 i))], by rw [hy, sgn_mul]; simp, ?_⟩
      rw [List.sum_append, hns, detP_succ, hhd, getD_some hx]
      simp
    · have hx0 : x = 0 := by simpa using e
      refine ⟨ns, rfl, ?_⟩
      rw [hns, detP_succ, hhd, getD_some hx, hx0, sgn0]
      simp
  · subst hl
    obtain ⟨ns, rfl, hns⟩ := iv
    rw [enumD_len, List.length_map, hwid, detP_all sq (by omega)] at hns
    exact ⟨ns, rfl, hns⟩
  · obtain ⟨d, rfl, ns, rfl, hns⟩ := hds
    rw [← hns]
    exact bc_sum
abbrev spLDetA : Sp := pureG [] 1 (G := Mat) (fun r => [matD r]) (fun r => (∃ m, m ≤ 3 ∧ Sq m r) ∧ Bd 1000 r) (fun r d => d = .int (detE r))
theorem ok_lDet (B : Bn mg) (D : Df K mg "_law_det" ["rows"] sLDet) (Cw : Cl P w K mg base "_law_minor" ["rows", "i", "j"] 1 spLMinor) : FnOk P w K mg base CX0 4 D.f D.fd ["rows"] spLDetA := by
  have g0 : FnOk P w K mg base CX0 1 D.f D.fd ["rows"] (spLDet 0) := ok_lDet0 B D.F
  have g1 : FnOk P w K mg base CX0 2 D.f D.fd ["rows"] (spLDet 1) := ok_lDetS (m := 0) (k := 0) B (by decide) D.F Cw (D.cl g0)
  have g2 : FnOk P w K mg base CX0 3 D.f D.fd ["rows"] (spLDet 2) := ok_lDetS (m := 1) (k := 1) B (by decide) D.F Cw (D.cl g1)
  have g3 : FnOk P w K mg base CX0 4 D.f D.fd ["rows"] (spLDet 3) := ok_lDetS (m := 2) (k := 2) B (by decide) D.F Cw (D.cl g2)
  refine ⟨fun vs H Q E ⟨r, _, h⟩ => h.1, fun A outer s H args us vs Q E hr he hb hv ⟨r, ⟨⟨m, hm, sq⟩, bd⟩, h⟩ => ?_⟩
  match m, hm, sq with
  | 0, _, sq => exact g0.run A outer s H args us vs Q E (hr.mono (by decide)) he hb hv ⟨r, ⟨sq, bd⟩, h⟩
  | 1, _, sq => exact g1.run A outer s H args us vs Q E (hr.mono (by decide)) he hb hv ⟨r, ⟨sq, bd⟩, h⟩
  | 2, _, sq => exact g2.run A outer s H args us vs Q E (hr.mono (by decide)) he hb hv ⟨r, ⟨sq, bd⟩, h⟩
  | 3, _, sq => exact g3.run A outer s H args us vs Q E hr he hb hv ⟨r, ⟨sq, bd⟩, h⟩
end
end Kz
set_option Elab.async false
set_option linter.all false
set_option maxRecDepth 100000
set_option maxHeartbeats 4000000
namespace Kz
open PySem PySem.Spec PyProof.Rows L2
theorem ent_row {m : Nat} {r : Mat} (s : Sq m r) {i : Nat} {row : List Int} (h : r[i]? = some row) (j : Nat) : row.getD j 0 = ent r i j := by
  unfold ent
  rw [List.getD_eq_getElem?_getD (l := r), h]; rfl
theorem row_col {m : Nat} {r : Mat} (s : Sq m r) {i : Nat} {row : List Int} (h : r[i]? = some row) : row = r.map (fun l => l.getD i 0) ↔ ∀ j, j < m → ent r i j = ent r j i := by
  have hw := s.w row (List.mem_of_getElem? h)
  constructor
  · intro e j hj
    have hj' : j < r.length := by rw [s.h]; exact hj
    rw [← ent_row s h j, e, List.getD_eq_getElem?_getD, List.getElem?_map, List.getElem?_eq_getElem hj']
    exact ent_row s (List.getElem?_eq_getElem hj') i
  · intro e
    apply List.ext_getElem?
    intro j
    by_cases hj : j < m
    · have hj' : j < r.length := by rw [s.h]; exact hj
      have hj2 : j < row.length := by omega
      rw [List.getElem?_map, List.getElem?_eq_getElem hj', List.getElem?_eq_getElem hj2]
      have := e j hj
      rw [← ent_row s h j, ← ent_row s (List.getElem?_eq_getElem hj') i, List.getD_eq_getElem?_getD, List.getElem?_eq_getElem hj2] at this
      exact congrArg some this
    · rw [List.getElem?_eq_none (by omega), List.getElem?_eq_none (by rw [List.length_map, s.h]; omega)]
section
variable {P : Program} {w : World} {K : PySem.W.Frag} {mg : Str → Option Value} {base : Heap}
abbrev spLTab : Sp := pureG [] 1 (G := Nat × Mat) (fun g => [matD g.2]) (fun g => Sq g.1 g.2 ∧ g.1 ≤ 3) (fun g d => ∃ b, d = .bool b ∧ (b = true ↔ 1 ≤ g.1 ∧ SymM g.2))
theorem ok_lTab (B : Bn mg) {f : Addr} {fd : FuncData} (F : Fun K "_law_is_table" "_law_is_table" sLTab f fd) (C : Cl P w K mg base "_law_is_square" ["n", "thing"] 2 spLSq) : FnOk P w K mg base CX0 3 f fd ["thing"] spLTab := by
  refine ok_pureG F scLTab rfl (by decide) fun cdv A outer s H E hr => ⟨_, pss_cons (ps_if (PW.pt (pw_or (pt_not (pt_val (pIsi B (pv 0) (nTuple B)))) (pw_or (pt_not (pt_chain op_le op_le pe_int (pLen B (pv 0)) pe_int)) (pw_or1 (pt_not (pt_val (pCall C hr (by decide) (pa_cons (pLen B (pv 0)) (pa_cons (pv 0) pa_nil))))))))) (pss_one (ps_ret pe_bl)) pss_nil)
    (pss_one (ps_ret (pe_cmpR (op_eqD hr.units) (pe_lc (own := [("i", 1), ("row", 2)]) rfl scLTab.nd (piE K B (pv 0)) (blkOk_by (own := [("i", 1), ("row", 2)]) (N := ["thing", "i", "row", "other"]) (sc := defScope sLTab) (by decide +kernel)) (fun _ _ _ _ _ => gP' K 1 2 rfl scLTab.nd)
      (fun _ _ _ _ _ => pts_one (pt_cmpR (opNeD K hr.units) (pv 2) (pTup' K B (pe_lc (own := [("other", 3)]) rfl scLTab.nd (piT K (pv 0)) (blkOk_by (own := [("other", 3)]) (N := ["thing", "i", "row", "other"]) (sc := relab (defScope sLTab) _) (by decide +kernel)) (fun _ _ _ _ _ => gN 3 scLTab.nd) (fun _ _ _ _ _ => pts_nil) (fun _ _ _ _ _ => pe_ix (ixT K) (pv 3) (pv 1) (fun _ _ => rfl)))) (nomark _))) (fun _ _ _ _ _ => pe_int)) (pe_lst pa_nil) (nomark _)))), fun p g hT hg => ?_⟩
  obtain ⟨m, r⟩ := g
  obtain ⟨sq, hm⟩ := hg
  dsimp only at sq hm
  have v0 : Ed p (tVar 0) (startR ["thing", "i", "row", "other"] [matD r]) (matD r) := ex_var rfl
  have hln : Ed p (tCB (rLn K) (tCons (tVar 0) tNil)) (startR ["thing", "i", "row", "other"] [matD r]) (.int (m : Int)) := Ed.cast (ed_cb (ea_one v0) (bc_len (.t _))) (by rw [List.length_map, sq.h])
  refine rn_when_ (t := !decide (1 ≤ m)) (et_orX (a := false) (b := !decide (1 ≤ m)) (et_notTup v0 er_c) (fun _ => et_orX (a := !decide (1 ≤ m)) (b := false) (et_notX (b := decide (1 ≤ m)) (et_testE (ed_chainII (f := fun i j => decide (i ≤ j)) (g := fun i j => decide (i ≤ j)) ex_int hln ex_int) ?_) rfl) (fun e => et_notX (b := true) (et_testE (b := true) ?_ rfl) rfl) (by simp)) (by simp)) (fun e => rn_ret_ ex_bool ⟨false, rfl, ?_⟩) fun e => ?_
  · have : decide ((m : Int) ≤ 3) = true := decide_eq_true (by omega)
    rw [this, Bool.and_true]
    rw [Bool.eq_iff_iff, decide_eq_true_iff, decide_eq_true_iff]
    omega
  · exact ed_callG (m, r) (ea_consD hln (ea_one v0)) rfl ⟨sq, hm⟩ (by simp) fun d h => h
  · simp at e
    simp
    omega
  have hm1 : 1 ≤ m := by simp at e; omega
  refine rn_retX (P := fun d => ∃ b, d = .bool b ∧ (b = true ↔ SymM r)) (ex_op (P1 := fun d => ∃ ns : List Int, d = .list (ns.map .int) ∧ (ns = [] ↔ SymM r)) (P2 := (· = .list [])) (ex_lc (fun ds k es => ∃ ns : List Int, es = ns.map .int ∧ (ns = [] ↔ ∀ i, i < k → ∀ j, j < m → ent r i j = ent r j i)) (ii_enumT (ds := r.map rowD) v0) (fun l e => by rw [e, enumD_len]; have := sq.h; simp; omega) (fun l e => ⟨[], rfl, by simp⟩) (fun l k d es hl hd iv => ?_) (fun l es hl iv => ?_)) (ed_lst ea_nil) fun d e ⟨ns, h1, h2⟩ he => ?_) (fun d ⟨b, h1, h2⟩ => ⟨b, h1, h2.trans ⟨fun q => ⟨hm1, q⟩, fun q => q.2⟩⟩)
  · subst hl
    obtain ⟨ns, rfl, hns⟩ := iv
    obtain ⟨x', hx', rfl⟩ := enumD_get hd
    rw [List.getElem?_map] at hx'
    obtain ⟨row, hrow, rfl⟩ := Option.map_eq_some_iff.mp hx'
    have hk : k < m := by have := (List.getElem?_eq_some_iff.mp hrow).1; have := sq.h; omega
    refine ⟨_, _, _, ?_, tg_pair tg_name tg_name, et_test (ed_neD (d := rowD row) (e := rowD (r.map fun l => l.getD k 0)) (ex_var rfl) (ed_cb (ea_one (ed_lcM ((r.map fun l => l.getD k 0).map .int) (ii_tup (ds := r.map rowD) (ex_var rfl)) (by simp) (by have := sq.h; simp; omega) fun j d e hd he => ?_)) (bc_tuple (.l _))) (eqd_row _) (eqd_row _)), fun e => ?_, fun e => ?_⟩
    · decide
    · rw [List.map_map, List.getElem?_map] at he
      rw [List.getElem?_map] at hd
      obtain ⟨o, ho, rfl⟩ := Option.map_eq_some_iff.mp hd
      rw [ho] at he
      cases he
      have how := sq.w o (List.mem_of_getElem? ho)
      refine ⟨[3], _, fun j hj => hj, tg_name, ed_ixT (ds := o.map .int) (i := (k : Int)) (ex_var rfl) (ex_var rfl) (rowD_at ?_)⟩
      show _ = some (o.getD k 0)
      rw [List.getElem?_eq_getElem (by omega), List.getD_eq_getElem?_getD, List.getElem?_eq_getElem (by omega)]; rfl
    · rw [eqv_row] at e
      have hne : ¬ row = r.map fun l => l.getD k 0 := by simpa using e.symm
      refine Ex.imp (P := (· = .int 1)) ex_int fun y hy => ⟨ns ++ [1], by rw [hy]; simp, ?_⟩
      simp
      refine ⟨k, by omega, ?_⟩
      rw [row_col sq hrow] at hne
      simpa using hne
    · rw [eqv_row] at e
      have he : row = r.map fun l => l.getD k 0 := by simpa using e.symm
      rw [row_col sq hrow] at he
      refine ⟨ns, rfl, hns.trans ⟨fun q i hi => ?_, fun q i hi => q i (by omega)⟩⟩
      rcases Nat.lt_succ_iff_lt_or_eq.mp hi with z | z
      · exact q i z
      · rw [z]; exact he
  · subst hl
    obtain ⟨ns, rfl, hns⟩ := iv
    rw [enumD_len, List.length_map, sq.h] at hns
    exact ⟨ns, rfl, hns.trans ⟨fun q => sym_of sq fun i j h1 h2 => q i h2 j (by omega), fun q i _ j _ => q i j⟩⟩
  · subst h1 he
    exact fun H0 O σ ρ H x y en hx hy Q q => ⟨_, _, hx.dp _ x (hdI ns), hy.dp _ y rfl, shI ns, shI [], q _ H _ (Kq.refl H) en.ok (.bl _) ⟨_, rfl, by rw [eqv_nilI, decide_eq_true_iff]; exact h2⟩⟩
abbrev spLForm : Sp := pureG [] 1 (G := Nat × Mat) (fun g => [matD g.2]) (fun g => (Sq g.1 g.2 ∧ g.1 ≤ 3) ∧ Bd 1000 g.2) (fun g d => ∃ b, d = .bool b ∧ (b = true ↔ FormM g.1 g.2))
theorem ok_lForm (B : Bn mg) {f : Addr} {fd : FuncData} (F : Fun K "_law_is_form" "_law_is_form" sLForm f fd) (C : Cl P w K mg base "_law_is_table" ["thing"] 3 spLTab) (C2 : Cl P w K mg base "_law_det" ["rows"] 4 spLDetA) : FnOk P w K mg base CX0 5 f fd ["thing"] spLForm := by
  refine ok_pureG F scLForm rfl (by decide) fun cdv A outer s H E hr => ⟨_, pss_cons (ps_if (pt_not (pt_val (pCall C hr (by decide) (pa_cons (pv 0) pa_nil)))) (pss_one (ps_ret pe_bl)) pss_nil)
    (pss_one (ps_ret (pe_cmpR (op_eqD hr.units) (pe_lc (own := [("k", 1)]) rfl scLForm.nd (piR2 B pe_int (pe_op op_add (pLen B (pv 0)) pe_int)) (blkOk_by (own := [("k", 1)]) (N := ["thing", "k", "row"]) (sc := defScope sLForm) (by decide +kernel)) (fun _ _ _ _ _ => gN 1 scLForm.nd)
      (fun _ _ _ _ _ => pts_one (pt_cmpR op_le (pCall C2 hr (by decide) (pa_cons (pTup' K B (pe_lc (own := [("row", 2)]) rfl scLForm.nd (piT K (pe_slice (slA K) (pv 0) po_none (po_some (pv 1)))) (blkOk_by (own := [("row", 2)]) (N := ["thing", "k", "row"]) (sc := relab (defScope sLForm) _) (by decide +kernel)) (fun _ _ _ _ _ => gN 2 scLForm.nd) (fun _ _ _ _ _ => pts_nil) (fun _ _ _ _ _ => pe_slice (slA K) (pv 2) po_none (po_some (pv 1))))) pa_nil)) pe_int (nomark _))) (fun _ _ _ _ _ => pv 1)) (pe_lst pa_nil) (nomark _)))), fun p g hT hg => ?_⟩
  obtain ⟨m, r⟩ := g
  obtain ⟨⟨sq, hm⟩, bd⟩ := hg
  dsimp only at sq hm bd
  have v0 : Ed p (tVar 0) (startR ["thing", "k", "row"] [matD r]) (matD r) := ex_var rfl
  refine rn_seq (Nm := fun ρ => ρ = startR ["thing", "k", "row"] [matD r] ∧ 1 ≤ m ∧ SymM r) (rn_ifX (P := fun b => b = true ↔ ¬ (1 ≤ m ∧ SymM r)) (et_notR (P := fun b => b = true ↔ 1 ≤ m ∧ SymM r) (et_testX (P := fun d => ∃ b, d = .bool b ∧ (b = true ↔ 1 ≤ m ∧ SymM r)) (ex_callG (m, r) (ea_one v0) rfl ⟨sq, hm⟩ (by simp)) (fun d h => h)) (fun b h => ?_)) (fun e => rn_ret ex_bool ⟨false, rfl, ?_⟩) (fun e => rn_next ⟨rfl, ?_⟩)) ?_
  · rw [← h]; cases b <;> simp
  · have := e.mp rfl
    constructor
    · intro z; cases z
    · exact fun f => absurd ⟨f.lo, f.sym⟩ this
  · by_cases z : 1 ≤ m ∧ SymM r
    · exact z
    · have := e.mpr z; cases this
  rintro ρ ⟨rfl, hm1, hsym⟩
  refine rn_retX (P := fun d => ∃ b, d = .bool b ∧ (b = true ↔ ∀ k, 1 ≤ k → k ≤ m → 0 < detE (lead r k))) (ex_op (P1 := fun d => ∃ ns : List Int, d = .list (ns.map .int) ∧ (ns = [] ↔ ∀ k, 1 ≤ k → k ≤ m → 0 < detE (lead r k))) (P2 := (· = .list [])) (ex_lc (fun ds i es => ∃ ns : List Int, es = ns.map .int ∧ (ns = [] ↔ ∀ k, 1 ≤ k → k ≤ i → 0 < detE (lead r k))) (ii_rng2 ex_int (ed_add (i := (m : Int)) (Ed.cast (ed_cb (ea_one v0) (bc_len (.t _))) (by rw [List.length_map, sq.h])) ex_int) (by omega)) (fun l e => by rw [e, rngD_len]; omega) (fun l e => ⟨[], rfl, ⟨fun _ k h1 h2 => by omega, fun _ => rfl⟩⟩) (fun l i d es hl hd iv => ?_) (fun l es hl iv => ?_)) (ed_lst ea_nil) fun d e ⟨ns, h1, h2⟩ he => ?_) (fun d ⟨b, h1, h2⟩ => ⟨b, h1, h2.trans ⟨fun q => ⟨sq, hm1, hm, hsym, q⟩, fun q => q.pos⟩⟩)
  · subst hl
    obtain ⟨ns, rfl, hns⟩ := iv
    obtain ⟨hi, rfl⟩ := rngD_get hd
    have ek : (1 : Int) + (i : Int) = ((i + 1 : Nat) : Int) := by omega
    rw [ek]
    have hk : i + 1 ≤ m := by omega
    have okk : (∃ m, m ≤ 3 ∧ Sq m (lead r (i + 1))) ∧ Bd 1000 (lead r (i + 1)) := ⟨⟨i + 1, by omega, sq_lead sq hk⟩, bd_lead bd⟩
    refine ⟨[1], _, _, by simp, tg_name, et_test (ed_cmp (c := fun i j => decide (i ≤ j)) (i := detE (lead r (i + 1))) (ed_callG (lead r (i + 1)) (ea_one (ed_cb (ea_one (ed_lcM ((lead r (i + 1)).map rowD) (ii_tup (Ed.cast (ed_slT (ds := r.map rowD) (ex_var rfl) eo_no (eo_part (i := ((i + 1 : Nat) : Int)) (ex_var rfl))) (by rw [cutD_to, ← List.map_take]))) (by unfold lead; simp) (by have := sq.h; simp; omega) fun j d e hd he => ?_)) (bc_tuple (.l _)))) rfl okk (by simp) fun d h => h) ex_int), fun e => ?_, fun e => ?_⟩
    · unfold lead at he
      rw [List.map_map, List.getElem?_map] at he
      rw [List.getElem?_map] at hd
      obtain ⟨l, hl', rfl⟩ := Option.map_eq_some_iff.mp hd
      rw [hl'] at he
      cases he
      refine ⟨[2], _, fun j hj => hj, tg_name, Ed.cast (ed_slT (ds := l.map .int) (ex_var rfl) eo_no (eo_part (i := ((i + 1 : Nat) : Int)) (ex_var rfl))) ?_⟩
      rw [cutD_to, ← List.map_take]; rfl
    · have hle : detE (lead r (i + 1)) ≤ 0 := of_decide_eq_true e.symm
      refine Ex.imp (P := (· = .int ((i + 1 : Nat) : Int))) (ex_var rfl) fun y hy => ⟨ns ++ [((i + 1 : Nat) : Int)], by rw [hy]; simp, ⟨fun z => by simp at z, fun q => ?_⟩⟩
      have := q (i + 1) (by omega) (by omega)
      omega
    · have hlt : 0 < detE (lead r (i + 1)) := by
        have := of_decide_eq_false e.symm
        omega
      refine ⟨ns, rfl, hns.trans ⟨fun q k h1 h2 => ?_, fun q k h1 h2 => q k h1 (by omega)⟩⟩
      by_cases z : k = i + 1
      · rw [z]; exact hlt
      · exact q k h1 (by omega)
  · subst hl
    obtain ⟨ns, rfl, hns⟩ := iv
    rw [rngD_len] at hns
    have : ((m : Int) + 1 - 1).toNat = m := by omega
    rw [this] at hns
    exact ⟨ns, rfl, hns⟩
  · subst h1 he
    exact fun H0 O σ ρ H x y en hx hy Q q => ⟨_, _, hx.dp _ x (hdI ns), hy.dp _ y rfl, shI ns, shI [], q _ H _ (Kq.refl H) en.ok (.bl _) ⟨_, rfl, by rw [eqv_nilI, decide_eq_true_iff]; exact h2⟩⟩
end
end Kz
set_option Elab.async false
set_option linter.all false
set_option maxRecDepth 100000
set_option maxHeartbeats 4000000
namespace Kz
open PySem PySem.Spec PyProof.Rows L2
/-! walks that stand while this def's own lists stand -/
structure WkZ (p : Pm) (O : Addr → Prop) (Hs : Hp) (J : It) (ds : List PyData) : Prop where
  go : ∀ O' H' i, Kq p.Z Hs H' → Lat p O Hs O' H' → i < ds.length → J.go i H'
  stop : ∀ O' H', Kq p.Z Hs H' → Lat p O Hs O' H' → J.stop ds.length H'
  yld : ∀ O' H' i x H'' d, Kq p.Z Hs H' → Lat p O Hs O' H' → ds[i]? = some d → J.yld i H' x H'' → Kp H' H'' ∧ Dv (SO p O') H'' x d
def Iz (p : Pm) (wi : TI) (ρ : Rho) (P : List PyData → Prop) : Prop := ∀ H0 O σ H, En p H0 O σ H ρ → ∀ R : It → Hp → Prop, (∀ J H2 ds, Kq p.Z H H2 → Ok p H2 → P ds → WkZ p O H2 J ds → R J H2) → wi σ H R
section
variable {p : Pm} {ρ : Rho} {ta tb te : TE} {tt : TT} {w : Po}
theorem Ii.z {wi : TI} {P : List PyData → Prop} (h : Ii p wi ρ P) : Iz p wi ρ P := fun H0 O σ H e R q => h H0 O σ H e R fun J H2 ds k o pd w => q J H2 ds k o pd ⟨fun O' H' i _ => w.go O' H' i, fun O' H' _ => w.stop O' H', fun O' H' i x H'' d _ => w.yld O' H' i x H'' d⟩
theorem ex_lcZ {wi : TI} {g : TG} {vs : List Nat} {Pi : List PyData → Prop} {P : PyData → Prop} (inv : List PyData → Nat → List PyData → Prop) (hi : Iz p wi ρ Pi) (hz : ∀ ds, Pi ds → ds.length ≤ 10000) (h0 : ∀ ds, Pi ds → inv ds 0 [])
    (hs : ∀ ds i d es, Pi ds → ds[i]? = some d → inv ds i es → ∃ (ts : List Nat) (ρ' : Rho) (Pt : Bool → Prop), (∀ i ∈ ts, i ∈ vs) ∧ Tg p g ts (wipeR ρ vs) d ρ' ∧ Et p tt ρ' Pt ∧ (Pt true → Ex p te ρ' (fun e => inv ds (i + 1) (es ++ [e]))) ∧ (Pt false → inv ds (i + 1) es))
    (hd : ∀ ds es, Pi ds → inv ds ds.length es → P (.list es)) : Ex p (tLc wi g tt te vs) ρ P := fun H0 O σ H e Q q => by
  refine hi H0 O σ H e _ fun J H1 ds k1 o1 pi w => ?_
  intro D hD
  have e1 := e.kq k1 o1
  have hwi : wipe (wipe σ vs) vs = wipe σ vs := wipe_ext (wipe_length _ _) fun i hi => wipe_off σ hi
  -- behind i turns
  let St : Nat → Hp → Prop := fun i H' => i ≤ ds.length ∧ ∃ es xs, Kq p.Z H1 H' ∧ Ok p H' ∧ H' D = some (.lst xs) ∧ DvL (SO p (fun a => O a ∨ a = D)) H' xs es ∧ xs.length ≤ i ∧ inv ds i es
  have hnS : ¬ p.S D := fun z => fresh_so e1 hD (.inl z)
  have mk : ∀ {H' : Hp} {xs : List V}, Kq p.Z H1 H' → Ok p H' → H' D = some (.lst xs) → Lat p O H1 (fun a => O a ∨ a = D) H' ∧ En p H0 (fun a => O a ∨ a = D) (wipe σ vs) H' (wipeR ρ vs) := fun {H' xs} k' o' hD' => by
    have l : Lat p O H1 (fun a => O a ∨ a = D) H' := ⟨k'.mono fun _ z => .inl z, fun a h => .inl h, fun a h => h.elim .inl fun z => .inr (by rw [z]; exact hD), o', fun a h => by
      rcases h with h | h
      · obtain ⟨n, ns, ys, hy⟩ := e1.ow a h
        exact ⟨ys, k'.at_ a _ (fun z => ns (p.zs a z)) hy nt_lst⟩
      · rw [h]; exact ⟨xs, hD'⟩⟩
    refine ⟨l, ?_⟩
    have ew := (e1.wipe vs).kq k' o'
    refine ⟨ew.fr, fun a h => .inl (ew.bo a h), o', fun a h => ?_, fun i s h => ?_, ew.un, ew.ln⟩
    · rcases h with h | h
      · exact ew.ow a h
      · rw [h]; exact ⟨.inr (e1.fr.back hD), hnS, xs, hD'⟩
    · have hs := (e1.wipe vs).sl i s h
      cases s with
      | dat d => obtain ⟨v, g1, g2⟩ := hs; exact ⟨v, g1, l.dv g2⟩
      | own ds =>
        obtain ⟨a, ys, g1, g2, g3, g4⟩ := hs
        refine ⟨a, ys, g1, .inl g2, k'.at_ a _ (fun z => (e1.ow a g2).2.1 (p.zs a z)) g3 nt_lst, g4.map (fun b n t z => ?_) fun b o n eb t => k'.at_ b o (fun z => n (so_z b z)) eb t⟩
        rcases z with z | z | z
        · exact n (.inl z)
        · exact n (.inr z)
        · exact t (by rw [z]; exact hD)
      | raw v => exact hs
      | rng lo hi =>
        obtain ⟨a, g1, g2, g3⟩ := hs
        refine ⟨a, g1, fun z => ?_, k'.at_ a _ (fun z => g2 (so_z a z)) g3 (fun _ q => by cases q)⟩
        rcases z with z | z | z
        · exact g2 (.inl z)
        · exact g2 (.inr z)
        · rw [z, hD] at g3; cases g3
  refine ⟨fun i m H' => m = ds.length - i ∧ St i H', ⟨ds.length, by simp, Nat.zero_le _, [], [], ?_, ?_, upd_same, .nil, Nat.zero_le _, h0 ds pi⟩, ?_⟩
  · exact Kq.new hD
  · exact o1.kp (Kq.new hD)
  rintro i m H' ⟨rfl, hil, es, xs, k', o', hD', hes, hxl, iv⟩
  obtain ⟨l, eL⟩ := mk k' o' hD'
  by_cases hlt : i < ds.length
  · refine .inr ⟨w.go _ H' i k' l hlt, St (i + 1), fun H'' s => ⟨ds.length - (i + 1), by omega, rfl, s⟩, fun x H2 y => ?_⟩
    obtain ⟨d, hdi⟩ : ∃ d, ds[i]? = some d := ⟨ds[i], List.getElem?_eq_getElem hlt⟩
    obtain ⟨k2, hx⟩ := w.yld _ H' i x H2 d k' l hdi y
    obtain ⟨ts, ρ', Pt, hts, tg, et, ht, hf⟩ := hs ds i d es pi hdi iv
    have e2 := eL.kp k2
    refine tg H0 _ _ H2 x e2 hx _ fun σ3 e3 wp => ⟨by rw [wp vs hts, hwi], ?_⟩
    refine et H0 _ σ3 H2 e3 _ fun b H4 k4 o4 pb => ?_
    have kk : Kq p.Z H1 H4 := (k'.trans k2.up).trans k4
    have hD4 : H4 D = some (.lst xs) := k4.at_ D _ (fun z => hnS (p.zs D z)) (k2.at_ D _ (fun z => z) hD' nt_lst) nt_lst
    have hes4 := (hes.kp k2).kq k4 so_z
    cases b with
    | false =>
      rw [if_neg (by decide)]
      exact ⟨hlt, es, xs, kk, o4, hD4, hes4, Nat.le_succ_of_le hxl, hf pb⟩
    | true =>
      rw [if_pos rfl]
      refine ht pb H0 _ σ3 H4 (e3.kq k4 o4) _ fun v H5 f k5 o5 hv iv' => ?_
      have hD5 : H5 D = some (.lst xs) := k5.at_ D _ (fun z => hnS (p.zs D z)) hD4 nt_lst
      have hes5 := hes4.kq k5 so_z
      have hzz := hz ds pi
      refine ⟨xs, hD5, Nat.lt_of_lt_of_le (show xs.length < 20000 by omega) (by decide), hlt, es ++ [f], xs ++ [v], Kq.own (kk.trans k5) hD hD5 nt_lst, ?_, upd_same, ?_, by rw [List.length_append]; exact Nat.succ_le_succ hxl, iv'⟩
      · have ko : ∀ a, p.S a → upd H5 D (.lst (xs ++ [v])) a = H5 a := fun a z => upd_ne fun q => hnS (q ▸ z)
        refine ⟨fun a z => by rw [ko a z]; exact o5.tr a z, fun P hP => ?_, p.ms _ _ o5.mm ko⟩
        obtain ⟨ps, hp, tp⟩ := o5.tb P hP
        exact ⟨ps, by rw [upd_ne (fun q => by rw [q, hD5] at hp; cases hp)]; exact hp, tp⟩
      · have off : ∀ (a : Addr) (o : HO), ¬ SO p (fun a => O a ∨ a = D) a → H5 a = some o → NT o → upd H5 D (.lst (xs ++ [v])) a = some o := fun a o n eo _ => by
          rw [upd_ne fun q => n (.inr (.inr q))]; exact eo
        exact DvL.map (fun _ n _ => n) off _ _ (hes5.append (.one hv))
  · have he : i = ds.length := by omega
    subst he
    refine .inl ⟨w.stop _ H' k' l, q (.ref D) H' (.list es) (k1.trans k') o' (.lst (fun z => ?_) hD' (hes.map (fun a n _ z => n (z.elim .inl fun z => .inr (.inl z))) fun a o n eo t => eo)) (hd ds es pi iv)⟩
    exact fresh_so e1 hD z
/-- a comprehension without a test, item by item -/
theorem ex_lcRZ {wi : TI} {g : TG} {vs : List Nat} {ds : List PyData} (R : Nat → PyData → PyData → Prop) (hi : Iz p wi ρ (· = ds)) (hz : ds.length ≤ 10000)
    (hs : ∀ (i : Nat) (d : PyData), ds[i]? = some d → ∃ (ts : List Nat) (ρ' : Rho), (∀ i ∈ ts, i ∈ vs) ∧ Tg p g ts (wipeR ρ vs) d ρ' ∧ Ex p te ρ' (R i d)) :
    Ex p (tLc wi g tYes te vs) ρ (fun r => ∃ es, r = .list es ∧ es.length = ds.length ∧ ∀ i d e, ds[i]? = some d → es[i]? = some e → R i d e) := by
  refine ex_lcZ (fun ds' i es => ds' = ds ∧ i ≤ ds.length ∧ es.length = i ∧ ∀ j d e, ds[j]? = some d → es[j]? = some e → R j d e) hi (fun l e => by rw [e]; exact hz) (fun l e => ⟨e, Nat.zero_le _, rfl, fun j d e h1 h2 => by simp at h2⟩) (fun l i d es hl hd iv => ?_) (fun l es hl iv => ⟨es, rfl, by rw [iv.2.2.1, hl], iv.2.2.2⟩)
  subst hl
  obtain ⟨_, hil, hlen, hall⟩ := iv
  obtain ⟨ts, ρ', h1, h2, h3⟩ := hs i d hd
  have hlt : i < l.length := (List.getElem?_eq_some_iff.mp hd).1
  refine ⟨ts, ρ', (· = true), h1, h2, fun H0 O σ H e Q q => q true H (Kq.refl H) e.ok rfl, fun _ => h3.imp fun e he => ⟨rfl, hlt, by simp [hlen], fun j d' e' g1 g2 => ?_⟩, fun z => by cases z⟩
  by_cases hj : j < es.length
  · rw [List.getElem?_append_left hj] at g2
    exact hall j d' e' g1 g2
  · have hj' : j = i := by
      have := (List.getElem?_eq_some_iff.mp g2).1
      simp at this
      omega
    subst hj'
    rw [List.getElem?_append_right (by omega)] at g2
    simp [hlen] at g2
    subst g2
    rw [hd] at g1
    cases g1
    exact he
theorem ed_lcMZ {wi : TI} {g : TG} {vs : List Nat} {ds : List PyData} (es : List PyData) (hi : Iz p wi ρ (· = ds)) (hl : es.length = ds.length) (hz : ds.length ≤ 10000)
    (hs : ∀ (i : Nat) (d e : PyData), ds[i]? = some d → es[i]? = some e → ∃ (ts : List Nat) (ρ' : Rho), (∀ i ∈ ts, i ∈ vs) ∧ Tg p g ts (wipeR ρ vs) d ρ' ∧ Ed p te ρ' e) : Ed p (tLc wi g tYes te vs) ρ (.list es) := by
  refine (ex_lcRZ (fun i _ e => es[i]? = some e) hi hz fun i d hd => ?_).imp fun r ⟨fs, h1, h2, h3⟩ => ?_
  · have hlt : i < es.length := by rw [hl]; exact (List.getElem?_eq_some_iff.mp hd).1
    obtain ⟨ts, ρ', g1, g2, g3⟩ := hs i d es[i] hd (List.getElem?_eq_getElem hlt)
    exact ⟨ts, ρ', g1, g2, g3.imp fun e he => by rw [he, List.getElem?_eq_getElem hlt]⟩
  · rw [h1]
    congr 1
    apply List.ext_getElem?
    intro i
    by_cases h : i < ds.length
    · obtain ⟨q1, q2⟩ := And.intro (List.getElem?_eq_getElem h) (List.getElem?_eq_getElem (h2 ▸ h : i < fs.length))
      rw [q2, h3 i _ _ q1 q2]
    · rw [List.getElem?_eq_none (by omega), List.getElem?_eq_none (by omega)]

theorem own_off {H0 : Bs} {O : Addr → Prop} {σ : L2.St} {H : Hp} {a : Addr} (e : En p H0 O σ H ρ) (h : O a) : ¬ p.Z a := fun z => (e.ow a h).2.1 (p.zs a z)
/-- over a list of this def's own, in a comprehension -/
theorem ii_own {K : PySem.W.Frag} {i : Nat} {ds : List PyData} (h : ρ[i]? = some (some (.own ds))) : Iz p (iList K (tVar i)) ρ (· = ds) := fun H0 O σ H e R q => by
  obtain ⟨a, xs, h1, h2, h3, h4⟩ := e.sl i _ h
  have st : ∀ {H' : Hp}, Kq p.Z H H' → H' a = some (.lst xs) := fun k => k.at_ a _ (own_off e h2) h3 nt_lst
  refine ⟨_, h1, a, rfl, ⟨xs, .inl (.inl h3)⟩, q _ H ds (Kq.refl H) e.ok rfl ⟨fun O' H' i k l hi => ?_, fun O' H' k l => ?_, fun O' H' i x H'' d k l hd y => ?_⟩⟩
  · have hi' : i < xs.length := by rw [h4.length]; exact hi
    exact ⟨xs, xs[i], .inl (.inl (st k)), List.getElem?_eq_getElem hi'⟩
  · exact ⟨xs, .inl (.inl (st k)), by rw [h4.length]; exact Nat.le_refl _⟩
  · obtain ⟨e1, hy⟩ := y
    subst e1
    have hx := hy xs (.inl (.inl (st k)))
    obtain ⟨d', hd', hv⟩ := h4.get hx
    rw [hd] at hd'
    cases hd'
    exact ⟨Kq.refl _, l.dv hv⟩
theorem ii_zipL {K : PySem.W.Frag} {ds es : List PyData} (h : Ed p ta ρ (.list ds)) (k : Ed p tb ρ (.list es)) : Ii p (RZ.iZipA K (tCons ta (tCons tb tNil))) ρ (· = zipD ds es) := fun H0 O σ H e R q => by
  refine h H0 O σ H e _ fun v H2 d k2 o2 hd pd => ?_
  subst pd
  refine k H0 O σ H2 (e.kq k2 o2) _ fun w H3 d k3 o3 hd' pd => ?_
  subst pd
  have hd3 := hd.kq k3 so_z
  cases hd3 with
  | @lst a xs _ n ea r =>
    cases hd' with
    | @lst b ys _ m eb r' =>
      refine ⟨a, b, xs, ys, rfl, .inl ⟨.inl (.inl ea), .inl (.inl eb), q _ H3 _ (k2.trans k3) o3 rfl ⟨fun O' H' i l hi => ?_, fun O' H' l => ?_, fun O' H' i x H'' d l hd y => ?_⟩⟩⟩
      · rw [zipD_len] at hi
        have h1 : i < xs.length := by rw [r.length]; omega
        have h2 : i < ys.length := by rw [r'.length]; omega
        exact ⟨xs, ys, xs[i], ys[i], .inl (.inl (lst_stays l n ea)), .inl (.inl (lst_stays l m eb)), List.getElem?_eq_getElem h1, List.getElem?_eq_getElem h2⟩
      · refine ⟨xs, ys, .inl (.inl (lst_stays l n ea)), .inl (.inl (lst_stays l m eb)), ?_⟩
        rw [zipD_len, r.length, r'.length]
        omega
      · obtain ⟨T, x1, y1, e1, hT, e2, f1, f2⟩ := y
        subst e1 e2
        obtain ⟨a', b', g1, g2, rfl⟩ := zipD_get hd
        obtain ⟨a2, q1, hv1⟩ := r.get (f1 xs (.inl (.inl (lst_stays l n ea))))
        obtain ⟨b2, q2, hv2⟩ := r'.get (f2 ys (.inl (.inl (lst_stays l m eb))))
        rw [g1] at q1; cases q1
        rw [g2] at q2; cases q2
        exact pair_dv l hT (l.dv hv1) (l.dv hv2)
theorem ed_lenO {K : PySem.W.Frag} {i : Nat} {ds : List PyData} (h : ρ[i]? = some (some (.own ds))) : Ed p (tCB (rLn K) (tCons (tVar i) tNil)) ρ (.int ds.length) := fun H0 O σ H e Q q => by
  obtain ⟨a, xs, h1, h2, h3, h4⟩ := e.sl i _ h
  exact ⟨_, h1, a, xs, rfl, .inl (.inl (.inl h3)), by rw [h4.length]; exact q _ H _ (Kq.refl H) e.ok (.int _) rfl⟩
theorem ed_tupO {K : PySem.W.Frag} {i : Nat} {ds : List PyData} (h : ρ[i]? = some (some (.own ds))) : Ed p (tCB (rTp K) (tCons (tVar i) tNil)) ρ (.tuple ds) := fun H0 O σ H e Q q => by
  obtain ⟨a, xs, h1, h2, h3, h4⟩ := e.sl i _ h
  exact ⟨_, h1, a, xs, rfl, .inl ⟨.inl (.inl h3), fun l hl => q _ _ _ (Kq.new hl) (e.ok.kp (Kq.new hl)) (.tup (fresh_so e hl) upd_same (h4.kp (Kq.new hl))) rfl⟩⟩
/-- an item of a list of this def's own -/
theorem ed_ixO {K : PySem.W.Frag} {i : Nat} {ds : List PyData} {j : Int} {d : PyData} (h : ρ[i]? = some (some (.own ds))) (k : Ed p tb ρ (.int j)) (hi : atI ds j = some d) : Ed p (tOp (rIxL K) (tVar i) tb) ρ d := fun H0 O σ H e Q q => by
  obtain ⟨a, xs, h1, h2, h3, h4⟩ := e.sl i _ h
  refine ⟨_, h1, k H0 O σ H e _ fun v H2 d' k2 o2 hd pd => ?_⟩
  subst pd
  cases hd
  have h5 : H2 a = some (.lst xs) := k2.at_ a _ (own_off e h2) h3 nt_lst
  have h6 := h4.kq k2 so_z
  unfold atI at hi
  rw [← h6.length] at hi
  obtain ⟨m, hm, e2⟩ := Option.bind_eq_some_iff.mp hi
  obtain ⟨v, hv, hd⟩ := h6.getD e2
  exact ⟨_, _, j, v, rfl, rfl, .inl (.inl h5), by unfold atI; rw [hm]; exact hv, q v H2 d k2 o2 hd rfl⟩
/-- some item of a list -/
theorem ex_ixLX {K : PySem.W.Frag} {ds : List PyData} (h : Ed p ta ρ (.list ds)) (k : Ex p tb ρ (fun d => ∃ r : Int, d = .int r ∧ 0 ≤ r ∧ r < ds.length)) : Ex p (tOp (rIxL K) ta tb) ρ (fun d => d ∈ ds) := ex_op h k fun d e hd ⟨r, er, h1, h2⟩ => by
  subst hd er
  intro H0 O σ ρ H x y e hx hy Q q
  cases hx with
  | lst n ea rr =>
    cases hy
    have hl := rr.length
    have hlt : r.toNat < ds.length := by omega
    obtain ⟨v, hv, hd⟩ := rr.getD (List.getElem?_eq_getElem hlt)
    have e3 : r = ((r.toNat : Nat) : Int) := by omega
    exact ⟨_, _, r, v, rfl, rfl, .inl (.inl ea), by rw [e3]; exact atI_nat hv, q v H _ (Kq.refl H) e.ok hd (List.getElem_mem hlt)⟩
theorem En.own {H0 : Bs} {O : Addr → Prop} {σ : L2.St} {H2 : Hp} {i : Nat} {a : Addr} {vs : List V} {ds : List PyData} (e2 : En p H0 O σ H2 ρ) (na : H2 a = none) (hds : DvL (SO p O) H2 vs ds) :
    En p H0 (fun b => O b ∨ b = a) (σ.set i (some (.ref a))) (upd H2 a (.lst vs)) (ρ.set i (some (.own ds))) := by
  have kn : Kp H2 (upd H2 a (.lst vs)) := Kq.new na
  have nS : ¬ p.S a := fun z => fresh_so e2 na (.inl z)
  have nO : ¬ O a := fun z => fresh_so e2 na (.inr z)
  refine ⟨e2.fr.trans kn.up, fun b z => .inl (e2.bo b z), e2.ok.kp kn, fun b z => ?_, fun j s hj => ?_, fun j l b es fs h1 h2 h3 h4 => ?_, by rw [List.length_set, List.length_set, e2.ln]⟩
  · rcases z with z | z
    · obtain ⟨q1, q2, xs, q3⟩ := e2.ow b z
      exact ⟨q1, q2, xs, kn.at_ b _ (fun z => z) q3 nt_lst⟩
    · rw [z]; exact ⟨.inr (e2.fr.back na), nS, vs, upd_same⟩
  · have lift : ∀ {v : V} {d : PyData}, Dv (SO p O) H2 v d → Dv (SO p (fun b => O b ∨ b = a)) (upd H2 a (.lst vs)) v d := fun {v d} hv => hv.map (fun b n t z => by
      rcases z with z | z | z
      · exact n (.inl z)
      · exact n (.inr z)
      · exact t (by rw [z]; exact na)) fun b o _ eb t => kn.at_ b o (fun z => z) eb t
    have liftL : ∀ {v : List V} {d : List PyData}, DvL (SO p O) H2 v d → DvL (SO p (fun b => O b ∨ b = a)) (upd H2 a (.lst vs)) v d := fun {v d} hv => hv.map (fun b n t z => by
      rcases z with z | z | z
      · exact n (.inl z)
      · exact n (.inr z)
      · exact t (by rw [z]; exact na)) fun b o _ eb t => kn.at_ b o (fun z => z) eb t
    by_cases z : i = j
    · subst z
      have hi : i < ρ.length := by
        have := (List.getElem?_eq_some_iff.mp hj).1
        rwa [List.length_set] at this
      rw [List.getElem?_set_self hi] at hj
      cases hj
      exact ⟨a, vs, List.getElem?_set_self (by rw [e2.ln]; exact hi), .inr rfl, upd_same, liftL hds⟩
    · rw [List.getElem?_set_ne z] at hj
      have q := e2.sl j s hj
      cases s with
      | dat d => obtain ⟨v, q1, q2⟩ := q; exact ⟨v, (List.getElem?_set_ne z).trans q1, lift q2⟩
      | own es =>
        obtain ⟨b, ys, q1, q2, q3, q4⟩ := q
        exact ⟨b, ys, (List.getElem?_set_ne z).trans q1, .inl q2, kn.at_ b _ (fun z => z) q3 nt_lst, liftL q4⟩
      | raw v => exact (List.getElem?_set_ne z).trans q
      | rng lo hi =>
        obtain ⟨b, q1, q2, q3⟩ := q
        refine ⟨b, (List.getElem?_set_ne z).trans q1, fun y => ?_, kn.at_ b _ (fun z => z) q3 (fun _ q => by cases q)⟩
        rcases y with y | y | y
        · exact q2 (.inl y)
        · exact q2 (.inr y)
        · rw [y, na] at q3; cases q3
  · -- the new list is no other one
    have key : ∀ {m : Nat} {gs : List PyData}, i ≠ m → (ρ.set i (some (.own ds)))[m]? = some (some (.own gs)) → (σ.set i (some (.ref a)))[m]? = some (some (.ref a)) → False := fun {m gs} hm g1 g2 => by
      rw [List.getElem?_set_ne hm] at g1 g2
      obtain ⟨b', ys, q1, q2, _⟩ := e2.sl m _ g1
      rw [g2] at q1
      cases q1
      exact nO q2
    by_cases z1 : i = j
    · by_cases z2 : i = l
      · rw [← z1, ← z2]
      · subst z1
        have hi : i < ρ.length := by
          have := (List.getElem?_eq_some_iff.mp h1).1
          rwa [List.length_set] at this
        rw [List.getElem?_set_self (by rw [e2.ln]; exact hi)] at h3
        cases h3
        exact (key z2 h2 h4).elim
    · by_cases z2 : i = l
      · subst z2
        have hi : i < ρ.length := by
          have := (List.getElem?_eq_some_iff.mp h2).1
          rwa [List.length_set] at this
        rw [List.getElem?_set_self (by rw [e2.ln]; exact hi)] at h4
        cases h4
        exact (key z1 h1 h3).elim
      · rw [List.getElem?_set_ne z1] at h1 h3
        rw [List.getElem?_set_ne z2] at h2 h4
        exact e2.un j l b es fs h1 h2 h3 h4

/-- x, y = (list(..), []) -/
theorem rn_parOO {K : PySem.W.Frag} {i j : Nat} {ds : List PyData} (h : Ed p te ρ (.tuple ds)) (k : w.N ((ρ.set i (some (.own ds))).set j (some (.own [])))) : Rn p (tPar i j (tCons (tCB (rLs K) (tCons te tNil)) (tCons (tLst tNil) tNil))) ρ w := fun H0 O σ H D e n r b c => by
  refine h H0 O σ H e _ fun v H2 d k2 o2 hd pd => ?_
  subst pd
  have e2 := e.kq k2 o2
  cases hd with
  | @tup a xs _ na ea rr =>
    refine ⟨_, _, rfl, .inr (.inl (.inl ea)), fun l hl => ?_⟩
    have e3 := e2.own (i := i) hl rr
    refine ⟨by decide, fun m hm => ?_⟩
    have e4 := e3.own (i := j) hm (vs := []) (ds := []) .nil
    exact ⟨_, _, rfl, n _ _ _ _ e4 k⟩
theorem DvL.erase {S : Addr → Prop} {H : Hp} : ∀ {vs : List V} {ds : List PyData} (m : Nat), DvL S H vs ds → DvL S H (vs.eraseIdx m) (ds.eraseIdx m)
  | _, _, _, .nil => .nil
  | _, _, 0, .cons _ b => b
  | _, _, m + 1, .cons a b => .cons a (DvL.erase m b)
/-- x, y = (l.pop(k), ..): x and y by a tuple -/
theorem rn_popPair {K : PySem.W.Frag} {l i j : Nat} {tk : TE} {ds : List PyData} {P : PyData → Prop} (h : ρ[l]? = some (some (.own ds))) (hl : ds.length ≤ 1000) (hk : Ex p tk ρ (fun d => ∃ r : Int, d = .int r ∧ 0 ≤ r ∧ r < ds.length)) (hb : ∀ m, m < ds.length → Ex p tb (ρ.set l (some (.own (ds.eraseIdx m)))) P)
    (k : ∀ m d e, ds[m]? = some d → P e → w.N (((ρ.set l (some (.own (ds.eraseIdx m)))).set i (some (.dat d))).set j (some (.dat e)))) :
    Rn p (tAsg (tTup (tCons (tBM K "list" rPopAt (tVar l) (tCons tk tNil)) (tCons tb tNil))) (gTup K 2 (gCons (gName i) (gCons (gName j) gNil)))) ρ w := fun H0 O σ H D e n r b c => by
  obtain ⟨a, xs, h1, h2, h3, h4⟩ := e.sl l _ h
  refine ⟨_, h1, .inl ⟨rfl, _, .inl (.inl h3)⟩, hk H0 O σ H e _ fun v H2 d k2 o2 hd ⟨rr, er, r1, r2⟩ => ?_⟩
  subst er
  cases hd
  have e2 := e.kq k2 o2
  have h5 : H2 a = some (.lst xs) := k2.at_ a _ (own_off e h2) h3 nt_lst
  have h6 := h4.kq k2 so_z
  have hlt : rr.toNat < ds.length := by omega
  obtain ⟨y, hy, hyd⟩ := h6.getD (List.getElem?_eq_getElem hlt)
  have hsx : seqIndex? rr xs.length = some rr.toNat := by
    have := h6.length
    unfold seqIndex?
    simp
    omega
  refine ⟨a, xs, rr, rr.toNat, y, rfl, rfl, h5, by omega, by omega, hsx, hy, ?_⟩
  have e3 := e2.put h h1 h2 h5 (h6.erase rr.toNat)
  have hyd3 : Dv (SO p O) (upd H2 a (.lst (xs.eraseIdx rr.toNat))) y ds[rr.toNat] := hyd.map (fun _ n _ => n) (fun b o n eb _ => by rw [upd_ne fun q => n (.inr (by rw [q]; exact h2))]; exact eb)
  refine hb rr.toNat hlt H0 O σ _ e3 _ fun v H4 f k4 o4 hf pf => ?_
  have e4 := e3.kq k4 o4
  refine ⟨by show 2 ≤ sizeLine; decide, fun t ht => ?_⟩
  have kn : Kp H4 (upd H4 t (.tup [y, v])) := Kq.new ht
  have e5 := e4.kp kn
  have s1 := e5.set (i := i) ((hyd3.kq k4 so_z).kp kn)
  have s2 := s1.set (i := j) (hf.kp kn)
  exact ⟨t, [y, v], rfl, .inl (.inl upd_same), rfl, y, [v], rfl, v, [], rfl, rfl, n _ _ _ _ s2 (k rr.toNat _ _ (List.getElem?_eq_getElem hlt) pf)⟩
end
end Kz
set_option Elab.async false
set_option linter.all false
set_option maxRecDepth 100000
set_option maxHeartbeats 4000000
/-! Kz: zip of a list and a tuple, in any order; while; gcd; min -/
namespace Kz
open PySem PySem.Spec PyProof.Rows L2
def SqK (k : Bool) (K : PySem.W.Frag) (H : Hp) (a : Addr) (xs : List V) : Prop := if k = true then SqL K H a xs else SqT K H a xs
def HsK (k : Bool) (h : Heap) (a : Addr) (its : Array Value) : Prop := if k = true then h.IsList a its else h.IsTuple a its
def HiK (k : Bool) (h : Heap) (i a : Addr) (n : Nat) : Prop := if k = true then h.IsListIter i a n else h.IsTupleIter i a n
def itO (k : Bool) (a : Addr) : Obj := if k = true then { cls := .type "list_iterator", data := .fields #[.ref a, .int 0 0] } else { cls := .type "tuple_iterator", data := .fields #[.ref a, .int 0 0] }
theorem sqk_its {X : Cx} {pins : List (Addr × Obj)} {σ : L2.St} {H : Hp} {s : Shared} (I : Inv X pins σ H s) {k : Bool} {a : Addr} {xs : List V} (h : SqK k X.K H a xs) : ∃ us : List Value, Vals xs us ∧ HsK k s.heap a us.toArray := by
  cases k with
  | true => obtain ⟨us, r, q, _⟩ := I.list (show SqL X.K H a xs from h); exact ⟨us, r, q.isList⟩
  | false => obtain ⟨us, r, q, _⟩ := I.tuple (show SqT X.K H a xs from h); exact ⟨us, r, q⟩
theorem sqk_inj {X : Cx} {pins : List (Addr × Obj)} {σ : L2.St} {H : Hp} {s : Shared} (I : Inv X pins σ H s) {k : Bool} {a : Addr} {xs ys : List V} (h : SqK k X.K H a xs) (h' : SqK k X.K H a ys) : xs = ys := by
  cases k with
  | true => exact I.list_inj h h'
  | false => exact I.tuple_inj h h'
theorem hsk_lt {k : Bool} {h : Heap} {a : Addr} {us : Array Value} (q : HsK k h a us) : a < h.objs.size := by
  cases k with
  | true => obtain ⟨o, e, _⟩ := (show h.IsList a us from q); exact Heap.lt_size e
  | false => obtain ⟨o, e, _⟩ := (show h.IsTuple a us from q); exact Heap.lt_size e
theorem hik_obj {k : Bool} {h : Heap} {i a : Addr} {n : Nat} (q : HiK k h i a n) : ∃ o, h.get? i = some o ∧ ∀ v, o.data ≠ .cell v := by
  cases k with
  | true => obtain ⟨o, e, _, d⟩ := (show h.IsListIter i a n from q); exact ⟨o, e, fun v z => by rw [d] at z; cases z⟩
  | false => obtain ⟨o, e, _, d⟩ := (show h.IsTupleIter i a n from q); exact ⟨o, e, fun v z => by rw [d] at z; cases z⟩
theorem hik_at {k : Bool} {h h' : Heap} {i a : Addr} {n : Nat} (q : HiK k h i a n) (t : ∀ o, h.get? i = some o → h'.get? i = some o) : HiK k h' i a n := by
  cases k with
  | true => exact Heap.IsListIter.at (show h.IsListIter i a n from q) t
  | false => exact Heap.IsTupleIter.at (show h.IsTupleIter i a n from q) t
theorem begK (k : Bool) (a : Addr) (us : Array Value) : Begins (.ref a) (itO k a) fun h => HsK k h a us := by
  cases k with
  | true => exact begins_list a us
  | false => exact begins_tuple a us
theorem drwK {prog : Program} {w : World} {A : Around} (hh : A.handled = none) (k : Bool) (i a : Addr) (hne : a ≠ i) (us : Array Value) :
    Draws prog w A i [i, a] us.size (fun n v => us[n]? = some v) (fun n h => HiK k h i a n ∧ HsK k h a us) := by
  cases k with
  | true => exact Draws.list hh i a hne us
  | false => exact Draws.tuple hh i a hne us
theorem begK_it {k : Bool} {h : Heap} {i a : Addr} (e : h.get? i = some (itO k a)) : HiK k h i a 0 := by
  cases k with
  | true => exact ⟨_, e, rfl, rfl⟩
  | false => exact ⟨_, e, rfl, rfl⟩
/-- what two sequences of any kind give, item by item -/
def ItM (K : PySem.W.Frag) (k1 k2 : Bool) (a b : Addr) : It :=
  ⟨fun n H => ∃ (xs ys : List V) (x y : V), SqK k1 K H a xs ∧ SqK k2 K H b ys ∧ xs[n]? = some x ∧ ys[n]? = some y,
   fun n H v H' => ∃ T x y, v = .ref T ∧ H T = none ∧ H' = upd H T (.tup [x, y]) ∧ (∀ xs, SqK k1 K H a xs → xs[n]? = some x) ∧ (∀ ys, SqK k2 K H b ys → ys[n]? = some y),
   fun n H => ∃ xs ys : List V, SqK k1 K H a xs ∧ SqK k2 K H b ys ∧ n ≤ xs.length ∧ n ≤ ys.length ∧ (n = xs.length ∨ n = ys.length)⟩
theorem turnM {P : Program} {w : World} {K : PySem.W.Frag} {elts : List Expr} {kk : Nat} {tpos : Pos} {k1 k2 : Bool} {a b z TI TO i1 i2 : Addr} (S : ZipSep2 z TI TO i1 i2 [i1, a] [i2, b]) (na : a ≠ i1) (nb : b ≠ i2) :
    Turn P w K (.Tuple elts kk tpos) (ItM K k1 k2 a b) [z, TI, TO, i1, i2] z (fun n h => IsZip h z TI TO .none ∧ IsPair h TI (.ref i1) (.ref i2) ∧ (∃ x y, IsPair h TO x y) ∧ HiK k1 h i1 a n ∧ HiK k2 h i2 b n) where
  mem := List.mem_cons_self
  obj := fun n h st c hc => by
    obtain ⟨hz, hTI, ⟨x, y, hTO⟩, h1, h2⟩ := st
    have e' : c = z ∨ c = TI ∨ c = TO ∨ c = i1 ∨ c = i2 := by simpa using hc
    rcases e' with rfl | rfl | rfl | rfl | rfl
    · exact ⟨_, hz, fun v z => nomatch z⟩
    · exact ⟨_, hTI, fun v z => nomatch z⟩
    · exact ⟨_, hTO, fun v z => nomatch z⟩
    · exact hik_obj h1
    · exact hik_obj h2
  keep := fun n h h' st t => by
    obtain ⟨hz, hTI, ⟨x, y, hTO⟩, h1, h2⟩ := st
    exact ⟨t z (by simp) _ hz, t TI (by simp) _ hTI, ⟨x, y, t TO (by simp) _ hTO⟩, hik_at h1 fun o e => t i1 (by simp) o e, hik_at h2 fun o e => t i2 (by simp) o e⟩
  item := by
    intro X hP hw hK hc n pins s σ H E I hf st hg
    subst hP hw hK
    obtain ⟨hz, hTI, ⟨x0, y0, hTO⟩, h1, h2⟩ := st
    obtain ⟨xs, ys, x, y, q1, q2, hx, hy⟩ := hg
    obtain ⟨us, rx, p1⟩ := sqk_its I q1
    obtain ⟨ws, ry, p2⟩ := sqk_its I q2
    obtain ⟨u, hu, ru⟩ := rx.get hx
    obtain ⟨u2, hu2, ru2⟩ := ry.get hy
    have hzl : z < s.heap.objs.size := Heap.lt_size hz
    have l1 : n < us.toArray.size := by rw [List.size_toArray]; exact (List.getElem?_eq_some_iff.mp hu).1
    have l2 : n < ws.toArray.size := by rw [List.size_toArray]; exact (List.getElem?_eq_some_iff.mp hu2).1
    have D1 := drwK (prog := X.prog) (w := X.w) (A := X.A.in1) (I.ok.hd hc) k1 i1 a na us.toArray
    have D2 := drwK (prog := X.prog) (w := X.w) (A := X.A.in1) (I.ok.hd hc) k2 i2 b nb ws.toArray
    refine wpAny_pyNext_zipD2_item S D1 D2 hz hTI hTO ⟨h1, p1⟩ ⟨h2, p2⟩ l1 l2 fun v1 v2 h' tk e1 e2 z' TO' st1 st2 hT hsz hk => ?_
    have ev : v1 = u := by rw [List.getElem?_toArray, hu] at e1; exact (Option.some.inj e1).symm
    have ev2 : v2 = u2 := by rw [List.getElem?_toArray, hu2] at e2; exact (Option.some.inj e2).symm
    subst ev ev2
    refine ⟨_, rfl, wpAny_letOwnedTupleGo_zip (s := { s with heap := h', toks := tk }) z' fun h'' z'' sb => ?_⟩
    have hT2 : h''.get? s.heap.objs.size = some { cls := .type "tuple", data := .seq #[v1, v2] } := (sb.2 _ (Nat.ne_of_gt hzl)).trans hT
    have new : ObjOk X.prog X.w (upd H s.heap.objs.size (.tup [x, y])) h'' s.heap.objs.size (.tup [x, y]) := ⟨by show 2 ≤ sizeLine; decide, [v1, v2], .cons ru (.cons ru2 .nil), ⟨_, hT2, rfl, _, rfl⟩⟩
    have kp : ∀ c o, c ∉ [z, TI, TO, i1, i2] → s.heap.get? c = some o → h''.get? c = some o := fun c o hb e => (sb.2 c (fun r => hb (by simp [r]))).trans (hk c o (fun r => hb (by simp [r])) (fun r => hb (by simp [r])) (fun r => hb (by simp [r])) (fun r => hb (by simp [r])) e)
    refine ⟨.ref s.heap.objs.size, _, I.turnedNew (ch := [z, TI, TO, i1, i2]) kp hf (Nat.le_refl _) new, rfl, ⟨_, x, y, rfl, I.hok.fresh (Nat.le_refl _), rfl, fun l hl => by rw [sqk_inj I hl q1]; exact hx, fun l hl => by rw [sqk_inj I hl q2]; exact hy⟩, ⟨z'', ?_, ⟨v1, v2, ?_⟩, ?_, ?_⟩, fun c hcm => ?_⟩
    · exact (sb.2 _ S.TIz).trans (hk _ _ S.TIz S.TITO S.TIi1 S.TIi2 hTI)
    · exact (sb.2 _ S.TOz).trans TO'
    · exact hik_at st1.1 fun o e => (sb.2 _ (Ne.symm S.zi1)).trans e
    · exact hik_at st2.1 fun o e => (sb.2 _ (Ne.symm S.zi2)).trans e
    · have hlt : c < s.heap.objs.size := by
        have e' : c = z ∨ c = TI ∨ c = TO ∨ c = i1 ∨ c = i2 := by simpa using hcm
        rcases e' with rfl | rfl | rfl | rfl | rfl
        · exact hzl
        · exact Heap.lt_size hTI
        · exact Heap.lt_size hTO
        · obtain ⟨_, e, _⟩ := hik_obj h1; exact Heap.lt_size e
        · obtain ⟨_, e, _⟩ := hik_obj h2; exact Heap.lt_size e
      rw [upd_ne (Nat.ne_of_lt hlt)]
      exact (hf c hcm).1
  done := by
    intro X hP hw hK hc n pins s σ H E I hf st hg
    subst hP hw hK
    obtain ⟨hz, hTI, ⟨x0, y0, hTO⟩, h1, h2⟩ := st
    obtain ⟨xs, ys, q1, q2, n1, n2, he⟩ := hg
    obtain ⟨us, rx, p1⟩ := sqk_its I q1
    obtain ⟨ws, ry, p2⟩ := sqk_its I q2
    have e1 := rx.length
    have e2 := ry.length
    have D1 := drwK (prog := X.prog) (w := X.w) (A := X.A.in1) (I.ok.hd hc) k1 i1 a na us.toArray
    have D2 := drwK (prog := X.prog) (w := X.w) (A := X.A.in1) (I.ok.hd hc) k2 i2 b nb ws.toArray
    exact wpAny_pyNext_zipD2_end S D1 D2 hz hTI hTO ⟨h1, p1⟩ ⟨h2, p2⟩ (by rw [List.size_toArray]; omega) (by rw [List.size_toArray]; omega) (by rw [List.size_toArray, List.size_toArray]; omega) fun h' tk hk => ⟨rfl, I.turnedL (t' := tk) (ch := [z, TI, TO, i1, i2])
      (fun c o hb e => hk c o (fun r => hb (by simp [r])) (fun r => hb (by simp [r])) (fun r => hb (by simp [r])) (fun r => hb (by simp [r])) e) hf⟩
  self := fun A n s Q E st h => wpAny_pyIter_zip st.1 h
def iZipM (K : PySem.W.Frag) (ta : TA) : TI := fun σ H R => ta σ H fun vs H1 => ∃ k1 k2 a b xs ys, vs = [.ref a, .ref b] ∧ SqK k1 K H1 a xs ∧ SqK k2 K H1 b ys ∧ R (ItM K k1 k2 a b) H1
theorem nin2 {x y z : Nat} (h1 : x ≠ y) (h2 : x ≠ z) : x ∉ [y, z] := by simp [h1, h2]
theorem sepM0 {I a b : Nat} (ha : a < I) (hb : b < I) : ZipSep2 (I + 4) (I + 2) (I + 3) I (I + 1) [I, a] [I + 1, b] :=
  ⟨(by omega : (I + 2 : Nat) ≠ I + 4), (by omega : (I + 3 : Nat) ≠ I + 4), (by omega : (I + 2 : Nat) ≠ I + 3), (by omega : (I + 2 : Nat) ≠ I), List.mem_cons_self, nin2 (by omega) (by omega), nin2 (by omega) (by omega),
   (by omega : (I + 2 : Nat) ≠ I + 1), List.mem_cons_self, nin2 (by omega) (by omega), nin2 (by omega) (by omega), nin2 (by omega) (by omega), nin2 (by omega) (by omega)⟩
theorem sepM {I a b : Addr} (ha : a < I) (hb : b < I) : ZipSep2 (I + 4) (I + 2) (I + 3) I (I + 1) [I, a] [I + 1, b] := sepM0 ha hb
theorem pi_zipM {X : Cx} {e e2 : Expr} {ta : TA} {p pos tpos : Pos} {elts : List Expr} {kk : Nat} (hg : Gl X "zip") (hm : X.mg "zip" = none) (ha : PA X [e, e2] ta)
    (hs : starEach [e, e2] X.env = (false, eval e X.env) :: starEach [e2] X.env := by rfl) (hpl : (backTo pos (starEach [e2] X.env)).any (·.1) = false := by rfl) : PI X (.Tuple elts kk tpos) (.Call (.Name "zip" p) [e, e2] [] pos) (iZipM X.K ta) := by
  refine ⟨fun pins s σ H R I h => Call_ (ld_blt I hg hm PyProof.Rows.boot_zip (PyProof.Rows.callWith_type1 (thn (ha.run pos pins s σ H _ I h) fun us s1 ⟨vs, H1, I1, r1, q1⟩ => ?_) hs hpl))⟩
  obtain ⟨k1, k2, a, b, xs, ys, rfl, qx, qy, q⟩ := q1
  cases r1 with
  | cons r rr =>
    cases rr with
    | cons r' rr =>
      cases rr
      cases r
      cases r'
      obtain ⟨us, _, p1⟩ := sqk_its I1 qx
      obtain ⟨ws, _, p2⟩ := sqk_its I1 qy
      have la := hsk_lt p1
      have lb := hsk_lt p2
      refine zip_begins2 (begK k1 a us.toArray) (begK k2 b ws.toArray) p1 p2 fun h' hz hTI hTO h1 h2 hsz hk => wpAny_pyIter_zip hz ?_
      have I2 : Inv X pins σ H1 { s1 with heap := h' } := I1.kept (t' := s1.toks) hk
      refine ⟨s1.heap.objs.size + 4, [s1.heap.objs.size + 4, s1.heap.objs.size + 2, s1.heap.objs.size + 3, s1.heap.objs.size, s1.heap.objs.size + 1], _, _, H1, rfl, I2, turnM (sepM la lb) (Nat.ne_of_lt la) (Nat.ne_of_lt (Nat.lt_succ_of_lt lb)), ⟨hz, hTI, ⟨_, _, hTO⟩, begK_it h1, begK_it h2⟩, fun c hcm => ?_, q⟩
      have hle : s1.heap.objs.size ≤ c := by
        simp only [List.mem_cons, List.not_mem_nil, or_false] at hcm
        rcases hcm with z | z | z | z | z <;> rw [z] <;> first | exact Nat.le_refl _ | exact Nat.le_add_right _ _
      exact I1.fpOk hle (I1.hok.fresh hle)
section
variable {p : Pm} {ρ : Rho} {ta tb te : TE} {tt : TT} {O : Addr → Prop}
theorem seqd_dv {K : PySem.W.Frag} {S : Addr → Prop} {H : Hp} {v : V} {d : PyData} {ds : List PyData} (s : SeqD d ds) (h : Dv S H v d) : ∃ k a xs, v = .ref a ∧ ¬ S a ∧ H a = some (if k = true then HO.lst xs else HO.tup xs) ∧ DvL S H xs ds := by
  cases s with
  | l => cases h with
    | @lst a xs _ n e r => exact ⟨true, a, xs, rfl, n, e, r⟩
  | t => cases h with
    | @tup a xs _ n e r => exact ⟨false, a, xs, rfl, n, e, r⟩
theorem ii_zipM {K : PySem.W.Frag} {d1 d2 : PyData} {ds es : List PyData} (s1 : SeqD d1 ds) (s2 : SeqD d2 es) (h : Ed p ta ρ d1) (k : Ed p tb ρ d2) : Ii p (iZipM K (tCons ta (tCons tb tNil))) ρ (· = zipD ds es) := fun H0 O σ H e R q => by
  refine h H0 O σ H e _ fun v H2 d k2 o2 hd pd => ?_
  subst pd
  refine k H0 O σ H2 (e.kq k2 o2) _ fun w H3 d k3 o3 hd' pd => ?_
  subst pd
  obtain ⟨c1, a, xs, rfl, n, ea, r⟩ := seqd_dv (K := K) s1 (hd.kq k3 so_z)
  obtain ⟨c2, b, ys, rfl, m, eb, r'⟩ := seqd_dv (K := K) s2 hd'
  have st1 : ∀ {O' : Addr → Prop} {H' : Hp}, Lat p O H3 O' H' → SqK c1 K H' a xs := fun {O' H'} l => by
    cases c1 with
    | true => exact .inl (.inl (lst_stays l n ea))
    | false => exact .inl (.inl (tup_stays l n ea))
  have st2 : ∀ {O' : Addr → Prop} {H' : Hp}, Lat p O H3 O' H' → SqK c2 K H' b ys := fun {O' H'} l => by
    cases c2 with
    | true => exact .inl (.inl (lst_stays l m eb))
    | false => exact .inl (.inl (tup_stays l m eb))
  have l0 : SqK c1 K H3 a xs := by
    cases c1 with
    | true => exact .inl (.inl ea)
    | false => exact .inl (.inl ea)
  have l1 : SqK c2 K H3 b ys := by
    cases c2 with
    | true => exact .inl (.inl eb)
    | false => exact .inl (.inl eb)
  refine ⟨c1, c2, a, b, xs, ys, rfl, l0, l1, q _ H3 _ (k2.trans k3) o3 rfl ⟨fun O' H' i l hi => ?_, fun O' H' l => ?_, fun O' H' i x H'' d l hd y => ?_⟩⟩
  · rw [zipD_len] at hi
    have g1 : i < xs.length := by rw [r.length]; omega
    have g2 : i < ys.length := by rw [r'.length]; omega
    exact ⟨xs, ys, xs[i], ys[i], st1 l, st2 l, List.getElem?_eq_getElem g1, List.getElem?_eq_getElem g2⟩
  · refine ⟨xs, ys, st1 l, st2 l, ?_⟩
    rw [zipD_len, r.length, r'.length]
    omega
  · obtain ⟨T, x1, y1, e1, hT, e2, f1, f2⟩ := y
    subst e1 e2
    obtain ⟨a', b', g1, g2, rfl⟩ := zipD_get hd
    obtain ⟨a2, t1, hv1⟩ := r.get (f1 xs (st1 l))
    obtain ⟨b2, t2, hv2⟩ := r'.get (f2 ys (st2 l))
    rw [g1] at t1; cases t1
    rw [g2] at t2; cases t2
    exact pair_dv l hT (l.dv hv1) (l.dv hv2)
/-- while: an invariant over the slots, a measure -/
theorem rn_while {tu : TS} {w : Po} (inv : Nat → Rho → Prop) (m0 : Nat) (h0 : inv m0 ρ)
    (hs : ∀ m r, inv m r → ∃ b : Bool, Et p tt r (· = b) ∧ (b = true → Rn p tu r { N := fun r' => ∃ m', m' < m ∧ inv m' r', C := fun r' => ∃ m', m' < m ∧ inv m' r', B := w.N, R := w.R }) ∧ (b = false → w.N r)) : Rn p (tWhile tt tu) ρ w := fun H0 O σ H D e nx rt bk ct => by
  let St : Nat → L2.St → Hp → Prop := fun m σ' H' => ∃ O' r, En p H0 O' σ' H' r ∧ inv m r
  refine ⟨St, ⟨m0, O, ρ, e, h0⟩, ?_⟩
  rintro m σ' H' ⟨O', r, e', iv⟩
  obtain ⟨b, ht, h1, h2⟩ := hs m r iv
  refine ht H0 O' σ' H' e' _ fun c H2 k2 o2 hc => ?_
  subst hc
  have e2 := e'.kq k2 o2
  cases c with
  | true =>
    refine ⟨fun σ2 H2 => ∃ m', m' < m ∧ St m' σ2 H2, fun σ2 H2 z => z, ?_⟩
    exact h1 rfl H0 O' σ' H2 _ e2 (fun O3 σ3 H3 r3 e3 ⟨m', l, i⟩ => ⟨m', l, O3, r3, e3, i⟩) rt nx (fun O3 σ3 H3 r3 e3 ⟨m', l, i⟩ => ⟨m', l, O3, r3, e3, i⟩)
  | false => exact nx O' σ' H2 r e2 (h2 rfl)
theorem bc_gcd {i j : Int} : Bc p rGcd [.int i, .int j] (· = .int ((Nat.gcd i.natAbs j.natAbs : Nat) : Int)) := fun H0 O σ ρ H vs e hv Q q => by
  obtain ⟨v, w, rfl, h1, h2⟩ := hv.two_inv
  cases h1
  cases h2
  exact ⟨i, j, rfl, q _ H _ (Kq.refl H) e.ok (.int _) rfl⟩
abbrev rMn2 : List V → Hp → VK → Prop := fun xs H Q => ∃ i j, xs = [.int i, .int j] ∧ Q (.int (if j < i then j else i)) H
theorem bc_min2X {P1 P2 : Int → Prop} : ∀ ds, (∃ i j, ds = [PyData.int i, PyData.int j] ∧ P1 i ∧ P2 j) → Bc p rMn2 ds (fun d => ∃ x, d = .int x ∧ (P1 x ∨ P2 x) ∧ ∃ i j, P1 i ∧ P2 j ∧ x ≤ i ∧ x ≤ j) := fun ds hds H0 O σ ρ H vs e hv Q q => by
  obtain ⟨i, j, rfl, p1, p2⟩ := hds
  obtain ⟨v, w, rfl, h1, h2⟩ := hv.two_inv
  cases h1
  cases h2
  refine ⟨i, j, rfl, q _ H _ (Kq.refl H) e.ok (.int _) ⟨_, rfl, ?_, i, j, p1, p2, ?_, ?_⟩⟩ <;> split <;> first | exact .inl p1 | exact .inr p2 | omega
theorem bc_max2X {P1 P2 : Int → Prop} : ∀ ds, (∃ i j, ds = [PyData.int i, PyData.int j] ∧ P1 i ∧ P2 j) → Bc p rMx2 ds (fun d => ∃ x, d = .int x ∧ (P1 x ∨ P2 x) ∧ ∃ i j, P1 i ∧ P2 j ∧ i ≤ x ∧ j ≤ x) := fun ds hds H0 O σ ρ H vs e hv Q q => by
  obtain ⟨i, j, rfl, p1, p2⟩ := hds
  obtain ⟨v, w, rfl, h1, h2⟩ := hv.two_inv
  cases h1
  cases h2
  refine ⟨i, j, rfl, q _ H _ (Kq.refl H) e.ok (.int _) ⟨_, rfl, ?_, i, j, p1, p2, ?_, ?_⟩⟩ <;> split <;> first | exact .inl p1 | exact .inr p2 | omega
end
section
variable {X : Cx} {e a b : Expr} {te ta tb : TE} {p pos : Pos}
theorem pMin2' (B : Bn X.mg) (hc : X.calm = true) (h : PE X a ta) (k : PE X b tb) (hg : Gl X "min" := by rfl) (he : starEach [a, b] X.env = (false, eval a X.env) :: starEach [b] X.env := by rfl) (he2 : starEach [b] X.env = (false, eval b X.env) :: starEach [] X.env := by rfl)
    (hpl : (backTo pos (starEach [b] X.env)).any (·.1) = false := by rfl) : PE X (.Call (.Name "min" p) [a, b] [] pos) (tCB rMn2 (tCons ta (tCons tb tNil))) := pe_callB (call_min2 hc) hg B.min (by decide +kernel) (pa_cons h (pa_cons k pa_nil he2) he) (by decide) (by decide) he hpl
theorem pMax2' (B : Bn X.mg) (hc : X.calm = true) (h : PE X a ta) (k : PE X b tb) (hg : Gl X "max" := by rfl) (he : starEach [a, b] X.env = (false, eval a X.env) :: starEach [b] X.env := by rfl) (he2 : starEach [b] X.env = (false, eval b X.env) :: starEach [] X.env := by rfl)
    (hpl : (backTo pos (starEach [b] X.env)).any (·.1) = false := by rfl) : PE X (.Call (.Name "max" p) [a, b] [] pos) (tCB rMx2 (tCons ta (tCons tb tNil))) := pMax2 B hc h k hg he he2 hpl
theorem pGcd (hm : X.mg "gcd" = some (.builtin "math.gcd")) (h : PE X a ta) (k : PE X b tb) (hg : Gl X "gcd" := by rfl) (he : starEach [a, b] X.env = (false, eval a X.env) :: starEach [b] X.env := by rfl) (he2 : starEach [b] X.env = (false, eval b X.env) :: starEach [] X.env := by rfl)
    (hpl : (backTo pos (starEach [b] X.env)).any (·.1) = false := by rfl) : PE X (.Call (.Name "gcd" p) [a, b] [] pos) (tCB rGcd (tCons ta (tCons tb tNil))) := pe_callBfun cr_gcd hg hm (pa_cons h (pa_cons k pa_nil he2) he) (by decide) he hpl
theorem piM (K : PySem.W.Frag) (B : Bn X.mg) {tpos : Pos} {elts : List Expr} {kk : Nat} (ha : PE X a ta) (hb : PE X b tb) (hK : X.K = K := by rfl) (hg : Gl X "zip" := by rfl) (hs : starEach [a, b] X.env = (false, eval a X.env) :: starEach [b] X.env := by rfl) (hs2 : starEach [b] X.env = (false, eval b X.env) :: starEach [] X.env := by rfl) (hpl : (backTo pos (starEach [b] X.env)).any (·.1) = false := by rfl) :
    PI X (.Tuple elts kk tpos) (.Call (.Name "zip" p) [a, b] [] pos) (iZipM K (tCons ta (tCons tb tNil))) := hK ▸ pi_zipM hg B.zip (pa_cons ha (pa_cons hb pa_nil hs2) hs) hs hpl
end
end Kz
set_option Elab.async false
set_option linter.all false
set_option maxRecDepth 100000
set_option maxHeartbeats 4000000
namespace Kz
open PySem PySem.Spec PyProof.Rows L2
section
variable {P : Program} {w : World} {K : PySem.W.Frag} {mg : Str → Option Value} {base : Heap}
abbrev sPick : Stmt := topS 34
abbrev sChange : Stmt := topS 47
theorem scPick : FnScope ["deck", "some"] ["deck", "some"] (defScope sPick) := ⟨rfl, rfl, rfl, by decide +kernel, rfl, by decide +kernel, by decide +kernel⟩
theorem scChange : FnScope ["deck", "n", "many", "left", "rows", "turn", "row", "sign", "x", "i", "j", "c", "y"] ["deck", "n", "many"] (defScope sChange) := ⟨rfl, rfl, rfl, by decide +kernel, rfl, by decide +kernel, by decide +kernel⟩
abbrev PickR (l : List Int) (d : PyData) : Prop := ∃ x ∈ l, d = .int x
abbrev spPick : Sp := deckSp [] 1 (G := List Int) (fun l => [.list (l.map .int)]) (fun l => l ≠ [] ∧ l.length ≤ 64) PickR
theorem ok_pick (B : Bn mg) {f : Addr} {fd : FuncData} (F : Fun K "_law_pick" "_law_pick" sPick f fd) (C : Cl P w K mg base "_law_draw" ["deck", "many"] 1 spDraw) : FnOk P w K mg base CX0 2 f fd ["deck", "some"] spPick := by
  refine ok_deck F scPick rfl (by decide) fun cdv A outer s H E hr => ⟨_, pss_one (ps_ret (pe_ix ix_list (pv 1) (pCall C hr (by decide) (pa_cons (pv 0) (pa_cons (pLen B (pv 1)) pa_nil))) (fun _ _ => rfl))), fun S dk cl h1 h2 l hl => ?_⟩
  have hp : 0 < l.length := List.length_pos_iff.mpr hl.1
  refine rn_retX (ex_ixLX (ds := l.map .int) (ex_var rfl) ?_) fun d hd => ?_
  · refine Ex.imp (P := DrawR (l.length : Int)) ?_ fun d ⟨r, e, q1, q2⟩ => ⟨r, e, q1, by simpa using q2⟩
    exact ex_callD (l.length : Int) rfl (ea_one (Ed.cast (ed_cb (ea_one (ex_var (d := .list (l.map .int)) rfl)) (bc_len (.l _))) (by simp))) rfl ⟨by omega, by have := hl.2; omega⟩ (by simp)
  · obtain ⟨x, hx, rfl⟩ := List.mem_map.mp hd
    exact ⟨x, hx, rfl⟩
theorem ints_of {P : Int → Prop} : ∀ {es : List PyData}, (∀ e ∈ es, ∃ m, e = PyData.int m ∧ P m) → ∃ ms : List Int, es = ms.map .int ∧ ∀ m ∈ ms, P m
  | [], _ => ⟨[], rfl, by simp⟩
  | e :: es, h => by
    obtain ⟨m, rfl, hm⟩ := h e (by simp)
    obtain ⟨ms, rfl, hms⟩ := ints_of (es := es) fun e he => h e (List.mem_cons_of_mem _ he)
    exact ⟨m :: ms, rfl, fun x hx => (List.mem_cons.mp hx).elim (fun z => by rw [z]; exact hm) (hms x)⟩
/-- all items as R says, whatever they come from -/
theorem ints_lc {n : Nat} {ds : List PyData} {R : Int → Prop} {r : PyData} (hn : ds.length = n) (h : ∃ es, r = .list es ∧ es.length = ds.length ∧ ∀ (i : Nat) (d e : PyData), ds[i]? = some d → es[i]? = some e → ∃ x, e = .int x ∧ R x) : ∃ l : List Int, r = .list (l.map .int) ∧ l.length = n ∧ ∀ x ∈ l, R x := by
  obtain ⟨es, rfl, hl, hall⟩ := h
  obtain ⟨ms, rfl, hms⟩ := ints_of (P := R) fun e he => by
    obtain ⟨i, hi, rfl⟩ := List.mem_iff_getElem.mp he
    exact hall i _ _ (List.getElem?_eq_getElem (by omega)) (List.getElem?_eq_getElem hi)
  exact ⟨ms, rfl, by rw [← hn, ← hl, List.length_map], hms⟩
end
end Kz
set_option Elab.async false
set_option linter.all false
set_option maxRecDepth 100000
set_option maxHeartbeats 4000000
namespace Kz
open PySem PySem.Spec PyProof.Rows L2
/-! rows of a change -/
def stepS (x : Mat × Mat) : List (Mat × Mat) := (List.range x.1.length).flatMap fun k => [1, -1].map fun s => (x.1.eraseIdx k, x.2 ++ [(x.1.getD k []).map fun y => s * y])
def stage (n : Nat) : Nat → List (Mat × Mat)
  | 0 => [(unitM n, [])]
  | t + 1 => (stage n t).flatMap stepS
def stageOk (n t : Nat) (x : Mat × Mat) : Bool := x.1.length == n - t && x.1.all fun l => l.length == n
def endOk (n : Nat) (x : Mat × Mat) : Bool := x.2.length == n && (x.2.all fun l => l.length == n && l.all fun e => decide (e.natAbs ≤ 30)) && decide (detE x.2 = 1 ∨ detE x.2 = -1)
theorem stage_ok1 : ∀ n, n ≤ 3 → ∀ t, t ≤ n → ∀ x ∈ stage n t, stageOk n t x = true := by
  have h : ((List.range 4).all fun n => (List.range (n + 1)).all fun t => (stage n t).all fun x => stageOk n t x) = true := by decide +kernel
  intro n hn t ht x hx
  have h1 := List.all_eq_true.mp h n (List.mem_range.mpr (by omega))
  have h2 := List.all_eq_true.mp h1 t (List.mem_range.mpr (by omega))
  exact List.all_eq_true.mp h2 x hx
theorem stage_ok2 : ∀ n, n ≤ 3 → ∀ x ∈ stage n n, endOk n x = true := by
  have h : ((List.range 4).all fun n => (stage n n).all fun x => endOk n x) = true := by decide +kernel
  intro n hn x hx
  have h1 := List.all_eq_true.mp h n (List.mem_range.mpr (by omega))
  exact List.all_eq_true.mp h1 x hx
structure ChM (n : Nat) (c : Mat) : Prop where
  s : Sq n c
  d : detE c ≠ 0
  b : ∀ l ∈ c, ∀ e ∈ l, e.natAbs ≤ 30
  u : detE c = 1 ∨ detE c = -1
theorem stage_end {n : Nat} (hn : n ≤ 3) {x : Mat × Mat} (hx : x ∈ stage n n) : ChM n x.2 := by
  have h := stage_ok2 n hn x hx
  unfold endOk at h
  rw [Bool.and_eq_true, Bool.and_eq_true] at h
  obtain ⟨⟨h1, h2⟩, h3⟩ := h
  have h4 := of_decide_eq_true h3
  refine ⟨⟨by simpa using h1, fun l hl => ?_⟩, by omega, fun l hl e he => ?_, h4⟩
  · have := List.all_eq_true.mp h2 l hl
    rw [Bool.and_eq_true] at this
    simpa using this.1
  · have := List.all_eq_true.mp h2 l hl
    rw [Bool.and_eq_true] at this
    exact of_decide_eq_true (List.all_eq_true.mp this.2 e he)
theorem det_op {n : Nat} {r : Mat} (s : Sq n r) (hn : n ≤ 3) {i j : Nat} {k : Int} {ri rj : List Int} (hi : r[i]? = some ri) (hj : r[j]? = some rj) (hij : i ≠ j) : detE (r.set i (List.zipWith (fun x y => x + k * y) ri rj)) = detE r := by
  have hil : i < n := by have := (List.getElem?_eq_some_iff.mp hi).1; have := s.h; omega
  have hjl : j < n := by have := (List.getElem?_eq_some_iff.mp hj).1; have := s.h; omega
  have h : n = 0 ∨ n = 1 ∨ n = 2 ∨ n = 3 := by omega
  rcases h with rfl | rfl | rfl | rfl
  · omega
  · omega
  · obtain ⟨a, b, c, d, rfl⟩ := sq2 s
    rcases (by omega : i = 0 ∨ i = 1) with rfl | rfl <;> rcases (by omega : j = 0 ∨ j = 1) with rfl | rfl <;> first | (exact absurd rfl hij) | (cases hi; cases hj; simp [detE]; grind)
  · obtain ⟨a, b, c, d, e, f, g, h, i', rfl⟩ := sq3 s
    rcases (by omega : i = 0 ∨ i = 1 ∨ i = 2) with rfl | rfl | rfl <;> rcases (by omega : j = 0 ∨ j = 1 ∨ j = 2) with rfl | rfl | rfl <;> first | (exact absurd rfl hij) | (cases hi; cases hj; simp [detE]; grind)
theorem sq_set {n : Nat} {r : Mat} (s : Sq n r) {i : Nat} {row : List Int} (h : row.length = n) : Sq n (r.set i row) := by
  refine ⟨by rw [List.length_set]; exact s.h, fun l hl => ?_⟩
  rcases List.mem_or_eq_of_mem_set hl with q | q
  · exact s.w l q
  · rw [q]; exact h
section
variable {p : Pm} {ρ : Rho} {ta tb te : TE} {tt : TT} {w : Po}
theorem rn_asgX {g : TG} {P : PyData → Prop} (h : Ex p te ρ P) (t : ∀ d, P d → ∃ (ts : List Nat) (ρ' : Rho), Tg p g ts ρ d ρ' ∧ w.N ρ') : Rn p (tAsg te g) ρ w := fun H0 O σ H D e n r b c =>
  h H0 O σ H e _ fun v H2 d k2 o2 hd pd => by
    obtain ⟨ts, ρ', tg, k⟩ := t d pd
    exact tg H0 O σ H2 v (e.kq k2 o2) hd _ fun σ' e' _ => n O σ' H2 ρ' e' k
/-- one int from an int, some int from some -/
theorem ex_I1 {g : Int → Int → Int} {P1 P2 : Int → Prop} (h : Ex p ta ρ (fun d => ∃ x, d = .int x ∧ P1 x)) (k : Ex p tb ρ (fun d => ∃ x, d = .int x ∧ P2 x)) : Ex p (tOp (rI0 fun i j => .int (g i j)) ta tb) ρ (fun d => ∃ x y, P1 x ∧ P2 y ∧ d = .int (g x y)) := ex_op h k fun d e ⟨x, ex, hx⟩ ⟨y, ey, hy⟩ => by
  subst ex ey
  exact fun H0 O σ ρ H x' y' en h1 h2 Q q => r2_I0 (g' := fun i j => .int (g i j)) (fun _ _ => .int _) H0 O σ ρ H x' y' en h1 h2 Q fun v H2 f k o hv hf => q v H2 f k o hv ⟨x, y, hx, hy, hf⟩
theorem ex_I2 {C : Int → Int → Prop} {g : Int → Int → Int} {P1 P2 : Int → Prop} (h : Ex p ta ρ (fun d => ∃ x, d = .int x ∧ P1 x)) (k : Ex p tb ρ (fun d => ∃ x, d = .int x ∧ P2 x)) (hc : ∀ x y, P1 x → P2 y → C x y) : Ex p (tOp (rI C fun i j => .int (g i j)) ta tb) ρ (fun d => ∃ x y, P1 x ∧ P2 y ∧ d = .int (g x y)) := ex_op h k fun d e ⟨x, ex, hx⟩ ⟨y, ey, hy⟩ => by
  subst ex ey
  exact fun H0 O σ ρ H x' y' en h1 h2 Q q => r2_I (C := C) (g' := fun i j => .int (g i j)) (hc x y hx hy) (fun _ _ => .int _) H0 O σ ρ H x' y' en h1 h2 Q fun v H2 f k o hv hf => q v H2 f k o hv ⟨x, y, hx, hy, hf⟩
theorem ex_toI {x : Int} (h : Ed p ta ρ (.int x)) : Ex p ta ρ (fun d => ∃ y, d = .int y ∧ y = x) := h.imp fun d e => ⟨x, e, rfl⟩
end
end Kz
set_option Elab.async false
set_option linter.all false
set_option maxRecDepth 100000
set_option maxHeartbeats 4000000
namespace Kz
open PySem PySem.Spec PyProof.Rows L2
abbrev Nch : List Str := ["deck", "n", "many", "left", "rows", "turn", "row", "sign", "x", "i", "j", "c", "y"]
theorem eraseIdx_mapD : ∀ (l : Mat) (m : Nat), (l.map rowD).eraseIdx m = (l.eraseIdx m).map rowD
  | [], _ => rfl
  | _ :: _, 0 => rfl
  | a :: l, m + 1 => by
    show rowD a :: (l.map rowD).eraseIdx m = _
    rw [eraseIdx_mapD l m]; rfl
theorem mem_stage {n t k : Nat} {s : Int} {x : Mat × Mat} (hx : x ∈ stage n t) (hk : k < x.1.length) (hs : s = 1 ∨ s = -1) : (x.1.eraseIdx k, x.2 ++ [(x.1.getD k []).map fun y => s * y]) ∈ stage n (t + 1) := by
  refine List.mem_flatMap.mpr ⟨x, hx, List.mem_flatMap.mpr ⟨k, List.mem_range.mpr hk, List.mem_map.mpr ⟨s, by rcases hs with rfl | rfl <;> simp, rfl⟩⟩⟩
theorem ixN_nat' {l j : Nat} (h : j < l) : ixN l ((j : Nat) : Int) = some j := by
  unfold ixN
  simp
  omega
section
variable {P : Program} {w : World} {K : PySem.W.Frag} {mg : Str → Option Value} {base : Heap}
abbrev spChange : Sp := deckSp [] 2 (G := Nat × Nat) (fun g => [.int (g.1 : Int), .int (g.2 : Int)]) (fun g => 1 ≤ g.1 ∧ g.1 ≤ 3 ∧ g.2 ≤ 1000) (fun g d => ∃ c, d = matD c ∧ ChM g.1 c)
theorem ok_change (B : Bn mg) {f : Addr} {fd : FuncData} (F : Fun K "_law_change" "_law_change" sChange f fd) (C : Cl P w K mg base "_law_draw" ["deck", "many"] 1 spDraw) (C2 : Cl P w K mg base "_law_pick" ["deck", "some"] 2 spPick) (C3 : Cl P w K mg base "_law_unit" ["n"] 1 spLUnit) : FnOk P w K mg base CX0 3 f fd ["deck", "n", "many"] spChange := by
  refine ok_deck F scChange rfl (by decide) fun cdv A outer s H E hr => ⟨_, pss_cons (ps_par (i := 3) (j := 4) rfl scChange.nd rfl rfl (by decide) rfl rfl (pa_cons (pList B (pCall C3 hr (by decide) (pa_cons (pv 1) pa_nil))) (pa_cons (pe_lst pa_nil) pa_nil)) rfl)
    (pss_cons (ps_for PassesOwn.never rfl (piR B (pv 1)) (gN 5 scChange.nd)
      (pss_cons (ps_asg (pe_tup (pa_cons (pe_bm PySem.F.plainAttrs_list PySem.F.slot_list_pop PySem.F.type_list_pop mt_popAt (pv 3) (pa_cons (pCall C hr (by decide) (pa_cons (pv 0) (pa_cons (pLen B (pv 3)) pa_nil))) pa_nil)) (pa_cons (pe_op op_sub pe_int (pe_op op_mul pe_int (pCall C hr (by decide) (pa_cons (pv 0) (pa_cons pe_int pa_nil))))) pa_nil))) (gP' K 6 7 rfl scChange.nd))
        (pss_one (ps_expr (pe_bm PySem.F.plainAttrs_list PySem.F.slot_list_append PySem.F.type_list_append mt_append (pv 4) (pa_cons (pTuple B (pe_lc (own := [("x", 8)]) rfl scChange.nd (piT K (pv 6)) (blkOk_by (own := [("x", 8)]) (N := Nch) (sc := defScope sChange) (by decide +kernel)) (fun _ _ _ _ _ => gN 8 scChange.nd) (fun _ _ _ _ _ => pts_nil) (fun _ _ _ _ _ => pe_op op_mul (pv 7) (pv 8)))) pa_nil))))))
    (pss_cons (ps_for PassesOwn.never rfl (piR B (pe_ifExp (pt_cmpR op_gt (pv 1) pe_int (nomark _)) (pv 2) pe_int)) (gN 5 scChange.nd)
      (pss_cons (ps_set (i := 9) scChange.nd rfl (.inl rfl) (pCall C hr (by decide) (pa_cons (pv 0) (pa_cons (pv 1) pa_nil))))
      (pss_cons (ps_asg (pe_tup (pa_cons (pe_op op_mod (pInt B (pe_op op_add (pe_op op_add (pv 9) pe_int) (pCall C hr (by decide) (pa_cons (pv 0) (pa_cons (pe_op op_sub (pv 1) pe_int) pa_nil))))) (pv 1)) (pa_cons (pCall C2 hr (by decide) (pa_cons (pv 0) (pa_cons (pe_lst (pa_cons pe_int (pa_cons (pe_un un_neg pe_int) (pa_cons pe_int (pa_cons (pe_un un_neg pe_int) (pa_cons pe_int (pa_cons (pe_un un_neg pe_int) pa_nil))))))) pa_nil))) pa_nil))) (gP' K 10 11 rfl scChange.nd))
      (pss_cons (ps_set (i := 6) scChange.nd rfl (.inl rfl) (pTuple B (pe_lc (own := [("x", 8), ("y", 12)]) rfl scChange.nd (piZ K B (pe_ix (ixL K) (pv 4) (pv 9) (fun _ _ => rfl)) (pe_ix (ixL K) (pv 4) (pv 10) (fun _ _ => rfl))) (blkOk_by (own := [("x", 8), ("y", 12)]) (N := Nch) (sc := defScope sChange) (by decide +kernel)) (fun _ _ _ _ _ => gP' K 8 12 rfl scChange.nd) (fun _ _ _ _ _ => pts_nil) (fun _ _ _ _ _ => pe_op op_add (pv 8) (pe_op op_mul (pv 11) (pv 12))))))
      (pss_one (ps_if (pt_cmpR op_le (pMax B rfl (pe_lc (own := [("x", 8)]) rfl scChange.nd (piT K (pv 6)) (blkOk_by (own := [("x", 8)]) (N := Nch) (sc := defScope sChange) (by decide +kernel)) (fun _ _ _ _ _ => gN 8 scChange.nd) (fun _ _ _ _ _ => pts_nil) (fun _ _ _ _ _ => pAbs' B (pv 8)))) pe_int (nomark _)) (pss_one (ps_asg (pv 6) (pg_sub (pv 4) (pv 9) set_list))) pss_nil))))))
    (pss_one (ps_ret (pTuple B (pv 4)))))), fun S dk cl h1 h2 g hg => ?_⟩
  obtain ⟨n, many⟩ := g
  obtain ⟨hn1, hn3, hm⟩ := hg
  dsimp only at hn1 hn3 hm
  refine rn_seq (Nm := fun ρ => ∃ a5 a6 a7 a8 a9 a10 a11 a12, ρ = [some (.raw (.ref dk)), some (.dat (.int (n : Int))), some (.dat (.int (many : Int))), some (.own ((unitM n).map rowD)), some (.own []), a5, a6, a7, a8, a9, a10, a11, a12]) (rn_parOO (ed_callG n (ea_one (ex_var rfl)) rfl (by show n ≤ 64; omega) (by simp) fun d h => h) ⟨_, _, _, _, _, _, _, _, rfl⟩) ?_
  rintro ρ ⟨a5, a6, a7, a8, a9, a10, a11, a12, rfl⟩
  refine rn_seq (Nm := fun ρ => ∃ c, ChM n c ∧ ∃ a3 a5 a6 a7 a8 a9 a10 a11 a12, ρ = [some (.raw (.ref dk)), some (.dat (.int (n : Int))), some (.dat (.int (many : Int))), a3, some (.own (c.map rowD)), a5, a6, a7, a8, a9, a10, a11, a12])
    (rn_for (fun ds t ρ => ∃ x ∈ stage n t, ∃ a5 a6 a7 a8 a9 a10 a11 a12, ρ = [some (.raw (.ref dk)), some (.dat (.int (n : Int))), some (.dat (.int (many : Int))), some (.own (x.1.map rowD)), some (.own (x.2.map rowD)), a5, a6, a7, a8, a9, a10, a11, a12]) (ii_rng1 (i := (n : Int)) (ex_var rfl) (by omega)) (fun ds e => ⟨_, List.mem_singleton.mpr rfl, _, _, _, _, _, _, _, _, rfl⟩) (fun ds t d ρ e hd iv => ?_) (fun ds ρ e iv => ?_)) ?_
  · subst e
    obtain ⟨ht, rfl⟩ := rngD_get hd
    have ht' : t < n := by simpa using ht
    obtain ⟨x, hx, a5, a6, a7, a8, a9, a10, a11, a12, rfl⟩ := iv
    have hso := stage_ok1 n hn3 t (by omega) x hx
    unfold stageOk at hso
    rw [Bool.and_eq_true] at hso
    have hxl : x.1.length = n - t := by simpa using hso.1
    have hxw : ∀ l ∈ x.1, l.length = n := fun l hl => by simpa using List.all_eq_true.mp hso.2 l hl
    have hx2 : x.2.length ≤ 10 ∨ True := .inr trivial
    refine ⟨_, _, tg_name, rn_seq (Nm := fun ρ => ∃ k s, k < x.1.length ∧ (s = 1 ∨ s = -1) ∧ ∃ a5 a8 a9 a10 a11 a12, ρ = [some (.raw (.ref dk)), some (.dat (.int (n : Int))), some (.dat (.int (many : Int))), some (.own ((x.1.eraseIdx k).map rowD)), some (.own (x.2.map rowD)), a5, some (.dat (rowD (x.1.getD k []))), some (.dat (.int s)), a8, a9, a10, a11, a12])
      (rn_popPair (l := 3) (ds := x.1.map rowD) (P := fun d => ∃ s, d = .int s ∧ (s = 1 ∨ s = -1)) rfl (by simp; omega) ?_ (fun m hm => ?_) (fun m d e hd he => ?_)) ?_⟩
    · refine Ex.imp (P := DrawR (x.1.length : Int)) ?_ fun d ⟨r, e, q1, q2⟩ => ⟨r, e, q1, by simpa using q2⟩
      exact ex_callD (x.1.length : Int) rfl (ea_one (Ed.cast (ed_lenO (ds := x.1.map rowD) rfl) (by simp))) rfl ⟨by omega, by omega⟩ (by simp)
    · refine Ex.imp (ex_I1 (g := fun i j => i - j) (P1 := (· = 1)) (P2 := fun y => y = 0 ∨ y = 2) (ex_toI ex_int) (Ex.imp (ex_I2 (C := CMul) (g := fun i j => i * j) (P1 := (· = 2)) (P2 := fun y => 0 ≤ y ∧ y < 2) (ex_toI ex_int) (ex_callD 2 rfl (ea_one ex_int) rfl (by decide) (by simp)) (fun a b e _ => .inl (by rw [e]; decide))) fun d ⟨a, b, e1, e2, e3⟩ => ⟨_, e3, by subst e1; omega⟩)) fun d ⟨a, b, e1, e2, e3⟩ => ⟨_, e3, by omega⟩
    · rw [List.getElem?_map] at hd
      obtain ⟨l, hl, rfl⟩ := Option.map_eq_some_iff.mp hd
      obtain ⟨s, rfl, hs⟩ := he
      have hml : m < x.1.length := (List.getElem?_eq_some_iff.mp hl).1
      refine ⟨m, s, hml, hs, some (.dat (.int (0 + (t : Int)))), a8, a9, a10, a11, a12, ?_⟩
      have e1 : x.1.getD m [] = l := by rw [List.getD_eq_getElem?_getD, hl]; rfl
      rw [e1, ← eraseIdx_mapD]
      rfl
    · rintro ρ ⟨k, s, hk, hs, a5, a8, a9, a10, a11, a12, rfl⟩
      have hmem := mem_stage hx hk hs
      have hlk : (x.1.getD k []).length ≤ 64 := by
        rw [List.getD_eq_getElem?_getD, List.getElem?_eq_getElem hk]
        have := hxw _ (List.getElem_mem hk)
        show (x.1[k]).length ≤ 64
        omega
      refine rn_append (i := 4) (ds := x.2.map rowD) (P := (· = rowD ((x.1.getD k []).map fun y => s * y))) rfl ?_ (ed_cb (ea_one (ed_lcM (((x.1.getD k []).map fun y => s * y).map .int) (ii_tup (ds := (x.1.getD k []).map .int) (ex_var rfl)) (by simp) (by simp; simp at hlk; omega) fun j d e hd he => ?_)) (bc_tuple (.l _))) fun d hd => ?_
      · have : ∀ t, t ≤ n → ∀ x ∈ stage n t, x.2.length = t := by
          intro t
          induction t with
          | zero => intro _ x hx; rw [List.mem_singleton.mp hx]; rfl
          | succ t ih =>
            intro ht x hx
            obtain ⟨y, hy, hx⟩ := List.mem_flatMap.mp hx
            obtain ⟨k, _, hx⟩ := List.mem_flatMap.mp hx
            obtain ⟨s, _, rfl⟩ := List.mem_map.mp hx
            rw [List.length_append, ih (by omega) y hy]; rfl
        have := this t (by omega) x hx
        simp
        omega
      · rw [List.map_map, List.getElem?_map] at he
        rw [List.getElem?_map] at hd
        obtain ⟨y, hy, rfl⟩ := Option.map_eq_some_iff.mp hd
        rw [hy] at he
        cases he
        exact ⟨[8], _, fun j hj => hj, tg_name, ed_mul (i := s) (j := y) (ex_var rfl) (ex_var rfl) (.inl (by omega))⟩
      · subst hd
        exact ⟨_, hmem, _, _, _, _, _, _, _, _, by rw [List.map_append]; rfl⟩
  · subst e
    rw [rngD_len] at iv
    have en : (n : Int).toNat = n := by omega
    rw [en] at iv
    obtain ⟨x, hx, a5, a6, a7, a8, a9, a10, a11, a12, rfl⟩ := iv
    exact ⟨x.2, stage_end hn3 hx, _, _, _, _, _, _, _, _, _, rfl⟩
  rintro ρ ⟨c, hc, a3, a5, a6, a7, a8, a9, a10, a11, a12, rfl⟩
  refine rn_seq (Nm := fun ρ => ∃ c, ChM n c ∧ ∃ a3 a5 a6 a7 a8 a9 a10 a11 a12, ρ = [some (.raw (.ref dk)), some (.dat (.int (n : Int))), some (.dat (.int (many : Int))), a3, some (.own (c.map rowD)), a5, a6, a7, a8, a9, a10, a11, a12])
    (rn_for (fun ds t ρ => ∃ c, ChM n c ∧ ∃ a3 a5 a6 a7 a8 a9 a10 a11 a12, ρ = [some (.raw (.ref dk)), some (.dat (.int (n : Int))), some (.dat (.int (many : Int))), a3, some (.own (c.map rowD)), a5, a6, a7, a8, a9, a10, a11, a12]) (ii_rng1 (i := if (n : Int) > 1 then (many : Int) else 0) ?_ (by split <;> omega)) (fun ds e => ⟨c, hc, _, _, _, _, _, _, _, _, _, rfl⟩) (fun ds t d ρ e hd iv => ?_) (fun ds ρ e iv => iv)) ?_
  · refine ex_ifE (Pt := (· = decide ((1 : Int) < (n : Int)))) (et_test (ed_cmp (c := fun i j => decide (j < i)) (i := (n : Int)) (j := 1) (ex_var rfl) ex_int)) (fun e => ?_) (fun e => ?_)
    · rw [if_pos (of_decide_eq_true e.symm)]
      exact ex_var rfl
    · rw [if_neg (of_decide_eq_false e.symm)]
      exact ex_int
  · subst e
    obtain ⟨ht, rfl⟩ := rngD_get hd
    have hn2 : 1 < n := by
      by_cases z : (n : Int) > 1
      · omega
      · rw [if_neg z] at ht; simp at ht
    obtain ⟨c, hc, a3, a5, a6, a7, a8, a9, a10, a11, a12, rfl⟩ := iv
    refine ⟨_, _, tg_name, rn_setX_ (P := DrawR (n : Int)) (ex_callD (n : Int) rfl (ea_one (ex_var rfl)) rfl ⟨by omega, by omega⟩ (by simp)) ?_⟩
    rintro d ⟨i, rfl, hi0, hi1⟩
    refine rn_seq (Nm := fun ρ => ∃ j k, 0 ≤ j ∧ j < (n : Int) ∧ j ≠ i ∧ (k = 1 ∨ k = -1 ∨ k = 2 ∨ k = -2) ∧ ∃ a5 a6 a7 a8 a12, ρ = [some (.raw (.ref dk)), some (.dat (.int (n : Int))), some (.dat (.int (many : Int))), a3, some (.own (c.map rowD)), a5, a6, a7, a8, some (.dat (.int i)), some (.dat (.int j)), some (.dat (.int k)), a12])
      (rn_asgX (P := fun d => ∃ j k, d = .tuple [.int j, .int k] ∧ 0 ≤ j ∧ j < (n : Int) ∧ j ≠ i ∧ (k = 1 ∨ k = -1 ∨ k = 2 ∨ k = -2)) (Ex.imp (ex_tup (ea_cons (P := fun d => ∃ j, d = .int j ∧ 0 ≤ j ∧ j < (n : Int) ∧ j ≠ i) ?_ (ea_oneX (P := PickR [1, -1, 1, -1, 2, -2]) ?_)) fun ds ⟨d, r, e, _, e2, e3, _⟩ => by subst e e3; show 2 ≤ 1000; decide) ?_) fun d ⟨j, k, e, q1, q2, q3, q4⟩ => ?_) ?_
    · refine Ex.imp (ex_I2 (C := fun _ j => 0 < j) (g := fun i j => i % j) (P1 := fun x => ∃ r, x = i + 1 + r ∧ 0 ≤ r ∧ r < (n : Int) - 1) (P2 := (· = (n : Int))) (ex_cb (ea_oneX (P := fun d => ∃ x, d = .int x ∧ ∃ r, x = i + 1 + r ∧ 0 ≤ r ∧ r < (n : Int) - 1) (Ex.imp (ex_I1 (g := fun i j => i + j) (P1 := (· = i + 1)) (P2 := fun r => 0 ≤ r ∧ r < (n : Int) - 1) (ex_toI (ed_add (ex_var rfl) ex_int)) (ex_callD ((n : Int) - 1) rfl (ea_one (ed_sub (ex_var rfl) ex_int)) rfl ⟨by omega, by omega⟩ (by simp))) fun d ⟨a, b, e1, e2, e3⟩ => ⟨_, e3, b, by rw [e1], e2.1, e2.2⟩)) fun ds ⟨d, e, x, ex, hx⟩ => by subst e ex; exact bc_int.imp fun y hy => ⟨x, hy, hx⟩) (ex_toI (ex_var rfl)) (fun x y _ e => by rw [e]; omega)) fun d ⟨a, b, ⟨r, e1, q1, q2⟩, e2, e3⟩ => ⟨_, e3, ?_⟩
      subst e2 e1
      refine ⟨Int.emod_nonneg _ (by omega), Int.emod_lt_of_pos _ (by omega), fun z => ?_⟩
      have hz : i + 1 + r = i + 1 + r := rfl
      by_cases hge : (n : Int) ≤ i + 1 + r
      · have : (i + 1 + r) % (n : Int) = i + 1 + r - n := by
          rw [← Int.sub_emod_right]
          exact Int.emod_eq_of_lt (by omega) (by omega)
        omega
      · have : (i + 1 + r) % (n : Int) = i + 1 + r := Int.emod_eq_of_lt (by omega) (by omega)
        omega
    · exact ex_callD [1, -1, 1, -1, 2, -2] rfl (ea_one (ed_lst (ea_consD ex_int (ea_consD (ed_neg ex_int) (ea_consD ex_int (ea_consD (ed_neg ex_int) (ea_consD ex_int (ea_one (ed_neg ex_int)))))))))  rfl (by decide) (by simp)
    · rintro d ⟨ds, rfl, d1, r, rfl, ⟨j, rfl, q⟩, d2, rfl, k, hk, rfl⟩
      refine ⟨j, k, rfl, q.1, q.2.1, q.2.2, ?_⟩
      simp at hk
      omega
    · subst e
      exact ⟨_, _, tg_pair tg_name tg_name, j, k, q1, q2, q3, q4, _, _, _, _, _, rfl⟩
    rintro ρ ⟨j, k, hj0, hj1, hij, hk, a5, a6, a7, a8, a12, rfl⟩
    have hil : i.toNat < c.length := by have := hc.s.h; omega
    have hjl : j.toNat < c.length := by have := hc.s.h; omega
    have ei : i = ((i.toNat : Nat) : Int) := by omega
    have ej : j = ((j.toNat : Nat) : Int) := by omega
    have gi : c[i.toNat]? = some c[i.toNat] := List.getElem?_eq_getElem hil
    have gj : c[j.toNat]? = some c[j.toNat] := List.getElem?_eq_getElem hjl
    have wi := hc.s.w _ (List.getElem_mem hil)
    have wj := hc.s.w _ (List.getElem_mem hjl)
    generalize c[i.toNat] = ri at *
    generalize c[j.toNat] = rj at *
    let row : List Int := List.zipWith (fun x y => x + k * y) ri rj
    have hrl : row.length = n := by show (List.zipWith _ _ _).length = n; rw [List.length_zipWith]; omega
    refine rn_set_ (d := rowD row) (ed_cb (ea_one (ed_lcM (row.map .int) (ii_zipT (ds := ri.map .int) (es := rj.map .int) (ed_ixO (ds := c.map rowD) (j := i) (d := rowD ri) rfl (ex_var rfl) (by rw [ei]; exact matD_at gi)) (ed_ixO (ds := c.map rowD) (j := j) (d := rowD rj) rfl (ex_var rfl) (by rw [ej]; exact matD_at gj))) (by rw [zipD_len]; simp [row]) (by rw [zipD_len]; simp; omega) fun m d e hd he => ?_)) (bc_tuple (.l _))) ?_
    · obtain ⟨x', y', g1, g2, rfl⟩ := zipD_get hd
      rw [List.getElem?_map] at g1 g2
      obtain ⟨x, hx, rfl⟩ := Option.map_eq_some_iff.mp g1
      obtain ⟨y, hy, rfl⟩ := Option.map_eq_some_iff.mp g2
      rw [List.getElem?_map, zipWith_at hx hy] at he
      cases he
      refine ⟨_, _, ?_, tg_pair tg_name tg_name, ed_add (i := x) (j := k * y) (ex_var rfl) (ed_mul (i := k) (j := y) (ex_var rfl) (ex_var rfl) (.inl (by omega)))⟩
      decide
    · refine rn_ifX (P := fun b => b = true → ∀ x ∈ row, x.natAbs ≤ 30) (et_testX (P := fun d => ∃ b, d = .bool b ∧ (b = true → ∀ x ∈ row, x.natAbs ≤ 30)) (ex_op (P1 := fun d => ∃ m, d = .int m ∧ ∀ x ∈ row, (x.natAbs : Int) ≤ m) (P2 := (· = .int 30)) ?_ ex_int fun d e ⟨m, em, hm⟩ he => ?_) fun d h => h) (fun hb => ?_) (fun hb => rn_next ⟨c, hc, _, _, _, _, _, _, _, _, _, rfl⟩)
      · refine ed_cb (ea_one (ed_lcM ((row.map fun g => if g < 0 then -g else g).map .int) (ii_tup (ds := row.map .int) (ex_var rfl)) (by simp) (by simp; omega) fun j d e hd he => ?_)) ((bc_max (by rw [List.length_map]; omega)).imp fun d ⟨m, e, _, h⟩ => ⟨m, e, fun x hx => ?_⟩)
        · rw [List.map_map, List.getElem?_map] at he
          rw [List.getElem?_map] at hd
          obtain ⟨x, hx, rfl⟩ := Option.map_eq_some_iff.mp hd
          rw [hx] at he
          cases he
          exact ⟨[8], _, fun j hj => hj, tg_name, ed_cb (ea_one (ex_var (d := .int x) rfl)) bc_abs⟩
        · have := h _ (List.mem_map.mpr ⟨x, hx, rfl⟩)
          split at this <;> omega
      · subst em he
        exact fun H0 O σ ρ H x y en hx hy Q q => r2_I0 (g' := fun i j => .bool (decide (i ≤ j))) (fun _ _ => .bl _) H0 O σ ρ H x y en hx hy Q fun v H2 f k o hv hf => q v H2 f k o hv ⟨_, hf, fun h x hx => by
          have h1 := hm x hx
          have h2 := of_decide_eq_true h
          omega⟩
      · have hrow := hb rfl
        refine rn_setitem (i := 4) (j := i) (m := i.toNat) (ds := c.map rowD) (P := (· = rowD row)) rfl (ex_var rfl) (ex_var rfl) (by rw [ei, List.length_map]; exact ixN_nat' hil) fun d hd => ?_
        subst hd
        refine ⟨c.set i.toNat row, ⟨sq_set hc.s hrl, by rw [det_op hc.s hn3 gi gj (by omega)]; exact hc.d, fun l hl => ?_, by rw [det_op hc.s hn3 gi gj (by omega)]; exact hc.u⟩, _, _, _, _, _, _, _, _, _, by rw [List.map_set]; rfl⟩
        rcases List.mem_or_eq_of_mem_set hl with q | q
        · exact hc.b l q
        · rw [q]; exact hrow
  · rintro ρ ⟨c, hc, a3, a5, a6, a7, a8, a9, a10, a11, a12, rfl⟩
    exact rn_ret (ed_tupO (ds := c.map rowD) rfl) ⟨c, rfl, hc⟩
end
end Kz
set_option Elab.async false
set_option linter.all false
set_option maxRecDepth 100000
set_option maxHeartbeats 4000000
/-! Kz: forms stay forms -/
namespace Kz
theorem sqP {x : Int} (h : x ≠ 0) : 0 < x * x := by
  rcases Int.lt_or_gt_of_ne h with z | z
  · exact Int.mul_pos_of_neg_of_neg z z
  · exact Int.mul_pos z z
theorem sqN (x : Int) : 0 ≤ x * x := by
  by_cases h : x = 0
  · rw [h]; decide
  · exact Int.le_of_lt (sqP h)
theorem of_mul {a b : Int} (ha : 0 < a) (h : 0 < a * b) : 0 < b := by
  rcases Int.lt_or_le 0 b with z | z
  · exact z
  · have := Int.mul_le_mul_of_nonneg_left z (Int.le_of_lt ha)
    rw [Int.mul_zero] at this
    omega
theorem mulN {a b : Int} (ha : 0 ≤ a) (hb : 0 ≤ b) : 0 ≤ a * b := Int.mul_nonneg ha hb
theorem pos2 {a b d x y : Int} (ha : 0 < a) (hD : 0 < a * d - b * b) (h : x ≠ 0 ∨ y ≠ 0) : 0 < a * x * x + 2 * b * x * y + d * y * y := by
  refine of_mul ha ?_
  have e : a * (a * x * x + 2 * b * x * y + d * y * y) = (a * x + b * y) * (a * x + b * y) + (a * d - b * b) * (y * y) := by grind
  rw [e]
  by_cases hy : y = 0
  · have hx : x ≠ 0 := h.resolve_right fun z => z hy
    subst hy
    have := sqP (x := a * x) (Int.mul_ne_zero (by omega) hx)
    simpa using this
  · have h1 := sqN (a * x + b * y)
    have h2 := Int.mul_pos hD (sqP hy)
    omega
theorem pos3 {a b c e f i x y z : Int} (ha : 0 < a) (hm : 0 < a * e - b * b) (hD : 0 < a * (e * i - f * f) - b * (b * i - f * c) + c * (b * f - e * c)) (h : x ≠ 0 ∨ y ≠ 0 ∨ z ≠ 0) :
    0 < a * x * x + e * y * y + i * z * z + 2 * b * x * y + 2 * c * x * z + 2 * f * y * z := by
  refine of_mul (Int.mul_pos ha hm) ?_
  have e1 : a * (a * e - b * b) * (a * x * x + e * y * y + i * z * z + 2 * b * x * y + 2 * c * x * z + 2 * f * y * z) =
      (a * e - b * b) * ((a * x + b * y + c * z) * (a * x + b * y + c * z)) + ((a * e - b * b) * y + (a * f - b * c) * z) * ((a * e - b * b) * y + (a * f - b * c) * z) + a * (a * (e * i - f * f) - b * (b * i - f * c) + c * (b * f - e * c)) * (z * z) := by grind
  rw [e1]
  have q1 := mulN (Int.le_of_lt hm) (sqN (a * x + b * y + c * z))
  have q2 := sqN ((a * e - b * b) * y + (a * f - b * c) * z)
  by_cases hz : z = 0
  · subst hz
    by_cases hy : y = 0
    · subst hy
      have hx : x ≠ 0 := h.resolve_right (by simp)
      have := Int.mul_pos hm (sqP (x := a * x) (Int.mul_ne_zero (by omega) hx))
      simpa using this
    · have q3 := sqP (x := (a * e - b * b) * y) (Int.mul_ne_zero (by omega) hy)
      simp at q1 q2 q3 ⊢
      omega
  · have q3 := Int.mul_pos (Int.mul_pos ha hD) (sqP hz)
    omega
/-! forms, entry by entry -/
theorem form1 {a : Int} (h : 0 < a) : FormM 1 [[a]] := by
  refine ⟨⟨rfl, by simp⟩, by decide, by decide, fun i j => ?_, fun k h1 h2 => ?_⟩
  · exact sym_of (m := 1) ⟨rfl, by simp⟩ (fun i j h1 h2 => by omega) i j
  · have : k = 1 := by omega
    subst this
    exact h
theorem form2 {a b d : Int} (h1 : 0 < a) (h2 : 0 < a * d - b * b) : FormM 2 [[a, b], [b, d]] := by
  refine ⟨⟨rfl, by simp⟩, by decide, by decide, sym_of (m := 2) ⟨rfl, by simp⟩ fun i j q1 q2 => ?_, fun k q1 q2 => ?_⟩
  · have : i = 1 ∧ j = 0 := by omega
    obtain ⟨rfl, rfl⟩ := this
    rfl
  · have : k = 1 ∨ k = 2 := by omega
    rcases this with rfl | rfl
    · exact h1
    · exact h2
theorem form3 {a b c e f i : Int} (h1 : 0 < a) (h2 : 0 < a * e - b * b) (h3 : 0 < a * (e * i - f * f) - b * (b * i - f * c) + c * (b * f - e * c)) : FormM 3 [[a, b, c], [b, e, f], [c, f, i]] := by
  refine ⟨⟨rfl, by simp⟩, by decide, by decide, sym_of (m := 3) ⟨rfl, by simp⟩ fun i j q1 q2 => ?_, fun k q1 q2 => ?_⟩
  · have : (i = 1 ∧ j = 0) ∨ (i = 2 ∧ j = 0) ∨ (i = 2 ∧ j = 1) := by omega
    rcases this with ⟨rfl, rfl⟩ | ⟨rfl, rfl⟩ | ⟨rfl, rfl⟩ <;> rfl
  · have : k = 1 ∨ k = 2 ∨ k = 3 := by omega
    rcases this with rfl | rfl | rfl
    · exact h1
    · exact h2
    · exact h3
theorem form1_inv {r : Mat} (f : FormM 1 r) : ∃ a, r = [[a]] ∧ 0 < a := by
  obtain ⟨a, rfl⟩ := sq1 f.s
  exact ⟨a, rfl, f.pos 1 (by decide) (by decide)⟩
theorem form2_inv {r : Mat} (f : FormM 2 r) : ∃ a b d, r = [[a, b], [b, d]] ∧ 0 < a ∧ 0 < a * d - b * b := by
  obtain ⟨a, b, c, d, rfl⟩ := sq2 f.s
  have e : b = c := f.sym 0 1
  subst e
  exact ⟨a, b, d, rfl, f.pos 1 (by decide) (by decide), f.pos 2 (by decide) (by decide)⟩
theorem form3_inv {r : Mat} (f : FormM 3 r) : ∃ a b c e f i, r = [[a, b, c], [b, e, f], [c, f, i]] ∧ 0 < a ∧ 0 < a * e - b * b ∧ 0 < a * (e * i - f * f) - b * (b * i - f * c) + c * (b * f - e * c) := by
  obtain ⟨a, b, c, d, e, g, h, k, i, rfl⟩ := sq3 f.s
  have e1 : b = d := f.sym 0 1
  have e2 : c = h := f.sym 0 2
  have e3 : g = k := f.sym 1 2
  subst e1 e2 e3
  exact ⟨a, b, c, e, g, i, rfl, f.pos 1 (by decide) (by decide), f.pos 2 (by decide) (by decide), f.pos 3 (by decide) (by decide)⟩
theorem form_ch1 {r c : Mat} (f : FormM 1 r) (h : ChM 1 c) : FormM 1 (chM r c) := by
  obtain ⟨a, rfl, ha⟩ := form1_inv f
  obtain ⟨u, rfl⟩ := sq1 h.s
  have hu : u ≠ 0 := h.d
  have e : chM [[a]] [[u]] = [[a * (u * u)]] := by simp [chM, leanM, dot]; grind
  rw [e]
  exact form1 (Int.mul_pos ha (sqP hu))
theorem form_ch2 {r c : Mat} (f : FormM 2 r) (h : ChM 2 c) : FormM 2 (chM r c) := by
  obtain ⟨a, b, d, rfl, ha, hD⟩ := form2_inv f
  obtain ⟨p, q, s, t, rfl⟩ := sq2 h.s
  have hd : p * t - q * s ≠ 0 := h.d
  have e : chM [[a, b], [b, d]] [[p, q], [s, t]] = [[a * p * p + 2 * b * p * q + d * q * q, a * p * s + b * (p * t + q * s) + d * q * t], [a * p * s + b * (p * t + q * s) + d * q * t, a * s * s + 2 * b * s * t + d * t * t]] := by simp [chM, leanM, dot]; grind
  rw [e]
  refine form2 (pos2 ha hD ?_) ?_
  · by_cases z : p = 0
    · right
      intro w
      exact hd (by rw [z, w]; simp)
    · exact .inl z
  · have := Int.mul_pos hD (sqP hd)
    have e2 : (a * p * p + 2 * b * p * q + d * q * q) * (a * s * s + 2 * b * s * t + d * t * t) - (a * p * s + b * (p * t + q * s) + d * q * t) * (a * p * s + b * (p * t + q * s) + d * q * t) = (a * d - b * b) * ((p * t - q * s) * (p * t - q * s)) := by grind
    rw [e2]; exact this
def bq (a b c e f i x y z x' y' z' : Int) : Int := a * x * x' + e * y * y' + i * z * z' + b * (x * y' + y * x') + c * (x * z' + z * x') + f * (y * z' + z * y')
theorem bq_self (a b c e f i x y z : Int) : bq a b c e f i x y z x y z = a * x * x + e * y * y + i * z * z + 2 * b * x * y + 2 * c * x * z + 2 * f * y * z := by unfold bq; grind
theorem det_mul3 (a b c d e f g h i a' b' c' d' e' f' g' h' i' : Int) :
    (a * a' + b * d' + c * g') * ((d * b' + e * e' + f * h') * (g * c' + h * f' + i * i') - (d * c' + e * f' + f * i') * (g * b' + h * e' + i * h')) - (a * b' + b * e' + c * h') * ((d * a' + e * d' + f * g') * (g * c' + h * f' + i * i') - (d * c' + e * f' + f * i') * (g * a' + h * d' + i * g')) + (a * c' + b * f' + c * i') * ((d * a' + e * d' + f * g') * (g * b' + h * e' + i * h') - (d * b' + e * e' + f * h') * (g * a' + h * d' + i * g')) =
    (a * (e * i - f * h) - b * (d * i - f * g) + c * (d * h - e * g)) * (a' * (e' * i' - f' * h') - b' * (d' * i' - f' * g') + c' * (d' * h' - e' * g')) := by grind
theorem minor3 (a b c e f i x y z x' y' z' : Int) : bq a b c e f i x y z x y z * bq a b c e f i x' y' z' x' y' z' - bq a b c e f i x y z x' y' z' * bq a b c e f i x y z x' y' z' =
    (a * e - b * b) * (x * y' - y * x') * (x * y' - y * x') + (a * i - c * c) * (z * x' - x * z') * (z * x' - x * z') + (e * i - f * f) * (y * z' - z * y') * (y * z' - z * y') + 2 * (b * c - a * f) * (x * y' - y * x') * (z * x' - x * z') + 2 * (b * f - c * e) * (x * y' - y * x') * (y * z' - z * y') + 2 * (c * f - b * i) * (z * x' - x * z') * (y * z' - z * y') := by unfold bq; grind
theorem form_ch3 {r c : Mat} (f : FormM 3 r) (h : ChM 3 c) : FormM 3 (chM r c) := by
  obtain ⟨a, b, c', e, f', i, rfl, ha, hm, hD⟩ := form3_inv f
  obtain ⟨x, y, z, x', y', z', x2, y2, z2, rfl⟩ := sq3 h.s
  have hd : x * (y' * z2 - z' * y2) - y * (x' * z2 - z' * x2) + z * (x' * y2 - y' * x2) ≠ 0 := h.d
  have e0 : chM [[a, b, c'], [b, e, f'], [c', f', i]] [[x, y, z], [x', y', z'], [x2, y2, z2]] = [[bq a b c' e f' i x y z x y z, bq a b c' e f' i x y z x' y' z', bq a b c' e f' i x y z x2 y2 z2], [bq a b c' e f' i x y z x' y' z', bq a b c' e f' i x' y' z' x' y' z', bq a b c' e f' i x' y' z' x2 y2 z2], [bq a b c' e f' i x y z x2 y2 z2, bq a b c' e f' i x' y' z' x2 y2 z2, bq a b c' e f' i x2 y2 z2 x2 y2 z2]] := by
    simp only [chM, leanM, dot, List.map_cons, List.map_nil, List.zipWith_cons_cons, List.zipWith_nil_left, List.zipWith_nil_right, List.sum_cons, List.sum_nil, bq, List.cons.injEq, and_true]
    refine ⟨⟨?_, ?_, ?_⟩, ⟨?_, ?_, ?_⟩, ?_, ?_, ?_⟩ <;> grind
  rw [e0]
  refine form3 ?_ ?_ ?_
  · rw [bq_self]
    refine pos3 ha hm hD ?_
    by_cases q1 : x = 0
    · by_cases q2 : y = 0
      · refine .inr (.inr fun q3 => hd ?_)
        rw [q1, q2, q3]; simp
      · exact .inr (.inl q2)
    · exact .inl q1
  · rw [minor3]
    have k2 : (a * e - b * b) * (a * i - c' * c') - (b * c' - a * f') * (b * c' - a * f') = a * (a * (e * i - f' * f') - b * (b * i - f' * c') + c' * (b * f' - e * c')) := by grind
    have k3 : (a * e - b * b) * ((a * i - c' * c') * (e * i - f' * f') - (c' * f' - b * i) * (c' * f' - b * i)) - (b * c' - a * f') * ((b * c' - a * f') * (e * i - f' * f') - (c' * f' - b * i) * (b * f' - c' * e)) + (b * f' - c' * e) * ((b * c' - a * f') * (c' * f' - b * i) - (a * i - c' * c') * (b * f' - c' * e)) = (a * (e * i - f' * f') - b * (b * i - f' * c') + c' * (b * f' - e * c')) * (a * (e * i - f' * f') - b * (b * i - f' * c') + c' * (b * f' - e * c')) := by grind
    refine pos3 hm (by rw [k2]; exact Int.mul_pos ha hD) (by rw [k3]; exact Int.mul_pos hD hD) ?_
    by_cases q1 : x * y' - y * x' = 0
    · by_cases q2 : z * x' - x * z' = 0
      · refine .inr (.inr fun q3 => hd ?_)
        have : x * (y' * z2 - z' * y2) - y * (x' * z2 - z' * x2) + z * (x' * y2 - y' * x2) = (y * z' - z * y') * x2 + (z * x' - x * z') * y2 + (x * y' - y * x') * z2 := by grind
        rw [this, q1, q2, q3]; simp
      · exact .inr (.inl q2)
    · exact .inl q1
  · have k1 := det_mul3 x y z x' y' z' x2 y2 z2 (a * x + b * y + c' * z) (a * x' + b * y' + c' * z') (a * x2 + b * y2 + c' * z2) (b * x + e * y + f' * z) (b * x' + e * y' + f' * z') (b * x2 + e * y2 + f' * z2) (c' * x + f' * y + i * z) (c' * x' + f' * y' + i * z') (c' * x2 + f' * y2 + i * z2)
    have k2 := det_mul3 a b c' b e f' c' f' i x x' x2 y y' y2 z z' z2
    rw [k2] at k1
    have g : ∀ p q r s t u : Int, bq a b c' e f' i p q r s t u = p * (a * s + b * t + c' * u) + q * (b * s + e * t + f' * u) + r * (c' * s + f' * t + i * u) := fun p q r s t u => by unfold bq; grind
    have g2 : ∀ p q r s t u : Int, bq a b c' e f' i p q r s t u = s * (a * p + b * q + c' * r) + t * (b * p + e * q + f' * r) + u * (c' * p + f' * q + i * r) := fun p q r s t u => by unfold bq; grind
    have key : bq a b c' e f' i x y z x y z * (bq a b c' e f' i x' y' z' x' y' z' * bq a b c' e f' i x2 y2 z2 x2 y2 z2 - bq a b c' e f' i x' y' z' x2 y2 z2 * bq a b c' e f' i x' y' z' x2 y2 z2) - bq a b c' e f' i x y z x' y' z' * (bq a b c' e f' i x y z x' y' z' * bq a b c' e f' i x2 y2 z2 x2 y2 z2 - bq a b c' e f' i x' y' z' x2 y2 z2 * bq a b c' e f' i x y z x2 y2 z2) + bq a b c' e f' i x y z x2 y2 z2 * (bq a b c' e f' i x y z x' y' z' * bq a b c' e f' i x' y' z' x2 y2 z2 - bq a b c' e f' i x' y' z' x' y' z' * bq a b c' e f' i x y z x2 y2 z2) =
        (x * (y' * z2 - z' * y2) - y * (x' * z2 - z' * x2) + z * (x' * y2 - y' * x2)) * ((a * (e * i - f' * f') - b * (b * i - f' * c') + c' * (b * f' - e * c')) * (x * (y' * z2 - y2 * z') - x' * (y * z2 - y2 * z) + x2 * (y * z' - y' * z))) := by
      rw [← k1, ← g x y z x y z, ← g x y z x' y' z', ← g x y z x2 y2 z2, ← g x' y' z' x' y' z', ← g x' y' z' x2 y2 z2, ← g x2 y2 z2 x2 y2 z2, ← g x' y' z' x y z, ← g x2 y2 z2 x y z, ← g x2 y2 z2 x' y' z']
      have s1 : bq a b c' e f' i x' y' z' x y z = bq a b c' e f' i x y z x' y' z' := by unfold bq; grind
      have s2 : bq a b c' e f' i x2 y2 z2 x y z = bq a b c' e f' i x y z x2 y2 z2 := by unfold bq; grind
      have s3 : bq a b c' e f' i x2 y2 z2 x' y' z' = bq a b c' e f' i x' y' z' x2 y2 z2 := by unfold bq; grind
      rw [s1, s2, s3]
    rw [key]
    have e3 : x * (y' * z2 - y2 * z') - x' * (y * z2 - y2 * z) + x2 * (y * z' - y' * z) = x * (y' * z2 - z' * y2) - y * (x' * z2 - z' * x2) + z * (x' * y2 - y' * x2) := by grind
    rw [e3]
    have := Int.mul_pos hD (sqP hd)
    generalize x * (y' * z2 - z' * y2) - y * (x' * z2 - z' * x2) + z * (x' * y2 - y' * x2) = k at *
    have e4 : k * ((a * (e * i - f' * f') - b * (b * i - f' * c') + c' * (b * f' - e * c')) * k) = (a * (e * i - f' * f') - b * (b * i - f' * c') + c' * (b * f' - e * c')) * (k * k) := by grind
    rw [e4]; exact this
theorem form_ch {m : Nat} {r c : Mat} (f : FormM m r) (h : ChM m c) : FormM m (chM r c) := by
  have h1 := f.lo
  have h2 := f.hi
  have : m = 1 ∨ m = 2 ∨ m = 3 := by omega
  rcases this with rfl | rfl | rfl
  · exact form_ch1 f h
  · exact form_ch2 f h
  · exact form_ch3 f h
end Kz
set_option Elab.async false
set_option linter.all false
set_option maxRecDepth 100000
set_option maxHeartbeats 4000000
/-! Kz: a table of a def's own: a list of lists of ints -/
namespace Kz
open PySem PySem.Spec PyProof.Rows L2
/-- all that is tracked now -/
def Trk (H : Hp) : Addr → Prop := fun a => ∃ o, H a = some o ∧ NT o
def tPm (H : Hp) : Pm := ⟨Trk H, Z0, fun H' => ∀ a o, H a = some o → NT o → H' a = some o, [], fun _ h => h.elim, fun H1 H2 h k a o e n => by rw [k a ⟨o, e, n⟩]; exact h a o e n⟩
/-- int slots alone -/
def IntsIn (ρ0 ρ : Rho) : Prop := ρ0.length = ρ.length ∧ ∀ (i : Nat) (s : Sl), ρ0[i]? = some (some s) → ∃ k, s = .dat (.int k) ∧ ρ[i]? = some (some s)
theorem fresh_eval {p : Pm} {te : TE} {ρ0 ρ : Rho} {d : PyData} (hi : IntsIn ρ0 ρ) (he : ∀ H, Ed (tPm H) te ρ0 d) {H0 : Bs} {O : Addr → Prop} {σ : L2.St} {H : Hp} (e : En p H0 O σ H ρ) {Q : VK} (q : ∀ v H2, Kp H H2 → Dv (Trk H) H2 v d → Q v H2) : te σ H Q := by
  refine he H ⟨H, fun _ => False⟩ (fun _ => False) σ H ⟨Kq.refl H, fun _ h => h, ⟨fun a h => h, by simp [tPm], fun a o e _ => e⟩, fun a h => h.elim, fun i s h => ?_, fun i j a ds es h => ?_, by rw [hi.1]; exact e.ln⟩ Q fun v H2 f k o hd hf => ?_
  · obtain ⟨k, rfl, hk⟩ := hi.2 i s h
    obtain ⟨v, h1, h2⟩ := e.sl i _ hk
    cases h2
    exact ⟨_, h1, .int k⟩
  · obtain ⟨k, z, _⟩ := hi.2 i _ h
    cases z
  · subst hf
    exact q v H2 k (hd.map (fun a n _ z => n (.inl z)) fun _ _ _ e _ => e)
def GrOk (n : Nat) (A : Addr) (as : List Addr) (H : Hp) : Prop := H A = some (.lst (as.map .ref)) ∧ as.length = n ∧ ∀ b ∈ as, ∃ ns : List Int, H b = some (.lst (ns.map .int)) ∧ ns.length = n ∧ ∀ x ∈ ns, x.natAbs ≤ 100
/-- the deck, and a table of this def's own -/
def gPm (S : Addr → Prop) (dk cl : Addr) (h1 : S dk) (h2 : S cl) (Ts : List Addr) (n : Nat) (A : Addr) (as : List Addr) : Pm := ⟨fun a => S a ∨ a = A ∨ a ∈ as, fun a => Zd dk cl a ∨ a = A ∨ a ∈ as, fun H => DkOk dk cl H ∧ GrOk n A as H, Ts,
  fun a z => z.elim (fun z => .inl (z.elim (fun e => e ▸ h1) (fun e => e ▸ h2))) .inr, fun H H' ⟨⟨ns, m, d, e1, e2, l⟩, g1, g2, g3⟩ hk =>
    ⟨⟨ns, m, d, by rw [hk dk (.inl h1)]; exact e1, by rw [hk cl (.inl h2)]; exact e2, l⟩, by rw [hk A (.inr (.inl rfl))]; exact g1, g2, fun b hb => by
      obtain ⟨ns, q1, q2⟩ := g3 b hb
      exact ⟨ns, by rw [hk b (.inr (.inr hb))]; exact q1, q2⟩⟩⟩
/-- ints, and tuples of none -/
def Flat0 (d : PyData) : Prop := (∃ i, d = .int i) ∨ d = .tuple []
section
variable {S : Addr → Prop} {dk cl : Addr} {h1 : S dk} {h2 : S cl} {Ts : List Addr} {ρ : Rho} {te ti tj : TE} {w : Po}
/-- x = [[0] * n for ..]: from here on the table may be changed -/
theorem rn_grid {i n : Nat} {ρ0 : Rho} {trest : TS} (hi : IntsIn ρ0 ρ) (he : ∀ H, Ed (tPm H) te ρ0 (.list (List.replicate n (.list ((List.replicate n (0 : Int)).map .int)))))
    (hf : ∀ (j : Nat) (s : Sl), ρ[j]? = some (some s) → (∃ v, s = .raw v) ∨ ∃ d, s = .dat d ∧ Flat0 d)
    (k : ∀ A as, ¬ Zd dk cl A → (∀ b ∈ as, ¬ Zd dk cl b) → A ∉ as → Rn (gPm S dk cl h1 h2 Ts n A as) trest (ρ.set i (some (.raw (.ref A)))) w) : Rn (dPm S dk cl h1 h2 Ts) (tSeq (tAsg te (gName i)) trest) ρ w := fun H0 O σ H D e nx rt bk ct => by
  refine fresh_eval hi he e fun v H2 kp hd => ?_
  have e2 := e.kp kp
  obtain ⟨A, xs, rfl, hA, eA, rA⟩ : ∃ A xs, v = .ref A ∧ ¬ Trk H A ∧ H2 A = some (.lst xs) ∧ DvL (Trk H) H2 xs (List.replicate n (.list ((List.replicate n (0 : Int)).map .int))) := by
    cases hd with
    | lst n e r => exact ⟨_, _, rfl, n, e, r⟩
  have hrow : ∀ (m : Nat) (xs : List V), DvL (Trk H) H2 xs (List.replicate m (.list ((List.replicate n (0 : Int)).map .int))) → ∃ as : List Addr, xs = as.map .ref ∧ as.length = m ∧ ∀ b ∈ as, ¬ Trk H b ∧ H2 b = some (.lst ((List.replicate n (0 : Int)).map .int)) := by
    intro m
    induction m with
    | zero => intro xs h; cases h; exact ⟨[], rfl, rfl, by simp⟩
    | succ m ih =>
      intro xs h
      rw [List.replicate_succ] at h
      cases h with
      | cons a b =>
        obtain ⟨as, rfl, hl, hall⟩ := ih _ b
        cases a with
        | @lst c ys _ n1 e1 r1 =>
          have := r1.ints_inv
          subst this
          exact ⟨c :: as, rfl, by rw [List.length_cons, hl], fun b hb => (List.mem_cons.mp hb).elim (fun z => by rw [z]; exact ⟨n1, e1⟩) (hall b)⟩
  obtain ⟨as, rfl, hal, hall⟩ := hrow n xs rA
  have offS : ∀ a, ¬ Trk H a → ¬ S a := fun a n z => n (e.ok.tr a z)
  have offO : ∀ a, ¬ Trk H a → ¬ O a := fun a n z => by
    obtain ⟨_, _, ys, hy⟩ := e.ow a z
    exact n ⟨_, hy, nt_lst⟩
  have offZ : ∀ a, ¬ Trk H a → ¬ Zd dk cl a := fun a n z => offS a n (z.elim (fun e => e ▸ h1) (fun e => e ▸ h2))
  have offH : ∀ a, ¬ Trk H a → ∀ o, H0.h a = some o → NT o → False := fun a n o ho nt => by
    by_cases z : ZO (dPm S dk cl h1 h2 Ts) H0.o a
    · rcases z with z | z
      · exact offZ a n z
      · exact offO a n (e.bo a z)
    · exact n ⟨o, e.fr.at_ a o z ho nt, nt⟩
  have hAas : A ∉ as := fun z => by
    have q := (hall A z).2
    rw [eA] at q
    injection q with q
    injection q with q
    have hl := congrArg List.length q
    simp at hl
    cases as with
    | nil => cases z
    | cons b as =>
      have hn : 0 < n := by simp at hl; omega
      obtain ⟨m, rfl⟩ : ∃ m, n = m + 1 := ⟨n - 1, by omega⟩
      rw [List.replicate_succ] at q
      cases q
  have new : ∀ a, a = A ∨ a ∈ as → ¬ Trk H a := fun a z => z.elim (fun z => by rw [z]; exact hA) fun z => (hall a z).1
  have hok : Ok (gPm S dk cl h1 h2 Ts n A as) H2 := by
    refine ⟨fun a z => ?_, e2.ok.tb, e2.ok.mm, eA, hal, fun b hb => ⟨_, (hall b hb).2, by simp, fun x hx => ?_⟩⟩
    · rcases z with z | z | z
      · exact e2.ok.tr a z
      · rw [z]; exact ⟨_, eA, nt_lst⟩
      · exact ⟨_, (hall a z).2, nt_lst⟩
    · rw [List.eq_of_mem_replicate hx]; decide
  have back : ∀ {H' : Hp}, Kq (ZO (gPm S dk cl h1 h2 Ts n A as) H0.o) H0.h H' → Kq (ZO (dPm S dk cl h1 h2 Ts) H0.o) H0.h H' := fun k => ⟨fun a o z ho nt => k.at_ a o (fun y => by
      rcases y with (y | y) | y
      · exact z (.inl y)
      · exact offH a (new a y) o ho nt
      · exact z (.inr y)) ho nt, k.tab, k.nn⟩
  have okb : ∀ {H' : Hp}, Ok (gPm S dk cl h1 h2 Ts n A as) H' → Ok (dPm S dk cl h1 h2 Ts) H' := fun o => ⟨fun a z => o.tr a (.inl z), o.tb, o.mm.1⟩
  have eb : ∀ {O' : Addr → Prop} {σ' : L2.St} {H' : Hp} {ρ' : Rho}, En (gPm S dk cl h1 h2 Ts n A as) H0 O' σ' H' ρ' → En (dPm S dk cl h1 h2 Ts) H0 O' σ' H' ρ' := fun {O' σ' H' ρ'} e => by
    refine ⟨back e.fr, e.bo, okb e.ok, fun a h => ⟨(e.ow a h).1, fun z => (e.ow a h).2.1 (.inl z), (e.ow a h).2.2⟩, fun j s h => ?_, e.un, e.ln⟩
    have q := e.sl j s h
    have off : ∀ a, ¬ SO (gPm S dk cl h1 h2 Ts n A as) O' a → ¬ SO (dPm S dk cl h1 h2 Ts) O' a := fun a n z => n (z.elim (fun z => .inl (.inl z)) .inr)
    cases s with
    | dat d => obtain ⟨v, q1, q2⟩ := q; exact ⟨v, q1, q2.map (fun a n _ => off a n) fun _ _ _ e _ => e⟩
    | own fs => obtain ⟨a, xs, q1, q2, q3, q4⟩ := q; exact ⟨a, xs, q1, q2, q3, q4.map (fun a n _ => off a n) fun _ _ _ e _ => e⟩
    | raw v => exact q
    | rng lo hi => obtain ⟨a, q1, q2, q3⟩ := q; exact ⟨a, q1, off a q2, q3⟩
  refine k A as (offZ A hA) (fun b hb => offZ b (hall b hb).1) hAas H0 O _ H2 D ⟨e2.fr.mono fun a z => z.elim (fun z => .inl (.inl z)) .inr, e2.bo, hok, fun a h => ⟨(e2.ow a h).1, fun z => ?_, (e2.ow a h).2.2⟩, fun j s hj => ?_, fun j l a ds es q1 => ?_, by rw [List.length_set, List.length_set]; exact e2.ln⟩
    (fun O' σ' H' ρ' e' q => nx O' σ' H' ρ' (eb e') q) (fun v d H' k' o hv q => rt v d H' (back k') (okb o) (hv.map (fun a n _ z => n (.inl z)) fun _ _ _ e _ => e) q) (fun O' σ' H' ρ' e' q => bk O' σ' H' ρ' (eb e') q) (fun O' σ' H' ρ' e' q => ct O' σ' H' ρ' (eb e') q)
  · rcases z with z | z
    · exact (e2.ow a h).2.1 z
    · exact offO a (new a z) h
  · by_cases z : i = j
    · subst z
      have hi : i < ρ.length := by
        have := (List.getElem?_eq_some_iff.mp hj).1
        rwa [List.length_set] at this
      rw [List.getElem?_set_self hi] at hj
      cases hj
      exact List.getElem?_set_self (by rw [e2.ln]; exact hi)
    · rw [List.getElem?_set_ne z] at hj
      have q := e2.sl j s hj
      rcases hf j s hj with ⟨v, rfl⟩ | ⟨d, rfl, hd⟩
      · exact (List.getElem?_set_ne z).trans q
      · obtain ⟨v, q1, q2⟩ := q
        refine ⟨v, (List.getElem?_set_ne z).trans q1, ?_⟩
        rcases hd with ⟨i, rfl⟩ | rfl
        · cases q2; exact .int i
        · cases q2 with
          | tup n et r =>
            refine .tup (fun y => ?_) et (by cases r; exact .nil)
            rcases y with (y | y | y) | y
            · exact n (.inl y)
            · rw [y, eA] at et; cases et
            · rw [(hall _ y).2] at et; cases et
            · exact n (.inr y)
  · have hne : i ≠ j := fun z => by
      subst z
      have hi : i < ρ.length := by
        have := (List.getElem?_eq_some_iff.mp q1).1
        rwa [List.length_set] at this
      rw [List.getElem?_set_self hi] at q1
      cases q1
    rw [List.getElem?_set_ne hne] at q1
    rcases hf j _ q1 with ⟨v, z⟩ | ⟨d, z, _⟩ <;> cases z
end
end Kz
set_option Elab.async false
set_option linter.all false
set_option maxRecDepth 100000
set_option maxHeartbeats 4000000
namespace Kz
open PySem PySem.Spec PyProof.Rows L2
section
variable {S : Addr → Prop} {dk cl : Addr} {h1 : S dk} {h2 : S cl} {Ts : List Addr} {ρ : Rho} {te ti tj : TE} {w : Po} {n : Nat} {A : Addr} {as : List Addr}
theorem ex_callDG {G : Type} {enc : G → List PyData} {ok : G → Prop} {R : G → PyData → Prop} {m i : Nat} {E : XK} {t : TA} (hA : ¬ Zd dk cl A) (has : ∀ b ∈ as, ¬ Zd dk cl b) (g : G) (hd : ρ[i]? = some (some (.raw (.ref dk)))) (h : Ea (gPm S dk cl h1 h2 Ts n A as) t ρ (· = enc g)) (hl : (enc g).length = m) (hg : ok g) :
    Ex (gPm S dk cl h1 h2 Ts n A as) (tCall (deckSp [] m enc ok R) [] E (tCons (tVar i) t)) ρ (R g) := fun H0 O σ H e Q q => by
  refine ⟨_, e.sl i _ hd, ?_⟩
  refine h H0 O σ H e _ fun vs H2 ds k2 o2 hds pd => ?_
  subst pd
  have e2 := e.kq k2 o2
  refine ⟨g, dk, cl, vs, hg, by rw [List.append_nil], by rw [hds.length]; exact hl, SO (gPm S dk cl h1 h2 Ts n A as) O, .inl (.inl h1), .inl (.inl h2), ⟨so_trk e2, by simp [dPm], o2.mm.1⟩, hds, fun v H3 d k3 o3 hv hr => ?_⟩
  obtain ⟨g1, g2, g3⟩ := o2.mm.2
  refine q v H3 d (k2.trans (k3.mono fun a z => .inl z)) ⟨fun a z => o3.tr a (.inl z), fun P hP => k3.tab P (o2.tb P hP), o3.mm, k3.at_ A _ hA g1 nt_lst, g2, fun b hb => ?_⟩ hv hr
  obtain ⟨ns, q1, q2⟩ := g3 b hb
  exact ⟨ns, k3.at_ b _ (has b hb) q1 nt_lst, q2⟩
theorem grid_row {K : PySem.W.Frag} {i x : Nat} (hp : ρ[x]? = some (some (.raw (.ref A)))) (hi : Ed (gPm S dk cl h1 h2 Ts n A as) ti ρ (.int (i : Int))) (hin : i < n) {H0 : Bs} {O : Addr → Prop} {σ : L2.St} {H : Hp} (e : En (gPm S dk cl h1 h2 Ts n A as) H0 O σ H ρ) {Q : VK}
    (q : ∀ b H2, b ∈ as → Kq (gPm S dk cl h1 h2 Ts n A as).Z H H2 → Ok (gPm S dk cl h1 h2 Ts n A as) H2 → Q (.ref b) H2) : tOp (rIxL K) (tVar x) ti σ H Q := by
  refine ⟨_, e.sl x _ hp, hi H0 O σ H e _ fun v H2 d k2 o2 hd pd => ?_⟩
  subst pd
  cases hd
  obtain ⟨g1, g2, g3⟩ := o2.mm.2
  have hlt : i < as.length := by omega
  exact ⟨A, _, (i : Int), .ref as[i], rfl, rfl, .inl (.inl g1), atI_nat (by rw [List.getElem?_map, List.getElem?_eq_getElem hlt]; rfl), q _ H2 (List.getElem_mem hlt) k2 o2⟩
abbrev Low (d : PyData) : Prop := ∃ x, d = .int x ∧ x.natAbs ≤ 100
theorem ex_grid {K : PySem.W.Frag} {i j x : Nat} (hp : ρ[x]? = some (some (.raw (.ref A)))) (hi : Ed (gPm S dk cl h1 h2 Ts n A as) ti ρ (.int (i : Int))) (hj : Ed (gPm S dk cl h1 h2 Ts n A as) tj ρ (.int (j : Int))) (hin : i < n) (hjn : j < n) :
    Ex (gPm S dk cl h1 h2 Ts n A as) (tOp (rIxL K) (tOp (rIxL K) (tVar x) ti) tj) ρ Low := fun H0 O σ H e Q q => by
  refine grid_row hp hi hin e fun b H2 hb k2 o2 => ?_
  refine hj H0 O σ H2 (e.kq k2 o2) _ fun v H3 d k3 o3 hd pd => ?_
  subst pd
  cases hd
  obtain ⟨ns, q1, q2, q3⟩ := o3.mm.2.2.2 b hb
  have hlt : j < ns.length := by omega
  exact ⟨b, _, (j : Int), .int ns[j], rfl, rfl, .inl (.inl q1), atI_nat (by rw [List.getElem?_map, List.getElem?_eq_getElem hlt]; rfl), q _ H3 _ (k2.trans k3) o3 (.int _) ⟨_, rfl, q3 _ (List.getElem_mem hlt)⟩⟩
theorem ex_gridSum {K : PySem.W.Frag} {i x : Nat} (hp : ρ[x]? = some (some (.raw (.ref A)))) (hi : Ed (gPm S dk cl h1 h2 Ts n A as) ti ρ (.int (i : Int))) (hin : i < n) (hn : n ≤ 4) :
    Ex (gPm S dk cl h1 h2 Ts n A as) (tCB (rSum K) (tCons (tOp (rIxL K) (tVar x) ti) tNil)) ρ (fun d => ∃ x, d = .int x ∧ x.natAbs ≤ 400) := fun H0 O σ H e Q q => by
  refine grid_row hp hi hin e fun b H2 hb k2 o2 => ?_
  obtain ⟨ns, q1, q2, q3⟩ := o2.mm.2.2.2 b hb
  refine ⟨b, ns, rfl, .inl (.inl q1), q _ H2 _ k2 o2 (.int _) ⟨_, rfl, ?_⟩⟩
  have := sum_bd q3
  have h4 : ns.length * 100 ≤ 400 := by omega
  omega
theorem rn_grid_set {K : PySem.W.Frag} {i j x : Nat} (hp : ρ[x]? = some (some (.raw (.ref A)))) (hAas : A ∉ as) (hA : ¬ Zd dk cl A) (has : ∀ b ∈ as, ¬ Zd dk cl b) (hv : Ex (gPm S dk cl h1 h2 Ts n A as) te ρ Low) (hi : Ed (gPm S dk cl h1 h2 Ts n A as) ti ρ (.int (i : Int))) (hj : Ed (gPm S dk cl h1 h2 Ts n A as) tj ρ (.int (j : Int))) (hin : i < n) (hjn : j < n) (k : w.N ρ) :
    Rn (gPm S dk cl h1 h2 Ts n A as) (tAsg te (gSub (tOp (rIxL K) (tVar x) ti) tj rSetL)) ρ w := fun H0 O σ H D e nx rt bk ct => by
  refine hv H0 O σ H e _ fun v H1 d k1 o1 hd ⟨y, ey, hy⟩ => ?_
  subst ey
  cases hd
  have e1 := e.kq k1 o1
  refine grid_row hp hi hin e1 fun b H2 hb k2 o2 => ?_
  have e2 := e1.kq k2 o2
  refine hj H0 O σ H2 e2 _ fun v H3 d k3 o3 hd pd => ?_
  subst pd
  cases hd
  have e3 := e2.kq k3 o3
  obtain ⟨⟨ms, m, dd, m1, m2, m3⟩, g1, g2, g3⟩ := o3.mm
  obtain ⟨ns, q1, q2, q3⟩ := g3 b hb
  have hlt : j < ns.length := by omega
  have hbA : A ≠ b := fun z => hAas (z ▸ hb)
  have hbd : dk ≠ b := fun z => has b hb (.inl z.symm)
  have hbc : cl ≠ b := fun z => has b hb (.inr z.symm)
  refine ⟨b, _, (j : Int), j, rfl, rfl, q1, by rw [List.length_map]; exact ixN_nat' hlt, ?_⟩
  have hms : (ns.map V.int).set j (.int y) = (ns.set j y).map V.int := by rw [List.map_set]
  rw [hms]
  refine nx O σ _ ρ (e3.kq (Kq.put q1 nt_lst (.inr (.inr hb))) ⟨fun a z => ?_, fun P hP => ?_, ⟨ms, m, dd, by rw [upd_ne hbd]; exact m1, by rw [upd_ne hbc]; exact m2, m3⟩, by rw [upd_ne hbA]; exact g1, g2, fun c hc => ?_⟩) k
  · by_cases q : a = b
    · rw [q]; exact ⟨_, upd_same, nt_lst⟩
    · rw [upd_ne q]; exact o3.tr a z
  · obtain ⟨ps, hp, tp⟩ := o3.tb P hP
    exact ⟨ps, by rw [upd_ne (fun q => by rw [q, q1] at hp; cases hp)]; exact hp, tp⟩
  · by_cases q : c = b
    · rw [q]
      refine ⟨ns.set j y, upd_same, by rw [List.length_set]; exact q2, fun x hx => ?_⟩
      rcases List.mem_or_eq_of_mem_set hx with z | z
      · exact q3 x z
      · rw [z]; exact hy
    · obtain ⟨ns', c1, c2⟩ := g3 c hc
      exact ⟨ns', by rw [upd_ne q]; exact c1, c2⟩
end
section
variable {p : Pm} {ρ : Rho} {ta tb : TE}
theorem ed_rep {ds : List PyData} {k : Int} (h : Ed p ta ρ (.list ds)) (hk : Ed p tb ρ (.int k)) (h0 : 0 ≤ k) (hz : ds.length * k.toNat ≤ 10000) (h1 : k < 2 ^ 63) : Ed p (tOp rRep ta tb) ρ (.list (List.replicate k.toNat ds).flatten) := ed_op h hk fun H0 O σ ρ H x y e hx hy Q q => by
  cases hx with
  | @lst a xs _ n ea r =>
    cases hy
    have hfl : ∀ m, DvL (SO p O) H (List.replicate m xs).flatten (List.replicate m ds).flatten := by
      intro m
      induction m with
      | zero => exact .nil
      | succ m ih => rw [List.replicate_succ, List.replicate_succ, List.flatten_cons, List.flatten_cons]; exact r.append ih
    exact ⟨a, k, xs, rfl, rfl, ea, by omega, h1, by rw [r.length]; exact Nat.le_trans hz (by decide), fun l hl => q _ _ _ (Kq.new hl) (e.ok.kp (Kq.new hl)) (.lst (fresh_so e hl) upd_same ((hfl _).kp (Kq.new hl))) rfl⟩
end
theorem rows_of {Pr : List Int → Prop} : ∀ {es : List PyData}, (∀ e ∈ es, ∃ l, e = rowD l ∧ Pr l) → ∃ r : Mat, es = r.map rowD ∧ ∀ l ∈ r, Pr l
  | [], _ => ⟨[], rfl, by simp⟩
  | e :: es, h => by
    obtain ⟨m, rfl, hm⟩ := h e (by simp)
    obtain ⟨ms, rfl, hms⟩ := rows_of (es := es) fun e he => h e (List.mem_cons_of_mem _ he)
    exact ⟨m :: ms, rfl, fun x hx => (List.mem_cons.mp hx).elim (fun z => by rw [z]; exact hm) (hms x)⟩
theorem rows_lc {n : Nat} {ds : List PyData} {R : List Int → Prop} {r : PyData} (hn : ds.length = n) (h : ∃ es, r = .list es ∧ es.length = ds.length ∧ ∀ (i : Nat) (d e : PyData), ds[i]? = some d → es[i]? = some e → ∃ x, e = rowD x ∧ R x) : ∃ l : Mat, r = .list (l.map rowD) ∧ l.length = n ∧ ∀ x ∈ l, R x := by
  obtain ⟨es, rfl, hl, hall⟩ := h
  obtain ⟨ms, rfl, hms⟩ := rows_of (Pr := R) fun e he => by
    obtain ⟨i, hi, rfl⟩ := List.mem_iff_getElem.mp he
    exact hall i _ _ (List.getElem?_eq_getElem (by omega)) (List.getElem?_eq_getElem hi)
  exact ⟨ms, rfl, by rw [← hn, ← hl, List.length_map], hms⟩
end Kz
set_option Elab.async false
set_option linter.all false
set_option maxRecDepth 100000
set_option maxHeartbeats 4000000
namespace Kz
open PySem PySem.Spec PyProof.Rows L2
abbrev Npf : List Str := ["deck", "n", "way", "few", "form", "i", "p", "j", "rows", "one", "other", "x", "y", "axes"]
abbrev sPlain : Stmt := topS 48
theorem scPlain : FnScope Npf ["deck", "n"] (defScope sPlain) := ⟨rfl, rfl, rfl, by decide +kernel, rfl, by decide +kernel, by decide +kernel⟩
/-- a form of n, integers at most 1000 -/
structure LowF (n : Nat) (r : Mat) : Prop where
  f : FormM n r
  b : ∀ l ∈ r, ∀ x ∈ l, x.natAbs ≤ 1000
structure PF (n : Nat) (r : Mat) : Prop where
  s : ∃ m, (m = 0 ∨ m = n) ∧ Sq m r
  b : ∀ l ∈ r, ∀ x ∈ l, x.natAbs ≤ 1000
theorem lt1000 {x : Int} (h : x.natAbs ≤ 1000) : x.natAbs < 2 ^ 1000 := Nat.lt_of_le_of_lt h (Nat.lt_of_lt_of_le (show 1000 < 2 ^ 10 by decide) (Nat.pow_le_pow_right (by decide) (by decide)))
theorem bd1000 {r : Mat} (h : ∀ l ∈ r, ∀ x ∈ l, x.natAbs ≤ 1000) : Bd 1000 r := fun l hl x hx => lt1000 (h l hl x hx)
def diagM (n : Nat) (ax : List Int) : Mat := (List.range n).map fun i => (List.range n).map fun j => ax.getD i 0 * (if i = j then 1 else 0)
theorem diag_form {n : Nat} (h1 : 1 ≤ n) (h3 : n ≤ 3) {ax : List Int} (hl : ax.length = n) (hp : ∀ x ∈ ax, 1 ≤ x ∧ x ≤ 30) : LowF n (diagM n ax) := by
  have : n = 1 ∨ n = 2 ∨ n = 3 := by omega
  rcases this with rfl | rfl | rfl
  · match ax, hl with
    | [a], _ =>
      have ha := hp a (by simp)
      have e : diagM 1 [a] = [[a]] := by simp [diagM, List.range_succ]
      rw [e]
      exact ⟨form1 (by omega), by simp; omega⟩
  · match ax, hl with
    | [a, b], _ =>
      have ha := hp a (by simp)
      have hb := hp b (by simp)
      have e : diagM 2 [a, b] = [[a, 0], [0, b]] := by simp [diagM, List.range_succ]
      rw [e]
      have := Int.mul_pos (show 0 < a by omega) (show 0 < b by omega)
      exact ⟨form2 (by omega) (by simpa using this), by simp; omega⟩
  · match ax, hl with
    | [a, b, c], _ =>
      have ha := hp a (by simp)
      have hb := hp b (by simp)
      have hc := hp c (by simp)
      have e : diagM 3 [a, b, c] = [[a, 0, 0], [0, b, 0], [0, 0, c]] := by simp [diagM, List.range_succ]
      rw [e]
      have q1 := Int.mul_pos (show 0 < a by omega) (show 0 < b by omega)
      have q2 := Int.mul_pos (show 0 < a by omega) (Int.mul_pos (show 0 < b by omega) (show 0 < c by omega))
      exact ⟨form3 (by omega) (by simpa using q1) (by simpa using q2), by simp; omega⟩
section
variable {S : Addr → Prop} {dk cl : Addr} {h1 : S dk} {h2 : S cl} {Ts' : List Addr} {ρ : Rho} {G : Type} {enc : G → List PyData} {ok : G → Prop} {R : G → PyData → Prop}
theorem ex_callDX {Ts : List Addr} {n i : Nat} {E : XK} {t : TA} {Pa : List PyData → Prop} (hd : ρ[i]? = some (some (.raw (.ref dk)))) (h : Ea (dPm S dk cl h1 h2 Ts') t ρ Pa) (hg : ∀ ds, Pa ds → ∃ g, ds = enc g ∧ (enc g).length = n ∧ ok g) (hT : ∀ P ∈ Ts, P ∈ Ts') :
    Ex (dPm S dk cl h1 h2 Ts') (tCall (deckSp Ts n enc ok R) [] E (tCons (tVar i) t)) ρ (fun d => ∃ g, Pa (enc g) ∧ R g d) := fun H0 O σ H e Q q => by
  refine ⟨_, e.sl i _ hd, ?_⟩
  refine h H0 O σ H e _ fun vs H2 ds k2 o2 hds pd => ?_
  obtain ⟨g, rfl, hl, hg⟩ := hg ds pd
  have e2 := e.kq k2 o2
  refine ⟨g, dk, cl, vs, hg, by rw [List.append_nil], by rw [hds.length]; exact hl, SO (dPm S dk cl h1 h2 Ts') O, .inl h1, .inl h2, ⟨so_trk e2, fun P hP => o2.tb P (hT P hP), o2.mm⟩, hds, fun v H3 d k3 o3 hv hr => ?_⟩
  exact q v H3 d (k2.trans k3) ⟨fun a z => o3.tr a (.inl z), fun P hP => k3.tab P (o2.tb P hP), o3.mm⟩ hv ⟨g, pd, hr⟩
end
section
variable {p : Pm} {ρ : Rho} {ta : TE}
theorem ex_neg' {R : Int → Prop} (h : Ex p ta ρ (fun d => ∃ x, d = .int x ∧ R x)) : Ex p (tUn (rU fun i => .int (-i)) ta) ρ (fun d => ∃ x, d = .int (-x) ∧ R x) := fun H0 O σ H e Q q => by
  refine h H0 O σ H e _ fun v H2 d k2 o2 hd ⟨x, ex, hx⟩ => ?_
  subst ex
  cases hd
  exact ⟨x, rfl, q _ H2 _ k2 o2 (.int _) ⟨x, rfl, hx⟩⟩
/-- a tuple of ints, item by item -/
theorem ex_rowLc {K : PySem.W.Frag} {n : Nat} {ds : List PyData} {R : Int → Prop} {wi : TI} {g : TG} {te : TE} {vs : List Nat} (hi : Iz p wi ρ (· = ds)) (hn : ds.length = n) (hz : n ≤ 10000)
    (hs : ∀ (i : Nat) (d : PyData), ds[i]? = some d → ∃ (ts : List Nat) (ρ' : Rho), (∀ i ∈ ts, i ∈ vs) ∧ Tg p g ts (wipeR ρ vs) d ρ' ∧ Ex p te ρ' (fun e => ∃ x, e = .int x ∧ R x)) :
    Ex p (tCB (rTp K) (tCons (tLc wi g tYes te vs) tNil)) ρ (fun d => ∃ l : List Int, d = rowD l ∧ l.length = n ∧ ∀ x ∈ l, R x) :=
  ex_cb (ea_oneX (ex_lcRZ (fun _ _ e => ∃ x, e = .int x ∧ R x) hi (by omega) hs)) fun l ⟨d, e, h⟩ => by
    subst e
    obtain ⟨l, rfl, hl, hall⟩ := ints_lc hn h
    exact (bc_tuple (.l _)).imp fun x hx => ⟨l, hx, hl, hall⟩
/-- rows -/
theorem ex_matLc {K : PySem.W.Frag} {n : Nat} {ds : List PyData} {R : List Int → Prop} {wi : TI} {g : TG} {te : TE} {vs : List Nat} (hi : Iz p wi ρ (· = ds)) (hn : ds.length = n) (hz : n ≤ 10000)
    (hs : ∀ (i : Nat) (d : PyData), ds[i]? = some d → ∃ (ts : List Nat) (ρ' : Rho), (∀ i ∈ ts, i ∈ vs) ∧ Tg p g ts (wipeR ρ vs) d ρ' ∧ Ex p te ρ' (fun e => ∃ x, e = rowD x ∧ R x)) :
    Ex p (tCB (rTp K) (tCons (tLc wi g tYes te vs) tNil)) ρ (fun d => ∃ l : Mat, d = matD l ∧ l.length = n ∧ ∀ x ∈ l, R x) :=
  ex_cb (ea_oneX (ex_lcRZ (fun _ _ e => ∃ x, e = rowD x ∧ R x) hi (by omega) hs)) fun l ⟨d, e, h⟩ => by
    subst e
    obtain ⟨l, rfl, hl, hall⟩ := rows_lc hn h
    exact (bc_tuple (.l _)).imp fun x hx => ⟨l, hx, hl, hall⟩
end
theorem pf_of {n : Nat} {r : Mat} (h1 : r.length = n) (h2 : ∀ l ∈ r, l.length = n ∧ ∀ x ∈ l, x.natAbs ≤ 1000) : PF n r := ⟨⟨n, .inr rfl, h1, fun l hl => (h2 l hl).1⟩, fun l hl => (h2 l hl).2⟩
theorem pf_nil {n : Nat} : PF n [] := ⟨⟨0, .inl rfl, rfl, by simp⟩, by simp⟩
theorem flat_rep {α : Type} (a : α) : ∀ k, (List.replicate k [a]).flatten = List.replicate k a
  | 0 => rfl
  | k + 1 => by rw [List.replicate_succ, List.flatten_cons, flat_rep a k]; rfl
section
variable {P : Program} {w : World} {K : PySem.W.Frag} {mg : Str → Option Value} {base : Heap}
abbrev spPlain : Sp := deckSp [] 1 (G := Nat) (fun n => [.int (n : Int)]) (fun n => 1 ≤ n ∧ n ≤ 3) (fun n d => ∃ r, d = matD r ∧ LowF n r)
theorem ok_plain (B : Bn mg) {f : Addr} {fd : FuncData} (F : Fun K "_law_plain_form" "_law_plain_form" sPlain f fd) (C : Cl P w K mg base "_law_draw" ["deck", "many"] 1 spDraw) (C2 : Cl P w K mg base "_law_pick" ["deck", "some"] 2 spPick) (C3 : Cl P w K mg base "_law_is_form" ["thing"] 5 spLForm) : FnOk P w K mg base CX0 6 f fd ["deck", "n"] spPlain := by
  refine ok_deck F scPlain rfl (by decide) fun cdv A outer s H E hr => ⟨_, pss_cons (ps_par (i := 2) (j := 3) rfl scPlain.nd rfl rfl (by decide) rfl rfl (pa_cons (pCall C hr (by decide) (pa_cons (pv 0) (pa_cons pe_int pa_nil))) (pa_cons (pCall C2 hr (by decide) (pa_cons (pv 0) (pa_cons (pe_lst (pa_cons pe_int (pa_cons pe_int (pa_cons pe_int (pa_cons pe_int pa_nil))))) pa_nil))) pa_nil)) rfl)
    (pss_cons (ps_set (i := 4) scPlain.nd rfl (.inl rfl) (pe_tup pa_nil))
    (pss_cons (ps_if (pt_cmpR op_lt (pv 2) pe_int (nomark _))
      (pss_cons (ps_set (i := 6) scPlain.nd rfl (.inr rfl) (pe_lc (own := [("i", 5)]) rfl scPlain.nd (piR B (pe_op op_add (pv 1) pe_int)) (blkOk_by (own := [("i", 5)]) (N := Npf) (sc := defScope sPlain) (by decide +kernel)) (fun _ _ _ _ _ => gN 5 scPlain.nd) (fun _ _ _ _ _ => pts_nil) (fun _ _ _ _ _ => pe_op op_rep (pe_lst (pa_cons pe_int pa_nil)) (pe_op op_add (pv 1) pe_int))))
      (pss_cons (ps_for PassesOwn.never rfl (piR B (pe_op op_add (pv 1) pe_int)) (gN 5 scPlain.nd) (pss_one (ps_for PassesOwn.never rfl (piR B (pv 5)) (gN 7 scPlain.nd)
          (pss_cons (ps_asg (pCall C hr (by decide) (pa_cons (pv 0) (pa_cons (pe_op op_add (pv 3) pe_int) pa_nil))) (pg_sub (pe_ix (ixL K) (pv 6) (pv 5) (fun _ _ => rfl)) (pv 7) set_list))
            (pss_one (ps_asg (pe_ix (ixL K) (pe_ix (ixL K) (pv 6) (pv 5) (fun _ _ => rfl)) (pv 7) (fun _ _ => rfl)) (pg_sub (pe_ix (ixL K) (pv 6) (pv 7) (fun _ _ => rfl)) (pv 5) set_list)))))))
        (pss_one (ps_set (i := 4) scPlain.nd rfl (.inl rfl) (pTuple B (pe_lc (own := [("i", 5)]) rfl scPlain.nd (piR B (pv 1)) (blkOk_by (own := [("i", 5)]) (N := Npf) (sc := defScope sPlain) (by decide +kernel)) (fun _ _ _ _ _ => gN 5 scPlain.nd) (fun _ _ _ _ _ => pts_nil)
          (fun _ _ _ _ _ => pTup' K B (pe_lc (own := [("j", 7)]) rfl scPlain.nd (piR B (pv 1)) (blkOk_by (own := [("j", 7)]) (N := Npf) (sc := relab (defScope sPlain) _) (by decide +kernel)) (fun _ _ _ _ _ => gN 7 scPlain.nd) (fun _ _ _ _ _ => pts_nil)
            (fun _ _ _ _ _ => pe_ifExp (pt_cmpR op_eq (pv 5) (pv 7) (nomark _)) (pSum' K B rfl (pe_ix (ixL K) (pv 6) (pv 5) (fun _ _ => rfl))) (pe_un un_neg (pe_ix (ixL K) (pe_ix (ixL K) (pv 6) (pv 5) (fun _ _ => rfl)) (pv 7) (fun _ _ => rfl)))))))))))) pss_nil)
    (pss_cons (ps_if (pt_cmpR op_eq (pv 2) pe_int (nomark _))
      (pss_cons (ps_set (i := 8) scPlain.nd rfl (.inr rfl) (pe_lst pa_nil))
      (pss_cons (ps_for PassesOwn.never rfl (piR B (pv 1)) (gN 5 scPlain.nd) (pss_one (ps_expr (pe_bm PySem.F.plainAttrs_list PySem.F.slot_list_append PySem.F.type_list_append mt_append (pv 8) (pa_cons (pe_lc (own := [("j", 7)]) rfl scPlain.nd (piR B (pv 1)) (blkOk_by (own := [("j", 7)]) (N := Npf) (sc := defScope sPlain) (by decide +kernel)) (fun _ _ _ _ _ => gN 7 scPlain.nd) (fun _ _ _ _ _ => pts_nil)
          (fun _ _ _ _ _ => pe_ifExp (pt_cmpR op_lt (pv 7) (pv 5) (nomark _)) (pe_op op_sub (pCall C hr (by decide) (pa_cons (pv 0) (pa_cons pe_int pa_nil))) pe_int) (pe_op op_mul (pe_op op_add pe_int (pCall C hr (by decide) (pa_cons (pv 0) (pa_cons pe_int pa_nil)))) (pInt B (pe_cmpR op_eq (pv 5) (pv 7) (nomark _)))))) pa_nil)))))
        (pss_one (ps_set (i := 4) scPlain.nd rfl (.inl rfl) (pTuple B (pe_lc (own := [("one", 9)]) rfl scPlain.nd (piL K (pv 8)) (blkOk_by (own := [("one", 9)]) (N := Npf) (sc := defScope sPlain) (by decide +kernel)) (fun _ _ _ _ _ => gN 9 scPlain.nd) (fun _ _ _ _ _ => pts_nil)
          (fun _ _ _ _ _ => pTup' K B (pe_lc (own := [("other", 10)]) rfl scPlain.nd (piL K (pv 8)) (blkOk_by (own := [("other", 10)]) (N := Npf) (sc := relab (defScope sPlain) _) (by decide +kernel)) (fun _ _ _ _ _ => gN 10 scPlain.nd) (fun _ _ _ _ _ => pts_nil)
            (fun _ _ _ _ _ => pSum' K B rfl (pe_lc (own := [("x", 11), ("y", 12)]) rfl scPlain.nd (piZ K B (pv 9) (pv 10)) (blkOk_by (own := [("x", 11), ("y", 12)]) (N := Npf) (sc := relab (relab (defScope sPlain) _) _) (by decide +kernel)) (fun _ _ _ _ _ => gP' K 11 12 rfl scPlain.nd) (fun _ _ _ _ _ => pts_nil) (fun _ _ _ _ _ => pe_op op_mul (pv 11) (pv 12)))))))))))) pss_nil)
    (pss_cons (ps_if (pt_val (pCall C3 hr (by decide) (pa_cons (pv 4) pa_nil))) (pss_one (ps_ret (pv 4))) pss_nil)
    (pss_cons (ps_set (i := 13) scPlain.nd rfl (.inr rfl) (pe_lc (own := [("i", 5)]) rfl scPlain.nd (piR B (pv 1)) (blkOk_by (own := [("i", 5)]) (N := Npf) (sc := defScope sPlain) (by decide +kernel)) (fun _ _ _ _ _ => gN 5 scPlain.nd) (fun _ _ _ _ _ => pts_nil) (fun _ _ _ _ _ => pe_op op_add pe_int (pCall C hr (by decide) (pa_cons (pv 0) (pa_cons (pCall C2 hr (by decide) (pa_cons (pv 0) (pa_cons (pe_lst (pa_cons pe_int (pa_cons pe_int (pa_cons pe_int pa_nil)))) pa_nil))) pa_nil))))))
      (pss_one (ps_ret (pTuple B (pe_lc (own := [("i", 5)]) rfl scPlain.nd (piR B (pv 1)) (blkOk_by (own := [("i", 5)]) (N := Npf) (sc := defScope sPlain) (by decide +kernel)) (fun _ _ _ _ _ => gN 5 scPlain.nd) (fun _ _ _ _ _ => pts_nil)
        (fun _ _ _ _ _ => pTup' K B (pe_lc (own := [("j", 7)]) rfl scPlain.nd (piR B (pv 1)) (blkOk_by (own := [("j", 7)]) (N := Npf) (sc := relab (defScope sPlain) _) (by decide +kernel)) (fun _ _ _ _ _ => gN 7 scPlain.nd) (fun _ _ _ _ _ => pts_nil) (fun _ _ _ _ _ => pe_op op_mul (pe_ix (ixL K) (pv 13) (pv 5) (fun _ _ => rfl)) (pInt B (pe_cmpR op_eq (pv 5) (pv 7) (nomark _))))))))))))))), fun S dk cl h1 h2 n hn => ?_⟩
  obtain ⟨hn1, hn3⟩ := hn
  refine rn_seq (Nm := fun ρ => ∃ way few : Int, 1 ≤ few ∧ few ≤ 9 ∧ ρ = [some (.raw (.ref dk)), some (.dat (.int (n : Int))), some (.dat (.int way)), some (.dat (.int few)), none, none, none, none, none, none, none, none, none, none])
    (rn_par (P1 := DrawR 5) (P2 := PickR [1, 2, 3, 9]) (ex_callD 5 rfl (ea_one ex_int) rfl (by decide) (by simp)) (ex_callD [1, 2, 3, 9] rfl (ea_one (ed_lst (ea_consD ex_int (ea_consD ex_int (ea_consD ex_int (ea_one ex_int)))))) rfl (by decide) (by simp)) (fun d e ⟨r, er, _⟩ ⟨x, hx, ex⟩ => ?_)) ?_
  · subst er ex
    refine ⟨r, x, ?_, ?_, rfl⟩ <;> (simp at hx; omega)
  rintro ρ ⟨way, few, hf1, hf9, rfl⟩
  refine rn_set_ (d := .tuple []) (ed_tup ea_nil) ?_
  refine rn_seq (Nm := fun ρ => ∃ r a5 a6 a7, PF n r ∧ ρ = [some (.raw (.ref dk)), some (.dat (.int (n : Int))), some (.dat (.int way)), some (.dat (.int few)), some (.dat (matD r)), a5, a6, a7, none, none, none, none, none, none]) (rn_ifX (P := fun _ => True) ((et_test (ed_cmp (c := fun i j => decide (i < j)) (i := way) (j := 3) (ex_var rfl) ex_int)).imp fun _ _ => trivial) (fun _ => ?_) fun _ => rn_next ⟨[], _, _, _, pf_nil, rfl⟩) ?_
  · refine rn_grid (i := 6) (n := n + 1) (ρ0 := [none, some (.dat (.int (n : Int))), none, none, none, none, none, none, none, none, none, none, none, none]) ⟨rfl, fun i s h => ?_⟩ (fun H => ed_lcM (List.replicate (n + 1) (.list ((List.replicate (n + 1) (0 : Int)).map .int))) (ii_rng1 (i := (n : Int) + 1) (ed_add (ex_var rfl) ex_int) (by omega)) (by rw [rngD_len, List.length_replicate]; omega) (by rw [rngD_len]; omega) fun i d e hd he => ⟨[5], _, fun j hj => hj, tg_name, Ed.cast (ed_rep (ds := [.int 0]) (k := (n : Int) + 1) (ed_lst (ea_one ex_int)) (ed_add (i := (n : Int)) (ex_var rfl) ex_int) (by omega) (by simp; omega) (by omega)) ?_⟩) (fun i s h => ?_) fun A as hA has hAas => ?_
    · rcases i with _ | _ | _ | _ | _ | _ | _ | _ | _ | _ | _ | _ | _ | _ | i <;> first | (cases h; done) | (cases h; exact ⟨_, rfl, rfl⟩)
    · have hmem := List.mem_of_getElem? he
      rw [List.eq_of_mem_replicate hmem, flat_rep, List.map_replicate]
      congr 2
    · rcases i with _ | _ | _ | _ | _ | _ | _ | _ | _ | _ | _ | _ | _ | _ | i <;> first | (cases h; done) | (cases h; exact .inl ⟨_, rfl⟩) | (cases h; exact .inr ⟨_, rfl, .inl ⟨_, rfl⟩⟩) | (cases h; exact .inr ⟨_, rfl, .inr rfl⟩)
    refine rn_seq (Nm := fun ρ => ∃ a5 a7, ρ = [some (.raw (.ref dk)), some (.dat (.int (n : Int))), some (.dat (.int way)), some (.dat (.int few)), some (.dat (.tuple [])), a5, some (.raw (.ref A)), a7, none, none, none, none, none, none])
      (rn_for (fun ds t ρ => ∃ a5 a7, ρ = [some (.raw (.ref dk)), some (.dat (.int (n : Int))), some (.dat (.int way)), some (.dat (.int few)), some (.dat (.tuple [])), a5, some (.raw (.ref A)), a7, none, none, none, none, none, none]) (ii_rng1 (i := (n : Int) + 1) (ed_add (ex_var rfl) ex_int) (by omega)) (fun ds e => ⟨_, _, rfl⟩) (fun ds t d ρ e hd iv => ?_) (fun ds ρ e iv => iv)) ?_
    · subst e
      obtain ⟨ht, rfl⟩ := rngD_get hd
      have ht' : t < n + 1 := by omega
      obtain ⟨a5, a7, rfl⟩ := iv
      have et : (0 : Int) + (t : Int) = (t : Int) := by omega
      rw [et]
      refine ⟨_, _, tg_name, rn_for (fun ds u ρ => ∃ a7, ρ = [some (.raw (.ref dk)), some (.dat (.int (n : Int))), some (.dat (.int way)), some (.dat (.int few)), some (.dat (.tuple [])), some (.dat (.int (t : Int))), some (.raw (.ref A)), a7, none, none, none, none, none, none]) (ii_rng1 (i := (t : Int)) (ex_var rfl) (by omega)) (fun ds e => ⟨_, rfl⟩) (fun ds u d ρ e hd iv => ?_) (fun ds ρ e ⟨a7, e2⟩ => ⟨_, _, e2⟩)⟩
      subst e
      obtain ⟨hu, rfl⟩ := rngD_get hd
      have hu' : u < t := by omega
      obtain ⟨a7, rfl⟩ := iv
      have eu : (0 : Int) + (u : Int) = (u : Int) := by omega
      rw [eu]
      refine ⟨_, _, tg_name, rn_seq (Nm := fun ρ => ρ = [some (.raw (.ref dk)), some (.dat (.int (n : Int))), some (.dat (.int way)), some (.dat (.int few)), some (.dat (.tuple [])), some (.dat (.int (t : Int))), some (.raw (.ref A)), some (.dat (.int (u : Int))), none, none, none, none, none, none])
        (rn_grid_set (i := t) (j := u) (x := 6) rfl hAas hA has (Ex.imp (P := DrawR (few + 1)) (ex_callDG hA has (few + 1) rfl (ea_one (ed_add (ex_var rfl) ex_int)) rfl ⟨by omega, by omega⟩) fun d ⟨r, er, q1, q2⟩ => ⟨r, er, by omega⟩) (ex_var rfl) (ex_var rfl) (by omega) (by omega) rfl) fun ρ e => ?_⟩
      subst e
      exact rn_grid_set (i := u) (j := t) (x := 6) rfl hAas hA has (ex_grid (i := t) (j := u) (x := 6) rfl (ex_var rfl) (ex_var rfl) (by omega) (by omega)) (ex_var rfl) (ex_var rfl) (by omega) (by omega) ⟨_, rfl⟩
    · rintro ρ ⟨a5, a7, rfl⟩
      refine rn_setX (ex_matLc (R := fun l => l.length = n ∧ ∀ x ∈ l, x.natAbs ≤ 1000) (n := n) (Ii.z (ii_rng1 (i := (n : Int)) (ex_var rfl) (by omega))) (by rw [rngD_len]; omega) (by omega) fun i d hd => ?_) fun d ⟨r, er, q1, q2⟩ => ?_
      · obtain ⟨hi, rfl⟩ := rngD_get hd
        have hi' : i < n := by omega
        have ei : (0 : Int) + (i : Int) = (i : Int) := by omega
        rw [ei]
        refine ⟨[5], _, fun j hj => hj, tg_name, ex_rowLc (R := fun x => x.natAbs ≤ 1000) (n := n) (Ii.z (ii_rng1 (i := (n : Int)) (ex_var rfl) (by omega))) (by rw [rngD_len]; omega) (by omega) fun j d hd => ?_⟩
        obtain ⟨hj, rfl⟩ := rngD_get hd
        have hj' : j < n := by omega
        have ej : (0 : Int) + (j : Int) = (j : Int) := by omega
        rw [ej]
        refine ⟨[7], _, fun j hj => hj, tg_name, ex_ifE (Pt := fun _ => True) ((et_test (ed_eqI (i := (i : Int)) (j := (j : Int)) (ex_var rfl) (ex_var rfl))).imp fun _ _ => trivial) (fun _ => (ex_gridSum (i := i) (x := 6) rfl (ex_var rfl) (by omega) (by omega)).imp fun d ⟨x, ex, hx⟩ => ⟨x, ex, by omega⟩) (fun _ => (ex_neg' (ex_grid (i := i) (j := j) (x := 6) rfl (ex_var rfl) (ex_var rfl) (by omega) (by omega))).imp fun d ⟨x, ex, hx⟩ => ⟨-x, ex, by omega⟩)⟩
      · subst er
        exact ⟨r, _, _, _, pf_of q1 q2, rfl⟩
  rintro ρ ⟨r, a5, a6, a7, hr0, rfl⟩
  refine rn_seq (Nm := fun ρ => ∃ r a5 a6 a7 a8 a9 a10 a11 a12, PF n r ∧ ρ = [some (.raw (.ref dk)), some (.dat (.int (n : Int))), some (.dat (.int way)), some (.dat (.int few)), some (.dat (matD r)), a5, a6, a7, a8, a9, a10, a11, a12, none]) (rn_ifX (P := fun _ => True) ((et_test (ed_eqI (i := way) (j := 3) (ex_var rfl) ex_int)).imp fun _ _ => trivial) (fun _ => ?_) fun _ => rn_next ⟨r, _, _, _, _, _, _, _, _, hr0, rfl⟩) ?_
  · refine rn_seq (Nm := fun ρ => ρ = [some (.raw (.ref dk)), some (.dat (.int (n : Int))), some (.dat (.int way)), some (.dat (.int few)), some (.dat (matD r)), a5, a6, a7, some (.own []), none, none, none, none, none]) (rn_own ea_nil (fun ds e => by rw [e]; decide) (fun ds e => by rw [e]; rfl)) fun ρ e => ?_
    subst e
    have dr : ∀ (k : Int) (ρ' : Rho), ρ'[0]? = some (some (.raw (.ref dk))) → 0 < k → k < 1073741824 → Ex (dPm S dk cl h1 h2 []) (tCall spDraw [] E0 (tCons (tVar 0) (tCons (tC (.int k)) tNil))) ρ' (DrawR k) := fun k ρ' h a b => ex_callD k h (ea_one ex_int) rfl ⟨a, b⟩ (by simp)
    let RowP : PyData → Prop := fun e => ∃ l : List Int, e = .list (l.map .int) ∧ l.length = n ∧ ∀ x ∈ l, x.natAbs ≤ 4
    refine rn_seq (Nm := fun ρ => ∃ ds a5, ds.length = n ∧ (∀ e ∈ ds, RowP e) ∧ ρ = [some (.raw (.ref dk)), some (.dat (.int (n : Int))), some (.dat (.int way)), some (.dat (.int few)), some (.dat (matD r)), a5, a6, a7, some (.own ds), none, none, none, none, none])
      (rn_for (fun ds0 t ρ => ∃ ds a5, ds.length = t ∧ (∀ e ∈ ds, RowP e) ∧ ρ = [some (.raw (.ref dk)), some (.dat (.int (n : Int))), some (.dat (.int way)), some (.dat (.int few)), some (.dat (matD r)), a5, a6, a7, some (.own ds), none, none, none, none, none]) (ii_rng1 (i := (n : Int)) (ex_var rfl) (by omega)) (fun ds e => ⟨[], _, rfl, by simp, rfl⟩) (fun ds0 t d ρ e hd iv => ?_) (fun ds ρ e iv => by rw [e, rngD_len] at iv; simpa using iv)) ?_
    · subst e
      obtain ⟨ht, rfl⟩ := rngD_get hd
      have ht' : t < n := by omega
      obtain ⟨ds, a5, hdl, hds, rfl⟩ := iv
      have et : (0 : Int) + (t : Int) = (t : Int) := by omega
      rw [et]
      refine ⟨_, _, tg_name, rn_append (i := 8) (ds := ds) (P := RowP) rfl (by omega) (Ex.imp (ex_lcR (fun i d e => ∃ x, e = .int x ∧ x.natAbs ≤ 4) (ii_rng1 (i := (n : Int)) (ex_var rfl) (by omega)) (by rw [rngD_len]; omega) fun j d hd => ?_) fun d h => ints_lc (by rw [rngD_len]; omega) h) fun d hd => ⟨ds ++ [d], _, by simp [hdl], fun e he => ?_, rfl⟩⟩
      · obtain ⟨hj, rfl⟩ := rngD_get hd
        have ej : (0 : Int) + (j : Int) = (j : Int) := by omega
        rw [ej]
        refine ⟨[7], _, fun j hj => hj, tg_name, ex_ifE (Pt := fun _ => True) ((et_test (ed_cmp (c := fun i j => decide (i < j)) (i := (j : Int)) (j := (t : Int)) (ex_var rfl) (ex_var rfl))).imp fun _ _ => trivial) (fun _ => ?_) (fun _ => ?_)⟩
        · exact (ex_I1 (g := fun i j => i - j) (P1 := fun y => 0 ≤ y ∧ y < 7) (P2 := (· = 3)) (dr 7 _ rfl (by decide) (by decide)) (ex_toI ex_int)).imp fun d ⟨a, b, e1, e2, e3⟩ => ⟨_, e3, by subst e2; omega⟩
        · refine (ex_I2 (C := CMul) (g := fun i j => i * j) (P1 := fun y => 1 ≤ y ∧ y ≤ 4) (P2 := fun y => y = 0 ∨ y = 1) ((ex_I1 (g := fun i j => i + j) (P1 := (· = 1)) (P2 := fun y => 0 ≤ y ∧ y < 4) (ex_toI ex_int) (dr 4 _ rfl (by decide) (by decide))).imp fun d ⟨a, b, e1, e2, e3⟩ => ⟨_, e3, by subst e1; omega⟩) (Ex.imp (ed_cb (ea_one (ed_eqI (i := (t : Int)) (j := (j : Int)) (ex_var rfl) (ex_var rfl))) bc_intB) fun d e => ⟨_, e, by split <;> simp⟩) (fun x y h1 h2 => .inl (by omega))).imp fun d ⟨a, b, e1, e2, e3⟩ => ⟨_, e3, ?_⟩
          rcases e2 with rfl | rfl
          · simp
          · simp; omega
      · rcases List.mem_append.mp he with z | z
        · exact hds e z
        · rw [List.mem_singleton.mp z]; exact hd
    · rintro ρ ⟨ds, a5, hdl, hds, rfl⟩
      refine rn_setX (ex_matLc (R := fun l => l.length = n ∧ ∀ x ∈ l, x.natAbs ≤ 1000) (n := n) (ii_own (ds := ds) rfl) hdl (by omega) fun i d hd => ?_) fun d ⟨r, er, q1, q2⟩ => ?_
      · obtain ⟨l, rfl, hl, hlb⟩ := hds d (List.mem_of_getElem? hd)
        refine ⟨[9], _, fun j hj => hj, tg_name, ex_rowLc (R := fun x => x.natAbs ≤ 1000) (n := n) (ii_own (ds := ds) rfl) hdl (by omega) fun j d' hd' => ?_⟩
        obtain ⟨l', rfl, hl', hlb'⟩ := hds d' (List.mem_of_getElem? hd')
        refine ⟨[10], _, fun j hj => hj, tg_name, ex_cb (ea_oneX (Ex.imp (P' := fun d => ∃ l : List Int, d = .list (l.map .int) ∧ l.length = n ∧ ∀ x ∈ l, x.natAbs ≤ 16) (ex_lcR (fun i d e => ∃ x, e = .int x ∧ x.natAbs ≤ 16) (ii_zipL (ds := l.map .int) (es := l'.map .int) (ex_var rfl) (ex_var rfl)) (by rw [zipD_len]; simp; omega) fun m d hd => ?_) fun d h => ints_lc (by rw [zipD_len]; simp; omega) h)) fun ds ⟨d, e, ms, em, hml, hmb⟩ => ?_⟩
        · obtain ⟨u', v', g1, g2, rfl⟩ := zipD_get hd
          rw [List.getElem?_map] at g1 g2
          obtain ⟨u, hu, rfl⟩ := Option.map_eq_some_iff.mp g1
          obtain ⟨v, hv, rfl⟩ := Option.map_eq_some_iff.mp g2
          have b1 := hlb u (List.mem_of_getElem? hu)
          have b2 := hlb' v (List.mem_of_getElem? hv)
          refine ⟨_, _, ?_, tg_pair tg_name tg_name, (ed_mul (i := u) (j := v) (ex_var rfl) (ex_var rfl) (.inl (by omega))).imp fun y hy => ⟨_, hy, ?_⟩⟩
          · decide
          · rw [Int.natAbs_mul]; exact Nat.mul_le_mul b1 b2
        · subst e em
          refine bc_sum.imp fun y hy => ⟨_, hy, ?_⟩
          have := sum_bd hmb
          have h4 : ms.length * 16 ≤ 48 := by omega
          omega
      · subst er
        exact ⟨r, _, _, _, _, _, _, _, _, pf_of q1 q2, rfl⟩
  rintro ρ ⟨r, a5, a6, a7, a8, a9, a10, a11, a12, hr0, rfl⟩
  obtain ⟨m, hm, hsq⟩ := hr0.s
  refine rn_seq (Nm := fun ρ => ρ = [some (.raw (.ref dk)), some (.dat (.int (n : Int))), some (.dat (.int way)), some (.dat (.int few)), some (.dat (matD r)), a5, a6, a7, a8, a9, a10, a11, a12, none]) (rn_ifX (P := fun b => b = true → FormM m r) (et_testX (P := fun d => ∃ b, d = .bool b ∧ (b = true ↔ FormM m r)) (ex_callG (m, r) (ea_one (ex_var rfl)) rfl ⟨⟨hsq, by rcases hm with rfl | rfl <;> omega⟩, bd1000 hr0.b⟩ (by simp)) fun d ⟨b, e, h⟩ => ⟨b, e, h.mp⟩) (fun h => rn_ret (ex_var rfl) ⟨r, rfl, ?_, hr0.b⟩) fun _ => rn_next rfl) ?_
  · have f := h rfl
    rcases hm with rfl | rfl
    · have := f.lo; omega
    · exact f
  rintro ρ rfl
  refine rn_setX_ (P := fun d => ∃ l : List Int, d = .list (l.map .int) ∧ l.length = n ∧ ∀ x ∈ l, 1 ≤ x ∧ x ≤ 30) (Ex.imp (ex_lcR (fun i d e => ∃ x, e = .int x ∧ 1 ≤ x ∧ x ≤ 30) (ii_rng1 (i := (n : Int)) (ex_var rfl) (by omega)) (by rw [rngD_len]; omega) fun i d hd => ⟨[5], _, fun j hj => hj, tg_name, ?_⟩) fun d h => ints_lc (by rw [rngD_len]; omega) h) ?_
  · refine Ex.imp (ex_I1 (g := fun i j => i + j) (P1 := (· = 1)) (P2 := fun y => 0 ≤ y ∧ y < 30) (ex_toI ex_int) (Ex.imp (ex_callDX (G := Int) (enc := fun many => [.int many]) (ok := fun many => 0 < many ∧ many < 1073741824) (R := DrawR) (Pa := fun l => ∃ d, l = [d] ∧ PickR [2, 9, 30] d) rfl (ea_oneX (ex_callD [2, 9, 30] rfl (ea_one (ed_lst (ea_consD ex_int (ea_consD ex_int (ea_one ex_int))))) rfl (by decide) (by simp))) (fun ds ⟨d, e, x, hx, ex⟩ => ⟨x, by rw [e, ex], rfl, by simp at hx; omega⟩) (by simp)) fun d ⟨g, ⟨d', e', x, hx, ex⟩, q, eq, q0, q1⟩ => ⟨q, eq, q0, by
      subst ex
      injection e' with e' _
      injection e' with e'
      subst e'
      simp at hx
      omega⟩)) fun d ⟨a, b, e1, e2, e3⟩ => ⟨_, e3, by subst e1; omega⟩
  rintro d ⟨ax, rfl, hax, hb⟩
  refine rn_ret (d := matD (diagM n ax)) (ed_cb (ea_one (ed_lcM ((diagM n ax).map rowD) (ii_rng1 (i := (n : Int)) (ex_var rfl) (by omega)) (by rw [rngD_len]; simp [diagM]) (by rw [rngD_len]; omega) fun i d e hd he => ?_)) (bc_tuple (.l _))) ⟨_, rfl, diag_form hn1 hn3 hax hb⟩
  obtain ⟨hi, rfl⟩ := rngD_get hd
  have hi' : i < n := by omega
  have ei : (0 : Int) + (i : Int) = (i : Int) := by omega
  rw [ei]
  rw [List.getElem?_map] at he
  obtain ⟨row, hrow, rfl⟩ := Option.map_eq_some_iff.mp he
  unfold diagM at hrow
  rw [List.getElem?_map, List.getElem?_range hi'] at hrow
  cases hrow
  refine ⟨[5], _, fun j hj => hj, tg_name, ed_cb (ea_one (ed_lcM (((List.range n).map fun j => ax.getD i 0 * (if i = j then (1 : Int) else 0)).map .int) (ii_rng1 (i := (n : Int)) (ex_var rfl) (by omega)) (by rw [rngD_len]; simp) (by rw [rngD_len]; omega) fun j d e hd he => ?_)) (bc_tuple (.l _))⟩
  obtain ⟨hj, rfl⟩ := rngD_get hd
  have hj' : j < n := by omega
  have ej : (0 : Int) + (j : Int) = (j : Int) := by omega
  rw [ej]
  rw [List.map_map, List.getElem?_map, List.getElem?_range hj'] at he
  cases he
  have hai : ax[i]? = some (ax.getD i 0) := by rw [List.getD_eq_getElem?_getD, List.getElem?_eq_getElem (by omega)]; rfl
  refine ⟨[7], _, fun j hj => hj, tg_name, Ed.cast (ed_mul (i := ax.getD i 0) (j := if i = j then 1 else 0) (ed_ixL (ds := ax.map .int) (i := (i : Int)) (ex_var rfl) (ex_var rfl) (rowD_at hai)) (Ed.cast (ed_cb (ea_one (ed_eqI (i := (i : Int)) (j := (j : Int)) (ex_var rfl) (ex_var rfl))) bc_intB) ?_) (.inr (by split <;> omega))) rfl⟩
  by_cases h : i = j
  · simp [h]
  · have : ¬ (i : Int) = (j : Int) := by omega
    simp [h, this]
end
end Kz
set_option Elab.async false
set_option linter.all false
set_option maxRecDepth 100000
set_option maxHeartbeats 4000000
namespace Kz
open PySem PySem.Spec PyProof.Rows L2
/-! what repr is asked of -/
theorem two10 : (2 : Nat) ^ 190 < 10 ^ 60 := by decide +kernel
theorem shl {i : Int} (h : i.natAbs < 2 ^ 190) : (PyData.shown (.int i)).length ≤ 100 := by
  have e := int_text_length_le10 (k := 60) (by decide) (Nat.lt_trans h two10)
  show (Str.ofString (toString i)).length ≤ 100
  rw [PySem.ofString_length]
  omega
theorem shb {i : Int} (h : i.natAbs < 2 ^ 190) : i.natAbs.log2 < 1920 := Nat.lt_of_lt_of_le (PySem.Flt.log2_lt_of (by decide) h) (by decide)
theorem shw_of {d : PyData} (h1 : d.hasDict = false) (h2 : d.showable = true) (h3 : d.depth ≤ 20) (h4 : d.leavesShort 100 = true) (h5 : d.bulk ≤ 10000) : Shw d := ⟨h1, h2, h3, by
  have := PyData.shown_le_bulk 100 (by decide) d h4
  have e : sizeLine = 16777216 := PySem.sizeLine_eq
  have : (100 + 2) * d.bulk + 100 ≤ 102 * 10000 + 100 := by omega
  omega⟩
theorem shw_int {i : Int} (h : i.natAbs < 2 ^ 190) : Shw (.int i) := shw_of rfl (by simp only [PyData.showable, decide_eq_true_eq]; exact shb h) (by simp [PyData.depth]) (by simp only [PyData.leavesShort, decide_eq_true_eq]; exact shl h) (by simp [PyData.bulk])
abbrev B190 (l : List Int) : Prop := ∀ x ∈ l, x.natAbs < 2 ^ 190
theorem sA : ∀ {l : List Int}, B190 l → PyData.showableAll (l.map .int) = true
  | [], _ => rfl
  | x :: l, h => by
    simp only [List.map_cons, PyData.showableAll, PyData.showable, Bool.and_eq_true, decide_eq_true_eq]
    exact ⟨shb (h x (by simp)), sA fun y hy => h y (by simp [hy])⟩
theorem lA : ∀ {l : List Int}, B190 l → PyData.leavesShortAll 100 (l.map .int) = true
  | [], _ => rfl
  | x :: l, h => by
    simp only [List.map_cons, PyData.leavesShortAll, PyData.leavesShort, Bool.and_eq_true, decide_eq_true_eq]
    exact ⟨shl (h x (by simp)), lA fun y hy => h y (by simp [hy])⟩
theorem dA : ∀ l : List Int, PyData.depthAll (l.map .int) = 0
  | [] => rfl
  | x :: l => by simp [PyData.depthAll, PyData.depth, dA l]
theorem bA : ∀ l : List Int, PyData.bulkAll (l.map .int) = l.length
  | [] => rfl
  | x :: l => by simp [PyData.bulkAll, PyData.bulk, bA l]; omega
theorem shw_ints {l : List Int} (h : B190 l) (hl : l.length ≤ 64) : Shw (.list (l.map .int)) := shw_of (hdI l) (by simp only [PyData.showable]; exact sA h) (by simp [PyData.depth, dA]) (by simp only [PyData.leavesShort]; exact lA h) (by simp only [PyData.bulk, bA]; omega)
theorem shw_row {l : List Int} (h : B190 l) (hl : l.length ≤ 64) : Shw (rowD l) := shw_of (hdRow l) (by simp only [rowD, PyData.showable]; exact sA h) (by simp [rowD, PyData.depth, dA]) (by simp only [rowD, PyData.leavesShort]; exact lA h) (by simp only [rowD, PyData.bulk, bA]; omega)
theorem sM : ∀ {r : Mat}, (∀ l ∈ r, B190 l) → PyData.showableAll (r.map rowD) = true
  | [], _ => rfl
  | l :: r, h => by
    simp only [List.map_cons, PyData.showableAll, Bool.and_eq_true]
    exact ⟨by simp only [rowD, PyData.showable]; exact sA (h l (by simp)), sM fun y hy => h y (by simp [hy])⟩
theorem lM : ∀ {r : Mat}, (∀ l ∈ r, B190 l) → PyData.leavesShortAll 100 (r.map rowD) = true
  | [], _ => rfl
  | l :: r, h => by
    simp only [List.map_cons, PyData.leavesShortAll, Bool.and_eq_true]
    exact ⟨by simp only [rowD, PyData.leavesShort]; exact lA (h l (by simp)), lM fun y hy => h y (by simp [hy])⟩
theorem hM : ∀ r : Mat, PyData.hasDictAll (r.map rowD) = false
  | [] => rfl
  | l :: r => by simp [PyData.hasDictAll, hdRow, hM r]
theorem dM : ∀ r : Mat, PyData.depthAll (r.map rowD) ≤ 1
  | [] => by simp [PyData.depthAll]
  | l :: r => by
    have := dM r
    simp only [List.map_cons, PyData.depthAll]
    have e : PyData.depth (rowD l) = 1 := by simp [rowD, PyData.depth, dA]
    omega
theorem bM : ∀ {r : Mat}, (∀ l ∈ r, l.length ≤ 64) → PyData.bulkAll (r.map rowD) ≤ r.length * 65
  | [], _ => by simp [PyData.bulkAll]
  | l :: r, h => by
    have := bM (r := r) fun y hy => h y (by simp [hy])
    have hl := h l (by simp)
    simp only [List.map_cons, PyData.bulkAll, List.length_cons]
    have e : PyData.bulk (rowD l) = l.length := by simp only [rowD, PyData.bulk, bA]
    omega
theorem shw_mat {r : Mat} (h : ∀ l ∈ r, B190 l) (h1 : r.length ≤ 64) (h2 : ∀ l ∈ r, l.length ≤ 64) : Shw (matD r) := shw_of (by simp only [matD, PyData.hasDict]; exact hM r) (by simp only [matD, PyData.showable]; exact sM h) (by have := dM r; simp only [matD, PyData.depth]; omega) (by simp only [matD, PyData.leavesShort]; exact lM h) (by have := bM h2; simp only [matD, PyData.bulk]; omega)
section
variable {p : Pm} {ρ : Rho} {ta tb te : TE}
theorem ed_eqS {i j : Str} (h : Ed p ta ρ (.str i)) (k : Ed p tb ρ (.str j)) : Ed p (tOp rEq ta tb) ρ (.bool (decide (i = j))) := ed_op h k fun H0 O σ ρ H x y e hx hy Q q => by
  cases hx; cases hy
  refine ⟨rfl, ?_⟩
  have e1 : decide (V.str i = V.str j) = decide (i = j) := by simp
  rw [e1]
  exact q _ H _ (Kq.refl H) e.ok (.bl _) rfl
theorem ed_catL {ds es : List PyData} (h : Ed p ta ρ (.list ds)) (k : Ed p tb ρ (.list es)) (hz : ds.length + es.length ≤ 10000) : Ed p (tOp rCat ta tb) ρ (.list (ds ++ es)) := ed_op h k fun H0 O σ ρ H x y e hx hy Q q => by
  cases hx with
  | @lst a xs _ n ea r =>
    cases hy with
    | @lst b ys _ m eb r' =>
      have l1 := r.length
      have l2 := r'.length
      exact ⟨a, b, xs, ys, rfl, rfl, ea, eb, Nat.le_trans (by omega) (show 10000 ≤ sizeLine by decide), fun l hl => q _ _ _ (Kq.new hl) (e.ok.kp (Kq.new hl)) (.lst (fresh_so e hl) upd_same ((r.append r').kp (Kq.new hl))) rfl⟩
theorem ed_repr {K : PySem.W.Frag} {d : PyData} (h : Ed p ta ρ d) (s : Shw d) : Ed p (tCB (rRepr K) (tCons ta tNil)) ρ (.str d.shown) := ed_cb (ea_one h) (bc_repr s)
/-- keyword calls -/
theorem ed_callKG {G : Type} {enc : G → List PyData} {ok : G → Prop} {R : G → PyData → Prop} {Ts : List Addr} {n : Nat} {E : XK} {t tk : TA} {gV : List V → List V → List V} {ds es : List PyData} {v : PyData} (g : G) (h : Ea p t ρ (· = ds)) (k : Ea p tk ρ (· = es))
    (hg : ∀ S H vs zs, DvL S H vs ds → DvL S H zs es → DvL S H (gV vs zs) (enc g)) (hl : (enc g).length = n) (hok : ok g) (hT : ∀ P ∈ Ts, P ∈ p.Ts) (hv : ∀ d, R g d → d = v) : Ed p (tCallK (pureG Ts n enc ok R) gV E t tk) ρ v := fun H0 O σ H e Q q => by
  refine h H0 O σ H e _ fun vs H2 ds' k2 o2 hd pd => ?_
  subst pd
  refine k H0 O σ H2 (e.kq k2 o2) _ fun zs H3 es' k3 o3 he pe => ?_
  subst pe
  have e3 := (e.kq k2 o2).kq k3 o3
  have hh := hg (SO p O) H3 vs zs (hd.kq k3 so_z) he
  exact ⟨g, hok, by rw [hh.length]; exact hl, SO p O, _, so_trk e3, fun P hP => o3.tb P (hT P hP), hh, rfl, fun v H4 d k4 hv' hp => q v H4 d ((k2.trans k3).trans k4.up) (o3.kp k4) hv' (hv d hp)⟩
end
section
variable {P : Program} {w : World} {K : PySem.W.Frag} {mg : Str → Option Value} {base : Heap}
/-- a def that may show -/
structure ClG (P : Program) (w : World) (K : PySem.W.Frag) (mg : Str → Option Value) (base : Heap) (x : Str) (ps : List Str) (k : Nat) (sp : Sp) where
  f : Addr
  fd : FuncData
  G : FnG P w K mg base k f fd ps sp
  g : mg x = some (.ref f)
  kp : PySem.W.keepIn K (.ref f) = true
  b : Binds K fd ps []
theorem ok_pureR {x qual : Str} {st : Stmt} {f : Addr} {fd : FuncData} {N ps : List Str} {k n : Nat} {Ts : List Addr} {G : Type} {enc : G → List PyData} {ok : G → Prop} {R : G → PyData → Prop} (F : Fun K x qual st f fd) (Sc : FnScope N ps (defScope st)) (hps : ps.length = n) (hn : n ≤ N.length)
    (hb : ∀ (cdv : Value) (A : Around) (outer : List PySem.Env) (s : Shared) (H : Hp), Room k (A.deeper (envOfC qual (defScope st) s.heap.objs.size f cdv)) → (A.deeper (envOfC qual (defScope st) s.heap.objs.size f cdv)).guards = some [] →
      ∃ t, PSs (cxOf CX0 P w K mg base N qual (defScope st) f cdv A outer s H E0).nox (defBody st) t ∧
        ∀ (p : Pm) (g : G), (∀ P ∈ Ts, P ∈ p.Ts) → ok g → Rn p t (startR N (enc g)) { N := fun _ => R g .none, R := R g }) : FnG P w K mg base (k + 1) f fd ps (pureG Ts n enc ok R) := by
  refine fng_of F Sc (fun vs H Q E h => by obtain ⟨g, _, h⟩ := h; rw [h.1, hps]) fun cdv A outer s H vs Q hr hG h => ?_
  obtain ⟨g, hg, h⟩ := h
  obtain ⟨t, ht, hR⟩ := hb cdv A outer s H hr hG
  exact ⟨t, ht, pure_body (ps := ps) hn h (fun p ds hT hl hp => by rw [hp]; exact hR p g hT hg)⟩
end
section
variable {X : Cx} {e : Expr} {es : List Expr} {te : TE} {t : TA} {p pos : Pos}
theorem pRepr (B : Bn X.mg) (hG : X.A.guards = some []) (hu : X.A.units + 64 < cLine) (h : PE X e te) (hg : Gl X "repr" := by rfl) (he : starEach [e] X.env = (false, eval e X.env) :: starEach [] X.env := by rfl) : PE X (.Call (.Name "repr" p) [e] [] pos) (tCB (rRepr X.K) (tCons te tNil)) :=
  pe_callB (call_repr hG hu) hg B.repr (by decide +kernel) (pa_cons h pa_nil he) (by decide) (by decide) he
theorem pCallG {x : Str} {ps : List Str} {k j : Nat} {sp : Sp} (C : ClG X.prog X.w X.K X.mg X.base x ps k sp) (hr : Room j X.A) (hG : X.A.guards = some []) (hk : k ≤ j) (ha : PA X (e :: es) t) (hg : Gl X x := by rfl) (hdb : (x == ("__debug__" : Str)) = false := by decide)
    (he : starEach (e :: es) X.env = (false, eval e X.env) :: starEach es X.env := by rfl) (hpl : (backTo pos (starEach es X.env)).any (·.1) = false := by rfl) : PE X (.Call (.Name x p) (e :: es) [] pos) (tCall sp [] E0 t) :=
  pe_callG C.G (hr.mono hk) hG hg C.g C.kp C.b ha hdb he hpl
end
end Kz
set_option Elab.async false
set_option linter.all false
set_option maxRecDepth 100000
set_option maxHeartbeats 4000000
/-! Kz: values of all kinds: shown, held against an empty one -/
namespace Kz
open PySem PySem.Spec PyProof.Rows L2
/-- something stands at the place of the modules -/
abbrev Hsb (base : Heap) : Prop := ∃ o, base.get? sysModules = some o
section
variable {X : Cx} {pins : List (Addr × Obj)} {σ : L2.St} {H : Hp} {s : Shared} {S : Addr → Prop}
theorem not_sys (I : Inv X pins σ H s) (hb : Hsb X.base) {a : Addr} {o : HO} (e : H a = some o) : a ≠ sysModules := fun z => by
  obtain ⟨ob, h⟩ := hb
  have q := (I.bs _ _ h).2
  rw [← z, e] at q
  cases q
mutual
theorem Dv.rds (I : Inv X pins σ H s) (hb : Hsb X.base) : ∀ (d : PyData) (v : V) (u : Value), Dv S H v d → RelV v u → ∃ as, Reads s.heap u d as ∧ sysModules ∉ as
  | .none, _, _, h, r => by
    cases h; cases r
    exact ⟨_, .none, by simp⟩
  | .bool b, _, _, h, r => by
    cases h; cases r
    exact ⟨_, .bool b, by simp⟩
  | .int i, _, _, h, r => by
    cases h
    obtain ⟨t, rfl⟩ := r
    exact ⟨_, .int i t, by simp⟩
  | .str x, _, _, h, r => by
    cases h
    obtain ⟨t, rfl⟩ := r
    exact ⟨_, .str x t, by simp⟩
  | .list ds, _, _, h, r => by
    cases h with
    | lst _ e q =>
      cases r
      obtain ⟨us, rv, ⟨o, n, ho, hc, _, hd⟩, _⟩ := I.list (.inl (.inl e))
      obtain ⟨as, hr, hn⟩ := DvL.rds I hb ds _ us q rv
      exact ⟨_, .list ho hc hd hr, by simp only [List.mem_cons, not_or]; exact ⟨fun z => not_sys I hb e z.symm, hn⟩⟩
  | .tuple ds, _, _, h, r => by
    cases h with
    | tup _ e q =>
      cases r
      obtain ⟨us, rv, ⟨o, ho, hc, n, hd⟩, _⟩ := I.tuple (.inl (.inl e))
      obtain ⟨as, hr, hn⟩ := DvL.rds I hb ds _ us q rv
      exact ⟨_, .tuple ho hc hd hr, hn⟩
  | .dict ps, _, _, h, r => by
    cases h with
    | dct _ e q =>
      cases r
      obtain ⟨_, _, vs, rel, o, es, ep, ho, hx, hd, _, hp, _⟩ := dk_of I.hok e
      obtain ⟨as, bs, h1, h2, h3, h4⟩ := DvK.rds I hb ps _ vs es.toList q rel hp
      refine ⟨_, .dict ho hx.1 hd h1 h2, ?_⟩
      simp only [List.cons_append, List.mem_cons, List.mem_append, not_or]
      exact ⟨fun z => not_sys I hb e z.symm, h3, h4⟩
theorem DvL.rds (I : Inv X pins σ H s) (hb : Hsb X.base) : ∀ (ds : List PyData) (vs : List V) (us : List Value), DvL S H vs ds → Vals vs us → ∃ as, ReadsAll s.heap us ds as ∧ sysModules ∉ as
  | [], _, _, h, r => by
    cases h; cases r
    exact ⟨_, .nil, by simp⟩
  | d :: ds, _, _, h, r => by
    cases h with
    | cons h1 h2 =>
      cases r with
      | cons r1 r2 =>
        obtain ⟨as, q1, n1⟩ := Dv.rds I hb d _ _ h1 r1
        obtain ⟨bs, q2, n2⟩ := DvL.rds I hb ds _ _ h2 r2
        exact ⟨_, .cons q1 q2, by simp only [List.mem_append, not_or]; exact ⟨n1, n2⟩⟩
theorem DvK.rds (I : Inv X pins σ H s) (hb : Hsb X.base) : ∀ (ps : List (PyData × PyData)) (kvs : List (Key × V)) (vs : List (Key × Value)) (es : List DictEntry), DvK S H kvs ps → KV kvs vs → Pairs (mixKind X.prog X.w) es vs → ∃ as bs, ReadsAll s.heap (es.map (·.key)) (ps.map (·.1)) as ∧ ReadsAll s.heap (es.map (·.val)) (ps.map (·.2)) bs ∧ sysModules ∉ as ∧ sysModules ∉ bs
  | [], _, _, _, h, r, p => by
    cases h; cases r; cases p
    exact ⟨_, _, .nil, .nil, by simp, by simp⟩
  | (_, d) :: ps, _, _, _, h, r, p => by
    cases h with
    | cons h1 h2 =>
      cases r with
      | cons r1 r2 =>
        cases p with
        | cons p1 p2 p3 =>
          obtain ⟨as, q1, n1⟩ := Dv.rds I hb d _ _ h1 r1.2
          obtain ⟨bs, cs, q2, q3, n2, n3⟩ := DvK.rds I hb ps _ _ _ h2 r2 p3
          have ek := r1.1
          rcases keyIs_shape p1 with ⟨i, t, e1, e2⟩ | ⟨x, t, e1, e2⟩
          · rw [← ek] at e1
            dsimp only at e1
            subst e1
            refine ⟨_, _, .cons (by dsimp only; rw [e2]; exact .int i t) q2, .cons (by dsimp only; rw [p2]; exact q1) q3, by simpa using n2, by simp only [List.mem_append, not_or]; exact ⟨n1, n3⟩⟩
          · rw [← ek] at e1
            dsimp only at e1
            subst e1
            refine ⟨_, _, .cons (by dsimp only; rw [e2]; exact .str x t) q2, .cons (by dsimp only; rw [p2]; exact q1) q3, by simpa using n2, by simp only [List.mem_append, not_or]; exact ⟨n1, n3⟩⟩
end
end
/-- a datum of any kind that may be shown -/
structure Shv (d : PyData) : Prop where
  sh : d.showable = true
  dp : d.depth ≤ 20
  sz : d.shown.length ≤ sizeLine
def rRepv : List V → Hp → VK → Prop := fun vs H Q => ∃ v d S, vs = [v] ∧ Dv S H v d ∧ Shv d ∧ Q (.str d.shown) H
theorem call_repv {X : Cx} (hb : Hsb X.base) (hG : X.A.guards = some []) (hu : X.A.units + 64 < cLine) : CallR X (.builtin "repr") rRepv := by
  intro pins s σ H vs us Q I r h
  obtain ⟨v, d, S, rfl, hd, sh, q⟩ := h
  obtain ⟨u, rfl, ru⟩ : ∃ u, us = [u] ∧ RelV v u := by
    cases r with
    | cons a b => cases b; exact ⟨_, rfl, a⟩
  obtain ⟨as, hr, hn⟩ := Dv.rds I hb d v u hd ru
  have fin : ∀ tk, EP X pins σ Q (.str d.shown tk) { s with toks := s.toks + 1 } := fun tk => ⟨.str d.shown, H, I.tok _, ⟨tk, rfl⟩, q⟩
  have ref : ∀ a, u = Value.ref a → wpAny (model X.prog X.w) X.A (call (.builtin "repr") [u]) (EP X pins σ Q) X.xe s := fun a e => by
    subst e
    exact repr_of_reads' hr sh.sh (fun _ => hn) hG (by have := sh.dp; omega) (fun _ _ e => e) (fun h' t tk k => ⟨.str d.shown, H, I.kept k, ⟨t, rfl⟩, q⟩) sh.sz
  cases hd with
  | non => cases ru; exact PySem.P.repr_of_none (fin _)
  | bl b => cases ru; exact PySem.P.repr_of_bool (fin _)
  | int i =>
    obtain ⟨t, rfl⟩ := ru
    exact PySem.P.repr_of_int (by have := sh.sh; simpa only [PyData.showable, decide_eq_true_eq] using this) (fin _)
  | str x =>
    obtain ⟨t, rfl⟩ := ru
    exact PySem.P.repr_of_str (fin _) sh.sz
  | lst _ _ _ => exact ref _ ru
  | tup _ _ _ => exact ref _ ru
  | dct _ _ _ => exact ref _ ru
section
variable {p : Pm} {ρ : Rho} {ta tb te : TE}
theorem bc_repv {d : PyData} (sh : Shv d) : Bc p rRepv [d] (· = .str d.shown) := fun H0 O σ ρ H vs e hv Q q => by
  obtain ⟨v, rfl, hw⟩ := hv.one_inv
  exact ⟨v, d, _, rfl, hw, sh, q _ H _ (Kq.refl H) e.ok (.str _) rfl⟩
theorem ed_repv {d : PyData} (h : Ed p ta ρ d) (s : Shv d) : Ed p (tCB rRepv (tCons ta tNil)) ρ (.str d.shown) := ed_cb (ea_one h) (bc_repv s)
end
section
variable {X : Cx} {e : Expr} {te : TE} {p pos : Pos}
theorem pRepv (B : Bn X.mg) (hb : Hsb X.base) (hG : X.A.guards = some []) (hu : X.A.units + 64 < cLine) (h : PE X e te) (hg : Gl X "repr" := by rfl) (he : starEach [e] X.env = (false, eval e X.env) :: starEach [] X.env := by rfl) : PE X (.Call (.Name "repr" p) [e] [] pos) (tCB rRepv (tCons te tNil)) :=
  pe_callB (call_repv hb hG hu) hg B.repr (by decide +kernel) (pa_cons h pa_nil he) (by decide) (by decide) he
/-! x == [], x != () -/
def rEqZ (K : PySem.W.Frag) : R2 := fun x y H Q => ∃ a b xs, x = .ref a ∧ y = .ref b ∧ SqL K H a xs ∧ SqL K H b [] ∧ Q (.bl xs.isEmpty) H
def rNeZ (K : PySem.W.Frag) : R2 := fun x y H Q => ∃ a b xs, x = .ref a ∧ y = .ref b ∧ SqT K H a xs ∧ SqT K H b [] ∧ Q (.bl (!xs.isEmpty)) H
theorem op_eqZ (hu : X.A.units < cLine) : OpR X (compareOp .Eq) (rEqZ X.K) := by
  intro pins s σ H x y v u Q I rx ry h
  obtain ⟨a, b, xs, rfl, rfl, h1, h2, q⟩ := h
  cases rx
  cases ry
  obtain ⟨us, r1, p1, _⟩ := I.list h1
  obtain ⟨ws, r2, p2, _⟩ := I.list h2
  cases r2
  have fin : EP X pins σ Q (.bool xs.isEmpty) s := ⟨.bl _, H, I, rfl, q⟩
  cases r1 with
  | nil => exact SeqAt.eq_listAt (e := fun _ => true) p1.isList p2.isList rfl hu (fun j h1 _ => absurd h1 (Nat.not_lt_zero j)) fin
  | cons _ _ => exact SeqAt.eq_list_lengthsAt p1.isList p2.isList (by simp) hu fin
theorem op_neZ (hu : X.A.units < cLine) : OpR X (compareOp .NotEq) (rNeZ X.K) := by
  intro pins s σ H x y v u Q I rx ry h
  obtain ⟨a, b, xs, rfl, rfl, h1, h2, q⟩ := h
  cases rx
  cases ry
  obtain ⟨us, r1, p1, _⟩ := I.tuple h1
  obtain ⟨ws, r2, p2, _⟩ := I.tuple h2
  cases r2
  have fin : EP X pins σ Q (.bool (!xs.isEmpty)) s := ⟨.bl _, H, I, rfl, q⟩
  have key := SeqAt.RcNeAt.tuples (A := X.A) (e := fun _ => true) p1 p2 hu (fun j _ h2 => absurd h2 (Nat.not_lt_zero j))
  refine key X.prog X.w X.xe _ ?_
  cases r1 with
  | nil => exact fin
  | cons _ _ => simpa using fin
theorem opEqZ (K : PySem.W.Frag) (hu : X.A.units + 64 < cLine) (h : X.K = K := by rfl) : OpR X (compareOp .Eq) (rEqZ K) := h ▸ op_eqZ (by omega)
theorem opNeZ (K : PySem.W.Frag) (hu : X.A.units + 64 < cLine) (h : X.K = K := by rfl) : OpR X (compareOp .NotEq) (rNeZ K) := h ▸ op_neZ (by omega)
end
section
variable {p : Pm} {ρ : Rho} {ta tb te : TE} {K : PySem.W.Frag}
theorem ed_eqZ {ds : List PyData} (h : Ed p ta ρ (.list ds)) (k : Ed p tb ρ (.list [])) : Ed p (tOp (rEqZ K) ta tb) ρ (.bool ds.isEmpty) := ed_op h k fun H0 O σ ρ H x y en hx hy Q q => by
  cases hx with
  | lst _ e1 r1 =>
    cases hy with
    | lst _ e2 r2 =>
      cases r2
      refine ⟨_, _, _, rfl, rfl, .inl (.inl e1), .inl (.inl e2), ?_⟩
      have : ∀ {vs : List V} {ds : List PyData} {S : Addr → Prop} {H : Hp}, DvL S H vs ds → vs.isEmpty = ds.isEmpty := fun h => by cases h <;> rfl
      rw [this r1]
      exact q _ H _ (Kq.refl H) en.ok (.bl _) rfl
theorem ed_neZ {ds : List PyData} (h : Ed p ta ρ (.tuple ds)) (k : Ed p tb ρ (.tuple [])) : Ed p (tOp (rNeZ K) ta tb) ρ (.bool (!ds.isEmpty)) := ed_op h k fun H0 O σ ρ H x y en hx hy Q q => by
  cases hx with
  | tup _ e1 r1 =>
    cases hy with
    | tup _ e2 r2 =>
      cases r2
      refine ⟨_, _, _, rfl, rfl, .inl (.inl e1), .inl (.inl e2), ?_⟩
      have : ∀ {vs : List V} {ds : List PyData} {S : Addr → Prop} {H : Hp}, DvL S H vs ds → vs.isEmpty = ds.isEmpty := fun h => by cases h <;> rfl
      rw [this r1]
      exact q _ H _ (Kq.refl H) en.ok (.bl _) rfl
end
end Kz
set_option Elab.async false
set_option linter.all false
set_option maxRecDepth 100000
set_option maxHeartbeats 4000000
/-! Kz: the end of a law whose values are of all kinds -/
namespace Kz
open PySem PySem.Spec PyProof.Rows L2
theorem law_callS {P : Program} {w : World} {K : PySem.W.Frag} {mg mb : Str → Option Value} {k : Nat} {fa a : Addr} {cs : List (Addr × Addr)} {fd : FuncData} {x : Str} {sp : Sp} {s₁ : Shared} {vs : List Value} {ns : List Int}
    (KX : K.In s₁.heap) (hns : s₁.heap.Ns mainGlobals mg) (hb : s₁.heap.Ns builtinsNs mb) (hbb : ∀ x : Str, x ≠ "__name__" → mb x = bootBuiltins x) (hsm : ∃ mm, s₁.heap.Ns sysModules mm) (hlim : s₁.heap.NoLimit) (hg : s₁.gens = #[])
    (hT : ∀ p ∈ cs, s₁.heap.get? p.2 = some { cls := .none, data := .fields #[] }) (nT : ∀ p ∈ cs, K.lookup p.2 = none) (C : ∀ p ∈ cs, PySem.W.CodeHd s₁.heap p.1 p.2)
    (hbm : ∃ (bm : Addr) (ob : Obj), mg "__builtins__" = some (.ref bm) ∧ bm ≠ builtinsNs ∧ s₁.heap.get? bm = some ob ∧ ob.cls = .type "module" ∧ ob.dict = some builtinsNs ∧ ob.data = .plain)
    (ha : s₁.heap.get? a = some { cls := .type "list", data := .seq vs.toArray }) (hi : IntsAre vs ns) (hl : ns.length ≤ sizeLine) (hr : Room k callerA)
    (F : ∀ base : Heap, K.In base → base.Ns mainGlobals mg → Hsb base → (∀ p ∈ cs, GxR.TabB base mg p.1 p.2) → FnG P w K mg base k fa fd [x] sp) (hbind : ∀ (s : Shared) (u : Value), BindsTo s fd ⟨[u], []⟩ [(x, u)])
    (hsp : ∀ H : Hp, (∀ p ∈ cs, H p.2 = some (.tbl #[])) → SqL K H a (ns.map V.int) → sp [.ref a] H (fun v _ => v = .bl true) E0) :
    codeAny (model P w) callerA (.call (.ref fa) ⟨[.ref a], []⟩) (fun r s' => r = .ok (.ret (.bool true)) ∧ OldK s₁.heap s'.heap ∧ s'.os = s₁.os ∧ AllBare s'.gens) s₁ := by
  have rv := vals_ints hi
  have lenV := hi.length
  have isT : ∀ b : Addr, b ∈ cs.map (·.2) → s₁.heap.get? b = some { cls := .none, data := .fields #[] } := by
    intro b hb
    obtain ⟨p, hp, e⟩ := List.mem_map.mp hb
    rw [← e]
    exact hT p hp
  have memT : ∀ p ∈ cs, p.2 ∈ cs.map (·.2) := fun p hp => List.mem_map_of_mem hp
  have aT : a ∉ cs.map (·.2) := by
    intro z
    have q := isT a z
    rw [ha] at q
    have z' := congrArg Obj.data (Option.some.inj q)
    cases z'
  have core : ∀ H : Hp, (∀ p ∈ cs, H p.2 = some (.tbl #[])) → (∀ b, H b = none ∨ b ∈ cs.map (·.2) ∨ ∃ o xs, H b = some (.frz o (.lst xs))) → SqL K H a (ns.map V.int) → HOk P w H s₁.heap →
      (∀ b, H b ≠ none → b = a ∨ b ∈ cs.map (·.2)) → (H a ≠ none → K.lookup a = none) →
      codeAny (model P w) callerA (.call (.ref fa) ⟨[.ref a], []⟩) (fun r s' => r = .ok (.ret (.bool true)) ∧ OldK s₁.heap s'.heap ∧ s'.os = s₁.os ∧ AllBare s'.gens) s₁ := by
    intro H hH hO hS hok hA hK
    have out : ∀ {b : Addr} {o : Obj}, s₁.heap.get? b = some o → H b = none → (hidT s₁.heap H).get? b = some o := fun e n => hidT_get e n
    -- an object that is neither the script nor a table is not tracked
    have off : ∀ {b : Addr} {o : Obj}, s₁.heap.get? b = some o → (∀ us n, o.data ≠ .seq us n) → o.data ≠ .fields #[] → H b = none := by
      intro b o e h1 h2
      cases q : H b with
      | none => rfl
      | some u =>
        rcases hA b (by rw [q]; simp) with e' | e'
        · subst e'
          rw [ha] at e
          cases e
          exact absurd rfl (h1 _ _)
        · rw [isT b e'] at e
          cases e
          exact absurd rfl h2
    have nsK : ∀ {b : Addr} {m : Str → Option Value}, s₁.heap.Ns b m → (hidT s₁.heap H).Ns b m := by
      rintro b m ⟨o, es, ep, e, d, r⟩
      refine ⟨o, es, ep, out e (off e (fun us n z => ?_) fun z => ?_), d, r⟩
      · rw [d] at z; cases z
      · rw [d] at z; cases z
    have hKb : K.In (hidT s₁.heap H) := by
      intro b o e
      refine out (KX b o e) ?_
      cases q : H b with
      | none => rfl
      | some u =>
        exfalso
        rcases hA b (by rw [q]; simp) with e' | e'
        · subst e'
          rw [hK (by rw [q]; simp)] at e
          cases e
        · obtain ⟨p, hp, ep⟩ := List.mem_map.mp e'
          rw [← ep, nT p hp] at e
          cases e
    have hM : L2.Mod K mg (hidT s₁.heap H) := ⟨hKb, nsK hns, ⟨mb, nsK hb, hbb⟩, let ⟨mc, h1, h2⟩ := hlim; ⟨mc, nsK h1, h2⟩⟩
    have TB : ∀ p ∈ cs, GxR.TabB (hidT s₁.heap H) mg p.1 p.2 := by
      intro p hp
      have hTp := hT p hp
      refine ⟨?_, ?_, fun z => ?_⟩
      · obtain ⟨o, us, file, tf, flags, tg, inF, text, tt, e1, r1, r2, r3, rest⟩ := C p hp
        refine ⟨o, us, file, tf, flags, tg, inF, text, tt, out e1 (off e1 (fun vs n z => ?_) fun z => ?_), r1, r2, r3, rest⟩
        · rw [r2] at z; cases z
        · rw [r2] at z
          cases z
          simp at r3
      · obtain ⟨bm, ob, b1, b2, b3, b4, b5, b6⟩ := hbm
        refine ⟨bm, ob, b1, b2, fun q => ?_, fun q => ?_, out b3 (off b3 (fun vs n z => ?_) fun z => ?_), b4, b5, b6⟩
        · obtain ⟨o, es, ep, e, hd, _⟩ := hns
          rw [q, e] at b3
          cases b3
          rw [hd] at b6; cases b6
        · rw [q, hTp] at b3
          cases b3
          cases b6
        · rw [b6] at z; cases z
        · rw [b6] at z; cases z
      · obtain ⟨o, es, ep, e, hd, _⟩ := hns
        rw [z, hTp] at e
        cases e
        cases hd
    have e0 : Env0 P w K mg (hidT s₁.heap H) callerA [] s₁ H := ⟨rfl, hM, fun b o e => of_hidT e, Nat.le_of_eq (hidT_size _ _), trivial, fun b hb => absurd (show b ∈ ([] : List Addr) from hb) (by simp), hok, .of_eq hg⟩
    refine codeAny_mono ((F _ hKb (nsK hns) (let ⟨_, hm⟩ := hsm; let ⟨o, _, _, e, _⟩ := nsK hm; ⟨o, e⟩) TB).run callerA [] s₁ H ⟨[.ref a], []⟩ [.ref a] [.ref a] _ hr rfl e0 (hbind s₁ (.ref a)) (.cons rfl .nil) (hsp H hH hS)) fun r s' h => ?_
    cases r with
    | error e => exact False.elim h
    | ok fl =>
      cases fl with
      | next => exact False.elim h
      | brk => exact False.elim h
      | cont => exact False.elim h
      | ret u =>
        obtain ⟨v, H', os, bare, un, hok', r', q⟩ := h
        have q' : v = .bl true := q
        subst q'
        obtain rfl : u = Value.bool true := r'
        have key : ∀ b o, b ∉ cs.map (·.2) → s₁.heap.get? b = some o → s'.heap.get? b = some o := by
          intro b o nb e
          rcases hO b with q | z | ⟨ob, xs, z⟩
          · exact un.keep b o e q (by intro z; exact absurd (show b ∈ ([] : List Addr) from z) (by simp)) (by simp)
          · exact absurd z nb
          · obtain ⟨e1, _⟩ := hok b _ z
            obtain ⟨e2, _⟩ := hok' b _ (un.frzs b ob _ z)
            rw [e] at e1; cases e1
            exact e2
        have grown : ∀ p ∈ cs, ∃ more : Array Value, s'.heap.get? p.2 = some { cls := .none, data := .fields more } := by
          intro p hp
          obtain ⟨more, z⟩ := un.tbls p.2 #[] (hH p hp)
          exact ⟨_, hok' p.2 _ z⟩
        refine ⟨rfl, ⟨fun b o e => ?_, fun b o e => ?_⟩, os, bare⟩
        · by_cases hb : b ∈ cs.map (·.2)
          · obtain ⟨p, hp, ep⟩ := List.mem_map.mp hb
            obtain ⟨more, hm⟩ := grown p hp
            rw [← ep] at e ⊢
            rw [hT p hp] at e
            cases e
            exact .inr (.inl ⟨((C p hp).tab (hT p hp)).isCodeTable, rfl, #[], more, rfl, by rw [Array.empty_append]; exact hm⟩)
          · exact .inl (key b o hb e)
        · by_cases hb : b ∈ cs.map (·.2)
          · obtain ⟨p, hp, ep⟩ := List.mem_map.mp hb
            obtain ⟨more, hm⟩ := grown p hp
            rw [← ep]
            exact ⟨_, hm⟩
          · exact ⟨o, key b o hb e⟩
  have hTb : ∀ (H : Hp) (b : Addr), H b = some (.tbl #[]) → b ∈ cs.map (·.2) → ObjOk P w H s₁.heap b (.tbl #[]) := fun H b _ hb => isT b hb
  cases hk : K.lookup a with
  | some o =>
    have e := KX a o hk
    rw [ha] at e
    cases e
    let H : Hp := fun b => if b ∈ cs.map (·.2) then some (.tbl #[]) else none
    have hin : ∀ b, b ∈ cs.map (·.2) → H b = some (.tbl #[]) := fun b h => if_pos h
    have hno : ∀ b, b ∉ cs.map (·.2) → H b = none := fun b h => if_neg h
    refine core H (fun p hp => hin _ (memT p hp)) (fun b => ?_) (.inr ⟨_, vs.toArray, _, hk, rfl, rfl, rfl, by rw [List.size_toArray, lenV]; exact hl, by simpa using rv⟩) (fun b u z => ?_) (fun b z => ?_) fun z => absurd (hno a aT) z
    · by_cases hb : b ∈ cs.map (·.2)
      · exact .inr (.inl hb)
      · exact .inl (hno b hb)
    · by_cases hb : b ∈ cs.map (·.2)
      · rw [hin b hb] at z; cases z
        exact isT b hb
      · rw [hno b hb] at z; cases z
    · by_cases hb : b ∈ cs.map (·.2)
      · exact .inr hb
      · exact absurd (hno b hb) z
  | none =>
    let H : Hp := fun b => if b = a then some (.frz { cls := .type "list", data := .seq vs.toArray } (.lst (ns.map V.int))) else if b ∈ cs.map (·.2) then some (.tbl #[]) else none
    have hat : H a = some (.frz { cls := .type "list", data := .seq vs.toArray } (.lst (ns.map V.int))) := if_pos rfl
    have hin : ∀ b, b ∈ cs.map (·.2) → H b = some (.tbl #[]) := fun b h => (if_neg (show ¬ b = a from fun z => aT (by rw [← z]; exact h))).trans (if_pos h)
    have hno : ∀ b, b ≠ a → b ∉ cs.map (·.2) → H b = none := fun b h1 h2 => (if_neg h1).trans (if_neg h2)
    refine core H (fun p hp => hin _ (memT p hp)) (fun b => ?_) (.inl (.inr ⟨_, hat⟩)) (fun b u z => ?_) (fun b z => ?_) fun _ => hk
    · by_cases hb : b = a
      · exact .inr (.inr ⟨_, _, by rw [hb]; exact hat⟩)
      · by_cases hb2 : b ∈ cs.map (·.2)
        · exact .inr (.inl hb2)
        · exact .inl (hno b hb hb2)
    · by_cases hb : b = a
      · subst hb
        rw [hat] at z; cases z
        exact ⟨ha, by rw [List.length_map]; exact hl, vs, _, rv, ha⟩
      · by_cases hb2 : b ∈ cs.map (·.2)
        · rw [hin b hb2] at z; cases z
          exact isT b hb2
        · rw [hno b hb hb2] at z; cases z
    · by_cases hb : b = a
      · exact .inl hb
      · by_cases hb2 : b ∈ cs.map (·.2)
        · exact .inr hb2
        · exact absurd (hno b hb hb2) z
/-- the goal that the head leaves: tn, the names of the defs that hold generator expressions -/
theorem walk_S {l : PySem.W.OpenLaw} {n k : Nat} {q : Program} {loose : List Str} {XP : (Str → Option Value) → Heap → Prop} {YP : World → Heap → Prop} {d : DefRec} {K : Params → PySem.W.Frag} {x : Str} (tn : List Str)
    (hq : importsNone q = true) (hn : l.most = some n) (hn2 : n ≤ sizeLine) (hdf : d.params.defaults = []) (hr : Room k callerA) (hY : ∀ (w : World) (h : Heap), YP w h → (K w.params).In h)
    (htn : ∀ y ∈ tn, ∃ r, (recsOf q).find? (fun e => e.name == y) = some r)
    (F : ∀ (w : World) (mg : Str → Option Value) (fa : Addr) (h : Heap), (K w.params).In h → h.Ns mainGlobals mg → mg d.name = some (.ref fa) →
      ∃ (fd : FuncData) (cs : List (Addr × Addr)) (sp : Sp), (∀ p ∈ cs, ∃ y ∈ tn, PySem.W.tabIn (K w.params) y = some p) ∧ (∀ p ∈ cs, (K w.params).lookup p.2 = none) ∧ (∀ (s : Shared) (u : Value), BindsTo s fd ⟨[u], []⟩ [(x, u)]) ∧
        (∀ (H : Hp) (a : Addr) (ns : List Int), ns.length ≤ n → (∀ z ∈ ns, Builtin.Int.intBits z ≤ 1048576) → (∀ p ∈ cs, H p.2 = some (.tbl #[])) → SqL (K w.params) H a (ns.map V.int) → sp [.ref a] H (fun v _ => v = .bl true) E0) ∧
        ∀ base : Heap, (K w.params).In base → base.Ns mainGlobals mg → Hsb base → (∀ p ∈ cs, GxR.TabB base mg p.1 p.2) → FnG l.prog w (K w.params) mg base k fa fd [x] sp) :
    PySem.W.WalkO q loose XP YP l.row.toRowW d [] (fun f vs => PySem.call f vs) := by
  refine Att.attach_callB hn hdf fun w s₀ s₁ mg mb fa o pm cd doc a vs ns G Y ho hd hcd hmg hobj hints hlen hbits hg => ?_
  have KX := hY w _ Y
  obtain ⟨fd, cs, sp, ht, nT, hb, hsp, hF⟩ := F w mg fa _ KX G.T.g hmg
  have tabs : ∀ p ∈ cs, PySem.W.CodeHd s₁.heap p.1 p.2 ∧ s₁.heap.get? p.2 = some (PySem.W.tabObj #[]) := fun p hp => by
    obtain ⟨y, hy, e⟩ := ht p hp
    obtain ⟨r, hr⟩ := htn y hy
    exact PySem.W.tab_of (c := p.1) (P := p.2) G.T KX hr e
  exact law_callS KX G.T.g G.T.b G.T.builtins (let ⟨mm, h, _⟩ := (G.T.seer hq).mods; ⟨mm, h⟩) G.T.nolimit hg (fun p hp => (tabs p hp).2) nT (fun p hp => (tabs p hp).1) G.T.bmain hobj hints (Nat.le_trans hlen hn2) hr hF hb (fun H hH hS => hsp H a ns hlen hbits hH hS)
end Kz
set_option Elab.async false
set_option linter.all false
set_option maxRecDepth 100000
set_option maxHeartbeats 4000000
/-! Kz: data of all kinds, within bounds -/
namespace Kz
open PySem PySem.Spec PyProof.Rows L2
/-- letters below 128 -/
def asc (x : Str) : Bool := x.cps.toList.all fun c => decide (c < 128)
mutual
/-- ints below B in size, texts of such letters -/
def lf (B : Nat) : PyData → Bool
  | .none => true
  | .bool _ => true
  | .int i => decide (i.natAbs ≤ B)
  | .str x => asc x
  | .list ds => lfA B ds
  | .tuple ds => lfA B ds
  | .dict ps => lfK B ps
def lfA (B : Nat) : List PyData → Bool
  | [] => true
  | d :: ds => lf B d && lfA B ds
def lfK (B : Nat) : List (PyData × PyData) → Bool
  | [] => true
  | (a, b) :: r => lf B a && lf B b && lfK B r
end
mutual
theorem lf_mono {B C : Nat} (h : B ≤ C) : ∀ d : PyData, lf B d = true → lf C d = true
  | .none, _ => rfl
  | .bool _, _ => rfl
  | .int i, q => by
    simp only [lf, decide_eq_true_eq] at q ⊢
    omega
  | .str x, q => by simpa only [lf] using q
  | .list ds, q => by simp only [lf] at q ⊢; exact lfA_mono h ds q
  | .tuple ds, q => by simp only [lf] at q ⊢; exact lfA_mono h ds q
  | .dict ps, q => by simp only [lf] at q ⊢; exact lfK_mono h ps q
theorem lfA_mono {B C : Nat} (h : B ≤ C) : ∀ ds : List PyData, lfA B ds = true → lfA C ds = true
  | [], _ => rfl
  | d :: ds, q => by
    simp only [lfA, Bool.and_eq_true] at q ⊢
    exact ⟨lf_mono h d q.1, lfA_mono h ds q.2⟩
theorem lfK_mono {B C : Nat} (h : B ≤ C) : ∀ ps : List (PyData × PyData), lfK B ps = true → lfK C ps = true
  | [], _ => rfl
  | (a, b) :: r, q => by
    simp only [lfK, Bool.and_eq_true] at q ⊢
    exact ⟨⟨lf_mono h a q.1.1, lf_mono h b q.1.2⟩, lfK_mono h r q.2⟩
end
theorem asc_lt {x : Str} (h : asc x = true) : (x.cps.toList.all fun c => decide (c < 16 ^ 8)) = true := by
  unfold asc at h
  rw [List.all_eq_true] at h ⊢
  intro c hc
  have := of_decide_eq_true (h c hc)
  exact decide_eq_true (by omega)
mutual
theorem lf_short {B : Nat} (h : B < 2 ^ 190) : ∀ d : PyData, lf B d = true → d.leavesShort 100 = true ∧ d.showable = true
  | .none, _ => ⟨rfl, rfl⟩
  | .bool _, _ => ⟨rfl, rfl⟩
  | .int i, q => by
    simp only [lf, decide_eq_true_eq] at q
    have hi : i.natAbs < 2 ^ 190 := by omega
    simp only [PyData.leavesShort, PyData.showable, decide_eq_true_eq]
    exact ⟨shl hi, shb hi⟩
  | .str x, q => by
    simp only [lf] at q
    simp only [PyData.leavesShort, PyData.showable]
    exact ⟨asc_lt q, trivial⟩
  | .list ds, q => by
    simp only [lf] at q
    simp only [PyData.leavesShort, PyData.showable]
    exact lfA_short h ds q
  | .tuple ds, q => by
    simp only [lf] at q
    simp only [PyData.leavesShort, PyData.showable]
    exact lfA_short h ds q
  | .dict ps, q => by
    simp only [lf] at q
    simp only [PyData.leavesShort, PyData.showable]
    exact lfK_short h ps q
theorem lfA_short {B : Nat} (h : B < 2 ^ 190) : ∀ ds : List PyData, lfA B ds = true → PyData.leavesShortAll 100 ds = true ∧ PyData.showableAll ds = true
  | [], _ => ⟨rfl, rfl⟩
  | d :: ds, q => by
    simp only [lfA, Bool.and_eq_true] at q
    have h1 := lf_short h d q.1
    have h2 := lfA_short h ds q.2
    simp only [PyData.leavesShortAll, PyData.showableAll, Bool.and_eq_true]
    exact ⟨⟨h1.1, h2.1⟩, h1.2, h2.2⟩
theorem lfK_short {B : Nat} (h : B < 2 ^ 190) : ∀ ps : List (PyData × PyData), lfK B ps = true → PyData.leavesShortKv 100 ps = true ∧ PyData.showableKv ps = true
  | [], _ => ⟨rfl, rfl⟩
  | (a, b) :: r, q => by
    simp only [lfK, Bool.and_eq_true] at q
    have h1 := lf_short h a q.1.1
    have h2 := lf_short h b q.1.2
    have h3 := lfK_short h r q.2
    simp only [PyData.leavesShortKv, PyData.showableKv, Bool.and_eq_true]
    exact ⟨⟨⟨h1.1, h2.1⟩, h3.1⟩, ⟨h1.2, h2.2⟩, h3.2⟩
end
/-- a datum of any kind: its ints, its depth, its bulk -/
structure Kd (B m b : Nat) (d : PyData) : Prop where
  lf : lf B d = true
  dp : d.depth ≤ m
  bk : d.bulk ≤ b
structure KdL (B m b : Nat) (ds : List PyData) : Prop where
  lf : lfA B ds = true
  dp : PyData.depthAll ds ≤ m
  bk : PyData.bulkAll ds ≤ b
theorem Kd.mono {B m b B' m' b' : Nat} {d : PyData} (h : Kd B m b d) (h1 : B ≤ B' := by omega) (h2 : m ≤ m' := by omega) (h3 : b ≤ b' := by omega) : Kd B' m' b' d := ⟨lf_mono h1 d h.lf, Nat.le_trans h.dp h2, Nat.le_trans h.bk h3⟩
theorem KdL.mono {B m b B' m' b' : Nat} {d : List PyData} (h : KdL B m b d) (h1 : B ≤ B' := by omega) (h2 : m ≤ m' := by omega) (h3 : b ≤ b' := by omega) : KdL B' m' b' d := ⟨lfA_mono h1 d h.lf, Nat.le_trans h.dp h2, Nat.le_trans h.bk h3⟩
theorem Kd.shv {B m b : Nat} {d : PyData} (h : Kd B m b d) (hB : B < 2 ^ 190) (hm : m ≤ 20) (hb : b ≤ 10000) : Shv d := by
  have hs := lf_short hB d h.lf
  refine ⟨hs.2, Nat.le_trans h.dp hm, ?_⟩
  have h1 := PyData.shown_le_bulk 100 (by decide) d hs.1
  have h2 := h.bk
  have h3 : (100 + 2) * d.bulk + 100 ≤ 2000000 := by omega
  exact Nat.le_trans h1 (Nat.le_trans h3 (by decide))
theorem kd_none {B m b : Nat} : Kd B m b .none := ⟨rfl, by simp [PyData.depth], by simp [PyData.bulk]⟩
theorem kd_bool {B m b : Nat} (c : Bool) : Kd B m b (.bool c) := ⟨rfl, by simp [PyData.depth], by simp [PyData.bulk]⟩
theorem kd_int {B m b : Nat} {i : Int} (h : i.natAbs ≤ B) : Kd B m b (.int i) := ⟨by simp only [Kz.lf, decide_eq_true_eq]; exact h, by simp [PyData.depth], by simp [PyData.bulk]⟩
theorem kd_str {B m b : Nat} {x : Str} (h : asc x = true) (hb : x.cps.size ≤ b) : Kd B m b (.str x) := ⟨by simpa only [Kz.lf] using h, by simp [PyData.depth], by simpa [PyData.bulk] using hb⟩
theorem kd_tup {B m b : Nat} {ds : List PyData} : Kd B (m + 1) b (.tuple ds) ↔ KdL B m b ds := by
  constructor
  · intro h
    exact ⟨by simpa only [Kz.lf] using h.lf, by have := h.dp; simp only [PyData.depth] at this; omega, by simpa only [PyData.bulk] using h.bk⟩
  · intro h
    exact ⟨by simpa only [Kz.lf] using h.lf, by have := h.dp; simp only [PyData.depth]; omega, by simpa only [PyData.bulk] using h.bk⟩
theorem kd_lst {B m b : Nat} {ds : List PyData} : Kd B (m + 1) b (.list ds) ↔ KdL B m b ds := by
  constructor
  · intro h
    exact ⟨by simpa only [Kz.lf] using h.lf, by have := h.dp; simp only [PyData.depth] at this; omega, by simpa only [PyData.bulk] using h.bk⟩
  · intro h
    exact ⟨by simpa only [Kz.lf] using h.lf, by have := h.dp; simp only [PyData.depth]; omega, by simpa only [PyData.bulk] using h.bk⟩
theorem kd_tup0 {B b : Nat} {ds : List PyData} : ¬ Kd B 0 b (.tuple ds) := fun h => by
  have := h.dp
  simp only [PyData.depth] at this
  omega
theorem kdl_nil {B m b : Nat} : KdL B m b [] := ⟨rfl, by simp [PyData.depthAll], by simp [PyData.bulkAll]⟩
theorem kdl_cons {B m b c : Nat} {d : PyData} {ds : List PyData} (h : Kd B m b d) (k : KdL B m c ds) : KdL B m (b + 1 + c) (d :: ds) :=
  ⟨by simp only [lfA, Bool.and_eq_true]; exact ⟨h.lf, k.lf⟩, by have := h.dp; have := k.dp; simp only [PyData.depthAll]; omega, by have := h.bk; have := k.bk; simp only [PyData.bulkAll]; omega⟩
theorem kdl_inv {B m b : Nat} {d : PyData} {ds : List PyData} (h : KdL B m b (d :: ds)) : ∃ c e, Kd B m c d ∧ KdL B m e ds ∧ c + 1 + e ≤ b := by
  have h1 := h.lf
  have h2 := h.dp
  have h3 := h.bk
  simp only [lfA, Bool.and_eq_true] at h1
  simp only [PyData.depthAll] at h2
  simp only [PyData.bulkAll] at h3
  exact ⟨d.bulk, PyData.bulkAll ds, ⟨h1.1, by omega, Nat.le_refl _⟩, ⟨h1.2, by omega, Nat.le_refl _⟩, h3⟩
theorem kdl_len {B m : Nat} : ∀ {ds : List PyData} {b : Nat}, KdL B m b ds → ds.length ≤ b
  | [], _, _ => Nat.zero_le _
  | d :: ds, b, h => by
    obtain ⟨c, e, _, h2, h3⟩ := kdl_inv h
    have := kdl_len h2
    rw [List.length_cons]; omega
theorem kdl_app {B m : Nat} : ∀ {ds es : List PyData} {b c : Nat}, KdL B m b ds → KdL B m c es → KdL B m (b + c) (ds ++ es)
  | [], es, b, c, _, k => k.mono
  | d :: ds, es, b, c, h, k => by
    obtain ⟨b1, b2, h1, h2, h3⟩ := kdl_inv h
    exact (kdl_cons h1 (kdl_app h2 k)).mono
theorem kdl_split {B m : Nat} : ∀ {ds es : List PyData} {b : Nat}, KdL B m b (ds ++ es) → ∃ c e, KdL B m c ds ∧ KdL B m e es ∧ c + e ≤ b
  | [], es, b, h => ⟨0, b, kdl_nil, h, by omega⟩
  | d :: ds, es, b, h => by
    obtain ⟨b1, b2, h1, h2, h3⟩ := kdl_inv h
    obtain ⟨c, e, k1, k2, k3⟩ := kdl_split h2
    exact ⟨b1 + 1 + c, e, kdl_cons h1 k1, k2, by omega⟩
theorem kdl_take {B m b : Nat} {ds : List PyData} (n : Nat) (h : KdL B m b ds) : KdL B m b (ds.take n) := by
  rw [← List.take_append_drop n ds] at h
  obtain ⟨c, e, k1, _, _⟩ := kdl_split h
  exact k1.mono
theorem kdl_drop {B m b : Nat} {ds : List PyData} (n : Nat) (h : KdL B m b ds) : KdL B m b (ds.drop n) := by
  rw [← List.take_append_drop n ds] at h
  obtain ⟨c, e, _, k2, _⟩ := kdl_split h
  exact k2.mono
theorem kdl_mem {B m b : Nat} {ds : List PyData} {d : PyData} (h : KdL B m b ds) (hd : d ∈ ds) : Kd B m b d := by
  obtain ⟨l, r, rfl⟩ := List.append_of_mem hd
  obtain ⟨c, e, _, k2, _⟩ := kdl_split h
  obtain ⟨b1, b2, h1, _, _⟩ := kdl_inv k2
  exact h1.mono
theorem kdl_rev {B m : Nat} : ∀ {ds : List PyData} {b : Nat}, KdL B m b ds → KdL B m b ds.reverse
  | [], b, _ => by simpa using (kdl_nil (B := B) (m := m) (b := b))
  | d :: ds, b, h => by
    obtain ⟨b1, b2, h1, h2, h3⟩ := kdl_inv h
    rw [List.reverse_cons]
    exact (kdl_app (kdl_rev h2) (kdl_cons h1 (kdl_nil (b := 0)))).mono
theorem kdl_all {B m b : Nat} : ∀ {ds : List PyData}, (∀ d ∈ ds, Kd B m b d) → KdL B m (ds.length * (b + 1)) ds
  | [], _ => kdl_nil
  | d :: ds, h => by
    have := kdl_cons (h d (by simp)) (kdl_all fun e he => h e (List.mem_cons_of_mem _ he))
    exact this.mono (h3 := by rw [List.length_cons, Nat.add_mul]; omega)
/-- item by item no greater -/
theorem kdl_map {B m : Nat} : ∀ {ds es : List PyData} {b : Nat}, KdL B m b ds → es.length = ds.length → (∀ (i : Nat) (d e : PyData) (c : Nat), ds[i]? = some d → es[i]? = some e → Kd B m c d → Kd B m c e) → KdL B m b es
  | [], es, b, _, hl, _ => by
    rw [List.length_eq_zero_iff.mp hl]; exact kdl_nil
  | d :: ds, [], b, _, hl, _ => by cases hl
  | d :: ds, e :: es, b, h, hl, k => by
    obtain ⟨b1, b2, h1, h2, h3⟩ := kdl_inv h
    exact (kdl_cons (k 0 d e b1 rfl rfl h1) (kdl_map h2 (by simpa using hl) fun i d e c g1 g2 => k (i + 1) d e c g1 g2)).mono
theorem kdl_ints {B m b : Nat} {l : List Int} (h : ∀ x ∈ l, x.natAbs ≤ B) (hb : l.length ≤ b) : KdL B m b (l.map .int) := by
  have := kdl_all (B := B) (m := m) (b := 0) (ds := l.map .int) fun d hd => by
    obtain ⟨x, hx, rfl⟩ := List.mem_map.mp hd
    exact kd_int (h x hx)
  exact this.mono (h3 := by rw [List.length_map]; omega)
theorem kd_row {B m b : Nat} {l : List Int} (h : ∀ x ∈ l, x.natAbs ≤ B) (hb : l.length ≤ b) : Kd B (m + 1) b (rowD l) := kd_tup.mpr (kdl_ints h hb)
theorem kd_mat {B m n b : Nat} {r : Mat} (h : ∀ l ∈ r, ∀ x ∈ l, x.natAbs ≤ B) (hn : ∀ l ∈ r, l.length ≤ n) (hb : r.length * (n + 1) ≤ b) : Kd B (m + 2) b (matD r) := by
  refine kd_tup.mpr ((kdl_all (B := B) (m := m + 1) (b := n) fun d hd => ?_).mono (h3 := by rw [List.length_map]; exact hb))
  obtain ⟨l, hl, rfl⟩ := List.mem_map.mp hd
  exact kd_row (h l hl) (hn l hl)
theorem kd_matInv {B m b : Nat} {r : Mat} (h : Kd B m b (matD r)) : ∀ l ∈ r, ∀ x ∈ l, x.natAbs ≤ B := fun l hl x hx => by
  cases m with
  | zero => exact absurd h kd_tup0
  | succ m =>
    have h1 := kdl_mem (kd_tup.mp h) (List.mem_map_of_mem (f := rowD) hl)
    cases m with
    | zero => exact absurd h1 kd_tup0
    | succ m =>
      have h2 := (kdl_mem (kd_tup.mp h1) (List.mem_map_of_mem (f := PyData.int) hx)).lf
      simpa only [Kz.lf, decide_eq_true_eq] using h2
/-! texts -/
theorem asc_ok {l : List Nat} (h : ∀ c ∈ l, c < 128) : asc ⟨l.toArray⟩ = true := by
  unfold asc
  rw [List.all_eq_true]
  intro c hc
  exact decide_eq_true (h c (by simpa using hc))
theorem asc_get {x : Str} (h : asc x = true) : ∀ c ∈ x.cps.toList, c < 128 := fun c hc => of_decide_eq_true (List.all_eq_true.mp h c hc)
theorem asc_app {x y : Str} (h : asc x = true) (k : asc y = true) : asc (x ++ y) = true := by
  unfold asc
  rw [List.all_eq_true]
  intro c hc
  have e : (x ++ y).cps.toList = x.cps.toList ++ y.cps.toList := by
    show (x.cps ++ y.cps).toList = _
    simp
  rw [e, List.mem_append] at hc
  exact decide_eq_true (hc.elim (asc_get h c) (asc_get k c))
theorem size_app (x y : Str) : (x ++ y).cps.size = x.cps.size + y.cps.size := by
  show (x.cps ++ y.cps).size = _
  simp
end Kz
set_option Elab.async false
set_option linter.all false
set_option maxRecDepth 100000
set_option maxHeartbeats 4000000
namespace Kz
open PySem PySem.Spec PyProof.Rows L2
section
variable {p : Pm} {ρ : Rho} {ta : TE}
theorem ii_rngX {k : Int} (hk : k < 2 ^ 62) (h : Ex p ta ρ (DrawR k)) : Ii p (iRng1 (tCons ta tNil)) ρ (fun ds => ∃ r : Int, 0 ≤ r ∧ r < k ∧ ds = rngD 0 r.toNat) := fun H0 O σ H e R q => by
  refine h H0 O σ H e _ fun v H2 d k2 o2 hd ⟨r, er, q1, q2⟩ => ?_
  subst er
  cases hd
  exact ⟨r, rfl, by omega, by omega, q _ H2 _ k2 o2 ⟨r, q1, q2, rfl⟩ wk_rng⟩
end
abbrev sForm : Stmt := topS 49
theorem scForm : FnScope ["deck", "n", "most", "form", "turn", "near"] ["deck", "n", "most"] (defScope sForm) := ⟨rfl, rfl, rfl, by decide +kernel, rfl, by decide +kernel, by decide +kernel⟩
theorem sm_of {n : Nat} {r : Mat} (s : Sq n r) (hn : n ≤ 3) : Sm r := ⟨by have := s.h; omega, fun l hl => by rw [s.w l hl]; omega⟩
theorem bd30 {r : Mat} (h : ∀ l ∈ r, ∀ x ∈ l, x.natAbs ≤ 30) : Bd 1000 r := fun l hl x hx => lt1000 (Nat.le_trans (h l hl x hx) (by decide))
section
variable {P : Program} {w : World} {K : PySem.W.Frag} {mg : Str → Option Value} {base : Heap}
abbrev spForm : Sp := deckSp [] 2 (G := Nat × Int) (fun g => [.int (g.1 : Int), .int g.2]) (fun g => (1 ≤ g.1 ∧ g.1 ≤ 3) ∧ g.2 ≤ 1000) (fun g d => ∃ r, d = matD r ∧ LowF g.1 r)
theorem ok_form (B : Bn mg) {f : Addr} {fd : FuncData} (F : Fun K "_law_form" "_law_form" sForm f fd) (C : Cl P w K mg base "_law_draw" ["deck", "many"] 1 spDraw) (C2 : Cl P w K mg base "_law_plain_form" ["deck", "n"] 6 spPlain) (C3 : Cl P w K mg base "_law_change" ["deck", "n", "many"] 3 spChange) (C4 : Cl P w K mg base "_law_changed" ["form", "change"] 2 spLChd) (C5 : Cl P w K mg base "_law_is_low" ["form", "most"] 1 spLLow) : FnOk P w K mg base CX0 7 f fd ["deck", "n", "most"] spForm := by
  refine ok_deck F scForm rfl (by decide) fun cdv A outer s H E hr => ⟨_, pss_cons (ps_set (i := 3) scForm.nd rfl (.inl rfl) (pCall C2 hr (by decide) (pa_cons (pv 0) (pa_cons (pv 1) pa_nil))))
    (pss_cons (ps_for PassesOwn.never rfl (piR B (pCall C hr (by decide) (pa_cons (pv 0) (pa_cons pe_int pa_nil)))) (gN 4 scForm.nd)
      (pss_cons (ps_set (i := 5) scForm.nd rfl (.inl rfl) (pCall C4 hr (by decide) (pa_cons (pv 3) (pa_cons (pCall C3 hr (by decide) (pa_cons (pv 0) (pa_cons (pv 1) (pa_cons (pe_op op_add pe_int (pCall C hr (by decide) (pa_cons (pv 0) (pa_cons pe_int pa_nil)))) pa_nil)))) pa_nil))))
        (pss_one (ps_if (pt_val (pCall C5 hr (by decide) (pa_cons (pv 5) (pa_cons (pv 2) pa_nil)))) (pss_one (ps_set (i := 3) scForm.nd rfl (.inl rfl) (pv 5))) pss_nil))))
      (pss_one (ps_ret (pv 3)))), fun S dk cl h1 h2 g hg => ?_⟩
  obtain ⟨n, most⟩ := g
  obtain ⟨⟨hn1, hn3⟩, hmost⟩ := hg
  dsimp only at hn1 hn3 hmost
  have dr : ∀ (k : Int) (ρ' : Rho), ρ'[0]? = some (some (.raw (.ref dk))) → 0 < k → k < 1073741824 → Ex (dPm S dk cl h1 h2 []) (tCall spDraw [] E0 (tCons (tVar 0) (tCons (tC (.int k)) tNil))) ρ' (DrawR k) := fun k ρ' h a b => ex_callD k h (ea_one ex_int) rfl ⟨a, b⟩ (by simp)
  refine rn_setX_ (P := fun d => ∃ r, d = matD r ∧ LowF n r) (ex_callD n rfl (ea_one (ex_var rfl)) rfl ⟨hn1, hn3⟩ (by simp)) ?_
  rintro d ⟨r0, rfl, hr0⟩
  refine rn_seq (Nm := fun ρ => ∃ r a4 a5, LowF n r ∧ ρ = [some (.raw (.ref dk)), some (.dat (.int (n : Int))), some (.dat (.int most)), some (.dat (matD r)), a4, a5]) (rn_for (fun ds t ρ => ∃ r a4 a5, LowF n r ∧ ρ = [some (.raw (.ref dk)), some (.dat (.int (n : Int))), some (.dat (.int most)), some (.dat (matD r)), a4, a5]) (ii_rngX (by decide) (dr 3 _ rfl (by decide) (by decide))) (fun ds e => ⟨r0, _, _, hr0, rfl⟩) (fun ds t d ρ e hd iv => ?_) (fun ds ρ e iv => iv)) ?_
  · obtain ⟨r, a4, a5, hr', rfl⟩ := iv
    obtain ⟨tt, e1, e2, rfl⟩ := e
    obtain ⟨ht, rfl⟩ := rngD_get hd
    refine ⟨_, _, tg_name, ?_⟩
    refine rn_setX_ (P := fun d => ∃ c, d = matD (chM r c) ∧ ChM n c) ?_ ?_
    · refine Ex.imp (ex_callGX (G := Mat × Mat) (enc := fun g => [matD g.1, matD g.2]) (ok := fun g => (Bd 1000 g.1 ∧ Bd 1000 g.2) ∧ Sm g.1 ∧ g.2.length ≤ 64) (R := fun g d => d = matD (chM g.1 g.2)) (Pa := fun l => ∃ d r', l = d :: r' ∧ d = matD r ∧ ∃ d2, r' = [d2] ∧ ∃ c, d2 = matD c ∧ ChM n c) (ea_cons (P := (· = matD r)) (ex_var rfl) (ea_oneX (P := fun d2 => ∃ c, d2 = matD c ∧ ChM n c) ?_)) ?_ (by simp)) ?_
      · refine Ex.imp (ex_callDX (G := Nat × Nat) (enc := fun g => [.int (g.1 : Int), .int (g.2 : Int)]) (ok := fun g => 1 ≤ g.1 ∧ g.1 ≤ 3 ∧ g.2 ≤ 1000) (R := fun g d => ∃ c, d = matD c ∧ ChM g.1 c) (Pa := fun l => ∃ d r', l = d :: r' ∧ d = .int (n : Int) ∧ ∃ d2, r' = [d2] ∧ ∃ y : Int, d2 = .int y ∧ 1 ≤ y ∧ y ≤ 4) rfl (ea_cons (P := (· = .int (n : Int))) (ex_var rfl) (ea_oneX (P := fun d2 => ∃ y : Int, d2 = .int y ∧ 1 ≤ y ∧ y ≤ 4) (Ex.imp (ex_I1 (g := fun i j => i + j) (P1 := (· = 1)) (P2 := fun y => 0 ≤ y ∧ y < 4) (ex_toI ex_int) (dr 4 _ rfl (by decide) (by decide))) fun d ⟨a, b, e1, e2, e3⟩ => ⟨_, e3, by subst e1; omega⟩))) ?_ (by simp)) ?_
        · rintro ds ⟨d, r', rfl, rfl, d2, rfl, y, rfl, y1, y2⟩
          exact ⟨(n, y.toNat), by simp; omega, rfl, hn1, hn3, by show y.toNat ≤ 1000; omega⟩
        · rintro d ⟨g, ⟨d1, r1, e1, e2, d2, e3, y, e4, _⟩, c, ec, hc⟩
          refine ⟨c, ec, ?_⟩
          injection e1 with e1 _
          rw [e2] at e1
          injection e1 with e1
          have : g.1 = n := by omega
          rw [← this]; exact hc
      · rintro ds ⟨d, r', rfl, rfl, d2, rfl, c, rfl, hc⟩
        exact ⟨(r, c), rfl, rfl, ⟨bd1000 hr'.b, bd30 hc.b⟩, sm_of hr'.f.s hn3, by have := hc.s.h; show c.length ≤ 64; omega⟩
      · rintro d ⟨g, ⟨d1, r1, e1, e2, d2, e3, c, e4, hc⟩, _, e5⟩
        injection e1 with q1 q2
        rw [e2] at q1
        have g1 := matD_inj q1
        rw [e3] at q2
        injection q2 with q2 _
        rw [e4] at q2
        have g2 := matD_inj q2
        exact ⟨c, by rw [e5, g1, g2], hc⟩
    · rintro d ⟨c, rfl, hc⟩
      have fm := form_ch hr'.f hc
      refine rn_ifX (P := fun b => b = true → ∀ l ∈ chM r c, ∀ x ∈ l, (x.natAbs : Int) ≤ most) (et_testX (P := fun d => ∃ b, d = .bool b ∧ (b = true → ∀ l ∈ chM r c, ∀ x ∈ l, (x.natAbs : Int) ≤ most)) (ex_callG (chM r c, most) (ea_consD (ex_var rfl) (ea_one (ex_var rfl))) rfl ⟨fun z => ?_, fun l hl z => ?_, sm_of fm.s hn3⟩ (by simp)) fun d h => h) (fun h => ?_) fun _ => rn_next ⟨r, _, _, hr', rfl⟩
      · have := fm.s.h
        rw [show chM r c = [] from z] at this
        simp at this
        omega
      · have := fm.s.w l hl
        rw [z] at this
        simp at this
        omega
      · exact rn_set (ex_var rfl) ⟨chM r c, _, _, ⟨fm, fun l hl x hx => by have := h rfl l hl x hx; omega⟩, rfl⟩
  · rintro ρ ⟨r, a4, a5, hr', rfl⟩
    exact rn_ret (ex_var rfl) ⟨r, rfl, hr'⟩
end
end Kz
set_option Elab.async false
set_option linter.all false
set_option maxRecDepth 100000
set_option maxHeartbeats 4000000
namespace Kz
open PySem PySem.Spec PyProof.Rows L2
/-! leans: the identities -/
structure Vc (n : Nat) (x : List Int) : Prop where
  l : x.length = n
  b : ∀ e ∈ x, e.natAbs ≤ 2 ^ 40
theorem vc1 {x : List Int} (h : x.length = 1) : ∃ a, x = [a] := by
  match x, h with
  | [a], _ => exact ⟨a, rfl⟩
theorem vc2 {x : List Int} (h : x.length = 2) : ∃ a b, x = [a, b] := by
  match x, h with
  | [a, b], _ => exact ⟨a, b, rfl⟩
theorem vc3 {x : List Int} (h : x.length = 3) : ∃ a b c, x = [a, b, c] := by
  match x, h with
  | [a, b, c], _ => exact ⟨a, b, c, rfl⟩
theorem lean_comm {n : Nat} {r : Mat} (f : FormM n r) {x y : List Int} (hx : x.length = n) (hy : y.length = n) : leanM r x y = leanM r y x := by
  have h1 := f.lo
  have h2 := f.hi
  have : n = 1 ∨ n = 2 ∨ n = 3 := by omega
  rcases this with rfl | rfl | rfl
  · obtain ⟨a, rfl, _⟩ := form1_inv f
    obtain ⟨u, rfl⟩ := vc1 hx
    obtain ⟨v, rfl⟩ := vc1 hy
    simp [leanM, dot]; grind
  · obtain ⟨a, b, d, rfl, _⟩ := form2_inv f
    obtain ⟨u, u', rfl⟩ := vc2 hx
    obtain ⟨v, v', rfl⟩ := vc2 hy
    simp [leanM, dot]; grind
  · obtain ⟨a, b, c, e, f', i, rfl, _⟩ := form3_inv f
    obtain ⟨u, u', u2, rfl⟩ := vc3 hx
    obtain ⟨v, v', v2, rfl⟩ := vc3 hy
    simp [leanM, dot]; grind
theorem lean_add {n : Nat} {r : Mat} (f : FormM n r) {x z y : List Int} (hx : x.length = n) (hz : z.length = n) (hy : y.length = n) : leanM r (List.zipWith (fun a b => a + b) x z) y = leanM r x y + leanM r z y := by
  have h1 := f.lo
  have h2 := f.hi
  have : n = 1 ∨ n = 2 ∨ n = 3 := by omega
  rcases this with rfl | rfl | rfl
  · obtain ⟨a, rfl, _⟩ := form1_inv f
    obtain ⟨u, rfl⟩ := vc1 hx
    obtain ⟨v, rfl⟩ := vc1 hy
    obtain ⟨w, rfl⟩ := vc1 hz
    simp [leanM, dot]; grind
  · obtain ⟨a, b, d, rfl, _⟩ := form2_inv f
    obtain ⟨u, u', rfl⟩ := vc2 hx
    obtain ⟨v, v', rfl⟩ := vc2 hy
    obtain ⟨w, w', rfl⟩ := vc2 hz
    simp [leanM, dot]; grind
  · obtain ⟨a, b, c, e, f', i, rfl, _⟩ := form3_inv f
    obtain ⟨u, u', u2, rfl⟩ := vc3 hx
    obtain ⟨v, v', v2, rfl⟩ := vc3 hy
    obtain ⟨w, w', w2, rfl⟩ := vc3 hz
    simp [leanM, dot]; grind
theorem lean_scale {n : Nat} {r : Mat} (f : FormM n r) {x y : List Int} (k : Int) (hx : x.length = n) (hy : y.length = n) : leanM r (x.map fun a => k * a) y = k * leanM r x y := by
  have h1 := f.lo
  have h2 := f.hi
  have : n = 1 ∨ n = 2 ∨ n = 3 := by omega
  rcases this with rfl | rfl | rfl
  · obtain ⟨a, rfl, _⟩ := form1_inv f
    obtain ⟨u, rfl⟩ := vc1 hx
    obtain ⟨v, rfl⟩ := vc1 hy
    simp [leanM, dot]; grind
  · obtain ⟨a, b, d, rfl, _⟩ := form2_inv f
    obtain ⟨u, u', rfl⟩ := vc2 hx
    obtain ⟨v, v', rfl⟩ := vc2 hy
    simp [leanM, dot]; grind
  · obtain ⟨a, b, c, e, f', i, rfl, _⟩ := form3_inv f
    obtain ⟨u, u', u2, rfl⟩ := vc3 hx
    obtain ⟨v, v', v2, rfl⟩ := vc3 hy
    simp [leanM, dot]; grind
theorem size_add {n : Nat} {r : Mat} (f : FormM n r) {x z : List Int} (hx : x.length = n) (hz : z.length = n) : leanM r (List.zipWith (fun a b => a + b) x z) (List.zipWith (fun a b => a + b) x z) = leanM r x x + leanM r z z + 2 * leanM r x z := by
  have hl : (List.zipWith (fun a b => a + b) x z).length = n := by rw [List.length_zipWith]; omega
  rw [lean_add f hx hz hl, lean_comm f hx hl, lean_comm f hz hl, lean_add f hx hz hx, lean_add f hx hz hz, lean_comm f hz hx]
  omega
theorem size_scale {n : Nat} {r : Mat} (f : FormM n r) {x : List Int} (k : Int) (hx : x.length = n) : leanM r (x.map fun a => k * a) (x.map fun a => k * a) = k * k * leanM r x x := by
  have hl : (x.map fun a => k * a).length = n := by rw [List.length_map]; exact hx
  rw [lean_scale f k hx hl, lean_comm f hx hl, lean_scale f k hx hx]
  grind
theorem axes_form {n : Nat} {r : Mat} (f : FormM n r) : chM r (unitM n) = r := by
  have h1 := f.lo
  have h2 := f.hi
  have : n = 1 ∨ n = 2 ∨ n = 3 := by omega
  rcases this with rfl | rfl | rfl
  · obtain ⟨a, rfl, _⟩ := form1_inv f
    simp [chM, unitM, leanM, dot, List.range_succ]
  · obtain ⟨a, b, d, rfl, _⟩ := form2_inv f
    simp [chM, unitM, leanM, dot, List.range_succ]
  · obtain ⟨a, b, c, e, f', i, rfl, _⟩ := form3_inv f
    simp [chM, unitM, leanM, dot, List.range_succ]
theorem lean_bd {n : Nat} {r : Mat} (f : LowF n r) {x y : List Int} (hx : Vc n x) (hy : Vc n y) : (leanM r x y).natAbs < 2 ^ 110 := by
  have hn := f.f.hi
  have hd : ∀ row ∈ r, (dot row y).natAbs ≤ 3 * (1000 * 2 ^ 40) := fun row hr => by
    have h : ∀ e ∈ List.zipWith (· * ·) row y, e.natAbs ≤ 1000 * 2 ^ 40 := fun e he => by
      obtain ⟨i, hi, rfl⟩ := List.mem_iff_getElem.mp he
      rw [List.getElem_zipWith, Int.natAbs_mul]
      exact Nat.mul_le_mul (f.b row hr _ (List.getElem_mem _)) (hy.b _ (List.getElem_mem _))
    have h2 := sum_bd h
    have h3 : (List.zipWith (· * ·) row y).length ≤ 3 := by rw [List.length_zipWith, hy.l]; omega
    exact Nat.le_trans h2 (Nat.mul_le_mul_right _ h3)
  have h : ∀ e ∈ List.zipWith (fun row a => a * dot row y) r x, e.natAbs ≤ 2 ^ 40 * (3 * (1000 * 2 ^ 40)) := fun e he => by
    obtain ⟨i, hi, rfl⟩ := List.mem_iff_getElem.mp he
    rw [List.getElem_zipWith, Int.natAbs_mul]
    exact Nat.mul_le_mul (hx.b _ (List.getElem_mem _)) (hd _ (List.getElem_mem _))
  have h2 := sum_bd h
  have h3 : (List.zipWith (fun row a => a * dot row y) r x).length ≤ 3 := by rw [List.length_zipWith, hx.l]; omega
  refine Nat.lt_of_le_of_lt (Nat.le_trans h2 (Nat.mul_le_mul_right _ h3)) ?_
  decide +kernel
theorem b40 {e : Int} (h : e.natAbs ≤ 2 ^ 40) : e.natAbs < 2 ^ 1000 := Nat.lt_of_le_of_lt h (Nat.pow_lt_pow_right (by decide) (by decide))
theorem okF {n : Nat} {r : Mat} (f : LowF n r) : OkF (n, r) := ⟨f.f, bd1000 f.b⟩
theorem okL {n : Nat} {r : Mat} (f : LowF n r) {x y : List Int} (hx : Vc n x) (hy : Vc n y) : OkL (n, r, x, y) := ⟨okF f, hx.l, fun e he => b40 (hx.b e he), hy.l, fun e he => b40 (hy.b e he)⟩
theorem okS {n : Nat} {r : Mat} (f : LowF n r) {x : List Int} (hx : Vc n x) : OkS (n, r, x) := ⟨okF f, hx.l, fun e he => b40 (hx.b e he)⟩
theorem okLL {n : Nat} {r : Mat} (f : LowF n r) {x y : List Int} (hx : Vc n x) (hy : Vc n y) : OkLL (r, x, y) := ⟨⟨bd1000 f.b, fun e he => b40 (hx.b e he), fun e he => b40 (hy.b e he)⟩, sm_of f.f.s f.f.hi⟩
theorem ed_lstS {p : Pm} {ρ : Rho} {t : TA} {ds : List PyData} (h : Ea p t ρ (· = ds)) (hs : ds.length ≤ 1000 := by simp) : Ed p (tLst t) ρ (.list ds) := ed_lst h hs
/-! keywords -/
section
variable {P : Program} {w : World} {K : PySem.W.Frag} {mg : Str → Option Value} {base : Heap}
end
end Kz
set_option Elab.async false
set_option linter.all false
set_option maxRecDepth 100000
set_option maxHeartbeats 4000000
/-! Kz: the adjoint, and low_step of any table -/
namespace Kz
open PySem PySem.Spec PyProof.Rows L2
def adjM (m : Nat) (r : Mat) : Mat := (List.range m).map fun i => (List.range m).map fun j => sgn (i + j) (detE (withoutM r j i))
section
variable {P : Program} {w : World} {K : PySem.W.Frag} {mg : Str → Option Value} {base : Heap}
abbrev sAdj : Stmt := topS 13
theorem scAdj : FnScope ["rows", "places", "i", "j"] ["rows"] (defScope sAdj) := ⟨rfl, rfl, rfl, by decide +kernel, rfl, by decide +kernel, by decide +kernel⟩
abbrev spAdj : Sp := pureG [] 1 (G := Nat × Mat) (fun g => [matD g.2]) (fun g => (1 ≤ g.1 ∧ g.1 ≤ 3 ∧ Sq g.1 g.2) ∧ Bd 1000 g.2) (fun g d => d = matD (adjM g.1 g.2))
theorem ok_adj (B : Bn mg) {f : Addr} {fd : FuncData} (F : Fun K "adjoint" "adjoint" sAdj f fd) (C : Cl P w K mg base "determinant" ["rows"] 4 spDetA) (Cw : Cl P w K mg base "without" ["rows", "down", "across"] 1 spWithout) (Cs : Cl P w K mg base "signed" ["place", "number"] 1 spSigned) : FnOk P w K mg base CX0 5 f fd ["rows"] spAdj := by
  refine ok_pureG F scAdj rfl (by decide) fun cdv A outer s H E hr => ⟨_, pss_cons (ps_set (i := 1) scAdj.nd rfl (.inr rfl) (pRange B (pLen B (pv 0))))
    (pss_one (ps_ret (pTuple B (pe_lc (own := [("i", 2)]) rfl scAdj.nd (pi_rv (pv 1)) (blkOk_by (own := [("i", 2)]) (N := ["rows", "places", "i", "j"]) (sc := defScope sAdj) (by decide +kernel)) (fun _ _ _ _ _ => gN 2 scAdj.nd) (fun _ _ _ _ _ => pts_nil)
      (fun _ _ _ _ _ => pTup' K B (pe_lc (own := [("j", 3)]) rfl scAdj.nd (pi_rv (pv 1)) (blkOk_by (own := [("j", 3)]) (N := ["rows", "places", "i", "j"]) (sc := relabel _ (envOfC "" (defScope sAdj) 0 0 .none)) (by decide +kernel)) (fun _ _ _ _ _ => gN 3 scAdj.nd) (fun _ _ _ _ _ => pts_nil)
        (fun _ _ _ _ _ => pCall Cs hr (by decide) (pa_cons (pe_op op_add (pv 2) (pv 3)) (pa_cons (pCall C hr (by decide) (pa_cons (pCall Cw hr (by decide) (pa_cons (pv 0) (pa_cons (pv 3) (pa_cons (pv 2) pa_nil)))) pa_nil)) pa_nil)))))))))
    , fun p g hT hg => ?_⟩
  obtain ⟨m, r⟩ := g
  obtain ⟨⟨h1, h3, sq⟩, bd⟩ := hg
  dsimp only at h1 h3 sq bd
  refine rn_seq (Nm := fun ρ => ρ = [some (.dat (matD r)), some (.rng 0 (m : Int)), none, none]) (rn_rng (ea_one (ed_cb (ea_one (ex_var (d := matD r) rfl)) (bc_len (.t _)))) (by rw [List.length_map, sq.h]; exact rng1_sp) rfl) fun ρ e => ?_
  subst e
  refine rn_ret (d := matD (adjM m r)) (ed_cb (ea_one (ed_lcM ((adjM m r).map rowD) (ii_rv (lo := 0) (hi := (m : Int)) rfl (by omega)) (by rw [rngD_len]; simp [adjM]) (by rw [rngD_len]; omega) fun i d e hd he => ?_)) (bc_tuple (.l _))) rfl
  obtain ⟨hi, rfl⟩ := rngD_get hd
  have hi' : i < m := by omega
  have ei : (0 : Int) + (i : Int) = (i : Int) := by omega
  rw [ei]
  rw [List.getElem?_map] at he
  obtain ⟨row, hrow, rfl⟩ := Option.map_eq_some_iff.mp he
  unfold adjM at hrow
  rw [List.getElem?_map, List.getElem?_range hi'] at hrow
  cases hrow
  refine ⟨[2], _, fun j hj => hj, tg_name, ed_cb (ea_one (ed_lcM (((List.range m).map fun j => sgn (i + j) (detE (withoutM r j i))).map .int) (ii_rv (lo := 0) (hi := (m : Int)) rfl (by omega)) (by rw [rngD_len]; simp) (by rw [rngD_len]; omega) fun j d e hd he => ?_)) (bc_tuple (.l _))⟩
  obtain ⟨hj, rfl⟩ := rngD_get hd
  have hj' : j < m := by omega
  have ej : (0 : Int) + (j : Int) = (j : Int) := by omega
  rw [ej]
  rw [List.map_map, List.getElem?_map, List.getElem?_range hj'] at he
  cases he
  obtain ⟨m', rfl⟩ : ∃ m', m = m' + 1 := ⟨m - 1, by omega⟩
  have sqm := sq_minor sq (i := j) (j := i) (by omega) (by omega)
  have okw : (r.length ≤ 1000 ∧ ∀ l ∈ r, l.length ≤ 1000) := ⟨by have := sq.h; omega, fun l hl => by rw [sq.w l hl]; omega⟩
  exact ⟨[3], _, fun j hj => hj, tg_name, ed_callG (i + j, detE (withoutM r j i)) (ea_consD (Ed.cast (ed_add (i := (i : Int)) (j := (j : Int)) (ex_var rfl) (ex_var rfl)) (by rw [Int.natCast_add])) (ea_one (ed_callG (withoutM r j i) (ea_one (ed_callG (r, j, i) (ea_consD (ex_var rfl) (ea_consD (ex_var rfl) (ea_one (ex_var rfl)))) rfl okw (by simp) fun d h => h)) rfl ⟨⟨m', by omega, sqm⟩, bd_minor bd j i⟩ (by simp) fun d h => h))) rfl trivial (by simp) fun d h => h⟩
end
end Kz
set_option Elab.async false
set_option linter.all false
set_option maxRecDepth 100000
set_option maxHeartbeats 4000000
/-! Kz: a tuple times 0 or 1 (the library has it from 2 on) -/
namespace Kz
open PySem PySem.Spec PyProof.Rows L2
theorem tuple_mul1 (l : Addr) (items : Array Value) (n : Nat) (dd : Option Addr) (sl : Array (Option Value)) (u : Tok) :
    Meets (Builtin.«tuple.__mul__» ⟨[.ref l, .int 1 u], []⟩) (fun _ R s => s.heap.get? l = some { cls := .type "tuple", dict := dd, data := .seq items n, slots := sl } ∧ R (.ok (.ret (Value.ref l))) s) :=
  .of_wp fun prog w A R s h => by
    obtain ⟨hp, g, d, tk, os⟩ := s
    obtain ⟨hl, h⟩ := h
    have f1 := AutoSeq1.idx_int
    have c1 : (items.isEmpty || (1 : Int) == 1) = true := by simp
    wp_walk using wpAny_loadPart' hl
    repeat (first
      | (refine wpAny_ite_false (decide_eq_false (by decide)) ?_; wp_walk using wpAny_loadPart' hl)
      | (refine wpAny_ite_true (decide_eq_true c1) ?_; wp_walk using wpAny_loadPart' hl))
    exact ⟨_, rfl, h⟩
theorem tuple_mul0 (l : Addr) (items : Array Value) (n : Nat) (dd : Option Addr) (sl : Array (Option Value)) (u : Tok) (hi : items.isEmpty = false) :
    Meets (Builtin.«tuple.__mul__» ⟨[.ref l, .int 0 u], []⟩) (fun _ R s => s.heap.get? l = some { cls := .type "tuple", dict := dd, data := .seq items n, slots := sl } ∧
      R (.ok (.ret (Value.ref s.heap.objs.size))) { s with heap := s.heap.push { cls := Value.type "tuple", data := Data.seq #[] }, toks := s.toks }) :=
  .of_wp fun prog w A R s h => by
    obtain ⟨hp, g, d, tk, os⟩ := s
    obtain ⟨hl, h⟩ := h
    have f1 := AutoSeq1.idx_int
    have c1 : (items.isEmpty || (0 : Int) == 1) = false := by rw [hi]; rfl
    have c2 : (decide ((0 : Int) ≤ 0) || items.isEmpty) = true := by simp
    wp_walk using wpAny_loadPart' hl
    repeat (first
      | (refine wpAny_ite_false (decide_eq_false (by rw [c1]; exact Bool.false_ne_true)) ?_; wp_walk using wpAny_loadPart' hl)
      | (refine wpAny_ite_true (decide_eq_true c2) ?_; wp_walk using wpAny_loadPart' hl))
    exact ⟨_, rfl, h⟩
def rRep01 (K : PySem.W.Frag) : R2 := fun x y H Q => ∃ l k xs, x = .ref l ∧ y = .int k ∧ SqT K H l xs ∧ xs ≠ [] ∧ ((k = 1 ∧ Q (.ref l) H) ∨ (k = 0 ∧ ∀ p, H p = none → Q (.ref p) (upd H p (.tup []))))
theorem op_rep01 {X : Cx} : OpR X (binaryOp .Mult) (rRep01 X.K) := by
  intro pins s σ H x y v u Q I rx ry h
  obtain ⟨l, k, xs, rfl, rfl, hT, hne, h⟩ := h
  cases rx
  obtain ⟨t, rfl⟩ := ry
  obtain ⟨its, r, ⟨⟨cls, dd, data, sl⟩, ho, hc, n, hd⟩, hs⟩ := I.tuple hT
  simp only at hc hd
  subst hc hd
  have hle : its.length = xs.length := r.length.symm
  have hn : its ≠ [] := fun e => hne (by
    rw [e] at hle
    exact List.eq_nil_of_length_eq_zero hle.symm)
  have hi : its.toArray.isEmpty = false := by
    cases its with
    | nil => exact absurd rfl hn
    | cons a b => rfl
  rcases h with ⟨rfl, q⟩ | ⟨rfl, q⟩
  · exact wpAny_binaryOp_repeat_ref (T := "tuple") (U := "int") (by decide) ⟨_, ho, rfl⟩ (fun s' => typeIs_int s' 1 t) noFill_tuple_mul F.fills_int_mul F.slot_int_rmul repeat_tuple F.slot_int_index.lookup
      (call_meets F.slot_int_rmul (typeIs_int s 1 t) F.entry_int_rmul (F.args_int_rmul_2 _ _) (int_rmul_tuple 1 t l its.toArray n dd sl)
        ⟨ho, rfl, ⟨_, ho, rfl⟩, call_meets F.slot_tuple_mul ⟨_, ho, rfl⟩ F.entry_tuple_mul (F.args_tuple_mul_2 _ _) (tuple_mul1 l its.toArray n dd sl t) ⟨ho, ⟨.ref l, H, I, rfl, q⟩⟩⟩)
  · refine wpAny_binaryOp_repeat_ref (T := "tuple") (U := "int") (by decide) ⟨_, ho, rfl⟩ (fun s' => typeIs_int s' 0 t) noFill_tuple_mul F.fills_int_mul F.slot_int_rmul repeat_tuple F.slot_int_index.lookup
      (call_meets F.slot_int_rmul (typeIs_int s 0 t) F.entry_int_rmul (F.args_int_rmul_2 _ _) (int_rmul_tuple 0 t l its.toArray n dd sl)
        ⟨ho, rfl, ⟨_, ho, rfl⟩, call_meets F.slot_tuple_mul ⟨_, ho, rfl⟩ F.entry_tuple_mul (F.args_tuple_mul_2 _ _) (tuple_mul0 l its.toArray n dd sl t hi) ⟨ho, ?_⟩⟩)
    refine ⟨.ref s.heap.objs.size, _, I.laid (t' := s.toks) (o := .tup []) (fun b ob q => Heap.get?_push_of_some _ q) (Nat.le_refl _) ?_, rfl, q _ (I.hok.fresh (Nat.le_refl _))⟩
    exact ⟨Nat.zero_le _, [], .nil, IsTup.new _ _⟩
/-- a tuple times an int from 0 on -/
def rRepA (K : PySem.W.Frag) : R2 := fun x y H Q => rRep01 K x y H Q ∨ rRepT K x y H Q
theorem op_repA {X : Cx} : OpR X (binaryOp .Mult) (rRepA X.K) := fun pins s σ H x y v u Q I rx ry h => h.elim (op_rep01 pins s σ H x y v u Q I rx ry) (op_repT pins s σ H x y v u Q I rx ry)
section
variable {p : Pm} {ρ : Rho} {ta tb : TE}
theorem ed_repA {K : PySem.W.Frag} {ds : List PyData} {k : Int} (h : Ed p ta ρ (.tuple ds)) (hk : Ed p tb ρ (.int k)) (h0 : 0 ≤ k) (h1 : k ≤ 1000) (hz : ds.length ≤ 1000) (hne : ds ≠ []) : Ed p (tOp (rRepA K) ta tb) ρ (.tuple (List.replicate k.toNat ds).flatten) := ed_op h hk fun H0 O σ ρ H x y e hx hy Q q => by
  cases hx with
  | @tup a xs _ n ea r =>
    cases hy
    have hxn : xs ≠ [] := fun z => by
      have := r.length
      rw [z] at this
      exact hne (List.eq_nil_of_length_eq_zero this.symm)
    have hfl : ∀ m, DvL (SO p O) H (List.replicate m xs).flatten (List.replicate m ds).flatten := by
      intro m
      induction m with
      | zero => exact .nil
      | succ m ih => rw [List.replicate_succ, List.replicate_succ, List.flatten_cons, List.flatten_cons]; exact r.append ih
    have h3 : k = 0 ∨ k = 1 ∨ 2 ≤ k := by omega
    rcases h3 with rfl | rfl | h2
    · exact .inl ⟨a, 0, xs, rfl, rfl, .inl (.inl ea), hxn, .inr ⟨rfl, fun l hl => q _ _ _ (Kq.new hl) (e.ok.kp (Kq.new hl)) (.tup (fresh_so e hl) upd_same .nil) rfl⟩⟩
    · exact .inl ⟨a, 1, xs, rfl, rfl, .inl (.inl ea), hxn, .inl ⟨rfl, q _ H _ (Kq.refl H) e.ok (.tup n ea (by simpa using r)) rfl⟩⟩
    · exact .inr ⟨a, k, xs, rfl, rfl, .inl (.inl ea), hxn, h2, h1, by rw [r.length]; exact hz, fun l hl => q _ _ _ (Kq.new hl) (e.ok.kp (Kq.new hl)) (.tup (fresh_so e hl) upd_same ((hfl _).kp (Kq.new hl))) rfl⟩
end
end Kz
set_option Elab.async false
set_option linter.all false
set_option maxRecDepth 100000
set_option maxHeartbeats 4000000
/-! Kz: low_step of any square rows of ints: the first leading determinant that is not above 0 -/
namespace Kz
open PySem PySem.Spec PyProof.Rows L2
/-- the last row of the adjoint of the first k rows, and noughts -/
def lowRow (m k : Nat) (r : Mat) : List Int := ((adjM k (lead r k)).getD (k - 1) []) ++ List.replicate (m - k) 0
/-- k is the first with a leading determinant of at most 0 -/
def FirstLow (m : Nat) (r : Mat) (k : Nat) : Prop := 1 ≤ k ∧ k ≤ m ∧ detE (lead r k) ≤ 0 ∧ ∀ j, 1 ≤ j → j < k → 0 < detE (lead r j)
theorem adj_len (k : Nat) (r : Mat) : (adjM k r).length = k := by simp [adjM]
theorem adj_row {k : Nat} {r : Mat} {l : List Int} (h : l ∈ adjM k r) : l.length = k := by
  unfold adjM at h
  obtain ⟨i, _, rfl⟩ := List.mem_map.mp h
  simp
theorem flat1 {α : Type} (a : α) : ∀ k, (List.replicate k [a]).flatten = List.replicate k a
  | 0 => rfl
  | k + 1 => by rw [List.replicate_succ, List.flatten_cons, flat1 a k]; rfl
section
variable {P : Program} {w : World} {K : PySem.W.Frag} {mg : Str → Option Value} {base : Heap}
abbrev spLowA : Sp := pureG [] 1 (G := Nat × Mat) (fun g => [matD g.2]) (fun g => (1 ≤ g.1 ∧ g.1 ≤ 3 ∧ Sq g.1 g.2) ∧ Bd 1000 g.2) (fun g d => (∃ k, FirstLow g.1 g.2 k ∧ d = rowD (lowRow g.1 k g.2)) ∨ ((∀ k, 1 ≤ k → k ≤ g.1 → 0 < detE (lead g.2 k)) ∧ d = .none))
theorem ok_lowA (B : Bn mg) {f : Addr} {fd : FuncData} (F : Fun K "low_step" "low_step" sLow f fd) (C : Cl P w K mg base "determinant" ["rows"] 4 spDetA) (C2 : Cl P w K mg base "adjoint" ["rows"] 5 spAdj) : FnOk P w K mg base CX0 6 f fd ["table"] spLowA := by
  refine ok_pureG F scLow rfl (by decide) fun cdv A outer s H E hr => ⟨_, pss_cons (ps_for PassesOwn.never rfl (piR2 B pe_int (pe_op op_add (pLen B (pv 0)) pe_int)) (gN 1 scLow.nd)
    (pss_cons (ps_set (i := 2) scLow.nd rfl (.inl rfl) (pTuple B (pe_lc (own := [("row", 3)]) rfl scLow.nd (piT K (pe_slice (slA K) (pv 0) po_none (po_some (pv 1)))) (blkOk_by (own := [("row", 3)]) (N := ["table", "many", "leading", "row"]) (sc := defScope sLow) (by decide +kernel)) (fun _ _ _ _ _ => gN 3 scLow.nd) (fun _ _ _ _ _ => pts_nil)
      (fun _ _ _ _ _ => pe_slice (slA K) (pv 3) po_none (po_some (pv 1))))))
      (pss_one (ps_if (pt_cmpR op_le (pCall C hr (by decide) (pa_cons (pv 2) pa_nil)) pe_int (nomark _))
        (pss_one (ps_ret (pe_op op_catA (pe_ix (ixT K) (pCall C2 hr (by decide) (pa_cons (pv 2) pa_nil)) (pe_un un_neg pe_int) (fun _ _ => rfl)) (pe_op op_repA (pe_tup (pa_cons pe_int pa_nil)) (pe_op op_sub (pLen B (pv 0)) (pv 1)))))) pss_nil)))) (pss_one (ps_ret pe_non)), fun p g hT hg => ?_⟩
  obtain ⟨m, r⟩ := g
  obtain ⟨⟨h1, h3, sq⟩, bd⟩ := hg
  dsimp only at h1 h3 sq bd
  refine rn_seq (Nm := fun ρ => ∀ k, 1 ≤ k → k ≤ m → 0 < detE (lead r k)) (rn_for (fun ds i ρ => (∃ a1 a2 a3, ρ = [some (.dat (matD r)), a1, a2, a3]) ∧ ∀ k, 1 ≤ k → k ≤ i → 0 < detE (lead r k)) ((ii_rng2 ex_int (ed_add (i := (m : Int)) (Ed.cast (ed_cb (ea_one (ex_var (d := matD r) rfl)) (bc_len (.t _))) (by rw [List.length_map, sq.h])) ex_int) (by omega))) (fun ds e => ⟨⟨_, _, _, rfl⟩, fun k q1 q2 => by omega⟩) (fun ds i d ρ e hd iv => ?_) (fun ds ρ e iv => ?_)) fun ρ q => rn_ret ex_none (.inr ⟨q, rfl⟩)
  · subst e
    obtain ⟨⟨a1, a2, a3, rfl⟩, hpos⟩ := iv
    obtain ⟨hi, rfl⟩ := rngD_get hd
    have ek : (1 : Int) + (i : Int) = ((i + 1 : Nat) : Int) := by omega
    rw [ek]
    have hk : i + 1 ≤ m := by omega
    refine ⟨_, _, tg_name, ?_⟩
    refine rn_set_ (d := matD (lead r (i + 1))) (ed_cb (ea_one (ed_lcM ((lead r (i + 1)).map rowD) (ii_tup (Ed.cast (ed_slT (ds := r.map rowD) (ex_var rfl) eo_no (eo_part (i := ((i + 1 : Nat) : Int)) (ex_var rfl))) (by rw [cutD_to, ← List.map_take]))) (by unfold lead; simp) (by have := sq.h; simp; omega) fun j d e hd he => ?_)) (bc_tuple (.l _))) ?_
    · unfold lead at he
      rw [List.map_map, List.getElem?_map] at he
      rw [List.getElem?_map] at hd
      obtain ⟨l, hl', rfl⟩ := Option.map_eq_some_iff.mp hd
      rw [hl'] at he
      cases he
      refine ⟨[3], _, fun j hj => hj, tg_name, Ed.cast (ed_slT (ds := l.map .int) (ex_var rfl) eo_no (eo_part (i := ((i + 1 : Nat) : Int)) (ex_var rfl))) ?_⟩
      rw [cutD_to, ← List.map_take]; rfl
    · have okk : (∃ m, m ≤ 3 ∧ Sq m (lead r (i + 1))) ∧ Bd 1000 (lead r (i + 1)) := ⟨⟨i + 1, by omega, sq_lead sq hk⟩, bd_lead bd⟩
      refine rn_if (t := decide (detE (lead r (i + 1)) ≤ 0)) (et_test (ed_cmp (c := fun i j => decide (i ≤ j)) (i := detE (lead r (i + 1))) (j := 0) (ed_callG (lead r (i + 1)) (ea_one (ex_var rfl)) rfl okk (by simp) fun d h => h) ex_int)) (fun e => ?_) fun e => rn_next ⟨⟨_, _, _, rfl⟩, fun k q1 q2 => ?_⟩
      · have hle := of_decide_eq_true e
        have hrow : (adjM (i + 1) (lead r (i + 1)))[i]? = some ((adjM (i + 1) (lead r (i + 1))).getD i []) := by
          rw [List.getD_eq_getElem?_getD, List.getElem?_eq_getElem (by rw [adj_len]; omega)]; rfl
        have hrl : ((adjM (i + 1) (lead r (i + 1))).getD i []).length = i + 1 := adj_row (List.mem_of_getElem? hrow)
        have hix : atI ((adjM (i + 1) (lead r (i + 1))).map rowD) (-1) = some (rowD ((adjM (i + 1) (lead r (i + 1))).getD i [])) := by
          unfold atI ixN
          rw [List.length_map, adj_len]
          rw [if_neg (by decide), if_pos (by omega)]
          show ((adjM (i + 1) (lead r (i + 1))).map rowD)[_]? = _
          have e2 : ((-1 : Int) + ((i + 1 : Nat) : Int)).toNat = i := by omega
          rw [e2, List.getElem?_map, hrow]; rfl
        refine rn_ret (d := rowD (lowRow m (i + 1) r)) (Ed.cast (ed_catT (ds := ((adjM (i + 1) (lead r (i + 1))).getD i []).map .int) (es := (List.replicate (m - (i + 1)) (0 : Int)).map .int) (ed_ixT (ed_callG (i + 1, lead r (i + 1)) (ea_one (ex_var rfl)) rfl ⟨⟨by omega, by omega, sq_lead sq hk⟩, bd_lead bd⟩ (by simp) fun d h => h) (ed_neg ex_int) hix) (Ed.cast (ed_repA (ds := [.int 0]) (k := ((m - (i + 1) : Nat) : Int)) (ed_tup (ea_one ex_int)) (Ed.cast (ed_sub (i := (m : Int)) (j := ((i + 1 : Nat) : Int)) (Ed.cast (ed_cb (ea_one (ex_var (d := matD r) rfl)) (bc_len (.t _))) (by rw [List.length_map, sq.h])) (ex_var rfl)) (by congr 1; omega)) (by omega) (by omega) (by decide) (by simp)) (by rw [Int.toNat_natCast, flat1, List.map_replicate])) (by simp; simp at hrl; omega)) ?_) (.inl ⟨i + 1, ⟨by omega, hk, hle, fun j q1 q2 => hpos j q1 (by omega)⟩, rfl⟩)
        unfold lowRow rowD
        rw [List.map_append]
        rfl
      · have hlt : 0 < detE (lead r (i + 1)) := by
          have := of_decide_eq_false e
          omega
        by_cases z : k = i + 1
        · rw [z]; exact hlt
        · exact hpos k q1 (by omega)
  · subst e
    rw [rngD_len] at iv
    have : ((m : Int) + 1 - 1).toNat = m := by omega
    rw [this] at iv
    exact iv.2
end
end Kz
set_option Elab.async false
set_option linter.all false
set_option maxRecDepth 100000
set_option maxHeartbeats 4000000
/-! Kz: is_form of any value -/
namespace Kz
open PySem PySem.Spec PyProof.Rows L2
def noneB : PyData → Bool
  | .none => true
  | _ => false
section
variable {p : Pm} {ρ : Rho} {ta : TE}
theorem ex_isNX {P P' : PyData → Prop} (h : Ex p ta ρ P) (hn : ∀ d, P d → P' (.bool (noneB d))) : Ex p (tIsN ta) ρ P' := fun H0 O σ H e Q q => by
  refine h H0 O σ H e _ fun v H2 d' k o hd pd => ?_
  have e2 : decide (v = V.non) = noneB d' := by
    cases hd <;> first | rfl | exact decide_eq_false (fun z => by cases z)
  rw [e2]
  exact q _ H2 _ k o (.bl _) (hn d' pd)
end
def IsFormD (a : PyData) : Prop := ∃ m r, a = matD r ∧ FormM m r
section
variable {P : Program} {w : World} {K : PySem.W.Frag} {mg : Str → Option Value} {base : Heap}
abbrev spIsFormA (Ts : List Addr) : Sp := pureG Ts 1 (G := PyData) (fun a => [a]) (fun a => ∀ r, a = matD r → Bd 1000 r) (fun a d => ∃ b, d = .bool b ∧ (b = true ↔ IsFormD a))
theorem ok_isFormA (B : Bn mg) {f P1 P2 : Addr} {fd : FuncData} (F : Fun K "is_form" "is_form" sIsForm f fd) (C : Cl P w K mg base "is_table" ["thing"] 8 (spTable [P1, P2])) (C2 : Cl P w K mg base "low_step" ["table"] 6 spLowA) : FnOk P w K mg base CX0 9 f fd ["thing"] (spIsFormA [P1, P2]) := by
  refine ok_pureG F scIsForm rfl (by decide) fun cdv A outer s H E hr => ⟨_, pss_one (ps_ret (pe_and (pCall C hr (by decide) (pa_cons (pv 0) pa_nil)) (pe_one (pe_cmp (pc_isN (pCall C2 hr (by decide) (pa_cons (pv 0) pa_nil))))))), fun p a hT hg => ?_⟩
  by_cases h : IsTab a
  · obtain ⟨m, r, rfl, s, h1, h3, hs⟩ := id h
    refine rn_retX (P := fun d => ∃ b, d = .bool b ∧ (b = true ↔ IsFormD (matD r))) (ed_andV (a := true) (ed_callG (matD r) (ea_one (ex_var rfl)) rfl trivial hT fun d ⟨b, e, hb⟩ => by rw [e, hb.mpr h]) (fun _ => ex_isNX (ex_callG (m, r) (ea_one (ex_var rfl)) rfl ⟨⟨h1, h3, s⟩, hg r rfl⟩ (by simp)) fun d hd => ?_) (fun e => by cases e)) fun d h => h
    rcases hd with ⟨k, ⟨k1, k2, k3, _⟩, rfl⟩ | ⟨hpos, rfl⟩
    · refine ⟨false, rfl, ⟨(fun z => by cases z), fun ⟨m', r', e, f⟩ => ?_⟩⟩
      have er := matD_inj e
      subst er
      have hm : m = m' := by rw [← s.h, f.s.h]
      subst hm
      have := f.pos k k1 k2
      dsimp only at k3
      omega
    · exact ⟨true, rfl, ⟨fun _ => ⟨m, r, rfl, s, h1, h3, hs, hpos⟩, fun _ => rfl⟩⟩
  · refine rn_retX (P := fun d => ∃ b, d = .bool b ∧ (b = true ↔ IsFormD a)) (ed_andV (a := false) (ed_callG a (ea_one (ex_var rfl)) rfl trivial hT fun d ⟨b, e, hb⟩ => by
      rw [e]
      cases b with
      | false => rfl
      | true => exact absurd (hb.mp rfl) h) (fun e => by cases e) (fun _ => ⟨false, rfl, ⟨(fun z => by cases z), fun ⟨m, r, e, f⟩ => absurd (by rw [e]; exact tab_form f) h⟩⟩)) fun d h => h
end
end Kz
set_option Elab.async false
set_option linter.all false
set_option maxRecDepth 100000
set_option maxHeartbeats 4000000
namespace Kz
open PySem PySem.Spec PyProof.Rows L2
/-! the deck, made -/
def KL (K : PySem.W.Frag) (a : Addr) (xs : List V) : Prop := ∃ (o : Obj) (its : Array Value) (n : Nat), K.lookup a = some o ∧ o.cls = .type "list" ∧ o.dict = none ∧ o.data = .seq its n ∧ its.size ≤ sizeLine ∧ Vals xs its.toList
theorem rd_nt {H : Hp} {a : Addr} {xs : List V} (h : Rd H a (.lst xs)) : ∃ o, H a = some o ∧ NT o := by
  rcases h with h | ⟨o, h⟩
  · exact ⟨_, h, nt_lst⟩
  · exact ⟨_, h, fun _ q => by cases q⟩
def sPm (K : PySem.W.Frag) (H0 : Hp) (a : Addr) (xs : List V) : Pm := ⟨fun x => x = a ∧ Rd H0 a (.lst xs), Z0, fun H => KL K a xs ∨ (Rd H0 a (.lst xs) ∧ Rd H a (.lst xs)), [], fun _ h => h.elim, fun H1 H2 h k => by
  rcases h with h | ⟨h0, h⟩
  · exact .inl h
  · refine .inr ⟨h0, ?_⟩
    have e := k a ⟨rfl, h0⟩
    rcases h with h | ⟨o, h⟩
    · exact .inl (by rw [e]; exact h)
    · exact .inr ⟨o, by rw [e]; exact h⟩⟩
theorem kC0 : mergeK ([] : List (Key × V)) [] = [] := rfl
section
variable {p : Pm} {ρ : Rho} {t1 t2 t3 te : TE}
abbrev deckD (ms : List Int) (m : Int) : PyData := .dict [(.str "cells", .list (ms.map .int)), (.str "mixed", .int m), (.str "draws", .int 0)]
theorem merge3 {a b c : V} : mergeK ([] : List (Key × V)) [(kC, a), (kM, b), (kD, c)] = [(kC, a), (kM, b), (kD, c)] := by
  unfold mergeK
  simp only [List.foldl_cons, List.foldl_nil]
  have e1 : putK ([] : List (Key × V)) kC a = [(kC, a)] := rfl
  rw [e1, putK_new b (by rw [valV_neg kCM]; rfl)]
  show putK [(kC, a), (kM, b)] kD c = _
  rw [putK_new c (by rw [valV_neg kCD, valV_neg kMD]; rfl)]
  rfl
theorem ex_deck {ms : List Int} (h1 : Ed p t1 ρ (.list (ms.map .int))) (h2 : Ex p t2 ρ (fun d => ∃ k, d = .int k)) (h3 : Ed p t3 ρ (.int 0)) : Ex p (tDisp [(tC (.str "cells"), t1), (tC (.str "mixed"), t2), (tC (.str "draws"), t3)]) ρ (fun d => ∃ m, d = deckD ms m) := fun H0 O σ H e Q q a na => by
  have kn : Kp H (upd H a (.dK [])) := Kq.new na
  have e1 := e.kp kn
  have nZ : ¬ p.Z a := fun z => fresh_so e na (.inl (p.zs a z))
  refine h1 H0 O σ _ e1 _ fun v1 H2 d k2 o2 hd pd => ?_
  subst pd
  have e2 := e1.kq k2 o2
  refine h2 H0 O σ H2 e2 _ fun v2 H3 d k3 o3 hd2 ⟨m, em⟩ => ?_
  subst em
  cases hd2
  have e3 := e2.kq k3 o3
  refine h3 H0 O σ H3 e3 _ fun v3 H4 d k4 o4 hd3 pd => ?_
  subst pd
  cases hd3
  have kk : Kq p.Z (upd H a (.dK [])) H4 := (k2.trans k3).trans k4
  have ha : H4 a = some (.dK []) := kk.at_ a _ nZ upd_same nt_dk
  refine ⟨ha, [(kC, v1), (kM, .int m), (kD, .int 0)], rfl, (by show 3 ≤ 15; decide), ?_⟩
  rw [merge3]
  have hd4 := (hd.kq k3 so_z).kq k4 so_z
  have nS : ¬ SO p O a := fresh_so e na
  have hv1 : Dv (SO p O) (upd H4 a (.dK [(kC, v1), (kM, .int m), (kD, .int 0)])) v1 (.list (ms.map .int)) := by
    cases hd4 with
    | @lst b xs _ n eb r =>
      have hba : b ≠ a := fun z => by rw [z, ha] at eb; cases eb
      have := r.ints_inv
      subst this
      exact .lst n (by rw [upd_ne hba]; exact eb) (DvL.ints ms)
  have okf : Ok p (upd H4 a (.dK [(kC, v1), (kM, .int m), (kD, .int 0)])) := by
    have ko : ∀ b, p.S b → upd H4 a (.dK [(kC, v1), (kM, .int m), (kD, .int 0)]) b = H4 b := fun b z => upd_ne fun q => nS (.inl (q ▸ z))
    refine ⟨fun b z => by rw [ko b z]; exact o4.tr b z, fun P hP => ?_, p.ms _ _ o4.mm ko⟩
    obtain ⟨ps, hp, tp⟩ := o4.tb P hP
    exact ⟨ps, by rw [upd_ne (fun q => by rw [q, ha] at hp; cases hp)]; exact hp, tp⟩
  exact q _ _ _ (Kq.own (kn.up.trans kk) na ha nt_dk) okf (.dct nS upd_same (.cons hv1 (.cons (.int m) (.cons (.int 0) .nil)))) ⟨m, rfl⟩
theorem ed_revL {K : PySem.W.Frag} {ds : List PyData} (h : Ed p te ρ (.list ds)) : Ed p (tRevL K te) ρ (.list ds.reverse) := fun H0 O σ H e Q q => by
  refine h H0 O σ H e _ fun v H2 d k2 o2 hd pd => ?_
  subst pd
  have e2 := e.kq k2 o2
  cases hd with
  | @lst a xs _ n ea r =>
    have hrv : ∀ {vs : List V} {ds : List PyData}, DvL (SO p O) H2 vs ds → DvL (SO p O) H2 vs.reverse ds.reverse := by
      intro vs ds h
      induction ds generalizing vs with
      | nil => cases h; exact .nil
      | cons d ds ih =>
        cases h with
        | cons a b => rw [List.reverse_cons, List.reverse_cons]; exact (ih b).append (.one a)
    exact ⟨a, xs, rfl, .inl (.inl ea), fun l hl => q _ _ _ (k2.trans (Kq.new hl)) (o2.kp (Kq.new hl)) (.lst (fresh_so e2 hl) upd_same ((hrv r).kp (Kq.new hl))) rfl⟩
end
theorem rn_exec {p : Pm} {Hb : Bs} {O : Addr → Prop} {σ : L2.St} {H : Hp} {ρ : Rho} {D : Ends} {t : TS} {R0 : PyData → Prop} (e : En p Hb O σ H ρ) (m : Rn p t ρ { N := fun _ => False, R := R0 }) (k : ∀ v d H', Kq (ZO p Hb.o) Hb.h H' → Ok p H' → Dv p.S H' v d → R0 d → D.rt v H') : t D σ H :=
  m Hb O σ H D e (fun _ _ _ _ _ z => z.elim) k (fun _ _ _ _ _ z => z.elim) (fun _ _ _ _ _ z => z.elim)
theorem cutV_63 {xs : List V} (h : xs.length ≤ 63) : cutV xs none (some 63) = xs := by
  unfold cutV
  rw [HT.sIx_none, show (some (63 : Int)) = some ((63 : Nat) : Int) from rfl, HT.sIx_nat]
  simp
  rw [List.take_of_length_le (by omega)]
section
variable {K : PySem.W.Frag} {H0 : Hp} {a : Addr} {ns : List Int} {ρ : Rho}
theorem ed_script (hr : ρ[0]? = some (some (.raw (.ref a)))) (hl : ns.length ≤ 63) : Ed (sPm K H0 a (ns.map .int)) (tSl (rSlL K) (tVar 0) tNoPart (tPart (tC (.int 63)))) ρ (.list (ns.map .int)) := fun Hb O σ H e Q q => by
  refine ⟨_, e.sl 0 _ hr, 63, rfl, a, ns.map .int, rfl, ?_, fun l hl' => ?_⟩
  · rcases e.ok.mm with h | ⟨_, h⟩
    · exact .inr h
    · exact .inl h
  · rw [cutV_63 (by simpa using hl)]
    exact q _ _ _ (Kq.new hl') (e.ok.kp (Kq.new hl')) (.lst (fresh_so e hl') upd_same (DvL.ints ns)) rfl
end
section
variable {P : Program} {w : World} {K : PySem.W.Frag} {mg : Str → Option Value} {base : Heap}
abbrev sDeck : Stmt := topS 32
theorem scDeck : FnScope ["script", "stirred", "cell"] ["script"] (defScope sDeck) := ⟨rfl, rfl, rfl, by decide +kernel, rfl, by decide +kernel, by decide +kernel⟩
abbrev spDeck (K : PySem.W.Frag) : Sp := fun vs H Q _ => ∃ (a : Addr) (ns : List Int), vs = [.ref a] ∧ SqL K H a (ns.map .int) ∧ ns.length ≤ 63 ∧ ∀ v H' ms m, Kp H H' → Dv (fun _ => False) H' v (deckD ms m) → ms.length ≤ 63 → Q v H'
theorem ok_mkDeck (B : Bn mg) {f : Addr} {fd : FuncData} (F : Fun K "_law_deck" "_law_deck" sDeck f fd) : FnOk P w K mg base CX0 1 f fd ["script"] (spDeck K) := by
  refine F.ok scDeck (fun vs H Q E ⟨a, ns, e, _⟩ => by rw [e]; rfl) fun cdv A outer s H vs Q E hr h => ⟨_, pss_cons (ps_set (i := 1) scDeck.nd rfl (.inl rfl) pe_int)
    (pss_cons (ps_for PassesOwn.never rfl (pi_list (pe_slice sl_list (pv 0) po_none (po_some pe_int))) (gN 2 scDeck.nd) (pss_one (ps_set (i := 1) scDeck.nd rfl (.inl rfl) (pe_op op_mod (pInt B (pe_op op_add (pe_op op_add (pe_op op_mul (pv 1) pe_int) (pe_op op_mod (pInt B (pv 2)) pe_int)) pe_int)) pe_int))))
      (pss_one (ps_ret (pe_disp (pps_cons pe_str (pe_revL (pList B (pe_slice sl_list (pv 0) po_none (po_some pe_int)))) (pps_cons pe_str (pv 1) (pps_cons pe_str pe_int pps_nil))) (by rfl) (by rfl) (fun z => by cases z) (by decide))))), ?_⟩
  obtain ⟨a, ns, rfl, hs, hl, q⟩ := h
  have hen : En (sPm K H a (ns.map .int)) ⟨H, fun _ => False⟩ (fun _ => False) (L2.start ["script", "stirred", "cell"] [.ref a]) H [some (.raw (.ref a)), none, none] := by
    refine ⟨Kq.refl H, fun _ h => h, ⟨fun x z => ?_, by simp [sPm], ?_⟩, fun a h => h.elim, fun i s h => ?_, fun i j a ds es h => ?_, rfl⟩
    · rw [z.1]; exact rd_nt z.2
    · rcases hs with h | h
      · exact .inr ⟨h, h⟩
      · exact .inl h
    · rcases i with _ | _ | _ | i <;> first | (cases h; done) | (cases h; rfl)
    · rcases i with _ | _ | _ | i <;> cases h
  refine rn_exec (R0 := fun d => ∃ m, d = deckD ns.reverse m) hen ?_ fun v d H' k o hv ⟨m, e⟩ => ?_
  · refine rn_set_ ex_int (rn_seq (Nm := fun ρ => ∃ x a2, ρ = [some (.raw (.ref a)), some (.dat (.int x)), a2]) (rn_for (fun ds i ρ => ∃ x a2, ρ = [some (.raw (.ref a)), some (.dat (.int x)), a2]) (ii_list (K := K) (ed_script rfl hl)) (fun ds e => ⟨_, _, rfl⟩) (fun ds i d ρ e hd iv => ?_) (fun ds ρ e iv => iv)) ?_)
    · subst e
      obtain ⟨x, a2, rfl⟩ := iv
      rw [List.getElem?_map] at hd
      obtain ⟨c, hc, rfl⟩ := Option.map_eq_some_iff.mp hd
      refine ⟨_, _, tg_name, rn_setX (P := fun d => ∃ k, d = .int k) (Ex.imp (ex_I2 (C := fun _ j => 0 < j) (g := fun i j => i % j) (P1 := fun _ => True) (P2 := (· = 2147483629)) (ex_cb (ea_one (ed_add (i := x * 48271 + c % 2147483563) (j := 29) (ed_add (i := x * 48271) (j := c % 2147483563) (ed_mul (i := x) (j := 48271) (ex_var rfl) ex_int (.inr (by decide))) (ed_op (P := (· = .int (c % 2147483563))) (ed_cb (ea_one (ex_var (d := .int c) rfl)) bc_int) ex_int (r2_I (C := fun _ j => 0 < j) (g' := fun i j => .int (i % j)) (by decide) fun _ _ => .int _))) ex_int)) fun ds e => by rw [e]; exact bc_int.imp fun y hy => ⟨_, hy, trivial⟩) (ex_toI ex_int) (fun _ y _ e => by rw [e]; decide)) fun d ⟨_, _, _, _, e⟩ => ⟨_, e⟩) fun d ⟨k, e⟩ => by subst e; exact ⟨k, _, rfl⟩⟩
    · rintro ρ ⟨x, a2, rfl⟩
      refine rn_retX (ex_deck (ms := ns.reverse) (Ed.cast (ed_revL (ed_cb (ea_one (ed_script rfl hl)) (bc_list (.l _)))) (by rw [List.map_reverse])) ((ex_var (d := .int x) rfl).imp fun d e => ⟨_, e⟩) ex_int) fun d h => h
  subst e
  exact q v H' _ m (k.mono fun a z => z.elim (fun z => z) fun z => z) (hv.map (fun _ _ _ z => z) fun _ _ _ e _ => e) (by simpa using hl)
end
end Kz
set_option Elab.async false
set_option linter.all false
set_option maxRecDepth 100000
set_option maxHeartbeats 4000000
/-! Kz: a tuple turned about; ints that may be bools; texts -/
namespace Kz
open PySem PySem.Spec PyProof.Rows L2
section
variable {prog : Program} {w : World} {A : Around} {E : Value → Shared → Prop} {s : Shared}
theorem adj_rev (n : Nat) : Builtin.Slice.sliceAdjust none none (-1) (n : Int) = ((n : Int) - 1, -1) := rfl
theorem plc_rev (n : Nat) : Builtin.Slice.slicePlaces ((n : Int) - 1) (-1) (-1) = n := by
  unfold Builtin.Slice.slicePlaces
  have h1 : ¬ ((-1 : Int) > 0) := by omega
  simp only [h1, if_false]
  have e : (- (-1 : Int)) = 1 := rfl
  rw [e, Int.ediv_one]
  split <;> omega
theorem applied_rev {sl : Addr} {vk : Value} {n : Nat} {Q : Int × Int × Nat → Shared → Prop} (hs : s.heap.IsSliceOf sl .none .none vk) (pk : IsPart vk (some (-1))) (h : Q ((n : Int) - 1, -1, n) s) :
    wpAny (model prog w) A (Builtin.Slice.sliceApplied (.ref sl) (pure (n : Int))) Q E s := by
  obtain ⟨os, hos, hcs, hds⟩ := id hs
  unfold Builtin.Slice.sliceApplied Builtin.Slice.sliceFields
  refine wpAny_bind (wpAny_bind (wpAny_field hos hds (x := .none) rfl (wpAny_bind (wpAny_field hos hds (x := .none) rfl (wpAny_bind (wpAny_field hos hds (x := vk) rfl (wpAny_pure ?_)))))))
  refine wpAny_bind (HT.slicePart_ pk ?_)
  show wpAny _ _ (if ((-1 : Int) == 0) = true then _ else _) _ _ s
  rw [if_neg (by decide)]
  refine wpAny_bind (HT.slicePart_ .none (wpAny_bind (HT.slicePart_ .none (wpAny_bind (wpAny_pure ?_)))))
  show wpAny _ _ (match Builtin.Slice.sliceAdjust none none (-1) (n : Int) with | (lo, hi) => pure (lo, (-1 : Int), Builtin.Slice.slicePlaces lo hi (-1))) _ _ s
  rw [adj_rev n]
  show wpAny _ _ (pure ((n : Int) - 1, (-1 : Int), Builtin.Slice.slicePlaces ((n : Int) - 1) (-1) (-1))) _ _ s
  rw [plc_rev]
  exact wpAny_pure h
theorem fm_rev {α : Type} (xs : List α) : ∀ n, n ≤ xs.length → (List.range n).filterMap (fun k => xs[n - 1 - k]?) = (xs.take n).reverse
  | 0, _ => rfl
  | n + 1, h => by
    have ih := fm_rev xs n (by omega)
    rw [List.range_succ_eq_map, List.filterMap_cons]
    have e0 : xs[n + 1 - 1 - 0]? = some (xs[n]'(by omega)) := List.getElem?_eq_getElem (by omega)
    rw [e0]
    simp only [List.filterMap_map]
    have e1 : ((fun k => xs[n + 1 - 1 - k]?) ∘ Nat.succ) = fun k => xs[n - 1 - k]? := by
      funext k
      show xs[n + 1 - 1 - (k + 1)]? = _
      congr 1
      omega
    rw [e1, ih, List.take_add_one, List.getElem?_eq_getElem (show n < xs.length by omega), List.reverse_append]
    rfl
theorem fm_congr {α β : Type} {f g : α → Option β} : ∀ {l : List α}, (∀ m ∈ l, f m = g m) → l.filterMap f = l.filterMap g
  | [], _ => rfl
  | a :: l, h => by
    rw [List.filterMap_cons, List.filterMap_cons, h a (by simp), fm_congr fun m hm => h m (List.mem_cons_of_mem _ hm)]
theorem pick_rev (xs : Array Value) : ((List.range xs.size).filterMap fun (m : Nat) => xs[((xs.size : Int) - 1 + (m : Int) * (-1)).toNat]?).toArray = xs.toList.reverse.toArray := by
  have h := fm_rev xs.toList xs.size (by simp)
  have e : ∀ m, m ∈ List.range xs.size → xs[((xs.size : Int) - 1 + (m : Int) * (-1)).toNat]? = xs.toList[xs.size - 1 - m]? := fun m hm => by
    have := List.mem_range.mp hm
    have e2 : ((xs.size : Int) - 1 + (m : Int) * (-1)).toNat = xs.size - 1 - m := by omega
    rw [e2, Array.getElem?_toList]
  rw [fm_congr e, h]
  rw [List.take_of_length_le (by simp)]
theorem getItem_tup_rev {t sl : Addr} {items : Array Value} {vk : Value} {Q : Value → Shared → Prop} (ht : IsTup s.heap t items) (hs : s.heap.IsSliceOf sl .none .none vk) (pk : IsPart vk (some (-1)))
    (h : Q (.ref s.heap.objs.size) { s with heap := s.heap.push { cls := .type "tuple", data := .seq items.toList.reverse.toArray } }) (hz : items.size ≤ sizeLine) : wpAny (model prog w) A (getItem (.ref t) (.ref sl)) Q E s := by
  have htake : sizeOk (.seq items.toList.reverse.toArray) := by
    show items.toList.reverse.toArray.size ≤ sizeLine
    simpa using hz
  obtain ⟨os, hos, hcs, hds⟩ := id hs
  have hTs : s.TypeIs (.ref sl) "slice" := ⟨os, hos, hcs⟩
  unfold getItem
  try with_reducible refine wpAny_holding ?_
  first | refine wpAny_bind (wpAny_pure ?_) | skip
  refine wpAny_bind (wpAny_sequenceKey ht.typeIs (by decide) ?_)
  refine wpAny_bind (wpAny_callSpecial?_slot (name := Str.ofString "__getitem__") ht.typeIs PyProof.Rows.slot_tuple_getitem (wpAny_call_entry PyProof.Rows.slot_tuple_getitem ht.typeIs PyProof.Rows.entry_tuple_getitem ?_ (PyProof.Rows.args_tuple_getitem _ _)))
  show wpAny _ _ (Builtin.Tuple.tupleItemsOf (.ref t) >>= _) _ _ s
  refine wpAny_bind (PyProof.Rows.tupleItemsOf_ ht ?_)
  refine wpAny_bind (wpAny_typeOf hTs ?_)
  rw [if_pos (by decide)]
  refine wpAny_bind (applied_rev hs pk ?_)
  have hno : ¬ (((items.size : Int) - 1 == 0 && (-1 : Int) == 1 && items.size == items.size) = true) := by
    intro q
    rw [Bool.and_eq_true, Bool.and_eq_true] at q
    exact absurd (eq_of_beq q.1.2) (by decide)
  show wpAny _ _ (if ((items.size : Int) - 1 == 0 && (-1 : Int) == 1 && items.size == items.size) = true then _ else _) _ _ s
  rw [if_neg hno, pick_rev]
  first
    | exact wpAny_bind (m := Builtin.Tuple.tupleExact _) (wpAny_newObj_type (wpAny_pure ⟨_, rfl, wpAny_pure h⟩) htake)
    | exact wpAny_bind (m := Builtin.Tuple.tupleExact _) (wpAny_newObj_type (wpAny_bind (wpAny_pure (wpAny_pure ⟨_, rfl, wpAny_pure h⟩))) htake)
    | exact wpAny_bind (wpAny_bind (m := Builtin.Tuple.tupleExact _) (wpAny_newObj_type (wpAny_pure (wpAny_pure ⟨_, rfl, wpAny_pure h⟩)) htake))
    | exact wpAny_bind (wpAny_bind (m := Builtin.Tuple.tupleExact _) (wpAny_newObj_type (wpAny_pure ⟨_, rfl, wpAny_pure h⟩) htake))
end
section
variable {X : Cx}
def tRevT (K : PySem.W.Frag) (te : TE) : TE := fun σ H Q => te σ H fun x H1 => ∃ a xs, x = .ref a ∧ SqT K H1 a xs ∧ ∀ p, H1 p = none → Q (.ref p) (upd H1 p (.tup xs.reverse))
theorem pe_revT {e : Expr} {te : TE} {k : Nat} {p1 p2 p3 pos : Pos} (he : PE X e te) : PE X (.Subscript e (.Slice none none (some (.UnaryOp .USub (.Constant (.int 1) k p1) p2)) p3) pos) (tRevT X.K te) := by
  refine ⟨fun pins s σ H Q I h => Subscript_ (thn (he.run pins s σ H _ I h) fun v s1 ⟨x, H1, I1, r1, q1⟩ => ?_)⟩
  obtain ⟨a, xs, rfl, hx, q⟩ := q1
  cases r1
  have hst : PO X (some (.UnaryOp .USub (.Constant (.int 1) k p1) p2)) (tPart (tUn (rU fun i => .int (-i)) (tC (.int 1)))) := po_some (pe_un un_neg pe_int)
  refine wpAny_Slice (thn (po_none.run pins s1 σ H1 (fun o H2 => o = none ∧ H2 = H1) I1 ⟨rfl, rfl⟩) fun vl s2 ⟨l, H2, I2, pl, el, e2⟩ => ?_)
  subst el e2
  refine thn (po_none.run pins s2 σ H2 (fun o H3 => o = none ∧ H3 = H2) I2 ⟨rfl, rfl⟩) fun vu s3 ⟨u, H3, I3, pu, eu, e3⟩ => ?_
  subst eu e3
  refine thn (hst.run pins s3 σ H3 (fun o H4 => o = some (-1) ∧ H4 = H3) I3 ⟨1, rfl, -1, rfl, rfl, rfl⟩) fun vs s4 ⟨o, H4, I4, ps, eo, e4⟩ => ?_
  subst eo e4
  cases pl
  cases pu
  have I5 : Inv X pins σ H4 { s4 with heap := s4.heap.push { cls := .type "slice", data := .fields #[.none, .none, vs] } } := I4.kept (t' := s4.toks) fun b ob q => Heap.get?_push_of_some _ q
  obtain ⟨us, r, ht, hz⟩ := I5.tuple hx
  have hlen := r.length
  show wpAny (model X.prog X.w) X.A (subscriptTail e (.Slice none none (some (.UnaryOp .USub (.Constant (.int 1) k p1) p2)) p3) (.ref a) (.ref s4.heap.objs.size)) (EP X pins σ Q) X.xe { s4 with heap := s4.heap.push { cls := .type "slice", data := .fields #[.none, .none, vs] } }
  refine tail_any (ops := [.ref a, .ref s4.heap.objs.size]) ht.typeIs (PyProof.Rows.slot_tuple_getitem.lookup) ?_ (by with_unfolding_all rfl)
  refine getItem_tup_rev ht (Heap.IsSliceOf.new _ .none .none vs) ps ?_ (by rw [List.size_toArray]; omega)
  refine ⟨.ref _, _, I5.laid (t' := s4.toks) (o := .tup xs.reverse) (fun b ob q => Heap.get?_push_of_some _ q) (Nat.le_refl _) ?_, rfl, q _ (I5.hok.fresh (Nat.le_refl _))⟩
  exact ⟨by rw [List.length_reverse]; exact hz, _, r.reverse, IsTup.new _ _⟩
/-! ints that may be bools -/
def NbV (x : V) (i : Int) : Prop := x = .int i ∨ ∃ b : Bool, x = .bl b ∧ i = if b = true then 1 else 0
def rNbL (f : Int → Int → V) : R2 := fun x y H Q => ∃ i j, NbV x i ∧ y = .int j ∧ Q (f i j) H
def rNbR (f : Int → Int → V) : R2 := fun x y H Q => ∃ i j, x = .int i ∧ NbV y j ∧ Q (f i j) H
theorem op_addNb : OpR X (binaryOp .Add) (rNbL fun i j => .int (i + j)) := by
  intro pins s σ H x y v u Q I rx ry h
  obtain ⟨i, j, hx, rfl, q⟩ := h
  obtain ⟨tj, rfl⟩ := ry
  rcases hx with rfl | ⟨b, rfl, rfl⟩
  · obtain ⟨ti, rfl⟩ := rx
    exact PyProof.Rows.add_int ⟨.int _, H, I.tok _, ⟨_, rfl⟩, q⟩
  · cases rx
    exact PySem.IntBool.add_bool_int ⟨.int _, H, I.tok _, ⟨_, rfl⟩, q⟩
theorem op_subNb : OpR X (binaryOp .Sub) (rNbL fun i j => .int (i - j)) := by
  intro pins s σ H x y v u Q I rx ry h
  obtain ⟨i, j, hx, rfl, q⟩ := h
  obtain ⟨tj, rfl⟩ := ry
  rcases hx with rfl | ⟨b, rfl, rfl⟩
  · obtain ⟨ti, rfl⟩ := rx
    exact PyProof.Rows.sub_int ⟨.int _, H, I.tok _, ⟨_, rfl⟩, q⟩
  · cases rx
    exact PySem.IntBool.sub_bool_int ⟨.int _, H, I.tok _, ⟨_, rfl⟩, q⟩
theorem op_subNbR : OpR X (binaryOp .Sub) (rNbR fun i j => .int (i - j)) := by
  intro pins s σ H x y v u Q I rx ry h
  obtain ⟨i, j, rfl, hy, q⟩ := h
  obtain ⟨ti, rfl⟩ := rx
  rcases hy with rfl | ⟨b, rfl, rfl⟩
  · obtain ⟨tj, rfl⟩ := ry
    exact PyProof.Rows.sub_int ⟨.int _, H, I.tok _, ⟨_, rfl⟩, q⟩
  · cases ry
    exact PySem.IntBool.sub_int_bool ⟨.int _, H, I.tok _, ⟨_, rfl⟩, q⟩
theorem op_eqNb : OpR X (compareOp .Eq) (rNbL fun i j => .bl (i == j)) := by
  intro pins s σ H x y v u Q I rx ry h
  obtain ⟨i, j, hx, rfl, q⟩ := h
  obtain ⟨tj, rfl⟩ := ry
  rcases hx with rfl | ⟨b, rfl, rfl⟩
  · obtain ⟨ti, rfl⟩ := rx
    exact SeqAt.RcAt.int_int _ _ _ _ _ _ _ _ ⟨.bl _, H, I, rfl, q⟩
  · cases rx
    exact SeqAt.RcAt.bool_int _ _ _ _ _ _ _ ⟨.bl _, H, I, rfl, q⟩
theorem call_strNb : CallR X (.type "str") (fun xs H Q => (∃ i, xs = [.int i] ∧ i.natAbs.log2 < 1920 ∧ Q (.str (toString i)) H) ∨ ∃ b : Bool, xs = [.bl b] ∧ Q (.str (if b then "True" else "False")) H) := by
  intro pins s σ H xs us Q I r h
  rcases h with ⟨i, rfl, hz, q⟩ | ⟨b, rfl, q⟩
  · obtain ⟨u, rfl, t, rfl⟩ := vals1 r
    exact PySem.P.str_of_int hz ⟨.str _, H, I.tok _, ⟨_, rfl⟩, q⟩
  · cases r with
    | cons a r =>
      cases r
      cases a
      exact PySem.P.str_of_bool ⟨.str _, H, I.tok _, ⟨_, rfl⟩, q⟩
end
end Kz
set_option Elab.async false
set_option linter.all false
set_option maxRecDepth 100000
set_option maxHeartbeats 4000000
/-! Kz: texts -/
namespace Kz
open PySem PySem.Spec PyProof.Rows L2
theorem asc_int (i : Int) : asc (toString i : String) = true := by
  unfold asc
  rw [List.all_eq_true]
  intro c hc
  by_cases h : c < 128
  · exact decide_eq_true h
  · exact absurd hc (int_text_free' c ⟨by omega, .inr (by omega)⟩ i)
theorem cons_app (c : Nat) (l : List Nat) : (⟨(c :: l).toArray⟩ : Str) = (⟨#[c]⟩ : Str) ++ ⟨l.toArray⟩ := by
  show _ = (⟨#[c] ++ l.toArray⟩ : Str)
  congr 1
  simp
theorem up_one (c : Nat) (h : c < 128) : ∃ d, d < 128 ∧ Txt.upper ⟨#[c]⟩ = ⟨#[d]⟩ := ⟨_, by split <;> omega, PySem.W.KOpn.upper_one h⟩
theorem upper_asc : ∀ l : List Nat, (∀ c ∈ l, c < 128) → asc (Txt.upper ⟨l.toArray⟩) = true ∧ (Txt.upper ⟨l.toArray⟩).cps.size = l.length
  | [], _ => ⟨by decide +kernel, by decide +kernel⟩
  | c :: l, h => by
    obtain ⟨d, hd, e⟩ := up_one c (h c (by simp))
    obtain ⟨h1, h2⟩ := upper_asc l fun x hx => h x (List.mem_cons_of_mem _ hx)
    rw [cons_app, PySem.W.KOpn.upper_app, e]
    have ha : asc (⟨#[d]⟩ : Str) = true := asc_ok (l := [d]) (by simpa using hd)
    refine ⟨asc_app ha h1, ?_⟩
    rw [size_app, h2, List.length_cons]
    show 1 + l.length = _
    omega
theorem upper_ok {x : Str} (h : asc x = true) : asc (Txt.upper x) = true ∧ (Txt.upper x).cps.size = x.cps.size := by
  have := upper_asc x.cps.toList (asc_get h)
  simpa using this
theorem cut_ok {x : Str} (h : asc x = true) (lo hi : Option Int) : asc (cutS x lo hi) = true ∧ (cutS x lo hi).cps.size ≤ x.cps.size := by
  unfold cutS
  refine ⟨asc_ok fun c hc => asc_get h c (List.mem_of_mem_drop (List.mem_of_mem_take hc)), ?_⟩
  show ((x.cps.toList.drop _).take _).toArray.size ≤ _
  simp
  omega
section
variable {p : Pm} {ρ : Rho} {ta tb te : TE}
theorem ed_addS {x y : Str} (h : Ed p ta ρ (.str x)) (k : Ed p tb ρ (.str y)) (hz : x.length + y.length ≤ sizeLine) : Ed p (tOp (fun x y H Q => ∃ i j, x = .str i ∧ y = .str j ∧ i.length + j.length ≤ sizeLine ∧ Q (.str (i ++ j)) H) ta tb) ρ (.str (x ++ y)) := ed_op h k fun H0 O σ ρ H u v en hx hy Q q => by
  cases hx
  cases hy
  exact ⟨x, y, rfl, rfl, hz, q _ H _ (Kq.refl H) en.ok (.str _) rfl⟩
theorem ed_upper {x : Str} (h : Ed p ta ρ (.str x)) (hz : x.length ≤ 5592405) : Ed p (tM0 (fun x xs H Q => ∃ a, x = .str a ∧ xs = [] ∧ a.length ≤ 5592405 ∧ Q (.str (Txt.upper a)) H) ta) ρ (.str (Txt.upper x)) := fun H0 O σ H e Q q => by
  refine h H0 O σ H e _ fun v H2 d k2 o2 hd pd => ?_
  subst pd
  cases hd
  exact ⟨⟨x, rfl⟩, x, rfl, rfl, hz, q _ H2 _ k2 o2 (.str _) rfl⟩
theorem ed_slS {x : Str} {lo hi : Option Int} {tl th : TO} (h : Ed p ta ρ (.str x)) (hl : Eo p tl ρ lo) (hh : Eo p th ρ hi) (hz : x.length ≤ sizeLine) : Ed p (tSl rSlS ta tl th) ρ (.str (cutS x lo hi)) := fun H0 O σ H e Q q => by
  refine h H0 O σ H e _ fun v H2 d k2 o2 hd pd => ?_
  subst pd
  cases hd
  have e2 := e.kq k2 o2
  refine hl H0 O σ H2 e2 _ fun H3 k3 o3 => ?_
  refine hh H0 O σ H3 (e2.kq k3 o3) _ fun H4 k4 o4 => ?_
  exact ⟨x, rfl, hz, q _ H4 _ ((k2.trans k3).trans k4) o4 (.str _) rfl⟩
end
end Kz
set_option Elab.async false
set_option linter.all false
set_option maxRecDepth 100000
set_option maxHeartbeats 4000000
/-! Kz: the law's own values of all kinds -/
namespace Kz
open PySem PySem.Spec PyProof.Rows L2
section
variable {p : Pm} {ρ : Rho} {ta tb tc te : TE} {tr : TA} {tt : TT}
theorem et_any {P1 : Bool → Prop} (h : Et p tt ρ P1) : Et p tt ρ (fun _ => True) := h.imp fun _ _ => trivial
theorem ed_revT {K : PySem.W.Frag} {ds : List PyData} (h : Ed p te ρ (.tuple ds)) : Ed p (tRevT K te) ρ (.tuple ds.reverse) := fun H0 O σ H e Q q => by
  refine h H0 O σ H e _ fun v H2 d k2 o2 hd pd => ?_
  subst pd
  have e2 := e.kq k2 o2
  cases hd with
  | @tup a xs _ n ea r =>
    have hrv : ∀ {vs : List V} {ds : List PyData}, DvL (SO p O) H2 vs ds → DvL (SO p O) H2 vs.reverse ds.reverse := by
      intro vs ds h
      induction ds generalizing vs with
      | nil => cases h; exact .nil
      | cons d ds ih =>
        cases h with
        | cons a b => rw [List.reverse_cons, List.reverse_cons]; exact (ih b).append (.one a)
    exact ⟨a, xs, rfl, .inl (.inl ea), fun l hl => q _ _ _ (k2.trans (Kq.new hl)) (o2.kp (Kq.new hl)) (.tup (fresh_so e2 hl) upd_same ((hrv r).kp (Kq.new hl))) rfl⟩
/-- a comprehension over what is not known: of all items R holds -/
theorem ex_lcP {wi : TI} {g : TG} {vs : List Nat} {Pi : List PyData → Prop} (R : PyData → Prop) (hi : Ii p wi ρ Pi) (hz : ∀ ds, Pi ds → ds.length ≤ 10000)
    (hs : ∀ ds (i : Nat) (d : PyData), Pi ds → ds[i]? = some d → ∃ (ts : List Nat) (ρ' : Rho), (∀ i ∈ ts, i ∈ vs) ∧ Tg p g ts (wipeR ρ vs) d ρ' ∧ Ex p te ρ' R) :
    Ex p (tLc wi g tYes te vs) ρ (fun r => ∃ ds es, Pi ds ∧ r = .list es ∧ es.length = ds.length ∧ ∀ e ∈ es, R e) := by
  refine ex_lc (fun ds i es => Pi ds ∧ i ≤ ds.length ∧ es.length = i ∧ ∀ e ∈ es, R e) hi hz (fun l e => ⟨e, Nat.zero_le _, rfl, by simp⟩) (fun l i d es hl hd iv => ?_) (fun l es hl iv => ⟨l, es, hl, rfl, iv.2.2.1, iv.2.2.2⟩)
  obtain ⟨_, hil, hlen, hall⟩ := iv
  obtain ⟨ts, ρ', h1, h2, h3⟩ := hs l i d hl hd
  have hlt : i < l.length := (List.getElem?_eq_some_iff.mp hd).1
  refine ⟨ts, ρ', (· = true), h1, h2, fun H0 O σ H e Q q => q true H (Kq.refl H) e.ok rfl, fun _ => h3.imp fun e he => ⟨hl, hlt, by simp [hlen], fun x hx => ?_⟩, fun z => by cases z⟩
  rcases List.mem_append.mp hx with q | q
  · exact hall x q
  · rw [List.mem_singleton.mp q]; exact he
def nbI : PyData → Int
  | .int i => i
  | .bool b => if b = true then 1 else 0
  | _ => 0
theorem nbV {S : Addr → Prop} {H : Hp} {v : V} {d : PyData} (h : Dv S H v d) (hi : isIntB d = true) : NbV v (nbI d) := by
  cases h with
  | int i => exact .inl rfl
  | bl b => exact .inr ⟨b, rfl, rfl⟩
  | _ => cases hi
theorem ed_nbL {f : Int → Int → V} {g : Int → Int → PyData} {d : PyData} {j : Int} (hg : ∀ S H i j, Dv S H (f i j) (g i j)) (h : Ed p ta ρ d) (k : Ed p tb ρ (.int j)) (hi : isIntB d = true) : Ed p (tOp (rNbL f) ta tb) ρ (g (nbI d) j) := ed_op h k fun H0 O σ ρ H x y en hx hy Q q => by
  cases hy
  exact ⟨_, _, nbV hx hi, rfl, q _ H _ (Kq.refl H) en.ok (hg _ _ _ _) rfl⟩
theorem ed_nbR {f : Int → Int → V} {g : Int → Int → PyData} {d : PyData} {i : Int} (hg : ∀ S H i j, Dv S H (f i j) (g i j)) (h : Ed p ta ρ (.int i)) (k : Ed p tb ρ d) (hi : isIntB d = true) : Ed p (tOp (rNbR f) ta tb) ρ (g i (nbI d)) := ed_op h k fun H0 O σ ρ H x y en hx hy Q q => by
  cases hx
  exact ⟨_, _, rfl, nbV hy hi, q _ H _ (Kq.refl H) en.ok (hg _ _ _ _) rfl⟩
abbrev rStr : List V → Hp → VK → Prop := fun xs H Q => (∃ i, xs = [.int i] ∧ i.natAbs.log2 < 1920 ∧ Q (.str (toString i)) H) ∨ ∃ b : Bool, xs = [.bl b] ∧ Q (.str (if b then "True" else "False")) H
def strI : PyData → Str
  | .int i => toString i
  | .bool b => if b then "True" else "False"
  | _ => ""
theorem bc_str {d : PyData} (hi : isIntB d = true) (hb : ∀ i, d = .int i → i.natAbs.log2 < 1920) : Bc p rStr [d] (· = .str (strI d)) := fun H0 O σ ρ H vs e hv Q q => by
  obtain ⟨v, rfl, hw⟩ := hv.one_inv
  cases hw with
  | int i => exact .inl ⟨i, rfl, hb i rfl, q _ H _ (Kq.refl H) e.ok (.str _) rfl⟩
  | bl b => exact .inr ⟨b, rfl, q _ H _ (Kq.refl H) e.ok (.str _) rfl⟩
  | _ => cases hi
theorem kC0' : mergeK ([] : List (Key × V)) [] = [] := rfl
theorem merge2 {a b : V} : mergeK ([] : List (Key × V)) [(.inr "form", a), (.inl 1, b)] = [(.inr "form", a), (.inl 1, b)] := by
  unfold mergeK
  simp only [List.foldl_cons, List.foldl_nil]
  have e1 : putK ([] : List (Key × V)) (.inr "form") a = [(.inr "form", a)] := rfl
  rw [e1]
  rfl
/-- {'form': n, 1: None} -/
theorem ed_disp2 {t1 : TE} {n : Int} (h1 : Ed p t1 ρ (.int n)) : Ed p (tDisp [(tC (.str "form"), t1), (tC (.int 1), tC .non)]) ρ (.dict [(.str "form", .int n), (.int 1, .none)]) := fun H0 O σ H e Q q a na => by
  have kn : Kp H (upd H a (.dK [])) := Kq.new na
  have e1 := e.kp kn
  have nZ : ¬ p.Z a := fun z => fresh_so e na (.inl (p.zs a z))
  refine h1 H0 O σ _ e1 _ fun v1 H2 d k2 o2 hd pd => ?_
  subst pd
  cases hd
  have ha : H2 a = some (.dK []) := k2.at_ a _ nZ upd_same nt_dk
  refine ⟨ha, [(.inr "form", .int n), (.inl 1, .non)], rfl, (by show 2 ≤ 15; decide), ?_⟩
  rw [merge2]
  have nS : ¬ SO p O a := fresh_so e na
  have okf : Ok p (upd H2 a (.dK [(.inr "form", .int n), (.inl 1, .non)])) := by
    have ko : ∀ b, p.S b → upd H2 a (.dK [(.inr "form", .int n), (.inl 1, .non)]) b = H2 b := fun b z => upd_ne fun q => nS (.inl (q ▸ z))
    refine ⟨fun b z => by rw [ko b z]; exact o2.tr b z, fun P hP => ?_, p.ms _ _ o2.mm ko⟩
    obtain ⟨ps, hp, tp⟩ := o2.tb P hP
    exact ⟨ps, by rw [upd_ne (fun q => by rw [q, ha] at hp; cases hp)]; exact hp, tp⟩
  exact q _ _ _ (Kq.own (kn.up.trans k2) na ha nt_dk) okf (.dct nS upd_same (.cons (k := .inr "form") (.int n) (.cons (k := .inl 1) .non .nil))) rfl
end
section
variable {S : Addr → Prop} {dk cl : Addr} {h1 : S dk} {h2 : S cl} {Ts : List Addr} {ρ : Rho}
theorem ex_dr (k : Int) {i : Nat} (hd : ρ[i]? = some (some (.raw (.ref dk)))) (a : 0 < k) (b : k < 1073741824) : Ex (dPm S dk cl h1 h2 Ts) (tCall spDraw [] E0 (tCons (tVar i) (tCons (tC (.int k)) tNil))) ρ (DrawR k) := ex_callD k hd (ea_one ex_int) rfl ⟨a, b⟩ (by simp)
end
theorem kdl_cut {B m b : Nat} {ds : List PyData} (lo hi : Option Int) (h : KdL B m b ds) : KdL B m b (cutD ds lo hi) := kdl_take _ (kdl_drop _ h)
section
variable {P : Program} {w : World} {K : PySem.W.Frag} {mg : Str → Option Value} {base : Heap}
abbrev sAny : Stmt := topS 50
abbrev sCT : Stmt := topS 51
abbrev sBent : Stmt := topS 52
abbrev sOften : Stmt := topS 53
abbrev sTruths : Stmt := topS 54
theorem scAny : FnScope ["deck", "deep", "way", "turn", "some"] ["deck", "deep"] (defScope sAny) := ⟨rfl, rfl, rfl, by decide +kernel, rfl, by decide +kernel, by decide +kernel⟩
theorem scCT : FnScope ["deck", "thing", "way", "at", "to", "low", "high", "some"] ["deck", "thing"] (defScope sCT) := ⟨rfl, rfl, rfl, by decide +kernel, rfl, by decide +kernel, by decide +kernel⟩
theorem scBent : FnScope ["deck", "thing", "at", "way", "some"] ["deck", "thing"] (defScope sBent) := ⟨rfl, rfl, rfl, by decide +kernel, rfl, by decide +kernel, by decide +kernel⟩
theorem scOften : FnScope ["deck", "thing", "turn"] ["deck", "thing"] (defScope sOften) := ⟨rfl, rfl, rfl, by decide +kernel, rfl, by decide +kernel, by decide +kernel⟩
theorem scTruths : FnScope ["thing", "it"] ["thing"] (defScope sTruths) := ⟨rfl, rfl, rfl, by decide +kernel, rfl, by decide +kernel, by decide +kernel⟩
abbrev spPickD : Sp := deckSp [] 1 (G := List PyData) (fun l => [.list l]) (fun l => l ≠ [] ∧ l.length ≤ 64) (fun l d => d ∈ l)
theorem ok_pickD (B : Bn mg) {f : Addr} {fd : FuncData} (F : Fun K "_law_pick" "_law_pick" sPick f fd) (C : Cl P w K mg base "_law_draw" ["deck", "many"] 1 spDraw) : FnOk P w K mg base CX0 2 f fd ["deck", "some"] spPickD := by
  refine ok_deck F scPick rfl (by decide) fun cdv A outer s H E hr => ⟨_, pss_one (ps_ret (pe_ix ix_list (pv 1) (pCall C hr (by decide) (pa_cons (pv 0) (pa_cons (pLen B (pv 1)) pa_nil))) (fun _ _ => rfl))), fun S dk cl h1 h2 l hl => ?_⟩
  have hp : 0 < l.length := List.length_pos_iff.mpr hl.1
  refine rn_retX (ex_ixLX (ds := l) (ex_var rfl) ?_) fun d hd => hd
  refine Ex.imp (P := DrawR (l.length : Int)) ?_ fun d ⟨r, e, q1, q2⟩ => ⟨r, e, q1, q2⟩
  exact ex_callD (l.length : Int) rfl (ea_one (ed_cb (ea_one (ex_var (d := .list l) rfl)) (bc_len (.l _)))) rfl ⟨by omega, by have := hl.2; omega⟩ (by simp)
def B0 : Nat := 10 ^ 39
def ab : Nat → Nat
  | 0 => 8
  | n + 1 => 3 * (ab n + 1)
theorem ab_ge : ∀ n, 8 ≤ ab n
  | 0 => Nat.le_refl _
  | n + 1 => by have := ab_ge n; show 8 ≤ 3 * (ab n + 1); omega
abbrev spAny (n : Nat) : Sp := deckSp [] 1 (G := Unit) (fun _ => [.int (n : Int)]) (fun _ => True) (fun _ d => Kd B0 (n + 1) (ab n) d)
/-- what is asked of the call within: nothing is, at the end -/
def spAnyP : Nat → Sp
  | 0 => fun _ _ _ _ => False
  | n + 1 => spAny n
theorem fnFalse {ps : List Str} {k : Nat} {f : Addr} {fd : FuncData} : FnOk P w K mg base CX0 k f fd ps (fun _ _ _ _ => False) := ⟨fun _ _ _ _ h => h.elim, fun _ _ _ _ _ _ _ _ _ _ _ _ _ h => h.elim⟩
theorem ok_anyS (B : Bn mg) {k : Nat} (hk : 2 ≤ k) (n : Nat) {f : Addr} {fd : FuncData} (F : Fun K "_law_any" "_law_any" sAny f fd) (C : Cl P w K mg base "_law_draw" ["deck", "many"] 1 spDraw) (C2 : Cl P w K mg base "_law_pick" ["deck", "some"] 2 spPickD) (Cr : Cl P w K mg base "_law_any" ["deck", "deep"] k (spAnyP n)) : FnOk P w K mg base CX0 (k + 1) f fd ["deck", "deep"] (spAny n) := by
  refine ok_deck F scAny rfl (by decide) fun cdv A outer s H E hr => ⟨_, pss_cons (ps_set (i := 2) scAny.nd rfl (.inl rfl) (pCall C hr (by omega) (pa_cons (pv 0) (pa_cons pe_int pa_nil))))
    (pss_cons (ps_if (pt_cmpR op_lt (pv 2) pe_int (nomark _)) (pss_one (ps_ret (pCall C2 hr hk (pa_cons (pv 0) (pa_cons (pe_lst (pa_cons pe_int (pa_cons pe_int (pa_cons (pe_un un_neg pe_int) (pa_cons pe_int (pa_cons pe_int (pa_cons pe_int (pa_cons (pe_op op_pow pe_int pe_int) (pa_cons (pe_un un_neg (pe_op op_pow pe_int pe_int)) pa_nil))))))))) pa_nil))))) pss_nil)
    (pss_cons (ps_if (pt_cmpR op_eq (pv 2) pe_int (nomark _)) (pss_one (ps_ret (pCall C2 hr hk (pa_cons (pv 0) (pa_cons (pe_lst (pa_cons pe_str (pa_cons pe_str (pa_cons pe_str (pa_cons pe_str (pa_cons pe_str (pa_cons pe_str (pa_cons pe_str (pa_cons pe_str (pa_cons pe_str pa_nil)))))))))) pa_nil))))) pss_nil)
    (pss_cons (ps_if (pt_cmpR op_eq (pv 2) pe_int (nomark _)) (pss_one (ps_ret (pCall C2 hr hk (pa_cons (pv 0) (pa_cons (pe_lst (pa_cons pe_bl (pa_cons pe_bl (pa_cons pe_non pa_nil)))) pa_nil))))) pss_nil)
    (pss_cons (ps_set (i := 4) scAny.nd rfl (.inl rfl) (pe_ifExp (pt_cmpR op_gt (pv 1) pe_int (nomark _)) (pe_lc (own := [("turn", 3)]) rfl scAny.nd (piR B (pCall C hr (by omega) (pa_cons (pv 0) (pa_cons pe_int pa_nil)))) (blkOk_by (own := [("turn", 3)]) (N := ["deck", "deep", "way", "turn", "some"]) (sc := defScope sAny) (by decide +kernel)) (fun _ _ _ _ _ => gN 3 scAny.nd) (fun _ _ _ _ _ => pts_nil) (fun _ _ _ _ _ => pCall Cr hr (by omega) (pa_cons (pv 0) (pa_cons (pe_op op_sub (pv 1) pe_int) pa_nil)))) (pe_lst pa_nil)))
    (pss_cons (ps_if (pt_cmpR op_eq (pv 2) pe_int (nomark _)) (pss_one (ps_ret (pv 4))) pss_nil)
      (pss_one (ps_ret (pe_ifExp (pt_cmpR op_eq (pv 2) pe_int (nomark _)) (pe_disp (pps_cons pe_str (pLen B (pv 4)) (pps_cons pe_int pe_non pps_nil)) (by rfl) (by rfl) (fun z => by cases z) (by decide)) (pTuple B (pv 4)))))))))), fun S dk cl h1 h2 _ _ => ?_⟩
  refine rn_setX_ (ex_dr 9 rfl (by decide) (by decide)) ?_
  rintro d ⟨way, rfl, hw0, hw9⟩
  have test : ∀ {c : Int → Int → Bool} (j : Int) (ρ : Rho), ρ[2]? = some (some (.dat (.int way))) → Et (dPm S dk cl h1 h2 []) (tTest (tOp (rI0 fun i j => .bl (c i j)) (tVar 2) (tC (.int j)))) ρ (fun _ => True) := fun j ρ h => et_any (et_test (ed_cmp (ex_var h) ex_int))
  have testE : ∀ (j : Int) (ρ : Rho), ρ[2]? = some (some (.dat (.int way))) → Et (dPm S dk cl h1 h2 []) (tTest (tOp rEq (tVar 2) (tC (.int j)))) ρ (fun _ => True) := fun j ρ h => et_any (et_test (ed_eqI (ex_var h) ex_int))
  refine rn_seq (Nm := fun ρ' => ρ' = _) (rn_ifX (test 2 _ rfl) (fun _ => rn_retX (ex_callD [.int 0, .int 1, .int (-1), .int 2, .int 3, .int 7, .int (10 ^ 39), .int (-(10 ^ 20))] rfl (ea_one (ed_lst (ea_consD ex_int (ea_consD ex_int (ea_consD (ed_neg ex_int) (ea_consD ex_int (ea_consD ex_int (ea_consD ex_int (ea_consD (ed_op (P := (· = .int (10 ^ 39))) ex_int ex_int (r2_I (C := CPow) (g' := fun i j => .int (i ^ j.toNat)) ⟨by decide, by decide, by decide⟩ fun _ _ => .int _)) (ea_one (ed_neg (i := 10 ^ 20) (ed_op (P := (· = .int (10 ^ 20))) ex_int ex_int (r2_I (C := CPow) (g' := fun i j => .int (i ^ j.toNat)) ⟨by decide, by decide, by decide⟩ fun _ _ => .int _))))))))))))) rfl ⟨by simp, by show 8 ≤ 64; decide⟩ (by simp)) fun d hd => ?_) fun _ => rn_next rfl) fun ρ e => ?_
  · simp only [List.mem_cons, List.not_mem_nil, or_false] at hd
    rcases hd with rfl | rfl | rfl | rfl | rfl | rfl | rfl | rfl <;> exact kd_int (by unfold B0; decide +kernel)
  subst e
  refine rn_seq (Nm := fun ρ' => ρ' = _) (rn_ifX (testE 2 _ rfl) (fun _ => rn_retX (ex_callD [.str "", .str "form", .str "low", .str "wall", .str "other", .str "nearest", .str "0", .str "~", .str "Form"] rfl (ea_one (ed_lst (ea_consD ex_str (ea_consD ex_str (ea_consD ex_str (ea_consD ex_str (ea_consD ex_str (ea_consD ex_str (ea_consD ex_str (ea_consD ex_str (ea_one ex_str))))))))))) rfl ⟨by simp, by show 9 ≤ 64; decide⟩ (by simp)) fun d hd => ?_) fun _ => rn_next rfl) fun ρ e => ?_
  · have := ab_ge n
    simp only [List.mem_cons, List.not_mem_nil, or_false] at hd
    rcases hd with rfl | rfl | rfl | rfl | rfl | rfl | rfl | rfl | rfl <;> exact kd_str (by decide +kernel) (Nat.le_trans (show _ ≤ 8 by decide +kernel) this)
  subst e
  refine rn_seq (Nm := fun ρ' => ρ' = _) (rn_ifX (testE 3 _ rfl) (fun _ => rn_retX (ex_callD [.bool true, .bool false, .none] rfl (ea_one (ed_lst (ea_consD ex_bool (ea_consD ex_bool (ea_one ex_none))))) rfl ⟨by simp, by show 3 ≤ 64; decide⟩ (by simp)) fun d hd => ?_) fun _ => rn_next rfl) fun ρ e => ?_
  · simp only [List.mem_cons, List.not_mem_nil, or_false] at hd
    rcases hd with rfl | rfl | rfl
    · exact kd_bool _
    · exact kd_bool _
    · exact kd_none
  subst e
  refine rn_setX_ (P := fun d => ∃ ds, d = .list ds ∧ KdL B0 n (ab n) ds ∧ ds.length ≤ 3) (ex_ifE (Pt := fun b => b = decide (0 < (n : Int))) (et_test (ed_cmp (c := fun i j => decide (j < i)) (ex_var (d := .int (n : Int)) rfl) (ex_int (i := 0)))) (fun hb => ?_) fun _ => (ed_lst ea_nil).imp fun d e => ⟨[], e, kdl_nil, by simp⟩) ?_
  · cases n with
    | zero => cases hb
    | succ n =>
      refine Ex.imp (ex_lcP (Kd B0 (n + 1) (ab n)) (ii_rngX (k := 4) (by decide) (ex_dr 4 rfl (by decide) (by decide))) (fun ds ⟨r, r0, r4, e⟩ => by rw [e, rngD_len]; omega) fun ds i d hds hd => ⟨[3], _, fun j hj => hj, tg_name, ?_⟩) fun d ⟨ds, es, ⟨r, r0, r4, e⟩, e2, hl, hall⟩ => ?_
      · exact ex_callD () rfl (ea_one (Ed.cast (ed_sub (i := ((n + 1 : Nat) : Int)) (j := 1) (ex_var rfl) ex_int) (by congr 1; omega))) rfl trivial (by simp)
      · rw [e, rngD_len] at hl
        refine ⟨es, e2, (kdl_all hall).mono (h3 := ?_), by omega⟩
        show es.length * (ab n + 1) ≤ 3 * (ab n + 1)
        exact Nat.mul_le_mul_right _ (by omega)
  · rintro d ⟨ds, rfl, hds, hd3⟩
    refine rn_seq (Nm := fun ρ' => ρ' = _) (rn_ifX (testE 4 _ rfl) (fun _ => rn_ret (ex_var rfl) (kd_lst.mpr hds)) fun _ => rn_next rfl) fun ρ e => ?_
    subst e
    refine rn_retX (P := Kd B0 (n + 1) (ab n)) (ex_ifE (testE 5 _ rfl) (fun _ => (ed_disp2 (n := (ds.length : Int)) (ed_cb (ea_one (ex_var (d := .list ds) rfl)) (bc_len (.l _)))).imp fun d e => ?_) fun _ => (ed_cb (ea_one (ex_var (d := .list ds) rfl)) (bc_tuple (.l _))).imp fun d e => ?_) fun d h => h
    · rw [e]
      have := ab_ge n
      refine ⟨?_, ?_, ?_⟩
      · have h1 : asc "form" = true := by decide +kernel
        have h2 : (ds.length : Int).natAbs ≤ B0 := Nat.le_trans (show _ ≤ 3 by omega) (by unfold B0; decide +kernel)
        have h3 : (1 : Int).natAbs ≤ B0 := by unfold B0; decide +kernel
        simp only [lf, lfK, h1, decide_eq_true h2, decide_eq_true h3, Bool.and_true]
      · simp [PyData.depth, PyData.depthKv]
      · exact Nat.le_trans (show PyData.bulk (.dict [(.str "form", .int (ds.length : Int)), (.int 1, .none)]) ≤ 8 from Nat.le_refl 8) this
    · rw [e]; exact kd_tup.mpr hds
theorem ok_any (B : Bn mg) (D : Df K mg "_law_any" ["deck", "deep"] sAny) (C : Cl P w K mg base "_law_draw" ["deck", "many"] 1 spDraw) (C2 : Cl P w K mg base "_law_pick" ["deck", "some"] 2 spPickD) : ∀ n : Nat, FnOk P w K mg base CX0 (n + 3) D.f D.fd ["deck", "deep"] (spAny n)
  | 0 => ok_anyS B (by decide) 0 D.F C C2 (D.cl (k := 2) (sp := spAnyP 0) fnFalse)
  | n + 1 => ok_anyS B (k := n + 3) (by omega) (n + 1) D.F C C2 (D.cl (sp := spAnyP (n + 1)) (ok_any B D C C2 n))
end
end Kz
set_option Elab.async false
set_option linter.all false
set_option maxRecDepth 100000
set_option maxHeartbeats 4000000
/-! Kz: values bent -/
namespace Kz
open PySem PySem.Spec PyProof.Rows L2
section
variable {p : Pm} {ρ : Rho} {ta tb tc te : TE} {w : Po}
theorem rn_par3 {i j l : Nat} {P1 P2 P3 : PyData → Prop} (h : Ex p ta ρ P1) (h2 : Ex p tb ρ P2) (h3 : Ex p tc ρ P3) (k : ∀ d e f, P1 d → P2 e → P3 f → w.N (((ρ.set i (some (.dat d))).set j (some (.dat e))).set l (some (.dat f)))) : Rn p (tPar3 i j l (tCons ta (tCons tb (tCons tc tNil)))) ρ w := fun H0 O σ H D e n r b c => by
  refine h H0 O σ H e _ fun v H2 d k2 o2 hd pd => ?_
  refine h2 H0 O σ H2 (e.kq k2 o2) _ fun u H3 d' k3 o3 hd' pd' => ?_
  refine h3 H0 O σ H3 ((e.kq k2 o2).kq k3 o3) _ fun x H4 d2 k4 o4 hd2 pd2 => ?_
  have e4 := ((e.kq k2 o2).kq k3 o3).kq k4 o4
  refine ⟨v, u, x, rfl, n O _ H4 _ (((e4.set ((hd.kq k3 so_z).kq k4 so_z)).set (hd'.kq k4 so_z)).set hd2) (k d d' d2 pd pd' pd2)⟩
theorem r2_catT {K : PySem.W.Frag} {ds es : List PyData} (hz : ds.length + es.length ≤ 10000) : R2x p (rCatA K) (.tuple ds) (.tuple es) (· = .tuple (ds ++ es)) := fun H0 O σ ρ H x y e hx hy Q q => by
  cases hx with
  | @tup a xs _ n ea r =>
    cases hy with
    | @tup b ys _ m eb r' =>
      have l1 := r.length
      have l2 := r'.length
      refine ⟨a, b, xs, ys, rfl, rfl, .inl (.inl ea), .inl (.inl eb), Nat.le_trans (by omega) (show 10000 ≤ sizeLine by decide), fun h0 => ?_, fun _ h0 => ?_, fun _ _ l hl => ?_⟩
      · subst h0
        cases ds with
        | nil => exact q _ H _ (Kq.refl H) e.ok (.tup m eb r') rfl
        | cons _ _ => simp at l1
      · subst h0
        cases es with
        | nil => exact q _ H _ (Kq.refl H) e.ok (.tup n ea (by rw [List.append_nil]; exact r)) rfl
        | cons _ _ => simp at l2
      · exact q _ _ _ (Kq.new hl) (e.ok.kp (Kq.new hl)) (.tup (fresh_so e hl) upd_same ((r.append r').kp (Kq.new hl))) rfl
theorem bc_min2I {i j : Int} : Bc p (fun xs H Q => ∃ i j, xs = [.int i, .int j] ∧ Q (.int (if j < i then j else i)) H) [.int i, .int j] (· = .int (if j < i then j else i)) := fun H0 O σ ρ H vs e hv Q q => by
  obtain ⟨v, w, rfl, h1, h2⟩ := hv.two_inv
  cases h1
  cases h2
  exact ⟨i, j, rfl, q _ H _ (Kq.refl H) e.ok (.int _) rfl⟩
end
/-- ints and tuples of such, so deep -/
def Itr : Nat → PyData → Prop
  | _, .int _ => True
  | m + 1, .tuple ds => ∀ d ∈ ds, Itr m d
  | _, _ => False
theorem itr_row (l : List Int) : Itr 1 (rowD l) := fun d hd => by
  obtain ⟨x, _, rfl⟩ := List.mem_map.mp hd
  exact trivial
theorem itr_mat (r : Mat) : Itr 2 (matD r) := fun d hd => by
  obtain ⟨x, _, rfl⟩ := List.mem_map.mp hd
  exact itr_row x
section
variable {P : Program} {w : World} {K : PySem.W.Frag} {mg : Str → Option Value} {base : Heap}
abbrev spTruths (m : Nat) : Sp := pureG [] 1 (G := Nat × Nat × Nat × PyData) (fun g => [g.2.2.2]) (fun g => (Itr m g.2.2.2 ∧ Kd g.1 g.2.1 g.2.2.1 g.2.2.2) ∧ g.2.2.1 ≤ 1000) (fun g d => Kd g.1 g.2.1 g.2.2.1 d)
def spTruthsP : Nat → Sp
  | 0 => fun _ _ _ _ => False
  | m + 1 => spTruths m
theorem ok_truthsS (B : Bn mg) {k : Nat} (hk : 1 ≤ k) (m : Nat) {f : Addr} {fd : FuncData} (F : Fun K "_law_truths" "_law_truths" sTruths f fd) (Cr : Cl P w K mg base "_law_truths" ["thing"] k (spTruthsP m)) : FnOk P w K mg base CX0 (k + 1) f fd ["thing"] (spTruths m) := by
  refine ok_pureG F scTruths rfl (by decide) fun cdv A outer s H E hr => ⟨_, pss_cons (ps_if (pt_val (pIsi B (pv 0) (nTuple B))) (pss_one (ps_ret (pTuple B (pe_lc (own := [("it", 1)]) rfl scTruths.nd (piT K (pv 0)) (blkOk_by (own := [("it", 1)]) (N := ["thing", "it"]) (sc := defScope sTruths) (by decide +kernel)) (fun _ _ _ _ _ => gN 1 scTruths.nd) (fun _ _ _ _ _ => pts_nil) (fun _ _ _ _ _ => pCall Cr hr (by omega) (pa_cons (pv 1) pa_nil)))))) pss_nil)
    (pss_one (ps_ret (pe_ifExp (PW.pt (pw_and (pt_val (pIsi B (pv 0) (nInt B))) (pw_and1 (pt_cmpR op_in_seq (pv 0) (pe_tup (pa_cons pe_int (pa_cons pe_int pa_nil))) rfl)))) (pe_cmpR op_eq (pv 0) pe_int (nomark _)) (pv 0)))), fun p g hT hg => ?_⟩
  obtain ⟨Bn', mm, b, d⟩ := g
  obtain ⟨⟨hi, hk'⟩, hb⟩ := hg
  dsimp only at hi hk' hb
  cases d with
  | int i =>
    refine rn_when_ (t := false) (et_test (ed_isi (ex_var (d := .int i) rfl) er_c rfl)) (fun e => by cases e) fun _ => ?_
    refine rn_retX (P := Kd Bn' mm b) (ex_ifE (Pt := fun _ => True) (et_any (et_and (a := true) (et_test (ed_isi (ex_var (d := .int i) rfl) er_c rfl)) fun _ => et_test (ed_inI (neg := false) (i := i) (ns := [0, 1]) (ex_var rfl) (ed_tup (ea_consD ex_int (ea_one ex_int)) (by show 2 ≤ 1000; decide))))) (fun _ => (ed_eqI (i := i) (j := 1) (ex_var rfl) ex_int).imp fun d e => by rw [e]; exact kd_bool _) fun _ => (ex_var (d := .int i) rfl).imp fun d e => by rw [e]; exact hk') fun d h => h
  | tuple ds =>
    cases m with
    | zero => exact hi.elim
    | succ m =>
      cases mm with
      | zero => exact absurd hk' kd_tup0
      | succ mm =>
        have hds := kd_tup.mp hk'
        have hl := kdl_len hds
        refine rn_when_ (t := true) (et_test (ed_isi (ex_var (d := .tuple ds) rfl) er_c rfl)) (fun _ => ?_) fun e => by cases e
        refine rn_ret_X (P := Kd Bn' (mm + 1) b) (ex_cb (ea_oneX (ex_lcR (fun _ d e => Kd Bn' mm d.bulk e) (ii_tup (ds := ds) (ex_var rfl)) (by omega) fun i d hd => ⟨[1], _, fun j hj => hj, tg_name, ?_⟩)) fun l ⟨d, el, es, ed, hes, hall⟩ => ?_) fun d h => h
        · have hkd := kdl_mem hds (List.mem_of_getElem? hd)
          exact ex_callG (Bn', mm, d.bulk, d) (ea_one (ex_var rfl)) rfl ⟨⟨hi d (List.mem_of_getElem? hd), hkd.lf, hkd.dp, Nat.le_refl _⟩, by have := hkd.bk; show d.bulk ≤ 1000; omega⟩ (by simp)
        · subst el ed
          refine (bc_tuple (.l es)).imp fun d e => ?_
          rw [e]
          exact kd_tup.mpr (kdl_map hds hes fun i d e c g1 g2 g3 => (hall i d e g1 g2).mono (h3 := g3.bk))
  | none => exact (by cases m <;> exact hi.elim)
  | bool _ => exact (by cases m <;> exact hi.elim)
  | str _ => exact (by cases m <;> exact hi.elim)
  | list _ => exact (by cases m <;> exact hi.elim)
  | dict _ => exact (by cases m <;> exact hi.elim)
theorem ok_truths (B : Bn mg) (D : Df K mg "_law_truths" ["thing"] sTruths) : ∀ m : Nat, FnOk P w K mg base CX0 (m + 2) D.f D.fd ["thing"] (spTruths m)
  | 0 => ok_truthsS B (by decide) 0 D.F (D.cl (k := 1) (sp := spTruthsP 0) fnFalse)
  | m + 1 => ok_truthsS B (k := m + 2) (by omega) (m + 1) D.F (D.cl (sp := spTruthsP (m + 1)) (ok_truths B D m))
abbrev spCT : Sp := deckSp [] 1 (G := Nat × Nat × Nat × List PyData) (fun g => [.tuple g.2.2.2]) (fun g => (KdL g.1 g.2.1 g.2.2.1 g.2.2.2 ∧ B0 ≤ g.1) ∧ g.2.2.1 ≤ 1500) (fun g d => Kd g.1 (g.2.1 + 2) (5 * g.2.2.1 + 20) d)
theorem ok_CT (B : Bn mg) {k : Nat} (hk : 3 ≤ k) {f : Addr} {fd : FuncData} (F : Fun K "_law_changed_tuple" "_law_changed_tuple" sCT f fd) (C : Cl P w K mg base "_law_draw" ["deck", "many"] 1 spDraw) (Ca : Cl P w K mg base "_law_any" ["deck", "deep"] 3 (spAny 0)) : FnOk P w K mg base CX0 (k + 1) f fd ["deck", "thing"] spCT := by
  refine ok_deck F scCT rfl (by decide) fun cdv A outer s H E hr => ⟨_, pss_cons (ps_par3 (i := 2) (j := 3) (l := 4) rfl scCT.nd rfl rfl rfl (by decide) (by decide) (by decide) rfl rfl rfl (pa_cons (pCall C hr (by omega) (pa_cons (pv 0) (pa_cons pe_int pa_nil))) (pa_cons (pCall C hr (by omega) (pa_cons (pv 0) (pa_cons (pe_op op_add (pLen B (pv 1)) pe_int) pa_nil))) (pa_cons (pCall C hr (by omega) (pa_cons (pv 0) (pa_cons (pe_op op_add (pLen B (pv 1)) pe_int) pa_nil))) pa_nil))) rfl)
    (pss_cons (ps_par (i := 5) (j := 6) rfl scCT.nd rfl rfl (by decide) rfl rfl (pa_cons (pMin2' B rfl (pv 3) (pv 4)) (pa_cons (pMax2 B rfl (pv 3) (pv 4)) pa_nil)) rfl)
    (pss_cons (ps_if (pt_cmpR op_eq (pv 2) pe_int (nomark _)) (pss_one (ps_ret (pList B (pv 1)))) pss_nil)
    (pss_cons (ps_if (pt_cmpR op_eq (pv 2) pe_int (nomark _)) (pss_one (ps_ret (pe_op (opCat K) (pe_slice (slA K) (pv 1) po_none (po_some (pv 3))) (pe_slice (slA K) (pv 1) (po_some (pe_op op_add (pv 3) pe_int)) po_none)))) pss_nil)
    (pss_cons (ps_if (pt_cmpR op_eq (pv 2) pe_int (nomark _)) (pss_one (ps_ret (pe_op (opCat K) (pe_op (opCat K) (pe_slice (slA K) (pv 1) po_none (po_some (pv 3))) (pe_slice (slA K) (pv 1) (po_some (pv 3)) (po_some (pe_op op_add (pv 3) pe_int)))) (pe_slice (slA K) (pv 1) (po_some (pv 3)) po_none)))) pss_nil)
    (pss_cons (ps_if (pt_cmpR op_eq (pv 2) pe_int (nomark _)) (pss_cons (ps_set (i := 7) scCT.nd rfl (.inl rfl) (pe_op (opCat K) (pe_op (opCat K) (pe_slice (slA K) (pv 1) po_none (po_some (pv 5))) (pe_slice (slA K) (pv 1) (po_some (pv 6)) (po_some (pe_op op_add (pv 6) pe_int)))) (pe_slice (slA K) (pv 1) (po_some (pe_op op_add (pv 5) pe_int)) (po_some (pv 6)))))
        (pss_one (ps_ret (pe_op (opCat K) (pe_op (opCat K) (pv 7) (pe_slice (slA K) (pv 1) (po_some (pv 5)) (po_some (pe_op op_add (pv 5) pe_int)))) (pe_slice (slA K) (pv 1) (po_some (pe_op op_add (pv 6) pe_int)) po_none))))) pss_nil)
    (pss_cons (ps_if (pt_cmpR op_eq (pv 2) pe_int (nomark _)) (pss_one (ps_ret (pe_op (opCat K) (pe_op (opCat K) (pe_slice (slA K) (pv 1) po_none (po_some (pv 3))) (pe_tup (pa_cons (pCall Ca hr hk (pa_cons (pv 0) (pa_cons pe_int pa_nil))) pa_nil))) (pe_slice (slA K) (pv 1) (po_some (pv 3)) po_none)))) pss_nil)
    (pss_cons (ps_if (pt_cmpR op_eq (pv 2) pe_int (nomark _)) (pss_one (ps_ret (pe_tup (pa_cons (pv 1) pa_nil)))) pss_nil)
      (pss_one (ps_ret (pe_ifExp (pt_cmpR op_eq (pv 2) pe_int (nomark _)) (pe_revT (pv 1)) (pe_slice (slA K) (pv 1) (po_some (pv 5)) (po_some (pv 6))))))))))))), fun S dk cl h1 h2 g hg => ?_⟩
  obtain ⟨Bb, m, b, ds⟩ := g
  obtain ⟨⟨hds, hB⟩, hb⟩ := hg
  dsimp only at hds hB hb
  have hl := kdl_len hds
  have R' : ∀ d, Kd Bb (m + 2) (5 * b + 20) d → (fun (g : Nat × Nat × Nat × List PyData) d => Kd g.1 (g.2.1 + 2) (5 * g.2.2.1 + 20) d) (Bb, m, b, ds) d := fun d h => h
  have hlen : Ed (dPm S dk cl h1 h2 []) (tOp (rI0 fun i j => .int (i + j)) (tCB (rLn K) (tCons (tVar 1) tNil)) (tC (.int 1))) (startD ["deck", "thing", "way", "at", "to", "low", "high", "some"] dk [.tuple ds]) (.int ((ds.length : Int) + 1)) := ed_add (ed_cb (ea_one (ex_var (d := .tuple ds) rfl)) (bc_len (.t _))) ex_int
  refine rn_seq (Nm := fun ρ => ∃ way at' to' : Int, ρ = [some (.raw (.ref dk)), some (.dat (.tuple ds)), some (.dat (.int way)), some (.dat (.int at')), some (.dat (.int to')), none, none, none]) (rn_par3 (P1 := DrawR 8) (P2 := DrawR ((ds.length : Int) + 1)) (P3 := DrawR ((ds.length : Int) + 1)) (ex_dr 8 rfl (by decide) (by decide)) (ex_callD ((ds.length : Int) + 1) rfl (ea_one hlen) rfl ⟨by omega, by omega⟩ (by simp)) (ex_callD ((ds.length : Int) + 1) rfl (ea_one hlen) rfl ⟨by omega, by omega⟩ (by simp)) fun d e g ⟨x, ex, _⟩ ⟨y, ey, _⟩ ⟨z, ez, _⟩ => ?_) ?_
  · subst ex ey ez
    exact ⟨x, y, z, rfl⟩
  rintro ρ ⟨way, at', to', rfl⟩
  refine rn_seq (Nm := fun ρ => ∃ lo hi : Int, ρ = [some (.raw (.ref dk)), some (.dat (.tuple ds)), some (.dat (.int way)), some (.dat (.int at')), some (.dat (.int to')), some (.dat (.int lo)), some (.dat (.int hi)), none]) (rn_par (P1 := (· = .int (if to' < at' then to' else at'))) (P2 := (· = .int (if to' > at' then to' else at'))) (ed_cb (ea_consD (ex_var (d := .int at') rfl) (ea_one (ex_var (d := .int to') rfl))) bc_min2I) (ed_cb (ea_consD (ex_var (d := .int at') rfl) (ea_one (ex_var (d := .int to') rfl))) bc_max2) fun d e h1 h2 => by subst h1 h2; exact ⟨_, _, rfl⟩) ?_
  rintro ρ ⟨lo, hi, rfl⟩
  have testE : ∀ (j : Int) (ρ : Rho), ρ[2]? = some (some (.dat (.int way))) → Et (dPm S dk cl h1 h2 []) (tTest (tOp rEq (tVar 2) (tC (.int j)))) ρ (fun _ => True) := fun j ρ h => et_any (et_test (ed_eqI (ex_var h) ex_int))
  have sl : ∀ {ρ : Rho} {tl th : TO} {l h : Option Int}, ρ[1]? = some (some (.dat (.tuple ds))) → Eo (dPm S dk cl h1 h2 []) tl ρ l → Eo (dPm S dk cl h1 h2 []) th ρ h → Ed (dPm S dk cl h1 h2 []) (tSl (rSlA K) (tVar 1) tl th) ρ (.tuple (cutD ds l h)) := fun h a b => ed_slT (ds := ds) (ex_var h) a b
  have cl' : ∀ l h, KdL Bb m b (cutD ds l h) := fun l h => kdl_cut l h hds
  have ll : ∀ l h, (cutD ds l h).length ≤ b := fun l h => kdl_len (cl' l h)
  have cat : ∀ {ρ : Rho} {ta tb : TE} {x y : List PyData}, Ed (dPm S dk cl h1 h2 []) ta ρ (.tuple x) → Ed (dPm S dk cl h1 h2 []) tb ρ (.tuple y) → x.length + y.length ≤ 10000 → Ed (dPm S dk cl h1 h2 []) (tOp (rCatA K) ta tb) ρ (.tuple (x ++ y)) := fun h k z => ed_catT h k z
  have at1 : ∀ {ρ : Rho} {i : Nat} {x : Int}, ρ[i]? = some (some (.dat (.int x))) → Eo (dPm S dk cl h1 h2 []) (tPart (tOp (rI0 fun i j => .int (i + j)) (tVar i) (tC (.int 1)))) ρ (some (x + 1)) := fun h => eo_part (ed_add (ex_var h) ex_int)
  have at0 : ∀ {ρ : Rho} {i : Nat} {x : Int}, ρ[i]? = some (some (.dat (.int x))) → Eo (dPm S dk cl h1 h2 []) (tPart (tVar i)) ρ (some x) := fun h => eo_part (ex_var h)
  refine rn_seq (Nm := fun ρ' => ρ' = _) (rn_ifX (testE 0 _ rfl) (fun _ => rn_ret (ed_cb (ea_one (ex_var (d := .tuple ds) rfl)) (bc_list (.t _))) (R' _ (kd_lst.mpr hds).mono)) fun _ => rn_next rfl) fun ρ e => ?_
  subst e
  refine rn_seq (Nm := fun ρ' => ρ' = _) (rn_ifX (testE 1 _ rfl) (fun _ => rn_ret (cat (sl rfl eo_no (at0 rfl)) (sl rfl (at1 rfl) eo_no) (by have := ll none (some at'); have := ll (some (at' + 1)) none; omega)) (R' _ (kd_tup.mpr (kdl_app (cl' _ _) (cl' _ _))).mono)) fun _ => rn_next rfl) fun ρ e => ?_
  subst e
  refine rn_seq (Nm := fun ρ' => ρ' = _) (rn_ifX (testE 2 _ rfl) (fun _ => rn_ret (cat (cat (sl rfl eo_no (at0 rfl)) (sl rfl (at0 rfl) (at1 rfl)) (by have := ll none (some at'); have := ll (some at') (some (at' + 1)); omega)) (sl rfl (at0 rfl) eo_no) (by have := ll none (some at'); have := ll (some at') (some (at' + 1)); have := ll (some at') none; rw [List.length_append]; omega)) (R' _ (kd_tup.mpr (kdl_app (kdl_app (cl' _ _) (cl' _ _)) (cl' _ _))).mono)) fun _ => rn_next rfl) fun ρ e => ?_
  subst e
  refine rn_seq (Nm := fun ρ' => ρ' = _) (rn_ifX (testE 3 _ rfl) (fun _ => ?_) fun _ => rn_next rfl) fun ρ e => ?_
  · have l1 := ll none (some lo)
    have l2 := ll (some hi) (some (hi + 1))
    have l3 := ll (some (lo + 1)) (some hi)
    have l4 := ll (some lo) (some (lo + 1))
    have l5 := ll (some (hi + 1)) none
    refine rn_set_ (d := .tuple (cutD ds none (some lo) ++ cutD ds (some hi) (some (hi + 1)) ++ cutD ds (some (lo + 1)) (some hi))) (cat (cat (sl rfl eo_no (at0 rfl)) (sl rfl (at0 rfl) (at1 rfl)) (by omega)) (sl rfl (at1 rfl) (at0 rfl)) (by rw [List.length_append]; omega)) ?_
    exact rn_ret (cat (cat (ex_var rfl) (sl rfl (at0 rfl) (at1 rfl)) (by rw [List.length_append, List.length_append]; omega)) (sl rfl (at1 rfl) eo_no) (by rw [List.length_append, List.length_append, List.length_append]; omega)) (R' _ (kd_tup.mpr (kdl_app (kdl_app (kdl_app (kdl_app (cl' _ _) (cl' _ _)) (cl' _ _)) (cl' _ _)) (cl' _ _))).mono)
  subst e
  refine rn_seq (Nm := fun ρ' => ρ' = _) (rn_ifX (testE 4 _ rfl) (fun _ => ?_) fun _ => rn_next rfl) fun ρ e => ?_
  · have l1 := ll none (some at')
    have l2 := ll (some at') none
    have hany : Ex (dPm S dk cl h1 h2 []) (tTup (tCons (tCall (spAny 0) [] E0 (tCons (tVar 0) (tCons (tC (.int 0)) tNil))) tNil)) [some (.raw (.ref dk)), some (.dat (.tuple ds)), some (.dat (.int way)), some (.dat (.int at')), some (.dat (.int to')), some (.dat (.int lo)), some (.dat (.int hi)), none] (fun d => ∃ x, d = .tuple [x] ∧ Kd B0 1 8 x) := Ex.imp (ex_tup (P := fun l => ∃ x, l = [x] ∧ Kd B0 1 8 x) (ea_oneX (ex_callD () rfl (ea_one ex_int) rfl trivial (by simp))) fun l ⟨x, e, _⟩ => by rw [e]; show 1 ≤ 1000; decide) fun d ⟨l, e, x, e2, hx⟩ => ⟨x, by rw [e, e2], hx⟩
    refine rn_retX (P := Kd Bb (m + 2) (5 * b + 20)) (ex_op (P1 := fun d => ∃ x, d = .tuple (cutD ds none (some at') ++ [x]) ∧ Kd B0 1 8 x) (P2 := (· = .tuple (cutD ds (some at') none))) (ex_op (P1 := (· = .tuple (cutD ds none (some at')))) (P2 := fun d => ∃ x, d = .tuple [x] ∧ Kd B0 1 8 x) (sl rfl eo_no (at0 rfl)) hany fun d e hd ⟨x, ex, hx⟩ => ?_) (sl rfl (at0 rfl) eo_no) fun d e ⟨x, ex, hx⟩ he => ?_) fun d h => h
    · subst hd ex
      exact fun H0 O σ ρ H u v en hu hv Q q => r2_catT (by show _ + 1 ≤ 10000; omega) H0 O σ ρ H u v en hu hv Q fun v H2 f k o hv hf => q v H2 f k o hv ⟨x, hf, hx⟩
    · subst ex he
      have kx : Kd Bb (max m 1) 8 x := hx.mono (h1 := hB) (h2 := by omega)
      have kk : KdL Bb (max m 1) (b + (8 + 1 + 0) + b) (cutD ds none (some at') ++ [x] ++ cutD ds (some at') none) := kdl_app (kdl_app ((cl' _ _).mono (h2 := by omega)) (kdl_cons kx kdl_nil)) ((cl' _ _).mono (h2 := by omega))
      exact fun H0 O σ ρ H u v en hu hv Q q => r2_catT (by rw [List.length_append]; show _ + 1 + _ ≤ 10000; omega) H0 O σ ρ H u v en hu hv Q fun v H2 f k o hv hf => q v H2 f k o hv (by rw [hf]; exact (kd_tup.mpr kk).mono (h2 := by omega))
  subst e
  refine rn_seq (Nm := fun ρ' => ρ' = _) (rn_ifX (testE 5 _ rfl) (fun _ => rn_ret (ed_tup (ea_one (ex_var rfl)) (by show 1 ≤ 1000; decide)) (R' _ (kd_tup.mpr (kdl_cons (kd_tup.mpr hds) (kdl_nil (b := 0)))).mono)) fun _ => rn_next rfl) fun ρ e => ?_
  subst e
  exact rn_retX (P := Kd Bb (m + 2) (5 * b + 20)) (ex_ifE (testE 6 _ rfl) (fun _ => (ed_revT (ex_var rfl)).imp fun d e => by rw [e]; exact (kd_tup.mpr (kdl_rev hds)).mono) fun _ => (sl rfl (at0 rfl) (at0 rfl)).imp fun d e => by rw [e]; exact (kd_tup.mpr (cl' _ _)).mono) fun d h => h
end
end Kz
set_option Elab.async false
set_option linter.all false
set_option maxRecDepth 100000
set_option maxHeartbeats 4000000
/-! Kz: values bent, anywhere within -/
namespace Kz
open PySem PySem.Spec PyProof.Rows L2
def isStrB : PyData → Bool
  | .str _ => true
  | _ => false
section
variable {X : Cx} {e : Expr} {te : TE} {p pos : Pos}
theorem pStrNb (B : Bn X.mg) (h : PE X e te) (hg : Gl X "str" := by rfl) (he : starEach [e] X.env = (false, eval e X.env) :: starEach [] X.env := by rfl) : PE X (.Call (.Name "str" p) [e] [] pos) (tCB rStr (tCons te tNil)) :=
  pe_callTy call_strNb hg B.str (by decide +kernel) (pa_cons h pa_nil he) (by decide) (by decide) he
end
section
variable {p : Pm} {ρ : Rho} {tt tu : TT}
theorem et_andF {P2 : Bool → Prop} (h : Et p tt ρ (· = false)) : Et p (tAnd tt tu) ρ (· = false) := fun H0 O σ H e Q q => by
  refine h H0 O σ H e _ fun b H2 k2 o2 pb => ?_
  subst pb
  rw [if_neg (by decide)]
  exact q false H2 k2 o2 rfl
theorem et_andQ {P1 P2 : Bool → Prop} (h : Et p tt ρ P1) (k : P1 true → Et p tu ρ P2) : Et p (tAnd tt tu) ρ (fun b => b = true → P1 true ∧ P2 true) := fun H0 O σ H e Q q => by
  refine h H0 O σ H e _ fun b H2 k2 o2 pb => ?_
  cases b with
  | true =>
    rw [if_pos rfl]
    exact k pb H0 O σ H2 (e.kq k2 o2) Q fun c H3 k3 o3 pc => q c H3 (k2.trans k3) o3 fun z => by subst z; exact ⟨pb, pc⟩
  | false =>
    rw [if_neg (by decide)]
    exact q false H2 k2 o2 fun z => by cases z
end
theorem kd_nb {B m b : Nat} {d : PyData} (h : Kd B m b d) (hi : isIntB d = true) : (nbI d).natAbs ≤ max B 1 := by
  cases d with
  | int i =>
    have := h.lf
    simp only [Kz.lf, decide_eq_true_eq] at this
    show i.natAbs ≤ _
    omega
  | bool c => cases c <;> simp [nbI] <;> omega
  | _ => cases hi
theorem strI_ok {B m b : Nat} {d : PyData} (h : Kd B m b d) (hB : B < 2 ^ 190) (hi : isIntB d = true) : asc (strI d) = true ∧ (strI d).cps.size ≤ 100 := by
  cases d with
  | int i =>
    have := h.lf
    simp only [Kz.lf, decide_eq_true_eq] at this
    exact ⟨asc_int i, shl (i := i) (by omega)⟩
  | bool c => cases c <;> decide +kernel
  | _ => cases hi
section
variable {P : Program} {w : World} {K : PySem.W.Frag} {mg : Str → Option Value} {base : Heap}
abbrev spBent (m : Nat) : Sp := deckSp [] 1 (G := Nat × Nat × PyData) (fun g => [g.2.2]) (fun g => (Kd g.1 m g.2.1 g.2.2 ∧ B0 ≤ g.1) ∧ g.2.1 ≤ 1500 ∧ g.1 + 1 < 2 ^ 190) (fun g d => Kd (g.1 + 1) (m + 2) (5 * g.2.1 + 120) d)
def spBentP : Nat → Sp
  | 0 => fun _ _ _ _ => False
  | m + 1 => spBent m
theorem ok_bentS (B : Bn mg) {k : Nat} (hk : 4 ≤ k) (m : Nat) {f : Addr} {fd : FuncData} (F : Fun K "_law_bent" "_law_bent" sBent f fd) (C : Cl P w K mg base "_law_draw" ["deck", "many"] 1 spDraw) (C2 : Cl P w K mg base "_law_pick" ["deck", "some"] 2 spPickD) (Ct : Cl P w K mg base "_law_changed_tuple" ["deck", "thing"] 4 spCT) (Ca : Cl P w K mg base "_law_any" ["deck", "deep"] 4 (spAny 1)) (Cr : Cl P w K mg base "_law_bent" ["deck", "thing"] k (spBentP m)) : FnOk P w K mg base CX0 (k + 1) f fd ["deck", "thing"] (spBent m) := by
  refine ok_deck F scBent rfl (by decide) fun cdv A outer s H E hr => ⟨_, pss_cons (ps_if (PW.pt (pw_and (pt_val (pIsi B (pv 1) (nTuple B))) (pw_and (pt_cmpR (opNeZ K hr.units) (pv 1) (pe_tup pa_nil) (nomark _)) (pw_and1 (pt_cmpR op_gt (pCall C hr (by omega) (pa_cons (pv 0) (pa_cons pe_int pa_nil))) pe_int (nomark _))))))
      (pss_cons (ps_set (i := 2) scBent.nd rfl (.inl rfl) (pCall C hr (by omega) (pa_cons (pv 0) (pa_cons (pLen B (pv 1)) pa_nil))))
        (pss_one (ps_ret (pe_op (opCat K) (pe_op (opCat K) (pe_slice (slA K) (pv 1) po_none (po_some (pv 2))) (pe_tup (pa_cons (pCall Cr hr (by omega) (pa_cons (pv 0) (pa_cons (pe_ix (ixT K) (pv 1) (pv 2) (fun _ _ => rfl)) pa_nil))) pa_nil))) (pe_slice (slA K) (pv 1) (po_some (pe_op op_add (pv 2) pe_int)) po_none))))) pss_nil)
    (pss_cons (ps_set (i := 3) scBent.nd rfl (.inl rfl) (pCall C hr (by omega) (pa_cons (pv 0) (pa_cons pe_int pa_nil))))
    (pss_cons (ps_if (PW.pt (pw_and (pt_val (pIsi B (pv 1) (nInt B))) (pw_and1 (pt_cmpR op_gt (pv 3) pe_int (nomark _)))))
      (pss_cons (ps_set (i := 4) scBent.nd rfl (.inl rfl) (pe_lst (pa_cons (pe_op op_addNb (pv 1) pe_int) (pa_cons (pe_op op_subNb (pv 1) pe_int) (pa_cons (pe_cmpR op_eqNb (pv 1) pe_int (nomark _)) (pa_cons (pe_op op_subNbR pe_int (pv 1)) pa_nil))))))
        (pss_one (ps_ret (pCall C2 hr (by omega) (pa_cons (pv 0) (pa_cons (pe_op op_cat (pv 4) (pe_lst (pa_cons (pStrNb B (pv 1)) (pa_cons (pe_tup (pa_cons (pv 1) pa_nil)) (pa_cons pe_int (pa_cons (pe_lst (pa_cons (pv 1) pa_nil)) pa_nil)))))) pa_nil)))))) pss_nil)
    (pss_cons (ps_if (PW.pt (pw_and (pt_val (pIsi B (pv 1) (nStr B))) (pw_and1 (pt_cmpR op_gt (pv 3) pe_int (nomark _)))))
      (pss_one (ps_ret (pCall C2 hr (by omega) (pa_cons (pv 0) (pa_cons (pe_lst (pa_cons pe_str (pa_cons pe_str (pa_cons pe_str (pa_cons pe_str (pa_cons (pe_upper (pv 1)) (pa_cons (pe_op op_add_str (pv 1) pe_str) (pa_cons (pe_slice sl_str (pv 1) po_none (po_some (pe_un un_neg pe_int))) (pa_cons (pe_tup (pa_cons (pv 1) pa_nil)) pa_nil))))))))) pa_nil))))) pss_nil)
    (pss_cons (ps_if (PW.pt (pw_and (pt_val (pIsi B (pv 1) (nTuple B))) (pw_and1 (pt_cmpR op_gt (pv 3) pe_int (nomark _)))))
      (pss_one (ps_ret (pCall Ct hr (by omega) (pa_cons (pv 0) (pa_cons (pv 1) pa_nil))))) pss_nil)
      (pss_one (ps_ret (pCall Ca hr (by omega) (pa_cons (pv 0) (pa_cons pe_int pa_nil))))))))), fun S dk cl h1 h2 g hg => ?_⟩
  obtain ⟨Bb, b, d⟩ := g
  obtain ⟨⟨hd, hB⟩, hb, hB2⟩ := hg
  dsimp only at hd hB hb hB2
  have R' : ∀ x, Kd (Bb + 1) (m + 2) (5 * b + 120) x → (fun (g : Nat × Nat × PyData) d => Kd (g.1 + 1) (m + 2) (5 * g.2.1 + 120) d) (Bb, b, d) x := fun x h => h
  have hB1 : 1 ≤ Bb := Nat.le_trans (by unfold B0; decide +kernel) hB
  have st0 : startD ["deck", "thing", "at", "way", "some"] dk [d] = [some (.raw (.ref dk)), some (.dat d), none, none, none] := rfl
  have isT : ∀ {ρ : Rho}, ρ[1]? = some (some (.dat d)) → Et (dPm S dk cl h1 h2 []) (tTest (tCB (rIsi K) (tCons (tVar 1) (tCons (tC (.ty "tuple")) tNil)))) ρ (· = isTupB d) := fun h => et_test (ed_isi (ex_var h) er_c (by cases d <;> rfl))
  have isI : ∀ {ρ : Rho}, ρ[1]? = some (some (.dat d)) → Et (dPm S dk cl h1 h2 []) (tTest (tCB (rIsi K) (tCons (tVar 1) (tCons (tC (.ty "int")) tNil)))) ρ (· = isIntB d) := fun h => et_test (ed_isi (ex_var h) er_c (by cases d <;> rfl))
  have isS : ∀ {ρ : Rho}, ρ[1]? = some (some (.dat d)) → Et (dPm S dk cl h1 h2 []) (tTest (tCB (rIsi K) (tCons (tVar 1) (tCons (tC (.ty "str")) tNil)))) ρ (· = isStrB d) := fun h => et_test (ed_isi (ex_var h) er_c (by cases d <;> rfl))
  have gt0 : ∀ (way : Int) (ρ : Rho), ρ[3]? = some (some (.dat (.int way))) → Et (dPm S dk cl h1 h2 []) (tTest (tOp (rI0 fun i j => .bl (decide (j < i))) (tVar 3) (tC (.int 0)))) ρ (fun _ => True) := fun way ρ h => et_any (et_test (ed_cmp (c := fun i j => decide (j < i)) (ex_var h) ex_int))
  refine rn_seq (Nm := fun ρ' => ρ' = [some (.raw (.ref dk)), some (.dat d), none, none, none]) (rn_ifX (P := fun b => b = true → ∃ ds, d = .tuple ds ∧ ds ≠ []) ?_ (fun h => ?_) fun _ => rn_next rfl) fun ρ e => ?_
  · by_cases ht : isTupB d = true
    · obtain ⟨ds, rfl⟩ : ∃ ds, d = .tuple ds := by cases d <;> first | exact ⟨_, rfl⟩ | cases ht
      refine (et_andQ (P1 := fun b => b = true) ((isT rfl).imp fun b e => e) fun _ => et_andQ (P1 := fun b => b = !ds.isEmpty) (et_test (ed_neZ (ex_var (d := .tuple ds) rfl) (ed_tup ea_nil (by show 0 ≤ 1000; decide)))) fun _ => et_testX (P := fun d => ∃ b, d = .bool b) (ex_op (P1 := DrawR 5) (P2 := (· = .int 0)) (ex_dr 5 rfl (by decide) (by decide)) ex_int fun d e ⟨r, er, _⟩ he => ?_) fun d ⟨b, e⟩ => ⟨b, e, trivial⟩).imp fun b q e => ⟨ds, rfl, fun z => ?_⟩
      · subst er he
        exact fun H0 O σ ρ H x y e hx hy Q q => r2_I0 (g' := fun i j => .bool (decide (j < i))) (fun _ _ => .bl _) H0 O σ ρ H x y e hx hy Q fun v H2 f k o hv hf => q v H2 f k o hv ⟨_, hf⟩
      · have := (q e).2 rfl
        rw [z] at this
        exact absurd this.1 (by decide)
    · have hf : isTupB d = false := by simpa using ht
      exact (et_andF (P2 := fun _ => True) ((isT rfl).imp fun b e => by rw [e, hf])).imp fun b e z => by rw [e] at z; cases z
  · obtain ⟨ds, rfl, hne⟩ := h rfl
    cases m with
    | zero => exact absurd hd kd_tup0
    | succ m =>
      have hds := kd_tup.mp hd
      have hl := kdl_len hds
      have hp : 0 < ds.length := List.length_pos_iff.mpr hne
      refine rn_setX_ (P := DrawR (ds.length : Int)) (ex_callD (ds.length : Int) rfl (ea_one (ed_cb (ea_one (ex_var (d := .tuple ds) rfl)) (bc_len (.t _)))) rfl ⟨by omega, by omega⟩ (by simp)) ?_
      rintro x ⟨at', rfl, ha0, ha1⟩
      obtain ⟨i, rfl⟩ : ∃ i : Nat, at' = (i : Int) := ⟨at'.toNat, by omega⟩
      have hi : i < ds.length := by omega
      obtain ⟨c0, c1, k1, k2, k3⟩ := kdl_split (ds := ds.take i) (es := ds.drop i) (by rw [List.take_append_drop]; exact hds)
      rw [List.drop_eq_getElem_cons hi] at k2
      obtain ⟨c, c2, k4, k5, k6⟩ := kdl_inv k2
      have hrec : Ex (dPm S dk cl h1 h2 []) (tTup (tCons (tCall (spBentP (m + 1)) [] E0 (tCons (tVar 0) (tCons (tOp (rIxT K) (tVar 1) (tVar 2)) tNil))) tNil)) [some (.raw (.ref dk)), some (.dat (.tuple ds)), some (.dat (.int (i : Int))), none, none] (fun d => ∃ x, d = .tuple [x] ∧ Kd (Bb + 1) (m + 2) (5 * c + 120) x) := Ex.imp (ex_tup (P := fun l => ∃ x, l = [x] ∧ Kd (Bb + 1) (m + 2) (5 * c + 120) x) (ea_oneX (ex_callD (Bb, c, ds[i]) rfl (ea_one (ed_ixT (ds := ds) (i := (i : Int)) (ex_var rfl) (ex_var rfl) (atI_nat (List.getElem?_eq_getElem hi)))) rfl ⟨⟨k4, hB⟩, by show c ≤ 1500; omega, hB2⟩ (by simp))) fun l ⟨x, e, _⟩ => by rw [e]; show 1 ≤ 1000; decide) fun d ⟨l, e, x, e2, hx⟩ => ⟨x, by rw [e, e2], hx⟩
      refine rn_ret_X (P := Kd (Bb + 1) (m + 1 + 2) (5 * b + 120)) (ex_op (P1 := fun d => ∃ x, d = .tuple (ds.take i ++ [x]) ∧ Kd (Bb + 1) (m + 2) (5 * c + 120) x) (P2 := (· = .tuple (ds.drop (i + 1)))) (ex_op (P1 := (· = .tuple (ds.take i))) (P2 := fun d => ∃ x, d = .tuple [x] ∧ Kd (Bb + 1) (m + 2) (5 * c + 120) x) (Ed.cast (ed_slT (ds := ds) (ex_var rfl) eo_no (eo_part (i := (i : Int)) (ex_var rfl))) (by rw [cutD_to])) hrec fun d e hd ⟨x, ex, hx⟩ => ?_) (Ed.cast (ed_slT (ds := ds) (ex_var rfl) (eo_part (ed_add (i := (i : Int)) (ex_var rfl) ex_int)) eo_no) (by rw [show ((i : Int) + 1) = ((i + 1 : Nat) : Int) by omega, cutD_from])) fun d e ⟨x, ex, hx⟩ he => ?_) fun d h => h
      · subst hd ex
        exact fun H0 O σ ρ H u v en hu hv Q q => r2_catT (by rw [List.length_take]; show _ + 1 ≤ 10000; omega) H0 O σ ρ H u v en hu hv Q fun v H2 f k o hv hf => q v H2 f k o hv ⟨x, hf, hx⟩
      · subst ex he
        have kk : KdL (Bb + 1) (m + 2) (c0 + (5 * c + 120 + 1 + 0) + c2) (ds.take i ++ [x] ++ ds.drop (i + 1)) := kdl_app (kdl_app (k1.mono) (kdl_cons hx kdl_nil)) (k5.mono)
        exact fun H0 O σ ρ H u v en hu hv Q q => r2_catT (by rw [List.length_append, List.length_take, List.length_drop]; show _ + 1 + _ ≤ 10000; omega) H0 O σ ρ H u v en hu hv Q fun v H2 f k o hv hf => q v H2 f k o hv (by rw [hf]; exact (kd_tup.mpr kk).mono)
  subst e
  refine rn_setX_ (ex_dr 5 rfl (by decide) (by decide)) ?_
  rintro x ⟨way, rfl, _, _⟩
  refine rn_seq (Nm := fun ρ' => ρ' = [some (.raw (.ref dk)), some (.dat d), none, some (.dat (.int way)), none]) (rn_ifX (P := fun b => b = true → isIntB d = true) ((et_andQ (P1 := (· = isIntB d)) (isI rfl) fun _ => gt0 way _ rfl).imp fun b q e => (q e).1.symm) (fun h => ?_) fun _ => rn_next rfl) fun ρ e => ?_
  · have hi := h rfl
    have hn := kd_nb hd hi
    have hstr := strI_ok hd (by omega) hi
    have hlog : ∀ i, d = .int i → i.natAbs.log2 < 1920 := fun i e => by
      subst e
      have := hd.lf
      simp only [Kz.lf, decide_eq_true_eq] at this
      exact shb (by omega)
    refine rn_set_ (d := .list [.int (nbI d + 1), .int (nbI d - 1), .bool (nbI d == 1), .int (0 - nbI d)]) (ed_lst (ea_consD (ed_nbL (g := fun i j => .int (i + j)) (fun _ _ _ _ => .int _) (ex_var rfl) ex_int hi) (ea_consD (ed_nbL (g := fun i j => .int (i - j)) (fun _ _ _ _ => .int _) (ex_var rfl) ex_int hi) (ea_consD (ed_nbL (g := fun i j => .bool (i == j)) (fun _ _ _ _ => .bl _) (ex_var rfl) ex_int hi) (ea_one (ed_nbR (g := fun i j => .int (i - j)) (fun _ _ _ _ => .int _) ex_int (ex_var rfl) hi))))) (by show 4 ≤ 1000; decide)) ?_
    refine rn_retX (ex_callD ([.int (nbI d + 1), .int (nbI d - 1), .bool (nbI d == 1), .int (0 - nbI d)] ++ [.str (strI d), .tuple [d], .int 0, .list [d]]) rfl (ea_one (ed_catL (ex_var rfl) (ed_lst (ea_consD (ed_cb (ea_one (ex_var (d := d) rfl)) (bc_str hi hlog)) (ea_consD (ed_tup (ea_one (ex_var rfl)) (by show 1 ≤ 1000; decide)) (ea_consD ex_int (ea_one (ed_lst (ea_one (ex_var rfl)) (by show 1 ≤ 1000; decide)))))) (by show 4 ≤ 1000; decide)) (by simp))) rfl ⟨by simp, by simp⟩ (by simp)) fun x hx => R' _ ?_
    simp only [List.cons_append, List.nil_append, List.mem_cons, List.not_mem_nil, or_false] at hx
    rcases hx with rfl | rfl | rfl | rfl | rfl | rfl | rfl | rfl
    · exact kd_int (by omega)
    · exact kd_int (by omega)
    · exact kd_bool _
    · exact kd_int (by omega)
    · exact kd_str hstr.1 (by omega)
    · exact (kd_tup.mpr (kdl_cons hd (kdl_nil (b := 0)))).mono
    · exact kd_int (by omega)
    · exact (kd_lst.mpr (kdl_cons hd (kdl_nil (b := 0)))).mono
  subst e
  refine rn_seq (Nm := fun ρ' => ρ' = [some (.raw (.ref dk)), some (.dat d), none, some (.dat (.int way)), none]) (rn_ifX (P := fun b => b = true → isStrB d = true) ((et_andQ (P1 := (· = isStrB d)) (isS rfl) fun _ => gt0 way _ rfl).imp fun b q e => (q e).1.symm) (fun h => ?_) fun _ => rn_next rfl) fun ρ e => ?_
  · have hi := h rfl
    obtain ⟨y, rfl⟩ : ∃ y, d = .str y := by cases d <;> first | exact ⟨_, rfl⟩ | cases hi
    have ha : asc y = true := by simpa only [Kz.lf] using hd.lf
    have hz : y.cps.size ≤ b := by simpa only [PyData.bulk] using hd.bk
    have hz' : y.length ≤ 1500 := Nat.le_trans hz hb
    have hsl : (1501 : Nat) ≤ sizeLine := by decide
    have hu := upper_ok ha
    have hc := cut_ok ha none (some (-1))
    refine rn_retX (ex_callD [.str "form", .str "low", .str "wall", .str "other", .str (Txt.upper y), .str (y ++ "s"), .str (cutS y none (some (-1))), .tuple [.str y]] rfl (ea_one (ed_lst (ea_consD ex_str (ea_consD ex_str (ea_consD ex_str (ea_consD ex_str (ea_consD (ed_upper (ex_var rfl) (by omega)) (ea_consD (ed_addS (ex_var rfl) ex_str (by show y.length + 1 ≤ sizeLine; omega)) (ea_consD (ed_slS (ex_var rfl) eo_no (eo_part (ed_neg ex_int)) (by omega)) (ea_one (ed_tup (ea_one (ex_var rfl)) (by show 1 ≤ 1000; decide)))))))))) (by show 8 ≤ 1000; decide))) rfl ⟨by simp, by show 8 ≤ 64; decide⟩ (by simp)) fun x hx => R' _ ?_
    simp only [List.mem_cons, List.not_mem_nil, or_false] at hx
    rcases hx with rfl | rfl | rfl | rfl | rfl | rfl | rfl | rfl
    · exact kd_str (by decide +kernel) (Nat.le_trans (show _ ≤ 120 by decide +kernel) (by omega))
    · exact kd_str (by decide +kernel) (Nat.le_trans (show _ ≤ 120 by decide +kernel) (by omega))
    · exact kd_str (by decide +kernel) (Nat.le_trans (show _ ≤ 120 by decide +kernel) (by omega))
    · exact kd_str (by decide +kernel) (Nat.le_trans (show _ ≤ 120 by decide +kernel) (by omega))
    · exact kd_str hu.1 (by rw [hu.2]; omega)
    · exact kd_str (asc_app ha (by decide +kernel)) (by rw [size_app]; have : ("s" : Str).cps.size = 1 := by decide +kernel
                                                        omega)
    · exact kd_str hc.1 (by have := hc.2; omega)
    · exact (kd_tup.mpr (kdl_cons hd (kdl_nil (b := 0)))).mono
  subst e
  refine rn_seq (Nm := fun ρ' => ρ' = [some (.raw (.ref dk)), some (.dat d), none, some (.dat (.int way)), none]) (rn_ifX (P := fun b => b = true → isTupB d = true) ((et_andQ (P1 := (· = isTupB d)) (isT rfl) fun _ => gt0 way _ rfl).imp fun b q e => (q e).1.symm) (fun h => ?_) fun _ => rn_next rfl) fun ρ e => ?_
  · have hi := h rfl
    obtain ⟨ds, rfl⟩ : ∃ ds, d = .tuple ds := by cases d <;> first | exact ⟨_, rfl⟩ | cases hi
    cases m with
    | zero => exact absurd hd kd_tup0
    | succ m =>
      exact rn_retX (ex_callD (Bb, m, b, ds) rfl (ea_one (ex_var rfl)) rfl ⟨⟨kd_tup.mp hd, hB⟩, hb⟩ (by simp)) fun x hx => R' _ ((show Kd Bb (m + 2) (5 * b + 20) x from hx).mono)
  subst e
  exact rn_retX (ex_callD () rfl (ea_one ex_int) rfl trivial (by simp)) fun x hx => R' _ ((show Kd B0 2 27 x from hx).mono)
theorem ok_bent (B : Bn mg) (D : Df K mg "_law_bent" ["deck", "thing"] sBent) (C : Cl P w K mg base "_law_draw" ["deck", "many"] 1 spDraw) (C2 : Cl P w K mg base "_law_pick" ["deck", "some"] 2 spPickD) (Ct : Cl P w K mg base "_law_changed_tuple" ["deck", "thing"] 4 spCT) (Ca : Cl P w K mg base "_law_any" ["deck", "deep"] 4 (spAny 1)) : ∀ m : Nat, FnOk P w K mg base CX0 (m + 5) D.f D.fd ["deck", "thing"] (spBent m)
  | 0 => ok_bentS B (by decide) 0 D.F C C2 Ct Ca (D.cl (k := 4) (sp := spBentP 0) fnFalse)
  | m + 1 => ok_bentS B (k := m + 5) (by omega) (m + 1) D.F C C2 Ct Ca (D.cl (sp := spBentP (m + 1)) (ok_bent B D C C2 Ct Ca m))
/-- bent, at any depth up to M -/
abbrev spBentU (M : Nat) : Sp := deckSp [] 1 (G := Nat × Nat × Nat × PyData) (fun g => [g.2.2.2]) (fun g => (Kd g.2.1 g.1 g.2.2.1 g.2.2.2 ∧ B0 ≤ g.2.1 ∧ g.1 ≤ M) ∧ g.2.2.1 ≤ 1500 ∧ g.2.1 + 1 < 2 ^ 190) (fun g d => Kd (g.2.1 + 1) (g.1 + 2) (5 * g.2.2.1 + 120) d)
theorem fn_any {k M : Nat} {f : Addr} {fd : FuncData} {ps : List Str} {sp : Nat → Sp} (h0 : FnOk P w K mg base CX0 k f fd ps (sp 0)) (h : ∀ m, m ≤ M → FnOk P w K mg base CX0 k f fd ps (sp m)) : FnOk P w K mg base CX0 k f fd ps (fun vs H Q E => ∃ m, m ≤ M ∧ sp m vs H Q E) :=
  ⟨fun vs H Q E ⟨m, l, q⟩ => (h m l).len vs H Q E q, fun A outer s H args us vs Q E hr he hb hv ⟨m, l, q⟩ => (h m l).run A outer s H args us vs Q E hr he hb hv q⟩
theorem ok_bentU (B : Bn mg) (D : Df K mg "_law_bent" ["deck", "thing"] sBent) (C : Cl P w K mg base "_law_draw" ["deck", "many"] 1 spDraw) (C2 : Cl P w K mg base "_law_pick" ["deck", "some"] 2 spPickD) (Ct : Cl P w K mg base "_law_changed_tuple" ["deck", "thing"] 4 spCT) (Ca : Cl P w K mg base "_law_any" ["deck", "deep"] 4 (spAny 1)) (M : Nat) : FnOk P w K mg base CX0 (M + 5) D.f D.fd ["deck", "thing"] (spBentU M) :=
  (fn_any (M := M) (sp := spBent) ((ok_bent B D C C2 Ct Ca 0).mono (by omega)) fun m hm => (ok_bent B D C C2 Ct Ca m).mono (by omega)).imp fun vs H Q E ⟨⟨m, Bb, b, d⟩, dk, cl, ws, ⟨⟨hd, hB, hm⟩, hb, hB2⟩, r⟩ => ⟨m, hm, (Bb, b, d), dk, cl, ws, ⟨⟨hd, hB⟩, hb, hB2⟩, r⟩
/-- at most twice -/
abbrev spOften (m : Nat) : Sp := deckSp [] 1 (G := Nat × Nat × PyData) (fun g => [g.2.2]) (fun g => (Kd g.1 m g.2.1 g.2.2 ∧ B0 ≤ g.1) ∧ g.2.1 ≤ 200 ∧ g.1 + 2 < 2 ^ 190) (fun g d => Kd (g.1 + 2) (m + 4) (25 * g.2.1 + 720) d)
theorem ok_often (B : Bn mg) (m : Nat) {f : Addr} {fd : FuncData} (F : Fun K "_law_often_bent" "_law_often_bent" sOften f fd) (C : Cl P w K mg base "_law_draw" ["deck", "many"] 1 spDraw) (C2 : Cl P w K mg base "_law_pick" ["deck", "some"] 2 spPick) (Cb : Cl P w K mg base "_law_bent" ["deck", "thing"] (m + 7) (spBentU (m + 2))) (Ca : Cl P w K mg base "_law_any" ["deck", "deep"] 5 (spAny 2)) : FnOk P w K mg base CX0 (m + 8) f fd ["deck", "thing"] (spOften m) := by
  refine ok_deck F scOften rfl (by decide) fun cdv A outer s H E hr => ⟨_, pss_cons (ps_if (pt_cmpR op_eq (pCall C hr (by omega) (pa_cons (pv 0) (pa_cons pe_int pa_nil))) pe_int (nomark _)) (pss_one (ps_ret (pCall Ca hr (by omega) (pa_cons (pv 0) (pa_cons pe_int pa_nil))))) pss_nil)
    (pss_cons (ps_for PassesOwn.never rfl (piR B (pCall C2 hr (by omega) (pa_cons (pv 0) (pa_cons (pe_lst (pa_cons pe_int (pa_cons pe_int (pa_cons pe_int (pa_cons pe_int (pa_cons pe_int pa_nil)))))) pa_nil)))) (gN 2 scOften.nd) (pss_one (ps_set (i := 1) scOften.nd rfl (.inl rfl) (pCall Cb hr (by omega) (pa_cons (pv 0) (pa_cons (pv 1) pa_nil))))))
      (pss_one (ps_ret (pv 1)))), fun S dk cl h1 h2 g hg => ?_⟩
  obtain ⟨Bb, b, d⟩ := g
  obtain ⟨⟨hd, hB⟩, hb, hB2⟩ := hg
  dsimp only at hd hB hb hB2
  have R' : ∀ x, Kd (Bb + 2) (m + 4) (25 * b + 720) x → (fun (g : Nat × Nat × PyData) d => Kd (g.1 + 2) (m + 4) (25 * g.2.1 + 720) d) (Bb, b, d) x := fun x h => h
  refine rn_seq (Nm := fun ρ' => ρ' = [some (.raw (.ref dk)), some (.dat d), none]) (rn_ifX (P := fun _ => True) (et_testX (P := fun d => ∃ b, d = .bool b) (ex_op (P1 := DrawR 12) (P2 := (· = .int 0)) (ex_dr 12 rfl (by decide) (by decide)) ex_int fun d e ⟨r, er, _⟩ he => ?_) fun d ⟨b, e⟩ => ⟨b, e, trivial⟩) (fun _ => ?_) fun _ => rn_next rfl) fun ρ e => ?_
  · subst er he
    intro H0 O σ ρ H u v en hu hv Q q
    cases hu
    cases hv
    exact ⟨rfl, q _ H _ (Kq.refl H) en.ok (.bl _) ⟨_, rfl⟩⟩
  · exact rn_retX (ex_callD () rfl (ea_one ex_int) rfl trivial (by simp)) fun x hx => R' _ ((show Kd B0 3 84 x from hx).mono)
  subst e
  have hin : Ii (dPm S dk cl h1 h2 []) (iRng1 (tCons (tCall spPick [] E0 (tCons (tVar 0) (tCons (tLst (tCons (tC (.int 0)) (tCons (tC (.int 1)) (tCons (tC (.int 1)) (tCons (tC (.int 1)) (tCons (tC (.int 2)) tNil)))))) tNil))) tNil)) [some (.raw (.ref dk)), some (.dat d), none] (fun ds => ∃ r : Int, 0 ≤ r ∧ r < 3 ∧ ds = rngD 0 r.toNat) := ii_rngX (k := 3) (by decide) (Ex.imp (ex_callD [0, 1, 1, 1, 2] rfl (ea_one (ed_lst (ea_consD ex_int (ea_consD ex_int (ea_consD ex_int (ea_consD ex_int (ea_one ex_int))))))) rfl (by decide) (by simp)) fun d ⟨x, hx, e⟩ => ⟨x, e, by simp at hx; omega, by simp at hx; omega⟩)
  refine rn_seq (Nm := fun ρ => ∃ x a2, Kd (Bb + 2) (m + 4) (25 * b + 720) x ∧ ρ = [some (.raw (.ref dk)), some (.dat x), a2]) (rn_for (fun ds t ρ => ∃ x a2, (t = 0 ∧ Kd Bb m b x ∨ t = 1 ∧ Kd (Bb + 1) (m + 2) (5 * b + 120) x ∨ Kd (Bb + 2) (m + 4) (25 * b + 720) x ∧ 2 ≤ t) ∧ ρ = [some (.raw (.ref dk)), some (.dat x), a2]) hin (fun ds e => ⟨d, _, .inl ⟨rfl, hd⟩, rfl⟩) (fun ds t y ρ e hy iv => ?_) (fun ds ρ e iv => ?_)) ?_
  · obtain ⟨x, a2, iv, rfl⟩ := iv
    obtain ⟨r, r0, r3, rfl⟩ := e
    obtain ⟨ht, rfl⟩ := rngD_get hy
    refine ⟨_, _, tg_name, ?_⟩
    rcases iv with ⟨rfl, hx⟩ | ⟨rfl, hx⟩ | ⟨_, h⟩
    · exact rn_setX (ex_callD (m, Bb, b, x) rfl (ea_one (ex_var rfl)) rfl ⟨⟨hx, hB, by show m ≤ m + 2; omega⟩, by show b ≤ 1500; omega, by show Bb + 1 < 2 ^ 190; omega⟩ (by simp)) fun z hz => ⟨z, _, .inr (.inl ⟨rfl, hz⟩), rfl⟩
    · refine rn_setX (ex_callD (m + 2, Bb + 1, 5 * b + 120, x) rfl (ea_one (ex_var rfl)) rfl ⟨⟨hx, by show B0 ≤ Bb + 1; omega, Nat.le_refl _⟩, by show 5 * b + 120 ≤ 1500; omega, by show Bb + 1 + 1 < 2 ^ 190; omega⟩ (by simp)) fun z hz => ⟨z, _, .inr (.inr ⟨?_, by omega⟩), rfl⟩
      exact (show Kd (Bb + 1 + 1) (m + 2 + 2) (5 * (5 * b + 120) + 120) z from hz).mono
    · omega
  · obtain ⟨x, a2, iv, rfl⟩ := iv
    refine ⟨x, a2, ?_, rfl⟩
    rcases iv with ⟨_, hx⟩ | ⟨_, hx⟩ | ⟨hx, _⟩ <;> exact hx.mono
  · rintro ρ ⟨x, a2, hx, rfl⟩
    exact rn_ret (ex_var rfl) (R' _ hx)
end
end Kz
set_option Elab.async false
set_option linter.all false
set_option maxRecDepth 100000
set_option maxHeartbeats 4000000
/-! Kz: the law's own is_table and is_form, of any value -/
namespace Kz
open PySem PySem.Spec PyProof.Rows L2
/-- within bounds -/
abbrev WdD (d : PyData) : Prop := ∃ B m, Kd B m 10000 d ∧ B < 2 ^ 190
theorem wd_len {ds : List PyData} : WdD (.tuple ds) → ds.length ≤ 10000
  | ⟨B, 0, h, _⟩ => absurd h kd_tup0
  | ⟨B, m + 1, h, _⟩ => kdl_len (kd_tup.mp h)
theorem wd_mem {ds : List PyData} {d : PyData} (hd : d ∈ ds) : WdD (.tuple ds) → WdD d
  | ⟨B, 0, h, _⟩ => absurd h kd_tup0
  | ⟨B, m + 1, h, hB⟩ => ⟨B, m, kdl_mem (kd_tup.mp h) hd, hB⟩
theorem wd_bd {r : Mat} : WdD (matD r) → Bd 1000 r := fun ⟨B, m, h, hB⟩ l hl x hx => by
  have h1 := kd_matInv h l hl x hx
  exact Nat.lt_of_le_of_lt h1 (Nat.lt_trans hB (by decide +kernel))
theorem flt_all (f : PyData → Bool) : ∀ ds : List PyData, ((ds.filter fun x => !f x).map id).isEmpty = ds.all f
  | [] => rfl
  | d :: ds => by
    have ih := flt_all f ds
    rw [List.filter_cons, List.all_cons]
    cases h : f d with
    | true =>
      rw [if_neg (by simp), Bool.true_and]
      exact ih
    | false => rw [if_pos (by simp)]; rfl
section
variable {p : Pm} {ρ : Rho} {ta : TE}
theorem ex_notB {P P' : PyData → Prop} (h : Ex p ta ρ P) (i : ∀ d, P d → ∃ b, d = .bool b ∧ P' (.bool (!b))) : Ex p (tNotV ta) ρ P' := fun H0 O σ H e Q q => by
  refine h H0 O σ H e _ fun v H2 d k o hd pd => ?_
  obtain ⟨b, rfl, pb⟩ := i d pd
  cases hd
  exact ⟨b, rfl, q _ H2 _ k o (.bl _) pb⟩
end
section
variable {P : Program} {w : World} {K : PySem.W.Frag} {mg : Str → Option Value} {base : Heap}
abbrev spLStepA : Sp := pureG [] 2 (G := Int × PyData) (fun g => [.int g.1, g.2]) (fun g => WdD g.2) (fun g d => d = .bool (isStep g.1 g.2))
theorem ok_lStepA (B : Bn mg) {f : Addr} {fd : FuncData} (F : Fun K "_law_is_step" "_law_is_step" sLStep f fd) : FnOk P w K mg base CX0 1 f fd ["n", "thing"] spLStepA := by
  refine ok_pureG F scLStep rfl (by decide) fun cdv A outer s H E hr => ⟨_, pss_cons (ps_if (PW.pt (pw_or (pt_not (pt_val (pIsi B (pv 1) (nTuple B)))) (pw_or1 (pt_cmpR op_ne (pLen B (pv 1)) (pv 0) (nomark _))))) (pss_one (ps_ret pe_bl)) pss_nil)
    (pss_one (ps_ret (pe_cmpR (opEqZ K hr.units) (pe_lc (own := [("x", 2)]) rfl scLStep.nd (piT K (pv 1)) (blkOk_by (own := [("x", 2)]) (N := ["n", "thing", "x"]) (sc := defScope sLStep) (by decide +kernel)) (fun _ _ _ _ _ => gN 2 scLStep.nd)
      (fun _ _ _ _ _ => pts_one (PW.pt (pw_or (pt_not (pt_val (pIsi' K B (pv 2) (nInt B)))) (pw_or1 (pt_val (pIsi' K B (pv 2) (nBool B))))))) (fun _ _ _ _ _ => pv 2)) (pe_lst pa_nil) (nomark _)))), fun p g hT hg => ?_⟩
  obtain ⟨n, a⟩ := g
  dsimp only at hg
  have v1 : Ed p (tVar 1) (startR ["n", "thing", "x"] [.int n, a]) a := ex_var rfl
  rcases (Bool.eq_false_or_eq_true (isTupB a)).symm with hf | ht
  · refine rn_when_ (t := true) (et_or (a := true) (b := true) ((et_notTup v1 er_c).imp fun b e => by rw [e, hf]; rfl) fun e => by cases e) (fun _ => rn_ret_ ex_bool ?_) fun e => by cases e
    show PyData.bool false = .bool (isStep n a)
    congr 1
    cases a <;> first | rfl | cases hf
  obtain ⟨ds, rfl⟩ : ∃ ds, a = .tuple ds := by cases a <;> first | exact ⟨_, rfl⟩ | cases ht
  refine rn_when_ (t := !decide ((ds.length : Int) = n)) (et_orX (a := false) (b := !decide ((ds.length : Int) = n)) (et_notTup v1 er_c) (fun _ => et_test (ed_neI (ed_cb (ea_one v1) (bc_len (.t ds))) (ex_var rfl))) rfl) (fun e => rn_ret_ ex_bool ?_) fun e => ?_
  · show PyData.bool false = .bool (decide _ && _)
    have : decide ((ds.length : Int) = n) = false := by simpa using e
    rw [this]; rfl
  · have hl : decide ((ds.length : Int) = n) = true := by simpa using e
    refine rn_ret (d := .bool (isStep n (.tuple ds))) (Ed.cast (ed_eqZ (ed_lcF (fun x => !isWhole x) id (ii_tup (ds := ds) v1) (wd_len hg) fun i d hd => ⟨[2], _, fun j hj => hj, tg_name, et_orX (a := !isIntB d) (b := isBoolB d) (et_notD (et_test (ed_isi (ex_var (d := d) rfl) er_c (by cases d <;> rfl)))) (fun _ => et_test (ed_isi (ex_var (d := d) rfl) er_c (by cases d <;> rfl))) (by cases d <;> rfl), fun _ => ex_var rfl⟩) (ed_lst ea_nil)) ?_) rfl
    show PyData.bool _ = .bool (decide _ && _)
    rw [flt_all, hl, Bool.true_and]
abbrev spLSqA : Sp := pureG [] 2 (G := Int × PyData) (fun g => [.int g.1, g.2]) (fun g => WdD g.2) (fun g d => d = .bool (isSquare g.1 g.2))
theorem ok_lSqA (B : Bn mg) {f : Addr} {fd : FuncData} (F : Fun K "_law_is_square" "_law_is_square" sLSq f fd) (C : Cl P w K mg base "_law_is_step" ["n", "thing"] 1 spLStepA) : FnOk P w K mg base CX0 2 f fd ["n", "thing"] spLSqA := by
  refine ok_pureG F scLSq rfl (by decide) fun cdv A outer s H E hr => ⟨_, pss_one (ps_ret (pe_and (pIsi B (pv 1) (nTuple B)) (pe_and (pe_cmpR op_eq (pLen B (pv 1)) (pv 0) (nomark _)) (pe_one (pe_cmpR (opEqZ K hr.units) (pe_lc (own := [("row", 2)]) rfl scLSq.nd (piT K (pv 1)) (blkOk_by (own := [("row", 2)]) (N := ["n", "thing", "row"]) (sc := defScope sLSq) (by decide +kernel)) (fun _ _ _ _ _ => gN 2 scLSq.nd)
      (fun _ _ _ _ _ => pts_one (pt_not (pt_val (pCall C hr (by decide) (pa_cons (pv 0) (pa_cons (pv 2) pa_nil)))))) (fun _ _ _ _ _ => pv 2)) (pe_lst pa_nil) (nomark _)))))), fun p g hT hg => ?_⟩
  obtain ⟨n, a⟩ := g
  dsimp only at hg
  have v1 : Ed p (tVar 1) (startR ["n", "thing", "row"] [.int n, a]) a := ex_var rfl
  refine rn_ret (d := .bool (isSquare n a)) (ed_andV (a := isTupB a) (ed_isi v1 er_c (by cases a <;> rfl)) (fun ht => ?_) fun hf => ?_) rfl
  · obtain ⟨ds, rfl⟩ : ∃ ds, a = .tuple ds := by cases a <;> first | exact ⟨_, rfl⟩ | cases ht
    refine ed_andV (a := decide ((ds.length : Int) = n)) (ed_eqI (ed_cb (ea_one v1) (bc_len (.t ds))) (ex_var rfl)) (fun hl => Ed.cast (ed_eqZ (ed_lcF (fun x => !isStep n x) id (ii_tup (ds := ds) v1) (wd_len hg) fun i d hd => ⟨[2], _, fun j hj => hj, tg_name, et_notX (et_test (ed_callG (n, d) (ea_consD (ex_var rfl) (ea_one (ex_var rfl))) rfl (wd_mem (List.mem_of_getElem? hd) hg) (by simp) fun d h => h)) rfl, fun _ => ex_var rfl⟩) (ed_lst ea_nil)) ?_) fun hl => ?_
    · show PyData.bool _ = .bool (decide _ && _)
      rw [flt_all, hl, Bool.true_and]
    · show PyData.bool false = .bool (decide _ && _)
      rw [hl]; rfl
  · show PyData.bool false = .bool (isSquare n a)
    congr 1
    cases a <;> first | rfl | cases hf
abbrev spLTabA : Sp := pureG [] 1 (G := PyData) (fun a => [a]) (fun a => WdD a) (fun a d => ∃ b, d = .bool b ∧ (b = true ↔ IsTab a))
theorem ok_lTabA (B : Bn mg) {f : Addr} {fd : FuncData} (F : Fun K "_law_is_table" "_law_is_table" sLTab f fd) (C : Cl P w K mg base "_law_is_square" ["n", "thing"] 2 spLSqA) : FnOk P w K mg base CX0 3 f fd ["thing"] spLTabA := by
  refine ok_pureG F scLTab rfl (by decide) fun cdv A outer s H E hr => ⟨_, pss_cons (ps_if (PW.pt (pw_or (pt_not (pt_val (pIsi B (pv 0) (nTuple B)))) (pw_or (pt_not (pt_chain op_le op_le pe_int (pLen B (pv 0)) pe_int)) (pw_or1 (pt_not (pt_val (pCall C hr (by decide) (pa_cons (pLen B (pv 0)) (pa_cons (pv 0) pa_nil))))))))) (pss_one (ps_ret pe_bl)) pss_nil)
    (pss_one (ps_ret (pe_cmpR (op_eqD hr.units) (pe_lc (own := [("i", 1), ("row", 2)]) rfl scLTab.nd (piE K B (pv 0)) (blkOk_by (own := [("i", 1), ("row", 2)]) (N := ["thing", "i", "row", "other"]) (sc := defScope sLTab) (by decide +kernel)) (fun _ _ _ _ _ => gP' K 1 2 rfl scLTab.nd)
      (fun _ _ _ _ _ => pts_one (pt_cmpR (opNeD K hr.units) (pv 2) (pTup' K B (pe_lc (own := [("other", 3)]) rfl scLTab.nd (piT K (pv 0)) (blkOk_by (own := [("other", 3)]) (N := ["thing", "i", "row", "other"]) (sc := relab (defScope sLTab) _) (by decide +kernel)) (fun _ _ _ _ _ => gN 3 scLTab.nd) (fun _ _ _ _ _ => pts_nil) (fun _ _ _ _ _ => pe_ix (ixT K) (pv 3) (pv 1) (fun _ _ => rfl)))) (nomark _))) (fun _ _ _ _ _ => pe_int)) (pe_lst pa_nil) (nomark _)))), fun p a hT hg => ?_⟩
  rcases (Bool.eq_false_or_eq_true (isTupB a)).symm with hf | ht
  · refine rn_when_ (t := true) (et_or (a := true) (b := true) ((et_notTup (ex_var (d := a) rfl) er_c).imp fun b e => by rw [e, hf]; rfl) fun e => by cases e) (fun _ => rn_ret_ ex_bool (not_tab fun ⟨m, r, e, _⟩ => ?_)) fun e => by cases e
    rw [e] at hf
    cases hf
  obtain ⟨es, rfl⟩ : ∃ es, a = .tuple es := by
    cases a <;> first | exact ⟨_, rfl⟩ | cases ht
  have v0' : Ed p (tVar 0) (startR ["thing", "i", "row", "other"] [.tuple es]) (.tuple es) := ex_var rfl
  refine rn_when_ (t := !(decide ((1 : Int) ≤ es.length) && decide ((es.length : Int) ≤ 3)) || !isSquare (es.length : Int) (.tuple es)) (et_orX (a := false) (b := !(decide ((1 : Int) ≤ es.length) && decide ((es.length : Int) ≤ 3)) || !isSquare (es.length : Int) (.tuple es)) (et_notTup v0' er_c) (fun _ => et_orX (a := !(decide ((1 : Int) ≤ es.length) && decide ((es.length : Int) ≤ 3))) (b := !isSquare (es.length : Int) (.tuple es)) (et_notX (et_test (ed_chainII (f := fun i j => decide (i ≤ j)) (g := fun i j => decide (i ≤ j)) ex_int (ed_cb (ea_one v0') (bc_len (.t es))) ex_int)) rfl) (fun e => et_notX (et_test (ed_callG ((es.length : Int), .tuple es) (ea_consD (ed_cb (ea_one v0') (bc_len (.t es))) (ea_one v0')) rfl hg (by simp) fun d h => h)) rfl) rfl) rfl) (fun e => rn_ret_ ex_bool (not_tab fun ⟨m, r, e2, s, h1, h3, _⟩ => ?_)) fun e => ?_
  · have hm : es.length = m := by
      injection e2 with e2
      rw [e2, List.length_map, s.h]
    have h4 := isSquare_iff.mpr ⟨r, rfl, s⟩
    rw [← e2, ← hm] at h4
    rw [h4, decide_eq_true (by omega), decide_eq_true (by omega)] at e
    cases e
  rw [Bool.or_eq_false_iff, Bool.not_eq_false', Bool.not_eq_false', Bool.and_eq_true, decide_eq_true_iff, decide_eq_true_iff] at e
  obtain ⟨⟨hm1, hm⟩, e⟩ := e
  obtain ⟨r, er, sq⟩ := isSquare_iff.mp e
  rw [er] at v0' hg ⊢
  generalize es.length = m at *
  have v0 : Ed p (tVar 0) (startR ["thing", "i", "row", "other"] [matD r]) (matD r) := v0'
  have hm1 : 1 ≤ m := by omega
  have hm : m ≤ 3 := by omega
  have tabi : IsTab (matD r) ↔ SymM r := ⟨fun ⟨m', r', e, _, _, _, hs⟩ => by rw [matD_inj e]; exact hs, fun q => ⟨m, r, rfl, sq, hm1, hm, q⟩⟩
  refine rn_retX (P := fun d => ∃ b, d = .bool b ∧ (b = true ↔ SymM r)) (ex_op (P1 := fun d => ∃ ns : List Int, d = .list (ns.map .int) ∧ (ns = [] ↔ SymM r)) (P2 := (· = .list [])) (ex_lc (fun ds k es => ∃ ns : List Int, es = ns.map .int ∧ (ns = [] ↔ ∀ i, i < k → ∀ j, j < m → ent r i j = ent r j i)) (ii_enumT (ds := r.map rowD) v0) (fun l e => by rw [e, enumD_len]; have := sq.h; simp; omega) (fun l e => ⟨[], rfl, by simp⟩) (fun l k d es hl hd iv => ?_) (fun l es hl iv => ?_)) (ed_lst ea_nil) fun d e ⟨ns, h1, h2⟩ he => ?_) (fun d ⟨b, h1, h2⟩ => ⟨b, h1, h2.trans tabi.symm⟩)
  · subst hl
    obtain ⟨ns, rfl, hns⟩ := iv
    obtain ⟨x', hx', rfl⟩ := enumD_get hd
    rw [List.getElem?_map] at hx'
    obtain ⟨row, hrow, rfl⟩ := Option.map_eq_some_iff.mp hx'
    have hk : k < m := by have := (List.getElem?_eq_some_iff.mp hrow).1; have := sq.h; omega
    refine ⟨_, _, _, ?_, tg_pair tg_name tg_name, et_test (ed_neD (d := rowD row) (e := rowD (r.map fun l => l.getD k 0)) (ex_var rfl) (ed_cb (ea_one (ed_lcM ((r.map fun l => l.getD k 0).map .int) (ii_tup (ds := r.map rowD) (ex_var rfl)) (by simp) (by have := sq.h; simp; omega) fun j d e hd he => ?_)) (bc_tuple (.l _))) (eqd_row _) (eqd_row _)), fun e => ?_, fun e => ?_⟩
    · decide
    · rw [List.map_map, List.getElem?_map] at he
      rw [List.getElem?_map] at hd
      obtain ⟨o, ho, rfl⟩ := Option.map_eq_some_iff.mp hd
      rw [ho] at he
      cases he
      have how := sq.w o (List.mem_of_getElem? ho)
      refine ⟨[3], _, fun j hj => hj, tg_name, ed_ixT (ds := o.map .int) (i := (k : Int)) (ex_var rfl) (ex_var rfl) (rowD_at ?_)⟩
      show _ = some (o.getD k 0)
      rw [List.getElem?_eq_getElem (by omega), List.getD_eq_getElem?_getD, List.getElem?_eq_getElem (by omega)]; rfl
    · rw [eqv_row] at e
      have hne : ¬ row = r.map fun l => l.getD k 0 := by simpa using e.symm
      refine Ex.imp (P := (· = .int 1)) ex_int fun y hy => ⟨ns ++ [1], by rw [hy]; simp, ?_⟩
      simp
      refine ⟨k, by omega, ?_⟩
      rw [row_col sq hrow] at hne
      simpa using hne
    · rw [eqv_row] at e
      have he : row = r.map fun l => l.getD k 0 := by simpa using e.symm
      rw [row_col sq hrow] at he
      refine ⟨ns, rfl, hns.trans ⟨fun q i hi => ?_, fun q i hi => q i (by omega)⟩⟩
      rcases Nat.lt_succ_iff_lt_or_eq.mp hi with z | z
      · exact q i z
      · rw [z]; exact he
  · subst hl
    obtain ⟨ns, rfl, hns⟩ := iv
    rw [enumD_len, List.length_map, sq.h] at hns
    exact ⟨ns, rfl, hns.trans ⟨fun q => sym_of sq fun i j h1 h2 => q i h2 j (by omega), fun q i _ j _ => q i j⟩⟩
  · subst h1 he
    exact fun H0 O σ ρ H x y en hx hy Q q => ⟨_, _, hx.dp _ x (hdI ns), hy.dp _ y rfl, shI ns, shI [], q _ H _ (Kq.refl H) en.ok (.bl _) ⟨_, rfl, by rw [eqv_nilI, decide_eq_true_iff]; exact h2⟩⟩
abbrev spLFormA : Sp := pureG [] 1 (G := PyData) (fun a => [a]) (fun a => WdD a) (fun a d => ∃ b, d = .bool b ∧ (b = true ↔ IsFormD a))
theorem ok_lFormA (B : Bn mg) {f : Addr} {fd : FuncData} (F : Fun K "_law_is_form" "_law_is_form" sLForm f fd) (C : Cl P w K mg base "_law_is_table" ["thing"] 3 spLTabA) (C2 : Cl P w K mg base "_law_det" ["rows"] 4 spLDetA) : FnOk P w K mg base CX0 5 f fd ["thing"] spLFormA := by
  refine ok_pureG F scLForm rfl (by decide) fun cdv A outer s H E hr => ⟨_, pss_cons (ps_if (pt_not (pt_val (pCall C hr (by decide) (pa_cons (pv 0) pa_nil)))) (pss_one (ps_ret pe_bl)) pss_nil)
    (pss_one (ps_ret (pe_cmpR (op_eqD hr.units) (pe_lc (own := [("k", 1)]) rfl scLForm.nd (piR2 B pe_int (pe_op op_add (pLen B (pv 0)) pe_int)) (blkOk_by (own := [("k", 1)]) (N := ["thing", "k", "row"]) (sc := defScope sLForm) (by decide +kernel)) (fun _ _ _ _ _ => gN 1 scLForm.nd)
      (fun _ _ _ _ _ => pts_one (pt_cmpR op_le (pCall C2 hr (by decide) (pa_cons (pTup' K B (pe_lc (own := [("row", 2)]) rfl scLForm.nd (piT K (pe_slice (slA K) (pv 0) po_none (po_some (pv 1)))) (blkOk_by (own := [("row", 2)]) (N := ["thing", "k", "row"]) (sc := relab (defScope sLForm) _) (by decide +kernel)) (fun _ _ _ _ _ => gN 2 scLForm.nd) (fun _ _ _ _ _ => pts_nil) (fun _ _ _ _ _ => pe_slice (slA K) (pv 2) po_none (po_some (pv 1))))) pa_nil)) pe_int (nomark _))) (fun _ _ _ _ _ => pv 1)) (pe_lst pa_nil) (nomark _)))), fun p a hT hg => ?_⟩
  have v0' : Ed p (tVar 0) (startR ["thing", "k", "row"] [a]) a := ex_var rfl
  refine rn_seq (Nm := fun ρ => ρ = startR ["thing", "k", "row"] [a] ∧ IsTab a) (rn_ifX (P := fun b => b = true ↔ ¬ IsTab a) (et_notR (P := fun b => b = true ↔ IsTab a) (et_testX (P := fun d => ∃ b, d = .bool b ∧ (b = true ↔ IsTab a)) (ex_callG a (ea_one v0') rfl hg (by simp)) (fun d h => h)) (fun b h => ?_)) (fun e => rn_ret ex_bool ⟨false, rfl, ?_⟩) (fun e => rn_next ⟨rfl, ?_⟩)) ?_
  · rw [← h]; cases b <;> simp
  · have := e.mp rfl
    constructor
    · intro z; cases z
    · exact fun ⟨m, r, e, f⟩ => absurd (by rw [e]; exact tab_form f) this
  · by_cases z : IsTab a
    · exact z
    · have := e.mpr z; cases this
  rintro ρ ⟨rfl, m, r, rfl, sq, hm1, hm, hsym⟩
  have bd := wd_bd hg
  have v0 : Ed p (tVar 0) (startR ["thing", "k", "row"] [matD r]) (matD r) := v0'
  have frm : IsFormD (matD r) ↔ ∀ k, 1 ≤ k → k ≤ m → 0 < detE (lead r k) := ⟨fun ⟨m', r', e, f⟩ k h1 h2 => by
    have e := matD_inj e
    subst e
    have : m = m' := by rw [← sq.h, f.s.h]
    subst this
    exact f.pos k h1 h2, fun q => ⟨m, r, rfl, sq, hm1, hm, hsym, q⟩⟩
  refine rn_retX (P := fun d => ∃ b, d = .bool b ∧ (b = true ↔ ∀ k, 1 ≤ k → k ≤ m → 0 < detE (lead r k))) (ex_op (P1 := fun d => ∃ ns : List Int, d = .list (ns.map .int) ∧ (ns = [] ↔ ∀ k, 1 ≤ k → k ≤ m → 0 < detE (lead r k))) (P2 := (· = .list [])) (ex_lc (fun ds i es => ∃ ns : List Int, es = ns.map .int ∧ (ns = [] ↔ ∀ k, 1 ≤ k → k ≤ i → 0 < detE (lead r k))) (ii_rng2 ex_int (ed_add (i := (m : Int)) (Ed.cast (ed_cb (ea_one v0) (bc_len (.t _))) (by rw [List.length_map, sq.h])) ex_int) (by omega)) (fun l e => by rw [e, rngD_len]; omega) (fun l e => ⟨[], rfl, ⟨fun _ k h1 h2 => by omega, fun _ => rfl⟩⟩) (fun l i d es hl hd iv => ?_) (fun l es hl iv => ?_)) (ed_lst ea_nil) fun d e ⟨ns, h1, h2⟩ he => ?_) (fun d ⟨b, h1, h2⟩ => ⟨b, h1, h2.trans frm.symm⟩)
  · subst hl
    obtain ⟨ns, rfl, hns⟩ := iv
    obtain ⟨hi, rfl⟩ := rngD_get hd
    have ek : (1 : Int) + (i : Int) = ((i + 1 : Nat) : Int) := by omega
    rw [ek]
    have hk : i + 1 ≤ m := by omega
    have okk : (∃ m, m ≤ 3 ∧ Sq m (lead r (i + 1))) ∧ Bd 1000 (lead r (i + 1)) := ⟨⟨i + 1, by omega, sq_lead sq hk⟩, bd_lead bd⟩
    refine ⟨[1], _, _, by simp, tg_name, et_test (ed_cmp (c := fun i j => decide (i ≤ j)) (i := detE (lead r (i + 1))) (ed_callG (lead r (i + 1)) (ea_one (ed_cb (ea_one (ed_lcM ((lead r (i + 1)).map rowD) (ii_tup (Ed.cast (ed_slT (ds := r.map rowD) (ex_var rfl) eo_no (eo_part (i := ((i + 1 : Nat) : Int)) (ex_var rfl))) (by rw [cutD_to, ← List.map_take]))) (by unfold lead; simp) (by have := sq.h; simp; omega) fun j d e hd he => ?_)) (bc_tuple (.l _)))) rfl okk (by simp) fun d h => h) ex_int), fun e => ?_, fun e => ?_⟩
    · unfold lead at he
      rw [List.map_map, List.getElem?_map] at he
      rw [List.getElem?_map] at hd
      obtain ⟨l, hl', rfl⟩ := Option.map_eq_some_iff.mp hd
      rw [hl'] at he
      cases he
      refine ⟨[2], _, fun j hj => hj, tg_name, Ed.cast (ed_slT (ds := l.map .int) (ex_var rfl) eo_no (eo_part (i := ((i + 1 : Nat) : Int)) (ex_var rfl))) ?_⟩
      rw [cutD_to, ← List.map_take]; rfl
    · have hle : detE (lead r (i + 1)) ≤ 0 := of_decide_eq_true e.symm
      refine Ex.imp (P := (· = .int ((i + 1 : Nat) : Int))) (ex_var rfl) fun y hy => ⟨ns ++ [((i + 1 : Nat) : Int)], by rw [hy]; simp, ⟨fun z => by simp at z, fun q => ?_⟩⟩
      have := q (i + 1) (by omega) (by omega)
      omega
    · have hlt : 0 < detE (lead r (i + 1)) := by
        have := of_decide_eq_false e.symm
        omega
      refine ⟨ns, rfl, hns.trans ⟨fun q k h1 h2 => ?_, fun q k h1 h2 => q k h1 (by omega)⟩⟩
      by_cases z : k = i + 1
      · rw [z]; exact hlt
      · exact q k h1 (by omega)
  · subst hl
    obtain ⟨ns, rfl, hns⟩ := iv
    rw [rngD_len] at hns
    have : ((m : Int) + 1 - 1).toNat = m := by omega
    rw [this] at hns
    exact ⟨ns, rfl, hns⟩
  · subst h1 he
    exact fun H0 O σ ρ H x y en hx hy Q q => ⟨_, _, hx.dp _ x (hdI ns), hy.dp _ y rfl, shI ns, shI [], q _ H _ (Kq.refl H) en.ok (.bl _) ⟨_, rfl, by rw [eqv_nilI, decide_eq_true_iff]; exact h2⟩⟩
end
end Kz
set_option Elab.async false
set_option linter.all false
set_option maxRecDepth 100000
set_option maxHeartbeats 4000000
/-! Kz (for laws of changes): leans_by, led_by, is_change -/
namespace Kz
open PySem PySem.Spec PyProof.Rows L2
def leansM (t c : Mat) : Mat := c.map fun one => c.map fun other => leanM t one other
def ledM (n : Nat) (c : Mat) (x : List Int) : List Int := (List.range n).map fun j => (List.zipWith (fun a row => a * row.getD j 0) x c).sum
section
variable {P : Program} {w : World} {K : PySem.W.Frag} {mg : Str → Option Value} {base : Heap}
abbrev sLeansBy : Stmt := topS 16
abbrev sLedBy : Stmt := topS 17
abbrev sIsCh : Stmt := topS 23
theorem scLeansBy : FnScope ["table", "steps", "one", "other"] ["table", "steps"] (defScope sLeansBy) := ⟨rfl, rfl, rfl, by decide +kernel, rfl, by decide +kernel, by decide +kernel⟩
theorem scLedBy : FnScope ["rows", "numbers", "columns", "at", "number", "row"] ["rows", "numbers"] (defScope sLedBy) := ⟨rfl, rfl, rfl, by decide +kernel, rfl, by decide +kernel, by decide +kernel⟩
theorem scIsCh : FnScope ["n", "thing"] ["n", "thing"] (defScope sIsCh) := ⟨rfl, rfl, rfl, by decide +kernel, rfl, by decide +kernel, by decide +kernel⟩
abbrev spLeansBy : Sp := pureG [] 2 (G := Mat × Mat) (fun g => [matD g.1, matD g.2]) (fun g => (Bd 1000 g.1 ∧ Bd 1000 g.2) ∧ g.2.length ≤ 64) (fun g d => d = matD (leansM g.1 g.2))
theorem ok_leansBy (B : Bn mg) {f : Addr} {fd : FuncData} (F : Fun K "leans_by" "leans_by" sLeansBy f fd) (C : Cl P w K mg base "lean_by" ["table", "one", "other"] 1 spLeanBy) : FnOk P w K mg base CX0 2 f fd ["table", "steps"] spLeansBy := by
  refine ok_pureG F scLeansBy rfl (by decide) fun cdv A outer s H E hr => ⟨_, pss_one (ps_ret (pTuple B (pe_lc (own := [("one", 2)]) rfl scLeansBy.nd (piT K (pv 1)) (blkOk_by (own := [("one", 2)]) (N := ["table", "steps", "one", "other"]) (sc := defScope sLeansBy) (by decide +kernel)) (fun _ _ _ _ _ => gN 2 scLeansBy.nd) (fun _ _ _ _ _ => pts_nil)
    (fun _ _ _ _ _ => pTup' K B (pe_lc (own := [("other", 3)]) rfl scLeansBy.nd (piT K (pv 1)) (blkOk_by (own := [("other", 3)]) (N := ["table", "steps", "one", "other"]) (sc := relabel _ (envOfC "" (defScope sLeansBy) 0 0 .none)) (by decide +kernel)) (fun _ _ _ _ _ => gN 3 scLeansBy.nd) (fun _ _ _ _ _ => pts_nil) (fun _ _ _ _ _ => pCall C hr (by decide) (pa_cons (pv 0) (pa_cons (pv 2) (pa_cons (pv 3) pa_nil)))))))))
    , fun p g hT hg => ?_⟩
  obtain ⟨t, c⟩ := g
  obtain ⟨⟨bt, bc⟩, hl⟩ := hg
  dsimp only at bt bc hl
  refine rn_ret (d := matD (leansM t c)) (ed_cb (ea_one (ed_lcM ((leansM t c).map rowD) (ii_tup (ds := c.map rowD) (ex_var rfl)) (by simp [leansM]) (by simp; omega) fun i d e hd he => ?_)) (bc_tuple (.l _))) rfl
  unfold leansM at he
  rw [List.map_map, List.getElem?_map] at he
  rw [List.getElem?_map] at hd
  obtain ⟨one, ho, rfl⟩ := Option.map_eq_some_iff.mp hd
  rw [ho] at he
  cases he
  refine ⟨[2], _, fun j hj => hj, tg_name, ed_cb (ea_one (ed_lcM ((c.map fun other => leanM t one other).map .int) (ii_tup (ds := c.map rowD) (ex_var rfl)) (by simp) (by simp; omega) fun j d e hd he => ?_)) (bc_tuple (.l _))⟩
  rw [List.map_map, List.getElem?_map] at he
  rw [List.getElem?_map] at hd
  obtain ⟨other, ho2, rfl⟩ := Option.map_eq_some_iff.mp hd
  rw [ho2] at he
  cases he
  exact ⟨[3], _, fun j hj => hj, tg_name, ed_callG (t, one, other) (ea_consD (ex_var rfl) (ea_consD (ex_var rfl) (ea_one (ex_var rfl)))) rfl ⟨bt, bc one (List.mem_of_getElem? ho), bc other (List.mem_of_getElem? ho2)⟩ (by simp) fun d h => h⟩
abbrev spLedBy : Sp := pureG [] 2 (G := Nat × Mat × List Int) (fun g => [matD g.2.1, rowD g.2.2]) (fun g => (1 ≤ g.1 ∧ g.1 ≤ 64 ∧ Sq g.1 g.2.1) ∧ Bd 1000 g.2.1 ∧ g.2.2.length = g.1 ∧ BdL 1000 g.2.2) (fun g d => d = rowD (ledM g.1 g.2.1 g.2.2))
theorem ok_ledBy (B : Bn mg) {f : Addr} {fd : FuncData} (F : Fun K "led_by" "led_by" sLedBy f fd) : FnOk P w K mg base CX0 1 f fd ["rows", "numbers"] spLedBy := by
  refine ok_pureG F scLedBy rfl (by decide) fun cdv A outer s H E hr => ⟨_, pss_cons (ps_set (i := 2) scLedBy.nd rfl (.inl rfl) (pRange B (pLen B (pe_ix (ixT K) (pv 0) pe_int (fun _ _ => rfl)))))
    (pss_one (ps_ret (pTuple B (pe_lc (own := [("at", 3)]) rfl scLedBy.nd (pi_rv (pv 2)) (blkOk_by (own := [("at", 3)]) (N := ["rows", "numbers", "columns", "at", "number", "row"]) (sc := defScope sLedBy) (by decide +kernel)) (fun _ _ _ _ _ => gN 3 scLedBy.nd) (fun _ _ _ _ _ => pts_nil)
      (fun _ _ _ _ _ => pSum' K B rfl (pe_lc (own := [("number", 4), ("row", 5)]) rfl scLedBy.nd (piZ K B (pv 1) (pv 0)) (blkOk_by (own := [("number", 4), ("row", 5)]) (N := ["rows", "numbers", "columns", "at", "number", "row"]) (sc := relabel _ (envOfC "" (defScope sLedBy) 0 0 .none)) (by decide +kernel)) (fun _ _ _ _ _ => gP' K 4 5 rfl scLedBy.nd) (fun _ _ _ _ _ => pts_nil) (fun _ _ _ _ _ => pe_op op_mulW (pv 4) (pe_ix (ixT K) (pv 5) (pv 3) (fun _ _ => rfl)))))))))
    , fun p g hT hg => ?_⟩
  obtain ⟨n, c, x⟩ := g
  obtain ⟨⟨h1, h64, sq⟩, bc, hx, bx⟩ := hg
  dsimp only at h1 h64 sq bc hx bx
  obtain ⟨row0, hr0⟩ : ∃ row, c[0]? = some row := ⟨c[0]'(by have := sq.h; omega), List.getElem?_eq_getElem _⟩
  have hw0 := sq.w row0 (List.mem_of_getElem? hr0)
  refine rn_seq (Nm := fun ρ => ρ = [some (.dat (matD c)), some (.dat (rowD x)), some (.rng 0 (n : Int)), none, none, none]) (rn_rng (ea_one (ed_cb (ea_one (ed_ixT (ds := c.map rowD) (d := rowD row0) (ex_var rfl) ex_int (matD_at (j := 0) hr0))) (bc_len (.t _)))) (by rw [List.length_map, hw0]; exact rng1_sp) rfl) fun ρ e => ?_
  subst e
  refine rn_ret (d := rowD (ledM n c x)) (ed_cb (ea_one (ed_lcM ((ledM n c x).map .int) (ii_rv (lo := 0) (hi := (n : Int)) rfl (by omega)) (by rw [rngD_len]; simp [ledM]) (by rw [rngD_len]; omega) fun j d e hd he => ?_)) (bc_tuple (.l _))) rfl
  obtain ⟨hj, rfl⟩ := rngD_get hd
  have hj' : j < n := by omega
  have ej : (0 : Int) + (j : Int) = (j : Int) := by omega
  rw [ej]
  unfold ledM at he
  rw [List.map_map, List.getElem?_map, List.getElem?_range hj'] at he
  cases he
  refine ⟨[3], _, fun j hj => hj, tg_name, ed_cb (ea_one (ed_lcM ((List.zipWith (fun a row => a * row.getD j 0) x c).map .int) (ii_zipT (ds := x.map .int) (es := c.map rowD) (ex_var rfl) (ex_var rfl)) (by rw [zipD_len]; simp) (by rw [zipD_len]; simp; omega) fun m d e hd he => ?_)) bc_sum⟩
  obtain ⟨u', v', g1, g2, rfl⟩ := zipD_get hd
  rw [List.getElem?_map] at g1 g2
  obtain ⟨u, hu, rfl⟩ := Option.map_eq_some_iff.mp g1
  obtain ⟨row, hrow, rfl⟩ := Option.map_eq_some_iff.mp g2
  rw [List.getElem?_map, zipWith_at hu hrow] at he
  cases he
  have hwr := sq.w row (List.mem_of_getElem? hrow)
  have hat : row[j]? = some (row.getD j 0) := by rw [List.getD_eq_getElem?_getD, List.getElem?_eq_getElem (by omega)]; rfl
  refine ⟨_, _, ?_, tg_pair tg_name tg_name, ed_mulW (ex_var rfl) (ed_ixT (ds := row.map .int) (i := (j : Int)) (ex_var rfl) (ex_var rfl) (rowD_at hat)) (mul_ok (bx u (List.mem_of_getElem? hu)) (bc row (List.mem_of_getElem? hrow) _ (List.mem_of_getElem? hat)))⟩
  decide
/-- a change: rows of ints of the determinant 1 or -1 -/
def IsCh (n : Nat) (a : PyData) : Prop := ∃ r, a = matD r ∧ Sq n r ∧ (detE r = 1 ∨ detE r = -1)
abbrev spIsCh (Ts : List Addr) : Sp := pureG Ts 2 (G := Nat × PyData) (fun g => [.int (g.1 : Int), g.2]) (fun g => g.1 ≤ 3 ∧ ∀ r, g.2 = matD r → Bd 1000 r) (fun g d => ∃ b, d = .bool b ∧ (b = true ↔ IsCh g.1 g.2))
theorem ok_isCh (B : Bn mg) {f P1 P2 : Addr} {fd : FuncData} (F : Fun K "is_change" "is_change" sIsCh f fd) (C : Cl P w K mg base "is_square" ["n", "thing"] 7 (spSquare [P1, P2])) (C2 : Cl P w K mg base "determinant" ["rows"] 4 spDetA) : FnOk P w K mg base CX0 8 f fd ["n", "thing"] (spIsCh [P1, P2]) := by
  refine ok_pureG F scIsCh rfl (by decide) fun cdv A outer s H E hr => ⟨_, pss_one (ps_ret (pe_and (pCall C hr (by decide) (pa_cons (pv 0) (pa_cons (pv 1) pa_nil))) (pe_one (pe_cmpR op_in_seq (pCall C2 hr (by decide) (pa_cons (pv 1) pa_nil)) (pe_tup (pa_cons pe_int (pa_cons (pe_un un_neg pe_int) pa_nil))) rfl)))), fun p g hT hg => ?_⟩
  obtain ⟨n, a⟩ := g
  obtain ⟨hn, hb⟩ := hg
  dsimp only at hn hb
  have key : ∀ r, a = matD r → Sq n r → (IsCh n a ↔ (detE r = 1 ∨ detE r = -1)) := fun r e s => ⟨fun ⟨r', e', _, h⟩ => by rw [matD_inj (e.symm.trans e')]; exact h, fun h => ⟨r, e, s, h⟩⟩
  refine rn_retX (P := fun d => ∃ b, d = .bool b ∧ (b = true ↔ IsCh n a)) (ed_andV (a := isSquare (n : Int) a) (Ex.imp (ex_call (Pa := (· = [.int (n : Int), a])) (ea_consD (ex_var rfl) (ea_one (ex_var rfl))) (fun l e => by rw [e]; exact ⟨rfl, _, _, rfl⟩) (fun Q hQ => hT Q hQ)) fun d ⟨l, e, h⟩ => h _ _ e) (fun e => ?_) (fun e => ⟨false, rfl, ?_⟩)) fun d h => h
  · obtain ⟨r, er, s⟩ := isSquare_iff.mp e
    refine Ex.imp (ed_inI (neg := false) (i := detE r) (ns := [1, -1]) (ed_callG r (ea_one (Ed.cast (ex_var rfl) er)) rfl ⟨⟨n, hn, s⟩, hb r er⟩ (by simp) fun d h => h) (ed_tup (ea_consD ex_int (ea_one (ed_neg ex_int))))) fun d hd => ⟨_, hd, ?_⟩
    rw [key r er s]
    simp
  · constructor
    · intro z; cases z
    · rintro ⟨r, er, s, _⟩
      rw [isSquare_iff.mpr ⟨r, er, s⟩] at e
      cases e
end
end Kz
set_option Elab.async false
set_option linter.all false
set_option maxRecDepth 100000
set_option maxHeartbeats 4000000
/-! Kz (for laws of changes): need_change, changed, led, back, where nothing is wrong -/
namespace Kz
open PySem PySem.Spec PyProof.Rows L2
/-- the change that leads back -/
def backM (n : Nat) (c : Mat) : Mat := (adjM n c).map fun row => row.map fun x => detE c * x
structure Chg (n : Nat) (c : Mat) : Prop where
  s : Sq n c
  lo : 1 ≤ n
  hi : n ≤ 3
  d : detE c = 1 ∨ detE c = -1
  b : Bd 1000 c
theorem Chg.is {n : Nat} {c : Mat} (h : Chg n c) : IsCh n (matD c) := ⟨c, rfl, h.s, h.d⟩
section
variable {P : Program} {w : World} {K : PySem.W.Frag} {mg : Str → Option Value} {base : Heap}
abbrev sChanged : Stmt := topS 24
abbrev sLed : Stmt := topS 25
abbrev sBack : Stmt := topS 26
abbrev sNeedC : Stmt := topS 30
theorem scChanged : FnScope ["form", "change"] ["form", "change"] (defScope sChanged) := ⟨rfl, rfl, rfl, by decide +kernel, rfl, by decide +kernel, by decide +kernel⟩
theorem scLed : FnScope ["n", "change", "step"] ["n", "change", "step"] (defScope sLed) := ⟨rfl, rfl, rfl, by decide +kernel, rfl, by decide +kernel, by decide +kernel⟩
theorem scBack : FnScope ["n", "change", "sign", "row", "number"] ["n", "change"] (defScope sBack) := ⟨rfl, rfl, rfl, by decide +kernel, rfl, by decide +kernel, by decide +kernel⟩
theorem scNeedC : FnScope ["n", "thing"] ["n", "thing"] (defScope sNeedC) := ⟨rfl, rfl, rfl, by decide +kernel, rfl, by decide +kernel, by decide +kernel⟩
abbrev spNeedC (Ts : List Addr) : Sp := pureG Ts 2 (G := Nat × Mat) (fun g => [.int (g.1 : Int), matD g.2]) (fun g => Chg g.1 g.2) (fun _ d => d = .none)
theorem ok_needC (B : Bn mg) {f P1 P2 : Addr} {fd : FuncData} (F : Fun K "need_change" "need_change" sNeedC f fd) (C : Cl P w K mg base "is_change" ["n", "thing"] 8 (spIsCh [P1, P2])) : FnOk P w K mg base CX0 9 f fd ["n", "thing"] (spNeedC [P1, P2]) := by
  refine ok_pureG F scNeedC rfl (by decide) fun cdv A outer s H E hr => ⟨_, pss_one (ps_if (pt_not (pt_val (pCall C hr (by decide) (pa_cons (pv 0) (pa_cons (pv 1) pa_nil))))) pss_never pss_nil), fun p g hT hg => ?_⟩
  obtain ⟨n, c⟩ := g
  dsimp only at hg
  refine rn_if (t := false) (et_notD (b := true) (et_test (ed_callG (n, matD c) (ea_consD (ex_var rfl) (ea_one (ex_var rfl))) rfl ⟨hg.hi, fun r e => by rw [← matD_inj e]; exact hg.b⟩ hT fun d ⟨b, e, h⟩ => by rw [e, h.mpr hg.is]))) (fun e => by cases e) fun _ => rn_next rfl
abbrev spChanged (Ts : List Addr) : Sp := pureG Ts 2 (G := Nat × Mat × Mat) (fun g => [matD g.2.1, matD g.2.2]) (fun g => OkF (g.1, g.2.1) ∧ Chg g.1 g.2.2) (fun g d => d = matD (leansM g.2.1 g.2.2))
theorem ok_changed (B : Bn mg) {f P1 P2 : Addr} {fd : FuncData} (F : Fun K "changed" "changed" sChanged f fd) (C : Cl P w K mg base "need_form" ["thing"] 10 (spNeedF [P1, P2])) (C2 : Cl P w K mg base "need_change" ["n", "thing"] 9 (spNeedC [P1, P2])) (C3 : Cl P w K mg base "leans_by" ["table", "steps"] 2 spLeansBy) : FnOk P w K mg base CX0 11 f fd ["form", "change"] (spChanged [P1, P2]) := by
  refine ok_pureG F scChanged rfl (by decide) fun cdv A outer s H E hr => ⟨_, pss_cons (ps_expr (pCall C hr (by decide) (pa_cons (pv 0) pa_nil))) (pss_cons (ps_expr (pCall C2 hr (by decide) (pa_cons (pLen B (pv 0)) (pa_cons (pv 1) pa_nil))))
    (pss_one (ps_ret (pCall C3 hr (by decide) (pa_cons (pv 0) (pa_cons (pv 1) pa_nil)))))), fun p g hT hg => ?_⟩
  obtain ⟨n, t, c⟩ := g
  obtain ⟨h1, h2⟩ := hg
  dsimp only at h1 h2
  have hln : Ed p (tCB (rLn K) (tCons (tVar 0) tNil)) (startR ["form", "change"] [matD t, matD c]) (.int (n : Int)) := Ed.cast (ed_cb (ea_one (ex_var (d := matD t) rfl)) (bc_len (.t _))) (by rw [List.length_map, h1.1.s.h])
  refine rn_seq (Nm := fun ρ => ρ = _) (rn_drop (ex_callG (n, t) (ea_one (ex_var rfl)) rfl h1 hT) rfl) fun ρ e => ?_
  subst e
  refine rn_seq (Nm := fun ρ => ρ = _) (rn_drop (ex_callG (n, c) (ea_consD hln (ea_one (ex_var rfl))) rfl h2 hT) rfl) fun ρ e => ?_
  subst e
  exact rn_ret (ed_callG (t, c) (ea_consD (ex_var rfl) (ea_one (ex_var rfl))) rfl ⟨⟨h1.2, h2.b⟩, by have := h2.s.h; have := h2.hi; show c.length ≤ 64; omega⟩ (by simp) fun d h => h) rfl
abbrev spLed (Ts : List Addr) : Sp := pureG Ts 3 (G := Nat × Mat × List Int) (fun g => [.int (g.1 : Int), matD g.2.1, rowD g.2.2]) (fun g => Chg g.1 g.2.1 ∧ g.2.2.length = g.1 ∧ BdL 1000 g.2.2) (fun g d => d = rowD (ledM g.1 g.2.1 g.2.2))
theorem ok_led (B : Bn mg) {f P1 P2 : Addr} {fd : FuncData} (F : Fun K "led" "led" sLed f fd) (C2 : Cl P w K mg base "need_change" ["n", "thing"] 9 (spNeedC [P1, P2])) (C : Cl P w K mg base "need_step" ["n", "thing"] 5 (spNeedS [P1])) (C3 : Cl P w K mg base "led_by" ["rows", "numbers"] 1 spLedBy) : FnOk P w K mg base CX0 10 f fd ["n", "change", "step"] (spLed [P1, P2]) := by
  refine ok_pureG F scLed rfl (by decide) fun cdv A outer s H E hr => ⟨_, pss_cons (ps_expr (pCall C2 hr (by decide) (pa_cons (pv 0) (pa_cons (pv 1) pa_nil)))) (pss_cons (ps_expr (pCall C hr (by decide) (pa_cons (pv 0) (pa_cons (pv 2) pa_nil))))
    (pss_one (ps_ret (pCall C3 hr (by decide) (pa_cons (pv 1) (pa_cons (pv 2) pa_nil)))))), fun p g hT hg => ?_⟩
  obtain ⟨n, c, x⟩ := g
  obtain ⟨h1, h2, h3⟩ := hg
  dsimp only at h1 h2 h3
  have hT1 : ∀ Q ∈ [P1], Q ∈ p.Ts := fun Q hQ => hT Q (by simp at hQ; simp [hQ])
  refine rn_seq (Nm := fun ρ => ρ = _) (rn_drop (ex_callG (n, c) (ea_consD (ex_var rfl) (ea_one (ex_var rfl))) rfl h1 hT) rfl) fun ρ e => ?_
  subst e
  refine rn_seq (Nm := fun ρ => ρ = _) (rn_drop (ex_callG x (ea_consD (Ed.cast (ex_var rfl) (by rw [h2])) (ea_one (ex_var rfl))) rfl trivial hT1) rfl) fun ρ e => ?_
  subst e
  exact rn_ret (ed_callG (n, c, x) (ea_consD (ex_var rfl) (ea_one (ex_var rfl))) rfl ⟨⟨h1.lo, by have := h1.hi; show n ≤ 64; omega, h1.s⟩, h1.b, h2, h3⟩ (by simp) fun d h => h) rfl
abbrev spBack (Ts : List Addr) : Sp := pureG Ts 2 (G := Nat × Mat) (fun g => [.int (g.1 : Int), matD g.2]) (fun g => Chg g.1 g.2) (fun g d => d = matD (backM g.1 g.2))
theorem ok_back (B : Bn mg) {f P1 P2 : Addr} {fd : FuncData} (F : Fun K "back" "back" sBack f fd) (C2 : Cl P w K mg base "need_change" ["n", "thing"] 9 (spNeedC [P1, P2])) (C : Cl P w K mg base "determinant" ["rows"] 4 spDetA) (C3 : Cl P w K mg base "adjoint" ["rows"] 5 spAdj) : FnOk P w K mg base CX0 10 f fd ["n", "change"] (spBack [P1, P2]) := by
  refine ok_pureG F scBack rfl (by decide) fun cdv A outer s H E hr => ⟨_, pss_cons (ps_expr (pCall C2 hr (by decide) (pa_cons (pv 0) (pa_cons (pv 1) pa_nil)))) (pss_cons (ps_set (i := 2) scBack.nd rfl (.inr rfl) (pCall C hr (by decide) (pa_cons (pv 1) pa_nil)))
    (pss_one (ps_ret (pTuple B (pe_lc (own := [("row", 3)]) rfl scBack.nd (piT K (pCall C3 hr (by decide) (pa_cons (pv 1) pa_nil))) (blkOk_by (own := [("row", 3)]) (N := ["n", "change", "sign", "row", "number"]) (sc := defScope sBack) (by decide +kernel)) (fun _ _ _ _ _ => gN 3 scBack.nd) (fun _ _ _ _ _ => pts_nil)
      (fun _ _ _ _ _ => pTup' K B (pe_lc (own := [("number", 4)]) rfl scBack.nd (piT K (pv 3)) (blkOk_by (own := [("number", 4)]) (N := ["n", "change", "sign", "row", "number"]) (sc := relabel _ (envOfC "" (defScope sBack) 0 0 .none)) (by decide +kernel)) (fun _ _ _ _ _ => gN 4 scBack.nd) (fun _ _ _ _ _ => pts_nil) (fun _ _ _ _ _ => pe_op op_mul (pv 2) (pv 4)))))))))
    , fun p g hT hg => ?_⟩
  obtain ⟨n, c⟩ := g
  dsimp only at hg
  refine rn_seq (Nm := fun ρ => ρ = _) (rn_drop (ex_callG (n, c) (ea_consD (ex_var rfl) (ea_one (ex_var rfl))) rfl hg hT) rfl) fun ρ e => ?_
  subst e
  refine rn_set_ (d := .int (detE c)) (ed_callG c (ea_one (ex_var rfl)) rfl ⟨⟨n, hg.hi, hg.s⟩, hg.b⟩ (by simp) fun d h => h) ?_
  have hal : (adjM n c).length = n := by simp [adjM]
  have hn := hg.hi
  refine rn_ret (d := matD (backM n c)) (ed_cb (ea_one (ed_lcM ((backM n c).map rowD) (ii_tup (ds := (adjM n c).map rowD) (ed_callG (n, c) (ea_one (ex_var rfl)) rfl ⟨⟨hg.lo, hg.hi, hg.s⟩, hg.b⟩ (by simp) fun d h => h)) (by simp [backM]) (by simp; omega) fun i d e hd he => ?_)) (bc_tuple (.l _))) rfl
  unfold backM at he
  rw [List.map_map, List.getElem?_map] at he
  rw [List.getElem?_map] at hd
  obtain ⟨row, hrow, rfl⟩ := Option.map_eq_some_iff.mp hd
  rw [hrow] at he
  cases he
  have hrl : row.length = n := by
    have := List.mem_of_getElem? hrow
    unfold adjM at this
    obtain ⟨i, _, rfl⟩ := List.mem_map.mp this
    simp
  refine ⟨[3], _, fun j hj => hj, tg_name, ed_cb (ea_one (ed_lcM ((row.map fun x => detE c * x).map .int) (ii_tup (ds := row.map .int) (ex_var rfl)) (by simp) (by simp; omega) fun j d e hd he => ?_)) (bc_tuple (.l _))⟩
  rw [List.map_map, List.getElem?_map] at he
  rw [List.getElem?_map] at hd
  obtain ⟨x, hx, rfl⟩ := Option.map_eq_some_iff.mp hd
  rw [hx] at he
  cases he
  exact ⟨[4], _, fun j hj => hj, tg_name, ed_mul (i := detE c) (j := x) (ex_var rfl) (ex_var rfl) (.inl (by rcases hg.d with e | e <;> rw [e] <;> decide))⟩
end
end Kz
set_option Elab.async false
set_option linter.all false
set_option maxRecDepth 100000
set_option maxHeartbeats 8000000
/-! Kz: changes: led, back, both as one -/
namespace Kz
open PySem PySem.Spec PyProof.Rows L2
theorem lean_ledM {n : Nat} {r c : Mat} {x y : List Int} (hn : 1 ≤ n) (hn3 : n ≤ 3) (sr : Sq n r) (s : Sq n c) (hx : x.length = n) (hy : y.length = n) : leanM (chM r c) x y = leanM r (ledM n c x) (ledM n c y) := by
  have : n = 1 ∨ n = 2 ∨ n = 3 := by omega
  rcases this with rfl | rfl | rfl
  · obtain ⟨a, rfl⟩ := sq1 sr
    obtain ⟨u, rfl⟩ := vc1 hx
    obtain ⟨v, rfl⟩ := vc1 hy
    obtain ⟨p, rfl⟩ := sq1 s
    simp [leanM, dot, chM, ledM, List.range_succ]; grind
  · obtain ⟨a, b, b', d, rfl⟩ := sq2 sr
    obtain ⟨u, u', rfl⟩ := vc2 hx
    obtain ⟨v, v', rfl⟩ := vc2 hy
    obtain ⟨p, p1, p2, p3, rfl⟩ := sq2 s
    simp [leanM, dot, chM, ledM, List.range_succ]; grind
  · obtain ⟨a, b, c', d, e, f', g, h, i, rfl⟩ := sq3 sr
    obtain ⟨u, u', u2, rfl⟩ := vc3 hx
    obtain ⟨v, v', v2, rfl⟩ := vc3 hy
    obtain ⟨p, p1, p2, p3, p4, p5, p6, p7, p8, rfl⟩ := sq3 s
    simp [leanM, dot, chM, ledM, List.range_succ]; grind
theorem det1 (a : Int) : detE [[a]] = a := by simp [detE]
theorem det2 (a b c d : Int) : detE [[a, b], [c, d]] = a * d - b * c := by simp [detE]
theorem det3 (a b c d e f g h i : Int) : detE [[a, b, c], [d, e, f], [g, h, i]] = a * (e * i - f * h) - b * (d * i - f * g) + c * (d * h - e * g) := by simp [detE]
theorem back1 (a : Int) : backM 1 [[a]] = [[a]] := by
  simp [backM, adjM, sgn, withoutM, detE, List.range_succ]
theorem back2 (a b c d : Int) : backM 2 [[a, b], [c, d]] = [[(a * d - b * c) * d, (a * d - b * c) * -b], [(a * d - b * c) * -c, (a * d - b * c) * a]] := by
  simp [backM, adjM, sgn, withoutM, detE, List.range_succ]
theorem back3 (a b c d e f g h i D : Int) (hD : detE [[a, b, c], [d, e, f], [g, h, i]] = D) : backM 3 [[a, b, c], [d, e, f], [g, h, i]] =
    [[D * (e * i - f * h), D * -(b * i - c * h), D * (b * f - c * e)], [D * -(d * i - f * g), D * (a * i - c * g), D * -(a * f - c * d)], [D * (d * h - e * g), D * -(a * h - b * g), D * (a * e - b * d)]] := by
  unfold backM
  rw [hD]
  simp [adjM, sgn, withoutM, detE, List.range_succ]
theorem back_led {n : Nat} {c : Mat} {x : List Int} (hn : 1 ≤ n) (hn3 : n ≤ 3) (s : Sq n c) (u : detE c = 1 ∨ detE c = -1) (hx : x.length = n) : ledM n (backM n c) (ledM n c x) = x := by
  have : n = 1 ∨ n = 2 ∨ n = 3 := by omega
  rcases this with rfl | rfl | rfl
  · obtain ⟨a, rfl⟩ := sq1 s
    obtain ⟨v, rfl⟩ := vc1 hx
    rw [det1] at u
    rw [back1]
    simp [ledM, List.range_succ]
    rcases u with rfl | rfl <;> omega
  · obtain ⟨a, b, c', d, rfl⟩ := sq2 s
    obtain ⟨v, w, rfl⟩ := vc2 hx
    rw [det2] at u
    rw [back2]
    generalize hD : a * d - b * c' = D at u ⊢
    simp [ledM, List.range_succ]
    rcases u with rfl | rfl <;> constructor <;> grind
  · obtain ⟨a, b, c', d, e, f, g, h, i, rfl⟩ := sq3 s
    obtain ⟨v, w, z, rfl⟩ := vc3 hx
    have hD := det3 a b c' d e f g h i
    rw [back3 a b c' d e f g h i _ rfl]
    generalize detE [[a, b, c'], [d, e, f], [g, h, i]] = D at u hD ⊢
    simp [ledM, List.range_succ]
    rcases u with rfl | rfl <;> refine ⟨?_, ?_, ?_⟩ <;> grind
theorem sq_back {n : Nat} {c : Mat} : Sq n (backM n c) := ⟨by simp [backM, adjM], fun l hl => by
  unfold backM at hl
  obtain ⟨row, hr, rfl⟩ := List.mem_map.mp hl
  unfold adjM at hr
  obtain ⟨i, _, rfl⟩ := List.mem_map.mp hr
  simp⟩
theorem det_back {n : Nat} {c : Mat} (hn : 1 ≤ n) (hn3 : n ≤ 3) (s : Sq n c) (u : detE c = 1 ∨ detE c = -1) : detE (backM n c) = detE c := by
  have : n = 1 ∨ n = 2 ∨ n = 3 := by omega
  rcases this with rfl | rfl | rfl
  · obtain ⟨a, rfl⟩ := sq1 s
    rw [back1]
  · obtain ⟨a, b, c', d, rfl⟩ := sq2 s
    rw [back2, det2, det2] at *
    generalize hD : a * d - b * c' = D at u ⊢
    rcases u with rfl | rfl <;> grind
  · obtain ⟨a, b, c', d, e, f, g, h, i, rfl⟩ := sq3 s
    have hD := det3 a b c' d e f g h i
    rw [back3 a b c' d e f g h i _ rfl]
    generalize detE [[a, b, c'], [d, e, f], [g, h, i]] = D at u hD ⊢
    rw [det3]
    rcases u with rfl | rfl <;> grind
theorem back_back {n : Nat} {c : Mat} (hn : 1 ≤ n) (hn3 : n ≤ 3) (s : Sq n c) (u : detE c = 1 ∨ detE c = -1) : backM n (backM n c) = c := by
  have hd := det_back hn hn3 s u
  have : n = 1 ∨ n = 2 ∨ n = 3 := by omega
  rcases this with rfl | rfl | rfl
  · obtain ⟨a, rfl⟩ := sq1 s
    rw [back1, back1]
  · obtain ⟨a, b, c', d, rfl⟩ := sq2 s
    rw [det2] at u
    rw [back2, back2]
    generalize hD : a * d - b * c' = D at u ⊢
    simp
    rcases u with rfl | rfl <;> refine ⟨⟨?_, ?_⟩, ?_, ?_⟩ <;> grind
  · obtain ⟨a, b, c', d, e, f, g, h, i, rfl⟩ := sq3 s
    have hD := det3 a b c' d e f g h i
    have e3 := back3 a b c' d e f g h i _ rfl
    rw [e3] at hd ⊢
    generalize detE [[a, b, c'], [d, e, f], [g, h, i]] = D at u hD hd ⊢
    rw [back3 _ _ _ _ _ _ _ _ _ _ hd]
    simp
    rcases u with rfl | rfl <;> refine ⟨⟨?_, ?_, ?_⟩, ⟨?_, ?_, ?_⟩, ?_, ?_, ?_⟩ <;> grind
theorem back_unit {n : Nat} {c : Mat} (hn : 1 ≤ n) (hn3 : n ≤ 3) (s : Sq n c) (u : detE c = 1 ∨ detE c = -1) : (backM n c).map (ledM n c) = unitM n := by
  have : n = 1 ∨ n = 2 ∨ n = 3 := by omega
  rcases this with rfl | rfl | rfl
  · obtain ⟨a, rfl⟩ := sq1 s
    rw [det1] at u
    rw [back1]
    simp [ledM, unitM, List.range_succ]
    rcases u with rfl | rfl <;> rfl
  · obtain ⟨a, b, c', d, rfl⟩ := sq2 s
    rw [det2] at u
    rw [back2]
    generalize hD : a * d - b * c' = D at u ⊢
    simp [ledM, unitM, List.range_succ]
    rcases u with rfl | rfl <;> refine ⟨⟨?_, ?_⟩, ?_, ?_⟩ <;> grind
  · obtain ⟨a, b, c', d, e, f, g, h, i, rfl⟩ := sq3 s
    have hD := det3 a b c' d e f g h i
    rw [back3 a b c' d e f g h i _ rfl]
    generalize detE [[a, b, c'], [d, e, f], [g, h, i]] = D at u hD ⊢
    simp [ledM, unitM, List.range_succ]
    rcases u with rfl | rfl <;> refine ⟨⟨?_, ?_, ?_⟩, ⟨?_, ?_, ?_⟩, ?_, ?_, ?_⟩ <;> grind
theorem led_len {n : Nat} {c : Mat} {x : List Int} : (ledM n c x).length = n := by simp [ledM]
/-- two changes as one -/
theorem ch_both {n : Nat} {r one other : Mat} (hn : 1 ≤ n) (hn3 : n ≤ 3) (sr : Sq n r) (s : Sq n one) (so : Sq n other) : chM (chM r one) other = chM r (other.map (ledM n one)) := by
  unfold chM
  rw [List.map_map]
  refine List.map_congr_left fun x hx => ?_
  rw [Function.comp, List.map_map]
  refine List.map_congr_left fun y hy => ?_
  exact lean_ledM hn hn3 sr s (so.w x hx) (so.w y hy)
theorem sq_both {n : Nat} {one other : Mat} (so : Sq n other) : Sq n (other.map (ledM n one)) := ⟨by rw [List.length_map, so.h], fun l hl => by
  obtain ⟨x, _, rfl⟩ := List.mem_map.mp hl
  exact led_len⟩
theorem det_both {n : Nat} {one other : Mat} (hn : 1 ≤ n) (hn3 : n ≤ 3) (s : Sq n one) (so : Sq n other) : detE (other.map (ledM n one)) = detE other * detE one := by
  have : n = 1 ∨ n = 2 ∨ n = 3 := by omega
  rcases this with rfl | rfl | rfl
  · obtain ⟨a, rfl⟩ := sq1 s
    obtain ⟨b, rfl⟩ := sq1 so
    simp [ledM, List.range_succ, detE]
  · obtain ⟨a, b, c', d, rfl⟩ := sq2 s
    obtain ⟨p, q, x, y, rfl⟩ := sq2 so
    simp [ledM, List.range_succ, detE]
    grind
  · obtain ⟨a', b', c', d', e', f', g', h', i', rfl⟩ := sq3 s
    obtain ⟨a, b, c, d, e, f, g, h, i, rfl⟩ := sq3 so
    have k := det_mul3 a b c d e f g h i a' b' c' d' e' f' g' h' i'
    rw [det3, det3, ← k]
    simp [ledM, List.range_succ, det3]
    grind
/-- there and back -/
theorem ch_back {n : Nat} {r c : Mat} (f : FormM n r) (s : Sq n c) (u : detE c = 1 ∨ detE c = -1) : chM (chM r c) (backM n c) = r := by
  rw [ch_both f.lo f.hi f.s s sq_back, back_unit f.lo f.hi s u, axes_form f]
end Kz
set_option Elab.async false
set_option linter.all false
set_option maxRecDepth 100000
set_option maxHeartbeats 4000000
/-! Kz: the law's own led, back, is_change -/
namespace Kz
open PySem PySem.Spec PyProof.Rows L2
theorem cutout_step {α : Type} (r : List α) (k i : Nat) (x : α) (hx : r[k]? = some x) : ((r.take (k + 1)).take i ++ (r.take (k + 1)).drop (i + 1)) = ((r.take k).take i ++ (r.take k).drop (i + 1)) ++ (if k = i then [] else [x]) := by
  have hkl : k < r.length := (List.getElem?_eq_some_iff.mp hx).1
  have hA : (r.take k).length = k := by rw [List.length_take]; omega
  rw [List.take_add_one, hx]
  show (r.take k ++ [x]).take i ++ (r.take k ++ [x]).drop (i + 1) = _
  generalize r.take k = A at hA ⊢
  rcases Nat.lt_trichotomy k i with h | h | h
  · rw [if_neg (by omega), List.take_of_length_le (by rw [List.length_append, hA, List.length_singleton]; omega), List.drop_of_length_le (by rw [List.length_append, hA, List.length_singleton]; omega), List.take_of_length_le (by omega), List.drop_of_length_le (by omega)]
    simp
  · rw [if_pos h, List.take_append_of_le_length (by omega), List.drop_of_length_le (by rw [List.length_append, hA, List.length_singleton]; omega), List.drop_of_length_le (by omega)]
    simp
  · rw [if_neg (by omega), List.take_append_of_le_length (by omega), List.drop_append_of_le_length (by omega), List.append_assoc]
section
variable {P : Program} {w : World} {K : PySem.W.Frag} {mg : Str → Option Value} {base : Heap}
abbrev sLLed : Stmt := topS 44
abbrev sLBack : Stmt := topS 46
abbrev sLIsCh : Stmt := topS 55
theorem scLLed : FnScope ["change", "step", "j", "x", "row"] ["change", "step"] (defScope sLLed) := ⟨rfl, rfl, rfl, by decide +kernel, rfl, by decide +kernel, by decide +kernel⟩
theorem scLBack : FnScope ["change", "n", "whole", "found", "i", "j"] ["change"] (defScope sLBack) := ⟨rfl, rfl, rfl, by decide +kernel, rfl, by decide +kernel, by decide +kernel⟩
theorem scLIsCh : FnScope ["n", "thing"] ["n", "thing"] (defScope sLIsCh) := ⟨rfl, rfl, rfl, by decide +kernel, rfl, by decide +kernel, by decide +kernel⟩
abbrev spLLed : Sp := pureG [] 2 (G := Nat × Mat × List Int) (fun g => [matD g.2.1, rowD g.2.2]) (fun g => (1 ≤ g.1 ∧ g.1 ≤ 64 ∧ Sq g.1 g.2.1) ∧ Bd 1000 g.2.1 ∧ g.2.2.length = g.1 ∧ BdL 1000 g.2.2) (fun g d => d = rowD (ledM g.1 g.2.1 g.2.2))
theorem ok_lLed (B : Bn mg) {f : Addr} {fd : FuncData} (F : Fun K "_law_led" "_law_led" sLLed f fd) : FnOk P w K mg base CX0 1 f fd ["change", "step"] spLLed := by
  refine ok_pureG F scLLed rfl (by decide) fun cdv A outer s H E hr => ⟨_, pss_one (ps_ret (pTuple B (pe_lc (own := [("j", 2)]) rfl scLLed.nd (piR B (pLen B (pv 1))) (blkOk_by (own := [("j", 2)]) (N := ["change", "step", "j", "x", "row"]) (sc := defScope sLLed) (by decide +kernel)) (fun _ _ _ _ _ => gN 2 scLLed.nd) (fun _ _ _ _ _ => pts_nil)
      (fun _ _ _ _ _ => pSum' K B rfl (pe_lc (own := [("x", 3), ("row", 4)]) rfl scLLed.nd (piZ K B (pv 1) (pv 0)) (blkOk_by (own := [("x", 3), ("row", 4)]) (N := ["change", "step", "j", "x", "row"]) (sc := relab (defScope sLLed) _) (by decide +kernel)) (fun _ _ _ _ _ => gP' K 3 4 rfl scLLed.nd) (fun _ _ _ _ _ => pts_nil) (fun _ _ _ _ _ => pe_op op_mulW (pv 3) (pe_ix (ixT K) (pv 4) (pv 2) (fun _ _ => rfl))))))))
    , fun p g hT hg => ?_⟩
  obtain ⟨n, c, x⟩ := g
  obtain ⟨⟨h1, h64, sq⟩, bc, hx, bx⟩ := hg
  dsimp only at h1 h64 sq bc hx bx
  refine rn_ret (d := rowD (ledM n c x)) (ed_cb (ea_one (ed_lcM ((ledM n c x).map .int) (ii_rng1 (i := (n : Int)) (Ed.cast (ed_cb (ea_one (ex_var (d := rowD x) rfl)) (bc_len (.t _))) (by rw [List.length_map, hx])) (by omega)) (by rw [rngD_len]; simp [ledM]) (by rw [rngD_len]; omega) fun j d e hd he => ?_)) (bc_tuple (.l _))) rfl
  obtain ⟨hj, rfl⟩ := rngD_get hd
  have hj' : j < n := by omega
  have ej : (0 : Int) + (j : Int) = (j : Int) := by omega
  rw [ej]
  unfold ledM at he
  rw [List.map_map, List.getElem?_map, List.getElem?_range hj'] at he
  cases he
  refine ⟨[2], _, fun j hj => hj, tg_name, ed_cb (ea_one (ed_lcM ((List.zipWith (fun a row => a * row.getD j 0) x c).map .int) (ii_zipT (ds := x.map .int) (es := c.map rowD) (ex_var rfl) (ex_var rfl)) (by rw [zipD_len]; simp) (by rw [zipD_len]; simp; omega) fun m d e hd he => ?_)) bc_sum⟩
  obtain ⟨u', v', g1, g2, rfl⟩ := zipD_get hd
  rw [List.getElem?_map] at g1 g2
  obtain ⟨u, hu, rfl⟩ := Option.map_eq_some_iff.mp g1
  obtain ⟨row, hrow, rfl⟩ := Option.map_eq_some_iff.mp g2
  rw [List.getElem?_map, zipWith_at hu hrow] at he
  cases he
  have hwr := sq.w row (List.mem_of_getElem? hrow)
  have hat : row[j]? = some (row.getD j 0) := by rw [List.getD_eq_getElem?_getD, List.getElem?_eq_getElem (by omega)]; rfl
  refine ⟨_, _, ?_, tg_pair tg_name tg_name, ed_mulW (ex_var rfl) (ed_ixT (ds := row.map .int) (i := (j : Int)) (ex_var rfl) (ex_var rfl) (rowD_at hat)) (mul_ok (bx u (List.mem_of_getElem? hu)) (bc row (List.mem_of_getElem? hrow) _ (List.mem_of_getElem? hat)))⟩
  decide
/-- any minor -/
abbrev spLMinorA : Sp := pureG [] 3 (G := Mat × Nat × Nat) (fun g => [matD g.1, .int (g.2.1 : Int), .int (g.2.2 : Int)]) (fun g => g.1.length ≤ 64 ∧ ∀ l ∈ g.1, l.length ≤ 64) (fun g d => d = matD (withoutM g.1 g.2.1 g.2.2))
theorem ok_lMinorA (B : Bn mg) {f : Addr} {fd : FuncData} (F : Fun K "_law_minor" "_law_minor" sLMinor f fd) : FnOk P w K mg base CX0 1 f fd ["rows", "i", "j"] spLMinorA := by
  refine ok_pureG F scLMinor rfl (by decide) fun cdv A outer s H E hr => ⟨_, pss_one (ps_ret (pTuple B (pe_lc (own := [("at", 3), ("row", 4)]) rfl scLMinor.nd (piE K B (pv 0)) (blkOk_by (own := [("at", 3), ("row", 4)]) (N := ["rows", "i", "j", "at", "row"]) (sc := defScope sLMinor) (by decide +kernel)) (fun _ _ _ _ _ => gP' K 3 4 rfl scLMinor.nd)
    (fun _ _ _ _ _ => pts_one (pt_cmpR op_ne (pv 3) (pv 1) (nomark _))) (fun _ _ _ _ _ => pe_op (opCat K) (pe_slice (slA K) (pv 4) po_none (po_some (pv 2))) (pe_slice (slA K) (pv 4) (po_some (pe_op op_add (pv 2) pe_int)) po_none)))))
    , fun p g hT hg => ?_⟩
  obtain ⟨r, i, j⟩ := g
  obtain ⟨h1, h2⟩ := hg
  dsimp only at h1 h2
  refine rn_ret (d := matD (withoutM r i j)) (ed_cb (ea_one (ex_lc (P := (· = .list ((withoutM r i j).map rowD))) (fun ds k es => es = (((r.take k).take i ++ (r.take k).drop (i + 1)).map fun l => rowD (l.take j ++ l.drop (j + 1)))) (ii_enumT (ds := r.map rowD) (ex_var rfl)) (fun l e => by rw [e, enumD_len]; simp; omega) (fun l e => by simp) (fun l k d es hl hd iv => ?_) (fun l es hl iv => ?_))) (bc_tuple (.l _))) rfl
  · subst hl
    obtain ⟨x', hx', rfl⟩ := enumD_get hd
    rw [List.getElem?_map] at hx'
    obtain ⟨x, hx, rfl⟩ := Option.map_eq_some_iff.mp hx'
    have hxl := h2 x (List.mem_of_getElem? hx)
    refine ⟨_, _, _, ?_, tg_pair tg_name tg_name, et_test (ed_neI (i := (k : Int)) (j := (i : Int)) (ex_var rfl) (ex_var rfl)), fun e => ?_, fun e => ?_⟩
    · decide
    · have hk : ¬ k = i := by
        simp at e
        omega
      refine (Ed.cast (ed_catT (ed_slT (ds := x.map .int) (ex_var rfl) eo_no (eo_part (i := (j : Int)) (ex_var rfl))) (ed_slT (ds := x.map .int) (ex_var rfl) (eo_part (ed_add (i := (j : Int)) (ex_var rfl) ex_int)) eo_no) ?_) (d' := rowD (x.take j ++ x.drop (j + 1))) ?_).imp fun y hy => ?_
      · simp only [cutD]; simp; omega
      · rw [cutD_to]
        have e1 : ((j : Int) + 1) = ((j + 1 : Nat) : Int) := by omega
        rw [e1, cutD_from]
        unfold rowD
        rw [List.map_append, List.map_take, List.map_drop]
      · rw [iv, hy, cutout_step r k i x hx, if_neg hk]
        simp only [List.map_append, List.map_cons, List.map_nil]
    · have hk : k = i := by
        simp at e
        omega
      rw [iv, cutout_step r k i x hx, if_pos hk, List.append_nil]
  · subst hl
    rw [iv, enumD_len, List.length_map, List.take_length]
    show _ = PyData.list _
    unfold withoutM
    rw [List.map_map]
    rfl
abbrev spLBack : Sp := pureG [] 1 (G := Nat × Mat) (fun g => [matD g.2]) (fun g => Chg g.1 g.2) (fun g d => d = matD (backM g.1 g.2))
theorem sgn_mulE (D k : Nat) (x E : Int) : E * (1 - 2 * ((k % 2 : Nat) : Int)) * x = E * sgn k x := by
  unfold sgn
  rcases Nat.mod_two_eq_zero_or_one k with h | h
  · rw [h, if_neg (by decide)]; simp
  · rw [h, if_pos rfl]; simp; grind
theorem ok_lBack (B : Bn mg) {f : Addr} {fd : FuncData} (F : Fun K "_law_back" "_law_back" sLBack f fd) (C : Cl P w K mg base "_law_det" ["rows"] 4 spLDetA) (C2 : Cl P w K mg base "_law_minor" ["rows", "i", "j"] 1 spLMinorA) : FnOk P w K mg base CX0 5 f fd ["change"] spLBack := by
  refine ok_pureG F scLBack rfl (by decide) fun cdv A outer s H E hr => ⟨_, pss_cons (ps_asg (pe_tup (pa_cons (pLen B (pv 0)) (pa_cons (pCall C hr (by decide) (pa_cons (pv 0) pa_nil)) pa_nil))) (gP' K 1 2 rfl scLBack.nd))
    (pss_cons (ps_set (i := 3) scLBack.nd rfl (.inl rfl) (pe_lst pa_nil))
    (pss_cons (ps_for PassesOwn.never rfl (piR B (pv 1)) (gN 4 scLBack.nd) (pss_one (ps_expr (pe_bm PySem.F.plainAttrs_list PySem.F.slot_list_append PySem.F.type_list_append mt_append (pv 3) (pa_cons (pTuple B (pe_lc (own := [("j", 5)]) rfl scLBack.nd (piR B (pv 1)) (blkOk_by (own := [("j", 5)]) (N := ["change", "n", "whole", "found", "i", "j"]) (sc := defScope sLBack) (by decide +kernel)) (fun _ _ _ _ _ => gN 5 scLBack.nd) (fun _ _ _ _ _ => pts_nil)
        (fun _ _ _ _ _ => pe_op op_mul (pe_op op_mul (pv 2) (pe_op op_sub pe_int (pe_op op_mul pe_int (pe_op op_and (pe_op op_add (pv 4) (pv 5)) pe_int)))) (pCall C hr (by decide) (pa_cons (pCall C2 hr (by decide) (pa_cons (pv 0) (pa_cons (pv 5) (pa_cons (pv 4) pa_nil)))) pa_nil))))) pa_nil)))))
      (pss_one (ps_ret (pTuple B (pv 3)))))), fun p g hT hg => ?_⟩
  obtain ⟨n, c⟩ := g
  dsimp only at hg
  have hn := hg.hi
  have hn1 := hg.lo
  have hlen : Ed p (tCB (rLn K) (tCons (tVar 0) tNil)) (startR ["change", "n", "whole", "found", "i", "j"] [matD c]) (.int (n : Int)) := Ed.cast (ed_cb (ea_one (ex_var (d := matD c) rfl)) (bc_len (.t _))) (by rw [List.length_map, hg.s.h])
  have hbl : (backM n c).length = n := sq_back.h
  refine rn_seq (Nm := fun ρ => ρ = [some (.dat (matD c)), some (.dat (.int (n : Int))), some (.dat (.int (detE c))), none, none, none]) (rn_asg (d := .tuple [.int (n : Int), .int (detE c)]) (ed_tup (ea_consD hlen (ea_one (ed_callG c (ea_one (ex_var rfl)) rfl ⟨⟨n, hn, hg.s⟩, hg.b⟩ (by simp) fun d h => h))) (by show 2 ≤ 1000; decide)) (tg_pair tg_name tg_name) rfl) fun ρ e => ?_
  subst e
  refine rn_seq (Nm := fun ρ => ρ = [some (.dat (matD c)), some (.dat (.int (n : Int))), some (.dat (.int (detE c))), some (.own []), none, none]) (rn_own ea_nil (fun ds e => by rw [e]; decide) (fun ds e => by rw [e]; rfl)) fun ρ e => ?_
  subst e
  refine rn_seq (Nm := fun ρ => ∃ a4, ρ = [some (.dat (matD c)), some (.dat (.int (n : Int))), some (.dat (.int (detE c))), some (.own ((backM n c).map rowD)), a4, none]) (rn_for (fun ds0 t ρ => ∃ a4, ρ = [some (.dat (matD c)), some (.dat (.int (n : Int))), some (.dat (.int (detE c))), some (.own (((backM n c).take t).map rowD)), a4, none]) (ii_rng1 (i := (n : Int)) (ex_var rfl) (by omega)) (fun ds e => ⟨_, rfl⟩) (fun ds0 t d ρ e hd iv => ?_) (fun ds ρ e ⟨a4, iv⟩ => ⟨a4, by rw [iv, e, rngD_len, Int.toNat_natCast, List.take_of_length_le (by omega)]⟩)) ?_
  · subst e
    obtain ⟨ht, rfl⟩ := rngD_get hd
    have ht' : t < n := by omega
    obtain ⟨a4, rfl⟩ := iv
    have et : (0 : Int) + (t : Int) = (t : Int) := by omega
    rw [et]
    let row : List Int := (List.range n).map fun j => detE c * sgn (t + j) (detE (withoutM c j t))
    have hrow : (backM n c)[t]? = some row := by
      show (((List.range n).map fun i => (List.range n).map fun j => sgn (i + j) (detE (withoutM c j i))).map fun row => row.map fun x => detE c * x)[t]? = _
      rw [List.getElem?_map, List.getElem?_map, List.getElem?_range ht']
      show some (((List.range n).map fun j => sgn (t + j) (detE (withoutM c j t))).map fun x => detE c * x) = some _
      rw [List.map_map]
      rfl
    refine ⟨_, _, tg_name, rn_append (i := 3) (ds := ((backM n c).take t).map rowD) (P := (· = rowD row)) rfl (by rw [List.length_map, List.length_take]; omega) (ed_cb (ea_one (ed_lcM (row.map .int) (ii_rng1 (i := (n : Int)) (ex_var rfl) (by omega)) (by rw [rngD_len]; simp [row]) (by rw [rngD_len]; omega) fun j d e hd he => ?_)) (bc_tuple (.l _))) fun d hd => ⟨some (.dat (.int (t : Int))), ?_⟩⟩
    · obtain ⟨hj, rfl⟩ := rngD_get hd
      have hj' : j < n := by omega
      have ej : (0 : Int) + (j : Int) = (j : Int) := by omega
      rw [ej]
      simp only [row] at he
      rw [List.map_map, List.getElem?_map, List.getElem?_range hj'] at he
      cases he
      obtain ⟨m', rfl⟩ : ∃ m', n = m' + 1 := ⟨n - 1, by omega⟩
      have sqm := sq_minor hg.s (i := j) (j := t) (by omega) (by omega)
      have okw : (c.length ≤ 64 ∧ ∀ l ∈ c, l.length ≤ 64) := ⟨by have := hg.s.h; omega, fun l hl => by rw [hg.s.w l hl]; omega⟩
      have hD : -(2 ^ 64) < detE c ∧ detE c < 2 ^ 64 := by rcases hg.d with e | e <;> rw [e] <;> decide
      have hm := Nat.mod_two_eq_zero_or_one (t + j)
      have hE : -(2 ^ 64) < detE c * (1 - 2 * (((t + j) % 2 : Nat) : Int)) ∧ detE c * (1 - 2 * (((t + j) % 2 : Nat) : Int)) < 2 ^ 64 := by
        rcases hg.d with e | e <;> rcases hm with h | h <;> rw [e, h] <;> decide
      exact ⟨[5], _, fun j hj => hj, tg_name, Ed.cast (ed_mul (i := detE c * (1 - 2 * (((t + j) % 2 : Nat) : Int))) (j := detE (withoutM c j t)) (ed_mul (i := detE c) (j := 1 - 2 * (((t + j) % 2 : Nat) : Int)) (ex_var rfl) (ed_sub ex_int (ed_mul (i := 2) (j := (((t + j) % 2 : Nat) : Int)) ex_int (Ed.cast (ed_and (i := (t : Int) + (j : Int)) (j := 1) (ed_add (i := (t : Int)) (j := (j : Int)) (ex_var rfl) (ex_var rfl)) ex_int) (by rw [show (t : Int) + (j : Int) = ((t + j : Nat) : Int) by omega, tr_odd])) (.inl (by decide)))) (.inl hD)) (ed_callG (withoutM c j t) (ea_one (ed_callG (c, j, t) (ea_consD (ex_var rfl) (ea_consD (ex_var rfl) (ea_one (ex_var rfl)))) rfl okw (by simp) fun d h => h)) rfl ⟨⟨m', by omega, sqm⟩, bd_minor hg.b j t⟩ (by simp) fun d h => h) (.inl hE)) (by rw [sgn_mulE 0]; rfl)⟩
    · rw [hd]
      have : ((backM n c).take (t + 1)).map rowD = ((backM n c).take t).map rowD ++ [rowD row] := by
        rw [List.take_add_one, hrow, List.map_append]; rfl
      rw [this]
      rfl
  · rintro ρ ⟨a4, rfl⟩
    exact rn_ret (ed_tupO (ds := (backM n c).map rowD) rfl) rfl
abbrev spLIsCh : Sp := pureG [] 2 (G := Nat × PyData) (fun g => [.int (g.1 : Int), g.2]) (fun g => g.1 ≤ 3 ∧ WdD g.2) (fun g d => ∃ b, d = .bool b ∧ (b = true ↔ IsCh g.1 g.2))
theorem ok_lIsCh (B : Bn mg) {f : Addr} {fd : FuncData} (F : Fun K "_law_is_change" "_law_is_change" sLIsCh f fd) (C : Cl P w K mg base "_law_is_square" ["n", "thing"] 2 spLSqA) (C2 : Cl P w K mg base "_law_det" ["rows"] 4 spLDetA) : FnOk P w K mg base CX0 5 f fd ["n", "thing"] spLIsCh := by
  refine ok_pureG F scLIsCh rfl (by decide) fun cdv A outer s H E hr => ⟨_, pss_one (ps_ret (pe_and (pCall C hr (by decide) (pa_cons (pv 0) (pa_cons (pv 1) pa_nil))) (pe_one (pe_cmpR op_in_seq (pCall C2 hr (by decide) (pa_cons (pv 1) pa_nil)) (pe_tup (pa_cons pe_int (pa_cons (pe_un un_neg pe_int) pa_nil))) rfl)))), fun p g hT hg => ?_⟩
  obtain ⟨n, a⟩ := g
  obtain ⟨hn, hb⟩ := hg
  dsimp only at hn hb
  have key : ∀ r, a = matD r → Sq n r → (IsCh n a ↔ (detE r = 1 ∨ detE r = -1)) := fun r e s => ⟨fun ⟨r', e', _, h⟩ => by rw [matD_inj (e.symm.trans e')]; exact h, fun h => ⟨r, e, s, h⟩⟩
  refine rn_retX (P := fun d => ∃ b, d = .bool b ∧ (b = true ↔ IsCh n a)) (ed_andV (a := isSquare (n : Int) a) (ed_callG ((n : Int), a) (ea_consD (ex_var rfl) (ea_one (ex_var rfl))) rfl hb (by simp) fun d h => h) (fun e => ?_) (fun e => ⟨false, rfl, ?_⟩)) fun d h => h
  · obtain ⟨r, er, s⟩ := isSquare_iff.mp e
    refine Ex.imp (ed_inI (neg := false) (i := detE r) (ns := [1, -1]) (ed_callG r (ea_one (Ed.cast (ex_var rfl) er)) rfl ⟨⟨n, hn, s⟩, wd_bd (er ▸ hb)⟩ (by simp) fun d h => h) (ed_tup (ea_consD ex_int (ea_one (ed_neg ex_int))))) fun d hd => ⟨_, hd, ?_⟩
    rw [key r er s]
    simp
  · constructor
    · intro z; cases z
    · rintro ⟨r, er, s, _⟩
      rw [isSquare_iff.mpr ⟨r, er, s⟩] at e
      cases e
end
end Kz
set_option Elab.async false
set_option linter.all false
set_option maxRecDepth 100000
set_option maxHeartbeats 4000000
/-! Kz: rows within bounds -/
namespace Kz
open PySem PySem.Spec PyProof.Rows L2
structure Mb (n M : Nat) (r : Mat) : Prop where
  s : Sq n r
  b : ∀ l ∈ r, ∀ x ∈ l, x.natAbs ≤ M
theorem Mb.bd {n M : Nat} {r : Mat} (h : Mb n M r) (hM : M < 2 ^ 190 := by decide +kernel) : Bd 1000 r := fun l hl x hx => Nat.lt_of_le_of_lt (h.b l hl x hx) (Nat.lt_trans hM (by decide +kernel))
theorem Mb.kd {n M : Nat} {r : Mat} (h : Mb n M r) (hn : n ≤ 3) : Kd M 2 12 (matD r) := kd_mat (m := 0) (n := 3) h.b (fun l hl => by rw [h.s.w l hl]; exact hn) (by have := h.s.h; omega)
theorem Mb.mono {n M M' : Nat} {r : Mat} (h : Mb n M r) (k : M ≤ M') : Mb n M' r := ⟨h.s, fun l hl x hx => Nat.le_trans (h.b l hl x hx) k⟩
theorem lean_bdG {n A B C : Nat} {r : Mat} (h : Mb n A r) (hn : n ≤ 3) {x y : List Int} (hx : x.length = n) (hy : y.length = n) (bx : ∀ e ∈ x, e.natAbs ≤ B) (by' : ∀ e ∈ y, e.natAbs ≤ C) : (leanM r x y).natAbs ≤ 3 * (B * (3 * (A * C))) := by
  have hd : ∀ row ∈ r, (dot row y).natAbs ≤ 3 * (A * C) := fun row hr => by
    have h : ∀ e ∈ List.zipWith (· * ·) row y, e.natAbs ≤ A * C := fun e he => by
      obtain ⟨i, hi, rfl⟩ := List.mem_iff_getElem.mp he
      rw [List.getElem_zipWith, Int.natAbs_mul]
      exact Nat.mul_le_mul (h.b row hr _ (List.getElem_mem _)) (by' _ (List.getElem_mem _))
    have h3 : (List.zipWith (· * ·) row y).length ≤ 3 := by rw [List.length_zipWith, hy]; omega
    exact Nat.le_trans (sum_bd h) (Nat.mul_le_mul_right _ h3)
  have h : ∀ e ∈ List.zipWith (fun row a => a * dot row y) r x, e.natAbs ≤ B * (3 * (A * C)) := fun e he => by
    obtain ⟨i, hi, rfl⟩ := List.mem_iff_getElem.mp he
    rw [List.getElem_zipWith, Int.natAbs_mul]
    exact Nat.mul_le_mul (bx _ (List.getElem_mem _)) (hd _ (List.getElem_mem _))
  have h3 : (List.zipWith (fun row a => a * dot row y) r x).length ≤ 3 := by rw [List.length_zipWith, hx]; omega
  exact Nat.le_trans (sum_bd h) (Nat.mul_le_mul_right _ h3)
theorem sq_ch {n : Nat} {r c : Mat} (s : Sq n c) : Sq n (chM r c) := ⟨by unfold chM; rw [List.length_map, s.h], fun l hl => by
  unfold chM at hl
  obtain ⟨o, _, rfl⟩ := List.mem_map.mp hl
  rw [List.length_map, s.h]⟩
theorem mb_ch {n A B : Nat} {r c : Mat} (h : Mb n A r) (k : Mb n B c) (hn : n ≤ 3) : Mb n (3 * (B * (3 * (A * B)))) (chM r c) := ⟨sq_ch k.s, fun l hl x hx => by
  unfold chM at hl
  obtain ⟨o, ho, rfl⟩ := List.mem_map.mp hl
  obtain ⟨o', ho', rfl⟩ := List.mem_map.mp hx
  exact lean_bdG h hn (k.s.w o ho) (k.s.w o' ho') (k.b o ho) (k.b o' ho')⟩
theorem led_bdG {n B C : Nat} {c : Mat} (h : Mb n B c) (hn : n ≤ 3) {x : List Int} (hx : x.length = n) (bx : ∀ e ∈ x, e.natAbs ≤ C) : ∀ e ∈ ledM n c x, e.natAbs ≤ 3 * (C * B) := fun e he => by
  unfold ledM at he
  obtain ⟨j, hj, rfl⟩ := List.mem_map.mp he
  have hj := List.mem_range.mp hj
  have h1 : ∀ e ∈ List.zipWith (fun a (row : List Int) => a * row.getD j 0) x c, e.natAbs ≤ C * B := fun e he => by
    obtain ⟨i, hi, rfl⟩ := List.mem_iff_getElem.mp he
    rw [List.getElem_zipWith, Int.natAbs_mul]
    refine Nat.mul_le_mul (bx _ (List.getElem_mem _)) ?_
    rw [List.length_zipWith] at hi
    have hm : c[i]'(by omega) ∈ c := List.getElem_mem _
    have hw := h.s.w _ hm
    rw [List.getD_eq_getElem?_getD, List.getElem?_eq_getElem (by rw [hw]; exact hj)]
    exact h.b _ hm _ (List.getElem_mem _)
  have h3 : (List.zipWith (fun a (row : List Int) => a * row.getD j 0) x c).length ≤ 3 := by rw [List.length_zipWith, hx]; omega
  exact Nat.le_trans (sum_bd h1) (Nat.mul_le_mul_right _ h3)
theorem mb_both {n B C : Nat} {one other : Mat} (h : Mb n B one) (k : Mb n C other) (hn : n ≤ 3) : Mb n (3 * (C * B)) (other.map (ledM n one)) := ⟨sq_both k.s, fun l hl x hx => by
  obtain ⟨o, ho, rfl⟩ := List.mem_map.mp hl
  exact led_bdG h hn (k.s.w o ho) (k.b o ho) x hx⟩
theorem mb_back {n B : Nat} {c : Mat} (hn : 1 ≤ n) (hn3 : n ≤ 3) (h : Mb n B c) (u : detE c = 1 ∨ detE c = -1) : Mb n (B + 2 * (B * B)) (backM n c) := by
  refine ⟨sq_back, ?_⟩
  have hb := h.b
  have : n = 1 ∨ n = 2 ∨ n = 3 := by omega
  rcases this with rfl | rfl | rfl
  · obtain ⟨a, rfl⟩ := sq1 h.s
    rw [back1]
    intro l hl x hx
    exact Nat.le_trans (hb l hl x hx) (by omega)
  · obtain ⟨a, b, c', d, rfl⟩ := sq2 h.s
    rw [det2] at u
    rw [back2]
    generalize a * d - b * c' = D at u ⊢
    have ha := hb [a, b] (by simp) a (by simp)
    have hb' := hb [a, b] (by simp) b (by simp)
    have hc := hb [c', d] (by simp) c' (by simp)
    have hd := hb [c', d] (by simp) d (by simp)
    have key : ∀ y : Int, y.natAbs ≤ B → (D * y).natAbs ≤ B + 2 * (B * B) := fun y hy => by
      rcases u with rfl | rfl <;> omega
    intro l hl x hx
    simp only [List.mem_cons, List.not_mem_nil, or_false] at hl
    rcases hl with rfl | rfl <;> simp only [List.mem_cons, List.not_mem_nil, or_false] at hx <;> rcases hx with rfl | rfl <;> apply key <;> omega
  · obtain ⟨a, b, c', d, e, f, g, h', i, rfl⟩ := sq3 h.s
    rw [back3 a b c' d e f g h' i _ rfl]
    generalize detE [[a, b, c'], [d, e, f], [g, h', i]] = D at u ⊢
    have b1 := hb [a, b, c'] (by simp)
    have b2 := hb [d, e, f] (by simp)
    have b3 := hb [g, h', i] (by simp)
    have key : ∀ p q r s : Int, p.natAbs ≤ B → q.natAbs ≤ B → r.natAbs ≤ B → s.natAbs ≤ B → (D * (p * q - r * s)).natAbs ≤ B + 2 * (B * B) ∧ (D * -(p * q - r * s)).natAbs ≤ B + 2 * (B * B) := fun p q r s hp hq hr hs => by
      have m1 : (p * q).natAbs ≤ B * B := by rw [Int.natAbs_mul]; exact Nat.mul_le_mul hp hq
      have m2 : (r * s).natAbs ≤ B * B := by rw [Int.natAbs_mul]; exact Nat.mul_le_mul hr hs
      generalize p * q = u1 at m1 ⊢
      generalize r * s = u2 at m2 ⊢
      generalize B * B = BB at m1 m2 ⊢
      rcases u with rfl | rfl <;> omega
    have ea := b1 a (by simp)
    have eb := b1 b (by simp)
    have ec := b1 c' (by simp)
    have ed := b2 d (by simp)
    have ee := b2 e (by simp)
    have ef := b2 f (by simp)
    have eg := b3 g (by simp)
    have eh := b3 h' (by simp)
    have ei := b3 i (by simp)
    intro l hl x hx
    simp only [List.mem_cons, List.not_mem_nil, or_false] at hl
    rcases hl with rfl | rfl | rfl <;> simp only [List.mem_cons, List.not_mem_nil, or_false] at hx <;> rcases hx with rfl | rfl | rfl
    · exact (key _ _ _ _ ee ei ef eh).1
    · exact (key _ _ _ _ eb ei ec eh).2
    · exact (key _ _ _ _ eb ef ec ee).1
    · exact (key _ _ _ _ ed ei ef eg).2
    · exact (key _ _ _ _ ea ei ec eg).1
    · exact (key _ _ _ _ ea ef ec ed).2
    · exact (key _ _ _ _ ed eh ee eg).1
    · exact (key _ _ _ _ ea eh eb eg).2
    · exact (key _ _ _ _ ea ee eb ed).1
theorem ChM.mb {n : Nat} {c : Mat} (h : ChM n c) : Mb n 30 c := ⟨h.s, h.b⟩
theorem ChM.chg {n : Nat} {c : Mat} (h : ChM n c) (hn : 1 ≤ n) (hn3 : n ≤ 3) : Chg n c := ⟨h.s, hn, hn3, h.u, h.mb.bd⟩
theorem back_chg {n : Nat} {c : Mat} (h : ChM n c) (hn : 1 ≤ n) (hn3 : n ≤ 3) : Chg n (backM n c) := ⟨sq_back, hn, hn3, by rw [det_back hn hn3 h.s h.u]; exact h.u, (mb_back hn hn3 h.mb h.u).bd⟩
theorem LowF.mb {n : Nat} {r : Mat} (h : LowF n r) : Mb n 1000 r := ⟨h.f.s, h.b⟩
/-- two shown together -/
theorem shv2 {B m b b' : Nat} {d e : PyData} (h : Kd B m b d) (k : Kd B m b' e) (hB : B < 2 ^ 190 := by decide +kernel) (hm : m ≤ 19 := by decide) (hb : b + b' ≤ 9000 := by decide) : Shv (.tuple [d, e]) :=
  Kd.shv (m := m + 1) (b := b + 1 + (b' + 1 + 0)) (kd_tup.mpr (kdl_cons h (kdl_cons k kdl_nil))) hB (by omega) (by omega)
end Kz
set_option Elab.async false
set_option linter.all false
set_option maxRecDepth 100000
set_option maxHeartbeats 4000000
/-! Kz: the law's checks of led steps, changed forms, both changes as one -/
namespace Kz
open PySem PySem.Spec PyProof.Rows L2
/-! keywords, written the other way round -/
def kw2 {α : Type} : List α → List α → List α
  | [], [b, a] => [a, b]
  | _, _ => []
def kw3 {α : Type} : List α → List α → List α
  | [], [c, b, a] => [a, b, c]
  | _, _ => []
theorem kw2_inv {α : Type} {us ws : List α} (h : (kw2 us ws).length = 2) : ∃ a b, us = [] ∧ ws = [b, a] := by
  unfold kw2 at h
  split at h
  · exact ⟨_, _, rfl, rfl⟩
  · cases h
theorem kw3_inv {α : Type} {us ws : List α} (h : (kw3 us ws).length = 3) : ∃ a b c, us = [] ∧ ws = [c, b, a] := by
  unfold kw3 at h
  split at h
  · exact ⟨_, _, _, rfl, rfl⟩
  · cases h
theorem kw2_rel {vs : List V} {us : List Value} {zs : List V} {ws : List Value} (r : Vals vs us) (z : Vals zs ws) : Vals (kw2 vs zs) (kw2 us ws) := by
  cases r with
  | nil =>
    cases z with
    | nil => exact .nil
    | cons a z => cases z with
      | nil => exact .nil
      | cons b z => cases z with
        | nil => exact .cons b (.cons a .nil)
        | cons c z => exact .nil
  | cons a r => exact .nil
theorem kw3_rel {vs : List V} {us : List Value} {zs : List V} {ws : List Value} (r : Vals vs us) (z : Vals zs ws) : Vals (kw3 vs zs) (kw3 us ws) := by
  cases r with
  | nil =>
    cases z with
    | nil => exact .nil
    | cons a z => cases z with
      | nil => exact .nil
      | cons b z => cases z with
        | nil => exact .nil
        | cons c z => cases z with
          | nil => exact .cons c (.cons b (.cons a .nil))
          | cons d z => exact .nil
  | cons a r => exact .nil
theorem kw2_dv {a b : PyData} (S : Addr → Prop) (H : Hp) (vs zs : List V) (h1 : DvL S H vs []) (h2 : DvL S H zs [b, a]) : DvL S H (kw2 vs zs) [a, b] := by
  cases h1
  cases h2 with
  | cons x y => cases y with
    | cons z y => cases y; exact .cons z (.cons x .nil)
theorem kw3_dv {a b c : PyData} (S : Addr → Prop) (H : Hp) (vs zs : List V) (h1 : DvL S H vs []) (h2 : DvL S H zs [c, b, a]) : DvL S H (kw3 vs zs) [a, b, c] := by
  cases h1
  cases h2 with
  | cons x y => cases y with
    | cons z y => cases y with
      | cons u y => cases y; exact .cons u (.cons z (.cons x .nil))
section
variable {p : Pm} {ρ : Rho} {ta tb : TE} {tt tu : TT}
theorem ed_isB {a b : Bool} (h : Ed p ta ρ (.bool a)) (k : Ed p tb ρ (.bool b)) : Ed p (tOp (fun x y H Q => ∃ a b, x = V.bl a ∧ y = V.bl b ∧ Q (.bl (decide (a = b))) H) ta tb) ρ (.bool (decide (a = b))) := ed_op h k fun H0 O σ ρ H x y e hx hy Q q => by
  cases hx; cases hy
  exact ⟨a, b, rfl, rfl, q _ H _ (Kq.refl H) e.ok (.bl _) rfl⟩
theorem ed_isNB {a b : Bool} (h : Ed p ta ρ (.bool a)) (k : Ed p tb ρ (.bool b)) : Ed p (tOp (fun x y H Q => ∃ a b, x = V.bl a ∧ y = V.bl b ∧ Q (.bl (!decide (a = b))) H) ta tb) ρ (.bool (!decide (a = b))) := ed_op h k fun H0 O σ ρ H x y e hx hy Q q => by
  cases hx; cases hy
  exact ⟨a, b, rfl, rfl, q _ H _ (Kq.refl H) e.ok (.bl _) rfl⟩
theorem ed_eqStr {i j : Str} (h : Ed p ta ρ (.str i)) (k : Ed p tb ρ (.str j)) : Ed p (tOp rEq ta tb) ρ (.bool (decide (i = j))) := ed_op h k fun H0 O σ ρ H x y e hx hy Q q => by
  cases hx; cases hy
  refine ⟨rfl, ?_⟩
  have e1 : decide (V.str i = V.str j) = decide (i = j) := by simp
  rw [e1]
  exact q _ H _ (Kq.refl H) e.ok (.bl _) rfl
theorem et_orT {P1 P2 : Bool → Prop} (h : Et p tt ρ P1) (k : Et p tu ρ P2) : Et p (tOr tt tu) ρ (fun _ => True) := fun H0 O σ H e Q q => by
  refine h H0 O σ H e _ fun c H2 k2 o2 _ => ?_
  cases c with
  | true => exact q true H2 k2 o2 trivial
  | false => exact k H0 O σ H2 (e.kq k2 o2) Q fun b H3 k3 o3 _ => q b H3 (k2.trans k3) o3 trivial
end
theorem bdl {l : List Int} {M : Nat} (h : ∀ e ∈ l, e.natAbs ≤ M) (hM : M < 2 ^ 190 := by decide +kernel) : BdL 1000 l := fun e he => Nat.lt_of_le_of_lt (h e he) (Nat.lt_trans hM (by decide +kernel))
theorem kdr {l : List Int} {n M : Nat} (hl : l.length = n) (hn : n ≤ 3) (h : ∀ e ∈ l, e.natAbs ≤ M) : Kd M 2 3 (rowD l) := kd_row (m := 1) h (by omega)
section
variable {P : Program} {w : World} {K : PySem.W.Frag} {mg : Str → Option Value} {base : Heap}
abbrev sLR : Stmt := topS 56
abbrev sFR : Stmt := topS 57
abbrev sBR : Stmt := topS 58
theorem scLR : FnScope ["n", "change", "step", "far", "behind"] ["n", "change", "step"] (defScope sLR) := ⟨rfl, rfl, rfl, by decide +kernel, rfl, by decide +kernel, by decide +kernel⟩
theorem scFR : FnScope ["form", "change", "one", "other", "way", "n", "due", "told", "near", "far"] ["form", "change", "one", "other", "way"] (defScope sFR) := ⟨rfl, rfl, rfl, by decide +kernel, rfl, by decide +kernel, by decide +kernel⟩
theorem scBR : FnScope ["n", "form", "one", "other", "both", "row", "due"] ["n", "form", "one", "other"] (defScope sBR) := ⟨rfl, rfl, rfl, by decide +kernel, rfl, by decide +kernel, by decide +kernel⟩
structure St3 (n : Nat) (x : List Int) : Prop where
  l : x.length = n
  b : ∀ e ∈ x, e.natAbs ≤ 1000
abbrev spLR (Ts : List Addr) : Sp := pureG Ts 3 (G := Nat × Mat × List Int) (fun g => [.int (g.1 : Int), matD g.2.1, rowD g.2.2]) (fun g => (1 ≤ g.1 ∧ g.1 ≤ 3 ∧ ChM g.1 g.2.1) ∧ St3 g.1 g.2.2) (fun _ d => d = .bool true)
theorem ok_LR (B : Bn mg) (hb : Hsb base) {f P1 P2 : Addr} {fd : FuncData} (F : Fun K "_law_is_led_right" "_law_is_led_right" sLR f fd) (C1 : Cl P w K mg base "led" ["n", "change", "step"] 10 (spLed [P1, P2])) (C2 : Cl P w K mg base "back" ["n", "change"] 10 (spBack [P1, P2])) (C3 : Cl P w K mg base "_law_led" ["change", "step"] 1 spLLed) (C4 : Cl P w K mg base "_law_back" ["change"] 5 spLBack) (C5 : Cl P w K mg base "is_change" ["n", "thing"] 8 (spIsCh [P1, P2]))
    (ka : KBinds K C1.fd ["n", "change", "step"] ["step", "change", "n"] kw3 kw3) (kb : KBinds K C2.fd ["n", "change"] ["change", "n"] kw2 kw2) : FnG P w K mg base 11 f fd ["n", "change", "step"] (spLR [P1, P2]) := by
  refine ok_pureR F scLR rfl (by decide) fun cdv A outer s H hr hG => ⟨_, pss_cons (ps_set (i := 3) scLR.nd rfl (.inl rfl) (pCall C1 hr (by decide) (pa_cons (pv 0) (pa_cons (pv 1) (pa_cons (pv 2) pa_nil)))))
    (pss_cons (ps_set (i := 4) scLR.nd rfl (.inl rfl) (pCall C2 hr (by decide) (pa_cons (pv 0) (pa_cons (pv 1) pa_nil))))
    (pss_cons (ps_if (pt_cmpR op_ne (pRepv B hb hG hr.units (pe_tup (pa_cons (pv 3) (pa_cons (pv 4) pa_nil)))) (pRepv B hb hG hr.units (pe_tup (pa_cons (pCall C3 hr (by decide) (pa_cons (pv 1) (pa_cons (pv 2) pa_nil))) (pa_cons (pCall C4 hr (by decide) (pa_cons (pv 1) pa_nil)) pa_nil)))) (nomark _)) pss_never pss_nil)
    (pss_cons (ps_if (pt_cmpR op_ne (pRepv B hb hG hr.units (pe_tup (pa_cons (pe_callK0 C1.G (hr.mono (by decide)) rfl C1.g C1.kp ka pass0 (pk_cons (pv 2) (pk_cons (pv 1) (pk_cons (pv 0) pk_nil)))) (pa_cons (pe_callK0 C2.G (hr.mono (by decide)) rfl C2.g C2.kp kb pass0 (pk_cons (pv 1) (pk_cons (pv 0) pk_nil))) pa_nil)))) (pRepv B hb hG hr.units (pe_tup (pa_cons (pv 3) (pa_cons (pv 4) pa_nil)))) (nomark _)) pss_never pss_nil)
    (pss_cons (ps_if (pt_cmpR op_ne (pRepv B hb hG hr.units (pe_tup (pa_cons (pCall C1 hr (by decide) (pa_cons (pv 0) (pa_cons (pv 4) (pa_cons (pv 3) pa_nil)))) (pa_cons (pCall C2 hr (by decide) (pa_cons (pv 0) (pa_cons (pv 4) pa_nil))) pa_nil)))) (pRepv B hb hG hr.units (pe_tup (pa_cons (pv 2) (pa_cons (pv 1) pa_nil)))) (nomark _)) pss_never pss_nil)
      (pss_one (ps_ret (pe_cmpR op_is_bl (pCall C5 hr (by decide) (pa_cons (pv 0) (pa_cons (pv 4) pa_nil))) pe_bl (nomark _)))))))), fun p g hT hg => ?_⟩
  obtain ⟨n, c, x⟩ := g
  obtain ⟨⟨hn1, hn3, hc⟩, hx, bx⟩ := hg
  dsimp only at hn1 hn3 hc hx bx
  have chg := hc.chg hn1 hn3
  have bch := back_chg hc hn1 hn3
  have mbk : Mb n 1830 (backM n c) := (mb_back hn1 hn3 hc.mb hc.u).mono (by decide)
  have bf : ∀ e ∈ ledM n c x, e.natAbs ≤ 90000 := fun e he => Nat.le_trans (led_bdG hc.mb hn3 hx bx e he) (by decide)
  have s1 : Shv (.tuple [rowD (ledM n c x), matD (backM n c)]) := shv2 (B := 90000) (kdr led_len hn3 bf) ((mbk.mono (by decide)).kd hn3)
  have s2 : Shv (.tuple [rowD x, matD c]) := shv2 (B := 1000) (kdr hx hn3 bx) ((hc.mb.mono (by decide)).kd hn3)
  refine rn_set_ (d := rowD (ledM n c x)) (ed_callG (n, c, x) (ea_consD (ex_var rfl) (ea_consD (ex_var rfl) (ea_one (ex_var rfl)))) rfl ⟨chg, hx, bdl bx⟩ hT fun d h => h) ?_
  refine rn_set_ (d := matD (backM n c)) (ed_callG (n, c) (ea_consD (ex_var rfl) (ea_one (ex_var rfl))) rfl chg hT fun d h => h) ?_
  have t2 : ∀ {t : TA} {ρ : Rho} {a b : PyData}, Ea p t ρ (· = [a, b]) → Ed p (tTup t) ρ (.tuple [a, b]) := fun h => ed_tup h (by show 2 ≤ 1000; decide)
  refine rn_when_ (t := false) (et_testE (ed_neS (ed_repv (d := .tuple [rowD (ledM n c x), matD (backM n c)]) (t2 (ea_consD (ex_var rfl) (ea_one (ex_var rfl)))) s1) (ed_repv (d := .tuple [rowD (ledM n c x), matD (backM n c)]) (t2 (ea_consD (ed_callG (n, c, x) (ea_consD (ex_var rfl) (ea_one (ex_var rfl))) rfl ⟨⟨hn1, by show n ≤ 64; omega, hc.s⟩, hc.mb.bd, hx, bdl bx⟩ (by simp) fun d h => h) (ea_one (ed_callG (n, c) (ea_one (ex_var rfl)) rfl chg (by simp) fun d h => h)))) s1)) (by simp)) (fun e => by cases e) fun _ => ?_
  refine rn_when_ (t := false) (et_testE (ed_neS (ed_repv (d := .tuple [rowD (ledM n c x), matD (backM n c)]) (t2 (ea_consD (ed_callKG (ds := []) (es := [rowD x, matD c, .int (n : Int)]) (n, c, x) ea_nil (ea_consD (ex_var rfl) (ea_consD (ex_var rfl) (ea_one (ex_var rfl)))) kw3_dv rfl ⟨chg, hx, bdl bx⟩ hT fun d h => h) (ea_one (ed_callKG (ds := []) (es := [matD c, .int (n : Int)]) (n, c) ea_nil (ea_consD (ex_var rfl) (ea_one (ex_var rfl))) kw2_dv rfl chg hT fun d h => h)))) s1) (ed_repv (d := .tuple [rowD (ledM n c x), matD (backM n c)]) (t2 (ea_consD (ex_var rfl) (ea_one (ex_var rfl)))) s1)) (by simp)) (fun e => by cases e) fun _ => ?_
  refine rn_when_ (t := false) (et_testE (ed_neS (ed_repv (d := .tuple [rowD x, matD c]) (t2 (ea_consD (ed_callG (n, backM n c, ledM n c x) (ea_consD (ex_var rfl) (ea_consD (ex_var rfl) (ea_one (ex_var rfl)))) rfl ⟨bch, led_len, bdl bf⟩ hT fun d h => by rw [h, back_led hn1 hn3 hc.s hc.u hx]) (ea_one (ed_callG (n, backM n c) (ea_consD (ex_var rfl) (ea_one (ex_var rfl))) rfl bch hT fun d h => by rw [h, back_back hn1 hn3 hc.s hc.u])))) s2) (ed_repv (d := .tuple [rowD x, matD c]) (t2 (ea_consD (ex_var rfl) (ea_one (ex_var rfl)))) s2)) (by simp)) (fun e => by cases e) fun _ => ?_
  exact rn_ret (Ed.cast (ed_isB (a := true) (b := true) (ed_callG (n, matD (backM n c)) (ea_consD (ex_var rfl) (ea_one (ex_var rfl))) rfl ⟨hn3, fun r e => by rw [← matD_inj e]; exact mbk.bd⟩ hT fun d ⟨b, e, h⟩ => by rw [e, h.mpr bch.is]) ex_bool) rfl) rfl
end
end Kz
set_option Elab.async false
set_option linter.all false
set_option maxRecDepth 100000
set_option maxHeartbeats 4000000
namespace Kz
open PySem PySem.Spec PyProof.Rows L2
section
variable {P : Program} {w : World} {K : PySem.W.Frag} {mg : Str → Option Value} {base : Heap}
abbrev spFR (Ts : List Addr) : Sp := pureG Ts 5 (G := Nat × Mat × Mat × List Int × List Int × Int) (fun g => [matD g.2.1, matD g.2.2.1, rowD g.2.2.2.1, rowD g.2.2.2.2.1, .int g.2.2.2.2.2]) (fun g => (LowF g.1 g.2.1 ∧ ChM g.1 g.2.2.1) ∧ St3 g.1 g.2.2.2.1 ∧ St3 g.1 g.2.2.2.2.1) (fun _ d => d = .bool true)
theorem ok_FR (B : Bn mg) (hb : Hsb base) {f P1 P2 : Addr} {fd : FuncData} (F : Fun K "_law_is_form_right" "_law_is_form_right" sFR f fd) (C1 : Cl P w K mg base "_law_changed" ["form", "change"] 2 spLChd) (C2 : Cl P w K mg base "changed" ["form", "change"] 11 (spChanged [P1, P2])) (C3 : Cl P w K mg base "_law_is_low" ["form", "most"] 1 spLLow) (C4 : Cl P w K mg base "led" ["n", "change", "step"] 10 (spLed [P1, P2]))
    (C5 : Cl P w K mg base "_law_lean" ["form", "one", "other"] 1 spLLean) (C6 : Cl P w K mg base "lean" ["form", "one", "other"] 11 (spLean [P1, P2])) (C7 : Cl P w K mg base "size" ["form", "step"] 11 (spSize [P1, P2])) (C8 : Cl P w K mg base "is_form" ["thing"] 9 (spIsForm [P1, P2])) (C9 : Cl P w K mg base "back" ["n", "change"] 10 (spBack [P1, P2]))
    (ka : KBinds K C2.fd ["form", "change"] ["change", "form"] kw2 kw2) : FnG P w K mg base 12 f fd ["form", "change", "one", "other", "way"] (spFR [P1, P2]) := by
  refine ok_pureR F scFR rfl (by decide) fun cdv A outer s H hr hG => ⟨_, pss_cons (ps_par (i := 5) (j := 6) rfl scFR.nd rfl rfl (by decide) rfl rfl (pa_cons (pLen B (pv 0)) (pa_cons (pCall C1 hr (by decide) (pa_cons (pv 0) (pa_cons (pv 1) pa_nil))) pa_nil)) rfl)
    (pss_cons (ps_set (i := 7) scFR.nd rfl (.inl rfl) (pe_ifExp (pt_cmpR op_eq (pv 4) pe_int (nomark _)) (pCall C2 hr (by decide) (pa_cons (pv 0) (pa_cons (pv 1) pa_nil))) (pe_callK0 C2.G (hr.mono (by decide)) rfl C2.g C2.kp ka pass0 (pk_cons (pv 1) (pk_cons (pv 0) pk_nil)))))
    (pss_cons (ps_if (PW.pt (pw_or (pt_cmpR op_ne (pRepv B hb hG hr.units (pv 7)) (pRepv B hb hG hr.units (pv 6)) (nomark _)) (pw_or1 (pt_not (pt_val (pCall C3 hr (by decide) (pa_cons (pv 6) (pa_cons pe_int pa_nil)))))))) (pss_one (ps_ret (pe_cmpR op_eq (pRepv B hb hG hr.units (pv 7)) (pRepv B hb hG hr.units (pv 6)) (nomark _)))) pss_nil)
    (pss_cons (ps_par (i := 8) (j := 9) rfl scFR.nd rfl rfl (by decide) rfl rfl (pa_cons (pe_tup (pa_cons (pCall C4 hr (by decide) (pa_cons (pv 5) (pa_cons (pv 1) (pa_cons (pv 2) pa_nil)))) (pa_cons (pCall C4 hr (by decide) (pa_cons (pv 5) (pa_cons (pv 1) (pa_cons (pv 3) pa_nil)))) pa_nil))) (pa_cons (pe_tup (pa_cons (pCall C5 hr (by decide) (pa_cons (pv 6) (pa_cons (pv 2) (pa_cons (pv 3) pa_nil)))) (pa_cons (pCall C5 hr (by decide) (pa_cons (pv 6) (pa_cons (pv 2) (pa_cons (pv 2) pa_nil)))) pa_nil))) pa_nil)) rfl)
    (pss_cons (ps_if (pt_cmpR op_ne (pRepv B hb hG hr.units (pe_tup (pa_cons (pCall C6 hr (by decide) (pa_cons (pv 7) (pa_cons (pv 2) (pa_cons (pv 3) pa_nil)))) (pa_cons (pCall C7 hr (by decide) (pa_cons (pv 7) (pa_cons (pv 2) pa_nil))) pa_nil)))) (pRepv B hb hG hr.units (pv 9)) (nomark _)) pss_never pss_nil)
    (pss_cons (ps_if (pt_cmpR op_ne (pRepv B hb hG hr.units (pe_tup (pa_cons (pCall C6 hr (by decide) (pa_cons (pv 0) (pa_cons (pe_ix (ixT K) (pv 8) pe_int (fun _ _ => rfl)) (pa_cons (pe_ix (ixT K) (pv 8) pe_int (fun _ _ => rfl)) pa_nil)))) (pa_cons (pCall C7 hr (by decide) (pa_cons (pv 0) (pa_cons (pe_ix (ixT K) (pv 8) pe_int (fun _ _ => rfl)) pa_nil))) pa_nil)))) (pRepv B hb hG hr.units (pv 9)) (nomark _)) pss_never pss_nil)
      (pss_one (ps_ret (pe_and (pe_cmpR op_is_bl (pCall C8 hr (by decide) (pa_cons (pv 7) pa_nil)) pe_bl (nomark _)) (pe_one (pe_cmpR op_eq (pRepv B hb hG hr.units (pCall C2 hr (by decide) (pa_cons (pv 7) (pa_cons (pCall C9 hr (by decide) (pa_cons (pv 5) (pa_cons (pv 1) pa_nil))) pa_nil)))) (pRepv B hb hG hr.units (pv 0)) (nomark _)))))))))))
    , fun p g hT hg => ?_⟩
  obtain ⟨n, r, c, x, y, way⟩ := g
  obtain ⟨⟨lf, hc⟩, ⟨hx, bx⟩, hy, by'⟩ := hg
  dsimp only at lf hc hx bx hy by'
  have hn1 := lf.f.lo
  have hn3 := lf.f.hi
  have chg := hc.chg hn1 hn3
  have bch := back_chg hc hn1 hn3
  have okf : OkF (n, r) := ⟨lf.f, lf.mb.bd⟩
  have mt : Mb n 8100000 (chM r c) := (mb_ch lf.mb hc.mb hn3).mono (by decide)
  have okt : OkF (n, chM r c) := ⟨form_ch lf.f hc, mt.bd⟩
  have st := (mt.kd hn3).shv (by decide +kernel) (by decide) (by decide)
  have sr := (lf.mb.kd hn3).shv (by decide +kernel) (by decide) (by decide)
  have bl : ∀ {y : List Int}, y.length = n → (∀ e ∈ y, e.natAbs ≤ 1000) → (leanM (chM r c) x y).natAbs ≤ 2 ^ 100 := fun h1 h2 => Nat.le_trans (lean_bdG mt hn3 hx h1 bx h2) (by decide +kernel)
  have bfx : ∀ e ∈ ledM n c x, e.natAbs ≤ 90000 := fun e he => Nat.le_trans (led_bdG hc.mb hn3 hx bx e he) (by decide)
  have bfy : ∀ e ∈ ledM n c y, e.natAbs ≤ 90000 := fun e he => Nat.le_trans (led_bdG hc.mb hn3 hy by' e he) (by decide)
  have sf : Shv (.tuple [.int (leanM (chM r c) x y), .int (leanM (chM r c) x x)]) := shv2 (B := 2 ^ 100) (m := 2) (b := 3) (b' := 3) (kd_int (bl hy by')) (kd_int (bl hx bx))
  have hsm : Sm (chM r c) := ⟨by rw [mt.s.h]; omega, fun l hl => by rw [mt.s.w l hl]; omega⟩
  have t2 : ∀ {t : TA} {ρ : Rho} {a b : PyData}, Ea p t ρ (· = [a, b]) → Ed p (tTup t) ρ (.tuple [a, b]) := fun h => ed_tup h (by show 2 ≤ 1000; decide)
  refine rn_seq (Nm := fun ρ => ρ = [some (.dat (matD r)), some (.dat (matD c)), some (.dat (rowD x)), some (.dat (rowD y)), some (.dat (.int way)), some (.dat (.int (n : Int))), some (.dat (matD (chM r c))), none, none, none]) (rn_par (P1 := (· = .int (n : Int))) (P2 := (· = matD (chM r c))) (Ed.cast (ed_cb (ea_one (ex_var (d := matD r) rfl)) (bc_len (.t _))) (by rw [List.length_map, lf.f.s.h])) (ed_callG (r, c) (ea_consD (ex_var rfl) (ea_one (ex_var rfl))) rfl ⟨⟨lf.mb.bd, hc.mb.bd⟩, ⟨by show r.length ≤ 64; rw [lf.f.s.h]; omega, fun l hl => by rw [lf.f.s.w l hl]; omega⟩, by show c.length ≤ 64; rw [hc.s.h]; omega⟩ (by simp) fun d h => h) fun d e h1 h2 => by subst h1 h2; rfl) fun ρ e => ?_
  subst e
  refine rn_set_ (d := matD (chM r c)) (ex_ifE (Pt := fun _ => True) (et_any (et_test (ed_eqI (i := way) (j := 0) (ex_var rfl) ex_int))) (fun _ => ed_callG (n, r, c) (ea_consD (ex_var rfl) (ea_one (ex_var rfl))) rfl ⟨okf, chg⟩ hT fun d h => h) fun _ => ed_callKG (ds := []) (es := [matD c, matD r]) (n, r, c) ea_nil (ea_consD (ex_var rfl) (ea_one (ex_var rfl))) kw2_dv rfl ⟨okf, chg⟩ hT fun d h => h) ?_
  refine rn_seq (Nm := fun ρ => ρ = [some (.dat (matD r)), some (.dat (matD c)), some (.dat (rowD x)), some (.dat (rowD y)), some (.dat (.int way)), some (.dat (.int (n : Int))), some (.dat (matD (chM r c))), some (.dat (matD (chM r c))), none, none]) (rn_ifX (P := fun _ => True) (et_orT (P1 := fun _ => True) (P2 := fun _ => True) (et_any (et_test (ed_neS (ed_repv (ex_var rfl) st) (ed_repv (ex_var rfl) st)))) (et_notR (P := fun _ => True) (et_testX (P := fun d => ∃ b, d = .bool b ∧ (b = true → ∀ l ∈ chM r c, ∀ x ∈ l, (x.natAbs : Int) ≤ 1000)) (ex_callG (chM r c, 1000) (ea_consD (ex_var rfl) (ea_one ex_int)) rfl ⟨fun z => ?_, fun l hl z => ?_, hsm⟩ (by simp)) fun d ⟨b, e, _⟩ => ⟨b, e, trivial⟩) fun _ _ => trivial)) (fun _ => rn_ret (Ed.cast (ed_eqS (ed_repv (ex_var rfl) st) (ed_repv (ex_var rfl) st)) (by simp)) rfl) fun _ => rn_next rfl) fun ρ e => ?_
  · have := mt.s.h
    dsimp only at z
    rw [z] at this
    simp at this
    omega
  · have := mt.s.w l hl
    rw [z] at this
    simp at this
    omega
  subst e
  refine rn_seq (Nm := fun ρ => ρ = [some (.dat (matD r)), some (.dat (matD c)), some (.dat (rowD x)), some (.dat (rowD y)), some (.dat (.int way)), some (.dat (.int (n : Int))), some (.dat (matD (chM r c))), some (.dat (matD (chM r c))), some (.dat (.tuple [rowD (ledM n c x), rowD (ledM n c y)])), some (.dat (.tuple [.int (leanM (chM r c) x y), .int (leanM (chM r c) x x)]))]) (rn_par (P1 := (· = .tuple [rowD (ledM n c x), rowD (ledM n c y)])) (P2 := (· = .tuple [.int (leanM (chM r c) x y), .int (leanM (chM r c) x x)])) (t2 (ea_consD (ed_callG (n, c, x) (ea_consD (ex_var rfl) (ea_consD (ex_var rfl) (ea_one (ex_var rfl)))) rfl ⟨chg, hx, bdl bx⟩ hT fun d h => h) (ea_one (ed_callG (n, c, y) (ea_consD (ex_var rfl) (ea_consD (ex_var rfl) (ea_one (ex_var rfl)))) rfl ⟨chg, hy, bdl by'⟩ hT fun d h => h))))
    (t2 (ea_consD (ed_callG (chM r c, x, y) (ea_consD (ex_var rfl) (ea_consD (ex_var rfl) (ea_one (ex_var rfl)))) rfl ⟨⟨mt.bd, bdl bx, bdl by'⟩, hsm⟩ (by simp) fun d h => h) (ea_one (ed_callG (chM r c, x, x) (ea_consD (ex_var rfl) (ea_consD (ex_var rfl) (ea_one (ex_var rfl)))) rfl ⟨⟨mt.bd, bdl bx, bdl bx⟩, hsm⟩ (by simp) fun d h => h)))) fun d e h1 h2 => by subst h1 h2; rfl) fun ρ e => ?_
  subst e
  refine rn_when_ (t := false) (et_testE (ed_neS (ed_repv (d := .tuple [.int (leanM (chM r c) x y), .int (leanM (chM r c) x x)]) (t2 (ea_consD (ed_callG (n, chM r c, x, y) (ea_consD (ex_var rfl) (ea_consD (ex_var rfl) (ea_one (ex_var rfl)))) rfl ⟨okt, hx, bdl bx, hy, bdl by'⟩ hT fun d h => h) (ea_one (ed_callG (n, chM r c, x) (ea_consD (ex_var rfl) (ea_one (ex_var rfl))) rfl ⟨okt, hx, bdl bx⟩ hT fun d h => h)))) sf) (ed_repv (ex_var rfl) sf)) (by simp)) (fun e => by cases e) fun _ => ?_
  have n0 : ∀ {ρ : Rho}, ρ[8]? = some (some (.dat (.tuple [rowD (ledM n c x), rowD (ledM n c y)]))) → Ed p (tOp (rIxT K) (tVar 8) (tC (.int 0))) ρ (rowD (ledM n c x)) := fun h => ed_ixT (ds := [rowD (ledM n c x), rowD (ledM n c y)]) (i := 0) (ex_var h) ex_int rfl
  have n1 : ∀ {ρ : Rho}, ρ[8]? = some (some (.dat (.tuple [rowD (ledM n c x), rowD (ledM n c y)]))) → Ed p (tOp (rIxT K) (tVar 8) (tC (.int 1))) ρ (rowD (ledM n c y)) := fun h => ed_ixT (ds := [rowD (ledM n c x), rowD (ledM n c y)]) (i := 1) (ex_var h) ex_int rfl
  refine rn_when_ (t := false) (et_testE (ed_neS (ed_repv (d := .tuple [.int (leanM (chM r c) x y), .int (leanM (chM r c) x x)]) (t2 (ea_consD (ed_callG (n, r, ledM n c x, ledM n c y) (ea_consD (ex_var rfl) (ea_consD (n0 rfl) (ea_one (n1 rfl)))) rfl ⟨okf, led_len, bdl bfx, led_len, bdl bfy⟩ hT fun d h => by rw [h, lean_ledM hn1 hn3 lf.f.s hc.s hx hy]) (ea_one (ed_callG (n, r, ledM n c x) (ea_consD (ex_var rfl) (ea_one (n0 rfl))) rfl ⟨okf, led_len, bdl bfx⟩ hT fun d h => by rw [h, lean_ledM hn1 hn3 lf.f.s hc.s hx hx])))) sf) (ed_repv (ex_var rfl) sf)) (by simp)) (fun e => by cases e) fun _ => ?_
  exact rn_ret (d := .bool true) (ed_andV (a := true) (Ed.cast (ed_isB (a := true) (b := true) (ed_callG (n, chM r c) (ea_one (ex_var rfl)) rfl okt hT fun d h => h) ex_bool) rfl) (fun _ => Ed.cast (ed_eqS (ed_repv (d := matD r) (ed_callG (n, chM r c, backM n c) (ea_consD (ex_var rfl) (ea_one (ed_callG (n, c) (ea_consD (ex_var rfl) (ea_one (ex_var rfl))) rfl chg hT fun d h => h))) rfl ⟨okt, bch⟩ hT fun d h => by rw [h]; exact congrArg matD (ch_back lf.f hc.s hc.u)) sr) (ed_repv (ex_var rfl) sr)) (by simp)) (fun e => by cases e)) rfl
abbrev spBR (Ts : List Addr) : Sp := pureG Ts 4 (G := Nat × Mat × Mat × Mat) (fun g => [.int (g.1 : Int), matD g.2.1, matD g.2.2.1, matD g.2.2.2]) (fun g => LowF g.1 g.2.1 ∧ ChM g.1 g.2.2.1 ∧ ChM g.1 g.2.2.2) (fun _ d => d = .bool true)
theorem ok_BR (B : Bn mg) (hb : Hsb base) {f P1 P2 : Addr} {fd : FuncData} (F : Fun K "_law_are_both_right" "_law_are_both_right" sBR f fd) (C1 : Cl P w K mg base "_law_changed" ["form", "change"] 2 spLChd) (C2 : Cl P w K mg base "changed" ["form", "change"] 11 (spChanged [P1, P2])) (C3 : Cl P w K mg base "_law_is_low" ["form", "most"] 1 spLLow) (C4 : Cl P w K mg base "led" ["n", "change", "step"] 10 (spLed [P1, P2]))
    (C5 : Cl P w K mg base "_law_led" ["change", "step"] 1 spLLed) (C6 : Cl P w K mg base "is_change" ["n", "thing"] 8 (spIsCh [P1, P2])) : FnG P w K mg base 12 f fd ["n", "form", "one", "other"] (spBR [P1, P2]) := by
  refine ok_pureR F scBR rfl (by decide) fun cdv A outer s H hr hG => ⟨_, pss_cons (ps_set (i := 4) scBR.nd rfl (.inl rfl) (pTuple B (pe_lc (own := [("row", 5)]) rfl scBR.nd (piT K (pv 3)) (blkOk_by (own := [("row", 5)]) (N := ["n", "form", "one", "other", "both", "row", "due"]) (sc := defScope sBR) (by decide +kernel)) (fun _ _ _ _ _ => gN 5 scBR.nd) (fun _ _ _ _ _ => pts_nil) (fun _ _ _ _ _ => pCall C5 hr (by decide) (pa_cons (pv 2) (pa_cons (pv 5) pa_nil))))))
    (pss_cons (ps_if (PW.pt (pw_or (pt_not (pt_val (pCall C3 hr (by decide) (pa_cons (pv 4) (pa_cons pe_int pa_nil))))) (pw_or1 (pt_not (pt_val (pCall C3 hr (by decide) (pa_cons (pCall C1 hr (by decide) (pa_cons (pv 1) (pa_cons (pv 2) pa_nil))) (pa_cons pe_int pa_nil)))))))) (pss_one (ps_ret pe_bl)) pss_nil)
    (pss_cons (ps_if (PW.pt (pw_or (pt_cmpR op_ne (pRepv B hb hG hr.units (pTuple B (pe_lc (own := [("row", 5)]) rfl scBR.nd (piT K (pv 3)) (blkOk_by (own := [("row", 5)]) (N := ["n", "form", "one", "other", "both", "row", "due"]) (sc := defScope sBR) (by decide +kernel)) (fun _ _ _ _ _ => gN 5 scBR.nd) (fun _ _ _ _ _ => pts_nil) (fun _ _ _ _ _ => pCall C4 hr (by decide) (pa_cons (pv 0) (pa_cons (pv 2) (pa_cons (pv 5) pa_nil))))))) (pRepv B hb hG hr.units (pv 4)) (nomark _)) (pw_or1 (pt_cmpR op_isnot_bl (pCall C6 hr (by decide) (pa_cons (pv 0) (pa_cons (pv 4) pa_nil))) pe_bl (nomark _))))) pss_never pss_nil)
    (pss_cons (ps_set (i := 6) scBR.nd rfl (.inl rfl) (pCall C1 hr (by decide) (pa_cons (pv 1) (pa_cons (pv 4) pa_nil))))
      (pss_one (ps_ret (pe_cmpR op_eq (pRepv B hb hG hr.units (pe_tup (pa_cons (pCall C2 hr (by decide) (pa_cons (pCall C2 hr (by decide) (pa_cons (pv 1) (pa_cons (pv 2) pa_nil))) (pa_cons (pv 3) pa_nil))) (pa_cons (pCall C2 hr (by decide) (pa_cons (pv 1) (pa_cons (pv 4) pa_nil))) pa_nil)))) (pRepv B hb hG hr.units (pe_tup (pa_cons (pv 6) (pa_cons (pv 6) pa_nil)))) (nomark _)))))))
    , fun p g hT hg => ?_⟩
  obtain ⟨n, r, one, other⟩ := g
  obtain ⟨lf, ho, hc⟩ := hg
  dsimp only at lf ho hc
  have hn1 := lf.f.lo
  have hn3 := lf.f.hi
  have chg1 := ho.chg hn1 hn3
  have chg2 := hc.chg hn1 hn3
  let both : Mat := other.map (ledM n one)
  have mb : Mb n 2700 both := (mb_both ho.mb hc.mb hn3).mono (by decide)
  have cb : Chg n both := ⟨mb.s, hn1, hn3, by
    show detE (other.map (ledM n one)) = 1 ∨ detE (other.map (ledM n one)) = -1
    rw [det_both hn1 hn3 ho.s hc.s]
    rcases ho.u with e1 | e1 <;> rcases hc.u with e2 | e2 <;> rw [e1, e2] <;> decide, mb.bd⟩
  have okf : OkF (n, r) := ⟨lf.f, lf.mb.bd⟩
  have m1 : Mb n 8100000 (chM r one) := (mb_ch lf.mb ho.mb hn3).mono (by decide)
  have ok1 : OkF (n, chM r one) := ⟨form_ch lf.f ho, m1.bd⟩
  have md : Mb n (2 ^ 60) (chM r both) := (mb_ch lf.mb mb hn3).mono (by decide +kernel)
  have sb := (mb.kd hn3).shv (by decide +kernel) (by decide) (by decide)
  have sd : Shv (.tuple [matD (chM r both), matD (chM r both)]) := shv2 (B := 2 ^ 60) (md.kd hn3) (md.kd hn3)
  have t2 : ∀ {t : TA} {ρ : Rho} {a b : PyData}, Ea p t ρ (· = [a, b]) → Ed p (tTup t) ρ (.tuple [a, b]) := fun h => ed_tup h (by show 2 ≤ 1000; decide)
  have sm : ∀ {M : Nat} {t : Mat}, Mb n M t → Sm t := fun h => ⟨by rw [h.s.h]; omega, fun l hl => by rw [h.s.w l hl]; omega⟩
  have ne : ∀ {M : Nat} {t : Mat}, Mb n M t → t ≠ [] ∧ (∀ l ∈ t, l ≠ []) := fun {M t} h => ⟨fun z => by
    have := h.s.h
    rw [z] at this
    simp at this
    omega, fun l hl z => by
    have := h.s.w l hl
    rw [z] at this
    simp at this
    omega⟩
  have hol : other.length = n := hc.s.h
  refine rn_set_ (d := matD both) (ed_cb (ea_one (ed_lcM (both.map rowD) (ii_tup (ds := other.map rowD) (ex_var rfl)) (by simp [both]) (by simp; omega) fun i d e hd he => ?_)) (bc_tuple (.l _))) ?_
  · simp only [both] at he
    rw [List.map_map, List.getElem?_map] at he
    rw [List.getElem?_map] at hd
    obtain ⟨o, ho', rfl⟩ := Option.map_eq_some_iff.mp hd
    rw [ho'] at he
    cases he
    have hm := List.mem_of_getElem? ho'
    exact ⟨[5], _, fun j hj => hj, tg_name, ed_callG (n, one, o) (ea_consD (ex_var rfl) (ea_one (ex_var rfl))) rfl ⟨⟨hn1, by show n ≤ 64; omega, ho.s⟩, ho.mb.bd, hc.s.w o hm, bdl (hc.b o hm)⟩ (by simp) fun d h => h⟩
  have lowT : ∀ {M : Nat} {t : Mat} {tx : TE} {ρ : Rho} {k : Int}, Mb n M t → Ed p tx ρ (matD t) → Et p (tNot (tTest (tCall spLLow [] E0 (tCons tx (tCons (tC (.int k)) tNil))))) ρ (fun _ => True) := fun {M t tx ρ k} hm h => et_notR (P := fun _ => True) (et_testX (P := fun d => ∃ b, d = .bool b ∧ (b = true → ∀ l ∈ t, ∀ x ∈ l, (x.natAbs : Int) ≤ k)) (ex_callG (t, k) (ea_consD h (ea_one ex_int)) rfl ⟨(ne hm).1, (ne hm).2, sm hm⟩ (by simp)) fun d ⟨b, e, _⟩ => ⟨b, e, trivial⟩) fun _ _ => trivial
  refine rn_seq (Nm := fun ρ => ρ = [some (.dat (.int (n : Int))), some (.dat (matD r)), some (.dat (matD one)), some (.dat (matD other)), some (.dat (matD both)), none, none]) (rn_ifX (P := fun _ => True) (et_orT (P1 := fun _ => True) (P2 := fun _ => True) (lowT mb (ex_var rfl)) (lowT m1 (ed_callG (r, one) (ea_consD (ex_var rfl) (ea_one (ex_var rfl))) rfl ⟨⟨lf.mb.bd, ho.mb.bd⟩, sm lf.mb, by show one.length ≤ 64; rw [ho.s.h]; omega⟩ (by simp) fun d h => h))) (fun _ => rn_ret ex_bool rfl) fun _ => rn_next rfl) fun ρ e => ?_
  subst e
  refine rn_when_ (t := false) (et_orX (a := false) (b := false) (et_testE (ed_neS (ed_repv (d := matD both) (ed_cb (ea_one (ed_lcM (both.map rowD) (ii_tup (ds := other.map rowD) (ex_var rfl)) (by simp [both]) (by simp; omega) fun i d e hd he => ?_)) (bc_tuple (.l _))) sb) (ed_repv (ex_var rfl) sb)) (by simp)) (fun _ => et_testE (ed_isNB (a := true) (b := true) (ed_callG (n, matD both) (ea_consD (ex_var rfl) (ea_one (ex_var rfl))) rfl ⟨hn3, fun r e => by rw [← matD_inj e]; exact mb.bd⟩ hT fun d ⟨b, e, h⟩ => by rw [e, h.mpr cb.is]) ex_bool) rfl) rfl) (fun e => by cases e) fun _ => ?_
  · simp only [both] at he
    rw [List.map_map, List.getElem?_map] at he
    rw [List.getElem?_map] at hd
    obtain ⟨o, ho', rfl⟩ := Option.map_eq_some_iff.mp hd
    rw [ho'] at he
    cases he
    have hm := List.mem_of_getElem? ho'
    exact ⟨[5], _, fun j hj => hj, tg_name, ed_callG (n, one, o) (ea_consD (ex_var rfl) (ea_consD (ex_var rfl) (ea_one (ex_var rfl)))) rfl ⟨chg1, hc.s.w o hm, bdl (hc.b o hm)⟩ hT fun d h => h⟩
  refine rn_set_ (d := matD (chM r both)) (ed_callG (r, both) (ea_consD (ex_var rfl) (ea_one (ex_var rfl))) rfl ⟨⟨lf.mb.bd, mb.bd⟩, sm lf.mb, by show both.length ≤ 64; rw [mb.s.h]; omega⟩ (by simp) fun d h => h) ?_
  exact rn_ret (Ed.cast (ed_eqS (ed_repv (d := .tuple [matD (chM r both), matD (chM r both)]) (t2 (ea_consD (ed_callG (n, chM r one, other) (ea_consD (ed_callG (n, r, one) (ea_consD (ex_var rfl) (ea_one (ex_var rfl))) rfl ⟨okf, chg1⟩ hT fun d h => h) (ea_one (ex_var rfl))) rfl ⟨ok1, chg2⟩ hT fun d h => by rw [h]; exact congrArg matD (ch_both hn1 hn3 lf.f.s ho.s hc.s)) (ea_one (ed_callG (n, r, both) (ea_consD (ex_var rfl) (ea_one (ex_var rfl))) rfl ⟨okf, cb⟩ hT fun d h => h)))) sd) (ed_repv (d := .tuple [matD (chM r both), matD (chM r both)]) (t2 (ea_consD (ex_var rfl) (ea_one (ex_var rfl)))) sd)) (by simp)) rfl
end
end Kz
set_option Elab.async false
set_option linter.all false
set_option maxRecDepth 100000
set_option maxHeartbeats 8000000
/-! Kz: the law of changes, led steps and back -/
namespace Kz
open PySem PySem.Spec PyProof.Rows L2
abbrev Nlaw : List Str := ["script", "deck", "turn", "n", "way", "form", "change", "other", "far", "steps", "i", "go", "thing", "x", "row", "j", "due", "words", "told"]
abbrev sLaw : Stmt := topS 59
theorem scLaw : FnScope Nlaw ["script"] (defScope sLaw) := ⟨rfl, rfl, rfl, by decide +kernel, rfl, by decide +kernel, by decide +kernel⟩
theorem seq_asg {te : TE} {i : Nat} {rest : TS} {D : Ends} {σ : L2.St} {H : Hp} (h : te σ H fun x H1 => rest D (σ.set i (some x)) H1) : tSeq (tAsg te (gName i)) rest D σ H := h
theorem DvK.inv {S : Addr → Prop} {H : Hp} {kvs : List (Key × V)} {k' d : PyData} {ps : List (PyData × PyData)} (h : DvK S H kvs ((k', d) :: ps)) : ∃ k v vs, kvs = (k, v) :: vs ∧ keyD k = k' ∧ Dv S H v d ∧ DvK S H vs ps := by
  generalize hp : (k', d) :: ps = qs at h
  cases h with
  | nil => cases hp
  | cons a b => cases hp; exact ⟨_, _, _, rfl, rfl, a, b⟩
theorem key_str {k : Key} {x : Str} (h : keyD k = .str x) : k = .inr x := by
  cases k with
  | inl i => cases h
  | inr y => injection h with h; rw [h]
theorem deck_inv {H : Hp} {v : V} {ms : List Int} {m : Int} (h : Dv (fun _ => False) H v (deckD ms m)) (hl : ms.length ≤ 63) : ∃ dk cl, v = .ref dk ∧ DkOk dk cl H := by
  cases h with
  | @dct dk kvs _ _ e r =>
    obtain ⟨k1, v1, vs1, rfl, e1, d1, r⟩ := r.inv
    obtain ⟨k2, v2, vs2, rfl, e2, d2, r⟩ := r.inv
    obtain ⟨k3, v3, vs3, rfl, e3, d3, r⟩ := r.inv
    cases r
    cases key_str e1
    cases key_str e2
    cases key_str e3
    cases d2
    cases d3
    cases d1 with
    | @lst cl xs _ _ el rl =>
      have := rl.ints_inv
      subst this
      exact ⟨dk, cl, rfl, ms, m, 0, e, el, by omega⟩
theorem str_assoc (a b c : Str) : a ++ b ++ c = a ++ (b ++ c) := by
  cases a; cases b; cases c
  show Str.mk _ = Str.mk _
  congr 1
  exact Array.append_assoc
theorem shown_two (a d : PyData) : (PyData.tuple [a, d]).shown = (("(" : Str) ++ a.shown) ++ (", " : Str) ++ d.shown ++ (")" : Str) := by
  show ("(" : Str) ++ (a.shown ++ (", " : Str) ++ d.shown) ++ (")" : Str) = _
  rw [str_assoc, str_assoc, str_assoc, str_assoc, str_assoc, str_assoc]
section
variable {p : Pm} {ρ : Rho} {ta tb : TE}
theorem ed_mod3 {i j : Int} (h : Ed p ta ρ (.int i)) (k : Ed p tb ρ (.int j)) (hb : 0 < j) : Ed p (tOp (rI (fun _ j => 0 < j) fun i j => .int (i % j)) ta tb) ρ (.int (i % j)) := ed_op h k (r2_I (C := fun _ j => 0 < j) (g' := fun i j => .int (i % j)) hb fun _ _ => .int _)
end
section
variable {p : Pm} {ρ : Rho} {te : TE} {w : Po}
theorem tg_tri {K : PySem.W.Frag} {g1 g2 g3 : TG} {t1 t2 t3 : List Nat} {d1 d2 d3 : PyData} {ρ1 ρ2 ρ3 : Rho} (h1 : Tg p g1 t1 ρ d1 ρ1) (h2 : Tg p g2 t2 ρ1 d2 ρ2) (h3 : Tg p g3 t3 ρ2 d3 ρ3) : Tg p (gTup K 3 (gCons g1 (gCons g2 (gCons g3 gNil)))) (t1 ++ (t2 ++ t3)) ρ (.tuple [d1, d2, d3]) ρ3 := fun H0 O σ H x e h Q q => by
  cases h with
  | tup n ea r =>
    cases r with
    | cons hv r => cases r with
      | cons hw r => cases r with
        | cons hz r =>
          cases r
          refine ⟨_, _, rfl, .inl (.inl ea), rfl, _, _, rfl, ?_⟩
          refine h1 H0 O σ H _ e hv _ fun σ' e' wp => ⟨_, _, rfl, h2 H0 O σ' H _ e' hw _ fun σ'' e'' wp' => ⟨_, _, rfl, h3 H0 O σ'' H _ e'' hz _ fun σ3 e3 wp'' => ⟨rfl, q σ3 e3 fun vs hm => ?_⟩⟩⟩
          rw [wp'' vs fun i hi => hm i (List.mem_append_right _ (List.mem_append_right _ hi)), wp' vs fun i hi => hm i (List.mem_append_right _ (List.mem_append_left _ hi)), wp vs fun i hi => hm i (List.mem_append_left _ hi)]
end
section
variable {X : Cx}
theorem gT3' (K : PySem.W.Frag) (i j l : Nat) {x y z : Str} {p1 p2 p3 pos : Pos} {k : Nat} (hc : X.calm = true) (hN : X.N.Nodup) (hK : X.K = K := by rfl) (hi : X.N[i]? = some x := by rfl) (hx : Loc X.env.scope x := by first | exact Or.inl rfl | exact Or.inr rfl) (hf : X.fn x = true ∨ X.env.scope.names.lookup x = some .local := by first | exact .inl rfl | exact .inr rfl)
    (hj : X.N[j]? = some y := by rfl) (hy : Loc X.env.scope y := by first | exact Or.inl rfl | exact Or.inr rfl) (hfy : X.fn y = true ∨ X.env.scope.names.lookup y = some .local := by first | exact .inl rfl | exact .inr rfl)
    (hl : X.N[l]? = some z := by rfl) (hz : Loc X.env.scope z := by first | exact Or.inl rfl | exact Or.inr rfl) (hfz : X.fn z = true ∨ X.env.scope.names.lookup z = some .local := by first | exact .inl rfl | exact .inr rfl) : PG X (.Tuple [.Name x p1, .Name y p2, .Name z p3] k pos) (gTup K 3 (gCons (gName i) (gCons (gName j) (gCons (gName l) gNil)))) :=
  hK ▸ pg_tup hc (pgs_cons (gN i hN hi hx hf) (pgs_cons (gN j hN hj hy hfy) (pgs_cons (gN l hN hl hz hfz) pgs_nil)))
end
theorem vc2' {α : Type} {x : List α} (h : x.length = 2) : ∃ a b, x = [a, b] := match x, h with | [a, b], _ => ⟨a, b, rfl⟩
theorem B0_lt : B0 + 2 < 2 ^ 190 := by unfold B0; decide +kernel
abbrev Tv (d : PyData) : Prop := Kd B0 2 12 d
abbrev Wv (d : PyData) : Prop := Kd (B0 + 2) 6 1020 d
theorem wv_wd {d : PyData} (h : Wv d) : WdD d := ⟨B0 + 2, 6, h.mono, B0_lt⟩
theorem wv_shv {d : PyData} (h : Wv d) : Shv d := h.shv B0_lt (by decide) (by decide)
theorem Mb.tv {n M : Nat} {r : Mat} (h : Mb n M r) (hn : n ≤ 3) (hM : M ≤ B0 := by unfold B0; decide +kernel) : Tv (matD r) := (h.mono hM).kd hn
theorem unit_chm {n : Nat} (h1 : 1 ≤ n) (h3 : n ≤ 3) : ChM n (unitM n) := by
  have : n = 1 ∨ n = 2 ∨ n = 3 := by omega
  rcases this with rfl | rfl | rfl <;> exact ⟨⟨by decide, by decide⟩, by decide +kernel, by decide +kernel, by decide +kernel⟩
section
variable {K : PySem.W.Frag} {kV doc pm cdv ct : Value} {an : Option Addr}
theorem kbLed : KBinds K (PySem.W.fnOf "led" "led" (defArgs sLed) (defBody sLed) (defScope sLed) .none kV doc pm an cdv ct) ["n", "change", "step"] ["step", "change", "n"] kw3 kw3 := by
  refine ⟨fun s us ws _ hl => ?_, fun {vs us zs ws} r z => kw3_rel r z⟩
  obtain ⟨a, b, c, rfl, rfl⟩ := kw3_inv hl
  exact .of_eq rfl
theorem kbBack : KBinds K (PySem.W.fnOf "back" "back" (defArgs sBack) (defBody sBack) (defScope sBack) .none kV doc pm an cdv ct) ["n", "change"] ["change", "n"] kw2 kw2 := by
  refine ⟨fun s us ws _ hl => ?_, fun {vs us zs ws} r z => kw2_rel r z⟩
  obtain ⟨a, b, rfl, rfl⟩ := kw2_inv hl
  exact .of_eq rfl
theorem kbChanged : KBinds K (PySem.W.fnOf "changed" "changed" (defArgs sChanged) (defBody sChanged) (defScope sChanged) .none kV doc pm an cdv ct) ["form", "change"] ["change", "form"] kw2 kw2 := by
  refine ⟨fun s us ws _ hl => ?_, fun {vs us zs ws} r z => kw2_rel r z⟩
  obtain ⟨a, b, rfl, rfl⟩ := kw2_inv hl
  exact .of_eq rfl
theorem kbIsCh : KBinds K (PySem.W.fnOf "is_change" "is_change" (defArgs sIsCh) (defBody sIsCh) (defScope sIsCh) .none kV doc pm an cdv ct) ["n", "thing"] ["thing", "n"] kw2 kw2 := by
  refine ⟨fun s us ws _ hl => ?_, fun {vs us zs ws} r z => kw2_rel r z⟩
  obtain ⟨a, b, rfl, rfl⟩ := kw2_inv hl
  exact .of_eq rfl
end
section
variable {P : Program} {w : World} {K : PySem.W.Frag} {mg : Str → Option Value} {base : Heap}
abbrev spLaw (K : PySem.W.Frag) (Ts : List Addr) : Sp := fun vs H Q _ => ∃ (a : Addr) (ns : List Int), vs = [.ref a] ∧ SqL K H a (ns.map .int) ∧ ns.length ≤ 63 ∧ (∀ P ∈ Ts, GxR.TabG H P) ∧ ∀ H', Q (.bl true) H'
theorem ok_law (B : Bn mg) (hb : Hsb base) {f P1 P2 : Addr} {fd : FuncData} (F : Fun K "law" "law" sLaw f fd) (C0 : Cl P w K mg base "_law_deck" ["script"] 1 (spDeck K)) (C1 : Cl P w K mg base "_law_draw" ["deck", "many"] 1 spDraw) (C2 : Cl P w K mg base "_law_pick" ["deck", "some"] 2 spPick) (C3 : Cl P w K mg base "_law_form" ["deck", "n", "most"] 7 spForm) (C4 : Cl P w K mg base "_law_change" ["deck", "n", "many"] 3 spChange)
    (C5 : Cl P w K mg base "_law_is_low" ["form", "most"] 1 spLLow) (C6 : Cl P w K mg base "_law_back" ["change"] 5 spLBack) (C7 : Cl P w K mg base "_law_unit" ["n"] 1 spLUnit) (C8 : ClG P w K mg base "_law_is_led_right" ["n", "change", "step"] 11 (spLR [P1, P2])) (C9 : ClG P w K mg base "_law_is_form_right" ["form", "change", "one", "other", "way"] 12 (spFR [P1, P2])) (C10 : ClG P w K mg base "_law_are_both_right" ["n", "form", "one", "other"] 12 (spBR [P1, P2]))
    (C11 : Cl P w K mg base "_law_pick" ["deck", "some"] 2 spPickD) (C12 : Cl P w K mg base "_law_truths" ["thing"] 4 (spTruths 2)) (C13 : Cl P w K mg base "_law_often_bent" ["deck", "thing"] 10 (spOften 2)) (C14 : Cl P w K mg base "_law_is_change" ["n", "thing"] 5 spLIsCh) (C15 : Cl P w K mg base "is_change" ["n", "thing"] 8 (spIsCh [P1, P2])) (ka : KBinds K C15.fd ["n", "thing"] ["thing", "n"] kw2 kw2) :
    FnG P w K mg base 13 f fd ["script"] (spLaw K [P1, P2]) := by
  refine fng_of F scLaw (fun vs H Q E ⟨a, ns, e, _⟩ => by rw [e]; rfl) fun cdv A outer s H vs Q hr hG h => ⟨_, pss_cons (ps_set (i := 1) scLaw.nd rfl (.inr rfl) (pCall C0 hr (by decide) (pa_cons (pv 0) pa_nil)))
    (pss_cons (ps_for PassesOwn.never rfl (piR B pe_int) (gN 2 scLaw.nd)
      (pss_cons (ps_asg (pe_tup (pa_cons (pCall C2 hr (by decide) (pa_cons (pv 1) (pa_cons (pe_lst (pa_cons pe_int (pa_cons pe_int (pa_cons pe_int (pa_cons pe_int (pa_cons pe_int pa_nil)))))) pa_nil))) (pa_cons (pe_op op_and (pv 2) pe_int) pa_nil))) (gP' K 3 4 rfl scLaw.nd))
      (pss_cons (ps_par (i := 5) (j := 6) rfl scLaw.nd rfl rfl (by decide) rfl rfl (pa_cons (pCall C3 hr (by decide) (pa_cons (pv 1) (pa_cons (pv 3) (pa_cons pe_int pa_nil)))) (pa_cons (pCall C4 hr (by decide) (pa_cons (pv 1) (pa_cons (pv 3) (pa_cons (pCall C1 hr (by decide) (pa_cons (pv 1) (pa_cons pe_int pa_nil))) pa_nil)))) pa_nil)) rfl)
      (pss_cons (ps_set (i := 7) scLaw.nd rfl (.inl rfl) (pCall C4 hr (by decide) (pa_cons (pv 1) (pa_cons (pv 3) (pa_cons (pCall C1 hr (by decide) (pa_cons (pv 1) (pa_cons pe_int pa_nil))) pa_nil)))))
      (pss_cons (ps_if (PW.pt (pw_or (pt_not (pt_val (pCall C5 hr (by decide) (pa_cons (pCall C6 hr (by decide) (pa_cons (pv 6) pa_nil)) (pa_cons pe_int pa_nil))))) (pw_or1 (pt_not (pt_val (pCall C5 hr (by decide) (pa_cons (pCall C6 hr (by decide) (pa_cons (pv 7) pa_nil)) (pa_cons pe_int pa_nil)))))))) (pss_one (ps_par (i := 6) (j := 7) rfl scLaw.nd rfl rfl (by decide) rfl rfl (pa_cons (pCall C4 hr (by decide) (pa_cons (pv 1) (pa_cons (pv 3) (pa_cons pe_int pa_nil)))) (pa_cons (pCall C7 hr (by decide) (pa_cons (pv 3) pa_nil)) pa_nil)) rfl)) pss_nil)
      (pss_cons (ps_set (i := 8) scLaw.nd rfl (.inr rfl) (pCall C2 hr (by decide) (pa_cons (pv 1) (pa_cons (pe_lst (pa_cons pe_int (pa_cons pe_int (pa_cons pe_int pa_nil)))) pa_nil))))
      (pss_cons (ps_setLc (i := 9) (own := [("go", 11)]) rfl scLaw.nd rfl rfl (sw_true rfl rfl rfl (by decide +kernel)) (piR B pe_int) (blkOk_by (own := [("go", 11)]) (N := Nlaw) (sc := defScope sLaw) (by decide +kernel)) (fun _ _ _ _ _ => gN 11 scLaw.nd) (fun _ _ _ _ _ => pts_nil)
          (fun _ _ _ _ _ => pTup' K B (pe_lc (own := [("i", 10)]) rfl scLaw.nd (piR B (pv 3)) (blkOk_by (own := [("i", 10)]) (N := Nlaw) (sc := relab (defScope sLaw) _) (by decide +kernel)) (fun _ _ _ _ _ => gN 10 scLaw.nd) (fun _ _ _ _ _ => pts_nil) (fun _ _ _ _ _ => pe_op op_sub (pCall C1 hr (by decide) (pa_cons (pv 1) (pa_cons (pe_op op_add (pe_op op_mul pe_int (pv 8)) pe_int) pa_nil))) (pv 8)))))
      (pss_cons (ps_if (PW.pt (pw_or (pt_not (pt_val (pCallG C8 hr hG (by decide) (pa_cons (pv 3) (pa_cons (pv 6) (pa_cons (pe_ix (ixL K) (pv 9) pe_int (fun _ _ => rfl)) pa_nil)))))) (pw_or1 (pt_not (pt_val (pCallG C9 hr hG (by decide) (pa_cons (pv 5) (pa_cons (pv 6) (pa_cons (pe_ix (ixL K) (pv 9) pe_int (fun _ _ => rfl)) (pa_cons (pe_ix (ixL K) (pv 9) pe_int (fun _ _ => rfl)) (pa_cons (pv 4) pa_nil)))))))))))  pss_never pss_nil)
      (pss_cons (ps_if (pt_not (pt_val (pCallG C10 hr hG (by decide) (pa_cons (pv 3) (pa_cons (pv 5) (pa_cons (pv 6) (pa_cons (pv 7) pa_nil))))))) pss_never pss_nil)
        (pss_one (ps_for PassesOwn.never rfl (piR B pe_int) (gN 11 scLaw.nd)
          (pss_cons (ps_set (i := 12) scLaw.nd rfl (.inl rfl) (pCall C11 hr (by decide) (pa_cons (pv 1) (pa_cons (pe_lst (pa_cons (pv 6) (pa_cons (pv 7) (pa_cons (pCall C12 hr (by decide) (pa_cons (pv 7) pa_nil)) (pa_cons (pTuple B (pe_lc (own := [("row", 14)]) rfl scLaw.nd (piT K (pv 7)) (blkOk_by (own := [("row", 14)]) (N := Nlaw) (sc := defScope sLaw) (by decide +kernel)) (fun _ _ _ _ _ => gN 14 scLaw.nd) (fun _ _ _ _ _ => pts_nil)
              (fun _ _ _ _ _ => pTup' K B (pe_lc (own := [("x", 13)]) rfl scLaw.nd (piT K (pv 14)) (blkOk_by (own := [("x", 13)]) (N := Nlaw) (sc := relab (defScope sLaw) _) (by decide +kernel)) (fun _ _ _ _ _ => gN 13 scLaw.nd) (fun _ _ _ _ _ => pts_nil) (fun _ _ _ _ _ => pe_op op_mul pe_int (pv 13)))))) pa_nil))))) pa_nil))))
          (pss_cons (ps_if (pt_cmpR op_eq (pv 11) pe_int (nomark _)) (pss_one (ps_set (i := 12) scLaw.nd rfl (.inl rfl) (pCall C11 hr (by decide) (pa_cons (pv 1) (pa_cons (pe_lst (pa_cons (pCall C7 hr (by decide) (pa_cons (pe_op op_add (pe_op op_mod (pInt B (pv 3)) pe_int) pe_int) pa_nil)) (pa_cons (pCall C7 hr (by decide) (pa_cons (pe_op op_add (pe_op op_mod (pInt B (pe_op op_add (pv 3) pe_int)) pe_int) pe_int) pa_nil)) (pa_cons (pv 6) pa_nil)))) pa_nil))))) pss_nil)
          (pss_cons (ps_if (pt_cmpR op_gt (pv 11) pe_int (nomark _)) (pss_one (ps_set (i := 12) scLaw.nd rfl (.inl rfl) (pCall C13 hr (by decide) (pa_cons (pv 1) (pa_cons (pv 12) pa_nil))))) pss_nil)
          (pss_cons (ps_if (pt_cmpR op_eq (pv 11) pe_int (nomark _)) (pss_one (ps_set (i := 12) scLaw.nd rfl (.inl rfl) (pTuple B (pe_lc (own := [("i", 10)]) rfl scLaw.nd (piR B (pv 3)) (blkOk_by (own := [("i", 10)]) (N := Nlaw) (sc := defScope sLaw) (by decide +kernel)) (fun _ _ _ _ _ => gN 10 scLaw.nd) (fun _ _ _ _ _ => pts_nil)
              (fun _ _ _ _ _ => pTup' K B (pe_lc (own := [("j", 15)]) rfl scLaw.nd (piR B (pv 3)) (blkOk_by (own := [("j", 15)]) (N := Nlaw) (sc := relab (defScope sLaw) _) (by decide +kernel)) (fun _ _ _ _ _ => gN 15 scLaw.nd) (fun _ _ _ _ _ => pts_nil) (fun _ _ _ _ _ => pe_op op_sub (pCall C1 hr (by decide) (pa_cons (pv 1) (pa_cons pe_int pa_nil))) pe_int))))))) pss_nil)
          (pss_cons (ps_par (i := 16) (j := 17) rfl scLaw.nd rfl rfl (by decide) rfl rfl (pa_cons (pCall C14 hr (by decide) (pa_cons (pv 3) (pa_cons (pv 12) pa_nil))) (pa_cons (pRepv B hb hG hr.units (pv 12)) pa_nil)) rfl)
          (pss_cons (ps_if (PW.pt (pw_and (pt_val (pv 16)) (pw_and1 (pt_not (pt_val (pCall C5 hr (by decide) (pa_cons (pv 12) (pa_cons pe_int pa_nil)))))))) (pss_one (ps_asg (pe_tup (pa_cons (pe_tup pa_nil) (pa_cons pe_bl (pa_cons pe_str pa_nil)))) (gT3' K 12 16 17 rfl scLaw.nd))) pss_nil)
          (pss_cons (ps_set (i := 18) scLaw.nd rfl (.inl rfl) (pe_ifExp (pt_cmpR op_eq (pv 4) pe_int (nomark _)) (pCall C15 hr (by decide) (pa_cons (pv 3) (pa_cons (pv 12) pa_nil))) (pe_callK0 C15.G (hr.mono (by decide)) rfl C15.g C15.kp ka pass0 (pk_cons (pv 12) (pk_cons (pv 3) pk_nil)))))
            (pss_one (ps_if (pt_cmpR op_ne (pRepv B hb hG hr.units (pe_tup (pa_cons (pv 18) (pa_cons (pv 12) pa_nil)))) (pe_op op_add_str (pe_op op_add_str (pe_op op_add_str (pe_op op_add_str pe_str (pRepv B hb hG hr.units (pv 16))) pe_str) (pv 17)) pe_str) (nomark _)) pss_never pss_nil))))))))))))))))))))
      (pss_one (ps_ret pe_bl))), ?_⟩
  obtain ⟨a, ns, rfl, hs, hl, hT, q⟩ := h
  refine seq_asg ?_
  refine ⟨_, rfl, a, ns, rfl, hs, hl, fun v H' ms m k hd hms => ?_⟩
  dsimp only
  obtain ⟨dk, cl, rfl, hdk⟩ := deck_inv hd hms
  let S : Addr → Prop := fun x => x = dk ∨ x = cl
  have h1 : S dk := .inl rfl
  have h2 : S cl := .inr rfl
  have hen : En (dPm S dk cl h1 h2 [P1, P2]) ⟨H', fun _ => False⟩ (fun _ => False) ((L2.start Nlaw [.ref a]).set 1 (some (.ref dk))) H' [none, some (.raw (.ref dk)), none, none, none, none, none, none, none, none, none, none, none, none, none, none, none, none, none] := by
    refine ⟨Kq.refl H', fun _ h => h, ⟨fun x z => ?_, fun P hP => k.tab P (hT P hP), hdk⟩, fun a h => h.elim, fun i s h => ?_, fun i j a ds es h => ?_, rfl⟩
    · obtain ⟨ns, m, d, q1, q2, _⟩ := hdk
      rcases z with z | z
      · rw [z]; exact ⟨_, q1, nt_dk⟩
      · rw [z]; exact ⟨_, q2, nt_lst⟩
    · rcases i with _ | _ | _ | _ | _ | _ | _ | _ | _ | _ | _ | _ | _ | _ | _ | _ | _ | _ | _ | i <;> first | (cases h; done) | (cases h; rfl)
    · rcases i with _ | _ | _ | _ | _ | _ | _ | _ | _ | _ | _ | _ | _ | _ | _ | _ | _ | _ | _ | i <;> cases h
  have hTs : ∀ Q ∈ [P1, P2], Q ∈ (dPm S dk cl h1 h2 [P1, P2]).Ts := fun Q hQ => hQ
  refine rn_exec (R0 := (· = .bool true)) hen ?_ fun v d H2 _ _ hv e => ?_
  · refine rn_seq (Nm := fun ρ => True) (rn_for (fun ds t ρ => ∃ a0 a2 a3 a4 a5 a6 a7 a8 a9 a10 a11 a12 a13 a14 a15 a16 a17 a18, ρ = [a0, some (.raw (.ref dk)), a2, a3, a4, a5, a6, a7, a8, a9, a10, a11, a12, a13, a14, a15, a16, a17, a18]) (ii_rng1 (i := 4) ex_int (by decide)) (fun ds e => ⟨_, _, _, _, _, _, _, _, _, _, _, _, _, _, _, _, _, _, rfl⟩) (fun ds t d ρ e hd iv => ?_) (fun ds ρ e iv => trivial)) fun ρ _ => rn_ret ex_bool rfl
    subst e
    obtain ⟨a0, a2, a3, a4, a5, a6, a7, a8, a9, a10, a11, a12, a13, a14, a15, a16, a17, a18, rfl⟩ := iv
    obtain ⟨ht, rfl⟩ := rngD_get hd
    refine ⟨_, _, tg_name, ?_⟩
    refine rn_seq (Nm := fun ρ => ∃ (n : Nat) (way : Int), 1 ≤ n ∧ n ≤ 3 ∧ ρ = [a0, some (.raw (.ref dk)), some (.dat (.int (0 + (t : Int)))), some (.dat (.int (n : Int))), some (.dat (.int way)), a5, a6, a7, a8, a9, a10, a11, a12, a13, a14, a15, a16, a17, a18])
      (rn_asgX (P := fun d => ∃ (x k : Int), x ∈ [(2 : Int), 3, 1, 3, 2] ∧ d = .tuple [.int x, .int k]) (Ex.imp (ex_tup (P := fun l => ∃ (x k : Int), x ∈ [(2 : Int), 3, 1, 3, 2] ∧ l = [.int x, .int k]) (Ea.imp (ea_cons (P := PickR [2, 3, 1, 3, 2]) (ex_callD [2, 3, 1, 3, 2] rfl (ea_one (ed_lst (ea_consD ex_int (ea_consD ex_int (ea_consD ex_int (ea_consD ex_int (ea_one ex_int))))))) rfl (by decide) (by simp)) (ea_oneX (P := fun d => ∃ k, d = .int k) ((ed_and (i := 0 + (t : Int)) (j := 1) (ex_var rfl) ex_int).imp fun d e => ⟨_, e⟩))) fun l ⟨d, r', e, ⟨x, hx, ex⟩, d2, e2, k, ek⟩ => ⟨x, k, hx, by rw [e, ex, e2, ek]⟩) fun l ⟨x, k, _, e⟩ => by rw [e]; show 2 ≤ 1000; decide) fun d ⟨l, e, x, k, hx, e2⟩ => ⟨x, k, hx, by rw [e, e2]⟩) fun d ⟨x, k, hx, e⟩ => ?_) ?_
    · subst e
      simp at hx
      exact ⟨_, _, tg_pair tg_name tg_name, x.toNat, k, by omega, by omega, by rw [show ((x.toNat : Nat) : Int) = x by omega]; rfl⟩
    rintro ρ ⟨n, way, hn1, hn3, rfl⟩
    have chE : ∀ (k : Int) (ρ : Rho), 0 < k → k < 1000 → ρ[1]? = some (some (.raw (.ref dk))) → ρ[3]? = some (some (.dat (.int (n : Int)))) → Ex (dPm S dk cl h1 h2 [P1, P2]) (tCall spChange [] E0 (tCons (tVar 1) (tCons (tVar 3) (tCons (tCall spDraw [] E0 (tCons (tVar 1) (tCons (tC (.int k)) tNil))) tNil)))) ρ (fun d => ∃ c, d = matD c ∧ ChM n c) := fun k ρ k0 k1 g1 g3 => by
      refine Ex.imp (ex_callDX (G := Nat × Nat) (enc := fun g => [.int (g.1 : Int), .int (g.2 : Int)]) (ok := fun g => 1 ≤ g.1 ∧ g.1 ≤ 3 ∧ g.2 ≤ 1000) (R := fun g d => ∃ c, d = matD c ∧ ChM g.1 c) (Pa := fun l => ∃ y : Int, 0 ≤ y ∧ y < k ∧ l = [.int (n : Int), .int y]) g1 (Ea.imp (ea_cons (P := (· = .int (n : Int))) (ex_var g3) (ea_oneX (P := DrawR k) (ex_dr k g1 k0 (by omega)))) fun l ⟨d, r', e, ed, d2, e2, y, ey, y0, y1⟩ => ⟨y, y0, y1, by rw [e, ed, e2, ey]⟩) ?_ (by simp)) ?_
      · rintro ds ⟨y, y0, y1, rfl⟩
        exact ⟨(n, y.toNat), by simp; omega, rfl, hn1, hn3, by show y.toNat ≤ 1000; omega⟩
      · rintro d ⟨g, ⟨y, y0, y1, e⟩, c, ec, hc⟩
        injection e with e _
        injection e with e
        have : g.1 = n := by omega
        exact ⟨c, ec, by rw [← this]; exact hc⟩
    refine rn_seq (Nm := fun ρ => ∃ r c, LowF n r ∧ ChM n c ∧ ρ = [a0, some (.raw (.ref dk)), some (.dat (.int (0 + (t : Int)))), some (.dat (.int (n : Int))), some (.dat (.int way)), some (.dat (matD r)), some (.dat (matD c)), a7, a8, a9, a10, a11, a12, a13, a14, a15, a16, a17, a18]) (rn_par (P1 := fun d => ∃ r, d = matD r ∧ LowF n r) (P2 := fun d => ∃ c, d = matD c ∧ ChM n c) (ex_callD (n, 1000) rfl (ea_consD (ex_var rfl) (ea_one ex_int)) rfl ⟨⟨hn1, hn3⟩, by show (1000 : Int) ≤ 1000; decide⟩ (by simp)) (chE 7 _ (by decide) (by decide) rfl rfl) fun d e ⟨r, er, hr⟩ ⟨c, ec, hc⟩ => by subst er ec; exact ⟨r, c, hr, hc, rfl⟩) ?_
    rintro ρ ⟨r, c0, lf, hc0, rfl⟩
    refine rn_setX_ (chE 4 _ (by decide) (by decide) rfl rfl) ?_
    rintro d ⟨o0, rfl, ho0⟩
    have lowT : ∀ {c : Mat} {i : Nat} {ρ : Rho}, ChM n c → ρ[i]? = some (some (.dat (matD c))) → Et (dPm S dk cl h1 h2 [P1, P2]) (tNot (tTest (tCall spLLow [] E0 (tCons (tCall spLBack [] E0 (tCons (tVar i) tNil)) (tCons (tC (.int 100)) tNil))))) ρ (fun _ => True) := fun {c i ρ} hc h => by
      have mb := mb_back hn1 hn3 hc.mb hc.u
      refine et_notR (P := fun _ => True) (et_testX (P := fun d => ∃ b, d = .bool b ∧ (b = true → ∀ l ∈ backM n c, ∀ x ∈ l, (x.natAbs : Int) ≤ 100)) (ex_callG (backM n c, 100) (ea_consD (ed_callG (n, c) (ea_one (ex_var h)) rfl (hc.chg hn1 hn3) (by simp) fun d h => h) (ea_one ex_int)) rfl ⟨fun z => ?_, fun l hl z => ?_, ⟨by show (backM n c).length ≤ 64; rw [mb.s.h]; omega, fun l hl => by rw [mb.s.w l hl]; omega⟩⟩ (by simp)) fun d ⟨b, e, _⟩ => ⟨b, e, trivial⟩) fun _ _ => trivial
      · have := mb.s.h
        dsimp only at z
        rw [z] at this
        simp at this
        omega
      · have := mb.s.w l hl
        rw [z] at this
        simp at this
        omega
    refine rn_seq (Nm := fun ρ => ∃ c o, ChM n c ∧ ChM n o ∧ ρ = [a0, some (.raw (.ref dk)), some (.dat (.int (0 + (t : Int)))), some (.dat (.int (n : Int))), some (.dat (.int way)), some (.dat (matD r)), some (.dat (matD c)), some (.dat (matD o)), a8, a9, a10, a11, a12, a13, a14, a15, a16, a17, a18]) (rn_ifX (P := fun _ => True) (et_orT (P1 := fun _ => True) (P2 := fun _ => True) (lowT hc0 rfl) (lowT ho0 rfl)) (fun _ => rn_par (P1 := fun d => ∃ c, d = matD c ∧ ChM n c) (P2 := (· = matD (unitM n))) (ex_callD (n, 2) rfl (ea_consD (ex_var rfl) (ea_one ex_int)) rfl ⟨hn1, hn3, by show 2 ≤ 1000; decide⟩ (by simp)) (ed_callG n (ea_one (ex_var rfl)) rfl (by show n ≤ 64; omega) (by simp) fun d h => h) fun d e ⟨c, ec, hc⟩ ee => by subst ec ee; exact ⟨c, unitM n, hc, unit_chm hn1 hn3, rfl⟩) fun _ => rn_next ⟨c0, o0, hc0, ho0, rfl⟩) ?_
    rintro ρ ⟨c, o, hc, ho, rfl⟩
    refine rn_setX_ (P := PickR [1, 5, 1000]) (ex_callD [1, 5, 1000] rfl (ea_one (ed_lst (ea_consD ex_int (ea_consD ex_int (ea_one ex_int))))) rfl (by decide) (by simp)) ?_
    rintro d ⟨far, hfar, rfl⟩
    have hf : 1 ≤ far ∧ far ≤ 1000 := by simp at hfar; omega
    have drw : ∀ (ρ' : Rho), ρ'[1]? = some (some (.raw (.ref dk))) → ρ'[8]? = some (some (.dat (.int far))) → Ex (dPm S dk cl h1 h2 [P1, P2]) (tCall spDraw [] E0 (tCons (tVar 1) (tCons (tOp (rI0 fun i j => .int (i + j)) (tOp (rI CMul fun i j => .int (i * j)) (tC (.int 2)) (tVar 8)) (tC (.int 1))) tNil))) ρ' (DrawR (2 * far + 1)) := fun ρ' a b => ex_callD (2 * far + 1) a (ea_one (ed_add (i := 2 * far) (ed_mul (i := 2) (j := far) ex_int (ex_var b) (.inl (by decide))) ex_int)) rfl ⟨by omega, by omega⟩ (by simp)
    refine rn_setX_ (P := fun d => ∃ s0 s1, St3 n s0 ∧ St3 n s1 ∧ d = .list [rowD s0, rowD s1]) (Ex.imp (ex_lcR (fun _ _ e => ∃ l, e = rowD l ∧ St3 n l) (ii_rng1 (i := 2) ex_int (by decide)) (by rw [rngD_len]; decide) fun i d hd => ⟨[11], _, fun j hj => hj, tg_name, Ex.imp (ex_rowLc (R := fun x => x.natAbs ≤ 1000) (n := n) (Ii.z (ii_rng1 (i := (n : Int)) (ex_var rfl) (by omega))) (by rw [rngD_len]; omega) (by omega) fun j d hd => ⟨[10], _, fun j hj => hj, tg_name, (ex_I1 (g := fun i j => i - j) (P1 := fun y => 0 ≤ y ∧ y < 2 * far + 1) (P2 := (· = far)) (drw _ rfl rfl) (ex_toI (ex_var rfl))).imp fun d ⟨a, b, e1, e2, e3⟩ => ⟨_, e3, by subst e2; omega⟩⟩) fun d ⟨l, e, q1, q2⟩ => ⟨l, e, q1, q2⟩⟩) fun d h => ?_) ?_
    · obtain ⟨l, rfl, q1, q2⟩ := rows_lc (n := 2) (by rw [rngD_len]; rfl) h
      obtain ⟨s0, s1, rfl⟩ := vc2' q1
      exact ⟨s0, s1, q2 s0 (by simp), q2 s1 (by simp), rfl⟩
    rintro d ⟨s0, s1, hs0, hs1, rfl⟩
    have i0 : ∀ {ρ : Rho}, ρ[9]? = some (some (.dat (.list [rowD s0, rowD s1]))) → Ed (dPm S dk cl h1 h2 [P1, P2]) (tOp (rIxL K) (tVar 9) (tC (.int 0))) ρ (rowD s0) := fun h => ed_ixL (ds := [rowD s0, rowD s1]) (i := 0) (ex_var h) ex_int rfl
    have i1 : ∀ {ρ : Rho}, ρ[9]? = some (some (.dat (.list [rowD s0, rowD s1]))) → Ed (dPm S dk cl h1 h2 [P1, P2]) (tOp (rIxL K) (tVar 9) (tC (.int 1))) ρ (rowD s1) := fun h => ed_ixL (ds := [rowD s0, rowD s1]) (i := 1) (ex_var h) ex_int rfl
    refine rn_when_ (t := false) (et_orX (a := false) (b := false) (et_notX (b := true) (et_testE (b := true) (ed_callG (n, c, s0) (ea_consD (ex_var rfl) (ea_consD (ex_var rfl) (ea_one (i0 rfl)))) rfl ⟨⟨hn1, hn3, hc⟩, hs0⟩ hTs fun d h => h) rfl) rfl) (fun _ => et_notX (b := true) (et_testE (b := true) (ed_callG (n, r, c, s0, s1, way) (ea_consD (ex_var rfl) (ea_consD (ex_var rfl) (ea_consD (i0 rfl) (ea_consD (i1 rfl) (ea_one (ex_var rfl)))))) rfl ⟨⟨lf, hc⟩, hs0, hs1⟩ hTs fun d h => h) rfl) rfl) rfl) (fun e => by cases e) fun _ => ?_
    refine rn_when_ (t := false) (et_notX (b := true) (et_testE (b := true) (ed_callG (n, r, c, o) (ea_consD (ex_var rfl) (ea_consD (ex_var rfl) (ea_consD (ex_var rfl) (ea_one (ex_var rfl))))) rfl ⟨lf, hc, ho⟩ hTs fun d h => h) rfl) rfl) (fun e => by cases e) fun _ => ?_
    have tc : Tv (matD c) := hc.mb.tv hn3
    have to : Tv (matD o) := ho.mb.tv hn3
    refine rn_for (fun ds u ρ => ∃ a10 a11 a12 a13 a14 a15 a16 a17 a18, ρ = [a0, some (.raw (.ref dk)), some (.dat (.int (0 + (t : Int)))), some (.dat (.int (n : Int))), some (.dat (.int way)), some (.dat (matD r)), some (.dat (matD c)), some (.dat (matD o)), some (.dat (.int far)), some (.dat (.list [rowD s0, rowD s1])), a10, a11, a12, a13, a14, a15, a16, a17, a18]) (ii_rng1 (i := 8) ex_int (by decide)) (fun ds e => ⟨_, _, _, _, _, _, _, _, _, rfl⟩) (fun ds u d ρ e hd iv => ?_) (fun ds ρ e iv => by obtain ⟨b10, b11, b12, b13, b14, b15, b16, b17, b18, rfl⟩ := iv; exact ⟨_, _, _, _, _, _, _, _, _, _, _, _, _, _, _, _, _, _, rfl⟩)
    subst e
    obtain ⟨a10, a11, a12, a13, a14, a15, a16, a17, a18, rfl⟩ := iv
    obtain ⟨hu, rfl⟩ := rngD_get hd
    refine ⟨_, _, tg_name, ?_⟩
    have pick : ∀ {ta : TA} {ρ : Rho}, ρ[1]? = some (some (.raw (.ref dk))) → Ea (dPm S dk cl h1 h2 [P1, P2]) ta ρ (fun l => (l ≠ [] ∧ l.length ≤ 64) ∧ ∀ x ∈ l, Tv x) → Ex (dPm S dk cl h1 h2 [P1, P2]) (tCall spPickD [] E0 (tCons (tVar 1) (tCons (tLst ta) tNil))) ρ Tv := fun g h => Ex.imp (ex_callDX (G := List PyData) (enc := fun l => [.list l]) (ok := fun l => l ≠ [] ∧ l.length ≤ 64) (R := fun l d => d ∈ l) (Pa := fun l => ∃ ds, l = [.list ds] ∧ (ds ≠ [] ∧ ds.length ≤ 64) ∧ ∀ x ∈ ds, Tv x) g (Ea.imp (ea_oneX (ex_lst h fun l h => by have := h.1.2; omega)) fun l ⟨d, e, l2, e2, h1, h2⟩ => ⟨l2, by rw [e, e2], h1, h2⟩) (fun ds ⟨l, e, h1, h2⟩ => ⟨l, e, rfl, h1⟩) (by simp)) fun d ⟨g, ⟨l, e, _, hw⟩, hd⟩ => by
      injection e with e _
      injection e with e
      rw [e] at hd
      exact hw d hd
    have un : ∀ k : Nat, 1 ≤ k → k ≤ 3 → Tv (matD (unitM k)) := fun k k1 k3 => (unit_chm k1 k3).mb.tv k3
    refine rn_setX_ (pick rfl (Ea.imp (ea_cons (P := Tv) (Ex.imp (P := (· = matD c)) (ex_var rfl) fun d e => by rw [e]; exact tc) (ea_cons (P := Tv) (Ex.imp (P := (· = matD o)) (ex_var rfl) fun d e => by rw [e]; exact to) (ea_cons (P := Tv) (Ex.imp (ex_callG (B0, 2, 12, matD o) (ea_one (ex_var rfl)) rfl ⟨⟨itr_mat o, to⟩, by show 12 ≤ 1000; decide⟩ (by simp)) fun d h => (show Kd B0 2 12 d from h)) (ea_oneX (P := Tv) (Ex.imp (ex_matLc (R := fun l => l.length = n ∧ ∀ x ∈ l, x.natAbs ≤ 60) (n := n) (Ii.z (ii_tup (ds := o.map rowD) (ex_var rfl))) (by rw [List.length_map, ho.s.h]) (by omega) fun i d hd => ?_) fun d ⟨t, e, q1, q2⟩ => ?_))))) fun l ⟨x0, _, e0, w0, x1, _, e1, w1, x2, _, e2, w2, x3, e3, w3⟩ => ?_)) ?_
    · rw [List.getElem?_map] at hd
      obtain ⟨l, hl', rfl⟩ := Option.map_eq_some_iff.mp hd
      have hm := List.mem_of_getElem? hl'
      refine ⟨[14], _, fun j hj => hj, tg_name, Ex.imp (ex_rowLc (R := fun x => x.natAbs ≤ 60) (n := n) (Ii.z (ii_tup (ds := l.map .int) (ex_var rfl))) (by rw [List.length_map, ho.s.w l hm]) (by omega) fun j d hd => ?_) fun d ⟨l, e, q1, q2⟩ => ⟨l, e, q1, q2⟩⟩
      rw [List.getElem?_map] at hd
      obtain ⟨x, hx, rfl⟩ := Option.map_eq_some_iff.mp hd
      have hb30 := ho.b l hm x (List.mem_of_getElem? hx)
      exact ⟨[13], _, fun j hj => hj, tg_name, (ed_mul (i := 2) (j := x) ex_int (ex_var rfl) (.inl (by decide))).imp fun d e => ⟨_, e, by omega⟩⟩
    · rw [e]
      exact Mb.tv (M := 60) ⟨⟨q1, fun l hl => (q2 l hl).1⟩, fun l hl => (q2 l hl).2⟩ hn3
    · rw [e0, e1, e2, e3]
      refine ⟨⟨by simp, by simp⟩, fun x hx => ?_⟩
      simp only [List.mem_cons, List.not_mem_nil, or_false] at hx
      rcases hx with rfl | rfl | rfl | rfl <;> assumption
    intro d0 hd0
    refine rn_seq (Nm := fun ρ => ∃ d, Tv d ∧ ρ = [a0, some (.raw (.ref dk)), some (.dat (.int (0 + (t : Int)))), some (.dat (.int (n : Int))), some (.dat (.int way)), some (.dat (matD r)), some (.dat (matD c)), some (.dat (matD o)), some (.dat (.int far)), some (.dat (.list [rowD s0, rowD s1])), a10, some (.dat (.int (0 + (u : Int)))), some (.dat d), a13, a14, a15, a16, a17, a18]) (rn_ifX (P := fun _ => True) (et_any (et_test (ed_eqI (i := 0 + (u : Int)) (j := 1) (ex_var rfl) ex_int))) (fun _ => rn_setX (pick rfl (Ea.imp (ea_cons (P := Tv) (Ex.imp (P := (· = matD (unitM (n % 3 + 1)))) (ed_callG (n % 3 + 1) (ea_one (Ed.cast (ed_add (ed_mod3 (i := (n : Int)) (j := 3) (ed_cb (ea_one (ex_var (d := .int (n : Int)) rfl)) bc_int) ex_int (by decide)) ex_int) (by congr 1))) rfl (by show n % 3 + 1 ≤ 64; omega) (by simp) fun d h => h) fun d e => by rw [e]; exact un _ (by omega) (by omega)) (ea_cons (P := Tv) (Ex.imp (P := (· = matD (unitM ((n + 1) % 3 + 1)))) (ed_callG ((n + 1) % 3 + 1) (ea_one (Ed.cast (ed_add (ed_mod3 (i := (n : Int) + 1) (j := 3) (ed_cb (ea_one (ed_add (i := (n : Int)) (j := 1) (ex_var rfl) ex_int)) bc_int) ex_int (by decide)) ex_int) (by congr 1))) rfl (by show (n + 1) % 3 + 1 ≤ 64; omega) (by simp) fun d h => h) fun d e => by rw [e]; exact un _ (by omega) (by omega)) (ea_oneX (P := Tv) (Ex.imp (P := (· = matD c)) (ex_var rfl) fun d e => by rw [e]; exact tc)))) fun l ⟨x0, _, e0, w0, x1, _, e1, w1, x2, e2, w2⟩ => ?_)) fun d h => ⟨d, h, rfl⟩) fun _ => rn_next ⟨d0, hd0, rfl⟩) ?_
    · rw [e0, e1, e2]
      refine ⟨⟨by simp, by simp⟩, fun x hx => ?_⟩
      simp only [List.mem_cons, List.not_mem_nil, or_false] at hx
      rcases hx with rfl | rfl | rfl <;> assumption
    rintro ρ ⟨d1, hd1, rfl⟩
    refine rn_seq (Nm := fun ρ => ∃ d, Wv d ∧ ρ = [a0, some (.raw (.ref dk)), some (.dat (.int (0 + (t : Int)))), some (.dat (.int (n : Int))), some (.dat (.int way)), some (.dat (matD r)), some (.dat (matD c)), some (.dat (matD o)), some (.dat (.int far)), some (.dat (.list [rowD s0, rowD s1])), a10, some (.dat (.int (0 + (u : Int)))), some (.dat d), a13, a14, a15, a16, a17, a18]) (rn_ifX (P := fun _ => True) (et_any (et_test (ed_cmp (c := fun i j => decide (j < i)) (i := 0 + (u : Int)) (j := 1) (ex_var rfl) ex_int))) (fun _ => rn_setX (P := Wv) (Ex.imp (ex_callD (B0, 12, d1) rfl (ea_one (ex_var rfl)) rfl ⟨⟨hd1, Nat.le_refl _⟩, by show 12 ≤ 200; decide, B0_lt⟩ (by simp)) fun d h => (show Kd (B0 + 2) (2 + 4) (25 * 12 + 720) d from h).mono) fun d h => ⟨d, h, rfl⟩) fun _ => rn_next ⟨d1, hd1.mono, rfl⟩) ?_
    rintro ρ ⟨d2, hd2, rfl⟩
    refine rn_seq (Nm := fun ρ => ∃ d, Wv d ∧ ρ = [a0, some (.raw (.ref dk)), some (.dat (.int (0 + (t : Int)))), some (.dat (.int (n : Int))), some (.dat (.int way)), some (.dat (matD r)), some (.dat (matD c)), some (.dat (matD o)), some (.dat (.int far)), some (.dat (.list [rowD s0, rowD s1])), a10, some (.dat (.int (0 + (u : Int)))), some (.dat d), a13, a14, a15, a16, a17, a18]) (rn_ifX (P := fun _ => True) (et_any (et_test (ed_eqI (i := 0 + (u : Int)) (j := 7) (ex_var rfl) ex_int))) (fun _ => rn_setX (P := Wv) (Ex.imp (ex_matLc (R := fun l => l.length = n ∧ ∀ x ∈ l, x.natAbs ≤ 2) (n := n) (Ii.z (ii_rng1 (i := (n : Int)) (ex_var rfl) (by omega))) (by rw [rngD_len]; omega) (by omega) fun i d hd => ⟨[10], _, fun j hj => hj, tg_name, Ex.imp (ex_rowLc (R := fun x => x.natAbs ≤ 2) (n := n) (Ii.z (ii_rng1 (i := (n : Int)) (ex_var rfl) (by omega))) (by rw [rngD_len]; omega) (by omega) fun j d hd => ⟨[15], _, fun j hj => hj, tg_name, (ex_I1 (g := fun i j => i - j) (P1 := fun y => 0 ≤ y ∧ y < 5) (P2 := (· = 2)) (ex_dr 5 rfl (by decide) (by decide)) (ex_toI ex_int)).imp fun d ⟨a, b, e1, e2, e3⟩ => ⟨_, e3, by subst e2; omega⟩⟩) fun d ⟨l, e, q1, q2⟩ => ⟨l, e, q1, q2⟩⟩) fun d ⟨t, e, q1, q2⟩ => by rw [e]; exact (Mb.tv (M := 2) ⟨⟨q1, fun l hl => (q2 l hl).1⟩, fun l hl => (q2 l hl).2⟩ hn3).mono) fun d h => ⟨d, h, rfl⟩) fun _ => rn_next ⟨d2, hd2, rfl⟩) ?_
    rintro ρ ⟨d, hd, rfl⟩
    obtain ⟨bc, hbc⟩ : ∃ b : Bool, (b = true ↔ IsCh n d) := by
      by_cases h : IsCh n d
      · exact ⟨true, by simp [h]⟩
      · exact ⟨false, by simp [h]⟩
    have ec : ∀ d' : PyData, (∃ b, d' = .bool b ∧ (b = true ↔ IsCh n d)) → d' = .bool bc := fun d' ⟨b, e, hb⟩ => by rw [e, Bool.eq_iff_iff.mpr (hb.trans hbc.symm)]
    refine rn_seq (Nm := fun ρ => ρ = [a0, some (.raw (.ref dk)), some (.dat (.int (0 + (t : Int)))), some (.dat (.int (n : Int))), some (.dat (.int way)), some (.dat (matD r)), some (.dat (matD c)), some (.dat (matD o)), some (.dat (.int far)), some (.dat (.list [rowD s0, rowD s1])), a10, some (.dat (.int (0 + (u : Int)))), some (.dat d), a13, a14, a15, some (.dat (.bool bc)), some (.dat (.str d.shown)), a18]) (rn_par (P1 := (· = .bool bc)) (P2 := (· = .str d.shown)) (ed_callG (n, d) (ea_consD (ex_var rfl) (ea_one (ex_var rfl))) rfl ⟨hn3, wv_wd hd⟩ (by simp) ec) (ed_repv (ex_var rfl) (wv_shv hd)) fun d e h1 h2 => by subst h1 h2; rfl) fun ρ e => ?_
    subst e
    refine rn_seq (Nm := fun ρ => ∃ d bc, Wv d ∧ (bc = true ↔ IsCh n d) ∧ ρ = [a0, some (.raw (.ref dk)), some (.dat (.int (0 + (t : Int)))), some (.dat (.int (n : Int))), some (.dat (.int way)), some (.dat (matD r)), some (.dat (matD c)), some (.dat (matD o)), some (.dat (.int far)), some (.dat (.list [rowD s0, rowD s1])), a10, some (.dat (.int (0 + (u : Int)))), some (.dat d), a13, a14, a15, some (.dat (.bool bc)), some (.dat (.str d.shown)), a18]) (rn_ifX (P := fun _ => True) (et_any (et_andQ (P1 := fun b => b = true → IsCh n d) (P2 := fun _ => True) ((et_test (ex_var (d := .bool bc) rfl)).imp fun b e z => hbc.mp (by rw [← e]; exact z)) fun h => ?_)) (fun _ => rn_asg (d := .tuple [.tuple [], .bool false, .str "()"]) (ed_tup (ea_consD (ed_tup ea_nil) (ea_consD ex_bool (ea_one ex_str))) (by show 3 ≤ 1000; decide)) (tg_tri tg_name tg_name tg_name) ⟨.tuple [], false, ⟨by decide +kernel, by decide +kernel, by decide +kernel⟩, ⟨(fun z => by cases z), fun ⟨t, e, s, _⟩ => ?_⟩, rfl⟩) fun _ => rn_next ⟨d, bc, hd, hbc, rfl⟩) ?_
    · obtain ⟨t, rfl, st, _⟩ := h rfl
      refine et_notR (P := fun _ => True) (et_testX (P := fun d => ∃ b, d = .bool b ∧ (b = true → ∀ l ∈ t, ∀ x ∈ l, (x.natAbs : Int) ≤ 100)) (ex_callG (t, 100) (ea_consD (ex_var rfl) (ea_one ex_int)) rfl ⟨fun z => ?_, fun l hl z => ?_, ⟨by show t.length ≤ 64; rw [st.h]; omega, fun l hl => by rw [st.w l hl]; omega⟩⟩ (by simp)) fun d ⟨b, e, _⟩ => ⟨b, e, trivial⟩) fun _ _ => trivial
      · have := st.h
        dsimp only at z
        rw [z] at this
        simp at this
        omega
      · have := st.w l hl
        rw [z] at this
        simp at this
        omega
    · injection e with e
      have := congrArg List.length e
      rw [List.length_map, s.h] at this
      simp at this
      omega
    rintro ρ ⟨d, bc, hd, hbc, rfl⟩
    have ec : ∀ d' : PyData, (∃ b, d' = .bool b ∧ (b = true ↔ IsCh n d)) → d' = .bool bc := fun d' ⟨b, e, hb⟩ => by rw [e, Bool.eq_iff_iff.mpr (hb.trans hbc.symm)]
    have hbd : ∀ r, d = matD r → Bd 1000 r := fun r e => wd_bd (e ▸ wv_wd hd)
    refine rn_set_ (d := .bool bc) (ex_ifE (Pt := fun _ => True) (et_any (et_test (ed_eqI (i := way) (j := 0) (ex_var rfl) ex_int))) (fun _ => ed_callG (n, d) (ea_consD (ex_var rfl) (ea_one (ex_var rfl))) rfl ⟨hn3, hbd⟩ hTs ec) fun _ => ed_callKG (ds := []) (es := [d, .int (n : Int)]) (n, d) ea_nil (ea_consD (ex_var rfl) (ea_one (ex_var rfl))) kw2_dv rfl ⟨hn3, hbd⟩ hTs ec) ?_
    have s4 : Shv (.tuple [.bool bc, d]) := shv2 (B := B0 + 2) (m := 6) (b := 0) (b' := 1020) (kd_bool bc) hd B0_lt
    have sB : Shv (.bool bc) := by cases bc <;> exact ⟨by decide +kernel, by decide +kernel, by decide +kernel⟩
    have hz := s4.sz
    rw [shown_two, strLen_append, strLen_append, strLen_append, strLen_append] at hz
    have l1 : (("(" : Str)).length = 1 := rfl
    have l2 : ((", " : Str)).length = 2 := rfl
    have l3 : ((")" : Str)).length = 1 := rfl
    have t2 : ∀ {t : TA} {ρ : Rho} {a b : PyData}, Ea (dPm S dk cl h1 h2 [P1, P2]) t ρ (· = [a, b]) → Ed (dPm S dk cl h1 h2 [P1, P2]) (tTup t) ρ (.tuple [a, b]) := fun h => ed_tup h (by show 2 ≤ 1000; decide)
    exact rn_if (t := false) (et_testE (ed_neS (j := (PyData.tuple [.bool bc, d]).shown) (ed_repv (d := .tuple [.bool bc, d]) (t2 (ea_consD (ex_var rfl) (ea_one (ex_var rfl)))) s4) (Ed.cast (ed_addS (ed_addS (ed_addS (ed_addS (x := "(") ex_str (ed_repv (d := .bool bc) (ex_var rfl) sB) (by omega)) (y := ", ") ex_str (by rw [strLen_append]; omega)) (y := d.shown) (ex_var rfl) (by rw [strLen_append, strLen_append]; omega)) (y := ")") ex_str (by rw [strLen_append, strLen_append, strLen_append]; omega)) (by rw [shown_two]))) (by simp)) (fun e => by cases e) fun _ => rn_next ⟨_, _, _, _, _, _, _, _, _, rfl⟩
  · subst e
    cases hv
    exact q H2
end
end Kz
set_option Elab.async false
set_option linter.all false
set_option maxRecDepth 100000
set_option maxHeartbeats 4000000
namespace Kz
open PySem PySem.Spec PyProof.Rows L2
theorem tabIn_of {K : PySem.W.Frag} {x : Str} {f c P : Addr} {oc oc' : Value} {od od' : Option Addr} {sl sl' : Array (Option Value)} {fd : FuncData} {vs : Array Value} (a : PySem.W.nsIn K mainGlobals x = some (some (.ref f))) (l : K.lookup f = some ⟨oc, od, .func fd, sl⟩) (hc : fd.code = .ref c) (t : K.lookup c = some ⟨oc', od', .fields vs, sl'⟩) (h : vs[11]? = some (.ref P)) : PySem.W.tabIn K x = some (c, P) := by
  unfold PySem.W.tabIn
  rw [a]
  simp only [l, hc, t, h]
theorem all_mk {l : PySem.W.OpenLaw} {w : World} {K : PySem.W.Frag} {h : Heap} {mg : Str → Option Value} {tc1 tc2 : Value} {td1 td2 : Option Addr} {vs1 vs2 : Array Value} {ts1 ts2 : Array (Option Value)} {fa c2' P1 c3' P2 f1 f2 f3 f4 f5 f6 f7 f8 f9 f10 f11 f12 f13 f14 f15 f16 f17 f18 f19 f20 f21 f22 f23 f24 f25 f26 f27 f28 f29 f30 f31 f32 f33 f34 f35 f36 f37 f38 f39 f40 f41 f42 f43 f44 f45 f46 f47 f48 f49 f50 f51 : Addr} (X : K.In h) (G : h.Ns mainGlobals mg) (hfa : mg "law" = some (.ref fa))
    {od1 an1 od2 an2 od3 an3 od4 an4 od5 an5 od6 an6 od7 an7 od8 an8 od9 an9 od10 an10 od11 an11 od12 an12 od13 an13 od14 an14 od15 an15 od16 an16 od17 an17 od18 an18 od19 an19 od20 an20 od21 an21 od22 an22 od23 an23 od24 an24 od25 an25 od26 an26 od27 an27 od28 an28 od29 an29 od30 an30 od31 an31 od32 an32 od33 an33 od34 an34 od35 an35 od36 an36 od37 an37 od38 an38 od39 an39 od40 an40 od41 an41 od42 an42 od43 an43 od44 an44 od45 an45 od46 an46 od47 an47 od48 an48 od49 an49 od50 an50 od51 an51 : Option Addr} {sl1 sl2 sl3 sl4 sl5 sl6 sl7 sl8 sl9 sl10 sl11 sl12 sl13 sl14 sl15 sl16 sl17 sl18 sl19 sl20 sl21 sl22 sl23 sl24 sl25 sl26 sl27 sl28 sl29 sl30 sl31 sl32 sl33 sl34 sl35 sl36 sl37 sl38 sl39 sl40 sl41 sl42 sl43 sl44 sl45 sl46 sl47 sl48 sl49 sl50 sl51 : Array (Option Value)} {oc1 kV1 dc1 pm1 ct1 cd1 oc2 kV2 dc2 pm2 ct2 oc3 kV3 dc3 pm3 ct3 oc4 kV4 dc4 pm4 ct4 cd4 oc5 kV5 dc5 pm5 ct5 cd5 oc6 kV6 dc6 pm6 ct6 cd6 oc7 kV7 dc7 pm7 ct7 cd7 oc8 kV8 dc8 pm8 ct8 cd8 oc9 kV9 dc9 pm9 ct9 cd9 oc10 kV10 dc10 pm10 ct10 cd10 oc11 kV11 dc11 pm11 ct11 cd11 oc12 kV12 dc12 pm12 ct12 cd12 oc13 kV13 dc13 pm13 ct13 cd13 oc14 kV14 dc14 pm14 ct14 cd14 oc15 kV15 dc15 pm15 ct15 cd15 oc16 kV16 dc16 pm16 ct16 cd16 oc17 kV17 dc17 pm17 ct17 cd17 oc18 kV18 dc18 pm18 ct18 cd18 oc19 kV19 dc19 pm19 ct19 cd19 oc20 kV20 dc20 pm20 ct20 cd20 oc21 kV21 dc21 pm21 ct21 cd21 oc22 kV22 dc22 pm22 ct22 cd22 oc23 kV23 dc23 pm23 ct23 cd23 oc24 kV24 dc24 pm24 ct24 cd24 oc25 kV25 dc25 pm25 ct25 cd25 oc26 kV26 dc26 pm26 ct26 cd26 oc27 kV27 dc27 pm27 ct27 cd27 oc28 kV28 dc28 pm28 ct28 cd28 oc29 kV29 dc29 pm29 ct29 cd29 oc30 kV30 dc30 pm30 ct30 cd30 oc31 kV31 dc31 pm31 ct31 cd31 oc32 kV32 dc32 pm32 ct32 cd32 oc33 kV33 dc33 pm33 ct33 cd33 oc34 kV34 dc34 pm34 ct34 cd34 oc35 kV35 dc35 pm35 ct35 cd35 oc36 kV36 dc36 pm36 ct36 cd36 oc37 kV37 dc37 pm37 ct37 cd37 oc38 kV38 dc38 pm38 ct38 cd38 oc39 kV39 dc39 pm39 ct39 cd39 oc40 kV40 dc40 pm40 ct40 cd40 oc41 kV41 dc41 pm41 ct41 cd41 oc42 kV42 dc42 pm42 ct42 cd42 oc43 kV43 dc43 pm43 ct43 cd43 oc44 kV44 dc44 pm44 ct44 cd44 oc45 kV45 dc45 pm45 ct45 cd45 oc46 kV46 dc46 pm46 ct46 cd46 oc47 kV47 dc47 pm47 ct47 cd47 oc48 kV48 dc48 pm48 ct48 cd48 oc49 kV49 dc49 pm49 ct49 cd49 oc50 kV50 dc50 pm50 ct50 cd50 oc51 kV51 dc51 pm51 ct51 cd51 : Value}
    (a1 : PySem.W.nsIn K mainGlobals "is_whole" = some (some (.ref f1))) (l1 : K.lookup f1 = some ⟨oc1, od1, .func (PySem.W.fnOf "is_whole" "is_whole" (defArgs sWhole) (defBody sWhole) (defScope sWhole) .none kV1 dc1 pm1 an1 cd1 ct1), sl1⟩) (c1 : PySem.W.codeIn K cd1 "is_whole" = true) (k1 : PySem.W.keepIn K (.ref f1) = true)
    (a2 : PySem.W.nsIn K mainGlobals "is_step" = some (some (.ref f2))) (l2 : K.lookup f2 = some ⟨oc2, od2, .func (PySem.W.fnOf "is_step" "is_step" (defArgs sStep) (defBody sStep) (defScope sStep) .none kV2 dc2 pm2 an2 (.ref c2') ct2), sl2⟩) (c2 : PySem.W.codeIn K (.ref c2') "is_step" = true) (k2 : PySem.W.keepIn K (.ref f2) = true)
    (a3 : PySem.W.nsIn K mainGlobals "is_square" = some (some (.ref f3))) (l3 : K.lookup f3 = some ⟨oc3, od3, .func (PySem.W.fnOf "is_square" "is_square" (defArgs sSquare) (defBody sSquare) (defScope sSquare) .none kV3 dc3 pm3 an3 (.ref c3') ct3), sl3⟩) (c3 : PySem.W.codeIn K (.ref c3') "is_square" = true) (k3 : PySem.W.keepIn K (.ref f3) = true)
    (a4 : PySem.W.nsIn K mainGlobals "without" = some (some (.ref f4))) (l4 : K.lookup f4 = some ⟨oc4, od4, .func (PySem.W.fnOf "without" "without" (defArgs sWithout) (defBody sWithout) (defScope sWithout) .none kV4 dc4 pm4 an4 cd4 ct4), sl4⟩) (c4 : PySem.W.codeIn K cd4 "without" = true) (k4 : PySem.W.keepIn K (.ref f4) = true)
    (a5 : PySem.W.nsIn K mainGlobals "signed" = some (some (.ref f5))) (l5 : K.lookup f5 = some ⟨oc5, od5, .func (PySem.W.fnOf "signed" "signed" (defArgs sSigned) (defBody sSigned) (defScope sSigned) .none kV5 dc5 pm5 an5 cd5 ct5), sl5⟩) (c5 : PySem.W.codeIn K cd5 "signed" = true) (k5 : PySem.W.keepIn K (.ref f5) = true)
    (a6 : PySem.W.nsIn K mainGlobals "determinant" = some (some (.ref f6))) (l6 : K.lookup f6 = some ⟨oc6, od6, .func (PySem.W.fnOf "determinant" "determinant" (defArgs sDet) (defBody sDet) (defScope sDet) .none kV6 dc6 pm6 an6 cd6 ct6), sl6⟩) (c6 : PySem.W.codeIn K cd6 "determinant" = true) (k6 : PySem.W.keepIn K (.ref f6) = true)
    (a7 : PySem.W.nsIn K mainGlobals "adjoint" = some (some (.ref f7))) (l7 : K.lookup f7 = some ⟨oc7, od7, .func (PySem.W.fnOf "adjoint" "adjoint" (defArgs sAdj) (defBody sAdj) (defScope sAdj) .none kV7 dc7 pm7 an7 cd7 ct7), sl7⟩) (c7 : PySem.W.codeIn K cd7 "adjoint" = true) (k7 : PySem.W.keepIn K (.ref f7) = true)
    (a8 : PySem.W.nsIn K mainGlobals "lean_by" = some (some (.ref f8))) (l8 : K.lookup f8 = some ⟨oc8, od8, .func (PySem.W.fnOf "lean_by" "lean_by" (defArgs sLeanBy) (defBody sLeanBy) (defScope sLeanBy) .none kV8 dc8 pm8 an8 cd8 ct8), sl8⟩) (c8 : PySem.W.codeIn K cd8 "lean_by" = true) (k8 : PySem.W.keepIn K (.ref f8) = true)
    (a9 : PySem.W.nsIn K mainGlobals "size_by" = some (some (.ref f9))) (l9 : K.lookup f9 = some ⟨oc9, od9, .func (PySem.W.fnOf "size_by" "size_by" (defArgs sSizeBy) (defBody sSizeBy) (defScope sSizeBy) .none kV9 dc9 pm9 an9 cd9 ct9), sl9⟩) (c9 : PySem.W.codeIn K cd9 "size_by" = true) (k9 : PySem.W.keepIn K (.ref f9) = true)
    (a10 : PySem.W.nsIn K mainGlobals "leans_by" = some (some (.ref f10))) (l10 : K.lookup f10 = some ⟨oc10, od10, .func (PySem.W.fnOf "leans_by" "leans_by" (defArgs sLeansBy) (defBody sLeansBy) (defScope sLeansBy) .none kV10 dc10 pm10 an10 cd10 ct10), sl10⟩) (c10 : PySem.W.codeIn K cd10 "leans_by" = true) (k10 : PySem.W.keepIn K (.ref f10) = true)
    (a11 : PySem.W.nsIn K mainGlobals "led_by" = some (some (.ref f11))) (l11 : K.lookup f11 = some ⟨oc11, od11, .func (PySem.W.fnOf "led_by" "led_by" (defArgs sLedBy) (defBody sLedBy) (defScope sLedBy) .none kV11 dc11 pm11 an11 cd11 ct11), sl11⟩) (c11 : PySem.W.codeIn K cd11 "led_by" = true) (k11 : PySem.W.keepIn K (.ref f11) = true)
    (a12 : PySem.W.nsIn K mainGlobals "is_table" = some (some (.ref f12))) (l12 : K.lookup f12 = some ⟨oc12, od12, .func (PySem.W.fnOf "is_table" "is_table" (defArgs sTable) (defBody sTable) (defScope sTable) .none kV12 dc12 pm12 an12 cd12 ct12), sl12⟩) (c12 : PySem.W.codeIn K cd12 "is_table" = true) (k12 : PySem.W.keepIn K (.ref f12) = true)
    (a13 : PySem.W.nsIn K mainGlobals "is_form" = some (some (.ref f13))) (l13 : K.lookup f13 = some ⟨oc13, od13, .func (PySem.W.fnOf "is_form" "is_form" (defArgs sIsForm) (defBody sIsForm) (defScope sIsForm) .none kV13 dc13 pm13 an13 cd13 ct13), sl13⟩) (c13 : PySem.W.codeIn K cd13 "is_form" = true) (k13 : PySem.W.keepIn K (.ref f13) = true)
    (a14 : PySem.W.nsIn K mainGlobals "lean" = some (some (.ref f14))) (l14 : K.lookup f14 = some ⟨oc14, od14, .func (PySem.W.fnOf "lean" "lean" (defArgs sLean) (defBody sLean) (defScope sLean) .none kV14 dc14 pm14 an14 cd14 ct14), sl14⟩) (c14 : PySem.W.codeIn K cd14 "lean" = true) (k14 : PySem.W.keepIn K (.ref f14) = true)
    (a15 : PySem.W.nsIn K mainGlobals "size" = some (some (.ref f15))) (l15 : K.lookup f15 = some ⟨oc15, od15, .func (PySem.W.fnOf "size" "size" (defArgs sSize) (defBody sSize) (defScope sSize) .none kV15 dc15 pm15 an15 cd15 ct15), sl15⟩) (c15 : PySem.W.codeIn K cd15 "size" = true) (k15 : PySem.W.keepIn K (.ref f15) = true)
    (a16 : PySem.W.nsIn K mainGlobals "is_change" = some (some (.ref f16))) (l16 : K.lookup f16 = some ⟨oc16, od16, .func (PySem.W.fnOf "is_change" "is_change" (defArgs sIsCh) (defBody sIsCh) (defScope sIsCh) .none kV16 dc16 pm16 an16 cd16 ct16), sl16⟩) (c16 : PySem.W.codeIn K cd16 "is_change" = true) (k16 : PySem.W.keepIn K (.ref f16) = true)
    (a17 : PySem.W.nsIn K mainGlobals "changed" = some (some (.ref f17))) (l17 : K.lookup f17 = some ⟨oc17, od17, .func (PySem.W.fnOf "changed" "changed" (defArgs sChanged) (defBody sChanged) (defScope sChanged) .none kV17 dc17 pm17 an17 cd17 ct17), sl17⟩) (c17 : PySem.W.codeIn K cd17 "changed" = true) (k17 : PySem.W.keepIn K (.ref f17) = true)
    (a18 : PySem.W.nsIn K mainGlobals "led" = some (some (.ref f18))) (l18 : K.lookup f18 = some ⟨oc18, od18, .func (PySem.W.fnOf "led" "led" (defArgs sLed) (defBody sLed) (defScope sLed) .none kV18 dc18 pm18 an18 cd18 ct18), sl18⟩) (c18 : PySem.W.codeIn K cd18 "led" = true) (k18 : PySem.W.keepIn K (.ref f18) = true)
    (a19 : PySem.W.nsIn K mainGlobals "back" = some (some (.ref f19))) (l19 : K.lookup f19 = some ⟨oc19, od19, .func (PySem.W.fnOf "back" "back" (defArgs sBack) (defBody sBack) (defScope sBack) .none kV19 dc19 pm19 an19 cd19 ct19), sl19⟩) (c19 : PySem.W.codeIn K cd19 "back" = true) (k19 : PySem.W.keepIn K (.ref f19) = true)
    (a20 : PySem.W.nsIn K mainGlobals "low_step" = some (some (.ref f20))) (l20 : K.lookup f20 = some ⟨oc20, od20, .func (PySem.W.fnOf "low_step" "low_step" (defArgs sLow) (defBody sLow) (defScope sLow) .none kV20 dc20 pm20 an20 cd20 ct20), sl20⟩) (c20 : PySem.W.codeIn K cd20 "low_step" = true) (k20 : PySem.W.keepIn K (.ref f20) = true)
    (a21 : PySem.W.nsIn K mainGlobals "need_form" = some (some (.ref f21))) (l21 : K.lookup f21 = some ⟨oc21, od21, .func (PySem.W.fnOf "need_form" "need_form" (defArgs sNeedF) (defBody sNeedF) (defScope sNeedF) .none kV21 dc21 pm21 an21 cd21 ct21), sl21⟩) (c21 : PySem.W.codeIn K cd21 "need_form" = true) (k21 : PySem.W.keepIn K (.ref f21) = true)
    (a22 : PySem.W.nsIn K mainGlobals "need_step" = some (some (.ref f22))) (l22 : K.lookup f22 = some ⟨oc22, od22, .func (PySem.W.fnOf "need_step" "need_step" (defArgs sNeedS) (defBody sNeedS) (defScope sNeedS) .none kV22 dc22 pm22 an22 cd22 ct22), sl22⟩) (c22 : PySem.W.codeIn K cd22 "need_step" = true) (k22 : PySem.W.keepIn K (.ref f22) = true)
    (a23 : PySem.W.nsIn K mainGlobals "need_change" = some (some (.ref f23))) (l23 : K.lookup f23 = some ⟨oc23, od23, .func (PySem.W.fnOf "need_change" "need_change" (defArgs sNeedC) (defBody sNeedC) (defScope sNeedC) .none kV23 dc23 pm23 an23 cd23 ct23), sl23⟩) (c23 : PySem.W.codeIn K cd23 "need_change" = true) (k23 : PySem.W.keepIn K (.ref f23) = true)
    (a24 : PySem.W.nsIn K mainGlobals "_law_deck" = some (some (.ref f24))) (l24 : K.lookup f24 = some ⟨oc24, od24, .func (PySem.W.fnOf "_law_deck" "_law_deck" (defArgs sDeck) (defBody sDeck) (defScope sDeck) .none kV24 dc24 pm24 an24 cd24 ct24), sl24⟩) (c24 : PySem.W.codeIn K cd24 "_law_deck" = true) (k24 : PySem.W.keepIn K (.ref f24) = true)
    (a25 : PySem.W.nsIn K mainGlobals "_law_draw" = some (some (.ref f25))) (l25 : K.lookup f25 = some ⟨oc25, od25, .func (PySem.W.fnOf "_law_draw" "_law_draw" (defArgs sDraw) (defBody sDraw) (defScope sDraw) .none kV25 dc25 pm25 an25 cd25 ct25), sl25⟩) (c25 : PySem.W.codeIn K cd25 "_law_draw" = true) (k25 : PySem.W.keepIn K (.ref f25) = true)
    (a26 : PySem.W.nsIn K mainGlobals "_law_pick" = some (some (.ref f26))) (l26 : K.lookup f26 = some ⟨oc26, od26, .func (PySem.W.fnOf "_law_pick" "_law_pick" (defArgs sPick) (defBody sPick) (defScope sPick) .none kV26 dc26 pm26 an26 cd26 ct26), sl26⟩) (c26 : PySem.W.codeIn K cd26 "_law_pick" = true) (k26 : PySem.W.keepIn K (.ref f26) = true)
    (a27 : PySem.W.nsIn K mainGlobals "_law_is_step" = some (some (.ref f27))) (l27 : K.lookup f27 = some ⟨oc27, od27, .func (PySem.W.fnOf "_law_is_step" "_law_is_step" (defArgs sLStep) (defBody sLStep) (defScope sLStep) .none kV27 dc27 pm27 an27 cd27 ct27), sl27⟩) (c27 : PySem.W.codeIn K cd27 "_law_is_step" = true) (k27 : PySem.W.keepIn K (.ref f27) = true)
    (a28 : PySem.W.nsIn K mainGlobals "_law_is_square" = some (some (.ref f28))) (l28 : K.lookup f28 = some ⟨oc28, od28, .func (PySem.W.fnOf "_law_is_square" "_law_is_square" (defArgs sLSq) (defBody sLSq) (defScope sLSq) .none kV28 dc28 pm28 an28 cd28 ct28), sl28⟩) (c28 : PySem.W.codeIn K cd28 "_law_is_square" = true) (k28 : PySem.W.keepIn K (.ref f28) = true)
    (a29 : PySem.W.nsIn K mainGlobals "_law_is_table" = some (some (.ref f29))) (l29 : K.lookup f29 = some ⟨oc29, od29, .func (PySem.W.fnOf "_law_is_table" "_law_is_table" (defArgs sLTab) (defBody sLTab) (defScope sLTab) .none kV29 dc29 pm29 an29 cd29 ct29), sl29⟩) (c29 : PySem.W.codeIn K cd29 "_law_is_table" = true) (k29 : PySem.W.keepIn K (.ref f29) = true)
    (a30 : PySem.W.nsIn K mainGlobals "_law_minor" = some (some (.ref f30))) (l30 : K.lookup f30 = some ⟨oc30, od30, .func (PySem.W.fnOf "_law_minor" "_law_minor" (defArgs sLMinor) (defBody sLMinor) (defScope sLMinor) .none kV30 dc30 pm30 an30 cd30 ct30), sl30⟩) (c30 : PySem.W.codeIn K cd30 "_law_minor" = true) (k30 : PySem.W.keepIn K (.ref f30) = true)
    (a31 : PySem.W.nsIn K mainGlobals "_law_det" = some (some (.ref f31))) (l31 : K.lookup f31 = some ⟨oc31, od31, .func (PySem.W.fnOf "_law_det" "_law_det" (defArgs sLDet) (defBody sLDet) (defScope sLDet) .none kV31 dc31 pm31 an31 cd31 ct31), sl31⟩) (c31 : PySem.W.codeIn K cd31 "_law_det" = true) (k31 : PySem.W.keepIn K (.ref f31) = true)
    (a32 : PySem.W.nsIn K mainGlobals "_law_is_form" = some (some (.ref f32))) (l32 : K.lookup f32 = some ⟨oc32, od32, .func (PySem.W.fnOf "_law_is_form" "_law_is_form" (defArgs sLForm) (defBody sLForm) (defScope sLForm) .none kV32 dc32 pm32 an32 cd32 ct32), sl32⟩) (c32 : PySem.W.codeIn K cd32 "_law_is_form" = true) (k32 : PySem.W.keepIn K (.ref f32) = true)
    (a33 : PySem.W.nsIn K mainGlobals "_law_lean" = some (some (.ref f33))) (l33 : K.lookup f33 = some ⟨oc33, od33, .func (PySem.W.fnOf "_law_lean" "_law_lean" (defArgs sLLean) (defBody sLLean) (defScope sLLean) .none kV33 dc33 pm33 an33 cd33 ct33), sl33⟩) (c33 : PySem.W.codeIn K cd33 "_law_lean" = true) (k33 : PySem.W.keepIn K (.ref f33) = true)
    (a34 : PySem.W.nsIn K mainGlobals "_law_is_low" = some (some (.ref f34))) (l34 : K.lookup f34 = some ⟨oc34, od34, .func (PySem.W.fnOf "_law_is_low" "_law_is_low" (defArgs sLLow) (defBody sLLow) (defScope sLLow) .none kV34 dc34 pm34 an34 cd34 ct34), sl34⟩) (c34 : PySem.W.codeIn K cd34 "_law_is_low" = true) (k34 : PySem.W.keepIn K (.ref f34) = true)
    (a35 : PySem.W.nsIn K mainGlobals "_law_unit" = some (some (.ref f35))) (l35 : K.lookup f35 = some ⟨oc35, od35, .func (PySem.W.fnOf "_law_unit" "_law_unit" (defArgs sLUnit) (defBody sLUnit) (defScope sLUnit) .none kV35 dc35 pm35 an35 cd35 ct35), sl35⟩) (c35 : PySem.W.codeIn K cd35 "_law_unit" = true) (k35 : PySem.W.keepIn K (.ref f35) = true)
    (a36 : PySem.W.nsIn K mainGlobals "_law_led" = some (some (.ref f36))) (l36 : K.lookup f36 = some ⟨oc36, od36, .func (PySem.W.fnOf "_law_led" "_law_led" (defArgs sLLed) (defBody sLLed) (defScope sLLed) .none kV36 dc36 pm36 an36 cd36 ct36), sl36⟩) (c36 : PySem.W.codeIn K cd36 "_law_led" = true) (k36 : PySem.W.keepIn K (.ref f36) = true)
    (a37 : PySem.W.nsIn K mainGlobals "_law_changed" = some (some (.ref f37))) (l37 : K.lookup f37 = some ⟨oc37, od37, .func (PySem.W.fnOf "_law_changed" "_law_changed" (defArgs sLChd) (defBody sLChd) (defScope sLChd) .none kV37 dc37 pm37 an37 cd37 ct37), sl37⟩) (c37 : PySem.W.codeIn K cd37 "_law_changed" = true) (k37 : PySem.W.keepIn K (.ref f37) = true)
    (a38 : PySem.W.nsIn K mainGlobals "_law_back" = some (some (.ref f38))) (l38 : K.lookup f38 = some ⟨oc38, od38, .func (PySem.W.fnOf "_law_back" "_law_back" (defArgs sLBack) (defBody sLBack) (defScope sLBack) .none kV38 dc38 pm38 an38 cd38 ct38), sl38⟩) (c38 : PySem.W.codeIn K cd38 "_law_back" = true) (k38 : PySem.W.keepIn K (.ref f38) = true)
    (a39 : PySem.W.nsIn K mainGlobals "_law_change" = some (some (.ref f39))) (l39 : K.lookup f39 = some ⟨oc39, od39, .func (PySem.W.fnOf "_law_change" "_law_change" (defArgs sChange) (defBody sChange) (defScope sChange) .none kV39 dc39 pm39 an39 cd39 ct39), sl39⟩) (c39 : PySem.W.codeIn K cd39 "_law_change" = true) (k39 : PySem.W.keepIn K (.ref f39) = true)
    (a40 : PySem.W.nsIn K mainGlobals "_law_plain_form" = some (some (.ref f40))) (l40 : K.lookup f40 = some ⟨oc40, od40, .func (PySem.W.fnOf "_law_plain_form" "_law_plain_form" (defArgs sPlain) (defBody sPlain) (defScope sPlain) .none kV40 dc40 pm40 an40 cd40 ct40), sl40⟩) (c40 : PySem.W.codeIn K cd40 "_law_plain_form" = true) (k40 : PySem.W.keepIn K (.ref f40) = true)
    (a41 : PySem.W.nsIn K mainGlobals "_law_form" = some (some (.ref f41))) (l41 : K.lookup f41 = some ⟨oc41, od41, .func (PySem.W.fnOf "_law_form" "_law_form" (defArgs sForm) (defBody sForm) (defScope sForm) .none kV41 dc41 pm41 an41 cd41 ct41), sl41⟩) (c41 : PySem.W.codeIn K cd41 "_law_form" = true) (k41 : PySem.W.keepIn K (.ref f41) = true)
    (a42 : PySem.W.nsIn K mainGlobals "_law_any" = some (some (.ref f42))) (l42 : K.lookup f42 = some ⟨oc42, od42, .func (PySem.W.fnOf "_law_any" "_law_any" (defArgs sAny) (defBody sAny) (defScope sAny) .none kV42 dc42 pm42 an42 cd42 ct42), sl42⟩) (c42 : PySem.W.codeIn K cd42 "_law_any" = true) (k42 : PySem.W.keepIn K (.ref f42) = true)
    (a43 : PySem.W.nsIn K mainGlobals "_law_changed_tuple" = some (some (.ref f43))) (l43 : K.lookup f43 = some ⟨oc43, od43, .func (PySem.W.fnOf "_law_changed_tuple" "_law_changed_tuple" (defArgs sCT) (defBody sCT) (defScope sCT) .none kV43 dc43 pm43 an43 cd43 ct43), sl43⟩) (c43 : PySem.W.codeIn K cd43 "_law_changed_tuple" = true) (k43 : PySem.W.keepIn K (.ref f43) = true)
    (a44 : PySem.W.nsIn K mainGlobals "_law_bent" = some (some (.ref f44))) (l44 : K.lookup f44 = some ⟨oc44, od44, .func (PySem.W.fnOf "_law_bent" "_law_bent" (defArgs sBent) (defBody sBent) (defScope sBent) .none kV44 dc44 pm44 an44 cd44 ct44), sl44⟩) (c44 : PySem.W.codeIn K cd44 "_law_bent" = true) (k44 : PySem.W.keepIn K (.ref f44) = true)
    (a45 : PySem.W.nsIn K mainGlobals "_law_often_bent" = some (some (.ref f45))) (l45 : K.lookup f45 = some ⟨oc45, od45, .func (PySem.W.fnOf "_law_often_bent" "_law_often_bent" (defArgs sOften) (defBody sOften) (defScope sOften) .none kV45 dc45 pm45 an45 cd45 ct45), sl45⟩) (c45 : PySem.W.codeIn K cd45 "_law_often_bent" = true) (k45 : PySem.W.keepIn K (.ref f45) = true)
    (a46 : PySem.W.nsIn K mainGlobals "_law_truths" = some (some (.ref f46))) (l46 : K.lookup f46 = some ⟨oc46, od46, .func (PySem.W.fnOf "_law_truths" "_law_truths" (defArgs sTruths) (defBody sTruths) (defScope sTruths) .none kV46 dc46 pm46 an46 cd46 ct46), sl46⟩) (c46 : PySem.W.codeIn K cd46 "_law_truths" = true) (k46 : PySem.W.keepIn K (.ref f46) = true)
    (a47 : PySem.W.nsIn K mainGlobals "_law_is_change" = some (some (.ref f47))) (l47 : K.lookup f47 = some ⟨oc47, od47, .func (PySem.W.fnOf "_law_is_change" "_law_is_change" (defArgs sLIsCh) (defBody sLIsCh) (defScope sLIsCh) .none kV47 dc47 pm47 an47 cd47 ct47), sl47⟩) (c47 : PySem.W.codeIn K cd47 "_law_is_change" = true) (k47 : PySem.W.keepIn K (.ref f47) = true)
    (a48 : PySem.W.nsIn K mainGlobals "_law_is_led_right" = some (some (.ref f48))) (l48 : K.lookup f48 = some ⟨oc48, od48, .func (PySem.W.fnOf "_law_is_led_right" "_law_is_led_right" (defArgs sLR) (defBody sLR) (defScope sLR) .none kV48 dc48 pm48 an48 cd48 ct48), sl48⟩) (c48 : PySem.W.codeIn K cd48 "_law_is_led_right" = true) (k48 : PySem.W.keepIn K (.ref f48) = true)
    (a49 : PySem.W.nsIn K mainGlobals "_law_is_form_right" = some (some (.ref f49))) (l49 : K.lookup f49 = some ⟨oc49, od49, .func (PySem.W.fnOf "_law_is_form_right" "_law_is_form_right" (defArgs sFR) (defBody sFR) (defScope sFR) .none kV49 dc49 pm49 an49 cd49 ct49), sl49⟩) (c49 : PySem.W.codeIn K cd49 "_law_is_form_right" = true) (k49 : PySem.W.keepIn K (.ref f49) = true)
    (a50 : PySem.W.nsIn K mainGlobals "_law_are_both_right" = some (some (.ref f50))) (l50 : K.lookup f50 = some ⟨oc50, od50, .func (PySem.W.fnOf "_law_are_both_right" "_law_are_both_right" (defArgs sBR) (defBody sBR) (defScope sBR) .none kV50 dc50 pm50 an50 cd50 ct50), sl50⟩) (c50 : PySem.W.codeIn K cd50 "_law_are_both_right" = true) (k50 : PySem.W.keepIn K (.ref f50) = true)
    (a51 : PySem.W.nsIn K mainGlobals "law" = some (some (.ref f51))) (l51 : K.lookup f51 = some ⟨oc51, od51, .func (PySem.W.fnOf "law" "law" (defArgs sLaw) (defBody sLaw) (defScope sLaw) .none kV51 dc51 pm51 an51 cd51 ct51), sl51⟩) (c51 : PySem.W.codeIn K cd51 "law" = true) (k51 : PySem.W.keepIn K (.ref f51) = true)
    (z1 : PySem.W.nsIn K mainGlobals "len" = some none)
    (z2 : PySem.W.nsIn K mainGlobals "all" = some none)
    (z3 : PySem.W.nsIn K mainGlobals "isinstance" = some none)
    (z4 : PySem.W.nsIn K mainGlobals "int" = some none)
    (z5 : PySem.W.nsIn K mainGlobals "bool" = some none)
    (z6 : PySem.W.nsIn K mainGlobals "tuple" = some none)
    (z7 : PySem.W.nsIn K mainGlobals "str" = some none)
    (z8 : PySem.W.nsIn K mainGlobals "range" = some none)
    (z9 : PySem.W.nsIn K mainGlobals "enumerate" = some none)
    (z10 : PySem.W.nsIn K mainGlobals "zip" = some none)
    (z11 : PySem.W.nsIn K mainGlobals "sum" = some none)
    (z12 : PySem.W.nsIn K mainGlobals "max" = some none)
    (z13 : PySem.W.nsIn K mainGlobals "min" = some none)
    (z14 : PySem.W.nsIn K mainGlobals "abs" = some none)
    (z15 : PySem.W.nsIn K mainGlobals "list" = some none)
    (z16 : PySem.W.nsIn K mainGlobals "repr" = some none)
    (t1 : K.lookup c2' = some ⟨tc1, td1, .fields vs1, ts1⟩) (v1 : vs1[11]? = some (.ref P1)) (t2 : K.lookup c3' = some ⟨tc2, td2, .fields vs2, ts2⟩) (v2 : vs2[11]? = some (.ref P2)) (u1 : K.lookup P1 = none) (u2 : K.lookup P2 = none) :
    ∃ (fd : FuncData) (cs : List (Addr × Addr)) (sp : Sp), (∀ p ∈ cs, ∃ y ∈ ([("is_step" : Str), "is_square"] : List Str), PySem.W.tabIn K y = some p) ∧ (∀ p ∈ cs, K.lookup p.2 = none) ∧ (∀ (s : Shared) (u : Value), BindsTo s fd ⟨[u], []⟩ [("script", u)]) ∧
        (∀ (H : Hp) (a : Addr) (ns : List Int), ns.length ≤ 63 → (∀ z ∈ ns, Builtin.Int.intBits z ≤ 1048576) → (∀ p ∈ cs, H p.2 = some (.tbl #[])) → SqL K H a (ns.map V.int) → sp [.ref a] H (fun v _ => v = .bl true) E0) ∧
        ∀ base : Heap, K.In base → base.Ns mainGlobals mg → Hsb base → (∀ p ∈ cs, GxR.TabB base mg p.1 p.2) → FnG l.prog w K mg base 13 fa fd ["script"] sp := by
  have e := hfa.symm.trans (PySem.W.mg_of X G a51)
  cases e
  have B : Bn mg := ⟨PySem.W.mg_none_of X G z1, PySem.W.mg_none_of X G z2, PySem.W.mg_none_of X G z3, PySem.W.mg_none_of X G z4, PySem.W.mg_none_of X G z5, PySem.W.mg_none_of X G z6, PySem.W.mg_none_of X G z7, PySem.W.mg_none_of X G z8, PySem.W.mg_none_of X G z9, PySem.W.mg_none_of X G z10, PySem.W.mg_none_of X G z11, PySem.W.mg_none_of X G z12, PySem.W.mg_none_of X G z13, PySem.W.mg_none_of X G z14, PySem.W.mg_none_of X G z15, PySem.W.mg_none_of X G z16⟩
  have F1 := fun_mk (st := sWhole) l1 c1 k1
  have b1 := F1.binds (ps := ["thing"]) fun _ _ _ _ _ _ us hl => match us, hl with | [_], _ => rfl
  have g1 := PySem.W.mg_of X G a1
  have FC2 : FunC K "is_step" "is_step" sStep f2 _ c2' := ⟨⟨_, _, _, _, _, _, _, _, rfl, l2, c2⟩, k2⟩
  have F2 := FC2.fn
  have b2 := F2.binds (ps := ["n", "thing"]) fun _ _ _ _ _ _ us hl => match us, hl with | [_, _], _ => rfl
  have g2 := PySem.W.mg_of X G a2
  have FC3 : FunC K "is_square" "is_square" sSquare f3 _ c3' := ⟨⟨_, _, _, _, _, _, _, _, rfl, l3, c3⟩, k3⟩
  have F3 := FC3.fn
  have b3 := F3.binds (ps := ["n", "thing"]) fun _ _ _ _ _ _ us hl => match us, hl with | [_, _], _ => rfl
  have g3 := PySem.W.mg_of X G a3
  have F4 := fun_mk (st := sWithout) l4 c4 k4
  have b4 := F4.binds (ps := ["rows", "down", "across"]) fun _ _ _ _ _ _ us hl => match us, hl with | [_, _, _], _ => rfl
  have g4 := PySem.W.mg_of X G a4
  have F5 := fun_mk (st := sSigned) l5 c5 k5
  have b5 := F5.binds (ps := ["place", "number"]) fun _ _ _ _ _ _ us hl => match us, hl with | [_, _], _ => rfl
  have g5 := PySem.W.mg_of X G a5
  have F6 := fun_mk (st := sDet) l6 c6 k6
  have b6 := F6.binds (ps := ["rows"]) fun _ _ _ _ _ _ us hl => match us, hl with | [_], _ => rfl
  have g6 := PySem.W.mg_of X G a6
  have F7 := fun_mk (st := sAdj) l7 c7 k7
  have b7 := F7.binds (ps := ["rows"]) fun _ _ _ _ _ _ us hl => match us, hl with | [_], _ => rfl
  have g7 := PySem.W.mg_of X G a7
  have F8 := fun_mk (st := sLeanBy) l8 c8 k8
  have b8 := F8.binds (ps := ["table", "one", "other"]) fun _ _ _ _ _ _ us hl => match us, hl with | [_, _, _], _ => rfl
  have g8 := PySem.W.mg_of X G a8
  have F9 := fun_mk (st := sSizeBy) l9 c9 k9
  have b9 := F9.binds (ps := ["table", "step"]) fun _ _ _ _ _ _ us hl => match us, hl with | [_, _], _ => rfl
  have g9 := PySem.W.mg_of X G a9
  have F10 := fun_mk (st := sLeansBy) l10 c10 k10
  have b10 := F10.binds (ps := ["table", "steps"]) fun _ _ _ _ _ _ us hl => match us, hl with | [_, _], _ => rfl
  have g10 := PySem.W.mg_of X G a10
  have F11 := fun_mk (st := sLedBy) l11 c11 k11
  have b11 := F11.binds (ps := ["rows", "numbers"]) fun _ _ _ _ _ _ us hl => match us, hl with | [_, _], _ => rfl
  have g11 := PySem.W.mg_of X G a11
  have F12 := fun_mk (st := sTable) l12 c12 k12
  have b12 := F12.binds (ps := ["thing"]) fun _ _ _ _ _ _ us hl => match us, hl with | [_], _ => rfl
  have g12 := PySem.W.mg_of X G a12
  have F13 := fun_mk (st := sIsForm) l13 c13 k13
  have b13 := F13.binds (ps := ["thing"]) fun _ _ _ _ _ _ us hl => match us, hl with | [_], _ => rfl
  have g13 := PySem.W.mg_of X G a13
  have F14 := fun_mk (st := sLean) l14 c14 k14
  have b14 := F14.binds (ps := ["form", "one", "other"]) fun _ _ _ _ _ _ us hl => match us, hl with | [_, _, _], _ => rfl
  have g14 := PySem.W.mg_of X G a14
  have F15 := fun_mk (st := sSize) l15 c15 k15
  have b15 := F15.binds (ps := ["form", "step"]) fun _ _ _ _ _ _ us hl => match us, hl with | [_, _], _ => rfl
  have g15 := PySem.W.mg_of X G a15
  have F16 := fun_mk (st := sIsCh) l16 c16 k16
  have b16 := F16.binds (ps := ["n", "thing"]) fun _ _ _ _ _ _ us hl => match us, hl with | [_, _], _ => rfl
  have g16 := PySem.W.mg_of X G a16
  have F17 := fun_mk (st := sChanged) l17 c17 k17
  have b17 := F17.binds (ps := ["form", "change"]) fun _ _ _ _ _ _ us hl => match us, hl with | [_, _], _ => rfl
  have g17 := PySem.W.mg_of X G a17
  have F18 := fun_mk (st := sLed) l18 c18 k18
  have b18 := F18.binds (ps := ["n", "change", "step"]) fun _ _ _ _ _ _ us hl => match us, hl with | [_, _, _], _ => rfl
  have g18 := PySem.W.mg_of X G a18
  have F19 := fun_mk (st := sBack) l19 c19 k19
  have b19 := F19.binds (ps := ["n", "change"]) fun _ _ _ _ _ _ us hl => match us, hl with | [_, _], _ => rfl
  have g19 := PySem.W.mg_of X G a19
  have F20 := fun_mk (st := sLow) l20 c20 k20
  have b20 := F20.binds (ps := ["table"]) fun _ _ _ _ _ _ us hl => match us, hl with | [_], _ => rfl
  have g20 := PySem.W.mg_of X G a20
  have F21 := fun_mk (st := sNeedF) l21 c21 k21
  have b21 := F21.binds (ps := ["thing"]) fun _ _ _ _ _ _ us hl => match us, hl with | [_], _ => rfl
  have g21 := PySem.W.mg_of X G a21
  have F22 := fun_mk (st := sNeedS) l22 c22 k22
  have b22 := F22.binds (ps := ["n", "thing"]) fun _ _ _ _ _ _ us hl => match us, hl with | [_, _], _ => rfl
  have g22 := PySem.W.mg_of X G a22
  have F23 := fun_mk (st := sNeedC) l23 c23 k23
  have b23 := F23.binds (ps := ["n", "thing"]) fun _ _ _ _ _ _ us hl => match us, hl with | [_, _], _ => rfl
  have g23 := PySem.W.mg_of X G a23
  have F24 := fun_mk (st := sDeck) l24 c24 k24
  have b24 := F24.binds (ps := ["script"]) fun _ _ _ _ _ _ us hl => match us, hl with | [_], _ => rfl
  have g24 := PySem.W.mg_of X G a24
  have F25 := fun_mk (st := sDraw) l25 c25 k25
  have b25 := F25.binds (ps := ["deck", "many"]) fun _ _ _ _ _ _ us hl => match us, hl with | [_, _], _ => rfl
  have g25 := PySem.W.mg_of X G a25
  have F26 := fun_mk (st := sPick) l26 c26 k26
  have b26 := F26.binds (ps := ["deck", "some"]) fun _ _ _ _ _ _ us hl => match us, hl with | [_, _], _ => rfl
  have g26 := PySem.W.mg_of X G a26
  have F27 := fun_mk (st := sLStep) l27 c27 k27
  have b27 := F27.binds (ps := ["n", "thing"]) fun _ _ _ _ _ _ us hl => match us, hl with | [_, _], _ => rfl
  have g27 := PySem.W.mg_of X G a27
  have F28 := fun_mk (st := sLSq) l28 c28 k28
  have b28 := F28.binds (ps := ["n", "thing"]) fun _ _ _ _ _ _ us hl => match us, hl with | [_, _], _ => rfl
  have g28 := PySem.W.mg_of X G a28
  have F29 := fun_mk (st := sLTab) l29 c29 k29
  have b29 := F29.binds (ps := ["thing"]) fun _ _ _ _ _ _ us hl => match us, hl with | [_], _ => rfl
  have g29 := PySem.W.mg_of X G a29
  have F30 := fun_mk (st := sLMinor) l30 c30 k30
  have b30 := F30.binds (ps := ["rows", "i", "j"]) fun _ _ _ _ _ _ us hl => match us, hl with | [_, _, _], _ => rfl
  have g30 := PySem.W.mg_of X G a30
  have F31 := fun_mk (st := sLDet) l31 c31 k31
  have b31 := F31.binds (ps := ["rows"]) fun _ _ _ _ _ _ us hl => match us, hl with | [_], _ => rfl
  have g31 := PySem.W.mg_of X G a31
  have F32 := fun_mk (st := sLForm) l32 c32 k32
  have b32 := F32.binds (ps := ["thing"]) fun _ _ _ _ _ _ us hl => match us, hl with | [_], _ => rfl
  have g32 := PySem.W.mg_of X G a32
  have F33 := fun_mk (st := sLLean) l33 c33 k33
  have b33 := F33.binds (ps := ["form", "one", "other"]) fun _ _ _ _ _ _ us hl => match us, hl with | [_, _, _], _ => rfl
  have g33 := PySem.W.mg_of X G a33
  have F34 := fun_mk (st := sLLow) l34 c34 k34
  have b34 := F34.binds (ps := ["form", "most"]) fun _ _ _ _ _ _ us hl => match us, hl with | [_, _], _ => rfl
  have g34 := PySem.W.mg_of X G a34
  have F35 := fun_mk (st := sLUnit) l35 c35 k35
  have b35 := F35.binds (ps := ["n"]) fun _ _ _ _ _ _ us hl => match us, hl with | [_], _ => rfl
  have g35 := PySem.W.mg_of X G a35
  have F36 := fun_mk (st := sLLed) l36 c36 k36
  have b36 := F36.binds (ps := ["change", "step"]) fun _ _ _ _ _ _ us hl => match us, hl with | [_, _], _ => rfl
  have g36 := PySem.W.mg_of X G a36
  have F37 := fun_mk (st := sLChd) l37 c37 k37
  have b37 := F37.binds (ps := ["form", "change"]) fun _ _ _ _ _ _ us hl => match us, hl with | [_, _], _ => rfl
  have g37 := PySem.W.mg_of X G a37
  have F38 := fun_mk (st := sLBack) l38 c38 k38
  have b38 := F38.binds (ps := ["change"]) fun _ _ _ _ _ _ us hl => match us, hl with | [_], _ => rfl
  have g38 := PySem.W.mg_of X G a38
  have F39 := fun_mk (st := sChange) l39 c39 k39
  have b39 := F39.binds (ps := ["deck", "n", "many"]) fun _ _ _ _ _ _ us hl => match us, hl with | [_, _, _], _ => rfl
  have g39 := PySem.W.mg_of X G a39
  have F40 := fun_mk (st := sPlain) l40 c40 k40
  have b40 := F40.binds (ps := ["deck", "n"]) fun _ _ _ _ _ _ us hl => match us, hl with | [_, _], _ => rfl
  have g40 := PySem.W.mg_of X G a40
  have F41 := fun_mk (st := sForm) l41 c41 k41
  have b41 := F41.binds (ps := ["deck", "n", "most"]) fun _ _ _ _ _ _ us hl => match us, hl with | [_, _, _], _ => rfl
  have g41 := PySem.W.mg_of X G a41
  have F42 := fun_mk (st := sAny) l42 c42 k42
  have b42 := F42.binds (ps := ["deck", "deep"]) fun _ _ _ _ _ _ us hl => match us, hl with | [_, _], _ => rfl
  have g42 := PySem.W.mg_of X G a42
  have F43 := fun_mk (st := sCT) l43 c43 k43
  have b43 := F43.binds (ps := ["deck", "thing"]) fun _ _ _ _ _ _ us hl => match us, hl with | [_, _], _ => rfl
  have g43 := PySem.W.mg_of X G a43
  have F44 := fun_mk (st := sBent) l44 c44 k44
  have b44 := F44.binds (ps := ["deck", "thing"]) fun _ _ _ _ _ _ us hl => match us, hl with | [_, _], _ => rfl
  have g44 := PySem.W.mg_of X G a44
  have F45 := fun_mk (st := sOften) l45 c45 k45
  have b45 := F45.binds (ps := ["deck", "thing"]) fun _ _ _ _ _ _ us hl => match us, hl with | [_, _], _ => rfl
  have g45 := PySem.W.mg_of X G a45
  have F46 := fun_mk (st := sTruths) l46 c46 k46
  have b46 := F46.binds (ps := ["thing"]) fun _ _ _ _ _ _ us hl => match us, hl with | [_], _ => rfl
  have g46 := PySem.W.mg_of X G a46
  have F47 := fun_mk (st := sLIsCh) l47 c47 k47
  have b47 := F47.binds (ps := ["n", "thing"]) fun _ _ _ _ _ _ us hl => match us, hl with | [_, _], _ => rfl
  have g47 := PySem.W.mg_of X G a47
  have F48 := fun_mk (st := sLR) l48 c48 k48
  have b48 := F48.binds (ps := ["n", "change", "step"]) fun _ _ _ _ _ _ us hl => match us, hl with | [_, _, _], _ => rfl
  have g48 := PySem.W.mg_of X G a48
  have F49 := fun_mk (st := sFR) l49 c49 k49
  have b49 := F49.binds (ps := ["form", "change", "one", "other", "way"]) fun _ _ _ _ _ _ us hl => match us, hl with | [_, _, _, _, _], _ => rfl
  have g49 := PySem.W.mg_of X G a49
  have F50 := fun_mk (st := sBR) l50 c50 k50
  have b50 := F50.binds (ps := ["n", "form", "one", "other"]) fun _ _ _ _ _ _ us hl => match us, hl with | [_, _, _, _], _ => rfl
  have g50 := PySem.W.mg_of X G a50
  have F51 := fun_mk (st := sLaw) l51 c51 k51
  have b51 := F51.binds (ps := ["script"]) fun _ _ _ _ _ _ us hl => match us, hl with | [_], _ => rfl
  have g51 := PySem.W.mg_of X G a51
  refine ⟨PySem.W.fnOf "law" "law" (defArgs sLaw) (defBody sLaw) (defScope sLaw) .none kV51 dc51 pm51 an51 cd51 ct51, [(c2', P1), (c3', P2)], spLaw K [P1, P2], fun p hp => ?_, fun p hp => ?_, fun s v => .of_eq rfl, fun H a ns hl _ hT hS => ⟨a, ns, rfl, hS, hl, fun P hP => ?_, fun _ => rfl⟩, fun base _ _ hsb hTB => ?_⟩
  · rcases List.mem_cons.mp hp with e | hp
    · rw [e]; exact ⟨"is_step", by simp, tabIn_of a2 l2 rfl t1 v1⟩
    · rw [List.mem_singleton.mp hp]; exact ⟨"is_square", by simp, tabIn_of a3 l3 rfl t2 v2⟩
  · rcases List.mem_cons.mp hp with e | hp
    · rw [e]; exact u1
    · rw [List.mem_singleton.mp hp]; exact u2
  · rcases List.mem_cons.mp hP with e | hP
    · rw [e]; exact ⟨#[], hT (c2', P1) (by simp), trivial⟩
    · rw [List.mem_singleton.mp hP]; exact ⟨#[], hT (c3', P2) (by simp), trivial⟩
  let C1 : Cl l.prog w K mg base "is_whole" ["thing"] 1 (spWhole) := ⟨f1, _, ok_whole B F1, g1, k1, b1⟩
  let C2 : Cl l.prog w K mg base "is_step" ["n", "thing"] 4 (spStep [P1]) := ⟨f2, _, ok_step B FC2 (hTB (c2', P1) (by simp)) C1, g2, k2, b2⟩
  let C3 : Cl l.prog w K mg base "is_square" ["n", "thing"] 7 (spSquare [P1, P2]) := ⟨f3, _, ok_square B FC3 (hTB (c3', P2) (by simp)) C2, g3, k3, b3⟩
  let C4 : Cl l.prog w K mg base "without" ["rows", "down", "across"] 1 (spWithout) := ⟨f4, _, ok_without B F4, g4, k4, b4⟩
  let C5 : Cl l.prog w K mg base "signed" ["place", "number"] 1 (spSigned) := ⟨f5, _, ok_signed B F5, g5, k5, b5⟩
  let C6 : Cl l.prog w K mg base "determinant" ["rows"] 4 (spDetA) := ⟨f6, _, ok_det B ⟨_, _, F6, g6, b6⟩ C4 C5, g6, k6, b6⟩
  let C7 : Cl l.prog w K mg base "adjoint" ["rows"] 5 (spAdj) := ⟨f7, _, ok_adj B F7 C6 C4 C5, g7, k7, b7⟩
  let C8 : Cl l.prog w K mg base "lean_by" ["table", "one", "other"] 1 (spLeanBy) := ⟨f8, _, ok_leanBy B F8, g8, k8, b8⟩
  let C9 : Cl l.prog w K mg base "size_by" ["table", "step"] 2 (spSizeBy) := ⟨f9, _, ok_sizeBy B F9 C8, g9, k9, b9⟩
  let C10 : Cl l.prog w K mg base "leans_by" ["table", "steps"] 2 (spLeansBy) := ⟨f10, _, ok_leansBy B F10 C8, g10, k10, b10⟩
  let C11 : Cl l.prog w K mg base "led_by" ["rows", "numbers"] 1 (spLedBy) := ⟨f11, _, ok_ledBy B F11, g11, k11, b11⟩
  let C12 : Cl l.prog w K mg base "is_table" ["thing"] 8 (spTable [P1, P2]) := ⟨f12, _, ok_table B F12 C3, g12, k12, b12⟩
  let C20 : Cl l.prog w K mg base "low_step" ["table"] 5 (spLow) := ⟨f20, _, ok_low B F20 C6, g20, k20, b20⟩
  let C13 : Cl l.prog w K mg base "is_form" ["thing"] 9 (spIsForm [P1, P2]) := ⟨f13, _, ok_isForm B F13 C12 C20, g13, k13, b13⟩
  let C21 : Cl l.prog w K mg base "need_form" ["thing"] 10 (spNeedF [P1, P2]) := ⟨f21, _, ok_needF B F21 C13, g21, k21, b21⟩
  let C22 : Cl l.prog w K mg base "need_step" ["n", "thing"] 5 (spNeedS [P1]) := ⟨f22, _, ok_needS B F22 C2, g22, k22, b22⟩
  let C14 : Cl l.prog w K mg base "lean" ["form", "one", "other"] 11 (spLean [P1, P2]) := ⟨f14, _, ok_lean B F14 C21 C22 C8, g14, k14, b14⟩
  let C15 : Cl l.prog w K mg base "size" ["form", "step"] 11 (spSize [P1, P2]) := ⟨f15, _, ok_size B F15 C21 C22 C9, g15, k15, b15⟩
  let C16 : Cl l.prog w K mg base "is_change" ["n", "thing"] 8 (spIsCh [P1, P2]) := ⟨f16, _, ok_isCh B F16 C3 C6, g16, k16, b16⟩
  let C23 : Cl l.prog w K mg base "need_change" ["n", "thing"] 9 (spNeedC [P1, P2]) := ⟨f23, _, ok_needC B F23 C16, g23, k23, b23⟩
  let C17 : Cl l.prog w K mg base "changed" ["form", "change"] 11 (spChanged [P1, P2]) := ⟨f17, _, ok_changed B F17 C21 C23 C10, g17, k17, b17⟩
  let C18 : Cl l.prog w K mg base "led" ["n", "change", "step"] 10 (spLed [P1, P2]) := ⟨f18, _, ok_led B F18 C23 C22 C11, g18, k18, b18⟩
  let C19 : Cl l.prog w K mg base "back" ["n", "change"] 10 (spBack [P1, P2]) := ⟨f19, _, ok_back B F19 C23 C6 C7, g19, k19, b19⟩
  let C24 : Cl l.prog w K mg base "_law_deck" ["script"] 1 (spDeck K) := ⟨f24, _, ok_mkDeck B F24, g24, k24, b24⟩
  let C25 : Cl l.prog w K mg base "_law_draw" ["deck", "many"] 1 (spDraw) := ⟨f25, _, ok_draw B F25, g25, k25, b25⟩
  let C26 : Cl l.prog w K mg base "_law_pick" ["deck", "some"] 2 (spPick) := ⟨f26, _, ok_pick B F26 C25, g26, k26, b26⟩
  let CpickD : Cl l.prog w K mg base "_law_pick" ["deck", "some"] 2 (spPickD) := ⟨f26, _, ok_pickD B F26 C25, g26, k26, b26⟩
  let C27 : Cl l.prog w K mg base "_law_is_step" ["n", "thing"] 1 (spLStep) := ⟨f27, _, ok_lStep B F27, g27, k27, b27⟩
  let C28 : Cl l.prog w K mg base "_law_is_square" ["n", "thing"] 2 (spLSq) := ⟨f28, _, ok_lSq B F28 C27, g28, k28, b28⟩
  let C29 : Cl l.prog w K mg base "_law_is_table" ["thing"] 3 (spLTab) := ⟨f29, _, ok_lTab B F29 C28, g29, k29, b29⟩
  let CstepA : Cl l.prog w K mg base "_law_is_step" ["n", "thing"] 1 (spLStepA) := ⟨f27, _, ok_lStepA B F27, g27, k27, b27⟩
  let CsqA : Cl l.prog w K mg base "_law_is_square" ["n", "thing"] 2 (spLSqA) := ⟨f28, _, ok_lSqA B F28 CstepA, g28, k28, b28⟩
  let C30 : Cl l.prog w K mg base "_law_minor" ["rows", "i", "j"] 1 (spLMinor) := ⟨f30, _, ok_lMinor B F30, g30, k30, b30⟩
  let CminA : Cl l.prog w K mg base "_law_minor" ["rows", "i", "j"] 1 (spLMinorA) := ⟨f30, _, ok_lMinorA B F30, g30, k30, b30⟩
  let C31 : Cl l.prog w K mg base "_law_det" ["rows"] 4 (spLDetA) := ⟨f31, _, ok_lDet B ⟨_, _, F31, g31, b31⟩ C30, g31, k31, b31⟩
  let C32 : Cl l.prog w K mg base "_law_is_form" ["thing"] 5 (spLForm) := ⟨f32, _, ok_lForm B F32 C29 C31, g32, k32, b32⟩
  let C33 : Cl l.prog w K mg base "_law_lean" ["form", "one", "other"] 1 (spLLean) := ⟨f33, _, ok_lLean B F33, g33, k33, b33⟩
  let C34 : Cl l.prog w K mg base "_law_is_low" ["form", "most"] 1 (spLLow) := ⟨f34, _, ok_lLow B F34, g34, k34, b34⟩
  let C35 : Cl l.prog w K mg base "_law_unit" ["n"] 1 (spLUnit) := ⟨f35, _, ok_lUnit B F35, g35, k35, b35⟩
  let C36 : Cl l.prog w K mg base "_law_led" ["change", "step"] 1 (spLLed) := ⟨f36, _, ok_lLed B F36, g36, k36, b36⟩
  let C37 : Cl l.prog w K mg base "_law_changed" ["form", "change"] 2 (spLChd) := ⟨f37, _, ok_lChd B F37 C33, g37, k37, b37⟩
  let C38 : Cl l.prog w K mg base "_law_back" ["change"] 5 (spLBack) := ⟨f38, _, ok_lBack B F38 C31 CminA, g38, k38, b38⟩
  let C39 : Cl l.prog w K mg base "_law_change" ["deck", "n", "many"] 3 (spChange) := ⟨f39, _, ok_change B F39 C25 C26 C35, g39, k39, b39⟩
  let C40 : Cl l.prog w K mg base "_law_plain_form" ["deck", "n"] 6 (spPlain) := ⟨f40, _, ok_plain B F40 C25 C26 C32, g40, k40, b40⟩
  let C41 : Cl l.prog w K mg base "_law_form" ["deck", "n", "most"] 7 (spForm) := ⟨f41, _, ok_form B F41 C25 C40 C39 C37 C34, g41, k41, b41⟩
  let Cany0 : Cl l.prog w K mg base "_law_any" ["deck", "deep"] 3 (spAny 0) := ⟨f42, _, ok_any B ⟨_, _, F42, g42, b42⟩ C25 CpickD 0, g42, k42, b42⟩
  let Cany1 : Cl l.prog w K mg base "_law_any" ["deck", "deep"] 4 (spAny 1) := ⟨f42, _, ok_any B ⟨_, _, F42, g42, b42⟩ C25 CpickD 1, g42, k42, b42⟩
  let Cany2 : Cl l.prog w K mg base "_law_any" ["deck", "deep"] 5 (spAny 2) := ⟨f42, _, ok_any B ⟨_, _, F42, g42, b42⟩ C25 CpickD 2, g42, k42, b42⟩
  let C43 : Cl l.prog w K mg base "_law_changed_tuple" ["deck", "thing"] 4 (spCT) := ⟨f43, _, ok_CT B (k := 3) (by decide) F43 C25 Cany0, g43, k43, b43⟩
  let C44 : Cl l.prog w K mg base "_law_bent" ["deck", "thing"] 9 (spBentU 4) := ⟨f44, _, ok_bentU B ⟨_, _, F44, g44, b44⟩ C25 CpickD C43 Cany1 4, g44, k44, b44⟩
  let C45 : Cl l.prog w K mg base "_law_often_bent" ["deck", "thing"] 10 (spOften 2) := ⟨f45, _, ok_often B 2 F45 C25 C26 C44 Cany2, g45, k45, b45⟩
  let C46 : Cl l.prog w K mg base "_law_truths" ["thing"] 4 (spTruths 2) := ⟨f46, _, ok_truths B ⟨_, _, F46, g46, b46⟩ 2, g46, k46, b46⟩
  let C47 : Cl l.prog w K mg base "_law_is_change" ["n", "thing"] 5 (spLIsCh) := ⟨f47, _, ok_lIsCh B F47 CsqA C31, g47, k47, b47⟩
  let C48 : ClG l.prog w K mg base "_law_is_led_right" ["n", "change", "step"] 11 (spLR [P1, P2]) := ⟨f48, _, ok_LR B hsb F48 C18 C19 C36 C38 C16 kbLed kbBack, g48, k48, b48⟩
  let C49 : ClG l.prog w K mg base "_law_is_form_right" ["form", "change", "one", "other", "way"] 12 (spFR [P1, P2]) := ⟨f49, _, ok_FR B hsb F49 C37 C17 C34 C18 C33 C14 C15 C13 C19 kbChanged, g49, k49, b49⟩
  let C50 : ClG l.prog w K mg base "_law_are_both_right" ["n", "form", "one", "other"] 12 (spBR [P1, P2]) := ⟨f50, _, ok_BR B hsb F50 C37 C17 C34 C18 C36 C16, g50, k50, b50⟩
  exact ok_law B hsb F51 C24 C25 C26 C41 C39 C34 C38 C35 C48 C49 C50 CpickD C46 C45 C47 C16 kbIsCh
end Kz
open PySem PySem.W PyProof.Rows
set_option Elab.async false
set_option maxRecDepth 100000 in
set_option maxHeartbeats 0 in
theorem PySem.Challenge.cw_nearsteps_k03_whole_changes_led_steps_an_holds : PySem.Challenge.rw_nearsteps_k03_whole_changes_led_steps_an.Holds := by
  w_on; o_law; k_head; (case hw => w_witness2)
  k_fill
  refine Kz.walk_S (l := PySem.Challenge.rw_nearsteps_k03_whole_changes_led_steps_an) (n := 63) (k := 13) (x := "script") ["is_step", "is_square"] (by rfl) rfl (by decide) rfl ⟨rfl, by decide, by decide⟩ (fun w h Y => PySem.W.kIn_of Y) (fun y hy => ?HT) ?F
  case HT =>
    rcases List.mem_cons.mp hy with e | hy
    · rw [e]; exact ⟨_, by rfl⟩
    · rw [List.mem_singleton.mp hy]; exact ⟨_, by rfl⟩
  case F =>
    intro w mg fa h KX G hmg
    refine' Kz.all_mk KX G hmg ?a1 ?l1 ?c1 ?k1 ?a2 ?l2 ?c2 ?k2 ?a3 ?l3 ?c3 ?k3 ?a4 ?l4 ?c4 ?k4 ?a5 ?l5 ?c5 ?k5 ?a6 ?l6 ?c6 ?k6 ?a7 ?l7 ?c7 ?k7 ?a8 ?l8 ?c8 ?k8 ?a9 ?l9 ?c9 ?k9 ?a10 ?l10 ?c10 ?k10 ?a11 ?l11 ?c11 ?k11 ?a12 ?l12 ?c12 ?k12 ?a13 ?l13 ?c13 ?k13 ?a14 ?l14 ?c14 ?k14 ?a15 ?l15 ?c15 ?k15 ?a16 ?l16 ?c16 ?k16 ?a17 ?l17 ?c17 ?k17 ?a18 ?l18 ?c18 ?k18 ?a19 ?l19 ?c19 ?k19 ?a20 ?l20 ?c20 ?k20 ?a21 ?l21 ?c21 ?k21 ?a22 ?l22 ?c22 ?k22 ?a23 ?l23 ?c23 ?k23 ?a24 ?l24 ?c24 ?k24 ?a25 ?l25 ?c25 ?k25 ?a26 ?l26 ?c26 ?k26 ?a27 ?l27 ?c27 ?k27 ?a28 ?l28 ?c28 ?k28 ?a29 ?l29 ?c29 ?k29 ?a30 ?l30 ?c30 ?k30 ?a31 ?l31 ?c31 ?k31 ?a32 ?l32 ?c32 ?k32 ?a33 ?l33 ?c33 ?k33 ?a34 ?l34 ?c34 ?k34 ?a35 ?l35 ?c35 ?k35 ?a36 ?l36 ?c36 ?k36 ?a37 ?l37 ?c37 ?k37 ?a38 ?l38 ?c38 ?k38 ?a39 ?l39 ?c39 ?k39 ?a40 ?l40 ?c40 ?k40 ?a41 ?l41 ?c41 ?k41 ?a42 ?l42 ?c42 ?k42 ?a43 ?l43 ?c43 ?k43 ?a44 ?l44 ?c44 ?k44 ?a45 ?l45 ?c45 ?k45 ?a46 ?l46 ?c46 ?k46 ?a47 ?l47 ?c47 ?k47 ?a48 ?l48 ?c48 ?k48 ?a49 ?l49 ?c49 ?k49 ?a50 ?l50 ?c50 ?k50 ?a51 ?l51 ?c51 ?k51 ?z1 ?z2 ?z3 ?z4 ?z5 ?z6 ?z7 ?z8 ?z9 ?z10 ?z11 ?z12 ?z13 ?z14 ?z15 ?z16 ?t1 ?v1 ?t2 ?v2 ?u1 ?u2
    (case a1 => k_is)
    (case l1 => k_is)
    (case c1 => k_is)
    (case k1 => k_is)
    (case a2 => k_is)
    (case l2 => k_is)
    (case c2 => k_is)
    (case k2 => k_is)
    (case a3 => k_is)
    (case l3 => k_is)
    (case c3 => k_is)
    (case k3 => k_is)
    (case a4 => k_is)
    (case l4 => k_is)
    (case c4 => k_is)
    (case k4 => k_is)
    (case a5 => k_is)
    (case l5 => k_is)
    (case c5 => k_is)
    (case k5 => k_is)
    (case a6 => k_is)
    (case l6 => k_is)
    (case c6 => k_is)
    (case k6 => k_is)
    (case a7 => k_is)
    (case l7 => k_is)
    (case c7 => k_is)
    (case k7 => k_is)
    (case a8 => k_is)
    (case l8 => k_is)
    (case c8 => k_is)
    (case k8 => k_is)
    (case a9 => k_is)
    (case l9 => k_is)
    (case c9 => k_is)
    (case k9 => k_is)
    (case a10 => k_is)
    (case l10 => k_is)
    (case c10 => k_is)
    (case k10 => k_is)
    (case a11 => k_is)
    (case l11 => k_is)
    (case c11 => k_is)
    (case k11 => k_is)
    (case a12 => k_is)
    (case l12 => k_is)
    (case c12 => k_is)
    (case k12 => k_is)
    (case a13 => k_is)
    (case l13 => k_is)
    (case c13 => k_is)
    (case k13 => k_is)
    (case a14 => k_is)
    (case l14 => k_is)
    (case c14 => k_is)
    (case k14 => k_is)
    (case a15 => k_is)
    (case l15 => k_is)
    (case c15 => k_is)
    (case k15 => k_is)
    (case a16 => k_is)
    (case l16 => k_is)
    (case c16 => k_is)
    (case k16 => k_is)
    (case a17 => k_is)
    (case l17 => k_is)
    (case c17 => k_is)
    (case k17 => k_is)
    (case a18 => k_is)
    (case l18 => k_is)
    (case c18 => k_is)
    (case k18 => k_is)
    (case a19 => k_is)
    (case l19 => k_is)
    (case c19 => k_is)
    (case k19 => k_is)
    (case a20 => k_is)
    (case l20 => k_is)
    (case c20 => k_is)
    (case k20 => k_is)
    (case a21 => k_is)
    (case l21 => k_is)
    (case c21 => k_is)
    (case k21 => k_is)
    (case a22 => k_is)
    (case l22 => k_is)
    (case c22 => k_is)
    (case k22 => k_is)
    (case a23 => k_is)
    (case l23 => k_is)
    (case c23 => k_is)
    (case k23 => k_is)
    (case a24 => k_is)
    (case l24 => k_is)
    (case c24 => k_is)
    (case k24 => k_is)
    (case a25 => k_is)
    (case l25 => k_is)
    (case c25 => k_is)
    (case k25 => k_is)
    (case a26 => k_is)
    (case l26 => k_is)
    (case c26 => k_is)
    (case k26 => k_is)
    (case a27 => k_is)
    (case l27 => k_is)
    (case c27 => k_is)
    (case k27 => k_is)
    (case a28 => k_is)
    (case l28 => k_is)
    (case c28 => k_is)
    (case k28 => k_is)
    (case a29 => k_is)
    (case l29 => k_is)
    (case c29 => k_is)
    (case k29 => k_is)
    (case a30 => k_is)
    (case l30 => k_is)
    (case c30 => k_is)
    (case k30 => k_is)
    (case a31 => k_is)
    (case l31 => k_is)
    (case c31 => k_is)
    (case k31 => k_is)
    (case a32 => k_is)
    (case l32 => k_is)
    (case c32 => k_is)
    (case k32 => k_is)
    (case a33 => k_is)
    (case l33 => k_is)
    (case c33 => k_is)
    (case k33 => k_is)
    (case a34 => k_is)
    (case l34 => k_is)
    (case c34 => k_is)
    (case k34 => k_is)
    (case a35 => k_is)
    (case l35 => k_is)
    (case c35 => k_is)
    (case k35 => k_is)
    (case a36 => k_is)
    (case l36 => k_is)
    (case c36 => k_is)
    (case k36 => k_is)
    (case a37 => k_is)
    (case l37 => k_is)
    (case c37 => k_is)
    (case k37 => k_is)
    (case a38 => k_is)
    (case l38 => k_is)
    (case c38 => k_is)
    (case k38 => k_is)
    (case a39 => k_is)
    (case l39 => k_is)
    (case c39 => k_is)
    (case k39 => k_is)
    (case a40 => k_is)
    (case l40 => k_is)
    (case c40 => k_is)
    (case k40 => k_is)
    (case a41 => k_is)
    (case l41 => k_is)
    (case c41 => k_is)
    (case k41 => k_is)
    (case a42 => k_is)
    (case l42 => k_is)
    (case c42 => k_is)
    (case k42 => k_is)
    (case a43 => k_is)
    (case l43 => k_is)
    (case c43 => k_is)
    (case k43 => k_is)
    (case a44 => k_is)
    (case l44 => k_is)
    (case c44 => k_is)
    (case k44 => k_is)
    (case a45 => k_is)
    (case l45 => k_is)
    (case c45 => k_is)
    (case k45 => k_is)
    (case a46 => k_is)
    (case l46 => k_is)
    (case c46 => k_is)
    (case k46 => k_is)
    (case a47 => k_is)
    (case l47 => k_is)
    (case c47 => k_is)
    (case k47 => k_is)
    (case a48 => k_is)
    (case l48 => k_is)
    (case c48 => k_is)
    (case k48 => k_is)
    (case a49 => k_is)
    (case l49 => k_is)
    (case c49 => k_is)
    (case k49 => k_is)
    (case a50 => k_is)
    (case l50 => k_is)
    (case c50 => k_is)
    (case k50 => k_is)
    (case a51 => k_is)
    (case l51 => k_is)
    (case c51 => k_is)
    (case k51 => k_is)
    (case z1 => k_is)
    (case z2 => k_is)
    (case z3 => k_is)
    (case z4 => k_is)
    (case z5 => k_is)
    (case z6 => k_is)
    (case z7 => k_is)
    (case z8 => k_is)
    (case z9 => k_is)
    (case z10 => k_is)
    (case z11 => k_is)
    (case z12 => k_is)
    (case z13 => k_is)
    (case z14 => k_is)
    (case z15 => k_is)
    (case z16 => k_is)
    (case t1 => k_is)
    (case v1 => rfl)
    (case t2 => k_is)
    (case v2 => rfl)
    (case u1 => first | rfl | kernel_rfl)
    (case u2 => first | rfl | kernel_rfl)
