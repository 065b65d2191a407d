import PyProof.Rows.All
import Wide.All
import OpenK.AllK
import Wide.FinOn
import HandS.ForExc
import HandS.Comp
import HandS.AnyAll
import HandS.GenOver
import HandS.GenList
import HandS.Iter
import HandS.Text
import HandS.Codes
import HandS.IsInst
import HandS.ExcIs
import HandS.FStr
import HandS.RaiseMore
import HandS.Wide
import HandS.TupAny
import KE.GoesMore
import KE.GoesEnum
import HandS.Style
import KE.DataMinMax
import HandS.SortKw
import HandS.Rev
import HandS.DictComp
import HandS.DeepEq
import PySem.Challenge.RW_forklent_k05_graphs_of_threads
import HandS.EndOwn
import KE.RegKIsAll
set_option Elab.async false
set_option linter.all false
set_option maxRecDepth 100000
set_option maxHeartbeats 8000000
namespace Gx
open PySem PySem.Spec PyProof.Rows L2 GxR GenW
/-! ### all(..) of a generator expression whose element is any expression -/
section
variable {X : Cx} {pins : List (Addr × Obj)} {σ : L2.St} {H : Hp} {s : Shared}
/-- the generators and the tokens change, objects come -/
theorem inv_gens {h' : Heap} {G : Array GenState} {t : Nat} (I : Inv X pins σ H s) (k : ∀ b o, s.heap.get? b = some o → h'.get? b = some o) (hG : AllBare G) :
    Inv X pins σ H { s with heap := h', gens := G, toks := t } := by
  refine I.step (g' := G) (d' := s.drawn) (ch := []) (fun b hb => absurd hb (by simp)) (fun b o _ _ _ e n => k b o e) (fun b o _ _ _ e n => ⟨o.slots, k b o e⟩)
    (fun b o _ e n => n) (fun b o _ e => ⟨o, k b o e⟩) (fun b xs e => e) (fun b o u e => e) (fun b qs e => ⟨#[], by rw [e]; simp⟩) (fun m hn => ?_) (I.hok.kept k) hG
  obtain ⟨ob, es, ep, ho, r⟩ := hn
  exact ⟨ob, es, ep, k _ ob ho, r⟩
end
/-- the generator's context -/
abbrev gcx (X : Cx) (s : Shared) (H : Hp) (genv : Env) (fp : List Addr) (A' : Around) (pn : List (Addr × Obj)) : Cx :=
  { X with A := A', s_0 := s, H_0 := H, env := genv, outer := X.stack, stack := genv :: X.stack, ex := fp, fn := fun _ => false, pn := pn, xe := fun _ _ => False }
section
variable {X : Cx} {pins : List (Addr × Obj)} {σ : L2.St} {H : Hp} {s : Shared}
theorem gen_start {scope : Scope} {own : List (Str × Nat)} {fp : List Addr} {A' : Around} {code : Value} {h' : Heap} {gobj : Obj} {it : Value} {G : Array GenState} {t : Nat}
    (I : Inv X pins σ H s) (ok : BlkOk X.N X.env.scope scope own) (hN : X.N.Nodup) (nocell : ∀ y ∈ scope.names, y.2 ≠ .cell) (hfp : ∀ b ∈ fp, FpOk X pins H b ∧ b < s.heap.objs.size)
    (hA : A'.handled = none) (hfr : A'.frames = some (genEnv scope (cloFrom X.env.cells scope.names []) s.heap.objs.size code builtinsNs X.env :: X.stack))
    (hns : h'.Ns s.heap.objs.size (fun y => if y = (".0" : Str) then some it else none)) (hsb : Heap.SameBut s.heap.objs.size (s.heap.push { cls := .type "frame", data := .dict #[] }) h') (hgd : ∀ v, gobj.data ≠ .cell v) (hgf : gobj.isFreed = false) (hG : AllBare G)
    (hdot : ∀ (i : Nat), X.N[i]? ≠ some (".0" : Str)) :
    Inv (gcx X s H (genEnv scope (cloFrom X.env.cells scope.names []) s.heap.objs.size code builtinsNs X.env) fp A' [(h'.objs.size, gobj)]) [] (wipe σ (own.map (·.2))) H { s with heap := h'.push gobj, gens := G, toks := t } := by
  have hfree : ∀ y ∈ scope.names, y.2 = .free → ∃ c, X.env.cells.lookup y.1 = some c := fun y hy e => by
    rcases ok.free y hy e with k | k
    · exact I.ok.has _ (.inl k)
    · exact I.ok.has _ (.inr k)
  generalize hcenv : genEnv scope (cloFrom X.env.cells scope.names []) s.heap.objs.size code builtinsNs X.env = cenv at hfr ⊢
  have sz' : h'.objs.size = s.heap.objs.size + 1 := by rw [hsb.1, Heap.size_push]
  have kp' : ∀ b o, s.heap.get? b = some o → h'.get? b = some o := fun b o e => hsb.extBut b o (Nat.ne_of_lt (Heap.lt_size e)) (Heap.get?_push_of_some _ e)
  have kp : ∀ b o, s.heap.get? b = some o → (h'.push gobj).get? b = some o := fun b o e => Heap.get?_push_of_some _ (kp' b o e)
  have hL : cenv.locals = s.heap.objs.size := by rw [← hcenv]; rfl
  have hcl : cenv.cells = cloFrom X.env.cells scope.names [] := by rw [← hcenv]; rfl
  have hsc : cenv.scope = scope := by rw [← hcenv]; rfl
  have cm : ∀ {y c}, (y, c) ∈ cloFrom X.env.cells scope.names [] → X.env.cells.lookup y = some c ∧ c < s.heap.objs.size := fun {y c} hm => by
    rcases cloFrom_mem hm with hm | ⟨h1, rfl⟩
    · cases hm
    · obtain ⟨c, hc⟩ := hfree _ h1 rfl
      rw [hc]
      obtain ⟨w, z⟩ := I.cell _ _ hc
      exact ⟨rfl, z.lt⟩
  have mem : ∀ {y c}, cenv.cells.lookup y = some c → X.env.cells.lookup y = some c ∧ c < s.heap.objs.size := fun {y c} e => by
    rw [hcl] at e
    exact cm (PySem.mem_of_lookup e)
  have look : ∀ {y}, scope.names.lookup y = some .free → ∃ c, cenv.cells.lookup y = some c ∧ X.env.cells.lookup y = some c := fun {y} hl => by
    have hy : (y, NameKind.free) ∈ scope.names := PySem.mem_of_lookup hl
    obtain ⟨c', e'⟩ := mem_lookup (cloFrom_has (cells := X.env.cells) (acc := []) hy)
    rw [← hcl] at e'
    exact ⟨c', e', (mem e').1⟩
  have nocell' : ∀ y, scope.names.lookup y ≠ some .cell := fun y e => nocell _ (PySem.mem_of_lookup e) rfl
  have okB : (gcx X s H cenv fp A' [(h'.objs.size, gobj)]).Ok := by
    refine ⟨I.ok.mod, by show cenv.scope.kind = _; rw [hsc]; exact ok.kind, by show cenv.globals = _; rw [← hcenv]; exact I.ok.glob, by show cenv.builtins = _; rw [← hcenv]; rfl, by show s.heap.objs.size ≤ cenv.locals; rw [hL]; exact Nat.le_refl _,
      fun y z c e1 e2 => ?_, fun y hy => ?_, fun y c z e => ?_, fun _ => hA, hfr, .inr ⟨rfl, by show cenv.frame = some cenv.locals; rw [← hcenv]; rfl⟩, fun b hb => ⟨?_, fun y c e z => ?_⟩, I.bs, Nat.le_trans I.ok.bsz I.sz, fun b o e hb => ?_, fun b hb z => ?_, I.stack, I.stkFree⟩
    · exact I.ok.inj y z c (mem e1).1 (mem e2).1
    · show ∃ c, cenv.cells.lookup y = some c
      have hy : cenv.scope.names.lookup y = some .cell ∨ cenv.scope.names.lookup y = some .free := hy
      rw [hsc] at hy
      rcases hy with hy | hy
      · exact absurd hy (nocell' y)
      · obtain ⟨c, h1, _⟩ := look hy
        exact ⟨c, h1⟩
    · exact absurd (show false = true from z) Bool.false_ne_true
    · show b ≠ cenv.locals
      rw [hL]; exact Nat.ne_of_lt (hfp b hb).2
    · exact (hfp b hb).1.2.2.2.2.1 y c (mem e).1 z
    · rcases (hfp b hb).1.2.2.2.1 with z | z
      · exact I.ok.noex b o e z
      · exact absurd (Nat.lt_of_lt_of_le (Heap.lt_size e) (Nat.le_trans I.ok.bsz z)) (Nat.lt_irrefl _)
    · rcases List.mem_cons.mp (I.stkSub b z) with z | z
      · exact (hfp b hb).1.2.1 z
      · exact (hfp b hb).1.2.2.1 z
  have freeL : H cenv.locals = none := by rw [hL]; exact I.hok.fresh (Nat.le_refl _)
  refine ⟨okB, rfl, hG, Un.kept kp, ⟨fun y => if y = (".0" : Str) then some it else none, ?_, fun i y av e1 e2 e3 => ?_⟩, fun y c e => ?_, freeL, fun y c e => I.freeC y c (mem e).1, fun p hp => ?_, I.hok.kept kp, by rw [wipe_length]; exact I.len⟩
  · show Heap.Ns _ cenv.locals _
    rw [hL]
    exact hns.push _
  · obtain ⟨e2, hne⟩ := wipe_some e2
    have e3 : Vis cenv.scope y := e3
    rw [hsc] at e3
    have e1' : X.N[i]? = some y := e1
    have hfr : scope.names.lookup y = some .free := by
      have no : ∀ k', scope.names.lookup y = some k' → k' ≠ .local := fun k' e hh => by
        subst hh
        rcases ok.own _ (PySem.mem_of_lookup e) (.inl rfl) with e' | e'
        · obtain ⟨p, hp, hpy⟩ := List.mem_map.mp e'
          have e3 := ok.ix p hp
          have : p.1 = y := hpy
          rw [this] at e3
          exact hne (List.mem_map.mpr ⟨p, hp, nodup_ix hN e3 e1'⟩)
        · exact e' (List.mem_of_getElem? e1')
      rcases e3 with e3 | e3 | e3
      · exact absurd rfl (no _ e3)
      · exact absurd e3 (nocell' y)
      · exact e3
    obtain ⟨m, hn, hl⟩ := I.loc
    have hvis : Vis X.env.scope y := (ok.free _ (PySem.mem_of_lookup hfr) rfl).elim (fun k => .inr (.inl k)) (fun k => .inr (.inr k))
    obtain ⟨w, r, q⟩ := hl i y av e1 e2 hvis
    refine ⟨w, r, .inr ⟨.inr (by show cenv.scope.names.lookup y = _; rw [hsc]; exact hfr), ?_⟩⟩
    obtain ⟨c, h1, h2⟩ := look hfr
    rcases q with ⟨k, _⟩ | ⟨_, c', e', z⟩
    · have k : X.env.scope.names.lookup y = some .local := k
      rcases ok.free _ (PySem.mem_of_lookup hfr) rfl with k' | k' <;> rw [show X.env.scope.names.lookup y = _ from k'] at k <;> cases k
    · rw [h2] at e'; cases e'
      exact ⟨c, h1, z.keeps kp⟩
  · obtain ⟨w, z⟩ := I.cell y c (mem e).1
    exact ⟨w, z.keeps kp⟩
  · have hp : p = (h'.objs.size, gobj) := by simpa using hp
    subst hp
    refine ⟨Heap.get?_push_size _ hgf, I.hok.fresh (by rw [sz']; exact Nat.le_succ _), ?_, fun z => ?_, hgd⟩
    · show h'.objs.size ≠ cenv.locals
      rw [hL, sz']; exact Nat.succ_ne_self _
    · have z : h'.objs.size ∈ frs X.stack := z
      have hlt : ∀ b ∈ frs X.stack, b < s.heap.objs.size := fun b hb => by
        obtain ⟨_, o, ho, _⟩ := I.stack.mem hb
        exact Heap.lt_size ho
      have := hlt _ z
      rw [sz'] at this
      exact absurd (Nat.lt_of_succ_lt this) (Nat.lt_irrefl _)
end

theorem all_loop {prog : Program} {w : World} {A : Around} {R : Result → Shared → Prop} {a : Addr} {n : Nat} (P : Nat → Shared → Prop)
    (hi : ∀ i s, P i s → wpAny (model prog w) A.in1 (pyNext (.ref a)) (fun r s' => (i = n ∧ r = none ∧ R (.ok (.ret (.bool true))) s') ∨ (∃ b, r = some (.bool b) ∧ if b = true then i < n ∧ P (i + 1) s' else R (.ok (.ret (.bool false))) s')) (fun _ _ => False) s) :
    ∀ (k i : Nat) (s : Shared), n - i = k → P i s → codeAny (model prog w) A (.builtin "all.loop" ⟨[.ref a], []⟩) R s := by
  intro k
  induction k with
  | zero =>
    intro i s hk hp
    refine codeAny_builtin F.entry_all_loop ?_
    rw [Around.under_plainId F.plain_all_loop _]
    show wpAny _ A.in1 (pyNext (.ref a) >>= _) _ _ s
    refine wpAny_bind (wpAny_mono (hi i s hp) (fun r s' h => ?_) fun _ _ z => z.elim)
    rcases h with ⟨_, rfl, hR⟩ | ⟨b, rfl, hb⟩
    · exact wpAny_bind (wpAny_rule (wpAny_pure hR))
    · refine wpAny_bind (wpAny_holding (wpAny_truthy_bool ?_))
      refine wpAny_bind (wpAny_letGo ?_)
      cases b with
      | true =>
        have := hb.1
        omega
      | false =>
        simp only [Bool.false_eq_true, if_false] at hb ⊢
        exact wpAny_bind (wpAny_rule (wpAny_pure hb))
  | succ k ih =>
    intro i s hk hp
    refine codeAny_builtin F.entry_all_loop ?_
    rw [Around.under_plainId F.plain_all_loop _]
    show wpAny _ A.in1 (pyNext (.ref a) >>= _) _ _ s
    refine wpAny_bind (wpAny_mono (hi i s hp) (fun r s' h => ?_) fun _ _ z => z.elim)
    rcases h with ⟨_, rfl, hR⟩ | ⟨b, rfl, hb⟩
    · exact wpAny_bind (wpAny_rule (wpAny_pure hR))
    · refine wpAny_bind (wpAny_holding (wpAny_truthy_bool ?_))
      refine wpAny_bind (wpAny_letGo ?_)
      cases b with
      | true =>
        simp only [if_true] at hb ⊢
        exact wpAny_pure ⟨plainId_quiet F.plain_all_loop _, ih (i + 1) _ (by have := hb.1; omega) hb.2⟩
      | false =>
        simp only [Bool.false_eq_true, if_false] at hb ⊢
        exact wpAny_bind (wpAny_rule (wpAny_pure hb))
/-- what is wanted at an item, at the end -/
def TurnsAll (J : It) (g : TG) (te : TE) (σ : L2.St) (vs : List Nat) (n : Nat) (W : Nat → Hp → Prop) (Q : VK) : Prop :=
  ∀ i H, W i H → (i = n ∧ J.stop i H ∧ Q (.bl true) H) ∨ (i < n ∧ J.go i H ∧ ∀ x H', J.yld i H x H' → g x (wipe σ vs) H' fun σ2 H3 => wipe σ2 vs = wipe σ vs ∧ te σ2 H3 fun y H4 => ∃ b, y = .bl b ∧ if b = true then W (i + 1) H4 else Q (.bl false) H4)
def YAll (X' : Cx) (gi : Nat) (Q : VK) : Protocol := fun _ _ v s kap =>
  ∃ b, v = .bool b ∧ gi < s.gens.size ∧ (∃ pins' σ' H', Inv X' pins' σ' H' s ∧ (b = false → Q (.bl false) H')) ∧ (b = true → ∀ G', AllBare G' → gi < G'.size → kap (.send .none) { s with gens := G' })
def RAll (X' : Cx) (gi : Nat) (Q : VK) : Nat → Shared → Shared → Prop := fun m _ s₁ => m = 0 ∧ gi < s₁.gens.size ∧ ∃ pins' σ' H', Inv X' pins' σ' H' s₁ ∧ Q (.bl true) H'
theorem seg_gsz {α : Type} {M : Model} {A : Around} {R : GenEnd} {Y : Protocol} {n gi : Nat} {s₀ : Shared} {c : Code} {fs : List Frame} {s : Shared} {β : Type} {m : Sem α} {K : α → Sem β} {K' : β → Sem PySem.Fin} {H' : Value → Sem PySem.Fin} {gd lv} (hg : gi < s.gens.size)
    (h : wpAny M (A.over c fs) m (fun a s' => gi < s'.gens.size → Seg M A R Y n s₀ c ((K a).wrap K' H' gd lv) fs s') (fun _ _ => False) s) : Seg M A R Y n s₀ c ((m >>= K).wrap K' H' gd lv) fs s :=
  seg_bind_wrap (wpAny_gsz (n := gi + 1) hg (wpAny_mono h (fun _ _ z hg => z hg) fun _ _ z => z.elim))
section
variable {X : Cx} {s1 : Shared} {H1 : Hp} {genv : Env} {fp : List Addr} {A₁ : Around} {pn : List (Addr × Obj)} {elt tg iter : Expr} {scope : Scope} {pos : Pos} {it : Addr}
theorem seg_all {J : It} {g : TG} {te : TE} {σ : L2.St} {vs : List Nat} {n gi : Nat} {W : Nat → Hp → Prop} {Q : VK} {tn : Nat → Heap → Prop} {X' : Cx}
    (hX : X' = gcx X s1 H1 genv fp (A₁.over (.compLoop (.GeneratorExp elt [⟨tg, iter, [], 0⟩] scope pos) 0 (.ref it) .none genv) []) pn) (hc : X.calm = true) (T : Turn X.prog X.w X.K tg J fp it tn) (pg : PG X' tg g) (pe : PE X' elt te) (hco : genv.scope.isCoroutine = false)
    (turn : TurnsAll J g te σ vs n W Q) (hpf : ∀ b ∈ fp, ∀ p ∈ pn, p.1 ≠ b) :
    ∀ (k i : Nat) (s₀ s : Shared) (H : Hp), n - i = k → Inv X' [] (wipe σ vs) H s → tn i s.heap → (∀ b ∈ fp, H b = none) → W i H → gi < s.gens.size →
      Seg (model X.prog X.w) A₁ (fun m s₀ r s₁ => r = .ok .next ∧ RAll X' gi Q m s₀ s₁) (YAll X' gi Q) k s₀ (.compLoop (.GeneratorExp elt [⟨tg, iter, [], 0⟩] scope pos) 0 (.ref it) .none genv)
        ((model X.prog X.w).den (.compLoop (.GeneratorExp elt [⟨tg, iter, [], 0⟩] scope pos) 0 (.ref it) .none genv)) [] s := by
  have hA : X'.A = A₁.over (.compLoop (.GeneratorExp elt [⟨tg, iter, [], 0⟩] scope pos) 0 (.ref it) .none genv) [] := by rw [hX]
  have hP : X'.prog = X.prog := by rw [hX]
  have hw : X'.w = X.w := by rw [hX]
  have hK : X'.K = X.K := by rw [hX]
  have hcal : X'.calm = true := by rw [hX]; exact hc
  have hex : X'.ex = fp := by rw [hX]
  have hpn : X'.pn = pn := by rw [hX]
  have henv : X'.env = genv := by rw [hX]
  have hxe : X'.xe = fun _ _ => False := by rw [hX]
  have stat : ∀ {pins' : List (Addr × Obj)} {σ' : L2.St} {H' : Hp} {s' : Shared}, Inv X' pins' σ' H' s' → pins' = [] → (∀ b ∈ fp, H' b = none) → ∀ b ∈ fp, FpOk X' [] H' b := fun {pins' σ' H' s'} I' hp' hn b hb => by
    have hb' : b ∈ X'.ex := by rw [hex]; exact hb
    refine ⟨hn b hb, (I'.ok.exf b hb').1, I'.ok.exfs b hb', .inl hb', fun x c e => (I'.ok.exf b hb').2 x c e, fun p hp => ?_⟩
    rw [List.append_nil, hpn] at hp
    exact hpf b hb p hp
  intro k
  induction k with
  | zero =>
    intro i s₀ s H hk I st nf w0 hg
    show Seg _ A₁ _ _ _ s₀ _ ((compTurn (.GeneratorExp elt [⟨tg, iter, [], 0⟩] scope pos) 0 (.ref it) .none genv).onRaise (leaving genv)) [] s
    rw [compTurn_gen, Sem.onRaise_eq_wrap]
    refine seg_gsz hg (wpAny_standAt fun hg => ?_)
    rcases turn i H w0 with ⟨_, stop, q⟩ | ⟨hlt, _⟩
    · have td := T.done X' hP hw hK hcal i [] s _ H (fun _ _ => False) I (stat I rfl nf) st stop
      rw [hA] at td
      refine seg_gsz hg (wpAny_mono td (fun r s' ⟨hr, I'⟩ hg => ?_) fun _ _ z => z)
      subst hr
      exact seg_end (.ok .next) ⟨rfl, rfl, hg, _, _, _, I', q⟩
    · omega
  | succ k ih =>
    intro i s₀ s H hk I st nf w0 hg
    show Seg _ A₁ _ _ _ s₀ _ ((compTurn (.GeneratorExp elt [⟨tg, iter, [], 0⟩] scope pos) 0 (.ref it) .none genv).onRaise (leaving genv)) [] s
    rw [compTurn_gen, Sem.onRaise_eq_wrap]
    refine seg_gsz hg (wpAny_standAt fun hg => ?_)
    rcases turn i H w0 with ⟨e, _⟩ | ⟨hlt, go, step⟩
    · omega
    have ti := T.item X' hP hw hK hcal i [] s _ H (fun _ _ => False) I (stat I rfl nf) st go
    rw [hA] at ti
    refine seg_gsz hg (wpAny_mono ti (fun r s2 ⟨u, hr, h2⟩ hg => ?_) fun _ _ z => z)
    subst hr
    refine seg_gsz hg (wpAny_mono h2 (fun _ s3 ⟨x, H3, I3, r3, y3, st3, n3⟩ hg => ?_) fun _ _ z => z)
    have I3' := I3.pinned (stat I3 rfl n3) (T.obj _ _ st3)
    have pg' := pg.run _ s3 _ H3 x u _ I3' r3 (step x H3 y3)
    rw [hA, hP, hw, henv, hxe] at pg'
    refine seg_gsz hg (wpAny_mono pg' (fun _ s4 ⟨σ4, H4, I4, hw4, q4⟩ hg => ?_) fun _ _ z => z)
    refine seg_gsz hg ?_
    simp only [List.forIn_nil]
    refine wpAny_pure fun hg => ?_
    simp only [if_true]
    have hy : ∀ v, yieldOut genv v = yieldValue v := fun v => by simp only [yieldOut, hco, Bool.false_eq_true, if_false]
    simp only [hy]
    rw [Sem.bind_eq_wrap', Sem.bind_eq_wrap', Sem.wrap_wrap, Sem.wrap_wrap]
    have pe' := pe.run _ s4 σ4 H4 _ I4 q4
    rw [hA, hP, hw, henv, hxe] at pe'
    refine seg_wrap (wpAny_gsz (n := gi + 1) hg (wpAny_mono pe' (fun y s5 ⟨v5, H5, I5, r5, b, e5, q5⟩ hg => ?_) fun _ _ z => z.elim))
    subst e5
    obtain rfl : y = .bool b := r5
    refine seg_at (seg_yield rfl rfl rfl ⟨b, rfl, hg, ⟨_, _, _, I5, fun z => by subst z; exact q5⟩, fun z G' hG hg' => ?_⟩)
    subst z
    have q5' : W (i + 1) H5 := q5
    have pin' : ∀ b ∈ fp, ∀ o, s3.heap.get? b = some o → s5.heap.get? b = some o ∧ H5 b = none := fun b hb o e =>
      let z := I5.pin (b, o) (List.mem_append_right _ (List.mem_append_right _ (mem_pinsAt hb e)))
      ⟨z.1, z.2.1⟩
    have hl : (wipe σ vs).length = σ4.length := by rw [← hw4, wipe_length]
    have I6 : Inv X' [] (wipe σ vs) H5 s5 := (I5.unpinned (pins := [])).weak hl (fun j v e => by
      rw [← hw4] at e
      exact (wipe_some e).1)
    exact seg_again rfl (ih (i + 1) _ _ H5 (by omega) (inv_gens (t := s5.toks) I6 (fun _ _ e => e) hG) (T.keep _ _ _ st3 fun b hb o e => (pin' b hb o e).1) (fun b hb => by
      obtain ⟨o, e, _⟩ := T.obj _ _ st3 b hb
      exact (pin' b hb o e).2) q5' hg')
end

section
variable {X : Cx} {A₁ : Around} {genv : Env} {elt tg iter : Expr} {ifs : List Expr} {scope : Scope} {pos : Pos} {it : Addr}
/-- the generator's around -/
abbrev gA (A : Around) (elt tg iter : Expr) (scope : Scope) (pos : Pos) (it : Addr) (genv : Env) : Around := A.in1.in1.over (.compLoop (.GeneratorExp elt [⟨tg, iter, [], 0⟩] scope pos) 0 (.ref it) .none genv) []
theorem gA_handled {A : Around} (h : A.handled = none) : (gA A elt tg iter scope pos it genv).handled = none := h
theorem gA_frames {A : Around} {st : List Env} (h : A.frames = some st) : (gA A elt tg iter scope pos it genv).frames = some (genv :: st) := by
  show pushEnvs [genv] (pushEnvs [] A.frames) = _
  rw [h]; rfl
theorem gA_room {A : Around} {k : Nat} (r : Room (k + 1) A) : Room k (gA A elt tg iter scope pos it genv) :=
  ⟨r.hd, by have := r.dp; show A.depth + 0 + 1 + 3 * k + 5 < _; omega, by have := r.un; show A.units + 1 + 1 + 0 + 3 + 16 * k + 200 < _; omega⟩
def tAllG (P : Addr) (wi : TI) (g : TG) (te : TE) (vs : List Nat) : TE := fun σ H Q => wi σ H fun J H1 => TabG H1 P ∧ ∀ H2, Tabbed P H1 H2 → ∃ (n : Nat) (W : Nat → Hp → Prop), W 0 H2 ∧ TurnsAll J g te σ vs n W Q
theorem pe_allG {c P : Addr} {own : List (Str × Nat)} {p cpos : Pos} {wi : TI} {g : TG} {te : TE} {k : Nat}
    (hr : Room (k + 1) X.A) (hc : X.calm = true) (hgl : Gl X "all") (hm : X.mg "all" = none) (hbo : bootBuiltins "all" = some (.builtin "all")) (TB : TabB X.base X.mg c P) (hcode : X.env.code = .ref c) (hN : X.N.Nodup)
    (hi : PI X tg iter wi) (ok : BlkOk X.N X.env.scope scope own) (hco : scope.isCoroutine = false) (nocell : ∀ y ∈ scope.names, y.2 ≠ .cell) (h0 : scope.names.lookup (".0" : Str) = some NameKind.local) (hdot : ∀ (i : Nat), X.N[i]? ≠ some (".0" : Str))
    (hg : ∀ (s : Shared) (H : Hp) (C : Addr) (cl : List (Str × Addr)) (code : Value) (bi : Addr) (fp : List Addr) (A' : Around) (pn : List (Addr × Obj)), PG (gcx X s H (genEnv scope cl C code bi X.env) fp A' pn) tg g)
    (he : ∀ (s : Shared) (H : Hp) (C : Addr) (cl : List (Str × Addr)) (code : Value) (bi : Addr) (fp : List Addr) (A' : Around) (pn : List (Addr × Obj)), Room k A' → PE (gcx X s H (genEnv scope cl C code bi X.env) fp A' pn) elt te)
    (hs : ∀ v, genFold iter X.env v = pure v := by intro _; rfl)
    (hes : starEach [.GeneratorExp elt [⟨tg, iter, [], 0⟩] scope pos] X.env = (false, eval (.GeneratorExp elt [⟨tg, iter, [], 0⟩] scope pos) X.env) :: starEach [] X.env := by rfl) :
    PE X (.Call (.Name "all" p) [.GeneratorExp elt [⟨tg, iter, [], 0⟩] scope pos] [] cpos) (tAllG P wi g te (own.map (·.2))) := by
  refine ⟨fun pins s σ H Q I h => ?_⟩
  have hfree : ∀ y ∈ scope.names, y.2 = .free → ∃ c, X.env.cells.lookup y.1 = some c := fun y hy e => by
    rcases ok.free y hy e with k | k
    · exact I.ok.has _ (.inl k)
    · exact I.ok.has _ (.inr k)
  refine wpAny_Call_Name_kw (ld_blt I hgl hm hbo ?_)
  refine PyProof.Rows.callWith_builtin1 ?_ hes (by rfl)
  rw [hes]
  show wpAny _ _ (spliced ((false, eval (.GeneratorExp elt [⟨tg, iter, [], 0⟩] scope pos) X.env) :: backTo cpos (starEach [] X.env))) _ _ s
  refine Calls.spliced_cons (wpAny_GeneratorExp_make hco (closure_ok hfree) nocell h0 ok.kind (by have := hr.dp; omega) ?_ hs)
  refine thn (hi.run pins s σ H _ I h) fun xv s1 h1 => thn h1 fun itv s2 h2 => ?_
  obtain ⟨it, fp, tn, J, H2, e, I2, T, st2, f2, ⟨ps, hP, ht⟩, q⟩ := h2
  subst e
  refine ⟨I2.nolimit, ?_⟩
  have hPs : s2.heap.get? P = some { cls := .none, data := .fields ps } := I2.hok P _ hP
  have cd : PySem.W.CodeHd s2.heap c P := TB.code.keeps fun b u e => I2.bk b u e
  have cont : ∀ (code : Value) (h3 : Heap) (tk : Nat) (ps' : Array Value), Heap.ExtBut P s2.heap h3 → s2.heap.objs.size ≤ h3.objs.size → h3.get? P = some { cls := .none, data := .fields ps' } → (∃ more, ps' = ps ++ more) → TriplesOk ps'.toList →
      wpAny (model X.prog X.w) X.A (builtinsFor X.env.globals X.env.builtins) (fun bi s₄ =>
        ∀ h', h'.Ns s₄.heap.objs.size (fun y => if y = ".0" then some (.ref it) else none) → Heap.SameBut s₄.heap.objs.size (s₄.heap.push { cls := .type "frame", data := .dict #[] }) h' →
          wpAny (model X.prog X.w) X.A (call (.builtin "all") [.ref h'.objs.size]) (EP X pins σ Q) X.xe { s₄ with
            gens := s₄.gens.push (.fresh (.compStart (.GeneratorExp elt [⟨tg, iter, [], 0⟩] scope pos) 0 (.ref it) .none (genEnv scope (cloFrom X.env.cells scope.names []) s₄.heap.objs.size code bi X.env))),
            toks := s₄.toks + 1 + 1 + 1,
            heap := h'.push { cls := .type "generator", data := .fields #[.int s₄.gens.size 0, .str "<genexpr>" (s₄.toks + 1), .str (X.env.qual ++ "<genexpr>") (s₄.toks + 1 + 1)] } }) X.xe { s2 with heap := h3, toks := tk } := by
    intro code h3 tk ps' hx hsz hP3 hmore ht3
    obtain ⟨bm, ob, e1, e2, e3, e4, e5, e6, e7, e8⟩ := TB.bm
    obtain ⟨more, em⟩ := hmore
    have keep3 : ∀ b u, b ≠ P → s2.heap.get? b = some u → h3.get? b = some u := fun b u hb e => hx b u hb e
    have nP : ∀ b, H2 b = none → b ≠ P := fun b e z => by rw [z, hP] at e; cases e
    have I3 : Inv X pins σ (upd H2 P (.tbl ps')) { s2 with heap := h3, toks := tk } := by
      have J := inv_tab (more := more) (h' := h3) (g' := s2.gens) (d' := s2.drawn) (t' := tk) I2 hP keep3 (by rw [← em]; exact hP3) I2.bare
      rw [← em] at J
      exact J
    have hTab : Tabbed P H2 (upd H2 P (.tbl ps')) := ⟨⟨ps', upd_same, ht3⟩, fun b hb => upd_ne hb⟩
    obtain ⟨n, W, w0, turn⟩ := q _ hTab
    generalize hH3 : upd H2 P (.tbl ps') = H3 at I3 hTab w0
    refine wpAny_builtinsFor (m := X.mg) (by rw [I3.ok.glob]; exact I3.ok.mod.glob.keeps I3.bk) e1 e2 (I3.bk _ _ e5) e6 e7 e8 ?_
    generalize hs3 : ({ s2 with heap := h3, toks := tk } : Shared) = s3 at I3 ⊢
    have h3e : s3.heap = h3 := by rw [← hs3]
    intro h' hns hsb
    have sz' : h'.objs.size = s3.heap.objs.size + 1 := by rw [hsb.1, Heap.size_push]
    have kp' : ∀ b o, s3.heap.get? b = some o → h'.get? b = some o := fun b o e => hsb.extBut b o (Nat.ne_of_lt (Heap.lt_size e)) (Heap.get?_push_of_some _ e)
    generalize hgo : ({ cls := .type "generator", data := .fields #[.int s3.gens.size 0, .str "<genexpr>" (s3.toks + 1), .str (X.env.qual ++ "<genexpr>") (s3.toks + 1 + 1)] } : Obj) = gobj
    have hgd : ∀ v, gobj.data ≠ .cell v := fun v z => by rw [← hgo] at z; cases z
    have hgf : gobj.isFreed = false := by rw [← hgo]; rfl
    generalize hge : genEnv scope (cloFrom X.env.cells scope.names []) s3.heap.objs.size code builtinsNs X.env = genv
    have f3 : ∀ b ∈ fp, FpOk X pins H3 b ∧ b < s3.heap.objs.size := fun b hb => by
      obtain ⟨o, e, _⟩ := T.obj _ _ st2 b hb
      have hbP := nP b (f2 b hb).1
      refine ⟨⟨?_, (f2 b hb).2⟩, ?_⟩
      · rw [hTab.2 b hbP]; exact (f2 b hb).1
      · rw [h3e]; exact Heap.lt_size (keep3 b o hbP e)
    have st3 : tn 0 s3.heap := T.keep _ _ _ st2 fun b hb o e => by rw [h3e]; exact keep3 b o (nP b (f2 b hb).1) e
    have hA' : (gA X.A elt tg iter scope pos it genv).handled = none := hr.hd
    have hF' : (gA X.A elt tg iter scope pos it genv).frames = some (genv :: X.stack) := gA_frames I3.ok.frames
    have start : ∀ (G : Array GenState) (t : Nat), AllBare G → Inv (gcx X s3 H3 genv fp (gA X.A elt tg iter scope pos it genv) [(h'.objs.size, gobj)]) [] (wipe σ (own.map (·.2))) H3 { s3 with heap := h'.push gobj, gens := G, toks := t } := fun G t hG => by
      subst hge
      exact gen_start I3 ok hN nocell f3 hA' hF' hns hsb hgd hgf hG hdot
    generalize hX' : gcx X s3 H3 genv fp (gA X.A elt tg iter scope pos it genv) [(h'.objs.size, gobj)] = X' at start
    have pg : PG X' tg g := by rw [← hX', ← hge]; exact hg _ _ _ _ _ _ _ _ _
    have pe : PE X' elt te := by rw [← hX', ← hge]; exact he _ _ _ _ _ _ _ _ _ (gA_room hr)
    have hco' : genv.scope.isCoroutine = false := by rw [← hge]; exact hco
    have hgen : ∀ {pins' : List (Addr × Obj)} {σ' : L2.St} {H' : Hp} {s' : Shared}, Inv X' pins' σ' H' s' → s'.heap.IsGen h'.objs.size s3.gens.size := fun {pins' σ' H' s'} I' => by
      have z := (I'.pin (h'.objs.size, gobj) (List.mem_append_left _ (by rw [← hX']; exact List.mem_singleton.mpr rfl))).1
      rw [← hgo] at z
      exact ⟨_, _, _, z, rfl, rfl, rfl⟩
    have back : ∀ {pins' : List (Addr × Obj)} {σ' : L2.St} {H' : Hp} {s' : Shared}, Inv X' pins' σ' H' s' → Inv X pins σ H' s' := fun {pins' σ' H' s'} I' => by
      rw [← hX'] at I'
      exact I3.call' (ch := fp) I'.os I'.base I'.hok I'.bare fun b hb => ⟨(f3 b hb).1.2.2.2.1, (f3 b hb).1.2.1, (f3 b hb).1.2.2.2.2.1, (f3 b hb).1.2.2.2.2.2⟩
    have loop := seg_all (X := X) (s1 := s3) (H1 := H3) (genv := genv) (fp := fp) (A₁ := X.A.in1.in1) (pn := [(h'.objs.size, gobj)]) (elt := elt) (tg := tg) (iter := iter) (scope := scope) (pos := pos) (it := it) (J := J) (g := g) (te := te) (σ := σ) (vs := own.map (·.2)) (n := n) (gi := s3.gens.size) (W := W) (Q := Q) (tn := tn) (X' := X')
      hX'.symm hc T pg pe hco' turn (fun b hb p hp => by
        have e : p = (h'.objs.size, gobj) := by simpa using hp
        subst e
        have := (f3 b hb).2
        show h'.objs.size ≠ b
        rw [sz']
        exact fun z => absurd (Nat.lt_of_lt_of_eq (Nat.lt_succ_of_lt this) z) (Nat.lt_irrefl _))
    refine call_function_tree F.kind_all F.plain_all F.entry_all (F.args_all1 _) ?_
    unfold Builtin.«all»
    refine wpAny_bind (m := oneArg "all" _) (wpAny_pure ?_)
    have bareP : ∀ x : GenState, x.bare = true → AllBare (s3.gens.push x) := fun x hx => I3.bare.push hx
    have I5 := start (s3.gens.push (.fresh (.compStart (.GeneratorExp elt [⟨tg, iter, [], 0⟩] scope pos) 0 (.ref it) .none genv))) (s3.toks + 1 + 1 + 1) (bareP _ rfl)
    refine wpAny_bind (wpAny_pyIter_gen (hgen I5) ?_)
    refine wpAny_pure ⟨plainId_quiet F.plain_all_loop _, ?_⟩
    refine all_loop (n := n) (fun i s' => i ≤ n ∧ s'.heap.IsGen h'.objs.size s3.gens.size ∧ s'.heap.NoLimit ∧ ∃ gs, s'.gens[s3.gens.size]? = some gs ∧
      gs.Goes (model X.prog X.w) X.A.in1.in1 (fun m s₀ r s₁ => r = .ok .next ∧ RAll X' s3.gens.size Q m s₀ s₁) (YAll X' s3.gens.size Q) (n - i) (.send .none) (s'.setGen s3.gens.size .running)) ?_ (n - 0) 0 _ rfl ?_
    · rintro i s' ⟨hin, ig, nl, gs, hgs, hgo⟩
      refine wpAny_pyNext_genexpQ hr.hd nl (by have := hr.dp; show X.A.depth < _; omega) ig hgs hgo (fun v s₁ gs' hb hv => ?_) (fun s₁ hp h'' hk => ?_)
      · obtain ⟨b, rfl, hgz, ⟨pins', σ', H', I', hf⟩, ht⟩ := hv
        refine .inr ⟨b, rfl, ?_⟩
        cases b with
        | true =>
          simp only [if_true]
          cases hn : n - i with
          | zero =>
            rw [hn] at ht
            exact (ht rfl s₁.gens I'.bare hgz).elim
          | succ m =>
            rw [hn] at ht
            refine ⟨by omega, by omega, (show s₁.heap.IsGen _ _ from hgen I'), (show s₁.heap.NoLimit from I'.nolimit), gs', setGen_at hgz, ?_⟩
            rw [show n - (i + 1) = m by omega]
            exact ht rfl _ (allBare_setGen (s := s₁.setGen s3.gens.size gs') (allBare_setGen I'.bare hb) rfl) (by show _ < ((s₁.gens.setIfInBounds _ _).setIfInBounds _ _).size; simpa using hgz)
        | false =>
          simp only [Bool.false_eq_true, if_false]
          exact ⟨.bl false, H', inv_gens (t := s₁.toks) (back I') (fun _ _ e => e) (allBare_setGen I'.bare hb), rfl, hf rfl⟩
      · obtain ⟨hz, hgz, pins', σ', H', I', hq⟩ := hp
        exact .inl ⟨by omega, rfl, .bl true, H', inv_gens (s := s₁) (t := s₁.toks) (back I') hk (allBare_setGen I'.bare rfl), rfl, hq⟩
    · refine ⟨Nat.zero_le _, hgen I5, I5.nolimit, _, Array.getElem?_push_size .., ?_⟩
      have I6 := start ((s3.gens.push (.fresh (.compStart (.GeneratorExp elt [⟨tg, iter, [], 0⟩] scope pos) 0 (.ref it) .none genv))).setIfInBounds s3.gens.size .running) (s3.toks + 1 + 1 + 1) (allBare_setGen (s := { s3 with gens := s3.gens.push (.fresh (.compStart (.GeneratorExp elt [⟨tg, iter, [], 0⟩] scope pos) 0 (.ref it) .none genv)) }) (bareP _ rfl) rfl)
      refine ⟨rfl, ?_⟩
      have hloop := fun s₀ => loop n 0 s₀ _ H3 (Nat.sub_zero n) I6 (T.keep _ _ _ st3 fun b hb o e => Heap.get?_push_of_some _ (kp' b o e)) (fun b hb => (f3 b hb).1.1) w0 (by show s3.gens.size < ((s3.gens.push _).setIfInBounds _ _).size; simp)
      show Seg _ X.A.in1.in1 _ _ _ _ _ ((compStart (.GeneratorExp elt [⟨tg, iter, [], 0⟩] scope pos) 0 (.ref it) .none genv).onRaise (leaving genv)) [] _
      unfold compStart
      rw [Sem.onRaise_eq_wrap]
      show Seg _ X.A.in1.in1 _ _ _ _ _ ((ask >>= _).wrap _ _ _ _) [] _
      refine seg_bind_wrap (wpAny_askSetting ?_)
      split
      · exact seg_again rfl (hloop _)
      · first
          | exact seg_bind_wrap (wpAny_rule (seg_bind_wrap (wpAny_standAt (seg_bind_wrap (T.self _ _ _ _ _ (T.keep _ _ _ st3 fun b hb o e => Heap.get?_push_of_some _ (kp' b o e)) (seg_again rfl (hloop _)))))))
          | (refine seg_bind_wrap (wpAny_rule ?_); show Seg _ X.A.in1.in1 _ _ _ _ _ ((standAt iter.pos >>= _).wrap _ _ _ _) [] _; exact seg_bind_wrap (wpAny_standAt (seg_bind_wrap (T.self _ _ _ _ _ (T.keep _ _ _ st3 fun b hb o e => Heap.get?_push_of_some _ (kp' b o e)) (seg_again rfl (hloop _))))))
  cases hf : codeAmong pos ps.toList with
  | none =>
    refine wpAny_genexprCodeX hcode (cd.code hPs ht) (cd.tab hPs) hf fun c' h' tk hx hge hlt hco' _ htab' _ => ?_
    obtain ⟨o1, vs, f1, tf, fl, tg, inF, tx, tt, op, _, _, _, _, _, _, _, _, _, htr, _⟩ := hco'
    exact wpAny_mono (cont (.ref c') h' tk _ hx (Nat.le_trans hge (Nat.le_of_lt hlt)) htab'.2 ⟨_, rfl⟩ htr) (fun bi s4 hh h' a b => Calls.spliced_nil (hh h' a b)) fun _ _ e => e
  | some cv =>
    refine wpAny_genexprCode_hit hcode (cd.code hPs ht) hf ?_
    exact wpAny_mono (cont cv s2.heap s2.toks ps (Heap.ExtBut.refl _ _) (Nat.le_refl _) hPs ⟨#[], by simp⟩ ht) (fun bi s4 hh h' a b => Calls.spliced_nil (hh h' a b)) fun _ _ e => e
end
end Gx
/-! Programs as functions on data: what stands in the heap, told by data and numbered lists, dicts and instances. -/
namespace Pd
open PySem PySem.Spec PyProof.Rows L2 GxR Gx
/-! ### data and objects -/
/-- a value: data (which never changes), or the object with this number -/
inductive W where
  | d (x : PyData)
  | loc (n : Nat)
inductive Ob where
  | lst (ws : List W)
  | dct (kvs : List (Key × W))
  | ins (C : Addr) (fs : List (Str × W))
abbrev Mem := List Ob
/-- a heap, the numbered objects' addresses, and addresses that others own -/
structure Wd where
  H : Hp
  ι : List Addr
  hid : List Addr
def Mu (tb : List Addr) (A : Wd) (a : Addr) : Prop := a ∈ A.ι ∨ a ∈ tb ∨ a ∈ A.hid
def H0 : Hp := fun _ => none
/-- u stands at a and stays there -/
def Fz (tb : List Addr) (A : Wd) (a : Addr) (u : HO) : Prop := ¬ Mu tb A a ∧ Rd A.H a u
def FzL (K : PySem.W.Frag) (tb : List Addr) (A : Wd) (a : Addr) (xs : List V) : Prop := Fz tb A a (.lst xs) ∨ SqL K H0 a xs
def FzT (K : PySem.W.Frag) (tb : List Addr) (A : Wd) (a : Addr) (xs : List V) : Prop := Fz tb A a (.tup xs) ∨ SqT K H0 a xs
mutual
inductive DR (K : PySem.W.Frag) (tb : List Addr) (A : Wd) : V → PyData → Prop
  | non : DR K tb A .non .none
  | bl (b : Bool) : DR K tb A (.bl b) (.bool b)
  | int (i : Int) : DR K tb A (.int i) (.int i)
  | str (x : Str) : DR K tb A (.str x) (.str x)
  | lst {a : Addr} {xs : List V} {ds : List PyData} : Fz tb A a (.lst xs) → DRs K tb A xs ds → DR K tb A (.ref a) (.list ds)
  /-- the script: a list of the text's own, or one that stays -/
  | scr {a : Addr} {xs : List V} {ds : List PyData} : FzL K tb A a xs → DRs K tb A xs ds → DR K tb A (.ref a) (.dict [(.none, .list ds)])
  | tup {a : Addr} {xs : List V} {ds : List PyData} : FzT K tb A a xs → DRs K tb A xs ds → DR K tb A (.ref a) (.tuple ds)
inductive DRs (K : PySem.W.Frag) (tb : List Addr) (A : Wd) : List V → List PyData → Prop
  | nil : DRs K tb A [] []
  | cons {v : V} {vs : List V} {d : PyData} {ds : List PyData} : DR K tb A v d → DRs K tb A vs ds → DRs K tb A (v :: vs) (d :: ds)
end
def WR (K : PySem.W.Frag) (tb : List Addr) (A : Wd) : V → W → Prop
  | v, .d x => DR K tb A v x
  | v, .loc n => ∃ a, v = .ref a ∧ A.ι[n]? = some a
abbrev WRs (K : PySem.W.Frag) (tb : List Addr) (A : Wd) : List V → List W → Prop := Paired (WR K tb A)
/-- the heap goes on: what is not numbered stays -/
structure Nxt (tb : List Addr) (A B : Wd) : Prop where
  hid : ∀ b ∈ A.hid, b ∈ B.hid
  hid2 : ∀ b ∈ B.hid, b ∈ A.hid ∨ A.H b = none
  more : ∀ b, B.H b = none → A.H b = none
  pre : ∃ more, B.ι = A.ι ++ more
  keep : ∀ b o, b ∉ A.ι → b ∉ tb → A.H b = some o → B.H b = some o ∧ b ∉ B.ι
section
variable {K : PySem.W.Frag} {tb : List Addr} {A B C : Wd}
theorem Nxt.refl : Nxt tb A A := ⟨fun _ z => z, fun _ z => .inl z, fun _ z => z, ⟨[], by simp⟩, fun _ _ n _ e => ⟨e, n⟩⟩
theorem Nxt.trans (x : Nxt tb A B) (y : Nxt tb B C) : Nxt tb A C := by
  obtain ⟨m1, e1⟩ := x.pre
  obtain ⟨m2, e2⟩ := y.pre
  refine ⟨fun b z => y.hid b (x.hid b z), fun b z => (y.hid2 b z).elim (fun z => x.hid2 b z) (fun z => .inr (x.more b z)), fun b z => x.more b (y.more b z), ⟨m1 ++ m2, by rw [e2, e1, List.append_assoc]⟩, fun b o n t e => ?_⟩
  obtain ⟨q, n'⟩ := x.keep b o n t e
  exact y.keep b o n' t q
theorem Nxt.ix (x : Nxt tb A B) {n : Nat} {a : Addr} (h : A.ι[n]? = some a) : B.ι[n]? = some a := by
  obtain ⟨m, e⟩ := x.pre
  rw [e, List.getElem?_append_left (List.getElem?_eq_some_iff.mp h).1]
  exact h
/-- .. but what others own may change -/
structure NxW (tb : List Addr) (A B : Wd) : Prop where
  hid : ∀ b ∈ A.hid, b ∈ B.hid
  hid2 : ∀ b ∈ B.hid, b ∈ A.hid ∨ A.H b = none
  more : ∀ b, B.H b = none → A.H b = none
  pre : ∃ more, B.ι = A.ι ++ more
  keep : ∀ b o, b ∉ A.ι → b ∉ tb → b ∉ A.hid → A.H b = some o → B.H b = some o ∧ b ∉ B.ι
theorem Nxt.w (x : Nxt tb A B) : NxW tb A B := ⟨x.hid, x.hid2, x.more, x.pre, fun b o n t _ e => x.keep b o n t e⟩
theorem NxW.trans (x : NxW tb A B) (y : NxW tb B C) : NxW tb A C := by
  obtain ⟨m1, e1⟩ := x.pre
  obtain ⟨m2, e2⟩ := y.pre
  refine ⟨fun b z => y.hid b (x.hid b z), fun b z => (y.hid2 b z).elim (fun z => x.hid2 b z) (fun z => .inr (x.more b z)), fun b z => x.more b (y.more b z), ⟨m1 ++ m2, by rw [e2, e1, List.append_assoc]⟩, fun b o n t h e => ?_⟩
  obtain ⟨q, n'⟩ := x.keep b o n t h e
  exact y.keep b o n' t (fun z => (x.hid2 b z).elim h fun z => by rw [z] at e; cases e) q
theorem NxW.ix (x : NxW tb A B) {n : Nat} {a : Addr} (h : A.ι[n]? = some a) : B.ι[n]? = some a := by
  obtain ⟨m, e⟩ := x.pre
  rw [e, List.getElem?_append_left (List.getElem?_eq_some_iff.mp h).1]
  exact h
theorem Fz.nxw (x : NxW tb A B) {a : Addr} {u : HO} (h : Fz tb A a u) : Fz tb B a u := by
  obtain ⟨n, r⟩ := h
  have n1 : a ∉ A.ι := fun z => n (.inl z)
  have n2 : a ∉ tb := fun z => n (.inr (.inl z))
  have n3 : a ∉ A.hid := fun z => n (.inr (.inr z))
  rcases r with r | ⟨o, r⟩
  · obtain ⟨q, n'⟩ := x.keep a _ n1 n2 n3 r
    exact ⟨fun z => z.elim n' fun z => z.elim n2 fun z => (x.hid2 a z).elim n3 (fun z => by rw [z] at r; cases r), .inl q⟩
  · obtain ⟨q, n'⟩ := x.keep a _ n1 n2 n3 r
    exact ⟨fun z => z.elim n' fun z => z.elim n2 fun z => (x.hid2 a z).elim n3 (fun z => by rw [z] at r; cases r), .inr ⟨o, q⟩⟩
theorem Fz.nxt (x : Nxt tb A B) {a : Addr} {u : HO} (h : Fz tb A a u) : Fz tb B a u := h.nxw x.w
theorem FzL.nxw (x : NxW tb A B) {a : Addr} {xs : List V} (h : FzL K tb A a xs) : FzL K tb B a xs := h.imp (fun z => z.nxw x) id
theorem FzL.nxt (x : Nxt tb A B) {a : Addr} {xs : List V} (h : FzL K tb A a xs) : FzL K tb B a xs := h.nxw x.w
theorem FzT.nxw (x : NxW tb A B) {a : Addr} {xs : List V} (h : FzT K tb A a xs) : FzT K tb B a xs := h.imp (fun z => z.nxw x) id
theorem FzT.nxt (x : Nxt tb A B) {a : Addr} {xs : List V} (h : FzT K tb A a xs) : FzT K tb B a xs := h.nxw x.w
theorem sqL_h0 {H : Hp} {a : Addr} {xs : List V} (h : SqL K H0 a xs) : SqL K H a xs := by
  rcases h with (h | ⟨o, h⟩) | h
  · cases h
  · cases h
  · exact .inr h
theorem sqT_h0 {H : Hp} {a : Addr} {xs : List V} (h : SqT K H0 a xs) : SqT K H a xs := by
  rcases h with (h | ⟨o, h⟩) | h
  · cases h
  · cases h
  · exact .inr h
theorem Fz.sq {a : Addr} {xs : List V} (h : Fz tb A a (.lst xs)) : SqL K A.H a xs := .inl h.2
theorem FzL.sq {a : Addr} {xs : List V} (h : FzL K tb A a xs) : SqL K A.H a xs := h.elim (fun z => .inl z.2) sqL_h0
theorem FzT.sq {a : Addr} {xs : List V} (h : FzT K tb A a xs) : SqT K A.H a xs := h.elim (fun z => .inl z.2) sqT_h0
mutual
theorem DR.nxw (x : NxW tb A B) : ∀ {v : V} (d : PyData), DR K tb A v d → DR K tb B v d
  | _, .none, h => by cases h; exact .non
  | _, .bool b, h => by cases h; exact .bl b
  | _, .int i, h => by cases h; exact .int i
  | _, .str y, h => by cases h; exact .str y
  | _, .list ds, h => by cases h with | lst f r => exact .lst (f.nxw x) (DRs.nxw x ds r)
  | _, .tuple ds, h => by cases h with | tup f r => exact .tup (f.nxw x) (DRs.nxw x ds r)
  | _, .dict [(.none, .list ds)], h => by cases h with | scr f r => exact .scr (f.nxw x) (DRs.nxw x ds r)
theorem DRs.nxw (x : NxW tb A B) : ∀ {vs : List V} (ds : List PyData), DRs K tb A vs ds → DRs K tb B vs ds
  | _, [], h => by cases h; exact .nil
  | _, d :: ds, h => by cases h with | cons a b => exact .cons (DR.nxw x d a) (DRs.nxw x ds b)
end
theorem DR.nxt (x : Nxt tb A B) {v : V} (d : PyData) (h : DR K tb A v d) : DR K tb B v d := DR.nxw x.w d h
theorem DRs.nxt (x : Nxt tb A B) {vs : List V} (ds : List PyData) (h : DRs K tb A vs ds) : DRs K tb B vs ds := DRs.nxw x.w ds h
mutual
theorem DR.dp : ∀ {v : V} (d : PyData), DR K tb A v d → d.canLay0 = true → Dp K A.H v d
  | _, .none, h, _ => by cases h; exact .non
  | _, .bool b, h, _ => by cases h; exact .bl b
  | _, .int i, h, _ => by cases h; exact .int i
  | _, .str y, h, _ => by cases h; exact .str y
  | _, .list ds, h, c => by cases h with | lst f r => exact .lst f.sq (DRs.dp ds r c)
  | _, .tuple ds, h, c => by cases h with | tup f r => exact .tup f.sq (DRs.dp ds r c)
  | _, .dict _, h, c => absurd (show false = true from c) Bool.false_ne_true
theorem DRs.dp : ∀ {vs : List V} (ds : List PyData), DRs K tb A vs ds → PyData.canLayAll0 ds = true → DpAll K A.H vs ds
  | _, [], h, _ => by cases h; exact .nil
  | _, d :: ds, h, c => by
    have c : (PyData.canLay0 d && PyData.canLayAll0 ds) = true := c
    rw [Bool.and_eq_true] at c
    cases h with | cons a b => exact .cons (DR.dp d a c.1) (DRs.dp ds b c.2)
end
theorem WR.nxw (x : NxW tb A B) {v : V} {w : W} (h : WR K tb A v w) : WR K tb B v w := by
  cases w with
  | d y => exact DR.nxw x y h
  | loc n => obtain ⟨a, e, i⟩ := h; exact ⟨a, e, x.ix i⟩
theorem WR.nxt (x : Nxt tb A B) {v : V} {w : W} (h : WR K tb A v w) : WR K tb B v w := by
  cases w with
  | d y => exact DR.nxt x y h
  | loc n => obtain ⟨a, e, i⟩ := h; exact ⟨a, e, x.ix i⟩
theorem WRs.nxt (x : Nxt tb A B) {vs : List V} {ws : List W} (h : WRs K tb A vs ws) : WRs K tb B vs ws := Paired.mapP h fun _ _ r => r.nxt x
theorem DRs.length {vs : List V} {ds : List PyData} (h : DRs K tb A vs ds) : vs.length = ds.length := by
  induction ds generalizing vs with
  | nil => cases h; rfl
  | cons d ds ih => cases h with | cons a b => simp [ih b]
theorem DRs.get {vs : List V} {ds : List PyData} (h : DRs K tb A vs ds) : ∀ {i : Nat} {v : V}, vs[i]? = some v → ∃ d, ds[i]? = some d ∧ DR K tb A v d := by
  induction ds generalizing vs with
  | nil => intro i v e; cases h; simp at e
  | cons d ds ih =>
    intro i v e
    cases h with
    | cons a b =>
      cases i with
      | zero => simp at e; subst e; exact ⟨d, rfl, a⟩
      | succ i => simp at e; obtain ⟨d', q, r⟩ := ih b e; exact ⟨d', by simpa using q, r⟩
theorem DRs.get' {vs : List V} {ds : List PyData} (h : DRs K tb A vs ds) {i : Nat} {d : PyData} (e : ds[i]? = some d) : ∃ v, vs[i]? = some v ∧ DR K tb A v d := by
  have hl := h.length
  have hi : i < vs.length := by rw [hl]; exact (List.getElem?_eq_some_iff.mp e).1
  obtain ⟨d', q, r⟩ := h.get (List.getElem?_eq_getElem hi)
  rw [e] at q; cases q
  exact ⟨_, List.getElem?_eq_getElem hi, r⟩
theorem DRs.append {vs us : List V} {ds es : List PyData} (h : DRs K tb A vs ds) (g : DRs K tb A us es) : DRs K tb A (vs ++ us) (ds ++ es) := by
  induction ds generalizing vs with
  | nil => cases h; exact g
  | cons d ds ih => cases h with | cons a b => exact .cons a (ih b)
theorem DRs.take {vs : List V} {ds : List PyData} (h : DRs K tb A vs ds) : ∀ n, DRs K tb A (vs.take n) (ds.take n) := by
  induction ds generalizing vs with
  | nil => intro n; cases h; simp; exact .nil
  | cons d ds ih =>
    intro n
    cases h with
    | cons a b =>
      cases n with
      | zero => exact .nil
      | succ n => exact .cons a (ih b n)
theorem DRs.drop {vs : List V} {ds : List PyData} (h : DRs K tb A vs ds) : ∀ n, DRs K tb A (vs.drop n) (ds.drop n) := by
  induction ds generalizing vs with
  | nil => intro n; cases h; simp; exact .nil
  | cons d ds ih =>
    intro n
    cases h with
    | cons a b =>
      cases n with
      | zero => exact .cons a b
      | succ n => exact ih b n
end
/-! ### the objects -/
def OR (K : PySem.W.Frag) (tb : List Addr) (A : Wd) : Ob → Addr → Prop
  | .lst ws, a => ∃ vs, A.H a = some (.lst vs) ∧ WRs K tb A vs ws
  | .dct kvs, a => ∃ vs, A.H a = some (.dK vs) ∧ Paired (fun (p : Key × V) (q : Key × W) => p.1 = q.1 ∧ WR K tb A p.2 q.2) vs kvs
  | .ins C fs, a => ∃ dx vs, A.H a = some (.ins C dx vs) ∧ Paired (fun (p : Str × V) (q : Str × W) => p.1 = q.1 ∧ WR K tb A p.2 q.2) vs fs
structure Rep (K : PySem.W.Frag) (tb : List Addr) (A : Wd) (S : Mem) : Prop where
  len : A.ι.length = S.length
  nd : A.ι.Nodup
  tabs : ∀ P ∈ tb, TabG A.H P
  hd : ∀ b ∈ A.hid, (∃ o, A.H b = some o) ∧ b ∉ A.ι ∧ b ∉ tb
  at_ : ∀ (n : Nat) a ob, A.ι[n]? = some a → S[n]? = some ob → OR K tb A ob a
section
variable {K : PySem.W.Frag} {tb : List Addr} {A B : Wd} {S : Mem}
theorem OR.some {ob : Ob} {a : Addr} (h : OR K tb A ob a) : ∃ o, A.H a = some o ∧ Mut (some o) := by
  cases ob with
  | lst ws => obtain ⟨vs, e, _⟩ := h; exact ⟨_, e, trivial⟩
  | dct kvs => obtain ⟨vs, e, _⟩ := h; exact ⟨_, e, trivial⟩
  | ins C fs => obtain ⟨dx, vs, e, _⟩ := h; exact ⟨_, e, trivial⟩
theorem Rep.get (R : Rep K tb A S) {n : Nat} {a : Addr} (h : A.ι[n]? = some a) : ∃ ob, S[n]? = some ob ∧ OR K tb A ob a := by
  have hn : n < S.length := by rw [← R.len]; exact (List.getElem?_eq_some_iff.mp h).1
  exact ⟨S[n], List.getElem?_eq_getElem hn, R.at_ n a _ h (List.getElem?_eq_getElem hn)⟩
theorem Rep.addr (R : Rep K tb A S) {n : Nat} {ob : Ob} (h : S[n]? = some ob) : ∃ a, A.ι[n]? = some a ∧ OR K tb A ob a := by
  have hn : n < A.ι.length := by rw [R.len]; exact (List.getElem?_eq_some_iff.mp h).1
  exact ⟨A.ι[n], List.getElem?_eq_getElem hn, R.at_ n _ ob (List.getElem?_eq_getElem hn) h⟩
theorem Rep.mut (R : Rep K tb A S) {a : Addr} (h : a ∈ A.ι) : ∃ o, A.H a = some o ∧ Mut (some o) := by
  obtain ⟨n, hn, e⟩ := List.getElem_of_mem h
  obtain ⟨ob, _, q⟩ := R.get (n := n) (a := a) (by rw [List.getElem?_eq_getElem hn, e])
  exact q.some
theorem Rep.fresh (R : Rep K tb A S) {p : Addr} (h : A.H p = none) : ¬ Mu tb A p := by
  rintro (z | z | z)
  · obtain ⟨o, e, _⟩ := R.mut z; rw [h] at e; cases e
  · obtain ⟨ps, e, _⟩ := R.tabs p z; rw [h] at e; cases e
  · obtain ⟨⟨o, e⟩, _⟩ := R.hd p z; rw [h] at e; cases e
theorem Rep.tab_ne (R : Rep K tb A S) {a P : Addr} (h : a ∈ A.ι) (hP : P ∈ tb) : a ≠ P := by
  rintro rfl
  obtain ⟨o, e, m⟩ := R.mut h
  obtain ⟨ps, e', _⟩ := R.tabs a hP
  rw [e] at e'; cases e'; exact m
theorem OR.nxt {ob : Ob} {a : Addr} (x : Nxt tb A B) (e : B.H a = A.H a) (h : OR K tb A ob a) : OR K tb B ob a := by
  cases ob with
  | lst ws => obtain ⟨vs, q, r⟩ := h; exact ⟨vs, by rw [e]; exact q, r.nxt x⟩
  | dct kvs => obtain ⟨vs, q, r⟩ := h; exact ⟨vs, by rw [e]; exact q, Paired.mapP r fun _ _ z => ⟨z.1, z.2.nxt x⟩⟩
  | ins C fs => obtain ⟨dx, vs, q, r⟩ := h; exact ⟨dx, vs, by rw [e]; exact q, Paired.mapP r fun _ _ z => ⟨z.1, z.2.nxt x⟩⟩
/-- a new object that nobody will change -/
abbrev Wd.put (A : Wd) (p : Addr) (o : HO) : Wd := { A with H := upd A.H p o }
theorem upd_none {H : Hp} {a b : Addr} {o : HO} (h : upd H a o b = none) : H b = none := by
  by_cases e : b = a
  · rw [e, upd_same] at h; cases h
  · rw [upd_ne e] at h; exact h
theorem Nxt.put {p : Addr} (hp : A.H p = none) (o : HO) : Nxt tb A (A.put p o) :=
  ⟨fun _ z => z, fun _ z => .inl z, fun _ z => upd_none z, ⟨[], by simp⟩, fun b u n _ e => ⟨by show upd A.H p o b = _; rw [upd_ne (ne_of_none e hp)]; exact e, n⟩⟩
theorem Rep.put (R : Rep K tb A S) {p : Addr} (hp : A.H p = none) (o : HO) : Rep K tb (A.put p o) S := by
  have st : ∀ {b : Addr} {u : HO}, A.H b = some u → (A.put p o).H b = some u := fun {b u} e => by show upd A.H p o b = _; rw [upd_ne (ne_of_none e hp)]; exact e
  refine ⟨R.len, R.nd, fun P hP => ?_, fun b hb => ?_, fun n a ob e1 e2 => ?_⟩
  · obtain ⟨ps, e, t⟩ := R.tabs P hP; exact ⟨ps, st e, t⟩
  · obtain ⟨⟨o', e⟩, n⟩ := R.hd b hb; exact ⟨⟨o', st e⟩, n⟩
  · have q := R.at_ n a ob e1 e2
    obtain ⟨o', e, _⟩ := q.some
    exact q.nxt (.put hp o) (by rw [st e, e])
theorem Fz.put (R : Rep K tb A S) {p : Addr} (hp : A.H p = none) (o : HO) : Fz tb (A.put p o) p o := ⟨R.fresh hp, .inl upd_same⟩
/-- a new numbered object -/
abbrev Wd.add (A : Wd) (p : Addr) (o : HO) : Wd := { A with H := upd A.H p o, ι := A.ι ++ [p] }
theorem Nxt.add {p : Addr} (hp : A.H p = none) (o : HO) : Nxt tb A (A.add p o) :=
  ⟨fun _ z => z, fun _ z => .inl z, fun _ z => upd_none z, ⟨[p], rfl⟩, fun b u n _ e => ⟨by show upd A.H p o b = _; rw [upd_ne (ne_of_none e hp)]; exact e, fun z => (List.mem_append.mp z).elim n fun z => ne_of_none e hp (List.mem_singleton.mp z)⟩⟩
theorem Rep.add (R : Rep K tb A S) {p : Addr} (hp : A.H p = none) {o : HO} {ob : Ob} (h : OR K tb (A.add p o) ob p) : Rep K tb (A.add p o) (S ++ [ob]) := by
  have st : ∀ {b : Addr} {u : HO}, A.H b = some u → (A.add p o).H b = some u := fun {b u} e => by show upd A.H p o b = _; rw [upd_ne (ne_of_none e hp)]; exact e
  have np : p ∉ A.ι := fun z => R.fresh hp (.inl z)
  refine ⟨by simp [R.len], ?_, fun P hP => ?_, fun b hb => ?_, fun n a ob' e1 e2 => ?_⟩
  · rw [List.nodup_append]
    exact ⟨R.nd, by simp, fun a ha b hb e => np (by rw [List.mem_singleton.mp hb] at e; rw [← e]; exact ha)⟩
  · obtain ⟨ps, e, t⟩ := R.tabs P hP; exact ⟨ps, st e, t⟩
  · obtain ⟨⟨o', e⟩, n, t⟩ := R.hd b hb
    exact ⟨⟨o', st e⟩, fun z => (List.mem_append.mp z).elim n fun z => ne_of_none e hp (List.mem_singleton.mp z), t⟩
  · have e1 : (A.ι ++ [p])[n]? = some a := e1
    by_cases hn : n < A.ι.length
    · rw [List.getElem?_append_left hn] at e1
      rw [List.getElem?_append_left (by rw [← R.len]; exact hn)] at e2
      have q := R.at_ n a ob' e1 e2
      obtain ⟨o', e, _⟩ := q.some
      exact q.nxt (.add hp o) (by rw [st e, e])
    · rw [List.getElem?_append_right (by omega)] at e1
      rw [List.getElem?_append_right (by rw [← R.len]; omega)] at e2
      have hz : n - A.ι.length = 0 := by
        cases hh : n - A.ι.length with
        | zero => rfl
        | succ k => rw [hh] at e1; simp at e1
      rw [hz] at e1
      rw [← R.len, hz] at e2
      simp at e1 e2
      subst e1 e2
      exact h
/-- a numbered object is changed -/
theorem Nxt.set {n : Nat} {a : Addr} {o : HO} (ha : A.ι[n]? = some a) : Nxt tb A (A.put a o) :=
  ⟨fun _ z => z, fun _ z => .inl z, fun _ z => upd_none z, ⟨[], by simp⟩, fun b u nb _ e => ⟨by show upd A.H a o b = _; rw [upd_ne (fun z => nb (by rw [z]; exact List.mem_of_getElem? ha))]; exact e, nb⟩⟩
theorem Rep.set (R : Rep K tb A S) {n : Nat} {a : Addr} {o : HO} {ob : Ob} (ha : A.ι[n]? = some a) (h : OR K tb (A.put a o) ob a) : Rep K tb (A.put a o) (S.set n ob) := by
  have hin := List.mem_of_getElem? ha
  have st : ∀ {b : Addr}, b ≠ a → (A.put a o).H b = A.H b := fun {b} e => upd_ne e
  refine ⟨by rw [List.length_set]; exact R.len, R.nd, fun P hP => ?_, fun b hb => ?_, fun m b ob' e1 e2 => ?_⟩
  · obtain ⟨ps, e, t⟩ := R.tabs P hP
    exact ⟨ps, by rw [st (R.tab_ne hin hP).symm]; exact e, t⟩
  · obtain ⟨⟨o', e⟩, n', t⟩ := R.hd b hb
    exact ⟨⟨o', by rw [st (fun z => n' (by rw [z]; exact hin))]; exact e⟩, n', t⟩
  · by_cases hm : m = n
    · subst hm
      have e1 : A.ι[m]? = some b := e1
      rw [ha] at e1; cases e1
      rw [List.getElem?_set_self (by rw [← R.len]; exact (List.getElem?_eq_some_iff.mp ha).1)] at e2
      cases e2
      exact h
    · rw [List.getElem?_set_ne (Ne.symm hm)] at e2
      have hb : b ≠ a := by
        rintro rfl
        obtain ⟨h1, q1⟩ := List.getElem?_eq_some_iff.mp ha
        obtain ⟨h2, q2⟩ := List.getElem?_eq_some_iff.mp e1
        exact hm ((List.getElem_inj R.nd).mp (q2.trans q1.symm))
      exact (R.at_ m b ob' e1 e2).nxt (.set ha) (st hb)
/-- a table grows -/
theorem nxt_tab {P : Addr} {H' : Hp} (hP : P ∈ tb) (t : Tabbed P A.H H') : Nxt tb A { A with H := H' } :=
  ⟨fun _ z => z, fun _ z => .inl z, fun b z => by
    by_cases e : b = P
    · obtain ⟨ps, q, _⟩ := t.1
      rw [e] at z
      have z : H' P = none := z
      rw [q] at z; cases z
    · have z : H' b = none := z
      rw [t.2 b e] at z; exact z, ⟨[], by simp⟩, fun b u n nt e => ⟨by show H' b = _; rw [t.2 b (fun z => nt (by rw [z]; exact hP))]; exact e, n⟩⟩
theorem Rep.tab (R : Rep K tb A S) {P : Addr} {H' : Hp} (hP : P ∈ tb) (t : Tabbed P A.H H') : Rep K tb { A with H := H' } S := by
  refine ⟨R.len, R.nd, fun Q hQ => ?_, fun b hb => ?_, fun n a ob e1 e2 => ?_⟩
  · by_cases e : Q = P
    · rw [e]; exact t.1
    · obtain ⟨ps, q, z⟩ := R.tabs Q hQ
      exact ⟨ps, by show H' Q = _; rw [t.2 Q e]; exact q, z⟩
  · obtain ⟨⟨o', e⟩, n', nt⟩ := R.hd b hb
    exact ⟨⟨o', by show H' b = _; rw [t.2 b (fun z => nt (by rw [z]; exact hP))]; exact e⟩, n', nt⟩
  · exact (R.at_ n a ob e1 e2).nxt (nxt_tab hP t) (t.2 a (R.tab_ne (List.mem_of_getElem? e1) hP))
end
/-! ### environments and readings -/
abbrev Env' := List (Option W)
def ER (K : PySem.W.Frag) (tb : List Addr) (A : Wd) (σ : L2.St) (ρ : Env') : Prop := ρ.length = σ.length ∧ ∀ (i : Nat) w, ρ[i]? = some (some w) → ∃ v, σ[i]? = some (some v) ∧ WR K tb A v w
abbrev ME := Env' → Mem → Option (W × Mem)
abbrev MT := Env' → Mem → Option (Bool × Mem)
abbrev MA := Env' → Mem → Option (List W × Mem)
inductive Out where
  | nx | bk | ct | rt (w : W)
abbrev MS := Env' → Mem → Option (Out × Env' × Mem)
abbrev MG := W → Env' → Mem → Option (Env' × Mem)
section
variable (K : PySem.W.Frag) (tb : List Addr)
def KE (A : Wd) (w : W) (S' : Mem) (Q : VK) : Prop := ∀ v B, Nxt tb A B → Rep K tb B S' → WR K tb B v w → Q v B.H
def SE (t : TE) (m : ME) : Prop := ∀ A σ ρ S w S' Q, Rep K tb A S → ER K tb A σ ρ → m ρ S = some (w, S') → KE K tb A w S' Q → t σ A.H Q
def ST (t : TT) (m : MT) : Prop := ∀ A σ ρ S b S' (Q : Bool → Hp → Prop), Rep K tb A S → ER K tb A σ ρ → m ρ S = some (b, S') → (∀ B, Nxt tb A B → Rep K tb B S' → Q b B.H) → t σ A.H Q
def SA (t : TA) (m : MA) : Prop := ∀ A σ ρ S ws S' (Q : List V → Hp → Prop), Rep K tb A S → ER K tb A σ ρ → m ρ S = some (ws, S') → (∀ vs B, Nxt tb A B → Rep K tb B S' → WRs K tb B vs ws → Q vs B.H) → t σ A.H Q
/-- what is wanted behind a statement -/
def FinD (D : Ends) (B : Wd) (σ : L2.St) : Out → Prop
  | .nx => D.nx σ B.H
  | .bk => D.bk σ B.H
  | .ct => D.ct σ B.H
  | .rt w => ∃ v, WR K tb B v w ∧ D.rt v B.H
def FinK (D : Ends) (A : Wd) (o : Out) (ρ' : Env') (S' : Mem) : Prop := match o with
  | .nx => ∀ B σ', Nxt tb A B → Rep K tb B S' → ER K tb B σ' ρ' → D.nx σ' B.H
  | .bk => ∀ B σ', Nxt tb A B → Rep K tb B S' → ER K tb B σ' ρ' → D.bk σ' B.H
  | .ct => ∀ B σ', Nxt tb A B → Rep K tb B S' → ER K tb B σ' ρ' → D.ct σ' B.H
  | .rt w => ∀ B v, Nxt tb A B → Rep K tb B S' → WR K tb B v w → D.rt v B.H
def SS (t : TS) (m : MS) : Prop := ∀ A σ ρ S o ρ' S' (D : Ends), Rep K tb A S → ER K tb A σ ρ → m ρ S = some (o, ρ', S') → FinK K tb D A o ρ' S' → t D σ A.H
/-- a target; vs: the slots that it may set -/
def SG (vs : List Nat) (g : TG) (m : MG) : Prop := ∀ A v w σ ρ S ρ' S' (Q : L2.St → Hp → Prop), Rep K tb A S → ER K tb A σ ρ → WR K tb A v w → m w ρ S = some (ρ', S') →
  (∀ B σ', Nxt tb A B → Rep K tb B S' → ER K tb B σ' ρ' → σ'.length = σ.length → (∀ j, j ∉ vs → σ'[j]? = σ[j]?) → Q σ' B.H) → g v σ A.H Q
end
section
variable {K : PySem.W.Frag} {tb : List Addr} {A B : Wd}
theorem ER.nxt {σ : L2.St} {ρ : Env'} (x : Nxt tb A B) (h : ER K tb A σ ρ) : ER K tb B σ ρ := ⟨h.1, fun i w e => by obtain ⟨v, q, r⟩ := h.2 i w e; exact ⟨v, q, r.nxt x⟩⟩
theorem ER.nxw {σ : L2.St} {ρ : Env'} (x : NxW tb A B) (h : ER K tb A σ ρ) : ER K tb B σ ρ := ⟨h.1, fun i w e => by obtain ⟨v, q, r⟩ := h.2 i w e; exact ⟨v, q, r.nxw x⟩⟩
theorem ER.set {σ : L2.St} {ρ : Env'} {v : V} {w : W} (h : ER K tb A σ ρ) (r : WR K tb A v w) (i : Nat) : ER K tb A (σ.set i (some v)) (ρ.set i (some w)) := by
  refine ⟨by rw [List.length_set, List.length_set]; exact h.1, fun j w' e => ?_⟩
  by_cases hj : j = i
  · subst hj
    have hlt : j < ρ.length := by
      have := (List.getElem?_eq_some_iff.mp e).1
      rwa [List.length_set] at this
    rw [List.getElem?_set_self hlt] at e
    cases e
    exact ⟨v, by rw [List.getElem?_set_self (by rw [← h.1]; exact hlt)], r⟩
  · rw [List.getElem?_set_ne (Ne.symm hj)] at e
    obtain ⟨v', q, r'⟩ := h.2 j w' e
    exact ⟨v', by rw [List.getElem?_set_ne (Ne.symm hj)]; exact q, r'⟩
theorem KE.nxt {w : W} {S' : Mem} {Q : VK} (x : Nxt tb A B) (h : KE K tb A w S' Q) : KE K tb B w S' Q := fun v C y R r => h v C (x.trans y) R r
theorem FinK.nxt {D : Ends} {o : Out} {ρ' : Env'} {S' : Mem} (x : Nxt tb A B) (h : FinK K tb D A o ρ' S') : FinK K tb D B o ρ' S' := by
  cases o with
  | nx => exact fun C σ' y R r => h C σ' (x.trans y) R r
  | bk => exact fun C σ' y R r => h C σ' (x.trans y) R r
  | ct => exact fun C σ' y R r => h C σ' (x.trans y) R r
  | rt w => exact fun C v y R r => h C v (x.trans y) R r
end
end Pd
namespace Pd
open PySem PySem.Spec PyProof.Rows L2 GxR Gx
section
variable {K : PySem.W.Frag} {tb : List Addr}
/-! ### expressions -/
def eVar (i : Nat) : ME := fun ρ S => match ρ[i]? with
  | some (some w) => some (w, S)
  | _ => none
def eC (x : PyData) : ME := fun _ S => some (.d x, S)
theorem se_var (i : Nat) : SE K tb (tVar i) (eVar i) := fun A σ ρ S w S' Q R E h q => by
  unfold eVar at h
  split at h
  · rename_i w' e
    cases h
    obtain ⟨v, e1, r⟩ := E.2 i _ e
    exact ⟨v, e1, q v A .refl R r⟩
  · cases h
theorem se_const {v : V} {x : PyData} (h : ∀ A, DR K tb A v x) : SE K tb (tC v) (eC x) := fun A σ ρ S w S' Q R E e q => by
  cases e
  exact q v A .refl R (h A)
theorem se_int {i : Int} : SE K tb (tC (.int i)) (eC (.int i)) := se_const fun _ => .int i
theorem se_str {x : Str} : SE K tb (tC (.str x)) (eC (.str x)) := se_const fun _ => .str x
theorem se_bl {b : Bool} : SE K tb (tC (.bl b)) (eC (.bool b)) := se_const fun _ => .bl b
theorem se_non : SE K tb (tC .non) (eC .none) := se_const fun _ => .non
/-- an operator -/
abbrev F2 := W → W → Mem → Option (W × Mem)
abbrev F1 := W → Mem → Option (W × Mem)
def SR (K : PySem.W.Frag) (tb : List Addr) (r : R2) (f : F2) : Prop := ∀ A x y a b S w S' Q, Rep K tb A S → WR K tb A x a → WR K tb A y b → f a b S = some (w, S') → Pd.KE K tb A w S' Q → r x y A.H Q
def SU (K : PySem.W.Frag) (tb : List Addr) (r : V → Hp → VK → Prop) (f : F1) : Prop := ∀ A x a S w S' Q, Rep K tb A S → WR K tb A x a → f a S = some (w, S') → Pd.KE K tb A w S' Q → r x A.H Q
theorem SR.or {r r' : R2} {f g : F2} (h : SR K tb r f) (h' : SR K tb r' g) : SR K tb (fun x y H Q => r x y H Q ∨ r' x y H Q) (fun a b S => (f a b S).or (g a b S)) := fun A x y a b S w S' Q R ra rb e q => by
  have e : (f a b S).or (g a b S) = some (w, S') := e
  cases hf : f a b S with
  | some z => rw [hf] at e; cases e; exact .inl (h A x y a b S _ _ Q R ra rb hf q)
  | none => rw [hf] at e; exact .inr (h' A x y a b S _ _ Q R ra rb e q)
def eOp (f : F2) (a b : ME) : ME := fun ρ S => (a ρ S).bind fun p => (b ρ p.2).bind fun q => f p.1 q.1 q.2
def eUn (f : F1) (a : ME) : ME := fun ρ S => (a ρ S).bind fun p => f p.1 p.2
theorem se_op {r : R2} {f : F2} {ta tb' : TE} {a b : ME} (hr : SR K tb r f) (ha : SE K tb ta a) (hb : SE K tb tb' b) : SE K tb (tOp r ta tb') (eOp f a b) := fun A σ ρ S w S' Q R E e q => by
  obtain ⟨p, e1, e⟩ := Option.bind_eq_some_iff.mp e
  obtain ⟨z, e2, e⟩ := Option.bind_eq_some_iff.mp e
  refine ha A σ ρ S p.1 p.2 _ R E e1 fun x B N1 R1 r1 => ?_
  exact hb B σ ρ p.2 z.1 z.2 _ R1 (E.nxt N1) e2 fun y C N2 R2 r2 => hr C x y p.1 z.1 z.2 w S' Q R2 (r1.nxt N2) r2 e (q.nxt (N1.trans N2))
theorem se_un {r : V → Hp → VK → Prop} {f : F1} {ta : TE} {a : ME} (hr : SU K tb r f) (ha : SE K tb ta a) : SE K tb (tUn r ta) (eUn f a) := fun A σ ρ S w S' Q R E e q => by
  obtain ⟨p, e1, e⟩ := Option.bind_eq_some_iff.mp e
  exact ha A σ ρ S p.1 p.2 _ R E e1 fun x B N1 R1 r1 => hr B x p.1 p.2 w S' Q R1 r1 e (q.nxt N1)
/-- an operator on ints -/
def oI (g : Int → Int → Option PyData) : F2 := fun a b S => match a, b with
  | .d (.int i), .d (.int j) => (g i j).map fun z => (.d z, S)
  | _, _ => none
theorem WR.int {A : Wd} {x : V} {i : Int} (h : WR K tb A x (.d (.int i))) : x = .int i := by cases (show DR K tb A x _ from h); rfl
theorem WR.str {A : Wd} {x : V} {i : Str} (h : WR K tb A x (.d (.str i))) : x = .str i := by cases (show DR K tb A x _ from h); rfl
theorem WR.bl {A : Wd} {x : V} {i : Bool} (h : WR K tb A x (.d (.bool i))) : x = .bl i := by cases (show DR K tb A x _ from h); rfl
theorem WR.non {A : Wd} {x : V} (h : WR K tb A x (.d .none)) : x = .non := by cases (show DR K tb A x _ from h); rfl
theorem WR.tup {A : Wd} {x : V} {ds : List PyData} (h : WR K tb A x (.d (.tuple ds))) : ∃ a xs, x = .ref a ∧ FzT K tb A a xs ∧ DRs K tb A xs ds := by
  cases (show DR K tb A x _ from h) with | tup f r => exact ⟨_, _, rfl, f, r⟩
theorem WR.lst {A : Wd} {x : V} {ds : List PyData} (h : WR K tb A x (.d (.list ds))) : ∃ a xs, x = .ref a ∧ Fz tb A a (.lst xs) ∧ DRs K tb A xs ds := by
  cases (show DR K tb A x _ from h) with | lst f r => exact ⟨_, _, rfl, f, r⟩
theorem WR.scr {A : Wd} {x : V} {ds : List PyData} (h : WR K tb A x (.d (.dict [(.none, .list ds)]))) : ∃ a xs, x = .ref a ∧ FzL K tb A a xs ∧ DRs K tb A xs ds := by
  cases (show DR K tb A x _ from h) with | scr f r => exact ⟨_, _, rfl, f, r⟩
theorem oI_some {g : Int → Int → Option PyData} {a b : W} {S S' : Mem} {w : W} (h : oI g a b S = some (w, S')) : ∃ i j z, a = .d (.int i) ∧ b = .d (.int j) ∧ g i j = some z ∧ w = .d z ∧ S' = S := by
  unfold oI at h
  split at h
  · rename_i i j
    obtain ⟨z, e1, e2⟩ := Option.map_eq_some_iff.mp h
    cases e2
    exact ⟨i, j, z, rfl, rfl, e1, rfl, rfl⟩
  · cases h
theorem sr_rI0 {g : Int → Int → PyData} {gv : Int → Int → V} (h : ∀ i j A, DR K tb A (gv i j) (g i j)) : SR K tb (rI0 gv) (oI fun i j => some (g i j)) := fun A x y a b S w S' Q R ra rb e q => by
  obtain ⟨i, j, z, rfl, rfl, e1, rfl, rfl⟩ := oI_some e
  cases e1
  obtain rfl := ra.int
  obtain rfl := rb.int
  exact ⟨i, j, rfl, rfl, q _ A .refl R (h i j A)⟩
theorem sr_rI {C : Int → Int → Prop} {c : Int → Int → Bool} {g : Int → Int → PyData} {gv : Int → Int → V} (hc : ∀ i j, c i j = true → C i j) (h : ∀ i j A, DR K tb A (gv i j) (g i j)) :
    SR K tb (rI C gv) (oI fun i j => if c i j = true then some (g i j) else none) := fun A x y a b S w S' Q R ra rb e q => by
  obtain ⟨i, j, z, rfl, rfl, e1, rfl, rfl⟩ := oI_some e
  split at e1
  · rename_i hcc
    cases e1
    obtain rfl := ra.int
    obtain rfl := rb.int
    exact ⟨i, j, rfl, rfl, hc i j hcc, q _ A .refl R (h i j A)⟩
  · cases e1
def oAdd : F2 := oI fun i j => some (.int (i + j))
def oSub : F2 := oI fun i j => some (.int (i - j))
def oLt : F2 := oI fun i j => some (.bool (decide (i < j)))
def oLe : F2 := oI fun i j => some (.bool (decide (i ≤ j)))
def oGt : F2 := oI fun i j => some (.bool (decide (j < i)))
def oGe : F2 := oI fun i j => some (.bool (decide (j ≤ i)))
def oMul : F2 := oI fun i j => if decide (((-(2 ^ 64) < i ∧ i < 2 ^ 64) ∨ (-(2 ^ 64) < j ∧ j < 2 ^ 64)) ∨ i.natAbs.log2 + j.natAbs.log2 < 1000000) = true then some (.int (i * j)) else none
def oDiv : F2 := oI fun i j => if decide (0 < j ∧ j.natAbs.log2 < 9000) = true then some (.int (i / j)) else none
def oMod : F2 := oI fun i j => if decide (0 < j) = true then some (.int (i % j)) else none
theorem sr_add : SR K tb (rI0 fun i j => .int (i + j)) oAdd := sr_rI0 fun _ _ _ => .int _
theorem sr_sub : SR K tb (rI0 fun i j => .int (i - j)) oSub := sr_rI0 fun _ _ _ => .int _
theorem sr_lt : SR K tb (rI0 fun i j => .bl (decide (i < j))) oLt := sr_rI0 fun _ _ _ => .bl _
theorem sr_le : SR K tb (rI0 fun i j => .bl (decide (i ≤ j))) oLe := sr_rI0 fun _ _ _ => .bl _
theorem sr_gt : SR K tb (rI0 fun i j => .bl (decide (j < i))) oGt := sr_rI0 fun _ _ _ => .bl _
theorem sr_ge : SR K tb (rI0 fun i j => .bl (decide (j ≤ i))) oGe := sr_rI0 fun _ _ _ => .bl _
abbrev rMulA : R2 := rI (fun i j => CMul i j ∨ CMulW i j) fun i j => .int (i * j)
theorem sr_mul : SR K tb rMulA oMul := sr_rI (fun i j h => show ((-(2 ^ 64) < i ∧ i < 2 ^ 64) ∨ (-(2 ^ 64) < j ∧ j < 2 ^ 64)) ∨ i.natAbs.log2 + j.natAbs.log2 < 1000000 from of_decide_eq_true h) fun _ _ _ => .int _
theorem op_mulA {X : Cx} : OpR X (binaryOp .Mult) rMulA := fun pins s σ H x y v u Q I rx ry h => by
  obtain ⟨i, j, e1, e2, h | h, q⟩ := h
  · exact op_mul pins s σ H x y v u Q I rx ry ⟨i, j, e1, e2, h, q⟩
  · exact op_mulW pins s σ H x y v u Q I rx ry ⟨i, j, e1, e2, h, q⟩
theorem sr_div : SR K tb (rI CDivW fun i j => .int (i / j)) oDiv := sr_rI (fun i j h => show 0 < j ∧ j.natAbs.log2 < 9000 from of_decide_eq_true h) fun _ _ _ => .int _
theorem sr_mod : SR K tb (rI (fun _ j => 0 < j) fun i j => .int (i % j)) oMod := sr_rI (fun _ _ h => of_decide_eq_true h) fun _ _ _ => .int _
/-- == of data -/
def scalD : PyData → PyData → Bool
  | .none, .none => true | .none, .int _ => true | .int _, .none => true | .none, .bool _ => true | .bool _, .none => true | .none, .str _ => true | .str _, .none => true
  | .int _, .int _ => true | .bool _, .bool _ => true | .str _, .str _ => true
  | .int _, .str _ => true | .str _, .int _ => true | .bool _, .str _ => true | .str _, .bool _ => true
  | _, _ => false
def eqS : PyData → PyData → Bool
  | .none, .none => true
  | .int i, .int j => decide (i = j)
  | .bool i, .bool j => decide (i = j)
  | .str i, .str j => decide (i = j)
  | _, _ => false
def eqP (x y : PyData) : Option Bool := if scalD x y = true then some (eqS x y) else if SeqAt.shaped x = true ∧ SeqAt.shaped y = true then some (PyData.eqv x y) else none
def oEq (n : Bool) : F2 := fun a b S => match a, b with
  | .d x, .d y => (eqP x y).map fun z => (.d (.bool (if n then !z else z)), S)
  | _, _ => none
theorem scal_of {A : Wd} {x y : V} {a b : PyData} (ra : DR K tb A x a) (rb : DR K tb A y b) (h : scalD a b = true) : scal x y = true ∧ decide (x = y) = eqS a b := by
  cases ra <;> cases rb <;> first | exact absurd (show false = true from h) Bool.false_ne_true | exact ⟨rfl, rfl⟩ | exact ⟨rfl, decide_eq_false (fun z => nomatch z)⟩ | (refine ⟨rfl, ?_⟩; show decide _ = decide _; congr 1; simp)
abbrev rEqA (K : PySem.W.Frag) : R2 := fun x y H Q => rEq x y H Q ∨ rEqD K x y H Q
abbrev rNeA (K : PySem.W.Frag) : R2 := fun x y H Q => rNe x y H Q ∨ rNeD K x y H Q
theorem eqP_run {A : Wd} {x y : V} {a b : PyData} {z : Bool} (ra : DR K tb A x a) (rb : DR K tb A y b) (h : eqP a b = some z) :
    (scal x y = true ∧ decide (x = y) = z) ∨ (SeqAt.shaped a = true ∧ SeqAt.shaped b = true ∧ PyData.eqv a b = z) := by
  unfold eqP at h
  split at h
  · rename_i hs
    cases h
    exact .inl (scal_of ra rb hs)
  · split at h
    · rename_i hs
      cases h
      exact .inr ⟨hs.1, hs.2, rfl⟩
    · cases h
theorem oEq_some {n : Bool} {a b : W} {S S' : Mem} {w : W} (h : oEq n a b S = some (w, S')) : ∃ x y z, a = .d x ∧ b = .d y ∧ eqP x y = some z ∧ w = .d (.bool (if n then !z else z)) ∧ S' = S := by
  unfold oEq at h
  split at h
  · rename_i x y
    obtain ⟨z, e1, e2⟩ := Option.map_eq_some_iff.mp h
    cases e2
    exact ⟨x, y, z, rfl, rfl, e1, rfl, rfl⟩
  · cases h
theorem sr_eq : SR K tb (rEqA K) (oEq false) := fun A x y a b S w S' Q R ra rb e q => by
  obtain ⟨u, v, z, rfl, rfl, e1, rfl, rfl⟩ := oEq_some e
  rcases eqP_run (show DR K tb A x u from ra) (show DR K tb A y v from rb) e1 with ⟨h1, h2⟩ | ⟨h1, h2, h3⟩
  · exact .inl ⟨h1, by rw [h2]; exact q _ A .refl R (DR.bl z)⟩
  · exact .inr ⟨u, v, DR.dp u ra (SeqAt.canLay_of_shaped h1), DR.dp v rb (SeqAt.canLay_of_shaped h2), h1, h2, by rw [h3]; exact q _ A .refl R (DR.bl z)⟩
theorem sr_ne : SR K tb (rNeA K) (oEq true) := fun A x y a b S w S' Q R ra rb e q => by
  obtain ⟨u, v, z, rfl, rfl, e1, rfl, rfl⟩ := oEq_some e
  rcases eqP_run (show DR K tb A x u from ra) (show DR K tb A y v from rb) e1 with ⟨h1, h2⟩ | ⟨h1, h2, h3⟩
  · exact .inl ⟨h1, by rw [h2]; exact q _ A .refl R (DR.bl (!z))⟩
  · exact .inr ⟨u, v, DR.dp u ra (SeqAt.canLay_of_shaped h1), DR.dp v rb (SeqAt.canLay_of_shaped h2), h1, h2, by rw [h3]; exact q _ A .refl R (DR.bl (!z))⟩
theorem op_eqA {X : Cx} (hu : X.A.units + 64 < cLine) : OpR X (compareOp .Eq) (rEqA X.K) := fun pins s σ H x y v u Q I rx ry h => h.elim (fun h => op_eq pins s σ H x y v u Q I rx ry h) (fun h => op_eqD hu pins s σ H x y v u Q I rx ry h)
theorem op_neA {X : Cx} (hu : X.A.units + 64 < cLine) : OpR X (compareOp .NotEq) (rNeA X.K) := fun pins s σ H x y v u Q I rx ry h => h.elim (fun h => op_ne pins s σ H x y v u Q I rx ry h) (fun h => op_neD hu pins s σ H x y v u Q I rx ry h)
/-- is None, is not None -/
def isNonW : W → Bool
  | .d .none => true
  | _ => false
def oIsN (n : Bool) : F2 := fun a b S => match b with
  | .d .none => some (.d (.bool (if n then !isNonW a else isNonW a)), S)
  | _ => none
theorem isNon_of {A : Wd} {x : V} {a : W} (h : WR K tb A x a) : decide (x = V.non) = isNonW a := by
  cases a with
  | d y => cases (show DR K tb A x y from h) <;> first | rfl | exact decide_eq_false (fun z => nomatch z)
  | loc n => obtain ⟨a, rfl, _⟩ := h; exact decide_eq_false (fun z => nomatch z)
theorem oIsN_some {n : Bool} {a b : W} {S S' : Mem} {w : W} (h : oIsN n a b S = some (w, S')) : b = .d .none ∧ w = .d (.bool (if n then !isNonW a else isNonW a)) ∧ S' = S := by
  unfold oIsN at h
  split at h
  · cases h; exact ⟨rfl, rfl, rfl⟩
  · cases h
theorem sr_isN : SR K tb (fun x y H Q => y = .non ∧ Q (.bl (decide (x = .non))) H) (oIsN false) := fun A x y a b S w S' Q R ra rb e q => by
  obtain ⟨rfl, rfl, rfl⟩ := oIsN_some e
  exact ⟨rb.non, by rw [isNon_of ra]; exact q _ A .refl R (DR.bl _)⟩
theorem sr_notN : SR K tb (fun x y H Q => y = .non ∧ Q (.bl (!decide (x = .non))) H) (oIsN true) := fun A x y a b S w S' Q R ra rb e q => by
  obtain ⟨rfl, rfl, rfl⟩ := oIsN_some e
  exact ⟨rb.non, by rw [isNon_of ra]; exact q _ A .refl R (DR.bl _)⟩
/-! ### tests -/
def eB (m : ME) : MT := fun ρ S => (m ρ S).bind fun p => match p.1 with
  | .d (.bool b) => some (b, p.2)
  | _ => none
theorem eB_some {m : ME} {ρ : Env'} {S S' : Mem} {b : Bool} (h : eB m ρ S = some (b, S')) : m ρ S = some (.d (.bool b), S') := by
  obtain ⟨p, e1, e⟩ := Option.bind_eq_some_iff.mp h
  obtain ⟨w, S1⟩ := p
  dsimp only at e
  split at e
  · cases e; exact e1
  · cases e
theorem st_of {te : TE} {m : ME} {t : TT} (h : SE K tb te m) (ht : ∀ σ H Q, te σ H (fun x H1 => ∃ k, x = .bl k ∧ Q k H1) → t σ H Q) : ST K tb t (eB m) := fun A σ ρ S b S' Q R E e q => by
  refine ht _ _ _ (h A σ ρ S _ S' _ R E (eB_some e) fun v B N R' r => ?_)
  exact ⟨b, r.bl, q B N R'⟩
theorem st_test {te : TE} {m : ME} (h : SE K tb te m) : ST K tb (tTest te) (eB m) := st_of h fun _ _ _ z => z
theorem st_val {te : TE} {m : ME} (h : SE K tb te m) : ST K tb (tB te) (eB m) := st_of h fun _ _ _ z => z
def eAnd (a b : MT) : MT := fun ρ S => (a ρ S).bind fun p => if p.1 = true then b ρ p.2 else some (false, p.2)
def eOr (a b : MT) : MT := fun ρ S => (a ρ S).bind fun p => if p.1 = true then some (true, p.2) else b ρ p.2
def eNot (a : MT) : MT := fun ρ S => (a ρ S).bind fun p => some (!p.1, p.2)
theorem st_and {t u : TT} {a b : MT} (ha : ST K tb t a) (hb : ST K tb u b) : ST K tb (tAnd t u) (eAnd a b) := fun A σ ρ S c S' Q R E e q => by
  obtain ⟨⟨k, S1⟩, e1, e⟩ := Option.bind_eq_some_iff.mp e
  refine ha A σ ρ S k S1 _ R E e1 fun B N R1 => ?_
  cases k with
  | true => exact hb B σ ρ S1 c S' Q R1 (E.nxt N) e fun C N2 R2 => q C (N.trans N2) R2
  | false => cases e; exact q B N R1
theorem st_or {t u : TT} {a b : MT} (ha : ST K tb t a) (hb : ST K tb u b) : ST K tb (tOr t u) (eOr a b) := fun A σ ρ S c S' Q R E e q => by
  obtain ⟨⟨k, S1⟩, e1, e⟩ := Option.bind_eq_some_iff.mp e
  refine ha A σ ρ S k S1 _ R E e1 fun B N R1 => ?_
  cases k with
  | false => exact hb B σ ρ S1 c S' Q R1 (E.nxt N) e fun C N2 R2 => q C (N.trans N2) R2
  | true => cases e; exact q B N R1
theorem st_not {t : TT} {a : MT} (ha : ST K tb t a) : ST K tb (tNot t) (eNot a) := fun A σ ρ S c S' Q R E e q => by
  obtain ⟨⟨k, S1⟩, e1, e⟩ := Option.bind_eq_some_iff.mp e
  cases e
  exact ha A σ ρ S k _ _ R E e1 fun B N R1 => q B N R1
/-- and, or, not as values -/
def eT (a : MT) : ME := fun ρ S => (a ρ S).bind fun p => some (.d (.bool p.1), p.2)
def eAndV (a b : ME) : ME := fun ρ S => (eB a ρ S).bind fun p => if p.1 = true then b ρ p.2 else some (.d (.bool false), p.2)
def eOrV (a b : ME) : ME := fun ρ S => (eB a ρ S).bind fun p => if p.1 = true then some (.d (.bool true), p.2) else b ρ p.2
def eNotV (a : ME) : ME := fun ρ S => (eB a ρ S).bind fun p => some (.d (.bool (!p.1)), p.2)
theorem se_andV {ta tb' : TE} {a b : ME} (ha : SE K tb ta a) (hb : SE K tb tb' b) : SE K tb (tAndV ta tb') (eAndV a b) := fun A σ ρ S w S' Q R E e q => by
  obtain ⟨⟨k, S1⟩, e1, e⟩ := Option.bind_eq_some_iff.mp e
  refine ha A σ ρ S _ S1 _ R E (eB_some e1) fun v B N R1 r1 => ⟨k, r1.bl, ?_⟩
  cases k with
  | true => exact hb B σ ρ S1 w S' Q R1 (E.nxt N) e (q.nxt N)
  | false => cases e; exact q _ B N R1 (DR.bl false)
theorem se_orV {ta tb' : TE} {a b : ME} (ha : SE K tb ta a) (hb : SE K tb tb' b) : SE K tb (tOrV ta tb') (eOrV a b) := fun A σ ρ S w S' Q R E e q => by
  obtain ⟨⟨k, S1⟩, e1, e⟩ := Option.bind_eq_some_iff.mp e
  refine ha A σ ρ S _ S1 _ R E (eB_some e1) fun v B N R1 r1 => ⟨k, r1.bl, ?_⟩
  cases k with
  | false => exact hb B σ ρ S1 w S' Q R1 (E.nxt N) e (q.nxt N)
  | true => cases e; exact q _ B N R1 (DR.bl true)
theorem se_notV {ta : TE} {a : ME} (ha : SE K tb ta a) : SE K tb (tNotV ta) (eNotV a) := fun A σ ρ S w S' Q R E e q => by
  obtain ⟨⟨k, S1⟩, e1, e⟩ := Option.bind_eq_some_iff.mp e
  cases e
  exact ha A σ ρ S _ _ _ R E (eB_some e1) fun v B N R1 r1 => ⟨k, r1.bl, q _ B N R1 (DR.bl _)⟩
def eIf (c : MT) (a b : ME) : ME := fun ρ S => (c ρ S).bind fun p => if p.1 = true then a ρ p.2 else b ρ p.2
theorem se_if {t : TT} {ta tb' : TE} {c : MT} {a b : ME} (hc : ST K tb t c) (ha : SE K tb ta a) (hb : SE K tb tb' b) : SE K tb (tIf t ta tb') (eIf c a b) := fun A σ ρ S w S' Q R E e q => by
  obtain ⟨⟨k, S1⟩, e1, e⟩ := Option.bind_eq_some_iff.mp e
  refine hc A σ ρ S k S1 _ R E e1 fun B N R1 => ?_
  cases k with
  | true => exact ha B σ ρ S1 w S' Q R1 (E.nxt N) e (q.nxt N)
  | false => exact hb B σ ρ S1 w S' Q R1 (E.nxt N) e (q.nxt N)
/-- a chain of two comparisons -/
def eChain (f g : F2) (a b c : ME) : ME := fun ρ S => (a ρ S).bind fun p => (b ρ p.2).bind fun q => (f p.1 q.1 q.2).bind fun z => match z.1 with
  | .d (.bool true) => (c ρ z.2).bind fun u => g q.1 u.1 u.2
  | .d (.bool false) => some (.d (.bool false), z.2)
  | _ => none
/-! ### arguments, displays -/
def aNil : MA := fun _ S => some ([], S)
def aCons (a : ME) (t : MA) : MA := fun ρ S => (a ρ S).bind fun p => (t ρ p.2).bind fun q => some (p.1 :: q.1, q.2)
theorem sa_nil : SA K tb tNil aNil := fun A σ ρ S ws S' Q R E e q => by cases e; exact q [] A .refl R .nil
theorem sa_cons {ta : TE} {t : TA} {a : ME} {m : MA} (ha : SE K tb ta a) (ht : SA K tb t m) : SA K tb (tCons ta t) (aCons a m) := fun A σ ρ S ws S' Q R E e q => by
  obtain ⟨p, e1, e⟩ := Option.bind_eq_some_iff.mp e
  obtain ⟨z, e2, e⟩ := Option.bind_eq_some_iff.mp e
  cases e
  exact ha A σ ρ S p.1 p.2 _ R E e1 fun x B N R1 r1 => ht B σ ρ p.2 z.1 z.2 _ R1 (E.nxt N) e2 fun xs C N2 R2 r2 => q _ C (N.trans N2) R2 (.cons (r1.nxt N2) r2)
/-- the data of values, if they are data -/
def dOf : List W → Option (List PyData)
  | [] => some []
  | .d x :: ws => (dOf ws).map (x :: ·)
  | .loc _ :: _ => none
theorem drs_of {A : Wd} : ∀ {vs : List V} {ws : List W} {ds : List PyData}, WRs K tb A vs ws → dOf ws = some ds → DRs K tb A vs ds
  | _, [], _, .nil, e => by cases e; exact .nil
  | _, .d x :: ws, _, .cons r t, e => by
    obtain ⟨ds, e1, e2⟩ := Option.map_eq_some_iff.mp e
    subst e2
    exact .cons r (drs_of t e1)
  | _, .loc n :: ws, _, .cons r t, e => by cases e
theorem wrs_of {A : Wd} : ∀ {vs : List V} {ds : List PyData}, DRs K tb A vs ds → WRs K tb A vs (ds.map .d)
  | _, [], h => by cases h; exact .nil
  | _, d :: ds, h => by cases h with | cons a b => exact .cons a (wrs_of b)
theorem dOf_length : ∀ {ws : List W} {ds : List PyData}, dOf ws = some ds → ws.length = ds.length
  | [], _, e => by cases e; rfl
  | .d x :: ws, _, e => by
    obtain ⟨ds, e1, e2⟩ := Option.map_eq_some_iff.mp e
    subst e2
    simp [dOf_length e1]
  | .loc n :: ws, _, e => by cases e
theorem dOf_map : ∀ {ds : List PyData}, dOf (ds.map .d) = some ds
  | [] => rfl
  | d :: ds => by show (dOf (ds.map .d)).map _ = _; rw [dOf_map]; rfl
/-- a tuple; a list that is never changed; a list that may be changed -/
def mkT (ws : List W) (S : Mem) : Option (W × Mem) := (dOf ws).bind fun ds => if ds.length ≤ sizeLine then some (.d (.tuple ds), S) else none
def mkF (ws : List W) (S : Mem) : Option (W × Mem) := (dOf ws).bind fun ds => if ds.length ≤ sizeLine then some (.d (.list ds), S) else none
def mkL (ws : List W) (S : Mem) : Option (W × Mem) := if ws.length ≤ sizeLine then some (.loc S.length, S ++ [.lst ws]) else none
def eTup (a : MA) : ME := fun ρ S => (a ρ S).bind fun p => mkT p.1 p.2
def eLstF (a : MA) : ME := fun ρ S => (a ρ S).bind fun p => mkF p.1 p.2
def eLstL (a : MA) : ME := fun ρ S => (a ρ S).bind fun p => mkL p.1 p.2
theorem WRs.length {A : Wd} {vs : List V} {ws : List W} (h : WRs K tb A vs ws) : vs.length = ws.length := Paired.length h
theorem mkT_run {A : Wd} {vs : List V} {ws : List W} {S S' : Mem} {w : W} {Q : VK} (R : Rep K tb A S) (r : WRs K tb A vs ws) (h : mkT ws S = some (w, S')) (q : Pd.KE K tb A w S' Q) : vs.length ≤ sizeLine ∧ ∀ p, A.H p = none → Q (.ref p) (upd A.H p (.tup vs)) := by
  obtain ⟨ds, e1, e⟩ := Option.bind_eq_some_iff.mp h
  split at e
  · rename_i hl
    cases e
    have rd := drs_of r e1
    refine ⟨by rw [rd.length]; exact hl, fun p hp => ?_⟩
    exact q _ (A.put p (.tup vs)) (.put hp _) (R.put hp _) (DR.tup (.inl (.put R hp _)) (DRs.nxt (.put hp _) ds rd))
  · cases e
theorem mkF_run {A : Wd} {vs : List V} {ws : List W} {S S' : Mem} {w : W} {Q : VK} (R : Rep K tb A S) (r : WRs K tb A vs ws) (h : mkF ws S = some (w, S')) (q : Pd.KE K tb A w S' Q) : vs.length ≤ sizeLine ∧ ∀ p, A.H p = none → Q (.ref p) (upd A.H p (.lst vs)) := by
  obtain ⟨ds, e1, e⟩ := Option.bind_eq_some_iff.mp h
  split at e
  · rename_i hl
    cases e
    have rd := drs_of r e1
    refine ⟨by rw [rd.length]; exact hl, fun p hp => ?_⟩
    exact q _ (A.put p (.lst vs)) (.put hp _) (R.put hp _) (DR.lst (.put R hp _) (DRs.nxt (.put hp _) ds rd))
  · cases e
theorem mkL_run {A : Wd} {vs : List V} {ws : List W} {S S' : Mem} {w : W} {Q : VK} (R : Rep K tb A S) (r : WRs K tb A vs ws) (h : mkL ws S = some (w, S')) (q : Pd.KE K tb A w S' Q) : vs.length ≤ sizeLine ∧ ∀ p, A.H p = none → Q (.ref p) (upd A.H p (.lst vs)) := by
  unfold mkL at h
  split at h
  · rename_i hl
    cases h
    refine ⟨by rw [WRs.length r]; exact hl, fun p hp => ?_⟩
    refine q _ (A.add p (.lst vs)) (.add hp _) (R.add hp ⟨vs, upd_same, r.nxt (.add hp _)⟩) ⟨p, rfl, ?_⟩
    show (A.ι ++ [p])[S.length]? = some p
    rw [← R.len]; simp
  · cases h
theorem se_tup {t : TA} {a : MA} (ha : SA K tb t a) : SE K tb (tTup t) (eTup a) := fun A σ ρ S w S' Q R E e q => by
  obtain ⟨p, e1, e⟩ := Option.bind_eq_some_iff.mp e
  exact ha A σ ρ S p.1 p.2 _ R E e1 fun vs B N R1 r1 => mkT_run R1 r1 e (q.nxt N)
theorem se_lstF {t : TA} {a : MA} (ha : SA K tb t a) : SE K tb (tLst t) (eLstF a) := fun A σ ρ S w S' Q R E e q => by
  obtain ⟨p, e1, e⟩ := Option.bind_eq_some_iff.mp e
  exact ha A σ ρ S p.1 p.2 _ R E e1 fun vs B N R1 r1 => mkF_run R1 r1 e (q.nxt N)
theorem se_lstL {t : TA} {a : MA} (ha : SA K tb t a) : SE K tb (tLst t) (eLstL a) := fun A σ ρ S w S' Q R E e q => by
  obtain ⟨p, e1, e⟩ := Option.bind_eq_some_iff.mp e
  exact ha A σ ρ S p.1 p.2 _ R E e1 fun vs B N R1 r1 => mkL_run R1 r1 e (q.nxt N)
/-! ### statements -/
def sNx : MS := fun ρ S => some (.nx, ρ, S)
def sSeq (a b : MS) : MS := fun ρ S => (a ρ S).bind fun p => match p.1 with
  | .nx => b p.2.1 p.2.2
  | o => some (o, p.2)
def sIf (c : MT) (a b : MS) : MS := fun ρ S => (c ρ S).bind fun p => if p.1 = true then a ρ p.2 else b ρ p.2
def sRet (a : ME) : MS := fun ρ S => (a ρ S).bind fun p => some (.rt p.1, ρ, p.2)
def sDrop (a : ME) : MS := fun ρ S => (a ρ S).bind fun p => some (.nx, ρ, p.2)
def sAsg (a : ME) (g : MG) : MS := fun ρ S => (a ρ S).bind fun p => (g p.1 ρ p.2).bind fun q => some (.nx, q.1, q.2)
def sBrk : MS := fun ρ S => some (.bk, ρ, S)
def sCt : MS := fun ρ S => some (.ct, ρ, S)
def sNone : MS := fun _ _ => none
theorem ss_nil : SS K tb tNext sNx := fun A σ ρ S o ρ' S' D R E e q => by cases e; exact q A σ .refl R E
theorem ss_brk : SS K tb tBreak sBrk := fun A σ ρ S o ρ' S' D R E e q => by cases e; exact q A σ .refl R E
theorem ss_ct : SS K tb tCont sCt := fun A σ ρ S o ρ' S' D R E e q => by cases e; exact q A σ .refl R E
/-- a statement that is never reached -/
theorem ps_none {X : Cx} {st : Stmt} : PS X st tNever := ⟨fun _ _ _ _ _ _ h => h.elim⟩
theorem ss_none : SS K tb tNever sNone := fun A σ ρ S o ρ' S' D R E e q => by cases e
theorem ss_seq {t u : TS} {a b : MS} (ha : SS K tb t a) (hb : SS K tb u b) : SS K tb (tSeq t u) (sSeq a b) := fun A σ ρ S o ρ' S' D R E e q => by
  obtain ⟨⟨o1, ρ1, S1⟩, e1, e⟩ := Option.bind_eq_some_iff.mp e
  refine ha A σ ρ S o1 ρ1 S1 _ R E e1 ?_
  cases o1 with
  | nx => exact fun B σ' N R' E' => hb B σ' ρ1 S1 o ρ' S' D R' E' e (q.nxt N)
  | bk => cases e; exact q
  | ct => cases e; exact q
  | rt w => cases e; exact q
theorem ss_if {c : TT} {t u : TS} {m : MT} {a b : MS} (hc : ST K tb c m) (ha : SS K tb t a) (hb : SS K tb u b) : SS K tb (tIfS c t u) (sIf m a b) := fun A σ ρ S o ρ' S' D R E e q => by
  obtain ⟨⟨k, S1⟩, e1, e⟩ := Option.bind_eq_some_iff.mp e
  refine hc A σ ρ S k S1 _ R E e1 fun B N R1 => ?_
  cases k with
  | true => exact ha B σ ρ S1 o ρ' S' D R1 (E.nxt N) e (q.nxt N)
  | false => exact hb B σ ρ S1 o ρ' S' D R1 (E.nxt N) e (q.nxt N)
theorem ss_ret {te : TE} {a : ME} (ha : SE K tb te a) : SS K tb (tRet te) (sRet a) := fun A σ ρ S o ρ' S' D R E e q => by
  obtain ⟨p, e1, e⟩ := Option.bind_eq_some_iff.mp e
  cases e
  exact ha A σ ρ S p.1 p.2 _ R E e1 fun v B N R1 r => q B v N R1 r
theorem ss_drop {te : TE} {a : ME} (ha : SE K tb te a) : SS K tb (tDrop te) (sDrop a) := fun A σ ρ S o ρ' S' D R E e q => by
  obtain ⟨p, e1, e⟩ := Option.bind_eq_some_iff.mp e
  cases e
  exact ha A σ ρ S p.1 p.2 _ R E e1 fun v B N R1 r => q B σ N R1 (E.nxt N)
theorem ss_asg {te : TE} {a : ME} {g : TG} {m : MG} {vs : List Nat} (ha : SE K tb te a) (hg : SG K tb vs g m) : SS K tb (tAsg te g) (sAsg a m) := fun A σ ρ S o ρ' S' D R E e q => by
  obtain ⟨p, e1, e⟩ := Option.bind_eq_some_iff.mp e
  obtain ⟨z, e2, e⟩ := Option.bind_eq_some_iff.mp e
  cases e
  exact ha A σ ρ S p.1 p.2 _ R E e1 fun v B N R1 r => hg B v p.1 σ ρ p.2 z.1 z.2 _ R1 (E.nxt N) r e2 fun C σ' N2 R2 E2 _ _ => q C σ' (N.trans N2) R2 E2
/-! ### targets -/
def gN (i : Nat) : MG := fun w ρ S => some (ρ.set i (some w), S)
theorem sg_name (i : Nat) : SG K tb [i] (gName i) (gN i) := fun A v w σ ρ S ρ' S' Q R E r e q => by
  cases e
  refine q A _ .refl R (E.set r i) (by rw [List.length_set]) fun j hj => ?_
  rw [List.getElem?_set_ne (fun z => hj (by rw [z]; exact List.mem_singleton.mpr rfl))]
abbrev MGs := List PyData → Env' → Mem → Option (Env' × Mem)
def SGs (K : PySem.W.Frag) (tb : List Addr) (vs : List Nat) (g : TGs) (m : MGs) : Prop := ∀ A xs ds σ ρ S ρ' S' (Q : L2.St → Hp → Prop), Rep K tb A S → ER K tb A σ ρ → DRs K tb A xs ds → m ds ρ S = some (ρ', S') →
  (∀ B σ', Nxt tb A B → Rep K tb B S' → ER K tb B σ' ρ' → σ'.length = σ.length → (∀ j, j ∉ vs → σ'[j]? = σ[j]?) → Q σ' B.H) → g xs σ A.H Q
def gsNil : MGs := fun ds ρ S => match ds with
  | [] => some (ρ, S)
  | _ => none
def gsCons (g : MG) (m : MGs) : MGs := fun ds ρ S => match ds with
  | [] => none
  | d :: ds => (g (.d d) ρ S).bind fun p => m ds p.1 p.2
def gTup' (m : MGs) : MG := fun w ρ S => match w with
  | .d (.tuple ds) => m ds ρ S
  | _ => none
theorem sgs_nil : SGs K tb [] gNil gsNil := fun A xs ds σ ρ S ρ' S' Q R E r e q => by
  unfold gsNil at e
  split at e
  · cases e; cases r; exact ⟨rfl, q A σ .refl R E rfl fun _ _ => rfl⟩
  · cases e
theorem sgs_cons {vs us : List Nat} {g : TG} {u : TGs} {m : MG} {n : MGs} (hg : SG K tb vs g m) (hu : SGs K tb us u n) : SGs K tb (vs ++ us) (gCons g u) (gsCons m n) := fun A xs ds σ ρ S ρ' S' Q R E r e q => by
  cases ds with
  | nil => cases e
  | cons d ds =>
    obtain ⟨p, e1, e⟩ := Option.bind_eq_some_iff.mp e
    cases r with
    | cons a b =>
      refine ⟨_, _, rfl, hg A _ (.d d) σ ρ S p.1 p.2 _ R E a e1 fun B σ' N R1 E1 hl hj => ?_⟩
      refine hu B _ ds σ' p.1 p.2 ρ' S' Q R1 E1 (DRs.nxt N ds b) e fun C σ2 N2 R2 E2 hl2 hj2 => q C σ2 (N.trans N2) R2 E2 (hl2.trans hl) fun j hn => ?_
      rw [List.mem_append, not_or] at hn
      exact (hj2 j hn.2).trans (hj j hn.1)
/-- how many the target takes -/
def SGlen (n : Nat) (m : MGs) : Prop := ∀ ds ρ S r, m ds ρ S = some r → ds.length = n
theorem glen_nil : SGlen 0 gsNil := fun ds ρ S r e => by
  unfold gsNil at e
  split at e
  · rfl
  · cases e
theorem glen_cons {n : Nat} {g : MG} {m : MGs} (h : SGlen n m) : SGlen (n + 1) (gsCons g m) := fun ds ρ S r e => by
  cases ds with
  | nil => cases e
  | cons d ds =>
    obtain ⟨p, e1, e⟩ := Option.bind_eq_some_iff.mp e
    simp [h _ _ _ _ e]
theorem sg_tup {n : Nat} {vs : List Nat} {g : TGs} {m : MGs} (hl : SGlen n m) (h : SGs K tb vs g m) : SG K tb vs (gTup K n g) (gTup' m) := fun A v w σ ρ S ρ' S' Q R E r e q => by
  unfold gTup' at e
  split at e
  · rename_i ds
    obtain ⟨a, xs, rfl, f, rd⟩ := r.tup
    exact ⟨a, xs, rfl, f.sq, by rw [rd.length]; exact hl _ _ _ _ e, h A xs ds σ ρ S ρ' S' Q R E rd e q⟩
  · cases e
end
end Pd
namespace Pd
open PySem PySem.Spec PyProof.Rows L2 GxR Gx
/-! ### defs -/
abbrev MF := List W → Mem → Option (W × Mem)
section
variable {K : PySem.W.Frag} {tb : List Addr}
def spD (K : PySem.W.Frag) (tb : List Addr) (n : Nat) (m : MF) : Sp := fun vs H Q _ => vs.length = n ∧ ∃ (A : Wd) (ws : List W) (S : Mem) (w : W) (S' : Mem), A.H = H ∧ WRs K tb A vs ws ∧ Rep K tb A S ∧ m ws S = some (w, S') ∧ Pd.KE K tb A w S' Q
def Ar (n : Nat) (m : MF) : Prop := ∀ ws S r, m ws S = some r → ws.length = n
def eCall (m : MF) (a : MA) : ME := fun ρ S => (a ρ S).bind fun p => m p.1 p.2
theorem se_call {n : Nat} {m : MF} {t : TA} {a : MA} {E : XK} (h : Ar n m) (ha : SA K tb t a) : SE K tb (tCall (spD K tb n m) [] E t) (eCall m a) := fun A σ ρ S w S' Q R E e q => by
  obtain ⟨p, e1, e⟩ := Option.bind_eq_some_iff.mp e
  refine ha A σ ρ S p.1 p.2 _ R E e1 fun vs B N R1 r1 => ?_
  rw [List.append_nil]
  exact ⟨by rw [WRs.length r1]; exact h _ _ _ e, B, p.1, p.2, w, S', rfl, r1, R1, e, q.nxt N⟩
def mNone : MF := fun _ _ => none
theorem ar_none {n : Nat} : Ar n mNone := fun _ _ _ h => nomatch h
/-- the locations of an object stand below n -/
def wLt (n : Nat) : W → Bool
  | .d _ => true
  | .loc k => decide (k < n)
def obLt (n : Nat) : Ob → Bool
  | .lst ws => ws.all (wLt n)
  | .dct kvs => kvs.all fun p => wLt n p.2
  | .ins _ fs => fs.all fun p => wLt n p.2
/-- a def's end: its own lists are given up, the one that it returns is never changed again -/
def fin (f : Bool) (n : Nat) (w : W) (S : Mem) : Option (W × Mem) := if f = false then some (w, S) else
  if (S.take n).all (obLt n) = true then match w with
    | .d x => some (.d x, S.take n)
    | .loc k => if k < n then some (.loc k, S.take n) else match S[k]? with
      | some (.lst ws) => (dOf ws).map fun ds => (.d (.list ds), S.take n)
      | _ => none
  else none
theorem wLt_wr {A : Wd} {n : Nat} {v : V} {w : W} (R : WR K tb A v w) (h : wLt n w = true) : WR K tb { A with ι := A.ι.take n } v w := by
  cases w with
  | d x =>
    have key : ∀ {a : Addr} {u : HO}, Fz tb A a u → Fz tb { A with ι := A.ι.take n } a u := fun {a u} z => ⟨fun m => z.1 (m.imp (fun y => List.mem_of_mem_take y) id), z.2⟩
    have all : (∀ (v : V) (x : PyData), DR K tb A v x → DR K tb { A with ι := A.ι.take n } v x) := by
      intro v x h
      exact DR.rec (motive_1 := fun v x _ => DR K tb { A with ι := A.ι.take n } v x) (motive_2 := fun vs xs _ => DRs K tb { A with ι := A.ι.take n } vs xs)
        .non .bl .int .str (fun f _ r => .lst (key f) r) (fun f _ r => .scr (f.imp key id) r) (fun f _ r => .tup (f.imp key id) r) .nil (fun _ _ a b => .cons a b) h
    exact all v x R
  | loc k =>
    obtain ⟨a, e, i⟩ := R
    have hk : k < n := of_decide_eq_true h
    exact ⟨a, e, by show (A.ι.take n)[k]? = some a; rw [List.getElem?_take_of_lt hk]; exact i⟩
theorem drs_map {A B : Wd} (all : ∀ (x : PyData) (v : V), DR K tb A v x → DR K tb B v x) : ∀ {vs : List V} {ds : List PyData}, DRs K tb A vs ds → DRs K tb B vs ds
  | _, [], h => by cases h; exact .nil
  | _, d :: ds, h => by cases h with | cons a b => exact .cons (all _ _ a) (drs_map all b)
theorem fin_run {A B : Wd} {S S' : Mem} {f : Bool} {v : V} {w w' : W} {S'' : Mem} {Q : VK} (R0 : Rep K tb A S) (N : Nxt tb A B) (R : Rep K tb B S') (r : WR K tb B v w) (h : fin f S.length w S' = some (w', S'')) (q : Pd.KE K tb A w' S'' Q) : Q v B.H := by
  unfold fin at h
  split at h
  · cases h; exact q v B N R r
  split at h
  · rename_i hall
    obtain ⟨more, em⟩ := N.pre
    have et : B.ι.take S.length = A.ι := by rw [em, ← R0.len, List.take_left]
    let C : Wd := { B with ι := B.ι.take S.length }
    have up : ∀ {b : Addr}, b ∈ A.ι → b ∈ B.ι := fun {b} z => by rw [em]; exact List.mem_append_left _ z
    have NC : Nxt tb A C := ⟨N.hid, N.hid2, N.more, ⟨[], by show B.ι.take S.length = _; rw [et, List.append_nil]⟩, fun b o n t e => ⟨(N.keep b o n t e).1, fun z => n (by have z' : b ∈ B.ι.take S.length := z; rwa [et] at z')⟩⟩
    have obC : ∀ {ob : Ob} {a : Addr}, OR K tb B ob a → obLt S.length ob = true → OR K tb C ob a := fun {ob a} z hl => by
      cases ob with
      | lst ws =>
        obtain ⟨vs, e, rr⟩ := z
        refine ⟨vs, e, ?_⟩
        have hl : ws.all (wLt S.length) = true := hl
        clear e h hall
        induction rr with
        | nil => exact .nil
        | cons a b ih =>
          rw [List.all_cons, Bool.and_eq_true] at hl
          exact .cons (wLt_wr a hl.1) (ih hl.2 hl.2)
      | dct kvs =>
        obtain ⟨vs, e, rr⟩ := z
        refine ⟨vs, e, ?_⟩
        have hl : (kvs.all fun p => wLt S.length p.2) = true := hl
        clear e h hall
        induction rr with
        | nil => exact .nil
        | cons a b ih =>
          rw [List.all_cons, Bool.and_eq_true] at hl
          exact .cons ⟨a.1, wLt_wr a.2 hl.1⟩ (ih hl.2 hl.2)
      | ins CC fs =>
        obtain ⟨dx, vs, e, rr⟩ := z
        refine ⟨dx, vs, e, ?_⟩
        have hl : (fs.all fun p => wLt S.length p.2) = true := hl
        clear e h hall
        induction rr with
        | nil => exact .nil
        | cons a b ih =>
          rw [List.all_cons, Bool.and_eq_true] at hl
          exact .cons ⟨a.1, wLt_wr a.2 hl.1⟩ (ih hl.2 hl.2)
    have RC : Rep K tb C (S'.take S.length) := by
      refine ⟨?_, ?_, R.tabs, fun b hb => ?_, fun n a ob e1 e2 => ?_⟩
      · show (B.ι.take S.length).length = _
        rw [List.length_take, List.length_take, R.len]
      · exact R.nd.sublist (List.take_sublist _ _)
      · obtain ⟨h1, h2, h3⟩ := R.hd b hb
        exact ⟨h1, fun z => h2 (List.mem_of_mem_take z), h3⟩
      · have e1 : (B.ι.take S.length)[n]? = some a := e1
        have hn : n < S.length := by
          have := (List.getElem?_eq_some_iff.mp e1).1
          rw [List.length_take] at this
          omega
        have e2' := e2
        rw [List.getElem?_take_of_lt hn] at e1 e2
        exact obC (R.at_ n a ob e1 e2) (List.all_eq_true.mp hall ob (List.mem_of_getElem? e2'))
    cases w with
    | d x =>
      cases h
      exact q v C NC RC (wLt_wr (w := .d x) r rfl)
    | loc k =>
      dsimp only at h
      split at h
      · rename_i hk
        cases h
        exact q v C NC RC (wLt_wr (w := .loc k) r (decide_eq_true hk))
      · rename_i hk
        split at h
        · rename_i ws ek
          obtain ⟨ds, e1, e2⟩ := Option.map_eq_some_iff.mp h
          cases e2
          obtain ⟨a, rfl, ei⟩ := r
          have o := R.at_ k a _ ei ek
          obtain ⟨vs, ev, rr⟩ := o
          refine q _ C NC RC (DR.lst ⟨?_, .inl ev⟩ ?_)
          · rintro (z | z | z)
            · have z : a ∈ B.ι.take S.length := z
              obtain ⟨j, hj, ej⟩ := List.getElem_of_mem z
              have ej' : (B.ι.take S.length)[j]? = some a := by rw [List.getElem?_eq_getElem hj, ej]
              have hjl : j < S.length := by rw [List.length_take] at hj; omega
              rw [List.getElem?_take_of_lt hjl] at ej'
              obtain ⟨h1, q1⟩ := List.getElem?_eq_some_iff.mp ej'
              obtain ⟨h2, q2⟩ := List.getElem?_eq_some_iff.mp ei
              have := (List.getElem_inj R.nd).mp (q1.trans q2.symm)
              omega
            · exact R.tab_ne (List.mem_of_getElem? ei) z rfl
            · exact (R.hd a z).2.1 (List.mem_of_getElem? ei)
          · have rd := drs_of rr e1
            have all : ∀ (x : PyData) (v : V), DR K tb B v x → DR K tb C v x := fun x v z => wLt_wr (w := .d x) z rfl
            exact drs_map all rd
        · cases h
  · cases h
/-- a def with n parameters, k further names -/
def dfn (n k : Nat) (f : Bool) (body : MS) : MF := fun ws S => if ws.length = n then (body (ws.map some ++ List.replicate k none) S).bind fun p => match p.1 with
    | .nx => fin f S.length (.d .none) p.2.2
    | .rt w => fin f S.length w p.2.2
    | _ => none
  else none
theorem ar_dfn {n k : Nat} {f : Bool} {body : MS} : Ar n (dfn n k f body) := fun ws S r h => by
  unfold dfn at h
  split at h
  · assumption
  · cases h
theorem er_start {A : Wd} {vs : List V} {ws : List W} (r : WRs K tb A vs ws) (k : Nat) : ER K tb A (vs.map some ++ List.replicate k none) (ws.map some ++ List.replicate k none) := by
  refine ⟨by simp [WRs.length r], fun i w e => ?_⟩
  have hl := WRs.length r
  by_cases hi : i < ws.length
  · rw [List.getElem?_append_left (by simpa using hi), List.getElem?_map] at e
    rw [List.getElem?_append_left (by simpa [hl] using hi), List.getElem?_map]
    obtain ⟨w', e1, e2⟩ := Option.map_eq_some_iff.mp e
    cases e2
    have : ∀ {vs : List V} {ws : List W} {i : Nat} {w : W}, WRs K tb A vs ws → ws[i]? = some w → ∃ v, vs[i]? = some v ∧ WR K tb A v w := by
      intro vs ws i w r
      induction r generalizing i with
      | nil => intro e; simp at e
      | cons a b ih =>
        intro e
        cases i with
        | zero => simp at e; subst e; exact ⟨_, rfl, a⟩
        | succ i => simp at e; obtain ⟨v, q, z⟩ := ih e; exact ⟨v, by simpa using q, z⟩
    obtain ⟨v, q, z⟩ := this r e1
    exact ⟨v, by rw [q]; rfl, z⟩
  · rw [List.getElem?_append_right (by simpa using hi), List.getElem?_replicate] at e
    split at e <;> cases e
/-- a def, its code object at c -/
structure FunC (K : PySem.W.Frag) (x qual : Str) (st : Stmt) (f : Addr) (fd : FuncData) (c : Addr) : Prop where
  ex : ∃ (oc : Value) (od : Option Addr) (kV doc pm : Value) (an : Option Addr) (ct : Value) (osl : Array (Option Value)),
    fd = PySem.W.fnOf x qual (defArgs st) (defBody st) (defScope st) .none kV doc pm an (.ref c) ct ∧ K.lookup f = some ⟨oc, od, .func fd, osl⟩ ∧ PySem.W.codeIn K (.ref c) qual = true
  kp : PySem.W.keepIn K (.ref f) = true
variable {P : Program} {w : World} {mg : Str → Option Value} {base : Heap}
theorem def_ok {x qual : Str} {st : Stmt} {f : Addr} {fd : FuncData} {c : Addr} {N ps : List Str} {k : Nat} {fz : Bool} {body : MS} (F : FunC K x qual st f fd c) (S : FnScope N ps (defScope st))
    (hbody : ∀ (A : Around) (outer : List Env) (s : Shared) (H : Hp) (E : XK), Room k (A.deeper (envOfC qual (defScope st) s.heap.objs.size f (.ref c))) →
      ∃ t, PSs (cxOf CX0 P w K mg base N qual (defScope st) f (.ref c) A outer s H E).nox (defBody st) t ∧ SS K tb t body) :
    FnOk P w K mg base CX0 (k + 1) f fd ps (spD K tb ps.length (dfn ps.length (N.length - ps.length) fz body)) := by
  obtain ⟨oc, od, kV, doc, pm, an, ct, osl, rfl, lk, hcd⟩ := F.ex
  refine fn_of lk hcd S (fun vs H Q E h => h.1) fun A outer s H vs Q E hr hsp => ?_
  obtain ⟨t, h, hs⟩ := hbody A outer s H E hr
  refine ⟨t, h.nox, ?_⟩
  obtain ⟨hl, B, ws, S0, w', S', rfl, r, R, e, q⟩ := hsp
  unfold dfn at e
  rw [if_pos (by rw [← WRs.length r, hl])] at e
  obtain ⟨⟨o, ρ', S1⟩, e1, e⟩ := Option.bind_eq_some_iff.mp e
  have hst : L2.start N vs = vs.map some ++ List.replicate (N.length - ps.length) none := by unfold L2.start; rw [hl]
  rw [hst]
  refine hs B _ _ S0 o ρ' S1 _ R (er_start r _) e1 ?_
  cases o with
  | nx => exact fun C σ' N1 R1 E1 => fin_run (v := .non) (w := .d .none) R N1 R1 DR.non e q
  | rt w2 => exact fun C v N1 R1 r1 => fin_run R N1 R1 r1 e q
  | bk => cases e
  | ct => cases e
theorem fn_none {f : Addr} {fd : FuncData} {ps : List Str} {k : Nat} : FnOk P w K mg base CX0 k f fd ps (spD K tb ps.length mNone) :=
  ⟨fun vs H Q E h => h.1, fun A outer s H args us vs Q E hr he hb hv ⟨_, _, _, _, _, _, _, _, _, e, _⟩ => nomatch e⟩
end
end Pd
namespace Pd
open PySem PySem.Spec PyProof.Rows L2 GxR Gx
/-! ### walks -/
/-- what is walked: values, or the list with this number as it stands at each turn -/
inductive Itm where
  | vals (ws : List W)
  | live (n : Nat)
  | rev (n l : Nat)
abbrev MI := Env' → Mem → Option (Itm × Mem)
section
variable {K : PySem.W.Frag} {tb : List Addr}
/-- the items as they stand -/
def Itm.now (im : Itm) (S : Mem) (ws : List W) : Prop := match im with
  | .vals us => us = ws
  | .live n => S[n]? = some (.lst ws)
  | .rev n l => ∃ us, S[n]? = some (.lst us) ∧ us.length = l ∧ ws = us.reverse
def ItOk (K : PySem.W.Frag) (tb : List Addr) (A : Wd) (J : It) (im : Itm) : Prop := ∀ B S ws, NxW tb A B → Rep K tb B S → im.now S ws →
  (∀ i w, ws[i]? = some w → J.go i B.H ∧ ∀ x H2, J.yld i B.H x H2 → ∃ C, C.H = H2 ∧ Nxt tb B C ∧ Rep K tb C S ∧ WR K tb C x w) ∧ ∀ i, ws.length ≤ i → J.stop i B.H
def SI (K : PySem.W.Frag) (tb : List Addr) (wi : TI) (mi : MI) : Prop := ∀ A σ ρ S im S' (R' : It → Hp → Prop), Rep K tb A S → ER K tb A σ ρ → mi ρ S = some (im, S') → (∀ J B, Nxt tb A B → Rep K tb B S' → ItOk K tb B J im → R' J B.H) → wi σ A.H R'
theorem ItOk.nxt {A B : Wd} {J : It} {im : Itm} (x : Nxt tb A B) (h : ItOk K tb A J im) : ItOk K tb B J im := fun C S ws y R e => h C S ws (x.w.trans y) R e
/-- the items at a turn -/
def Itm.at_ (im : Itm) (S : Mem) (i : Nat) : Option (Option W) := match im with
  | .vals ws => some ws[i]?
  | .live n => match S[n]? with
    | some (.lst ws) => some ws[i]?
    | _ => none
  | .rev n l => match S[n]? with
    | some (.lst us) => if us.length = l then some us.reverse[i]? else none
    | _ => none
def Itm.len (im : Itm) (S : Mem) : Nat := match im with
  | .vals ws => ws.length
  | .live n => match S[n]? with
    | some (.lst ws) => ws.length
    | _ => 0
  | .rev _ l => l
theorem Itm.at_now {im : Itm} {S : Mem} {i : Nat} {o : Option W} (h : im.at_ S i = some o) : ∃ ws, im.now S ws ∧ o = ws[i]? := by
  cases im with
  | vals ws => cases h; exact ⟨ws, rfl, rfl⟩
  | live n =>
    have h : (match S[n]? with | some (.lst ws) => some ws[i]? | _ => none) = some o := h
    split at h
    · rename_i ws e; cases h; exact ⟨ws, e, rfl⟩
    · cases h
  | rev n l =>
    have h : (match S[n]? with | some (.lst us) => if us.length = l then some us.reverse[i]? else none | _ => none) = some o := h
    split at h
    · rename_i us e
      split at h
      · rename_i hl; cases h; exact ⟨us.reverse, ⟨us, e, hl, rfl⟩, rfl⟩
      · cases h
    · cases h
/-! ### for -/
def forM (im : Itm) (g : MG) (b : MS) : Nat → Nat → MS
  | f, i, ρ, S => match im.at_ S i with
    | none => none
    | some none => some (.nx, ρ, S)
    | some (some w) => match f with
      | 0 => none
      | f + 1 => (g w ρ S).bind fun p => (b p.1 p.2).bind fun q => match q.1 with
        | .bk => some (.nx, q.2)
        | .rt w => some (.rt w, q.2)
        | _ => forM im g b f (i + 1) q.2.1 q.2.2
def sFor (mi : MI) (g : MG) (b : MS) : MS := fun ρ S => (mi ρ S).bind fun p => forM p.1 g b (p.1.len p.2) 0 ρ p.2
theorem ss_for {wi : TI} {g : TG} {tb' : TS} {mi : MI} {mg : MG} {b : MS} {vs : List Nat} (hi : SI K tb wi mi) (hg : SG K tb vs g mg) (hb : SS K tb tb' b) : SS K tb (tFor wi g tb') (sFor mi mg b) := fun A σ ρ S o ρ' S' D R E e q => by
  obtain ⟨⟨im, S1⟩, e1, e⟩ := Option.bind_eq_some_iff.mp e
  refine hi A σ ρ S im S1 _ R E e1 fun J B N R1 ok => ?_
  refine ⟨fun i m σ H => ∃ C ρ1 S2 o ρ' S', C.H = H ∧ Nxt tb B C ∧ Rep K tb C S2 ∧ ER K tb C σ ρ1 ∧ forM im mg b m i ρ1 S2 = some (o, ρ', S') ∧ FinK K tb D C o ρ' S', ⟨_, B, ρ, S1, o, ρ', S', rfl, .refl, R1, E.nxt N, e, q.nxt N⟩, ?_⟩
  rintro i m σ2 _ ⟨C, ρ1, S2, o, ρ', S', rfl, N2, R2, E2, e2, q2⟩
  unfold forM at e2
  split at e2
  · cases e2
  · rename_i ha
    cases e2
    obtain ⟨ws, hw, hz⟩ := Itm.at_now ha
    have st := (ok C S2 ws N2.w R2 hw).2 i (List.getElem?_eq_none_iff.mp hz.symm)
    exact .inl ⟨st, q2 C σ2 .refl R2 E2⟩
  · rename_i w ha
    obtain ⟨ws, hw, hz⟩ := Itm.at_now ha
    obtain ⟨go, yl⟩ := (ok C S2 ws N2.w R2 hw).1 i w hz.symm
    cases m with
    | zero => cases e2
    | succ m =>
      obtain ⟨⟨ρ3, S3⟩, e3, e2⟩ := Option.bind_eq_some_iff.mp e2
      obtain ⟨⟨o4, ρ4, S4⟩, e4, e2⟩ := Option.bind_eq_some_iff.mp e2
      refine .inr ⟨go, fun σ' H' => ∃ C ρ1 S2 o ρ' S', C.H = H' ∧ Nxt tb B C ∧ Rep K tb C S2 ∧ ER K tb C σ' ρ1 ∧ forM im mg b m (i + 1) ρ1 S2 = some (o, ρ', S') ∧ FinK K tb D C o ρ' S', fun σ' H' h => ⟨m, Nat.lt_succ_self m, h⟩, fun x H2 y => ?_⟩
      obtain ⟨C2, rfl, N3, R3, r3⟩ := yl x H2 y
      refine hg C2 x w σ2 ρ1 S2 ρ3 S3 _ R3 (E2.nxt N3) r3 e3 fun C3 σ3 N4 R4 E4 _ _ => ?_
      refine hb C3 σ3 ρ3 S3 o4 ρ4 S4 _ R4 E4 e4 ?_
      have NN := N2.trans (N3.trans N4)
      cases o4 with
      | nx => exact fun C5 σ5 N5 R5 E5 => ⟨C5, ρ4, S4, o, ρ', S', rfl, NN.trans N5, R5, E5, e2, q2.nxt ((N3.trans N4).trans N5)⟩
      | ct => exact fun C5 σ5 N5 R5 E5 => ⟨C5, ρ4, S4, o, ρ', S', rfl, NN.trans N5, R5, E5, e2, q2.nxt ((N3.trans N4).trans N5)⟩
      | bk => cases e2; exact fun C5 σ5 N5 R5 E5 => q2 C5 σ5 ((N3.trans N4).trans N5) R5 E5
      | rt w2 => cases e2; exact fun C5 v N5 R5 r5 => q2 C5 v ((N3.trans N4).trans N5) R5 r5
/-! ### the things that are walked -/
def seqW (w : W) : Option Itm := match w with
  | .d (.list ds) => some (.vals (ds.map .d))
  | .d (.tuple ds) => some (.vals (ds.map .d))
  | .loc n => some (.live n)
  | _ => none
def iTupM (a : ME) : MI := fun ρ S => (a ρ S).bind fun p => match p.1 with
  | .d (.tuple ds) => some (.vals (ds.map .d), p.2)
  | _ => none
def iLstM (a : ME) : MI := fun ρ S => (a ρ S).bind fun p => match p.1 with
  | .d (.list ds) => some (.vals (ds.map .d), p.2)
  | .d (.dict [(.none, .list ds)]) => some (.vals (ds.map .d), p.2)
  | .loc n => match p.2[n]? with
    | some (.lst _) => some (.live n, p.2)
    | _ => none
  | _ => none
def iRngM (lo n : W) (S : Mem) : Option (Itm × Mem) := match lo, n with
  | .d (.int lo), .d (.int n) => if decide (-(2 ^ 62) ≤ lo ∧ lo < 2 ^ 62 ∧ -(2 ^ 62) ≤ n ∧ n < 2 ^ 62) = true then some (.vals ((List.range (n - lo).toNat).map fun (i : Nat) => W.d (.int (lo + (i : Int)))), S) else none
  | _, _ => none
def iRng1M (a : MA) : MI := fun ρ S => (a ρ S).bind fun p => match p.1 with
  | [n] => iRngM (.d (.int 0)) n p.2
  | _ => none
def iRng2M (a : MA) : MI := fun ρ S => (a ρ S).bind fun p => match p.1 with
  | [lo, n] => iRngM lo n p.2
  | _ => none
theorem itt_ok {A : Wd} {a : Addr} {xs : List V} {ds : List PyData} (f : FzT K tb A a xs) (r : DRs K tb A xs ds) : ItOk K tb A (Itt K a) (.vals (ds.map .d)) := fun B S ws N R e => by
  cases (show ds.map W.d = ws from e)
  have f' := (f.nxw N).sq
  have rl := r.length
  refine ⟨fun i w hw => ?_, fun i hi => ⟨xs, f', by rw [List.length_map] at hi; omega⟩⟩
  rw [List.getElem?_map] at hw
  obtain ⟨d, e1, rfl⟩ := Option.map_eq_some_iff.mp hw
  obtain ⟨v, e2, r2⟩ := r.get' e1
  refine ⟨⟨xs, v, f', e2⟩, fun x H2 y => ?_⟩
  obtain ⟨rfl, y⟩ := y
  have := y xs f'
  rw [e2] at this; cases this
  exact ⟨B, rfl, .refl, R, DR.nxw N d r2⟩
theorem itl_ok0 {A : Wd} {a : Addr} {xs : List V} {ds : List PyData} (f : FzL K tb A a xs) (r : DRs K tb A xs ds) : ItOk K tb A (Itl K a) (.vals (ds.map .d)) := fun B S ws N R e => by
  cases (show ds.map W.d = ws from e)
  have f' := (f.nxw N).sq
  have rl := r.length
  refine ⟨fun i w hw => ?_, fun i hi => ⟨xs, f', by rw [List.length_map] at hi; omega⟩⟩
  rw [List.getElem?_map] at hw
  obtain ⟨d, e1, rfl⟩ := Option.map_eq_some_iff.mp hw
  obtain ⟨v, e2, r2⟩ := r.get' e1
  refine ⟨⟨xs, v, f', e2⟩, fun x H2 y => ?_⟩
  obtain ⟨rfl, y⟩ := y
  have := y xs f'
  rw [e2] at this; cases this
  exact ⟨B, rfl, .refl, R, DR.nxw N d r2⟩
theorem itl_ok {A : Wd} {a : Addr} {xs : List V} {ds : List PyData} (f : Fz tb A a (.lst xs)) (r : DRs K tb A xs ds) : ItOk K tb A (Itl K a) (.vals (ds.map .d)) := itl_ok0 (.inl f) r
theorem WRs.get' {A : Wd} {vs : List V} {ws : List W} {i : Nat} {w : W} (r : WRs K tb A vs ws) (e : ws[i]? = some w) : ∃ v, vs[i]? = some v ∧ WR K tb A v w := by
  induction r generalizing i with
  | nil => simp at e
  | cons a b ih =>
    cases i with
    | zero => simp at e; subst e; exact ⟨_, rfl, a⟩
    | succ i => simp at e; obtain ⟨v, q, z⟩ := ih e; exact ⟨v, by simpa using q, z⟩
theorem itl_live {A : Wd} {a : Addr} {n : Nat} (ha : A.ι[n]? = some a) : ItOk K tb A (Itl K a) (.live n) := fun B S ws N R e => by
  have e : S[n]? = some (.lst ws) := e
  obtain ⟨xs, ex, r⟩ := R.at_ n a _ (N.ix ha) e
  have sq : SqL K B.H a xs := .inl (.inl ex)
  have rl := WRs.length r
  refine ⟨fun i w hw => ?_, fun i hi => ⟨xs, sq, by omega⟩⟩
  obtain ⟨v, e2, r2⟩ := WRs.get' r hw
  refine ⟨⟨xs, v, sq, e2⟩, fun x H2 y => ?_⟩
  obtain ⟨rfl, y⟩ := y
  have := y xs sq
  rw [e2] at this; cases this
  exact ⟨B, rfl, .refl, R, r2⟩
theorem itr_ok {A : Wd} {lo : Int} {n : Nat} : ItOk K tb A (Itr lo n) (.vals ((List.range n).map fun (i : Nat) => W.d (.int (lo + (i : Int))))) := fun B S ws N R e => by
  cases (show (List.range n).map (fun (i : Nat) => W.d (.int (lo + (i : Int)))) = ws from e)
  refine ⟨fun i w hw => ?_, fun i hi => (by simpa using hi : n ≤ i)⟩
  rw [List.getElem?_map] at hw
  obtain ⟨d, e1, rfl⟩ := Option.map_eq_some_iff.mp hw
  obtain ⟨hi, e2⟩ := List.getElem?_eq_some_iff.mp e1
  rw [List.getElem_range] at e2
  subst e2
  rw [List.length_range] at hi
  refine ⟨hi, fun x H2 y => ?_⟩
  obtain ⟨rfl, rfl⟩ := y
  exact ⟨B, rfl, .refl, R, DR.int _⟩
theorem si_tup {tl : TE} {a : ME} (ha : SE K tb tl a) : SI K tb (iTup K tl) (iTupM a) := fun A σ ρ S im S' R' R E e q => by
  obtain ⟨⟨w, S1⟩, e1, e⟩ := Option.bind_eq_some_iff.mp e
  refine ha A σ ρ S w S1 _ R E e1 fun v B N R1 r => ?_
  dsimp only at e
  split at e
  · cases e
    obtain ⟨a, xs, rfl, f, rd⟩ := r.tup
    exact ⟨a, rfl, ⟨xs, f.sq⟩, q _ B N R1 (itt_ok f rd)⟩
  · cases e
theorem si_lst {tl : TE} {a : ME} (ha : SE K tb tl a) : SI K tb (iList K tl) (iLstM a) := fun A σ ρ S im S' R' R E e q => by
  obtain ⟨⟨w, S1⟩, e1, e⟩ := Option.bind_eq_some_iff.mp e
  refine ha A σ ρ S w S1 _ R E e1 fun v B N R1 r => ?_
  dsimp only at e
  split at e
  · cases e
    obtain ⟨a, xs, rfl, f, rd⟩ := r.lst
    exact ⟨a, rfl, ⟨xs, f.sq⟩, q _ B N R1 (itl_ok f rd)⟩
  · cases e
    obtain ⟨a, xs, rfl, f, rd⟩ := r.scr
    exact ⟨a, rfl, ⟨xs, f.sq⟩, q _ B N R1 (itl_ok0 f rd)⟩
  · split at e
    · rename_i ws ew
      cases e
      obtain ⟨a, rfl, i⟩ := r
      obtain ⟨vs, ev, _⟩ := R1.at_ _ a _ i ew
      exact ⟨a, rfl, ⟨vs, .inl (.inl ev)⟩, q _ B N R1 (itl_live i)⟩
    · cases e
  · cases e
theorem iRngM_some {a b : W} {S S' : Mem} {im : Itm} (h : iRngM a b S = some (im, S')) : ∃ lo n : Int, a = .d (.int lo) ∧ b = .d (.int n) ∧ (-(2 ^ 62) ≤ lo ∧ lo < 2 ^ 62 ∧ -(2 ^ 62) ≤ n ∧ n < 2 ^ 62) ∧ im = .vals ((List.range (n - lo).toNat).map fun (i : Nat) => W.d (.int (lo + (i : Int)))) ∧ S' = S := by
  unfold iRngM at h
  split at h
  · rename_i lo n
    split at h
    · rename_i hc
      cases h
      exact ⟨lo, n, rfl, rfl, of_decide_eq_true hc, rfl, rfl⟩
    · cases h
  · cases h
theorem si_rng1 {t : TA} {a : MA} (ha : SA K tb t a) : SI K tb (iRng1 t) (iRng1M a) := fun A σ ρ S im S' R' R E e q => by
  obtain ⟨⟨ws, S1⟩, e1, e⟩ := Option.bind_eq_some_iff.mp e
  refine ha A σ ρ S ws S1 _ R E e1 fun vs B N R1 r => ?_
  dsimp only at e
  split at e
  · obtain ⟨lo, n, e2, rfl, hb, rfl, rfl⟩ := iRngM_some e
    cases e2
    cases r with
    | cons r1 r2 =>
      cases r2
      obtain rfl := WR.int r1
      refine ⟨n, rfl, hb.2.2.1, hb.2.2.2, q _ B N R1 ?_⟩
      have := itr_ok (K := K) (tb := tb) (A := B) (lo := 0) (n := (n - 0).toNat)
      rw [Int.sub_zero] at this ⊢
      exact this
  · cases e
theorem si_rng2 {t : TA} {a : MA} (ha : SA K tb t a) : SI K tb (iRng2 t) (iRng2M a) := fun A σ ρ S im S' R' R E e q => by
  obtain ⟨⟨ws, S1⟩, e1, e⟩ := Option.bind_eq_some_iff.mp e
  refine ha A σ ρ S ws S1 _ R E e1 fun vs B N R1 r => ?_
  dsimp only at e
  split at e
  · obtain ⟨lo, n, rfl, rfl, hb, rfl, rfl⟩ := iRngM_some e
    cases r with
    | cons r1 r2 =>
      cases r2 with
      | cons r2 r3 =>
        cases r3
        obtain rfl := WR.int r1
        obtain rfl := WR.int r2
        exact ⟨lo, n, rfl, hb, q _ B N R1 itr_ok⟩
  · cases e
/-! ### comprehensions -/
def wipeE (ρ : Env') : List Nat → Env'
  | [] => ρ
  | v :: vs => (wipeE ρ vs).set v none
theorem wipeE_er {A : Wd} {σ : L2.St} {ρ : Env'} (h : ER K tb A σ ρ) : ∀ vs : List Nat, ER K tb A (wipe σ vs) (wipeE ρ vs)
  | [] => h
  | v :: vs => by
    have ih := wipeE_er h vs
    refine ⟨by show ((wipeE ρ vs).set v none).length = ((wipe σ vs).set v none).length; rw [List.length_set, List.length_set]; exact ih.1, fun i w e => ?_⟩
    have e : ((wipeE ρ vs).set v none)[i]? = some (some w) := e
    show ∃ u, ((wipe σ vs).set v none)[i]? = some (some u) ∧ _
    by_cases hi : v = i
    · subst hi
      have hlt : v < (wipeE ρ vs).length := by
        have := (List.getElem?_eq_some_iff.mp e).1
        rwa [List.length_set] at this
      rw [List.getElem?_set_self hlt] at e
      cases e
    · rw [List.getElem?_set_ne hi] at e ⊢
      exact ih.2 i w e
theorem wipe_get {σ : L2.St} {j : Nat} : ∀ {vs : List Nat}, (wipe σ vs)[j]? = if j ∈ vs then (if j < σ.length then some none else none) else σ[j]?
  | [] => by simp [wipe]
  | v :: vs => by
    show ((wipe σ vs).set v none)[j]? = _
    by_cases hj : v = j
    · subst hj
      by_cases hl : v < (wipe σ vs).length
      · rw [List.getElem?_set_self hl]
        rw [wipe_length] at hl
        simp [hl]
      · rw [List.getElem?_eq_none (by rw [List.length_set]; omega)]
        rw [wipe_length] at hl
        simp [hl]
    · rw [List.getElem?_set_ne hj, wipe_get (vs := vs)]
      have : j ∈ v :: vs ↔ j ∈ vs := by
        rw [List.mem_cons]
        exact ⟨fun z => z.resolve_left (fun z => hj z.symm), .inr⟩
      by_cases hm : j ∈ vs
      · rw [if_pos hm, if_pos (this.mpr hm)]
      · rw [if_neg hm, if_neg (fun z => hm (this.mp z))]
theorem wipe_wipe {σ σ2 : L2.St} {vs : List Nat} (hl : σ2.length = (wipe σ vs).length) (h : ∀ j, j ∉ vs → σ2[j]? = (wipe σ vs)[j]?) : wipe σ2 vs = wipe σ vs := by
  apply List.ext_getElem?
  intro j
  rw [wipe_length] at hl
  rw [wipe_get, wipe_get]
  by_cases hj : j ∈ vs
  · rw [if_pos hj, if_pos hj, hl]
  · rw [if_neg hj, if_neg hj, h j hj, wipe_get, if_neg hj]
def lcM (im : Itm) (g : MG) (t : MT) (e : ME) : Nat → Nat → Env' → Mem → Option (List W × Mem)
  | f, i, ρ, S => match im.at_ S i with
    | none => none
    | some none => some ([], S)
    | some (some w) => match f with
      | 0 => none
      | f + 1 => (g w ρ S).bind fun p => (t p.1 p.2).bind fun q => if q.1 = true then (e p.1 q.2).bind fun r => (lcM im g t e f (i + 1) ρ r.2).bind fun z => some (r.1 :: z.1, z.2) else lcM im g t e f (i + 1) ρ q.2
def eLc (mi : MI) (vs : List Nat) (g : MG) (t : MT) (e : ME) (mk : List W → Mem → Option (W × Mem)) : ME := fun ρ S => (mi ρ S).bind fun p => (lcM p.1 g t e (p.1.len p.2) 0 (wipeE ρ vs) p.2).bind fun q => mk q.1 q.2
def tYesM : MT := fun _ S => some (true, S)
theorem st_yes : ST K tb tYes tYesM := fun A σ ρ S b S' Q R E e q => by cases e; exact q A .refl R
theorem mkF_len {ws : List W} {S S' : Mem} {w : W} (h : mkF ws S = some (w, S')) : ws.length ≤ sizeLine := by
  obtain ⟨ds, e1, e⟩ := Option.bind_eq_some_iff.mp h
  split at e
  · rename_i hl; rw [dOf_length e1]; exact hl
  · cases e
theorem mkL_len {ws : List W} {S S' : Mem} {w : W} (h : mkL ws S = some (w, S')) : ws.length ≤ sizeLine := by
  unfold mkL at h
  split at h
  · assumption
  · cases h
/-- the same data, seen from a world that knows at least what stays -/
theorem dr_key {A C : Wd} (key : ∀ (a : Addr) (u : HO), Fz tb A a u → Fz tb C a u) : ∀ (x : PyData) (v : V), DR K tb A v x → DR K tb C v x := fun x v h =>
  DR.rec (motive_1 := fun v x _ => DR K tb C v x) (motive_2 := fun vs xs _ => DRs K tb C vs xs)
    .non .bl .int .str (fun f _ r => .lst (key _ _ f) r) (fun f _ r => .scr (f.imp (key _ _) id) r) (fun f _ r => .tup (f.imp (key _ _) id) r) .nil (fun _ _ a b => .cons a b) h
theorem wr_key {A C : Wd} (key : ∀ (a : Addr) (u : HO), Fz tb A a u → Fz tb C a u) (hι : ∀ (n : Nat) a, A.ι[n]? = some a → C.ι[n]? = some a) {v : V} {w : W} (h : WR K tb A v w) : WR K tb C v w := by
  cases w with
  | d x => exact dr_key key x v h
  | loc n => obtain ⟨a, e, i⟩ := h; exact ⟨a, e, hι n a i⟩
theorem or_key {A C : Wd} (key : ∀ (a : Addr) (u : HO), Fz tb A a u → Fz tb C a u) (hι : ∀ (n : Nat) a, A.ι[n]? = some a → C.ι[n]? = some a) {ob : Ob} {a : Addr} (e : C.H a = A.H a) (h : OR K tb A ob a) : OR K tb C ob a := by
  cases ob with
  | lst ws => obtain ⟨vs, q, r⟩ := h; exact ⟨vs, by rw [e]; exact q, Paired.mapP r fun _ _ z => wr_key key hι z⟩
  | dct kvs => obtain ⟨vs, q, r⟩ := h; exact ⟨vs, by rw [e]; exact q, Paired.mapP r fun _ _ z => ⟨z.1, wr_key key hι z.2⟩⟩
  | ins CC fs => obtain ⟨dx, vs, q, r⟩ := h; exact ⟨dx, vs, by rw [e]; exact q, Paired.mapP r fun _ _ z => ⟨z.1, wr_key key hι z.2⟩⟩
/-- a hidden object is changed -/
abbrev Wd.hset (A : Wd) (D : Addr) (o : HO) : Wd := { A with H := upd A.H D o }
theorem hset_key {A : Wd} {D : Addr} {o : HO} (hD : D ∈ A.hid) : ∀ (a : Addr) (u : HO), Fz tb A a u → Fz tb (A.hset D o) a u := fun a u h => by
  have ne : a ≠ D := fun z => h.1 (.inr (.inr (by rw [z]; exact hD)))
  refine ⟨h.1, ?_⟩
  rcases h.2 with r | ⟨ob, r⟩
  · exact .inl (by show upd A.H D o a = _; rw [upd_ne ne]; exact r)
  · exact .inr ⟨ob, by show upd A.H D o a = _; rw [upd_ne ne]; exact r⟩
theorem Rep.hset {A : Wd} {D : Addr} {o : HO} {S : Mem} (R : Rep K tb A S) (hD : D ∈ A.hid) : Rep K tb (A.hset D o) S := by
  obtain ⟨_, h2, h3⟩ := R.hd D hD
  refine ⟨R.len, R.nd, fun P hP => ?_, fun b hb => ?_, fun n a ob e1 e2 => ?_⟩
  · obtain ⟨ps, e, t⟩ := R.tabs P hP
    exact ⟨ps, by show upd A.H D o P = _; rw [upd_ne (fun z => h3 (by rw [← z]; exact hP))]; exact e, t⟩
  · obtain ⟨⟨o', e⟩, n, t⟩ := R.hd b hb
    refine ⟨?_, n, t⟩
    by_cases z : b = D
    · subst z; exact ⟨o, upd_same⟩
    · exact ⟨o', by show upd A.H D o b = _; rw [upd_ne z]; exact e⟩
  · have ne : a ≠ D := fun z => h2 (by rw [← z]; exact List.mem_of_getElem? e1)
    exact or_key (hset_key hD) (fun _ _ z => z) (upd_ne ne) (R.at_ n a ob e1 e2)
theorem nxw_hset {A B : Wd} {D : Addr} {o : HO} (N : NxW tb A B) (hD : D ∈ A.hid) : NxW tb A (B.hset D o) :=
  ⟨N.hid, N.hid2, fun b z => N.more b (upd_none z), N.pre, fun b u n t h e => by
    obtain ⟨q, n'⟩ := N.keep b u n t h e
    exact ⟨by show upd B.H D o b = _; rw [upd_ne (fun z => h (by rw [z]; exact hD))]; exact q, n'⟩⟩
theorem nxt_hset {A B : Wd} {D : Addr} {o : HO} (N : Nxt tb A B) (hD : A.H D = none) : Nxt tb A (B.hset D o) :=
  ⟨N.hid, N.hid2, fun b z => N.more b (upd_none z), N.pre, fun b u n t e => by
    obtain ⟨q, n'⟩ := N.keep b u n t e
    exact ⟨by show upd B.H D o b = _; rw [upd_ne (ne_of_none e hD)]; exact q, n'⟩⟩
theorem Nxt.hidden {A B : Wd} {S : Mem} (N : Nxt tb A B) (R : Rep K tb A S) {D : Addr} {o : HO} (hD : D ∈ A.hid) (e : A.H D = some o) : B.H D = some o := (N.keep D o (R.hd D hD).2.1 (R.hd D hD).2.2 e).1
/-- what becomes of the list that a comprehension makes -/
def SMk (K : PySem.W.Frag) (tb : List Addr) (mk : List W → Mem → Option (W × Mem)) : Prop := (∀ ws S r, mk ws S = some r → ws.length ≤ sizeLine) ∧ ∀ (B C : Wd) (D : Addr) (vs : List V) (ws : List W) (S0 S : Mem) (w : W) (S' : Mem) (Q : VK),
  Rep K tb B S0 → B.H D = none → Nxt tb B C → D ∈ C.hid → C.H D = some (.lst vs) → Rep K tb C S → WRs K tb C vs ws → mk ws S = some (w, S') → Pd.KE K tb B w S' Q → Q (.ref D) C.H
theorem smk_F : SMk K tb mkF := by
  refine ⟨fun ws S r h => mkF_len h, fun B C D vs ws S0 S w S' Q R0 hn N hD e R r h q => ?_⟩
  obtain ⟨ds, e1, e2⟩ := Option.bind_eq_some_iff.mp h
  split at e2
  · cases e2
    let E : Wd := { C with hid := B.hid }
    have key : ∀ (a : Addr) (u : HO), Fz tb C a u → Fz tb E a u := fun a u z => ⟨fun m => z.1 (m.imp id fun m => m.imp id fun m => N.hid a m), z.2⟩
    refine q (.ref D) E ⟨fun _ z => z, fun _ z => .inl z, N.more, N.pre, N.keep⟩ ⟨R.len, R.nd, R.tabs, fun b hb => R.hd b (N.hid b hb), fun n a ob z1 z2 => or_key key (fun _ _ z => z) rfl (R.at_ n a ob z1 z2)⟩ (DR.lst ⟨?_, .inl e⟩ (drs_map (dr_key key) (drs_of r e1)))
    obtain ⟨_, h2, h3⟩ := R.hd D hD
    rintro (z | z | z)
    · exact h2 z
    · exact h3 z
    · obtain ⟨⟨o, eo⟩, _⟩ := R0.hd D z
      rw [hn] at eo; cases eo
  · cases e2
theorem smk_L : SMk K tb mkL := by
  refine ⟨fun ws S r h => mkL_len h, fun B C D vs ws S0 S w S' Q R0 hn N hD e R r h q => ?_⟩
  unfold mkL at h
  split at h
  · cases h
    obtain ⟨⟨_, _⟩, h2, h3⟩ := R.hd D hD
    let E : Wd := { H := C.H, hid := B.hid, ι := C.ι ++ [D] }
    have key : ∀ (a : Addr) (u : HO), Fz tb C a u → Fz tb E a u := fun a u z => ⟨fun m => z.1 (by
      rcases m with m | m | m
      · rcases List.mem_append.mp m with m | m
        · exact .inl m
        · rw [List.mem_singleton.mp m]; exact .inr (.inr hD)
      · exact .inr (.inl m)
      · exact .inr (.inr (N.hid a m))), z.2⟩
    have hι : ∀ (n : Nat) a, C.ι[n]? = some a → E.ι[n]? = some a := fun n a z => by
      show (C.ι ++ [D])[n]? = some a
      rw [List.getElem?_append_left (List.getElem?_eq_some_iff.mp z).1]; exact z
    refine q (.ref D) E ⟨fun _ z => z, fun _ z => .inl z, N.more, ?_, fun b o n t eb => ?_⟩ ⟨by show (C.ι ++ [D]).length = _; simp [R.len], ?_, R.tabs, fun b hb => ?_, fun n a ob z1 z2 => ?_⟩ ⟨D, rfl, ?_⟩
    · obtain ⟨m, em⟩ := N.pre
      exact ⟨m ++ [D], by show C.ι ++ [D] = _; rw [em, List.append_assoc]⟩
    · obtain ⟨q1, q2⟩ := N.keep b o n t eb
      exact ⟨q1, fun z => (List.mem_append.mp z).elim q2 fun z => ne_of_none eb hn (List.mem_singleton.mp z)⟩
    · show (C.ι ++ [D]).Nodup
      rw [List.nodup_append]
      exact ⟨R.nd, by simp, fun a ha b hb eab => h2 (by rw [List.mem_singleton.mp hb] at eab; rw [← eab]; exact ha)⟩
    · obtain ⟨k1, k2, k3⟩ := R.hd b (N.hid b hb)
      refine ⟨k1, fun z => (List.mem_append.mp z).elim k2 fun z => ?_, k3⟩
      obtain ⟨⟨o, eo⟩, _⟩ := R0.hd b hb
      rw [List.mem_singleton.mp z, hn] at eo; cases eo
    · have z1 : (C.ι ++ [D])[n]? = some a := z1
      by_cases hl : n < C.ι.length
      · rw [List.getElem?_append_left hl] at z1
        rw [List.getElem?_append_left (by rw [← R.len]; exact hl)] at z2
        exact or_key key hι rfl (R.at_ n a ob z1 z2)
      · rw [List.getElem?_append_right (by omega)] at z1
        rw [List.getElem?_append_right (by rw [← R.len]; omega)] at z2
        have hz : n - C.ι.length = 0 := by
          cases hh : n - C.ι.length with
          | zero => rfl
          | succ k => rw [hh] at z1; simp at z1
        rw [hz] at z1
        rw [← R.len, hz] at z2
        simp at z1 z2
        subst z1 z2
        exact ⟨vs, e, Paired.mapP r fun _ _ z => wr_key key hι z⟩
    · show (C.ι ++ [D])[S.length]? = some D
      rw [← R.len]; simp
  · cases h
theorem se_lc {wi : TI} {mg' : TG} {tt : TT} {te : TE} {vs : List Nat} {us : List Nat} {mi : MI} {mg : MG} {mt : MT} {me : ME} {mk : List W → Mem → Option (W × Mem)} (hk : SMk K tb mk) (hi : SI K tb wi mi) (hg : SG K tb us mg' mg) (hsub : ∀ j, j ∈ us → j ∈ vs) (ht : ST K tb tt mt) (he : SE K tb te me) :
    SE K tb (tLc wi mg' tt te vs) (eLc mi vs mg mt me mk) := fun A σ ρ S w S' Q R E e q => by
  obtain ⟨⟨im, S1⟩, e1, e⟩ := Option.bind_eq_some_iff.mp e
  obtain ⟨⟨zs, S2⟩, e2, e3⟩ := Option.bind_eq_some_iff.mp e
  refine hi A σ ρ S im S1 _ R E e1 fun J B N R1 ok D hD => ?_
  have hlen := hk.1 _ _ _ e3
  let B1 : Wd := { H := upd B.H D (.lst []), ι := B.ι, hid := D :: B.hid }
  have nD := R1.fresh hD
  have N1 : Nxt tb B B1 := ⟨fun b z => List.mem_cons_of_mem _ z, fun b z => (List.mem_cons.mp z).elim (fun z => .inr (by rw [z]; exact hD)) .inl, fun b z => upd_none z, ⟨[], by show B.ι = _; simp⟩, fun b o n t e => ⟨by show upd B.H D _ b = _; rw [upd_ne (ne_of_none e hD)]; exact e, n⟩⟩
  have RB : Rep K tb B1 S1 := by
    have R2 := R1.put hD (.lst [])
    refine ⟨R2.len, R2.nd, R2.tabs, fun b hb => ?_, fun n a ob z1 z2 => ?_⟩
    · rcases List.mem_cons.mp hb with z | z
      · subst z; exact ⟨⟨_, upd_same⟩, fun z => nD (.inl z), fun z => nD (.inr (.inl z))⟩
      · exact R2.hd b z
    · have o := R1.at_ n a ob z1 z2
      obtain ⟨oo, eo, _⟩ := o.some
      exact o.nxt N1 (by show upd B.H D _ a = _; rw [upd_ne (ne_of_none eo hD)])
  have EB := wipeE_er (E.nxt N) vs
  refine ⟨fun i m H => ∃ C acc ws S3 zs', C.H = H ∧ Nxt tb B C ∧ D ∈ C.hid ∧ C.H D = some (.lst acc) ∧ Rep K tb C S3 ∧ WRs K tb C acc ws ∧ lcM im mg mt me m i (wipeE ρ vs) S3 = some (zs', S2) ∧ ws ++ zs' = zs,
    ⟨_, B1, [], [], S1, zs, rfl, N1, List.mem_cons_self, upd_same, RB, .nil, e2, rfl⟩, ?_⟩
  rintro i m _ ⟨C, acc, ws, S3, zs', rfl, N3, hDC, eD, R3, racc, e4, hz⟩
  unfold lcM at e4
  split at e4
  · cases e4
  · rename_i ha
    cases e4
    obtain ⟨us', hu, hz'⟩ := Itm.at_now ha
    rw [List.append_nil] at hz
    subst hz
    exact .inl ⟨(ok C _ us' N3.w R3 hu).2 i (List.getElem?_eq_none_iff.mp hz'.symm), hk.2 B C D acc ws S1 _ w S' Q R1 hD N3 hDC eD R3 racc e3 (q.nxt N)⟩
  · rename_i w1 ha
    obtain ⟨us', hu, hz'⟩ := Itm.at_now ha
    obtain ⟨go, yl⟩ := (ok C S3 us' N3.w R3 hu).1 i w1 hz'.symm
    cases m with
    | zero => cases e4
    | succ m =>
      obtain ⟨⟨ρ5, S5⟩, e5, e4⟩ := Option.bind_eq_some_iff.mp e4
      obtain ⟨⟨k6, S6⟩, e6, e4⟩ := Option.bind_eq_some_iff.mp e4
      refine .inr ⟨go, fun H' => ∃ C acc ws S3 zs', C.H = H' ∧ Nxt tb B C ∧ D ∈ C.hid ∧ C.H D = some (.lst acc) ∧ Rep K tb C S3 ∧ WRs K tb C acc ws ∧ lcM im mg mt me m (i + 1) (wipeE ρ vs) S3 = some (zs', S2) ∧ ws ++ zs' = zs, fun H' h => ⟨m, Nat.lt_succ_self m, h⟩, fun x H2 y => ?_⟩
      obtain ⟨C2, rfl, N4, R4, r4⟩ := yl x H2 y
      have EC : ER K tb C2 (wipe σ vs) (wipeE ρ vs) := EB.nxt (N3.trans N4)
      refine hg C2 x w1 _ _ S3 ρ5 S5 _ R4 EC r4 e5 fun C3 σ3 N5 R5 E5 hl5 hj5 => ⟨wipe_wipe hl5 fun j hj => hj5 j fun z => hj (hsub j z), ?_⟩
      refine ht C3 σ3 ρ5 S5 k6 S6 _ R5 E5 e6 fun C4 N6 R6 => ?_
      have NC := N4.trans (N5.trans N6)
      cases k6 with
      | false =>
        simp only [Bool.false_eq_true, if_false] at e4 ⊢
        exact ⟨C4, acc, ws, S6, zs', rfl, N3.trans NC, NC.hid D hDC, NC.hidden R3 hDC eD, R6, WRs.nxt NC racc, e4, hz⟩
      | true =>
        simp only [if_true] at e4 ⊢
        obtain ⟨⟨y7, S7⟩, e7, e4⟩ := Option.bind_eq_some_iff.mp e4
        obtain ⟨⟨zs8, S8⟩, e8, e4⟩ := Option.bind_eq_some_iff.mp e4
        cases e4
        refine he C4 σ3 ρ5 S6 y7 S7 _ R6 (E5.nxt N6) e7 fun v C5 N7 R7 r7 => ?_
        have NC5 := NC.trans N7
        have hD5 := NC5.hid D hDC
        have eD5 := NC5.hidden R3 hDC eD
        have hac := WRs.length racc
        refine ⟨acc, eD5, ?_, C5.hset D (.lst (acc ++ [v])), acc ++ [v], ws ++ [y7], S7, zs8, rfl, nxt_hset (N3.trans NC5) hD, hD5, upd_same, R7.hset hD5, ?_, e8, by rw [List.append_assoc]; exact hz⟩
        · rw [← hz, List.length_append, List.length_cons] at hlen
          omega
        · exact Paired.snoc (Paired.mapP (WRs.nxt NC5 racc) fun _ _ z => wr_key (hset_key hD5) (fun _ _ z => z) z) (wr_key (hset_key hD5) (fun _ _ z => z) r7)
end
end Pd
namespace Pd
open PySem PySem.Spec PyProof.Rows L2 GxR Gx
section
variable {K : PySem.W.Frag} {tb : List Addr}
/-! ### all(..) -/
def allL (g : MG) (e : ME) : List W → Env' → Mem → Option (Bool × Mem)
  | [], _, S => some (true, S)
  | w :: ws, ρ, S => (g w ρ S).bind fun p => (eB e p.1 p.2).bind fun q => if q.1 = true then allL g e ws ρ q.2 else some (false, q.2)
def eAll (mi : MI) (vs : List Nat) (g : MG) (e : ME) : ME := fun ρ S => (mi ρ S).bind fun p => match p.1 with
  | .vals ws => (allL g e ws (wipeE ρ vs) p.2).bind fun q => some (.d (.bool q.1), q.2)
  | _ => none
theorem se_all {wi : TI} {mg' : TG} {te : TE} {vs us : List Nat} {P : Addr} {mi : MI} {mg : MG} {me : ME} (hP : P ∈ tb) (hi : SI K tb wi mi) (hg : SG K tb us mg' mg) (hsub : ∀ j, j ∈ us → j ∈ vs) (he : SE K tb te me) :
    SE K tb (tAllG P wi mg' te vs) (eAll mi vs mg me) := fun A σ ρ S w S' Q R E e q => by
  obtain ⟨⟨im, S1⟩, e1, e⟩ := Option.bind_eq_some_iff.mp e
  refine hi A σ ρ S im S1 _ R E e1 fun J B N R1 ok => ⟨R1.tabs P hP, fun H2 hT => ?_⟩
  cases im with
  | live n => cases e
  | rev n l => cases e
  | vals ws =>
    obtain ⟨⟨b, S2⟩, e2, e⟩ := Option.bind_eq_some_iff.mp e
    cases e
    let B1 : Wd := { B with H := H2 }
    have N1 : Nxt tb B B1 := nxt_tab hP hT
    have RB : Rep K tb B1 S1 := R1.tab hP hT
    have EB := wipeE_er (E.nxt (N.trans N1)) vs
    refine ⟨ws.length, fun i H => ∃ C S3, C.H = H ∧ Nxt tb B C ∧ Rep K tb C S3 ∧ i ≤ ws.length ∧ allL mg me (ws.drop i) (wipeE ρ vs) S3 = some (b, S2), ⟨B1, S1, rfl, N1, RB, Nat.zero_le _, e2⟩, ?_⟩
    rintro i _ ⟨C, S3, rfl, N3, R3, hi, e3⟩
    obtain ⟨k1, k2⟩ := ok C S3 ws N3.w R3 rfl
    by_cases hlt : i < ws.length
    · have hd : ws.drop i = ws[i] :: ws.drop (i + 1) := List.drop_eq_getElem_cons hlt
      rw [hd] at e3
      obtain ⟨⟨ρ5, S5⟩, e5, e3⟩ := Option.bind_eq_some_iff.mp e3
      obtain ⟨⟨k6, S6⟩, e6, e3⟩ := Option.bind_eq_some_iff.mp e3
      obtain ⟨go, yl⟩ := k1 i _ (List.getElem?_eq_getElem hlt)
      refine .inr ⟨hlt, go, fun x H' y => ?_⟩
      obtain ⟨C2, rfl, N4, R4, r4⟩ := yl x H' y
      have EC : ER K tb C2 (wipe σ vs) (wipeE ρ vs) := wipeE_er (E.nxt (N.trans (N3.trans N4))) vs
      refine hg C2 x _ _ _ S3 ρ5 S5 _ R4 EC r4 e5 fun C3 σ3 N5 R5 E5 hl5 hj5 => ⟨wipe_wipe hl5 fun j hj => hj5 j fun z => hj (hsub j z), ?_⟩
      refine he C3 σ3 ρ5 S5 _ S6 _ R5 E5 (eB_some e6) fun v C4 N6 R6 r6 => ⟨k6, r6.bl, ?_⟩
      have NC := N3.trans (N4.trans (N5.trans N6))
      cases k6 with
      | true =>
        simp only [if_true] at e3 ⊢
        exact ⟨C4, S6, rfl, NC, R6, hlt, e3⟩
      | false =>
        simp only [Bool.false_eq_true, if_false] at e3 ⊢
        cases e3
        exact q _ C4 (N.trans NC) R6 (DR.bl false)
    · have hi' : i = ws.length := by omega
      subst hi'
      rw [List.drop_of_length_le (Nat.le_refl _)] at e3
      cases e3
      exact .inl ⟨rfl, k2 _ (Nat.le_refl _), q _ C (N.trans N3) R3 (DR.bl true)⟩
/-! ### built-in functions -/
def SC (K : PySem.W.Frag) (tb : List Addr) (r : List V → Hp → VK → Prop) (f : MF) : Prop := ∀ A vs ws S w S' Q, Rep K tb A S → WRs K tb A vs ws → f ws S = some (w, S') → Pd.KE K tb A w S' Q → r vs A.H Q
theorem se_cb {r : List V → Hp → VK → Prop} {f : MF} {t : TA} {a : MA} (hr : SC K tb r f) (ha : SA K tb t a) : SE K tb (tCB r t) (eCall f a) := fun A σ ρ S w S' Q R E e q => by
  obtain ⟨p, e1, e⟩ := Option.bind_eq_some_iff.mp e
  exact ha A σ ρ S p.1 p.2 _ R E e1 fun vs B N R1 r1 => hr B vs p.1 p.2 w S' Q R1 r1 e (q.nxt N)
theorem wrs1 {A : Wd} {vs : List V} {w : W} (r : WRs K tb A vs [w]) : ∃ v, vs = [v] ∧ WR K tb A v w := by
  cases r with | cons a b => cases b; exact ⟨_, rfl, a⟩
/-- the items of a list or tuple, as they stand -/
def items (w : W) (S : Mem) : Option (List W) := match w with
  | .d (.list ds) => some (ds.map .d)
  | .d (.dict [(.none, .list ds)]) => some (ds.map .d)
  | .d (.tuple ds) => some (ds.map .d)
  | .loc n => match S[n]? with
    | some (.lst ws) => some ws
    | _ => none
  | _ => none
theorem items_run {A : Wd} {S : Mem} {v : V} {w : W} {ws : List W} (R : Rep K tb A S) (r : WR K tb A v w) (h : items w S = some ws) : ∃ a xs, v = .ref a ∧ (SqL K A.H a xs ∨ SqT K A.H a xs) ∧ WRs K tb A xs ws := by
  unfold items at h
  split at h
  · cases h
    obtain ⟨a, xs, rfl, f, rd⟩ := r.lst
    exact ⟨a, xs, rfl, .inl f.sq, wrs_of rd⟩
  · cases h
    obtain ⟨a, xs, rfl, f, rd⟩ := r.scr
    exact ⟨a, xs, rfl, .inl f.sq, wrs_of rd⟩
  · cases h
    obtain ⟨a, xs, rfl, f, rd⟩ := r.tup
    exact ⟨a, xs, rfl, .inr f.sq, wrs_of rd⟩
  · split at h
    · rename_i n ws' e
      cases h
      obtain ⟨a, rfl, i⟩ := r
      obtain ⟨vs, ev, rr⟩ := R.at_ _ a _ i e
      exact ⟨a, vs, rfl, .inl (.inl (.inl ev)), rr⟩
    · cases h
  · cases h
def bLen : MF := fun ws S => match ws with
  | [w] => (items w S).bind fun us => some (.d (.int us.length), S)
  | _ => none
theorem sc_len : SC K tb (fun xs H Q => ∃ p ys, xs = [.ref p] ∧ (SqL K H p ys ∨ SqT K H p ys) ∧ Q (.int ys.length) H) bLen := fun A vs ws S w S' Q R r e q => by
  unfold bLen at e
  split at e
  · obtain ⟨us, e1, e2⟩ := Option.bind_eq_some_iff.mp e
    cases e2
    obtain ⟨v, rfl, r1⟩ := wrs1 r
    obtain ⟨a, xs, rfl, sq, rx⟩ := items_run R r1 e1
    exact ⟨a, xs, rfl, sq, by rw [WRs.length rx]; exact q _ A .refl R (DR.int _)⟩
  · cases e
/-- .. of a list -/
def itemsL (w : W) (S : Mem) : Option (List W) := match w with
  | .d (.list ds) => some (ds.map .d)
  | .d (.dict [(.none, .list ds)]) => some (ds.map .d)
  | .loc n => match S[n]? with
    | some (.lst ws) => some ws
    | _ => none
  | _ => none
theorem itemsL_run {A : Wd} {S : Mem} {v : V} {w : W} {ws : List W} (R : Rep K tb A S) (r : WR K tb A v w) (h : itemsL w S = some ws) : ∃ a xs, v = .ref a ∧ SqL K A.H a xs ∧ WRs K tb A xs ws := by
  unfold itemsL at h
  split at h
  · cases h
    obtain ⟨a, xs, rfl, f, rd⟩ := r.lst
    exact ⟨a, xs, rfl, f.sq, wrs_of rd⟩
  · cases h
    obtain ⟨a, xs, rfl, f, rd⟩ := r.scr
    exact ⟨a, xs, rfl, f.sq, wrs_of rd⟩
  · split at h
    · rename_i n ws' e
      cases h
      obtain ⟨a, rfl, i⟩ := r
      obtain ⟨vs, ev, rr⟩ := R.at_ _ a _ i e
      exact ⟨a, vs, rfl, .inl (.inl ev), rr⟩
    · cases h
  · cases h
def bTuple : MF := fun ws S => match ws with
  | [.d (.tuple ds)] => some (.d (.tuple ds), S)
  | [w] => (itemsL w S).bind fun us => (dOf us).bind fun ds => some (.d (.tuple ds), S)
  | _ => none
theorem sc_tuple : SC K tb (fun xs H Q => ∃ p ys, xs = [.ref p] ∧ ((SqL K H p ys ∧ ∀ l, H l = none → Q (.ref l) (upd H l (.tup ys))) ∨ (SqT K H p ys ∧ Q (.ref p) H))) bTuple := fun A vs ws S w S' Q R r e q => by
  unfold bTuple at e
  split at e
  · cases e
    obtain ⟨v, rfl, r1⟩ := wrs1 r
    obtain ⟨a, xs, rfl, f, rd⟩ := r1.tup
    exact ⟨a, xs, rfl, .inr ⟨f.sq, q _ A .refl R r1⟩⟩
  · rename_i w1 hne
    obtain ⟨us, e1, e2⟩ := Option.bind_eq_some_iff.mp e
    obtain ⟨ds, e3, e4⟩ := Option.bind_eq_some_iff.mp e2
    cases e4
    obtain ⟨v, rfl, r1⟩ := wrs1 r
    obtain ⟨a, xs, rfl, sq, rx⟩ := itemsL_run R r1 e1
    exact ⟨a, xs, rfl, .inl ⟨sq, fun l hl => q _ (A.put l (.tup xs)) (.put hl _) (R.put hl _) (DR.tup (.inl (.put R hl _)) (DRs.nxt (.put hl _) ds (drs_of rx e3)))⟩⟩
  · cases e
/-- list(x): never changed again, or changed -/
def bListF : MF := fun ws S => match ws with
  | [w] => (items w S).bind fun us => (dOf us).bind fun ds => some (.d (.list ds), S)
  | _ => none
def bListL : MF := fun ws S => match ws with
  | [w] => (items w S).bind fun us => some (.loc S.length, S ++ [.lst us])
  | _ => none
abbrev rLstOf (K : PySem.W.Frag) : List V → Hp → VK → Prop := fun xs H Q => ∃ p ys, xs = [.ref p] ∧ (SqL K H p ys ∨ SqT K H p ys) ∧ ∀ l, H l = none → Q (.ref l) (upd H l (.lst ys))
theorem sc_listF : SC K tb (rLstOf K) bListF := fun A vs ws S w S' Q R r e q => by
  unfold bListF at e
  split at e
  · obtain ⟨us, e1, e2⟩ := Option.bind_eq_some_iff.mp e
    obtain ⟨ds, e3, e4⟩ := Option.bind_eq_some_iff.mp e2
    cases e4
    obtain ⟨v, rfl, r1⟩ := wrs1 r
    obtain ⟨a, xs, rfl, sq, rx⟩ := items_run R r1 e1
    exact ⟨a, xs, rfl, sq, fun l hl => q _ (A.put l (.lst xs)) (.put hl _) (R.put hl _) (DR.lst (.put R hl _) (DRs.nxt (.put hl _) ds (drs_of rx e3)))⟩
  · cases e
theorem sc_listL : SC K tb (rLstOf K) bListL := fun A vs ws S w S' Q R r e q => by
  unfold bListL at e
  split at e
  · obtain ⟨us, e1, e2⟩ := Option.bind_eq_some_iff.mp e
    cases e2
    obtain ⟨v, rfl, r1⟩ := wrs1 r
    obtain ⟨a, xs, rfl, sq, rx⟩ := items_run R r1 e1
    refine ⟨a, xs, rfl, sq, fun l hl => q _ (A.add l (.lst xs)) (.add hl _) (R.add hl ⟨xs, upd_same, rx.nxt (.add hl _)⟩) ⟨l, rfl, ?_⟩⟩
    show (A.ι ++ [l])[S.length]? = some l
    rw [← R.len]; simp
  · cases e
def bAbs : MF := fun ws S => match ws with
  | [.d (.int i)] => some (.d (.int (if i < 0 then -i else i)), S)
  | _ => none
theorem sc_abs : SC K tb (fun xs H Q => ∃ i, xs = [.int i] ∧ Q (.int (if i < 0 then -i else i)) H) bAbs := fun A vs ws S w S' Q R r e q => by
  unfold bAbs at e
  split at e
  · cases e
    obtain ⟨v, rfl, r1⟩ := wrs1 r
    obtain rfl := WR.int r1
    exact ⟨_, rfl, q _ A .refl R (DR.int _)⟩
  · cases e
def bInt : MF := fun ws S => match ws with
  | [.d (.int i)] => some (.d (.int i), S)
  | [.d (.bool k)] => some (.d (.int (if k then 1 else 0)), S)
  | _ => none
theorem sc_int : SC K tb (fun xs H Q => (∃ i, xs = [.int i] ∧ Q (.int i) H) ∨ ∃ k, xs = [.bl k] ∧ Q (.int (if k then 1 else 0)) H) bInt := fun A vs ws S w S' Q R r e q => by
  unfold bInt at e
  split at e
  · cases e
    obtain ⟨v, rfl, r1⟩ := wrs1 r
    obtain rfl := WR.int r1
    exact .inl ⟨_, rfl, q _ A .refl R (DR.int _)⟩
  · cases e
    obtain ⟨v, rfl, r1⟩ := wrs1 r
    obtain rfl := WR.bl r1
    exact .inr ⟨_, rfl, q _ A .refl R (DR.int _)⟩
  · cases e
def bStr : MF := fun ws S => match ws with
  | [.d (.int i)] => if decide (i.natAbs.log2 < 1920) = true then some (.d (.str (toString i)), S) else none
  | _ => none
theorem sc_str : SC K tb (fun xs H Q => ∃ i, xs = [.int i] ∧ i.natAbs.log2 < 1920 ∧ Q (.str (toString i)) H) bStr := fun A vs ws S w S' Q R r e q => by
  unfold bStr at e
  split at e
  · split at e
    · rename_i hc
      cases e
      obtain ⟨v, rfl, r1⟩ := wrs1 r
      obtain rfl := WR.int r1
      exact ⟨_, rfl, of_decide_eq_true hc, q _ A .refl R (DR.str _)⟩
    · cases e
  · cases e
/-- ints -/
def intsOf : List W → Option (List Int)
  | [] => some []
  | .d (.int i) :: ws => (intsOf ws).map (i :: ·)
  | _ :: _ => none
theorem ints_run {A : Wd} : ∀ {vs : List V} {ws : List W} {ns : List Int}, WRs K tb A vs ws → intsOf ws = some ns → vs = ns.map V.int
  | _, [], _, .nil, e => by cases e; rfl
  | _, .d (.int i) :: ws, _, .cons r t, e => by
    obtain ⟨ns, e1, rfl⟩ := Option.map_eq_some_iff.mp e
    rw [ints_run t e1, WR.int r]; rfl
def bSum : MF := fun ws S => match ws with
  | [w] => (itemsL w S).bind fun us => (intsOf us).bind fun ns => some (.d (.int ns.sum), S)
  | _ => none
theorem sc_sum : SC K tb (rSum K) bSum := fun A vs ws S w S' Q R r e q => by
  unfold bSum at e
  split at e
  · obtain ⟨us, e1, e2⟩ := Option.bind_eq_some_iff.mp e
    obtain ⟨ns, e3, e4⟩ := Option.bind_eq_some_iff.mp e2
    cases e4
    obtain ⟨v, rfl, r1⟩ := wrs1 r
    obtain ⟨a, xs, rfl, sq, rx⟩ := itemsL_run R r1 e1
    rw [ints_run rx e3] at sq
    exact ⟨a, ns, rfl, sq, q _ A .refl R (DR.int _)⟩
  · cases e
def maxI : List Int → Int
  | [] => 0
  | [i] => i
  | i :: r => max i (maxI r)
theorem maxI_le : ∀ {ns : List Int} {y : Int}, y ∈ ns → y ≤ maxI ns
  | [], _, h => by cases h
  | [i], y, h => by simp at h; subst h; exact Int.le_refl _
  | i :: j :: r, y, h => by
    show y ≤ max i (maxI (j :: r))
    rcases List.mem_cons.mp h with rfl | h
    · exact Int.le_max_left _ _
    · exact Int.le_trans (maxI_le h) (Int.le_max_right _ _)
theorem maxI_mem : ∀ {ns : List Int}, ns ≠ [] → maxI ns ∈ ns
  | [], h => absurd rfl h
  | [i], _ => List.mem_singleton.mpr rfl
  | i :: j :: r, _ => by
    show max i (maxI (j :: r)) ∈ _
    rcases Int.le_total i (maxI (j :: r)) with h | h
    · rw [Int.max_eq_right h]; exact List.mem_cons_of_mem _ (maxI_mem (by simp))
    · rw [Int.max_eq_left h]; exact List.mem_cons_self
def bMax : MF := fun ws S => match ws with
  | [w] => (itemsL w S).bind fun us => (intsOf us).bind fun ns => if ns.isEmpty = true then none else some (.d (.int (maxI ns)), S)
  | _ => none
theorem sc_max : SC K tb (rMax K) bMax := fun A vs ws S w S' Q R r e q => by
  unfold bMax at e
  split at e
  · obtain ⟨us, e1, e2⟩ := Option.bind_eq_some_iff.mp e
    obtain ⟨ns, e3, e4⟩ := Option.bind_eq_some_iff.mp e2
    split at e4
    · cases e4
    · rename_i hne
      cases e4
      have hne' : ns ≠ [] := by rintro rfl; exact hne rfl
      obtain ⟨v, rfl, r1⟩ := wrs1 r
      obtain ⟨a, xs, rfl, sq, rx⟩ := itemsL_run R r1 e1
      rw [ints_run rx e3] at sq
      refine ⟨a, ns, rfl, sq, List.length_pos_iff.mpr hne', fun m hm hall => ?_⟩
      have : m = maxI ns := Int.le_antisymm (maxI_le hm) (hall _ (maxI_mem hne'))
      rw [this]
      exact q _ A .refl R (DR.int _)
  · cases e
/-! ### subscripts, slices -/
theorem atI_drs {A : Wd} {xs : List V} {ds : List PyData} {i : Int} {d : PyData} (r : DRs K tb A xs ds) (h : atI ds i = some d) : ∃ v, atI xs i = some v ∧ DR K tb A v d := by
  unfold atI at h ⊢
  rw [r.length]
  obtain ⟨j, e1, e2⟩ := Option.bind_eq_some_iff.mp h
  obtain ⟨v, e3, rv⟩ := r.get' e2
  exact ⟨v, by rw [e1]; exact e3, rv⟩
theorem atI_wrs {A : Wd} {xs : List V} {ds : List W} {i : Int} {d : W} (r : WRs K tb A xs ds) (h : atI ds i = some d) : ∃ v, atI xs i = some v ∧ WR K tb A v d := by
  unfold atI at h ⊢
  rw [WRs.length r]
  obtain ⟨j, e1, e2⟩ := Option.bind_eq_some_iff.mp h
  obtain ⟨v, e3, rv⟩ := WRs.get' r e2
  exact ⟨v, by rw [e1]; exact e3, rv⟩
def oIx : F2 := fun a b S => match b with
  | .d (.int i) => (match a with
    | .d (.tuple ds) => (atI ds i).map fun d => (.d d, S)
    | .d (.str z) => if z.length ≤ sizeLine then (atI z.cps.toList i).map fun c => (.d (.str ⟨#[c]⟩), S) else none
    | a => (itemsL a S).bind fun us => (atI us i).map fun w => (w, S))
  | _ => none
theorem sr_ix : SR K tb (rIx K) oIx := fun A x y a b S w S' Q R ra rb e q => by
  unfold oIx at e
  split at e
  · rename_i i
    obtain rfl := rb.int
    split at e
    · obtain ⟨d, e1, e2⟩ := Option.map_eq_some_iff.mp e
      cases e2
      obtain ⟨p, xs, rfl, f, rd⟩ := ra.tup
      obtain ⟨v, e3, rv⟩ := atI_drs rd e1
      exact .inr (.inl ⟨p, xs, i, v, rfl, rfl, f.sq, e3, q _ A .refl R rv⟩)
    · split at e
      · rename_i hz
        obtain ⟨d, e1, e2⟩ := Option.map_eq_some_iff.mp e
        cases e2
        obtain rfl := ra.str
        exact .inr (.inr ⟨_, i, d, rfl, rfl, hz, e1, q _ A .refl R (DR.str _)⟩)
      · cases e
    · obtain ⟨us, e0, e⟩ := Option.bind_eq_some_iff.mp e
      obtain ⟨d, e1, e2⟩ := Option.map_eq_some_iff.mp e
      cases e2
      obtain ⟨p, xs, rfl, sq, rx⟩ := itemsL_run R ra e0
      obtain ⟨v, e3, rv⟩ := atI_wrs rx e1
      exact .inl ⟨p, xs, i, v, rfl, rfl, sq, e3, q _ A .refl R rv⟩
  · cases e
/-- parts of a slice -/
abbrev MO := Env' → Mem → Option (Option Int × Mem)
def SO (K : PySem.W.Frag) (tb : List Addr) (t : TO) (m : MO) : Prop := ∀ A σ ρ S o S' (Q : Option Int → Hp → Prop), Rep K tb A S → ER K tb A σ ρ → m ρ S = some (o, S') → (∀ B, Nxt tb A B → Rep K tb B S' → Q o B.H) → t σ A.H Q
def pNone : MO := fun _ S => some (none, S)
def pSome (a : ME) : MO := fun ρ S => (a ρ S).bind fun p => match p.1 with
  | .d (.int i) => some (some i, p.2)
  | _ => none
theorem so_none : SO K tb tNoPart pNone := fun A σ ρ S o S' Q R E e q => by cases e; exact q A .refl R
theorem so_some {te : TE} {a : ME} (ha : SE K tb te a) : SO K tb (tPart te) (pSome a) := fun A σ ρ S o S' Q R E e q => by
  obtain ⟨⟨w, S1⟩, e1, e⟩ := Option.bind_eq_some_iff.mp e
  refine ha A σ ρ S w S1 _ R E e1 fun v B N R1 r => ?_
  dsimp only at e
  split at e
  · cases e
    exact ⟨_, r.int, q B N R1⟩
  · cases e
/-- the cut of a list -/
def cutL {α : Type} (xs : List α) (lo hi : Option Int) : List α := (xs.drop (HT.sIx xs.length 0 lo)).take (HT.sIx xs.length xs.length hi - HT.sIx xs.length 0 lo)
theorem drs_cut {A : Wd} {xs : List V} {ds : List PyData} (r : DRs K tb A xs ds) (lo hi : Option Int) : DRs K tb A (cutV xs lo hi) (cutL ds lo hi) := by
  unfold cutV cutL
  rw [r.length]
  exact (r.drop _).take _
theorem wrs_cut {A : Wd} {xs : List V} {ws : List W} (r : WRs K tb A xs ws) (lo hi : Option Int) : WRs K tb A (cutV xs lo hi) (cutL ws lo hi) := by
  unfold cutV cutL
  rw [WRs.length r]
  have d : ∀ {xs : List V} {ws : List W}, WRs K tb A xs ws → ∀ n, WRs K tb A (xs.drop n) (ws.drop n) := fun {xs ws} r => by
    induction r with
    | nil => intro n; simp; exact .nil
    | cons a b ih =>
      intro n
      cases n with
      | zero => exact .cons a b
      | succ n => exact ih n
  have t : ∀ {xs : List V} {ws : List W}, WRs K tb A xs ws → ∀ n, WRs K tb A (xs.take n) (ws.take n) := fun {xs ws} r => by
    induction r with
    | nil => intro n; simp; exact .nil
    | cons a b ih =>
      intro n
      cases n with
      | zero => exact .nil
      | succ n => exact .cons a (ih n)
  exact t (d r _) _
/-- a slice: of a tuple, a text, a list (L: the new list may be changed) -/
def oSl (L : Bool) (w : W) (lo hi : Option Int) (S : Mem) : Option (W × Mem) := match w with
  | .d (.tuple ds) => some (.d (.tuple (cutL ds lo hi)), S)
  | .d (.str z) => if z.length ≤ sizeLine then some (.d (.str (Txt.slice z lo hi)), S) else none
  | w => (itemsL w S).bind fun us => if L = true then some (.loc S.length, S ++ [.lst (cutL us lo hi)]) else (dOf (cutL us lo hi)).map fun ds => (.d (.list ds), S)
abbrev rSlAll (K : PySem.W.Frag) : V → Option Int → Option Int → Hp → VK → Prop := fun x lo hi H Q => rSlA K x lo hi H Q ∨ (rSlL K x lo hi H Q ∨ C8.rSlX x lo hi H Q)
theorem sl_all {X : Cx} : SlR X (rSlAll X.K) := sl_tupA.or (sl_list.or C8.sl_txt)
theorem whole_cut {α : Type} {xs : List α} {lo hi : Option Int} (h : HT.sIx xs.length 0 lo = 0 ∧ HT.sIx xs.length xs.length hi = xs.length) : cutL xs lo hi = xs := by
  unfold cutL
  rw [h.1, h.2]; simp
theorem oSl_run {A : Wd} {L : Bool} {x : V} {a w : W} {lo hi : Option Int} {S S' : Mem} {Q : VK} (R : Rep K tb A S) (ra : WR K tb A x a) (e : oSl L a lo hi S = some (w, S')) (q : Pd.KE K tb A w S' Q) : rSlAll K x lo hi A.H Q := by
  unfold oSl at e
  split at e
  · cases e
    obtain ⟨p, xs, rfl, f, rd⟩ := ra.tup
    refine .inl ⟨p, xs, rfl, f.sq, fun hw => ?_, fun hw p2 hp => ?_⟩
    · have hw' := hw
      rw [rd.length] at hw'
      exact q _ A .refl R (by rw [whole_cut hw']; exact DR.tup f rd)
    · exact q _ (A.put p2 _) (.put hp _) (R.put hp _) (DR.tup (.inl (.put R hp _)) (DRs.nxt (.put hp _) _ (drs_cut rd lo hi)))
  · split at e
    · rename_i hz
      cases e
      obtain rfl := ra.str
      exact .inr (.inr ⟨_, rfl, hz, q _ A .refl R (DR.str _)⟩)
    · cases e
  · obtain ⟨us, e1, e2⟩ := Option.bind_eq_some_iff.mp e
    obtain ⟨p, xs, rfl, sq, rx⟩ := itemsL_run R ra e1
    refine .inr (.inl ⟨p, xs, rfl, sq, fun l hl => ?_⟩)
    split at e2
    · cases e2
      refine q _ (A.add l _) (.add hl _) (R.add hl ⟨_, upd_same, (wrs_cut rx lo hi).nxt (.add hl _)⟩) ⟨l, rfl, ?_⟩
      show (A.ι ++ [l])[S.length]? = some l
      rw [← R.len]; simp
    · obtain ⟨ds, e3, e4⟩ := Option.map_eq_some_iff.mp e2
      cases e4
      exact q _ (A.put l _) (.put hl _) (R.put hl _) (DR.lst (.put R hl _) (DRs.nxt (.put hl _) ds (drs_of (wrs_cut rx lo hi) e3)))
def eSl (L : Bool) (a : ME) (lo hi : MO) : ME := fun ρ S => (a ρ S).bind fun p => (lo ρ p.2).bind fun l => (hi ρ l.2).bind fun h => oSl L p.1 l.1 h.1 h.2
theorem se_sl {L : Bool} {te : TE} {tl th : TO} {a : ME} {lo hi : MO} (ha : SE K tb te a) (hl : SO K tb tl lo) (hh : SO K tb th hi) : SE K tb (tSl (rSlAll K) te tl th) (eSl L a lo hi) := fun A σ ρ S w S' Q R E e q => by
  obtain ⟨p, e1, e⟩ := Option.bind_eq_some_iff.mp e
  obtain ⟨l, e2, e⟩ := Option.bind_eq_some_iff.mp e
  obtain ⟨h, e3, e⟩ := Option.bind_eq_some_iff.mp e
  refine ha A σ ρ S p.1 p.2 _ R E e1 fun x B N R1 r => ?_
  refine hl B σ ρ p.2 l.1 l.2 _ R1 (E.nxt N) e2 fun C N2 R2 => ?_
  refine hh C σ ρ l.2 h.1 h.2 _ R2 (E.nxt (N.trans N2)) e3 fun D N3 R3 => ?_
  exact oSl_run R3 (r.nxt (N2.trans N3)) e (q.nxt (N.trans (N2.trans N3)))
end
end Pd
namespace Pd
open PySem PySem.Spec PyProof.Rows L2 GxR Gx
theorem opOr {X : Cx} {f : Value → Value → Sem Value} {r r' : R2} (h : OpR X f r) (h' : OpR X f r') : OpR X f (fun x y H Q => r x y H Q ∨ r' x y H Q) := by
  intro pins s σ H x y v u Q I rx ry q
  rcases q with q | q
  · exact h pins s σ H x y v u Q I rx ry q
  · exact h' pins s σ H x y v u Q I rx ry q
/-! ### + -/
/-- two lists -/
def rCatL : R2 := fun x y H Q => ∃ l b xs zs, x = .ref l ∧ y = .ref b ∧ Rd H l (.lst xs) ∧ Rd H b (.lst zs) ∧ xs.length + zs.length ≤ sizeLine ∧ ∀ p, H p = none → Q (.ref p) (upd H p (.lst (xs ++ zs)))
section
variable {X : Cx} {pins : List (Addr × Obj)} {σ : L2.St} {H : Hp} {s : Shared}
theorem op_catL : OpR X (binaryOp .Add) rCatL := by
  intro pins s σ H x y v u Q I rx ry h
  obtain ⟨l, b, xs, zs, rfl, rfl, hH, hB, hz, q⟩ := h
  cases rx
  cases ry
  obtain ⟨z, its, n, r, e⟩ := hH.ok I.hok
  obtain ⟨z2, its2, n2, r2, e2⟩ := hB.ok I.hok
  have hl := r.length
  have hl2 := r2.length
  refine PySem.P.add_list e e2 ?_ (by rw [List.size_toArray, List.size_toArray]; omega)
  have ea : its.toArray ++ its2.toArray = (its ++ its2).toArray := by simp
  rw [ea]
  refine ⟨.ref s.heap.objs.size, _, I.laid (t' := s.toks) (o := .lst (xs ++ zs)) (fun b ob q => Heap.get?_push_of_some _ q) (Nat.le_refl _) ?_, rfl, q _ (I.hok.fresh (Nat.le_refl _))⟩
  exact ⟨by rw [List.length_append]; omega, its ++ its2, 0, r.append r2, Heap.get?_push_size _ rfl⟩
end
abbrev rAddS : R2 := fun x y H Q => ∃ i j, x = .str i ∧ y = .str j ∧ i.length + j.length ≤ sizeLine ∧ Q (.str (i ++ j)) H
abbrev rPlus (K : PySem.W.Frag) : R2 := fun x y H Q => rI0 (fun i j => .int (i + j)) x y H Q ∨ (rAddS x y H Q ∨ (rCatA K x y H Q ∨ rCatL x y H Q))
theorem op_plus {X : Cx} : OpR X (binaryOp .Add) (rPlus X.K) := opOr op_add (opOr op_add_str (opOr op_catA op_catL))
/-- +; L: the new list may be changed -/
def oPlus (L : Bool) : F2 := fun a b S => match a, b with
  | .d (.int i), .d (.int j) => some (.d (.int (i + j)), S)
  | .d (.str i), .d (.str j) => if i.length + j.length ≤ sizeLine then some (.d (.str (i ++ j)), S) else none
  | .d (.tuple xs), .d (.tuple ys) => if xs.length + ys.length ≤ sizeLine then some (.d (.tuple (xs ++ ys)), S) else none
  | .d (.list xs), .d (.list ys) => if xs.length + ys.length ≤ sizeLine then (if L = true then some (.loc S.length, S ++ [.lst ((xs ++ ys).map .d)]) else some (.d (.list (xs ++ ys)), S)) else none
  | _, _ => none
section
variable {K : PySem.W.Frag} {tb : List Addr}
theorem sr_plus {L : Bool} : SR K tb (rPlus K) (oPlus L) := fun A x y a b S w S' Q R ra rb e q => by
  unfold oPlus at e
  split at e
  · cases e
    obtain rfl := ra.int
    obtain rfl := rb.int
    exact .inl ⟨_, _, rfl, rfl, q _ A .refl R (DR.int _)⟩
  · split at e
    · rename_i hl
      cases e
      obtain rfl := ra.str
      obtain rfl := rb.str
      exact .inr (.inl ⟨_, _, rfl, rfl, hl, q _ A .refl R (DR.str _)⟩)
    · cases e
  · split at e
    · rename_i ds es hl
      cases e
      obtain ⟨a, xs, rfl, f, rd⟩ := ra.tup
      obtain ⟨b, ys, rfl, g, re⟩ := rb.tup
      have l1 := rd.length
      have l2 := re.length
      refine .inr (.inr (.inl ⟨a, b, xs, ys, rfl, rfl, f.sq, g.sq, by omega, fun z => ?_, fun z z2 => ?_, fun z z2 p hp => ?_⟩))
      · subst z
        have : ds = [] := List.length_eq_zero_iff.mp l1.symm
        subst this
        exact q _ A .refl R rb
      · subst z2
        have : es = [] := List.length_eq_zero_iff.mp l2.symm
        subst this
        rw [List.append_nil] at q
        exact q _ A .refl R ra
      · exact q _ (A.put p _) (.put hp _) (R.put hp _) (DR.tup (.inl (.put R hp _)) (DRs.nxt (.put hp _) _ (rd.append re)))
    · cases e
  · split at e
    · rename_i ds es hl
      obtain ⟨a, xs, rfl, f, rd⟩ := ra.lst
      obtain ⟨b, ys, rfl, g, re⟩ := rb.lst
      have l1 := rd.length
      have l2 := re.length
      refine .inr (.inr (.inr ⟨a, b, xs, ys, rfl, rfl, f.2, g.2, by omega, fun p hp => ?_⟩))
      split at e
      · cases e
        refine q _ (A.add p _) (.add hp _) (R.add hp ⟨_, upd_same, wrs_of (DRs.nxt (.add hp _) _ (rd.append re))⟩) ⟨p, rfl, ?_⟩
        show (A.ι ++ [p])[S.length]? = some p
        rw [← R.len]; simp
      · cases e
        exact q _ (A.put p _) (.put hp _) (R.put hp _) (DR.lst (.put R hp _) (DRs.nxt (.put hp _) _ (rd.append re)))
    · cases e
  · cases e
/-! ### in -/
def flatD : PyData → Bool
  | .none | .bool _ | .int _ | .str _ => true
  | _ => false
theorem flat_of {A : Wd} {v : V} {d : PyData} (r : DR K tb A v d) (h : flatD d = true) : flatV v = true := by
  cases r <;> first | rfl | exact absurd (show false = true from h) Bool.false_ne_true
theorem eqV_of {A : Wd} {v u : V} {d e : PyData} (r : DR K tb A v d) (g : DR K tb A u e) (hd : flatD d = true) (he : flatD e = true) : eqV v u = PyData.eqv d e := by
  cases r <;> first | exact absurd (show false = true from hd) Bool.false_ne_true | (cases g <;> first | exact absurd (show false = true from he) Bool.false_ne_true | rfl)
theorem inV_of {A : Wd} {x : V} {d : PyData} (r : DR K tb A x d) (hd : flatD d = true) : ∀ {xs : List V} {ds : List PyData}, DRs K tb A xs ds → ds.all flatD = true → inV x xs = ds.any (fun y => PyData.eqv y d) ∧ xs.all flatV = true
  | _, [], h, _ => by cases h; exact ⟨rfl, rfl⟩
  | _, e :: es, h, c => by
    rw [List.all_cons, Bool.and_eq_true] at c
    cases h with
    | cons a b =>
      obtain ⟨i1, i2⟩ := inV_of r hd b c.2
      refine ⟨?_, ?_⟩
      · show (eqV _ x || inV x _) = _
        rw [eqV_of a r c.1 hd, i1]; rfl
      · rw [List.all_cons, flat_of a c.1, i2]; rfl
def oIn (n : Bool) : F2 := fun a b S => match a with
  | .d x => (items b S).bind fun us => (dOf us).bind fun ds => if (flatD x && ds.all flatD) = true then some (.d (.bool (if n = true then !ds.any (fun y => PyData.eqv y x) else ds.any fun y => PyData.eqv y x)), S) else none
  | _ => none
theorem sr_in {n : Bool} : SR K tb (rIn K n) (oIn n) := fun A x y a b S w S' Q R ra rb e q => by
  unfold oIn at e
  split at e
  · rename_i d
    obtain ⟨us, e1, e⟩ := Option.bind_eq_some_iff.mp e
    obtain ⟨ds, e2, e⟩ := Option.bind_eq_some_iff.mp e
    split at e
    · rename_i hf
      rw [Bool.and_eq_true] at hf
      cases e
      obtain ⟨p, xs, rfl, sq, rx⟩ := items_run R rb e1
      have rd := drs_of rx e2
      obtain ⟨i1, i2⟩ := inV_of (show DR K tb A x d from ra) hf.1 rd hf.2
      refine ⟨p, xs, rfl, sq, flat_of (show DR K tb A x d from ra) hf.1, i2, ?_⟩
      rw [i1]
      exact q _ A .refl R (DR.bl _)
    · cases e
  · cases e
/-! ### chains -/
theorem se_chain {r r' : R2} {f g : F2} {ta tb' tc : TE} {a b c : ME} (hr : SR K tb r f) (hr' : SR K tb r' g) (ha : SE K tb ta a) (hb : SE K tb tb' b) (hc : SE K tb tc c) : SE K tb (tChain r r' ta tb' tc) (eChain f g a b c) := fun A σ ρ S w S' Q R E e q => by
  obtain ⟨p, e1, e⟩ := Option.bind_eq_some_iff.mp e
  obtain ⟨p2, e2, e⟩ := Option.bind_eq_some_iff.mp e
  obtain ⟨⟨z, S3⟩, e3, e⟩ := Option.bind_eq_some_iff.mp e
  refine ha A σ ρ S p.1 p.2 _ R E e1 fun x B N1 R1 r1 => ?_
  refine hb B σ ρ p.2 p2.1 p2.2 _ R1 (E.nxt N1) e2 fun y C N2 R2 r2 => ?_
  refine hr C x y p.1 p2.1 p2.2 z S3 _ R2 (r1.nxt N2) r2 e3 fun k D N3 R3 r3 => ?_
  dsimp only at e
  split at e
  · obtain ⟨u, e4, e⟩ := Option.bind_eq_some_iff.mp e
    refine ⟨true, WR.bl r3, ?_⟩
    rw [if_pos rfl]
    exact hc D σ ρ S3 u.1 u.2 _ R3 (E.nxt (N1.trans (N2.trans N3))) e4 fun v F N4 R4 r4 => hr' F y v p2.1 u.1 u.2 w S' Q R4 (r2.nxt (N3.trans N4)) r4 e (q.nxt (N1.trans (N2.trans (N3.trans N4))))
  · cases e
    refine ⟨false, WR.bl r3, ?_⟩
    rw [if_neg Bool.false_ne_true]
    exact q _ D (N1.trans (N2.trans N3)) R3 (DR.bl false)
  · cases e
/-! ### methods of lists -/
abbrev MM := W → List W → Mem → Option (W × Mem)
def SM (K : PySem.W.Frag) (tb : List Addr) (r : V → List V → Hp → VK → Prop) (f : MM) : Prop := ∀ A x vs a ws S w S' Q, Rep K tb A S → WR K tb A x a → WRs K tb A vs ws → f a ws S = some (w, S') → Pd.KE K tb A w S' Q → r x vs A.H Q
def lstAt (a : W) (S : Mem) : Option (Nat × List W) := match a with
  | .loc n => match S[n]? with
    | some (.lst ws) => some (n, ws)
    | _ => none
  | _ => none
def eBm (f : MM) (o : ME) (a : MA) : ME := fun ρ S => (o ρ S).bind fun p => (itemsL p.1 p.2).bind fun _ => (a ρ p.2).bind fun q => f p.1 q.1 q.2
theorem se_bm {r : V → List V → Hp → VK → Prop} {f : MM} {to : TE} {t : TA} {o : ME} {a : MA} (hf : SM K tb r f) (ho : SE K tb to o) (ha : SA K tb t a) : SE K tb (tBM K "list" r to t) (eBm f o a) := fun A σ ρ S w S' Q R E e q => by
  obtain ⟨p, e1, e⟩ := Option.bind_eq_some_iff.mp e
  obtain ⟨us, e0, e⟩ := Option.bind_eq_some_iff.mp e
  obtain ⟨z, e2, e⟩ := Option.bind_eq_some_iff.mp e
  refine ho A σ ρ S p.1 p.2 _ R E e1 fun x B N R1 r1 => ?_
  obtain ⟨a, xs, rfl, sq, _⟩ := itemsL_run R1 r1 e0
  exact ⟨.inl ⟨rfl, xs, sq⟩, ha B σ ρ p.2 z.1 z.2 _ R1 (E.nxt N) e2 fun vs C N2 R2 r2 => hf C _ vs p.1 z.1 z.2 w S' Q R2 (r1.nxt N2) r2 e (q.nxt (N.trans N2))⟩
theorem se_bm0 {r : V → List V → Hp → VK → Prop} {f : MM} {to : TE} {o : ME} (hf : SM K tb r f) (ho : SE K tb to o) : SE K tb (tBM0 K "list" r to) (eBm f o aNil) := fun A σ ρ S w S' Q R E e q => by
  obtain ⟨p, e1, e⟩ := Option.bind_eq_some_iff.mp e
  obtain ⟨us, e0, e⟩ := Option.bind_eq_some_iff.mp e
  obtain ⟨z, e2, e⟩ := Option.bind_eq_some_iff.mp e
  cases e2
  refine ho A σ ρ S p.1 p.2 _ R E e1 fun x B N R1 r1 => ?_
  obtain ⟨a, xs, rfl, sq, _⟩ := itemsL_run R1 r1 e0
  exact ⟨.inl ⟨rfl, xs, sq⟩, hf B _ [] p.1 [] p.2 w S' Q R1 r1 .nil e (q.nxt N)⟩
theorem lstAt_run {A : Wd} {S : Mem} {v : V} {w : W} {n : Nat} {ws : List W} (R : Rep K tb A S) (r : WR K tb A v w) (h : lstAt w S = some (n, ws)) : w = .loc n ∧ S[n]? = some (.lst ws) ∧ ∃ a xs, v = .ref a ∧ A.ι[n]? = some a ∧ A.H a = some (.lst xs) ∧ WRs K tb A xs ws := by
  unfold lstAt at h
  split at h
  · split at h
    · rename_i m ws' e
      cases h
      obtain ⟨a, rfl, i⟩ := r
      obtain ⟨vs, ev, rr⟩ := R.at_ _ a _ i e
      exact ⟨rfl, e, a, vs, rfl, i, ev, rr⟩
    · cases h
  · cases h
/-- the list with number n becomes ws -/
theorem lset_run {A : Wd} {S : Mem} {n : Nat} {a : Addr} {ws : List W} {vs : List V} {w : W} {v : V} {Q : VK} (R : Rep K tb A S) (ia : A.ι[n]? = some a) (r : WRs K tb A vs ws) (rv : WR K tb A v w) (q : Pd.KE K tb A w (S.set n (.lst ws)) Q) : Q v (upd A.H a (.lst vs)) :=
  q v (A.put a (.lst vs)) (.set ia) (R.set ia ⟨vs, upd_same, r.nxt (.set ia)⟩) (rv.nxt (.set ia))
theorem WRs.append {A : Wd} {vs us : List V} {ws zs : List W} (r : WRs K tb A vs ws) (g : WRs K tb A us zs) : WRs K tb A (vs ++ us) (ws ++ zs) := by
  induction r with
  | nil => exact g
  | cons a b ih => exact .cons a ih
def mAppend : MM := fun a ws S => match ws with
  | [w] => (lstAt a S).bind fun p => if p.2.length < sizeLine then some (.d .none, S.set p.1 (.lst (p.2 ++ [w]))) else none
  | _ => none
theorem sm_append : SM K tb rAppend mAppend := fun A x vs a ws S w S' Q R ra rs e q => by
  unfold mAppend at e
  split at e
  · obtain ⟨⟨n, us⟩, e1, e⟩ := Option.bind_eq_some_iff.mp e
    dsimp only at e
    split at e
    · rename_i hl
      cases e
      obtain ⟨rfl, _, p, xs, rfl, ia, ep, rx⟩ := lstAt_run R ra e1
      obtain ⟨v, rfl, rv⟩ := wrs1 rs
      exact ⟨p, xs, v, rfl, rfl, ep, by rw [WRs.length rx]; exact hl, lset_run (v := .non) (w := .d .none) R ia (rx.append (.cons rv .nil)) DR.non q⟩
    · cases e
  · cases e
/-- extend by a list -/
def rExtendL : V → List V → Hp → VK → Prop := fun x vs H Q => ∃ l b xs zs, x = .ref l ∧ vs = [.ref b] ∧ H l = some (.lst xs) ∧ Rd H b (.lst zs) ∧ xs.length + zs.length ≤ sizeLine ∧ Q .non (upd H l (.lst (xs ++ zs)))
theorem mt_extendL {X : Cx} : MtM X "list.extend" rExtendL := by
  intro pins s σ H x vs v us Q I rx rv h
  obtain ⟨l, b, xs, zs, rfl, rfl, hH, hB, hz, q⟩ := h
  cases rx
  obtain ⟨u, rfl, ru⟩ := rv.one
  cases ru
  obtain ⟨z, its, n, r, hl, e⟩ := I.lstM hH
  obtain ⟨z2, its2, n2, r2, e2⟩ := hB.ok I.hok
  have hl2 := r2.length
  have hsz : its.toArray.size + its2.toArray.size ≤ sizeLine := by rw [List.size_toArray, List.size_toArray]; omega
  have hlong : ¬ (!its.toArray.isEmpty && Builtin.List.listTooLong (its.toArray.size + its2.toArray.size)) = true := by
    rw [notLongL hsz, Bool.and_false]
    exact Bool.false_ne_true
  refine call_meets F.slot_list_extend ⟨_, e, rfl⟩ F.entry_list_extend (F.args_list_extend_2 _ _)
    (AutoSeq1.list_extend_list_list_0 l its.toArray n b its2.toArray n2 hlong (by simp only [List.size_toArray]; omega) (by simp only [List.size_toArray]; omega)) ⟨e, e2, ?_⟩
  refine ⟨.non, _, I.lset (its' := its ++ its2) hH e (by simp) (r.append r2) ?_, rfl, q⟩
  rw [List.length_append]
  omega
def mExtend : MM := fun a ws S => match ws with
  | [.d (.list ds)] => (lstAt a S).bind fun p => if p.2.length + ds.length ≤ sizeLine then some (.d .none, S.set p.1 (.lst (p.2 ++ ds.map .d))) else none
  | _ => none
theorem sm_extend : SM K tb rExtendL mExtend := fun A x vs a ws S w S' Q R ra rs e q => by
  unfold mExtend at e
  split at e
  · rename_i ds
    obtain ⟨⟨n, us⟩, e1, e⟩ := Option.bind_eq_some_iff.mp e
    dsimp only at e
    split at e
    · rename_i hl
      cases e
      obtain ⟨rfl, _, p, xs, rfl, ia, ep, rx⟩ := lstAt_run R ra e1
      obtain ⟨v, rfl, rv⟩ := wrs1 rs
      obtain ⟨b, zs, rfl, f, rd⟩ := WR.lst rv
      have l1 := rd.length
      exact ⟨p, b, xs, zs, rfl, rfl, ep, f.2, by rw [WRs.length rx]; omega, lset_run (v := .non) (w := .d .none) R ia (rx.append (wrs_of rd)) DR.non q⟩
    · cases e
  · cases e
def mPop : MM := fun a ws S => match ws with
  | [] => (lstAt a S).bind fun p => (p.2[p.2.length - 1]?).bind fun w => some (w, S.set p.1 (.lst p.2.dropLast))
  | _ => none
theorem WRs.dropLast {A : Wd} {vs : List V} {ws : List W} (r : WRs K tb A vs ws) : WRs K tb A vs.dropLast ws.dropLast := by
  induction r with
  | nil => exact .nil
  | cons a b ih =>
    cases b with
    | nil => exact .nil
    | cons c d => exact .cons a ih
theorem sm_pop : SM K tb rPop mPop := fun A x vs a ws S w S' Q R ra rs e q => by
  unfold mPop at e
  split at e
  · obtain ⟨⟨n, us⟩, e1, e⟩ := Option.bind_eq_some_iff.mp e
    obtain ⟨w1, e2, e⟩ := Option.bind_eq_some_iff.mp e
    cases e
    obtain ⟨rfl, _, p, xs, rfl, ia, ep, rx⟩ := lstAt_run R ra e1
    cases rs
    obtain ⟨v, e3, rv⟩ := WRs.get' rx e2
    exact ⟨p, xs, v, rfl, rfl, ep, by rw [WRs.length rx]; exact e3, lset_run R ia rx.dropLast rv q⟩
  · cases e
def mReverse : MM := fun a ws S => match ws with
  | [] => (lstAt a S).bind fun p => some (.d .none, S.set p.1 (.lst p.2.reverse))
  | _ => none
theorem WRs.reverse {A : Wd} {vs : List V} {ws : List W} (r : WRs K tb A vs ws) : WRs K tb A vs.reverse ws.reverse := by
  induction r with
  | nil => exact .nil
  | cons a b ih => rw [List.reverse_cons, List.reverse_cons]; exact ih.append (.cons a .nil)
theorem sm_reverse : SM K tb rReverse mReverse := fun A x vs a ws S w S' Q R ra rs e q => by
  unfold mReverse at e
  split at e
  · obtain ⟨⟨n, us⟩, e1, e⟩ := Option.bind_eq_some_iff.mp e
    cases e
    obtain ⟨rfl, _, p, xs, rfl, ia, ep, rx⟩ := lstAt_run R ra e1
    cases rs
    exact ⟨p, xs, rfl, rfl, ep, lset_run (v := .non) (w := .d .none) R ia rx.reverse DR.non q⟩
  · cases e
/-! ### a[i] = v -/
def gIx (o i : ME) : MG := fun w ρ S => (o ρ S).bind fun p => (i ρ p.2).bind fun z => match z.1 with
  | .d (.int k) => (lstAt p.1 z.2).bind fun l => (ixN l.2.length k).bind fun j => some (ρ, z.2.set l.1 (.lst (l.2.set j w)))
  | _ => none
theorem WRs.set {A : Wd} {vs : List V} {ws : List W} {v : V} {w : W} (r : WRs K tb A vs ws) (rv : WR K tb A v w) : ∀ j, WRs K tb A (vs.set j v) (ws.set j w) := by
  induction r with
  | nil => intro j; exact .nil
  | cons a b ih =>
    intro j
    cases j with
    | zero => exact .cons rv b
    | succ j => exact .cons a (ih j)
theorem sg_ix {to ti : TE} {o i : ME} (ho : SE K tb to o) (hi : SE K tb ti i) : SG K tb [] (gSub to ti rSetL) (gIx o i) := fun A v w σ ρ S ρ' S' Q R E r e q => by
  obtain ⟨p, e1, e⟩ := Option.bind_eq_some_iff.mp e
  obtain ⟨z, e2, e⟩ := Option.bind_eq_some_iff.mp e
  obtain ⟨z1, S2⟩ := z
  dsimp only at e
  split at e
  · rename_i k
    obtain ⟨⟨n, us⟩, e3, e⟩ := Option.bind_eq_some_iff.mp e
    obtain ⟨j, e4, e⟩ := Option.bind_eq_some_iff.mp e
    cases e
    refine ho A σ ρ S p.1 p.2 _ R E e1 fun x B N R1 r1 => ?_
    refine hi B σ ρ p.2 _ S2 _ R1 (E.nxt N) e2 fun y C N2 R2 r2 => ?_
    obtain rfl := WR.int r2
    obtain ⟨_, _, a, xs, rfl, ia, ea, rx⟩ := lstAt_run R2 (r1.nxt N2) e3
    have NN := N.trans N2
    exact ⟨a, xs, k, j, rfl, rfl, ea, by rw [WRs.length rx]; exact e4, q (C.put a _) σ (NN.trans (.set ia)) (R2.set ia ⟨_, upd_same, (rx.set (r.nxt NN) j).nxt (.set ia)⟩) (E.nxt (NN.trans (.set ia))) rfl fun _ _ => rfl⟩
  · cases e
/-! ### isinstance of a written class, by the kind of the data -/
def tyD : W → Option String
  | .d (.tuple _) => some "tuple"
  | .d (.int _) => some "int"
  | .d (.bool _) => some "bool"
  | .d (.str _) => some "str"
  | .d .none => some "NoneType"
  | _ => none
end
end Pd
/-! ### enumerate of a tuple -/
namespace PySem
open Sem (wp)
open AutoSeq1 (wpAny_loadPart')
theorem own_enum_new {v : Value} {o : Obj} {H : Heap → Prop} (B : Begins v o H) :
    Meets (Builtin.«enumerate.__new__» ⟨[.type "enumerate", v], []⟩) (fun _ R s => H s.heap ∧
      R (.ok (.ret (.ref (s.heap.push o).objs.size))) { s with heap := (s.heap.push o).push { cls := .type "enumerate", data := .fields #[.none, .bool false, .ref s.heap.objs.size, rawInt 0, .none, .none] } }) :=
  .of_wp fun prog w A R s h => by
    obtain ⟨hp, g, d, tk, os⟩ := s; obtain ⟨h1, h⟩ := h
    have hsub := sub_enumerate
    have it1 : ∀ {A' : Around} {E : Value → Shared → Prop} {Q : Value → Shared → Prop}, Q (.ref hp.objs.size) ⟨hp.push o, g, d, tk, os⟩ → wpAny (model prog w) A' (pyIter v) Q E ⟨hp, g, d, tk, os⟩ :=
      fun q => B.iter prog w _ _ ⟨hp, g, d, tk, os⟩ _ h1 q
    wp_walk using it1
    refine wpAny_stack_any fun st => wpAny_pure ?_
    split
    · rename_i c _ _ _ _ _
      cases (c == Value.type "enumerate")
      · wp_walk using it1
        exact ⟨_, rfl, h⟩
      · wp_walk using it1
        exact ⟨_, rfl, h⟩
    · wp_walk using it1
      exact ⟨_, rfl, h⟩
section
variable {prog : Program} {w : World} {A : Around} {E : Value → Shared → Prop} {s : Shared}
theorem own_enum_call {v : Value} {o : Obj} {H : Heap → Prop} {Q : Value → Shared → Prop} (B : Begins v o H) (h1 : H s.heap)
    (h : ∀ h', IsEnum h' (s.heap.objs.size + 1) s.heap.objs.size 0 .none → h'.get? s.heap.objs.size = some o → h'.objs.size = s.heap.objs.size + 2 →
      (∀ b o, s.heap.get? b = some o → h'.get? b = some o) → Q (.ref (s.heap.objs.size + 1)) { s with heap := h' }) :
    wpAny (model prog w) A (call (.type "enumerate") [v]) Q E s := by
  refine callType_new F.called_enumerate (by decide) (F.typeCall_enumerate_1 _) (F.newCall_enumerate_1 _) (fun obj => F.args_object_init_2 obj _) F.entry_enumerate_new (own_enum_new B) ⟨h1, ?_⟩
  have hz : (s.heap.push o).objs.size = s.heap.objs.size + 1 := Heap.size_push ..
  show _ ∧ _
  rw [hz]
  have he : IsEnum ((s.heap.push o).push { cls := .type "enumerate", data := .fields #[.none, .bool false, .ref s.heap.objs.size, rawInt 0, .none, .none] }) (s.heap.objs.size + 1) s.heap.objs.size 0 .none := by
    have := Heap.get?_push_size (s.heap.push o) (o := { cls := .type "enumerate", data := .fields #[.none, .bool false, .ref s.heap.objs.size, rawInt 0, .none, .none] }) rfl
    rw [hz] at this; exact this
  exact ⟨⟨_, he, rfl⟩, h _ he (Heap.get?_push_of_some _ (Heap.get?_push_size _ B.free)) (by rw [Heap.size_push, hz]) fun b o x => Heap.get?_push_of_some _ (Heap.get?_push_of_some _ x)⟩
theorem own_enum_end {e it t : Addr} {i : Nat} {k : Int} {items : Array Value} {old : Value} {Q : Option Value → Shared → Prop} (hd : A.in1.handled = none) (he : IsEnum s.heap e it k old) (hit : s.heap.IsTupleIter it t i) (ht : s.heap.IsTuple t items) (hx : items[i]? = none)
    (hQ : ∀ h', Heap.ExtBut it s.heap h' → Q none { s with heap := h' }) : wpAny (model prog w) A (pyNext (.ref e)) Q E s := by
  have ty : s.TypeIs (.ref e) "enumerate" := ⟨_, he, rfl⟩
  unfold pyNext
  refine wpAny_bind (wpAny_attempt (wpAny_callSpecial?_slot (name := Str.ofString "__next__") ty F.slot_enumerate_next (wpAny_call_entry F.slot_enumerate_next ty F.entry_enumerate_next ?_ (F.args_enumerate_next_1 _))))
  show wpAny _ _ (field (.ref e) 2 >>= _) _ _ _
  refine wpAny_bind (wpAny_field he rfl (x := .ref it) rfl (wpAny_bind (wpAny_nextOf_tuple_end hd hit ht hx fun h' x he' ⟨o, ho, hc⟩ => ?_)))
  exact wpAny_bind (wpAny_isInstance (T := "StopIteration") (b := true) ⟨o, ho, hc⟩ isSubtype_stop (wpAny_pure (hQ _ he')))
end
end PySem
namespace L2
open PySem PySem.Spec PyProof.Rows
def Iet (K : PySem.W.Frag) (a : Addr) : It :=
  ⟨fun i H => ∃ (xs : List V) (x : V), SqT K H a xs ∧ xs[i]? = some x, fun i H v H' => ∃ T x, v = .ref T ∧ H T = none ∧ H' = upd H T (.tup [.int (i : Nat), x]) ∧ ∀ xs, SqT K H a xs → xs[i]? = some x, fun i H => ∃ xs : List V, SqT K H a xs ∧ xs.length ≤ i⟩
theorem turn_enumT {P : Program} {w : World} {K : PySem.W.Frag} {elts : List Expr} {kk : Nat} {tpos : Pos} (a e it : Addr) :
    Turn P w K (.Tuple elts kk tpos) (Iet K a) [e, it] e (fun i h => (∃ old, IsEnum h e it ((i : Nat) : Int) old) ∧ h.IsTupleIter it a i ∧ e ≠ it ∧ e ≠ a ∧ a ≠ it) where
  mem := by simp
  obj := fun i h st b hb => by
    obtain ⟨⟨old, he⟩, ⟨o, ho, hc, hd⟩, _⟩ := st
    have e' : b = e ∨ b = it := by simpa using hb
    rcases e' with z | z
    · rw [z]; exact ⟨_, he, fun v q => nomatch q⟩
    · rw [z]; exact ⟨o, ho, fun v q => by rw [hd] at q; cases q⟩
  keep := fun i h h' st k => let ⟨⟨old, he⟩, hi, hne⟩ := st; ⟨⟨old, k e (by simp) _ he⟩, hi.at fun o q => k it (by simp) o q, hne⟩
  item := by
    intro X hP hw hK hc i pins s σ H E I hf st hg
    subst hP hw hK
    obtain ⟨⟨old, he⟩, hit, hne, hea, hai⟩ := st
    obtain ⟨xs, x, hq, hx⟩ := hg
    obtain ⟨its, rv, p, hz⟩ := I.tuple hq
    obtain ⟨u, hu, ru⟩ := rv.get hx
    have hel : e < s.heap.objs.size := Heap.lt_size he
    have hil : it < s.heap.objs.size := by obtain ⟨_, q, _⟩ := hit; exact Heap.lt_size q
    have hd : X.A.in1.handled = none := I.ok.hd hc
    have pt : s.heap.IsTuple a its.toArray := p
    have hi : i < its.toArray.size := by
      have := (List.getElem?_eq_some_iff.mp hu).1
      simpa using this
    refine wpAny_pyNext_enum_itemD (Draws.tuple hd it a hai its.toArray) he ⟨hit, pt⟩ hi hne (by simp [hne, hea]) fun y h' tk hy ho st' hT hsz hk => ?_
    have ey : y = u := by
      have : its.toArray[i]? = some u := by simpa using hu
      rw [this] at hy
      exact (Option.some.inj hy).symm
    subst ey
    refine ⟨_, rfl, wpAny_letOwnedTupleGo_enum (s := { s with heap := h', toks := tk + 1 }) ho fun h'' he' sb => ?_⟩
    have hT2 : h''.get? s.heap.objs.size = some { cls := .type "tuple", data := .seq #[.int i tk, y] } := (sb.2 _ (Nat.ne_of_gt hel)).trans hT
    have new : ObjOk X.prog X.w (upd H s.heap.objs.size (.tup [.int (i : Nat), x])) h'' s.heap.objs.size (.tup [.int (i : Nat), x]) :=
      ⟨by show 2 ≤ sizeLine; decide, [.int i tk, y], .cons ⟨_, rfl⟩ (.cons ru .nil), ⟨_, hT2, rfl, _, rfl⟩⟩
    have I1 : Inv X pins σ (upd H s.heap.objs.size (.tup [.int (i : Nat), x])) { s with heap := h'', toks := tk + 1 } :=
      I.turnedNew (ch := [e, it]) (fun b ob hb q => (sb.2 b (fun z => hb (by simp [z]))).trans (hk b ob (fun z => hb (by simp [z])) (fun z => hb (by simp [z])) q)) hf (Nat.le_refl _) new
    refine ⟨.ref s.heap.objs.size, _, I1, rfl, ⟨_, x, rfl, I.hok.fresh (Nat.le_refl _), rfl, fun ys hy => by rw [I.tuple_inj hy hq]; exact hx⟩, ⟨⟨y, ?_⟩, st'.1.at fun o q => (sb.2 it (Ne.symm hne)).trans q, hne, hea, hai⟩, fun b hb => ?_⟩
    · have e1 : ((i + 1 : Nat) : Int) = (i : Int) + 1 := by omega
      rw [e1]; exact he'
    · have hb' : b < s.heap.objs.size := by
        have e' : b = e ∨ b = it := by simpa using hb
        rcases e' with z | z
        · rw [z]; exact hel
        · rw [z]; exact hil
      rw [upd_ne (Nat.ne_of_lt hb')]
      exact (hf b hb).1
  done := by
    intro X hP hw hK hc i pins s σ H E I hf st hg
    subst hP hw hK
    obtain ⟨⟨old, he⟩, hit, hne, hea, hai⟩ := st
    obtain ⟨xs, hq, hx⟩ := hg
    obtain ⟨its, rv, p, hz⟩ := I.tuple hq
    obtain ⟨f0, f1, f2, f3, f4, f5⟩ := hf it (by simp)
    have hl := rv.length
    have hd : X.A.in1.handled = none := I.ok.hd hc
    have pt : s.heap.IsTuple a its.toArray := p
    refine own_enum_end hd he hit pt (by simp; omega) fun h' eb => ⟨rfl, I.turned (t' := s.toks) (fun b o hb q => eb b o hb q) f0 f1 f3 f4 f5⟩
  self := fun A i s Q E st h => let ⟨⟨_, he⟩, _⟩ := st; wpAny_pyIter_enum he h
def iEnumT (K : PySem.W.Frag) (ta : TA) : TI := fun σ H R => ta σ H fun vs H1 => ∃ a xs, vs = [.ref a] ∧ SqT K H1 a xs ∧ R (Iet K a) H1
theorem pi_enumT {X : Cx} {e : Expr} {ta : TA} {p pos tpos : Pos} {elts : List Expr} {kk : Nat} (hg : Gl X "enumerate") (hm : X.mg "enumerate" = none) (ha : PA X [e] ta) (hs : starEach [e] X.env = [(false, eval e X.env)] := by rfl) :
    PI X (.Tuple elts kk tpos) (.Call (.Name "enumerate" p) [e] [] pos) (iEnumT X.K ta) := by
  refine ⟨fun pins s σ H R I h => ?_⟩
  refine Call_ (ld_blt I hg hm boot_enumerate (PyProof.Rows.callWith_type1 (thn (ha.run pos pins s σ H _ I h) fun us s1 ⟨vs, H1, I1, r1, q1⟩ => ?_) hs rfl))
  obtain ⟨a, xs, rfl, hq, q⟩ := q1
  cases r1 with
  | cons r rr =>
    cases rr
    cases r
    obtain ⟨its, rv, p', hz⟩ := I1.tuple hq
    have pt : s1.heap.IsTuple a its.toArray := p'
    have hal : a < s1.heap.objs.size := by obtain ⟨o, q, _⟩ := pt; exact Heap.lt_size q
    refine own_enum_call (begins_tuple a its.toArray) pt fun h' he hit hsz hk => wpAny_pyIter_enum he ?_
    have I2 : Inv X pins σ H1 { s1 with heap := h' } := I1.kept (t' := s1.toks) hk
    refine ⟨s1.heap.objs.size + 1, [s1.heap.objs.size + 1, s1.heap.objs.size], _, _, H1, rfl, I2, turn_enumT a (s1.heap.objs.size + 1) s1.heap.objs.size, ⟨⟨.none, he⟩, ⟨_, hit, rfl, rfl⟩, Nat.succ_ne_self _, Nat.ne_of_gt (Nat.lt_succ_of_lt hal), Nat.ne_of_lt hal⟩, fun b hb => ?_, q⟩
    have e' : b = s1.heap.objs.size + 1 ∨ b = s1.heap.objs.size := by simpa using hb
    have hle : s1.heap.objs.size ≤ b := by
      rcases e' with z | z
      · rw [z]; exact Nat.le_add_right _ _
      · rw [z]; exact Nat.le_refl _
    exact I1.fpOk hle (I1.hok.fresh hle)
end L2
namespace Pd
open PySem PySem.Spec PyProof.Rows L2 GxR Gx
section
variable {K : PySem.W.Frag} {tb : List Addr}
/-! ### enumerate -/
def numW (us : List PyData) : List W := us.zipIdx.map fun p => W.d (.tuple [.int (p.2 : Int), p.1])
theorem numW_get {us : List PyData} {i : Nat} {w : W} (h : (numW us)[i]? = some w) : ∃ d, us[i]? = some d ∧ w = .d (.tuple [.int (i : Int), d]) := by
  unfold numW at h
  rw [List.getElem?_map] at h
  obtain ⟨p, e1, e2⟩ := Option.map_eq_some_iff.mp h
  rw [List.getElem?_zipIdx] at e1
  obtain ⟨d, e3, e4⟩ := Option.map_eq_some_iff.mp e1
  subst e4 e2
  refine ⟨d, e3, ?_⟩
  simp
theorem numW_length {us : List PyData} : (numW us).length = us.length := by unfold numW; simp
def iEnumM (a : MA) : MI := fun ρ S => (a ρ S).bind fun p => match p.1 with
  | [.d (.tuple ds)] => some (.vals (numW ds), p.2)
  | _ => none
def iEnumLM (a : MA) : MI := fun ρ S => (a ρ S).bind fun p => match p.1 with
  | [.d (.list ds)] => some (.vals (numW ds), p.2)
  | _ => none
theorem iet_ok {A : Wd} {a : Addr} {xs : List V} {ds : List PyData} (f : FzT K tb A a xs) (r : DRs K tb A xs ds) : ItOk K tb A (Iet K a) (.vals (numW ds)) := fun B S ws N R e => by
  cases (show numW ds = ws from e)
  have f' := (f.nxw N).sq
  have rl := r.length
  refine ⟨fun i w hw => ?_, fun i hi => ⟨xs, f', by rw [numW_length] at hi; omega⟩⟩
  obtain ⟨d, e1, rfl⟩ := numW_get hw
  obtain ⟨v, e2, r2⟩ := r.get' e1
  refine ⟨⟨xs, v, f', e2⟩, fun x H2 y => ?_⟩
  obtain ⟨T, x', rfl, hT, rfl, y⟩ := y
  have := y xs f'
  rw [e2] at this; cases this
  exact ⟨B.put T _, rfl, .put hT _, R.put hT _, DR.tup (.inl (.put R hT _)) (.cons (.int _) (.cons (DR.nxt (.put hT _) d (DR.nxw N d r2)) .nil))⟩
theorem ite_ok {A : Wd} {a : Addr} {xs : List V} {ds : List PyData} (f : Fz tb A a (.lst xs)) (r : DRs K tb A xs ds) : ItOk K tb A (Ite K a) (.vals (numW ds)) := fun B S ws N R e => by
  cases (show numW ds = ws from e)
  have f' : SqL K B.H a xs := (f.nxw N).sq
  have rl := r.length
  refine ⟨fun i w hw => ?_, fun i hi => ⟨xs, f', by rw [numW_length] at hi; omega⟩⟩
  obtain ⟨d, e1, rfl⟩ := numW_get hw
  obtain ⟨v, e2, r2⟩ := r.get' e1
  refine ⟨⟨xs, v, f', e2⟩, fun x H2 y => ?_⟩
  obtain ⟨T, x', rfl, hT, rfl, y⟩ := y
  have := y xs f'
  rw [e2] at this; cases this
  exact ⟨B.put T _, rfl, .put hT _, R.put hT _, DR.tup (.inl (.put R hT _)) (.cons (.int _) (.cons (DR.nxt (.put hT _) d (DR.nxw N d r2)) .nil))⟩
theorem si_enumT {t : TA} {a : MA} (ha : SA K tb t a) : SI K tb (iEnumT K t) (iEnumM a) := fun A σ ρ S im S' R' R E e q => by
  obtain ⟨⟨ws, S1⟩, e1, e⟩ := Option.bind_eq_some_iff.mp e
  refine ha A σ ρ S ws S1 _ R E e1 fun vs B N R1 r => ?_
  dsimp only at e
  split at e
  · cases e
    obtain ⟨v, rfl, r1⟩ := wrs1 r
    obtain ⟨a, xs, rfl, f, rd⟩ := r1.tup
    exact ⟨a, xs, rfl, f.sq, q _ B N R1 (iet_ok f rd)⟩
  · cases e
theorem si_enum {t : TA} {a : MA} (ha : SA K tb t a) : SI K tb (iEnum K t) (iEnumLM a) := fun A σ ρ S im S' R' R E e q => by
  obtain ⟨⟨ws, S1⟩, e1, e⟩ := Option.bind_eq_some_iff.mp e
  refine ha A σ ρ S ws S1 _ R E e1 fun vs B N R1 r => ?_
  dsimp only at e
  split at e
  · cases e
    obtain ⟨v, rfl, r1⟩ := wrs1 r
    obtain ⟨a, xs, rfl, f, rd⟩ := r1.lst
    exact ⟨a, xs, rfl, f.sq, q _ B N R1 (ite_ok f rd)⟩
  · cases e
/-! ### a comprehension with two sources -/
def lc2M (im : Itm) (g : MG) (t : MT) (mi1 : MI) (vs1 : List Nat) (g1 : MG) (t1 : MT) (e : ME) : Nat → Nat → Env' → Mem → Option (List W × Mem)
  | f, i, ρ, S => match im.at_ S i with
    | none => none
    | some none => some ([], S)
    | some (some w) => match f with
      | 0 => none
      | f + 1 => (g w ρ S).bind fun p => (t p.1 p.2).bind fun q => if q.1 = true then (mi1 p.1 q.2).bind fun m => (lcM m.1 g1 t1 e (m.1.len m.2) 0 (wipeE p.1 vs1) m.2).bind fun r => (lc2M im g t mi1 vs1 g1 t1 e f (i + 1) ρ r.2).bind fun z => some (r.1 ++ z.1, z.2)
        else lc2M im g t mi1 vs1 g1 t1 e f (i + 1) ρ q.2
def eLc2 (mi : MI) (vs : List Nat) (g : MG) (t : MT) (mi1 : MI) (vs1 : List Nat) (g1 : MG) (t1 : MT) (e : ME) (mk : List W → Mem → Option (W × Mem)) : ME := fun ρ S => (mi ρ S).bind fun p => (lc2M p.1 g t mi1 vs1 g1 t1 e (p.1.len p.2) 0 (wipeE ρ vs) p.2).bind fun q => mk q.1 q.2
theorem se_lc2 {wi wi1 : TI} {mg' mg1' : TG} {tt tt1 : TT} {te : TE} {vs vs1 us us1 : List Nat} {mi mi1 : MI} {mg mg1 : MG} {mt mt1 : MT} {me : ME} {mk : List W → Mem → Option (W × Mem)} (hk : SMk K tb mk) (hi : SI K tb wi mi) (hg : SG K tb us mg' mg) (hsub : ∀ j, j ∈ us → j ∈ vs) (ht : ST K tb tt mt)
    (hi1 : SI K tb wi1 mi1) (hg1 : SG K tb us1 mg1' mg1) (hsub1 : ∀ j, j ∈ us1 → j ∈ vs1) (ht1 : ST K tb tt1 mt1) (he : SE K tb te me) :
    SE K tb (tLc2 wi mg' tt wi1 mg1' tt1 te vs vs1) (eLc2 mi vs mg mt mi1 vs1 mg1 mt1 me mk) := fun A σ ρ S w S' Q R E e q => by
  obtain ⟨⟨im, S1⟩, e1, e⟩ := Option.bind_eq_some_iff.mp e
  obtain ⟨⟨zs, S2⟩, e2, e3⟩ := Option.bind_eq_some_iff.mp e
  refine hi A σ ρ S im S1 _ R E e1 fun J B N R1 ok D hD => ?_
  have hlen := hk.1 _ _ _ e3
  let B1 : Wd := { H := upd B.H D (.lst []), ι := B.ι, hid := D :: B.hid }
  have nD := R1.fresh hD
  have N1 : Nxt tb B B1 := ⟨fun b z => List.mem_cons_of_mem _ z, fun b z => (List.mem_cons.mp z).elim (fun z => .inr (by rw [z]; exact hD)) .inl, fun b z => upd_none z, ⟨[], by show B.ι = _; simp⟩, fun b o n t e => ⟨by show upd B.H D _ b = _; rw [upd_ne (ne_of_none e hD)]; exact e, n⟩⟩
  have RB : Rep K tb B1 S1 := by
    have R2 := R1.put hD (.lst [])
    refine ⟨R2.len, R2.nd, R2.tabs, fun b hb => ?_, fun n a ob z1 z2 => ?_⟩
    · rcases List.mem_cons.mp hb with z | z
      · subst z; exact ⟨⟨_, upd_same⟩, fun z => nD (.inl z), fun z => nD (.inr (.inl z))⟩
      · exact R2.hd b z
    · have o := R1.at_ n a ob z1 z2
      obtain ⟨oo, eo, _⟩ := o.some
      exact o.nxt N1 (by show upd B.H D _ a = _; rw [upd_ne (ne_of_none eo hD)])
  have EB := wipeE_er (E.nxt N) vs
  refine ⟨fun i m H => ∃ C acc ws S3 zs', C.H = H ∧ Nxt tb B C ∧ D ∈ C.hid ∧ C.H D = some (.lst acc) ∧ Rep K tb C S3 ∧ WRs K tb C acc ws ∧ lc2M im mg mt mi1 vs1 mg1 mt1 me m i (wipeE ρ vs) S3 = some (zs', S2) ∧ ws ++ zs' = zs,
    ⟨_, B1, [], [], S1, zs, rfl, N1, List.mem_cons_self, upd_same, RB, .nil, e2, rfl⟩, ?_⟩
  rintro i m _ ⟨C, acc, ws, S3, zs', rfl, N3, hDC, eD, R3, racc, e4, hz⟩
  unfold lc2M at e4
  split at e4
  · cases e4
  · rename_i ha
    cases e4
    obtain ⟨us', hu, hz'⟩ := Itm.at_now ha
    rw [List.append_nil] at hz
    subst hz
    exact .inl ⟨(ok C _ us' N3.w R3 hu).2 i (List.getElem?_eq_none_iff.mp hz'.symm), hk.2 B C D acc ws S1 _ w S' Q R1 hD N3 hDC eD R3 racc e3 (q.nxt N)⟩
  · rename_i w1 ha
    obtain ⟨us', hu, hz'⟩ := Itm.at_now ha
    obtain ⟨go, yl⟩ := (ok C S3 us' N3.w R3 hu).1 i w1 hz'.symm
    cases m with
    | zero => cases e4
    | succ m =>
      obtain ⟨⟨ρ5, S5⟩, e5, e4⟩ := Option.bind_eq_some_iff.mp e4
      obtain ⟨⟨k6, S6⟩, e6, e4⟩ := Option.bind_eq_some_iff.mp e4
      refine .inr ⟨go, fun H' => ∃ C acc ws S3 zs', C.H = H' ∧ Nxt tb B C ∧ D ∈ C.hid ∧ C.H D = some (.lst acc) ∧ Rep K tb C S3 ∧ WRs K tb C acc ws ∧ lc2M im mg mt mi1 vs1 mg1 mt1 me m (i + 1) (wipeE ρ vs) S3 = some (zs', S2) ∧ ws ++ zs' = zs, fun H' h => ⟨m, Nat.lt_succ_self m, h⟩, fun x H2 y => ?_⟩
      obtain ⟨C2, rfl, N4, R4, r4⟩ := yl x H2 y
      have EC : ER K tb C2 (wipe σ vs) (wipeE ρ vs) := EB.nxt (N3.trans N4)
      refine hg C2 x w1 _ _ S3 ρ5 S5 _ R4 EC r4 e5 fun C3 σ3 N5 R5 E5 hl5 hj5 => ⟨wipe_wipe hl5 fun j hj => hj5 j fun z => hj (hsub j z), ?_⟩
      refine ht C3 σ3 ρ5 S5 k6 S6 _ R5 E5 e6 fun C4 N6 R6 => ?_
      have NC := N4.trans (N5.trans N6)
      cases k6 with
      | false =>
        simp only [Bool.false_eq_true, if_false] at e4 ⊢
        exact ⟨C4, acc, ws, S6, zs', rfl, N3.trans NC, NC.hid D hDC, NC.hidden R3 hDC eD, R6, WRs.nxt NC racc, e4, hz⟩
      | true =>
        simp only [if_true] at e4 ⊢
        obtain ⟨⟨im1, S7⟩, e7, e4⟩ := Option.bind_eq_some_iff.mp e4
        obtain ⟨⟨ys8, S8⟩, e8, e4⟩ := Option.bind_eq_some_iff.mp e4
        obtain ⟨⟨zs9, S9⟩, e9, e4⟩ := Option.bind_eq_some_iff.mp e4
        cases e4
        refine hi1 C4 σ3 ρ5 S6 im1 S7 _ R6 (E5.nxt N6) e7 fun J1 C5 N7 R7 ok1 => ?_
        have NC5 := NC.trans N7
        have EI := wipeE_er (E5.nxt (N6.trans N7)) vs1
        refine ⟨fun j k H => ∃ F acc' us2 S3' ys', F.H = H ∧ NxW tb C5 F ∧ D ∈ F.hid ∧ F.H D = some (.lst acc') ∧ Rep K tb F S3' ∧ WRs K tb F acc' us2 ∧ lcM im1 mg1 mt1 me k j (wipeE ρ5 vs1) S3' = some (ys', S8) ∧ us2 ++ ys' = ws ++ ys8 ∧ Nxt tb B F,
          ⟨_, C5, acc, ws, S7, ys8, rfl, Nxt.refl.w, NC5.hid D hDC, NC5.hidden R3 hDC eD, R7, WRs.nxt NC5 racc, e8, rfl, N3.trans NC5⟩, ?_⟩
        rintro j k _ ⟨F, acc', us2, S3', ys', rfl, NF, hDF, eDF, RF, raF, eF, hzF, NBF⟩
        unfold lcM at eF
        split at eF
        · cases eF
        · rename_i haF
          cases eF
          obtain ⟨vs', hv, hzv⟩ := Itm.at_now haF
          rw [List.append_nil] at hzF
          subst hzF
          exact .inl ⟨(ok1 F _ vs' NF RF hv).2 j (List.getElem?_eq_none_iff.mp hzv.symm), F, acc', ws ++ ys8, S8, zs9, rfl, NBF, hDF, eDF, RF, raF, e9, by rw [List.append_assoc]; exact hz⟩
        · rename_i wF haF
          obtain ⟨vs', hv, hzv⟩ := Itm.at_now haF
          obtain ⟨goF, ylF⟩ := (ok1 F S3' vs' NF RF hv).1 j wF hzv.symm
          cases k with
          | zero => cases eF
          | succ k =>
            obtain ⟨⟨ρ10, S10⟩, e10, eF⟩ := Option.bind_eq_some_iff.mp eF
            obtain ⟨⟨k11, S11⟩, e11, eF⟩ := Option.bind_eq_some_iff.mp eF
            refine .inr ⟨goF, fun H' => ∃ F acc' us2 S3' ys', F.H = H' ∧ NxW tb C5 F ∧ D ∈ F.hid ∧ F.H D = some (.lst acc') ∧ Rep K tb F S3' ∧ WRs K tb F acc' us2 ∧ lcM im1 mg1 mt1 me k (j + 1) (wipeE ρ5 vs1) S3' = some (ys', S8) ∧ us2 ++ ys' = ws ++ ys8 ∧ Nxt tb B F, fun H' h => ⟨k, Nat.lt_succ_self k, h⟩, fun x1 H3 y1 => ?_⟩
            obtain ⟨F2, rfl, M4, Q4, s4⟩ := ylF x1 H3 y1
            have EF : ER K tb F2 (wipe σ3 vs1) (wipeE ρ5 vs1) := (EI.nxw NF).nxt M4
            refine hg1 F2 x1 wF _ _ S3' ρ10 S10 _ Q4 EF s4 e10 fun F3 σ10 M5 Q5 E10 hl10 hj10 => ⟨wipe_wipe hl10 fun j hj => hj10 j fun z => hj (hsub1 j z), ?_⟩
            refine ht1 F3 σ10 ρ10 S10 k11 S11 _ Q5 E10 e11 fun F4 M6 Q6 => ?_
            have MC := M4.trans (M5.trans M6)
            cases k11 with
            | false =>
              simp only [Bool.false_eq_true, if_false] at eF ⊢
              exact ⟨F4, acc', us2, S11, ys', rfl, NF.trans MC.w, MC.hid D hDF, MC.hidden RF hDF eDF, Q6, WRs.nxt MC raF, eF, hzF, NBF.trans MC⟩
            | true =>
              simp only [if_true] at eF ⊢
              obtain ⟨⟨y12, S12⟩, e12, eF⟩ := Option.bind_eq_some_iff.mp eF
              obtain ⟨⟨zs13, S13⟩, e13, eF⟩ := Option.bind_eq_some_iff.mp eF
              cases eF
              refine he F4 σ10 ρ10 S11 y12 S12 _ Q6 (E10.nxt M6) e12 fun v F5 M7 Q7 r7 => ?_
              have MC5 := MC.trans M7
              have hD5 := MC5.hid D hDF
              have eD5 := MC5.hidden RF hDF eDF
              have hac := WRs.length raF
              refine ⟨acc', eD5, ?_, F5.hset D (.lst (acc' ++ [v])), acc' ++ [v], us2 ++ [y12], S12, zs13, rfl, nxw_hset (NF.trans MC5.w) (NC5.hid D hDC), hD5, upd_same, Q7.hset hD5, ?_, e13, by rw [List.append_assoc]; exact hzF, nxt_hset (NBF.trans MC5) hD⟩
              · have h1 := congrArg List.length hzF
                have h2 : ws.length + (ys8.length + zs9.length) = zs.length := by have := congrArg List.length hz; simpa using this
                have h3 : zs.length ≤ sizeLine := hlen
                have h4 : us2.length + (zs13.length + 1) = ws.length + ys8.length := by simpa using h1
                omega
              · exact Paired.snoc (Paired.mapP (WRs.nxt MC5 raF) fun _ _ z => wr_key (hset_key hD5) (fun _ _ z => z) z) (wr_key (hset_key hD5) (fun _ _ z => z) r7)
end
end Pd
/-! max(l, default=d) of a list of ints: by the library's max over data -/
namespace Pd
open PySem PySem.Spec PyProof.Rows L2 GxR Gx
section
variable {K : PySem.W.Frag} {tb : List Addr}
/-! ### max(.., default=..) -/
def rMaxD (K : PySem.W.Frag) : List V → List V → Hp → VK → Prop := fun vs zs H Q => ∃ (a : Addr) (ns : List Int) (d : V), vs = [V.ref a] ∧ zs = [d] ∧ SqL K H a (ns.map V.int) ∧ (ns = [] → Q d H) ∧ ∀ m, m ∈ ns → (∀ y, y ∈ ns → y ≤ m) → Q (.int m) H
theorem ints_alike (ns : List Int) : PySem.W.AlikeAll (ns.map PyData.int) := by
  constructor
  · intro x hx y hy
    obtain ⟨i, _, rfl⟩ := List.mem_map.mp hx
    obtain ⟨j, _, rfl⟩ := List.mem_map.mp hy
    rfl
  · intro x hx
    obtain ⟨i, _, rfl⟩ := List.mem_map.mp hx
    exact PyData.noConfusion
theorem ints_flat : ∀ ns : List Int, PyData.depthAll (ns.map PyData.int) = 0
  | [] => rfl
  | n :: ns => by
    show max 0 (PyData.depthAll (ns.map PyData.int)) = 0
    rw [ints_flat ns]; rfl
theorem fold_max (n : Int) : ∀ ns : List Int, ns.foldl max n ∈ n :: ns ∧ ∀ y ∈ n :: ns, y ≤ ns.foldl max n := by
  intro ns
  induction ns generalizing n with
  | nil => exact ⟨List.mem_singleton.mpr rfl, fun y hy => by rw [List.mem_singleton.mp hy]; exact Int.le_refl _⟩
  | cons k r ih =>
    obtain ⟨h1, h2⟩ := ih (max n k)
    rw [List.foldl_cons]
    constructor
    · rcases List.mem_cons.mp h1 with h | h
      · rw [h]
        rcases Int.le_total n k with g | g
        · rw [Int.max_eq_right g]; exact List.mem_cons_of_mem _ List.mem_cons_self
        · rw [Int.max_eq_left g]; exact List.mem_cons_self
      · exact List.mem_cons_of_mem _ (List.mem_cons_of_mem _ h)
    · intro y hy
      have hm := h2 _ List.mem_cons_self
      rcases List.mem_cons.mp hy with rfl | hy
      · exact Int.le_trans (Int.le_max_left _ _) hm
      · rcases List.mem_cons.mp hy with rfl | hy
        · exact Int.le_trans (Int.le_max_right _ _) hm
        · exact h2 y (List.mem_cons_of_mem _ hy)
theorem ck_maxD {X : Cx} (hc : X.calm = true) (hu : X.A.units + 1 < cLine) : CallRK X (.builtin "max") ["default"] (rMaxD X.K) := by
  intro pins s σ H xs zs us ws Q I r1 r2 h
  obtain ⟨a, ns, d, rfl, rfl, hs, q0, q⟩ := h
  obtain ⟨its, rv, hl, _⟩ := I.list hs
  rw [Vals.ref1 r1]
  obtain ⟨u, rfl, ru⟩ := vals1 r2
  refine PySem.W.max_list_default (xs := ns.map .int) (as := []) (I.ok.hd hc) hl.isList (IntsAre.reads _ rv.ints) (ints_alike ns) (by rw [ints_flat]; exact hu) (fun e h' tk hk => ?_) fun y ys i v h' tk bs e _ rd hk => ?_
  · exact ⟨d, H, I.kept hk, ru, q0 (List.map_eq_nil_iff.mp e)⟩
  · obtain ⟨n, rest, rfl, rfl, rfl⟩ := List.map_eq_cons_iff.mp e
    rw [PySem.W.maxD_ints] at rd
    cases rd
    obtain ⟨h1, h2⟩ := fold_max n rest
    exact ⟨.int _, H, I.kept hk, ⟨_, rfl⟩, q _ h1 h2⟩
abbrev MK := List W → List W → Mem → Option (W × Mem)
def SCK (K : PySem.W.Frag) (tb : List Addr) (r : List V → List V → Hp → VK → Prop) (f : MK) : Prop := ∀ A vs zs ws us S w S' Q, Rep K tb A S → WRs K tb A vs ws → WRs K tb A zs us → f ws us S = some (w, S') → Pd.KE K tb A w S' Q → r vs zs A.H Q
def eCallK (f : MK) (a k : MA) : ME := fun ρ S => (a ρ S).bind fun p => (k ρ p.2).bind fun q => f p.1 q.1 q.2
theorem se_cbk {r : List V → List V → Hp → VK → Prop} {f : MK} {t tk : TA} {a k : MA} (hr : SCK K tb r f) (ha : SA K tb t a) (hk : SA K tb tk k) : SE K tb (tCKw r t tk) (eCallK f a k) := fun A σ ρ S w S' Q R E e q => by
  obtain ⟨p, e1, e⟩ := Option.bind_eq_some_iff.mp e
  obtain ⟨z, e2, e⟩ := Option.bind_eq_some_iff.mp e
  exact ha A σ ρ S p.1 p.2 _ R E e1 fun vs B N R1 r1 => hk B σ ρ p.2 z.1 z.2 _ R1 (E.nxt N) e2 fun zs C N2 R2 r2 => hr C vs zs p.1 z.1 z.2 w S' Q R2 (WRs.nxt N2 r1) r2 e (q.nxt (N.trans N2))
def bMaxD : MK := fun ws us S => match ws, us with
  | [w], [d] => (itemsL w S).bind fun us => (intsOf us).bind fun ns => some (if ns.isEmpty = true then d else .d (.int (maxI ns)), S)
  | _, _ => none
theorem sk_maxD : SCK K tb (rMaxD K) bMaxD := fun A vs zs ws us S w S' Q R r1 r2 e q => by
  unfold bMaxD at e
  split at e
  · obtain ⟨us', e1, e2⟩ := Option.bind_eq_some_iff.mp e
    obtain ⟨ns, e3, e4⟩ := Option.bind_eq_some_iff.mp e2
    cases e4
    obtain ⟨v, rfl, q1⟩ := wrs1 r1
    obtain ⟨d, rfl, q2⟩ := wrs1 r2
    obtain ⟨a, xs, rfl, sq, rx⟩ := itemsL_run R q1 e1
    rw [ints_run rx e3] at sq
    refine ⟨a, ns, d, rfl, rfl, sq, fun hz => ?_, fun m hm hall => ?_⟩
    · subst hz
      exact q _ A .refl R q2
    · have hne : ns ≠ [] := by rintro rfl; cases hm
      have hm' : m = maxI ns := Int.le_antisymm (maxI_le hm) (hall _ (maxI_mem hne))
      have he : ns.isEmpty = false := by cases ns with | nil => exact absurd rfl hne | cons a b => rfl
      rw [he] at q
      rw [hm']
      exact q _ A .refl R (DR.int _)
  · cases e
/-! ### is of bools -/
def oIsBl : F2 := fun a b S => match a, b with
  | .d (.bool x), .d (.bool y) => some (.d (.bool (decide (x = y))), S)
  | _, _ => none
theorem sr_isBl : SR K tb rIsB oIsBl := fun A x y a b S w S' Q R ra rb e q => by
  unfold oIsBl at e
  split at e
  · cases e
    exact ⟨_, _, ra.bl, rb.bl, q _ A .refl R (DR.bl _)⟩
  · cases e
theorem op_isBool {X : Cx} : OpR X (compareOp .Is) rIsB := op_isBl
/-! ### unary minus -/
def oNeg : F1 := fun a S => match a with
  | .d (.int i) => some (.d (.int (-i)), S)
  | _ => none
theorem su_neg : SU K tb (rU fun i => .int (-i)) oNeg := fun A x a S w S' Q R ra e q => by
  unfold oNeg at e
  split at e
  · cases e
    exact ⟨_, ra.int, q _ A .refl R (DR.int _)⟩
  · cases e
end
/-! ### the top -/
structure DfC (K : PySem.W.Frag) (mg : Str → Option Value) (x : Str) (st : Stmt) (ps : List Str) where
  f : Addr
  fd : FuncData
  c : Addr
  F : FunC K x x st f fd c
  g : mg x = some (.ref f)
  b : Binds K fd ps []
theorem bt_sum : bootBuiltins "sum" = some (.builtin "sum") := by decide +kernel
theorem bt_max : bootBuiltins "max" = some (.builtin "max") := by decide +kernel
theorem bt_all : bootBuiltins "all" = some (.builtin "all") := by decide +kernel
section
variable {X : Cx} {K : PySem.W.Frag}
theorem pi_tupK {tg l : Expr} {tl : TE} (hK : X.K = K) (hl : PE X l tl) : PI X tg l (iTup K tl) := by subst hK; exact pi_tup hl
theorem pi_lstK {tg l : Expr} {tl : TE} (hK : X.K = K) (hl : PE X l tl) : PI X tg l (iList K tl) := by subst hK; exact pi_list hl
theorem pi_enumTK {e : Expr} {ta : TA} {p pos tpos : Pos} {elts : List Expr} {kk : Nat} (hK : X.K = K) (hg : Gl X "enumerate") (hm : X.mg "enumerate" = none) (ha : PA X [e] ta) (hs : starEach [e] X.env = [(false, eval e X.env)] := by rfl) :
    PI X (.Tuple elts kk tpos) (.Call (.Name "enumerate" p) [e] [] pos) (iEnumT K ta) := by subst hK; exact pi_enumT hg hm ha hs
theorem pi_enumLK {e : Expr} {ta : TA} {p pos tpos : Pos} {elts : List Expr} {kk : Nat} (hK : X.K = K) (hg : Gl X "enumerate") (hm : X.mg "enumerate" = none) (ha : PA X [e] ta) (hs : starEach [e] X.env = [(false, eval e X.env)] := by rfl) :
    PI X (.Tuple elts kk tpos) (.Call (.Name "enumerate" p) [e] [] pos) (iEnum K ta) := by subst hK; exact pi_enum hg hm ha hs
theorem ix_seqK (hK : X.K = K) : IxR X (rIx K) := by subst hK; exact ix_seq
theorem sl_allK (hK : X.K = K) : SlR X (rSlAll K) := by subst hK; exact sl_all
theorem op_plusK (hK : X.K = K) : OpR X (binaryOp .Add) (rPlus K) := by subst hK; exact op_plus
theorem op_eqAK (hK : X.K = K) (hu : X.A.units + 64 < cLine) : OpR X (compareOp .Eq) (rEqA K) := by subst hK; exact op_eqA hu
theorem op_neAK (hK : X.K = K) (hu : X.A.units + 64 < cLine) : OpR X (compareOp .NotEq) (rNeA K) := by subst hK; exact op_neA hu
theorem op_inK (hK : X.K = K) : OpR X (compareOp .In) (rIn K false) := by subst hK; exact op_in_seq
theorem op_ninK (hK : X.K = K) : OpR X (compareOp .NotIn) (rIn K true) := by subst hK; exact op_notIn_seq
theorem cr_lenK (hK : X.K = K) : CallR X (.builtin "len") (fun xs H Q => ∃ p ys, xs = [.ref p] ∧ (SqL K H p ys ∨ SqT K H p ys) ∧ Q (.int ys.length) H) := by subst hK; exact call_len_seq
theorem cr_tupK (hK : X.K = K) : CallR X (.type "tuple") (fun xs H Q => ∃ p ys, xs = [.ref p] ∧ ((SqL K H p ys ∧ ∀ l, H l = none → Q (.ref l) (upd H l (.tup ys))) ∨ (SqT K H p ys ∧ Q (.ref p) H))) := by subst hK; exact call_tuple_of
theorem cr_lstK (hK : X.K = K) : CallR X (.type "list") (rLstOf K) := by subst hK; exact call_list_of
theorem cr_sumK (hK : X.K = K) (hc : X.calm = true) : CallR X (.builtin "sum") (rSum K) := by subst hK; exact cr_sum hc
theorem cr_maxK (hK : X.K = K) (hc : X.calm = true) : CallR X (.builtin "max") (rMax K) := by subst hK; exact cr_max hc
theorem ck_maxDK (hK : X.K = K) (hc : X.calm = true) (hu : X.A.units + 64 < cLine) : CallRK X (.builtin "max") ["default"] (rMaxD K) := by subst hK; exact ck_maxD hc (by omega)
theorem pg_tupK {es : List Expr} {kk : Nat} {pos : Pos} {t : TGs} (h : ∀ K', X.K = K' → PG X (.Tuple es kk pos) (gTup K' es.length t)) (hK : X.K = K) : PG X (.Tuple es kk pos) (gTup K es.length t) := h K hK
end
theorem nodot (N : List Str) (h : (".0" : Str) ∉ N) : ∀ i : Nat, N[i]? ≠ some (".0" : Str) := fun i e => h (List.mem_of_getElem? e)
theorem dr_con {K : PySem.W.Frag} {tb : List Addr} {a : Addr} {xs : List V} {ds : List PyData} (h : SqT K H0 a xs) (r : ∀ A, DRs K tb A xs ds) : ∀ A, DR K tb A (.ref a) (.tuple ds) := fun A => .tup (.inr h) (r A)
end Pd
/-! instances and dicts -/
namespace Pd
open PySem PySem.Spec PyProof.Rows L2 GxR Gx
section
variable {K : PySem.W.Frag} {tb : List Addr}
/-! ### attributes -/
abbrev FW := List (Str × W)
def insAt (w : W) (S : Mem) : Option (Nat × Addr × FW) := match w with
  | .loc n => match S[n]? with
    | some (.ins C fs) => some (n, C, fs)
    | _ => none
  | _ => none
abbrev PF (K : PySem.W.Frag) (tb : List Addr) (A : Wd) : List (Str × V) → FW → Prop := Paired fun p q => p.1 = q.1 ∧ WR K tb A p.2 q.2
theorem insAt_run {A : Wd} {S : Mem} {v : V} {w : W} {n : Nat} {C : Addr} {fs : FW} (R : Rep K tb A S) (r : WR K tb A v w) (h : insAt w S = some (n, C, fs)) :
    ∃ a dx vs, v = .ref a ∧ w = .loc n ∧ A.ι[n]? = some a ∧ A.H a = some (.ins C dx vs) ∧ PF K tb A vs fs := by
  unfold insAt at h
  split at h
  · rename_i m
    split at h
    · rename_i e
      cases h
      obtain ⟨a, rfl, ia⟩ := r
      obtain ⟨ob, e2, q⟩ := R.get ia
      rw [e] at e2; cases e2
      obtain ⟨dx, vs, ea, p⟩ := q
      exact ⟨a, dx, vs, rfl, rfl, ia, ea, p⟩
    · cases h
  · cases h
theorem PF.some {A : Wd} {vs : List (Str × V)} {fs : FW} (p : PF K tb A vs fs) {f : Str} {w : W} (h : fs.lookup f = some w) : ∃ v, vs.lookup f = some v ∧ WR K tb A v w := by
  induction p with
  | nil => cases h
  | @cons a b as bs r _ ih =>
    obtain ⟨x, v⟩ := a
    obtain ⟨y, u⟩ := b
    obtain ⟨rfl, r⟩ := r
    rw [List.lookup_cons] at h ⊢
    split at h
    · rename_i e; cases h; rw [e]; exact ⟨v, rfl, r⟩
    · rename_i e; rw [e]; exact ih h
theorem PF.none {A : Wd} {vs : List (Str × V)} {fs : FW} (p : PF K tb A vs fs) {f : Str} (h : fs.lookup f = none) : vs.lookup f = none := by
  induction p with
  | nil => rfl
  | @cons a b as bs r _ ih =>
    obtain ⟨x, v⟩ := a
    obtain ⟨y, u⟩ := b
    obtain ⟨rfl, r⟩ := r
    rw [List.lookup_cons] at h ⊢
    split at h
    · cases h
    · rename_i e; rw [e]; exact ih h
def putW (f : Str) (w : W) : FW → FW
  | [] => [(f, w)]
  | (g, x) :: r => if g = f then (g, w) :: r else (g, x) :: putW f w r
theorem PF.put {A : Wd} {vs : List (Str × V)} {fs : FW} (p : PF K tb A vs fs) {f : Str} {v : V} {w : W} (r : WR K tb A v w) : PF K tb A (putF f v vs) (putW f w fs) := by
  induction p with
  | nil => exact .cons ⟨rfl, r⟩ .nil
  | @cons a b as bs q t ih =>
    obtain ⟨x, v'⟩ := a
    obtain ⟨y, u⟩ := b
    obtain ⟨rfl, q⟩ := q
    show Paired _ (if x = f then _ else _) (if x = f then _ else _)
    by_cases e : x = f
    · rw [if_pos e, if_pos e]; exact .cons ⟨rfl, r⟩ t
    · rw [if_neg e, if_neg e]; exact .cons ⟨rfl, q⟩ ih
theorem PF.nxt {A B : Wd} {vs : List (Str × V)} {fs : FW} (x : Nxt tb A B) (p : PF K tb A vs fs) : PF K tb B vs fs := Paired.mapP p fun _ _ z => ⟨z.1, z.2.nxt x⟩
theorem PF.length {A : Wd} {vs : List (Str × V)} {fs : FW} (p : PF K tb A vs fs) : vs.length = fs.length := Paired.length p
def eFld (C : Addr) (o : ME) (f : Str) : ME := fun ρ S => (o ρ S).bind fun p => (insAt p.1 p.2).bind fun q => if q.2.1 = C then (q.2.2.lookup f).map fun w => (w, p.2) else none
theorem se_fld {C : Addr} {ta : TE} {o : ME} {f : Str} (c : Cls K C) (hn : NoAttr K C f) (ho : SE K tb ta o) : SE K tb (tFld K ta f) (eFld C o f) := fun A σ ρ S w S' Q R E e q => by
  obtain ⟨p, e1, g1⟩ := Option.bind_eq_some_iff.mp e
  obtain ⟨⟨n, C', fs⟩, e2, g2⟩ := Option.bind_eq_some_iff.mp g1
  dsimp only at g2
  split at g2
  · rename_i hC
    subst hC
    obtain ⟨u, e3, e4⟩ := Option.map_eq_some_iff.mp g2
    cases e4
    refine ho A σ ρ S p.1 p.2 _ R E e1 fun x B N R1 r1 => ?_
    obtain ⟨a, dx, vs, rfl, _, ia, ea, pf⟩ := insAt_run R1 r1 e2
    obtain ⟨v, hv, rv⟩ := pf.some e3
    exact ⟨a, C', dx, vs, v, rfl, ea, c, hn, hv, q v B N R1 rv⟩
  · cases g2
def sFldW (C : Addr) (o : ME) (f : Str) (x : ME) : MS := fun ρ S => (x ρ S).bind fun p => (o ρ p.2).bind fun z => (insAt z.1 z.2).bind fun q => if q.2.1 = C ∧ q.2.2.length < 1000 then some (.nx, ρ, z.2.set q.1 (.ins C (putW f p.1 q.2.2))) else none
theorem ss_fld {C : Addr} {ta tv : TE} {o x : ME} {f : Str} (c : Cls K C) (hn : NoAttr K C f) (ho : SE K tb ta o) (hx : SE K tb tv x) : SS K tb (sFld K ta tv f) (sFldW C o f x) := fun A σ ρ S ou ρ' S' D R E e q => by
  obtain ⟨p, e1, g1⟩ := Option.bind_eq_some_iff.mp e
  obtain ⟨z, e2, g2⟩ := Option.bind_eq_some_iff.mp g1
  obtain ⟨⟨n, C', fs⟩, e3, g3⟩ := Option.bind_eq_some_iff.mp g2
  dsimp only at g3
  split at g3
  · rename_i hC
    obtain ⟨hC, hl⟩ := hC
    subst hC
    cases g3
    refine hx A σ ρ S p.1 p.2 _ R E e1 fun y B N R1 r1 => ?_
    refine ho B σ ρ p.2 z.1 z.2 _ R1 (E.nxt N) e2 fun ov B2 N2 R2 r2 => ?_
    obtain ⟨a, dx, vs, rfl, _, ia, ea, pf⟩ := insAt_run R2 r2 e3
    refine ⟨a, C', dx, vs, rfl, ea, c, hn, by rw [pf.length]; exact hl, ?_⟩
    have NN := N.trans (N2.trans (Nxt.set (o := .ins C' dx (putF f y vs)) ia))
    exact q (B2.put a _) σ NN (R2.set ia ⟨dx, _, upd_same, ((pf.put (r1.nxt N2)).nxt (.set ia))⟩) (E.nxt NN)
  · cases g3
/-- o.f += x, ints -/
def sFldAugW (C : Addr) (o : ME) (f : Str) (x : ME) : MS := fun ρ S => (o ρ S).bind fun z => (insAt z.1 z.2).bind fun q => match q.2.2.lookup f with
  | some (.d (.int i)) => (x ρ z.2).bind fun p => (insAt z.1 p.2).bind fun q2 => match p.1 with
    | .d (.int j) => if q.2.1 = C ∧ q2.2.1 = C ∧ q2.2.2.length < 1000 then some (.nx, ρ, p.2.set q2.1 (.ins C (putW f (.d (.int (i + j))) q2.2.2))) else none
    | _ => none
  | _ => none
theorem ss_fldaug {C : Addr} {ta tv : TE} {o x : ME} {f : Str} (c : Cls K C) (hn : NoAttr K C f) (ho : SE K tb ta o) (hx : SE K tb tv x) : SS K tb (sFldAug K ta tv rAdd f) (sFldAugW C o f x) := fun A σ ρ S ou ρ' S' D R E e q => by
  obtain ⟨z, e1, g1⟩ := Option.bind_eq_some_iff.mp e
  obtain ⟨⟨n, C', fs⟩, e2, g2⟩ := Option.bind_eq_some_iff.mp g1
  dsimp only at g2
  split at g2
  · rename_i i hi
    obtain ⟨⟨p, S1⟩, e3, g3⟩ := Option.bind_eq_some_iff.mp g2
    obtain ⟨⟨n2, C2, fs2⟩, e4, g4⟩ := Option.bind_eq_some_iff.mp g3
    dsimp only at g4 e4
    split at g4
    · rename_i j
      split at g4
      · rename_i hC
        obtain ⟨h1, h2, h3⟩ := hC
        subst h1
        cases g4
        refine ho A σ ρ S z.1 z.2 _ R E e1 fun ov B N R1 r1 => ?_
        obtain ⟨a, dx, vs, rfl, hw, ia, ea, pf⟩ := insAt_run R1 r1 e2
        obtain ⟨v, hv, rv⟩ := pf.some hi
        obtain rfl := WR.int rv
        refine ⟨a, C', dx, vs, _, rfl, ea, c, hn, hv, ?_⟩
        refine hx B σ ρ z.2 _ S1 _ R1 (E.nxt N) e3 fun y B2 N2 R2 r2 => ?_
        obtain rfl := WR.int r2
        refine ⟨i, j, rfl, rfl, ?_⟩
        obtain ⟨a2, dx2, vs2, h5, _, ia2, ea2, pf2⟩ := insAt_run R2 (r1.nxt N2) e4
        cases h5
        subst h2
        refine ⟨dx2, vs2, ea2, by rw [pf2.length]; exact h3, ?_⟩
        have NN := N.trans (N2.trans (Nxt.set (o := .ins C2 dx2 (putF f (.int (i + j)) vs2)) ia2))
        exact q (B2.put a _) σ NN (R2.set ia2 ⟨dx2, _, upd_same, ((pf2.put (show WR K tb B2 (.int (i + j)) (.d (.int (i + j))) from DR.int _)).nxt (.set ia2))⟩) (E.nxt NN)
      · cases g4
    · cases g4
  · cases g2
/-- o.m(..) -/
def eMeth (C : Addr) (m : Str) (f : MF) (o : ME) (a : MA) : ME := fun ρ S => (o ρ S).bind fun p => (insAt p.1 p.2).bind fun q => if q.2.1 = C ∧ q.2.2.lookup m = none then (a ρ p.2).bind fun z => f (p.1 :: z.1) z.2 else none
theorem se_meth {n : Nat} {C : Addr} {m : Str} {f : MF} {ta : TE} {t : TA} {o : ME} {a : MA} {E : XK} (h : Ar n f) (ho : SE K tb ta o) (ha : SA K tb t a) : SE K tb (tMeth C m (spD K tb n f) [] E ta t) (eMeth C m f o a) := fun A σ ρ S w S' Q R Er e q => by
  obtain ⟨p, e1, g1⟩ := Option.bind_eq_some_iff.mp e
  obtain ⟨⟨k, C', fs⟩, e2, g2⟩ := Option.bind_eq_some_iff.mp g1
  dsimp only at g2
  split at g2
  · rename_i hC
    obtain ⟨h1, h2⟩ := hC
    subst h1
    obtain ⟨z, e3, g3⟩ := Option.bind_eq_some_iff.mp g2
    refine ho A σ ρ S p.1 p.2 _ R Er e1 fun x B N R1 r1 => ?_
    obtain ⟨a', dx, vs, rfl, _, ia, ea, pf⟩ := insAt_run R1 r1 e2
    refine ⟨a', dx, vs, rfl, ea, pf.none h2, ?_⟩
    refine ha B σ ρ p.2 z.1 z.2 _ R1 (Er.nxt N) e3 fun us B2 N2 R2 r2 => ?_
    rw [List.append_nil]
    have rr : WRs K tb B2 (.ref a' :: us) (p.1 :: z.1) := .cons (r1.nxt N2) r2
    exact ⟨by rw [WRs.length rr]; exact h _ _ _ g3, B2, _, _, w, S', rfl, rr, R2, g3, q.nxt (N.trans N2)⟩
  · cases g2
/-- C(..) -/
def eMake (C : Addr) (f : MF) (a : MA) : ME := fun ρ S => (a ρ S).bind fun z => (f (.loc z.2.length :: z.1) (z.2 ++ [.ins C []])).bind fun r => match r.1 with
  | .d .none => some (.loc z.2.length, r.2)
  | _ => none
theorem se_make {n : Nat} {C : Addr} {f : MF} {t : TA} {a : MA} {E : XK} (h : Ar n f) (ha : SA K tb t a) : SE K tb (tMake C (spD K tb n f) [] E t) (eMake C f a) := fun A σ ρ S w S' Q R Er e q => by
  obtain ⟨z, e1, g1⟩ := Option.bind_eq_some_iff.mp e
  obtain ⟨⟨r, S2⟩, e2, g2⟩ := Option.bind_eq_some_iff.mp g1
  dsimp only at g2
  split at g2
  · cases g2
    refine ha A σ ρ S z.1 z.2 _ R Er e1 fun us B N R1 r1 x dx hx hdx hne => ?_
    rw [List.append_nil]
    let B1 := B.put dx (.own x)
    have hx1 : B1.H x = none := by show upd B.H dx _ x = none; rw [upd_ne (Ne.symm hne)]; exact hx
    let B2 := B1.add x (.ins C dx [])
    have N2 : Nxt tb B B2 := (Nxt.put hdx _).trans (.add hx1 _)
    have R2 : Rep K tb B2 (z.2 ++ [.ins C []]) := (R1.put hdx _).add hx1 ⟨dx, [], upd_same, .nil⟩
    have ix : B2.ι[z.2.length]? = some x := by show (B.ι ++ [x])[z.2.length]? = _; rw [← R1.len]; simp
    have rr : WRs K tb B2 (.ref x :: us) (.loc z.2.length :: z.1) := .cons ⟨x, rfl, ix⟩ (r1.nxt N2)
    refine ⟨by rw [WRs.length rr]; exact h _ _ _ e2, B2, _, _, _, _, rfl, rr, R2, e2, fun v B3 N3 R3 r3 => ⟨WR.non r3, ?_⟩⟩
    exact q (.ref x) B3 (N.trans (N2.trans N3)) R3 ⟨x, rfl, N3.ix ix⟩
  · cases g2
/-! ### dicts -/
abbrev KW := List (Key × W)
def keyW : W → Option Key
  | .d (.int i) => some (.inl i)
  | .d (.str s) => some (.inr s)
  | _ => none
theorem keyW_run {A : Wd} {v : V} {w : W} {k : Key} (r : WR K tb A v w) (h : keyW w = some k) : v = kV k := by
  unfold keyW at h
  split at h
  · cases h; exact WR.int r
  · cases h; exact WR.str r
  · cases h
def dctAt (w : W) (S : Mem) : Option (Nat × KW) := match w with
  | .loc n => match S[n]? with
    | some (.dct kvs) => some (n, kvs)
    | _ => none
  | _ => none
abbrev PK' (K : PySem.W.Frag) (tb : List Addr) (A : Wd) : List (Key × V) → KW → Prop := Paired fun p q => p.1 = q.1 ∧ WR K tb A p.2 q.2
theorem dctAt_run {A : Wd} {S : Mem} {v : V} {w : W} {n : Nat} {kvs : KW} (R : Rep K tb A S) (r : WR K tb A v w) (h : dctAt w S = some (n, kvs)) : ∃ a vs, v = .ref a ∧ w = .loc n ∧ A.ι[n]? = some a ∧ A.H a = some (.dK vs) ∧ PK' K tb A vs kvs := by
  unfold dctAt at h
  split at h
  · rename_i m
    split at h
    · rename_i e
      cases h
      obtain ⟨a, rfl, ia⟩ := r
      obtain ⟨ob, e2, q⟩ := R.get ia
      rw [e] at e2; cases e2
      obtain ⟨vs, ea, p⟩ := q
      exact ⟨a, vs, rfl, rfl, ia, ea, p⟩
    · cases h
  · cases h
def valW (kvs : KW) (k : Key) : Option W := (kvs.find? fun kv => decide (kv.1 = k)).map (·.2)
def putD (kvs : KW) (k : Key) (w : W) : KW := if (kvs.any fun kv => decide (kv.1 = k)) = true then kvs.map (fun kv => if kv.1 = k then (kv.1, w) else kv) else kvs ++ [(k, w)]
theorem PK'.nxt {A B : Wd} {vs : List (Key × V)} {kvs : KW} (x : Nxt tb A B) (p : PK' K tb A vs kvs) : PK' K tb B vs kvs := Paired.mapP p fun _ _ z => ⟨z.1, z.2.nxt x⟩
theorem PK'.val {A : Wd} {vs : List (Key × V)} {kvs : KW} (p : PK' K tb A vs kvs) (k : Key) : (∀ w, valW kvs k = some w → ∃ v, valV vs k = some v ∧ WR K tb A v w) ∧ (valW kvs k = none → valV vs k = none) := by
  induction p with
  | nil => exact ⟨(fun w h => nomatch h), fun _ => rfl⟩
  | @cons a b as bs r _ ih =>
    obtain ⟨x, v⟩ := a
    obtain ⟨y, u⟩ := b
    obtain ⟨e, r⟩ := r
    cases (show x = y from e)
    unfold valW valV at ih ⊢
    rw [List.find?_cons, List.find?_cons]
    by_cases hk : x = k
    · simp only [hk, decide_true]
      exact ⟨fun w h => by cases h; exact ⟨v, rfl, r⟩, fun h => nomatch h⟩
    · simp only [hk, decide_false]
      exact ih
theorem PK'.any {A : Wd} {vs : List (Key × V)} {kvs : KW} (p : PK' K tb A vs kvs) (k : Key) : (vs.any fun kv => decide (kv.1 = k)) = kvs.any fun kv => decide (kv.1 = k) := by
  induction p with
  | nil => rfl
  | @cons a b as bs r _ ih => rw [List.any_cons, List.any_cons, ih, r.1]
theorem PK'.put {A : Wd} {vs : List (Key × V)} {kvs : KW} (p : PK' K tb A vs kvs) {k : Key} {v : V} {w : W} (r : WR K tb A v w) : PK' K tb A (putK vs k v) (putD kvs k w) := by
  unfold putK putD
  rw [p.any k]
  split
  · induction p with
    | nil => exact .nil
    | @cons a b as bs q t ih =>
      rw [List.map_cons, List.map_cons]
      refine .cons ?_ (by
        by_cases ht : (bs.any fun kv => decide (kv.1 = k)) = true
        · exact ih ht
        · have h1 : ∀ (l : List (Key × V)) (m : KW), PK' K tb A l m → (m.any fun kv => decide (kv.1 = k)) = false → PK' K tb A (l.map fun kv => if kv.1 = k then (kv.1, v) else kv) (m.map fun kv => if kv.1 = k then (kv.1, w) else kv) := by
            intro l m z
            induction z with
            | nil => intro _; exact .nil
            | @cons a b as bs q t ih =>
              intro h
              rw [List.any_cons, Bool.or_eq_false_iff] at h
              rw [List.map_cons, List.map_cons]
              refine .cons ?_ (ih h.2)
              have hb : ¬ b.1 = k := of_decide_eq_false h.1
              rw [if_neg (by rw [q.1]; exact hb), if_neg hb]
              exact q
          exact h1 _ _ t (Bool.eq_false_iff.mpr ht))
      by_cases hk : b.1 = k
      · rw [if_pos (by rw [q.1]; exact hk), if_pos hk]; exact ⟨q.1, r⟩
      · rw [if_neg (by rw [q.1]; exact hk), if_neg hk]; exact q
  · exact Paired.snoc p ⟨rfl, r⟩
theorem PK'.length {A : Wd} {vs : List (Key × V)} {kvs : KW} (p : PK' K tb A vs kvs) : vs.length = kvs.length := Paired.length p
def eDNew : ME := fun _ S => some (.loc S.length, S ++ [.dct []])
theorem se_dnew : SE K tb tDNewK eDNew := fun A σ ρ S w S' Q R E e q => by
  cases e
  intro p hp
  refine q _ (A.add p (.dK [])) (.add hp _) (R.add hp ⟨[], upd_same, .nil⟩) ⟨p, rfl, ?_⟩
  show (A.ι ++ [p])[S.length]? = some p
  rw [← R.len]; simp
def eDGet (o i : ME) : ME := fun ρ S => (o ρ S).bind fun p => (i ρ p.2).bind fun z => (dctAt p.1 z.2).bind fun d => (keyW z.1).bind fun k => (valW d.2 k).map fun w => (w, z.2)
theorem se_dget {td ty : TE} {o i : ME} (ho : SE K tb td o) (hi : SE K tb ty i) : SE K tb (tDGet td ty) (eDGet o i) := fun A σ ρ S w S' Q R E e q => by
  obtain ⟨p, e1, g1⟩ := Option.bind_eq_some_iff.mp e
  obtain ⟨z, e2, g2⟩ := Option.bind_eq_some_iff.mp g1
  obtain ⟨⟨n, kvs⟩, e3, g3⟩ := Option.bind_eq_some_iff.mp g2
  obtain ⟨k, e4, g4⟩ := Option.bind_eq_some_iff.mp g3
  obtain ⟨u, e5, e6⟩ := Option.map_eq_some_iff.mp g4
  cases e6
  refine ho A σ ρ S p.1 p.2 _ R E e1 fun x B N R1 r1 => ?_
  refine hi B σ ρ p.2 z.1 z.2 _ R1 (E.nxt N) e2 fun y B2 N2 R2 r2 => ?_
  obtain ⟨a, vs, rfl, _, ia, ea, pk⟩ := dctAt_run R2 (r1.nxt N2) e3
  obtain rfl := keyW_run r2 e4
  obtain ⟨v, hv, rv⟩ := (pk.val k).1 _ e5
  exact ⟨a, v, rfl, by rw [← hv]; exact DGet.k ea, q v B2 (N.trans N2) R2 rv⟩
/-- k in d, k not in d -/
def eDIn (n : Bool) (i o : ME) : ME := fun ρ S => (i ρ S).bind fun z => (o ρ z.2).bind fun p => (dctAt p.1 p.2).bind fun d => (keyW z.1).bind fun k => some (.d (.bool (if n then !(valW d.2 k).isSome else (valW d.2 k).isSome)), p.2)
theorem isS {A : Wd} {vs : List (Key × V)} {kvs : KW} (pk : PK' K tb A vs kvs) (k : Key) : (valV vs k).isSome = (valW kvs k).isSome := by
  cases h : valW kvs k with
  | none => rw [(pk.val k).2 h]; rfl
  | some w => obtain ⟨v, hv, _⟩ := (pk.val k).1 w h; rw [hv]; rfl
theorem se_din {td ty : TE} {o i : ME} (hi : SE K tb ty i) (ho : SE K tb td o) : SE K tb (tDIn ty td) (eDIn false i o) := fun A σ ρ S w S' Q R E e q => by
  obtain ⟨z, e1, g1⟩ := Option.bind_eq_some_iff.mp e
  obtain ⟨p, e2, g2⟩ := Option.bind_eq_some_iff.mp g1
  obtain ⟨⟨n, kvs⟩, e3, g3⟩ := Option.bind_eq_some_iff.mp g2
  obtain ⟨k, e4, g4⟩ := Option.bind_eq_some_iff.mp g3
  cases g4
  refine hi A σ ρ S z.1 z.2 _ R E e1 fun y B N R1 r1 => ?_
  refine ho B σ ρ z.2 p.1 p.2 _ R1 (E.nxt N) e2 fun x B2 N2 R2 r2 => ?_
  obtain ⟨a, vs, rfl, _, ia, ea, pk⟩ := dctAt_run R2 r2 e3
  obtain rfl := keyW_run (r1.nxt N2) e4
  exact ⟨a, _, rfl, DGet.k ea, by rw [isS pk k]; exact q _ B2 (N.trans N2) R2 (DR.bl _)⟩
theorem se_dnin {td ty : TE} {o i : ME} (hi : SE K tb ty i) (ho : SE K tb td o) : SE K tb (tDNotIn ty td) (eDIn true i o) := fun A σ ρ S w S' Q R E e q => by
  obtain ⟨z, e1, g1⟩ := Option.bind_eq_some_iff.mp e
  obtain ⟨p, e2, g2⟩ := Option.bind_eq_some_iff.mp g1
  obtain ⟨⟨n, kvs⟩, e3, g3⟩ := Option.bind_eq_some_iff.mp g2
  obtain ⟨k, e4, g4⟩ := Option.bind_eq_some_iff.mp g3
  cases g4
  refine hi A σ ρ S z.1 z.2 _ R E e1 fun y B N R1 r1 => ?_
  refine ho B σ ρ z.2 p.1 p.2 _ R1 (E.nxt N) e2 fun x B2 N2 R2 r2 => ?_
  obtain ⟨a, vs, rfl, _, ia, ea, pk⟩ := dctAt_run R2 r2 e3
  obtain rfl := keyW_run (r1.nxt N2) e4
  exact ⟨a, _, rfl, DGet.k ea, by rw [isS pk k]; exact q _ B2 (N.trans N2) R2 (DR.bl _)⟩
def sDPutW (o i x : ME) : MS := fun ρ S => (x ρ S).bind fun v => (o ρ v.2).bind fun p => (i ρ p.2).bind fun z => (dctAt p.1 z.2).bind fun d => (keyW z.1).bind fun k => if d.2.length < sizeLine then some (.nx, ρ, z.2.set d.1 (.dct (putD d.2 k v.1))) else none
theorem ss_dput {td ty tv : TE} {o i x : ME} (ho : SE K tb td o) (hi : SE K tb ty i) (hx : SE K tb tv x) : SS K tb (sDPut td ty tv) (sDPutW o i x) := fun A σ ρ S ou ρ' S' D R E e q => by
  obtain ⟨v, e0, g1⟩ := Option.bind_eq_some_iff.mp e
  obtain ⟨p, e1, g2⟩ := Option.bind_eq_some_iff.mp g1
  obtain ⟨z, e2, g3⟩ := Option.bind_eq_some_iff.mp g2
  obtain ⟨⟨n, kvs⟩, e3, g4⟩ := Option.bind_eq_some_iff.mp g3
  obtain ⟨k, e4, g5⟩ := Option.bind_eq_some_iff.mp g4
  dsimp only at g5
  split at g5
  · rename_i hl
    cases g5
    refine hx A σ ρ S v.1 v.2 _ R E e0 fun y B0 N0 R0 r0 => ?_
    refine ho B0 σ ρ v.2 p.1 p.2 _ R0 (E.nxt N0) e1 fun d B N R1 r1 => ?_
    refine hi B σ ρ p.2 z.1 z.2 _ R1 (E.nxt (N0.trans N)) e2 fun kv B2 N2 R2 r2 => ?_
    obtain ⟨a, vs, rfl, _, ia, ea, pk⟩ := dctAt_run R2 (r1.nxt N2) e3
    obtain rfl := keyW_run r2 e4
    have NN := (N0.trans (N.trans N2)).trans (Nxt.set (o := .dK (putK vs k y)) ia)
    exact ⟨a, _, rfl, DPut.k ea (by rw [pk.length]; exact hl), q (B2.put a _) σ NN (R2.set ia ⟨_, upd_same, (pk.put (r0.nxt (N.trans N2))).nxt (.set ia)⟩) (E.nxt NN)⟩
  · cases g5
end
end Pd
namespace Pd
open PySem PySem.Spec PyProof.Rows L2 GxR Gx
section
variable {K : PySem.W.Frag} {tb : List Addr}
/-! ### an object that is made while nobody sees it -/
theorem hide {B : Wd} {D : Addr} {S : Mem} (R : Rep K tb B S) (hD : B.H D = none) (o : HO) : Nxt tb B { H := upd B.H D o, ι := B.ι, hid := D :: B.hid } ∧ Rep K tb { H := upd B.H D o, ι := B.ι, hid := D :: B.hid } S := by
  have nD := R.fresh hD
  have N1 : Nxt tb B { H := upd B.H D o, ι := B.ι, hid := D :: B.hid } :=
    ⟨fun b z => List.mem_cons_of_mem _ z, fun b z => (List.mem_cons.mp z).elim (fun z => .inr (by rw [z]; exact hD)) .inl, fun b z => upd_none z, ⟨[], by show B.ι = _; simp⟩, fun b u n t e => ⟨by show upd B.H D o b = _; rw [upd_ne (ne_of_none e hD)]; exact e, n⟩⟩
  have R2 := R.put hD o
  refine ⟨N1, R2.len, R2.nd, R2.tabs, fun b hb => ?_, fun n a ob z1 z2 => ?_⟩
  · rcases List.mem_cons.mp hb with z | z
    · subst z; exact ⟨⟨_, upd_same⟩, fun z => nD (.inl z), fun z => nD (.inr (.inl z))⟩
    · exact R2.hd b z
  · have q := R.at_ n a ob z1 z2
    obtain ⟨oo, eo, _⟩ := q.some
    exact q.nxt N1 (by show upd B.H D o a = _; rw [upd_ne (ne_of_none eo hD)])
theorem unhide {B C : Wd} {D : Addr} {S0 S : Mem} {ob : Ob} (R0 : Rep K tb B S0) (hn : B.H D = none) (N : Nxt tb B C) (hD : D ∈ C.hid) (R : Rep K tb C S) (hob : OR K tb C ob D) :
    Nxt tb B { H := C.H, ι := C.ι ++ [D], hid := B.hid } ∧ Rep K tb { H := C.H, ι := C.ι ++ [D], hid := B.hid } (S ++ [ob]) ∧ (C.ι ++ [D])[S.length]? = some D := by
  obtain ⟨_, h2, h3⟩ := R.hd D hD
  have key : ∀ (a : Addr) (u : HO), Fz tb C a u → Fz tb { H := C.H, ι := C.ι ++ [D], hid := B.hid } a u := fun a u z => ⟨fun m => z.1 (by
    rcases m with m | m | m
    · rcases List.mem_append.mp m with m | m
      · exact .inl m
      · rw [List.mem_singleton.mp m]; exact .inr (.inr hD)
    · exact .inr (.inl m)
    · exact .inr (.inr (N.hid a m))), z.2⟩
  have hι : ∀ (n : Nat) a, C.ι[n]? = some a → (C.ι ++ [D])[n]? = some a := fun n a z => by
    rw [List.getElem?_append_left (List.getElem?_eq_some_iff.mp z).1]; exact z
  refine ⟨⟨fun _ z => z, fun _ z => .inl z, N.more, ?_, fun b o n t eb => ?_⟩, ⟨by show (C.ι ++ [D]).length = _; simp [R.len], ?_, R.tabs, fun b hb => ?_, fun n a ob' z1 z2 => ?_⟩, by rw [← R.len]; simp⟩
  · obtain ⟨m, em⟩ := N.pre
    exact ⟨m ++ [D], by show C.ι ++ [D] = _; rw [em, List.append_assoc]⟩
  · obtain ⟨q1, q2⟩ := N.keep b o n t eb
    exact ⟨q1, fun z => (List.mem_append.mp z).elim q2 fun z => ne_of_none eb hn (List.mem_singleton.mp z)⟩
  · show (C.ι ++ [D]).Nodup
    rw [List.nodup_append]
    exact ⟨R.nd, by simp, fun a ha b hb eab => h2 (by rw [List.mem_singleton.mp hb] at eab; rw [← eab]; exact ha)⟩
  · obtain ⟨k1, k2, k3⟩ := R.hd b (N.hid b hb)
    refine ⟨k1, fun z => (List.mem_append.mp z).elim k2 fun z => ?_, k3⟩
    obtain ⟨⟨o, eo⟩, _⟩ := R0.hd b hb
    rw [List.mem_singleton.mp z, hn] at eo; cases eo
  · have z1 : (C.ι ++ [D])[n]? = some a := z1
    by_cases hl : n < C.ι.length
    · rw [List.getElem?_append_left hl] at z1
      rw [List.getElem?_append_left (by rw [← R.len]; exact hl)] at z2
      exact or_key key hι rfl (R.at_ n a ob' z1 z2)
    · rw [List.getElem?_append_right (by omega)] at z1
      rw [List.getElem?_append_right (by rw [← R.len]; omega)] at z2
      have hz : n - C.ι.length = 0 := by
        cases hh : n - C.ι.length with
        | zero => rfl
        | succ k => rw [hh] at z1; simp at z1
      rw [hz] at z1
      rw [← R.len, hz] at z2
      simp at z1 z2
      subst z1 z2
      exact or_key key hι rfl hob
/-! ### {k: v, ..} -/
abbrev MPs := Env' → Mem → Option (KW × Mem)
def SPs (K : PySem.W.Frag) (tb : List Addr) (trs : List (TE × TE)) (mp : MPs) : Prop := ∀ A σ ρ S kvs S' (Q : List (V × V) → Hp → Prop), Rep K tb A S → ER K tb A σ ρ → mp ρ S = some (kvs, S') →
  (∀ vs B, Nxt tb A B → Rep K tb B S' → PK' K tb B vs kvs → Q (vs.map fun kv => (kV kv.1, kv.2)) B.H) → tPairs trs σ A.H Q
def pNil : MPs := fun _ S => some ([], S)
def pCons (k v : ME) (r : MPs) : MPs := fun ρ S => (k ρ S).bind fun p => (keyW p.1).bind fun key => (v ρ p.2).bind fun z => (r ρ z.2).bind fun t => some ((key, z.1) :: t.1, t.2)
theorem sp_nil : SPs K tb [] pNil := fun A σ ρ S kvs S' Q R E e q => by
  cases e
  exact q [] A .refl R .nil
theorem sp_cons {tk tv : TE} {trs : List (TE × TE)} {k v : ME} {r : MPs} (hk : SE K tb tk k) (hv : SE K tb tv v) (hr : SPs K tb trs r) : SPs K tb ((tk, tv) :: trs) (pCons k v r) := fun A σ ρ S kvs S' Q R E e q => by
  obtain ⟨p, e1, g1⟩ := Option.bind_eq_some_iff.mp e
  obtain ⟨key, e2, g2⟩ := Option.bind_eq_some_iff.mp g1
  obtain ⟨z, e3, g3⟩ := Option.bind_eq_some_iff.mp g2
  obtain ⟨t, e4, g4⟩ := Option.bind_eq_some_iff.mp g3
  cases g4
  refine hk A σ ρ S p.1 p.2 _ R E e1 fun x B N R1 r1 => ?_
  obtain rfl := keyW_run r1 e2
  refine hv B σ ρ p.2 z.1 z.2 _ R1 (E.nxt N) e3 fun y B2 N2 R2 r2 => ?_
  exact hr B2 σ ρ z.2 t.1 t.2 _ R2 (E.nxt (N.trans N2)) e4 fun vs B3 N3 R3 pk => q ((key, y) :: vs) B3 (N.trans (N2.trans N3)) R3 (.cons ⟨rfl, r2.nxt N3⟩ pk)
def mergeD (kvs more : KW) : KW := more.foldl (fun acc kv => putD acc kv.1 kv.2) kvs
theorem pk_merge {A : Wd} {ms : List (Key × V)} {more : KW} (p : PK' K tb A ms more) : ∀ {vs : List (Key × V)} {kvs : KW}, PK' K tb A vs kvs → PK' K tb A (mergeK vs ms) (mergeD kvs more) := by
  induction p with
  | nil => intro vs kvs q; exact q
  | @cons a b as bs r t ih =>
    intro vs kvs q
    obtain ⟨k, v⟩ := a
    obtain ⟨k', w⟩ := b
    obtain ⟨e, r⟩ := r
    cases (show k = k' from e)
    exact ih (q.put r)
def eDisp (mp : MPs) : ME := fun ρ S => (mp ρ S).bind fun r => if r.1.length ≤ 15 then some (.loc r.2.length, r.2 ++ [.dct (mergeD [] r.1)]) else none
theorem se_disp {trs : List (TE × TE)} {mp : MPs} (h : SPs K tb trs mp) : SE K tb (tDisp trs) (eDisp mp) := fun A σ ρ S w S' Q R E e q => by
  obtain ⟨r, e1, g1⟩ := Option.bind_eq_some_iff.mp e
  split at g1
  · rename_i hl
    cases g1
    intro p hp
    obtain ⟨N1, R1⟩ := hide R hp (.dK [])
    refine h _ σ ρ S r.1 r.2 _ R1 (E.nxt N1) e1 fun vs C N2 R2 pk => ?_
    have hD : p ∈ C.hid := N2.hid p List.mem_cons_self
    have eD : C.H p = some (.dK []) := N2.hidden R1 List.mem_cons_self upd_same
    refine ⟨eD, vs, rfl, by rw [pk.length]; exact hl, ?_⟩
    let C2 := C.hset p (.dK (mergeK [] vs))
    have R3 : Rep K tb C2 r.2 := R2.hset hD
    have N3 : Nxt tb A C2 := nxt_hset (N1.trans N2) hp
    have pm : PK' K tb C2 (mergeK [] vs) (mergeD [] r.1) := Paired.mapP (pk_merge pk .nil) fun _ _ z => ⟨z.1, wr_key (hset_key hD) (fun _ _ z => z) z.2⟩
    obtain ⟨N4, R4, i4⟩ := unhide (ob := .dct (mergeD [] r.1)) R hp N3 hD R3 ⟨_, upd_same, pm⟩
    exact q (.ref p) _ N4 R4 ⟨p, rfl, i4⟩
  · cases g1
/-! ### {k: v for ..} -/
def dcM (im : Itm) (g : MG) (t : MT) (k v : ME) : Nat → Nat → Env' → KW → Mem → Option (KW × Mem)
  | f, i, ρ, acc, S => match im.at_ S i with
    | none => none
    | some none => some (acc, S)
    | some (some w) => match f with
      | 0 => none
      | f + 1 => (g w ρ S).bind fun p => (t p.1 p.2).bind fun q => if q.1 = true then (k p.1 q.2).bind fun r => (keyW r.1).bind fun key => (v p.1 r.2).bind fun z => if acc.length < sizeLine then dcM im g t k v f (i + 1) ρ (putD acc key z.1) z.2 else none
        else dcM im g t k v f (i + 1) ρ acc q.2
def eDc (mi : MI) (vs : List Nat) (g : MG) (t : MT) (k v : ME) : ME := fun ρ S => (mi ρ S).bind fun p => (dcM p.1 g t k v (p.1.len p.2) 0 (wipeE ρ vs) [] p.2).bind fun q => some (.loc q.2.length, q.2 ++ [.dct q.1])
theorem se_dc {wi : TI} {mg' : TG} {tt : TT} {tk tv : TE} {vs us : List Nat} {mi : MI} {mg : MG} {mt : MT} {mk mv : ME} (hi : SI K tb wi mi) (hg : SG K tb us mg' mg) (hsub : ∀ j, j ∈ us → j ∈ vs) (ht : ST K tb tt mt) (hk : SE K tb tk mk) (hv : SE K tb tv mv) :
    SE K tb (tDc wi mg' tt tk tv vs) (eDc mi vs mg mt mk mv) := fun A σ ρ S w S' Q R E e q => by
  obtain ⟨⟨im, S1⟩, e1, g1⟩ := Option.bind_eq_some_iff.mp e
  obtain ⟨⟨zs, S2⟩, e2, g2⟩ := Option.bind_eq_some_iff.mp g1
  cases g2
  refine hi A σ ρ S im S1 _ R E e1 fun J B N R1 ok D hD => ?_
  obtain ⟨N1, RB⟩ := hide R1 hD (.dK [])
  have EB := wipeE_er (E.nxt N) vs
  refine ⟨fun i m H => ∃ C acc ws S3, C.H = H ∧ Nxt tb B C ∧ D ∈ C.hid ∧ C.H D = some (.dK acc) ∧ Rep K tb C S3 ∧ PK' K tb C acc ws ∧ dcM im mg mt mk mv m i (wipeE ρ vs) ws S3 = some (zs, S2),
    ⟨_, _, [], [], S1, rfl, N1, List.mem_cons_self, upd_same, RB, .nil, e2⟩, ?_⟩
  rintro i m _ ⟨C, acc, ws, S3, rfl, N3, hDC, eD, R3, racc, e4⟩
  unfold dcM at e4
  split at e4
  · cases e4
  · rename_i ha
    cases e4
    obtain ⟨us', hu, hz'⟩ := Itm.at_now ha
    obtain ⟨N4, R4, i4⟩ := unhide (ob := .dct zs) R1 hD N3 hDC R3 ⟨_, eD, racc⟩
    exact .inl ⟨(ok C _ us' N3.w R3 hu).2 i (List.getElem?_eq_none_iff.mp hz'.symm), q (.ref D) { H := C.H, ι := C.ι ++ [D], hid := B.hid } (N.trans N4) R4 ⟨D, rfl, i4⟩⟩
  · rename_i w1 ha
    obtain ⟨us', hu, hz'⟩ := Itm.at_now ha
    obtain ⟨go, yl⟩ := (ok C S3 us' N3.w R3 hu).1 i w1 hz'.symm
    cases m with
    | zero => cases e4
    | succ m =>
      obtain ⟨⟨ρ5, S5⟩, e5, e4⟩ := Option.bind_eq_some_iff.mp e4
      obtain ⟨⟨k6, S6⟩, e6, e4⟩ := Option.bind_eq_some_iff.mp e4
      refine .inr ⟨go, fun H' => ∃ C acc ws S3, C.H = H' ∧ Nxt tb B C ∧ D ∈ C.hid ∧ C.H D = some (.dK acc) ∧ Rep K tb C S3 ∧ PK' K tb C acc ws ∧ dcM im mg mt mk mv m (i + 1) (wipeE ρ vs) ws S3 = some (zs, S2), fun H' h => ⟨m, Nat.lt_succ_self m, h⟩, fun x H2 y => ?_⟩
      obtain ⟨C2, rfl, N4, R4, r4⟩ := yl x H2 y
      have EC : ER K tb C2 (wipe σ vs) (wipeE ρ vs) := EB.nxt (N3.trans N4)
      refine hg C2 x w1 _ _ S3 ρ5 S5 _ R4 EC r4 e5 fun C3 σ3 N5 R5 E5 hl5 hj5 => ⟨wipe_wipe hl5 fun j hj => hj5 j fun z => hj (hsub j z), ?_⟩
      refine ht C3 σ3 ρ5 S5 k6 S6 _ R5 E5 e6 fun C4 N6 R6 => ?_
      have NC := N4.trans (N5.trans N6)
      cases k6 with
      | false =>
        simp only [Bool.false_eq_true, if_false] at e4 ⊢
        exact ⟨C4, acc, ws, S6, rfl, N3.trans NC, NC.hid D hDC, NC.hidden R3 hDC eD, R6, racc.nxt NC, e4⟩
      | true =>
        simp only [if_true] at e4 ⊢
        obtain ⟨⟨r7, S7⟩, e7, e4⟩ := Option.bind_eq_some_iff.mp e4
        obtain ⟨key, e8, e4⟩ := Option.bind_eq_some_iff.mp e4
        obtain ⟨⟨r9, S9⟩, e9, e4⟩ := Option.bind_eq_some_iff.mp e4
        dsimp only at e4 e8 e9
        split at e4
        · rename_i hsz
          refine hk C4 σ3 ρ5 S6 r7 S7 _ R6 (E5.nxt N6) e7 fun ky C5 N7 R7 rk => ?_
          obtain rfl := keyW_run rk e8
          refine hv C5 σ3 ρ5 S7 r9 S9 _ R7 (E5.nxt (N6.trans N7)) e9 fun z C6 N8 R8 rz => ?_
          have NC2 := NC.trans (N7.trans N8)
          have eD6 := NC2.hidden R3 hDC eD
          have hD6 := NC2.hid D hDC
          have pk6 := racc.nxt NC2
          refine ⟨acc, key, rfl, eD6, by rw [racc.length]; exact hsz, C6.hset D _, _, _, S9, rfl, nxt_hset (N3.trans NC2) hD, hD6, upd_same, R8.hset hD6, ?_, e4⟩
          exact Paired.mapP (pk6.put rz) fun _ _ z => ⟨z.1, wr_key (hset_key hD6) (fun _ _ z => z) z.2⟩
        · cases e4
/-! ### reversed -/
def iRevM (e : ME) : MI := fun ρ S => (e ρ S).bind fun p => match p.1 with
  | .d (.list ds) => some (.vals (ds.reverse.map .d), p.2)
  | .d (.tuple ds) => some (.vals (ds.reverse.map .d), p.2)
  | .loc n => match p.2[n]? with
    | some (.lst ws) => some (.rev n ws.length, p.2)
    | _ => none
  | _ => none
theorem rev_at {α : Type} {xs : List α} {i : Nat} : xs.reverse[i]? = if i < xs.length then xs[xs.length - 1 - i]? else none := by
  by_cases h : i < xs.length
  · rw [if_pos h, List.getElem?_reverse h]
  · rw [if_neg h, List.getElem?_eq_none_iff.mpr (by simp; omega)]
theorem WRs.get2 {A : Wd} {vs : List V} {ws : List W} {i : Nat} {v : V} (r : WRs K tb A vs ws) (e : vs[i]? = some v) : ∃ w, ws[i]? = some w ∧ WR K tb A v w := by
  have hl := WRs.length r
  have hi : i < ws.length := by rw [← hl]; exact (List.getElem?_eq_some_iff.mp e).1
  obtain ⟨v', e2, r2⟩ := WRs.get' r (List.getElem?_eq_getElem hi)
  rw [e] at e2; cases e2
  exact ⟨_, List.getElem?_eq_getElem hi, r2⟩
theorem si_rev {te : TE} {e : ME} (he : SE K tb te e) : SI K tb (RT.iRevA K te) (iRevM e) := fun A σ ρ S im S' R' R E h q => by
  obtain ⟨⟨w, S1⟩, e1, g1⟩ := Option.bind_eq_some_iff.mp h
  refine he A σ ρ S w S1 _ R E e1 fun v B N R1 r => ?_
  dsimp only at g1
  split at g1
  · cases g1
    obtain ⟨a, xs, rfl, f, rd⟩ := r.lst
    refine ⟨a, xs, rfl, .inl ⟨f.sq, q _ B N R1 fun C S2 ws NC RC e => ?_⟩⟩
    cases e
    have f' : SqL K C.H a xs := (f.nxw NC).sq
    have hl := rd.length
    refine ⟨fun i w hw => ?_, fun i hi => by simp at hi; show xs.length ≤ i; omega⟩
    rw [List.getElem?_map, rev_at] at hw
    split at hw
    · rename_i hi
      obtain ⟨d, e2, rfl⟩ := Option.map_eq_some_iff.mp hw
      obtain ⟨x, e3, r3⟩ := rd.get' e2
      rw [← hl] at e3
      refine ⟨⟨by omega, xs, x, f', e3⟩, fun y H2 ⟨eH, z⟩ => ?_⟩
      have := z xs f'
      rw [e3] at this; cases this
      subst eH
      exact ⟨C, rfl, .refl, RC, DR.nxw NC d r3⟩
    · cases hw
  · cases g1
    obtain ⟨a, xs, rfl, f, rd⟩ := r.tup
    refine ⟨a, xs, rfl, .inr ⟨f.sq, q _ B N R1 fun C S2 ws NC RC e => ?_⟩⟩
    cases e
    have f' := (f.nxw NC).sq
    have hl := rd.length
    refine ⟨fun i w hw => ?_, fun i hi => by simp at hi; show xs.length ≤ i; omega⟩
    rw [List.getElem?_map, rev_at] at hw
    split at hw
    · rename_i hi
      obtain ⟨d, e2, rfl⟩ := Option.map_eq_some_iff.mp hw
      obtain ⟨x, e3, r3⟩ := rd.get' e2
      rw [← hl] at e3
      refine ⟨⟨by omega, xs, x, f', e3⟩, fun y H2 ⟨eH, z⟩ => ?_⟩
      have := z xs f'
      rw [e3] at this; cases this
      subst eH
      exact ⟨C, rfl, .refl, RC, DR.nxw NC d r3⟩
    · cases hw
  · rename_i n
    split at g1
    · rename_i us0 eS
      cases g1
      obtain ⟨a, rfl, ia⟩ := r
      obtain ⟨ob, eo, oR⟩ := R1.get ia
      rw [eS] at eo; cases eo
      obtain ⟨vs, ea, rv⟩ := oR
      refine ⟨a, vs, rfl, .inl ⟨.inl (.inl ea), q _ B N R1 fun C S2 ws NC RC e => ?_⟩⟩
      obtain ⟨us, e5, hl5, rfl⟩ := e
      obtain ⟨ob2, eo2, oR2⟩ := RC.get (NC.ix ia)
      rw [e5] at eo2; cases eo2
      obtain ⟨vs2, ea2, rv2⟩ := oR2
      have l1 := WRs.length rv
      have l2 := WRs.length rv2
      have sq2 : SqL K C.H a vs2 := .inl (.inl ea2)
      refine ⟨fun i w hw => ?_, fun i hi => by simp at hi; show vs.length ≤ i; omega⟩
      rw [rev_at] at hw
      split at hw
      · rename_i hi
        have hx : us.length - 1 - i < vs2.length := by omega
        have e3 := List.getElem?_eq_getElem hx
        obtain ⟨w', e6, r6⟩ := WRs.get2 rv2 e3
        rw [hw] at e6; cases e6
        have e7 : vs2[vs.length - 1 - i]? = some vs2[us.length - 1 - i] := by rw [show vs.length - 1 - i = us.length - 1 - i by omega]; exact e3
        refine ⟨⟨by omega, vs2, _, sq2, e7⟩, fun y H2 ⟨eH, z⟩ => ?_⟩
        have := z vs2 sq2
        rw [e7] at this; cases this
        subst eH
        exact ⟨C, rfl, .refl, RC, r6⟩
      · cases hw
    · cases g1
  · cases g1
/-! ### keywords -/
def eCallKw (f : MF) (pm : List W → List W → List W) (a k : MA) : ME := fun ρ S => (a ρ S).bind fun p => (k ρ p.2).bind fun z => f (pm p.1 z.1) z.2
theorem se_callkw {n : Nat} {f : MF} {t tk : TA} {a k : MA} {E : XK} {gV : List V → List V → List V} {pm : List W → List W → List W} (h : Ar n f) (hp : ∀ (A : Wd) vs us zs ws, WRs K tb A vs us → WRs K tb A zs ws → WRs K tb A (gV vs zs) (pm us ws)) (ha : SA K tb t a) (hk : SA K tb tk k) :
    SE K tb (tCallK (spD K tb n f) gV E t tk) (eCallKw f pm a k) := fun A σ ρ S w S' Q R Er e q => by
  obtain ⟨p, e1, g1⟩ := Option.bind_eq_some_iff.mp e
  obtain ⟨z, e2, g2⟩ := Option.bind_eq_some_iff.mp g1
  refine ha A σ ρ S p.1 p.2 _ R Er e1 fun vs B N R1 r1 => ?_
  refine hk B σ ρ p.2 z.1 z.2 _ R1 (Er.nxt N) e2 fun zs B2 N2 R2 r2 => ?_
  have rr := hp B2 _ _ _ _ (r1.nxt N2) r2
  exact ⟨by rw [WRs.length rr]; exact h _ _ _ g2, B2, _, _, w, S', rfl, rr, R2, g2, q.nxt (N.trans N2)⟩
theorem wrs_app {A : Wd} {vs zs : List V} {us ws : List W} (h : WRs K tb A vs us) (g : WRs K tb A zs ws) : WRs K tb A (vs ++ zs) (us ++ ws) := by
  induction h with
  | nil => exact g
  | cons a _ ih => exact .cons a ih
/-! ### isinstance(x, int), isinstance(x, bool) -/
def isK : W → Bool → Option Bool
  | .d (.int _), false => some true
  | .d (.int _), true => some false
  | .d (.bool _), false => some true
  | .d (.bool _), true => some true
  | .d (.str _), _ => some false
  | _, _ => none
def tyN : Bool → String
  | false => "int"
  | true => "bool"
/-- T: false for int, true for bool -/
def eIs (T : Bool) (o : ME) : ME := fun ρ S => (o ρ S).bind fun p => (isK p.1 T).map fun b => (.d (.bool b), p.2)
theorem kit1 : kitB "int" "int" = some true := by decide +kernel
theorem kit2 : kitB "int" "bool" = some false := by decide +kernel
theorem kit3 : kitB "bool" "int" = some true := by decide +kernel
theorem kit4 : kitB "bool" "bool" = some true := by decide +kernel
theorem kit5 : kitB "str" "int" = some false := by decide +kernel
theorem kit6 : kitB "str" "bool" = some false := by decide +kernel
theorem isK_run {A : Wd} {v : V} {w : W} {T b : Bool} (r : WR K tb A v w) (h : isK w T = some b) : ∃ t, TyX K A.H v t ∧ PySem.W.kitOne K t (.type (tyN T)) = some b := by
  unfold isK at h
  split at h
  · cases h; obtain rfl := WR.int r; exact ⟨_, .base (.int _), kit_ty kit1⟩
  · cases h; obtain rfl := WR.int r; exact ⟨_, .base (.int _), kit_ty kit2⟩
  · cases h; obtain rfl := WR.bl r; exact ⟨_, .base (.bl _), kit_ty kit3⟩
  · cases h; obtain rfl := WR.bl r; exact ⟨_, .base (.bl _), kit_ty kit4⟩
  · cases h
    obtain rfl := WR.str r
    cases T
    · exact ⟨_, .base (.str _), kit_ty kit5⟩
    · exact ⟨_, .base (.str _), kit_ty kit6⟩
  · cases h
theorem se_is {T : Bool} {te : TE} {o : ME} (ho : SE K tb te o) : SE K tb (tCB (rIsi K) (tCons te (tCons (tC (.ty (tyN T))) tNil))) (eIs T o) := fun A σ ρ S w S' Q R E e q => by
  obtain ⟨p, e1, g1⟩ := Option.bind_eq_some_iff.mp e
  obtain ⟨b, e2, e3⟩ := Option.map_eq_some_iff.mp g1
  cases e3
  refine ho A σ ρ S p.1 p.2 _ R E e1 fun x B N R1 r1 => ?_
  obtain ⟨t, ht, hk⟩ := isK_run r1 e2
  exact ⟨x, _, t, _, b, rfl, .ty _, ht, hk, q _ B N R1 (DR.bl b)⟩
end
end Pd
namespace Pd
open PySem PySem.Spec PyProof.Rows L2 GxR Gx
section
variable {X : Cx} {K : PySem.W.Frag}
theorem pe_fldK {e : Expr} {f : Str} {pos : Pos} {ta : TE} (hK : X.K = K) (he : PE X e ta) (hb : attributeBase e f X.env (eval e X.env) = eval e X.env) : PE X (.Attribute e f pos) (tFld K ta f) := by subst hK; exact pe_fld he hb
theorem ps_fldK {o value : Expr} {f : Str} {pos pos' : Pos} {ta tv : TE} (hK : X.K = K) (ha : PE X o ta) (hv : PE X value tv) (hs : swapsWith value (some (.Attribute o f pos')) pos.line X.env = pure false) : PS X (.Assign [.Attribute o f pos'] value pos) (sFld K ta tv f) := by subst hK; exact ps_fld ha hv hs
theorem ps_fldaugK {o value : Expr} {f : Str} {pos tpos : Pos} {ta tv : TE} (hK : X.K = K) (ha : PE X o ta) (hv : PE X value tv) : PS X (.AugAssign (.Attribute o f tpos) .Add value pos) (sFldAug K ta tv rAdd f) := by subst hK; exact ps_fldaug ha hv in_add
theorem pi_revK {tg e : Expr} {te : TE} {p pos : Pos} (hK : X.K = K) (hg : Gl X "reversed") (hm : X.mg "reversed" = none) (he : PE X e te) (hs : starEach [e] X.env = (false, eval e X.env) :: starEach [] X.env := by rfl) : PI X tg (.Call (.Name "reversed" p) [e] [] pos) (RT.iRevA K te) := by
  subst hK; exact RT.pi_revA hg hm he hs
theorem cr_isiK (hK : X.K = K) : CallR X (.builtin "isinstance") (rIsi K) := by subst hK; exact call_isi
/-- == of two dicts whose values are data -/
def EqDa (K : PySem.W.Frag) (H : Hp) (x y : V) : Prop := ∃ d, Dp K H x d ∧ Dp K H y d ∧ d.canLay0 = true ∧ d.depth ≤ 30
abbrev rEqDct (K : PySem.W.Frag) : R2 := fun x y H Q => EqR K H (EqDa K H) x y ∧ Q (.bl true) H
theorem op_eqDct (hK : X.K = K) (hu : X.A.units + 64 < cLine) : OpR X (compareOp .Eq) (rEqDct K) := by
  subst hK
  rintro pins s σ H x y v u Q I rx ry ⟨h, q⟩
  refine eqR_run I (A := X.A) (Nat.lt_of_le_of_lt (Nat.le_add_right _ _) hu) (fun a b v' u' ⟨d, hx, hy, hl, hd⟩ ra rb E Q' q' => ?_) h rx ry _ _ ⟨.bl true, H, I, rfl, q⟩
  obtain ⟨as, r1⟩ := Dp.reads I d a v' hx ra
  obtain ⟨bs, r2⟩ := Dp.reads I d b u' hy rb
  refine SeqAt.eqBoolOverData X.prog X.w X.A.in1 E s v' u' d d as bs Q' r1 r2 hl hl ?_ (by rw [SeqAt.eqv_refl d hl]; exact q')
  show X.A.units + 1 + min d.depth d.depth < cLine
  rw [Nat.min_self]
  omega
end
section
variable {K : PySem.W.Frag} {tb : List Addr}
def SameD (ks ls : KW) : Prop := ks.length = ls.length ∧ ∀ p ∈ ks, ∃ x, p.2 = .d x ∧ valW ls p.1 = some (.d x) ∧ x.canLay0 = true ∧ x.depth ≤ 30
open Classical in
noncomputable def oEqDct : F2 := fun a b S => (dctAt a S).bind fun p => (dctAt b S).bind fun q => if SameD p.2 q.2 then some (.d (.bool true), S) else none
theorem sr_eqDct : SR K tb (rEqDct K) oEqDct := fun A x y a b S w S' Q R ra rb e q => by
  obtain ⟨⟨n, ks⟩, e1, g1⟩ := Option.bind_eq_some_iff.mp e
  obtain ⟨⟨m, ls⟩, e2, g2⟩ := Option.bind_eq_some_iff.mp g1
  dsimp only at g2
  split at g2
  · rename_i hs
    cases g2
    obtain ⟨a1, vs, rfl, _, ia, ea, pk⟩ := dctAt_run R ra e1
    obtain ⟨b1, us, rfl, _, ib, eb, pl⟩ := dctAt_run R rb e2
    obtain ⟨hl, hs⟩ := hs
    refine ⟨.inr ⟨a1, b1, vs, us, rfl, rfl, ea, eb, by rw [pk.length, pl.length]; exact hl, fun p hp => ?_⟩, q _ A .refl R (DR.bl true)⟩
    have mem : ∀ {l : List (Key × V)} {m : KW}, PK' K tb A l m → ∀ p ∈ l, ∃ p' ∈ m, p.1 = p'.1 ∧ WR K tb A p.2 p'.2 := by
      intro l m z
      induction z with
      | nil => intro p hp; cases hp
      | cons h _ ih =>
        intro p hp
        rcases List.mem_cons.mp hp with rfl | hp
        · exact ⟨_, List.mem_cons_self, h⟩
        · obtain ⟨p', hm, r⟩ := ih p hp
          exact ⟨p', List.mem_cons_of_mem _ hm, r⟩
    obtain ⟨p', hm, h1, h2⟩ := mem pk p hp
    obtain ⟨d, hd, hv, hc, hdp⟩ := hs p' hm
    obtain ⟨v, hv2, rv⟩ := (pl.val p'.1).1 _ hv
    rw [hd] at h2
    exact ⟨v, by rw [h1]; exact hv2, d, DR.dp d h2 hc, DR.dp d rv hc, hc, hdp⟩
  · cases g2
theorem pss_none {X : Cx} {body : List Stmt} : PSs X body tNever := ⟨fun _ _ _ _ _ _ h => h.elim⟩
end
/-- one argument by place, two by name -/
def g12 {α : Type} : List α → List α → List α
  | [u], [v, w] => [u, v, w]
  | _, _ => []
theorem g12_len {α : Type} {us ws : List α} (h : (g12 us ws).length = 3) : ∃ u v w, us = [u] ∧ ws = [v, w] := by
  unfold g12 at h
  split at h
  · exact ⟨_, _, _, rfl, rfl⟩
  · cases h
theorem g12_rel {α β : Type} {R : α → β → Prop} {vs zs : List α} {us ws : List β} (h : Paired R vs us) (g : Paired R zs ws) : Paired R (g12 vs zs) (g12 us ws) := by
  cases h with
  | nil => exact .nil
  | cons a t =>
    cases t with
    | cons _ _ => exact .nil
    | nil =>
      cases g with
      | nil => exact .nil
      | cons b t =>
        cases t with
        | nil => exact .nil
        | cons c t =>
          cases t with
          | nil => exact .cons a (.cons b (.cons c .nil))
          | cons _ _ => exact .nil
/-- a method of the text -/
structure DfM (K : PySem.W.Frag) (C : Addr) (x qual : Str) (st : Stmt) (ps : List Str) where
  f : Addr
  fd : FuncData
  c : Addr
  F : FunC K x qual st f fd c
  m : Meth K C x f
  b : Binds K fd ps []
/-- a def with parameters that are named in every call -/
structure DfK (K : PySem.W.Frag) (mg : Str → Option Value) (x : Str) (st : Stmt) (ps ks : List Str) where
  f : Addr
  fd : FuncData
  c : Addr
  F : FunC K x x st f fd c
  g : mg x = some (.ref f)
  b : KBinds K fd ps ks g12 g12
end Pd
namespace Pd
open PySem PySem.Spec PyProof.Rows L2 GxR Gx
theorem eqP_str (x y : Str) : eqP (.str x) (.str y) = some (decide (x = y)) := rfl
theorem eqP_int (x y : Int) : eqP (.int x) (.int y) = some (decide (x = y)) := rfl
theorem eqP_bool (x y : Bool) : eqP (.bool x) (.bool y) = some (decide (x = y)) := rfl
theorem atI_0 {α : Type} {v : α} {us : List α} : atI (v :: us) 0 = some v := atI_nat (j := 0) rfl
theorem atI_1 {α : Type} {v x : α} {us : List α} : atI (v :: x :: us) 1 = some x := atI_nat (j := 1) rfl
theorem atI_2 {α : Type} {v x y : α} {us : List α} : atI (v :: x :: y :: us) 2 = some y := atI_nat (j := 2) rfl
theorem atI_3 {α : Type} {v x y z : α} {us : List α} : atI (v :: x :: y :: z :: us) 3 = some z := atI_nat (j := 3) rfl
theorem atI_4 {α : Type} {v x y z u : α} {us : List α} : atI (v :: x :: y :: z :: u :: us) 4 = some u := atI_nat (j := 4) rfl
theorem atI_at {α : Type} {xs : List α} {i : Nat} {x : α} (h : xs[i]? = some x) : atI xs (i : Int) = some x := atI_nat (j := i) h
theorem atI_ok {α : Type} {xs : List α} {i : Int} (h0 : 0 ≤ i) (h1 : i < (xs.length : Int)) : ∃ x, xs[i.toNat]? = some x ∧ atI xs i = some x := by
  have hk : i.toNat < xs.length := by omega
  refine ⟨xs[i.toNat], List.getElem?_eq_getElem hk, ?_⟩
  have q := atI_at (xs := xs) (i := i.toNat) (List.getElem?_eq_getElem hk)
  rwa [show ((i.toNat : Nat) : Int) = i by omega] at q
theorem oIx_tup {ds : List PyData} {i : Int} {S : Mem} : oIx (.d (.tuple ds)) (.d (.int i)) S = (atI ds i).map fun d => (.d d, S) := rfl
theorem oIx_list {ds : List PyData} {i : Int} {S : Mem} : oIx (.d (.list ds)) (.d (.int i)) S = (atI (ds.map W.d) i).map fun d => (d, S) := rfl
theorem oIx_loc {n : Nat} {ws : List W} {i : Int} {S : Mem} (h : S[n]? = some (.lst ws)) : oIx (.loc n) (.d (.int i)) S = (atI ws i).map fun d => (d, S) := by
  show (itemsL (.loc n) S).bind _ = _
  simp only [itemsL, h]
  rfl
theorem itemsL_loc {n : Nat} {ws : List W} {S : Mem} (h : S[n]? = some (.lst ws)) : itemsL (.loc n) S = some ws := by
  simp only [itemsL, h]
theorem items_loc {n : Nat} {ws : List W} {S : Mem} (h : S[n]? = some (.lst ws)) : items (.loc n) S = some ws := by
  simp only [items, h]
theorem lstAt_loc {n : Nat} {ws : List W} {S : Mem} (h : S[n]? = some (.lst ws)) : lstAt (.loc n) S = some (n, ws) := by
  simp only [lstAt, h]
theorem oEq_d {n : Bool} {x y : PyData} {S : Mem} {b : Bool} (h : eqP x y = some b) : oEq n (.d x) (.d y) S = some (.d (.bool (if n then !b else b)), S) := by
  show (eqP x y).map _ = _
  rw [h]; rfl
/-- a for over values: each turn carries the state on -/
theorem forM_vals {g : MG} {b : MS} {ws : List W} (Inv : Nat → Env' → Mem → Prop)
    (step : ∀ i w ρ S, ws[i]? = some w → Inv i ρ S → ∃ ρ1 S1 ρ2 S2, g w ρ S = some (ρ1, S1) ∧ b ρ1 S1 = some (.nx, ρ2, S2) ∧ Inv (i + 1) ρ2 S2) :
    ∀ (k i : Nat) ρ S, ws.length - i = k → i ≤ ws.length → Inv i ρ S → ∃ ρ' S', forM (.vals ws) g b k i ρ S = some (.nx, ρ', S') ∧ Inv ws.length ρ' S' := by
  intro k
  induction k with
  | zero =>
    intro i ρ S hk hi h
    have e : i = ws.length := by omega
    subst e
    refine ⟨ρ, S, ?_, h⟩
    unfold forM
    have : (Itm.vals ws).at_ S ws.length = some none := by show some ws[ws.length]? = _; simp
    rw [this]
  | succ k ih =>
    intro i ρ S hk hi h
    have hlt : i < ws.length := by omega
    obtain ⟨ρ1, S1, ρ2, S2, e1, e2, h2⟩ := step i ws[i] ρ S (List.getElem?_eq_getElem hlt) h
    obtain ⟨ρ', S', e3, h3⟩ := ih (i + 1) ρ2 S2 (by omega) hlt h2
    refine ⟨ρ', S', ?_, h3⟩
    unfold forM
    have : (Itm.vals ws).at_ S i = some (some ws[i]) := by show some ws[i]? = _; simp [hlt]
    rw [this]
    simp only [e1, e2, Option.bind_some]
    exact e3
/-- .. or hands out a result -/
theorem forM_ret {g : MG} {b : MS} {ws : List W} (Inv : Nat → Env' → Mem → Prop) (Rt : W → Mem → Prop)
    (step : ∀ i w ρ S, ws[i]? = some w → Inv i ρ S → ∃ ρ1 S1, g w ρ S = some (ρ1, S1) ∧ ((∃ ρ2 S2, b ρ1 S1 = some (.nx, ρ2, S2) ∧ Inv (i + 1) ρ2 S2) ∨ ∃ r ρ2 S2, b ρ1 S1 = some (.rt r, ρ2, S2) ∧ Rt r S2)) :
    ∀ (k i : Nat) ρ S, ws.length - i = k → i ≤ ws.length → Inv i ρ S → (∃ ρ' S', forM (.vals ws) g b k i ρ S = some (.nx, ρ', S') ∧ Inv ws.length ρ' S') ∨ ∃ r ρ' S', forM (.vals ws) g b k i ρ S = some (.rt r, ρ', S') ∧ Rt r S' := by
  intro k
  induction k with
  | zero =>
    intro i ρ S hk hi h
    have e : i = ws.length := by omega
    subst e
    refine .inl ⟨ρ, S, ?_, h⟩
    unfold forM
    have : (Itm.vals ws).at_ S ws.length = some none := by show some ws[ws.length]? = _; simp
    rw [this]
  | succ k ih =>
    intro i ρ S hk hi h
    have hlt : i < ws.length := by omega
    have ha : (Itm.vals ws).at_ S i = some (some ws[i]) := by show some ws[i]? = _; simp [hlt]
    obtain ⟨ρ1, S1, e1, h1⟩ := step i ws[i] ρ S (List.getElem?_eq_getElem hlt) h
    rcases h1 with ⟨ρ2, S2, e2, h2⟩ | ⟨r, ρ2, S2, e2, h2⟩
    · rcases ih (i + 1) ρ2 S2 (by omega) hlt h2 with ⟨ρ', S', e3, h3⟩ | ⟨r, ρ', S', e3, h3⟩
      · refine .inl ⟨ρ', S', ?_, h3⟩
        unfold forM
        rw [ha]
        simp only [e1, e2, Option.bind_some]
        exact e3
      · refine .inr ⟨r, ρ', S', ?_, h3⟩
        unfold forM
        rw [ha]
        simp only [e1, e2, Option.bind_some]
        exact e3
    · refine .inr ⟨r, ρ2, S2, ?_, h2⟩
      unfold forM
      rw [ha]
      simp only [e1, e2, Option.bind_some]
/-- a comprehension over values, the element a function of the item that leaves the state alone -/
theorem lcM_vals {g : MG} {e : ME} {ws us : List W} {ρ : Env'} {S : Mem} (hl : us.length = ws.length) (step : ∀ (i : Nat) w u, ws[i]? = some w → us[i]? = some u → ∃ ρ1, g w ρ S = some (ρ1, S) ∧ e ρ1 S = some (u, S)) :
    ∀ (k i : Nat), ws.length - i = k → i ≤ ws.length → lcM (.vals ws) g tYesM e k i ρ S = some (us.drop i, S) := by
  intro k
  induction k with
  | zero =>
    intro i hk hi
    have e : i = ws.length := by omega
    subst e
    unfold lcM
    have : (Itm.vals ws).at_ S ws.length = some none := by show some ws[ws.length]? = _; simp
    rw [this, List.drop_of_length_le (by omega)]
  | succ k ih =>
    intro i hk hi
    have hlt : i < ws.length := by omega
    have hlu : i < us.length := by omega
    obtain ⟨ρ1, e1, e2⟩ := step i ws[i] us[i] (List.getElem?_eq_getElem hlt) (List.getElem?_eq_getElem hlu)
    have h3 := ih (i + 1) (by omega) hlt
    unfold lcM
    have ha : (Itm.vals ws).at_ S i = some (some ws[i]) := by show some ws[i]? = _; simp [hlt]
    rw [ha]
    simp only [e1, e2, tYesM, Option.bind_some, if_true, h3]
    rw [List.drop_eq_getElem_cons hlu]
/-- .. the state goes on -/
theorem lcM_st {g : MG} {e : ME} {ws : List W} {ρ : Env'} (Inv : Nat → List W → Mem → Prop) (step : ∀ (i : Nat) w acc S, ws[i]? = some w → Inv i acc S → ∃ ρ1 u S', g w ρ S = some (ρ1, S) ∧ e ρ1 S = some (u, S') ∧ Inv (i + 1) (acc ++ [u]) S') :
    ∀ (k i : Nat) acc S, ws.length - i = k → i ≤ ws.length → Inv i acc S → ∃ us S', lcM (.vals ws) g tYesM e k i ρ S = some (us, S') ∧ Inv ws.length (acc ++ us) S' := by
  intro k
  induction k with
  | zero =>
    intro i acc S hk hi h
    have e : i = ws.length := by omega
    subst e
    refine ⟨[], S, ?_, by rw [List.append_nil]; exact h⟩
    unfold lcM
    have : (Itm.vals ws).at_ S ws.length = some none := by show some ws[ws.length]? = _; simp
    rw [this]
  | succ k ih =>
    intro i acc S hk hi h
    have hlt : i < ws.length := by omega
    obtain ⟨ρ1, u, S', e1, e2, h2⟩ := step i ws[i] acc S (List.getElem?_eq_getElem hlt) h
    obtain ⟨us, S2, e3, h3⟩ := ih (i + 1) _ S' (by omega) hlt h2
    refine ⟨u :: us, S2, ?_, by rw [List.append_assoc] at h3; exact h3⟩
    unfold lcM
    have ha : (Itm.vals ws).at_ S i = some (some ws[i]) := by show some ws[i]? = _; simp [hlt]
    rw [ha]
    simp only [e1, e2, tYesM, Option.bind_some, if_true, e3]
/-- .. with a test -/
theorem lcM_if {g : MG} {t : MT} {e : ME} {ws : List W} {ρ : Env'} {S : Mem} (p : W → Bool) (step : ∀ (i : Nat) w, ws[i]? = some w → ∃ ρ1, g w ρ S = some (ρ1, S) ∧ t ρ1 S = some (p w, S) ∧ e ρ1 S = some (w, S)) :
    ∀ (k i : Nat), ws.length - i = k → i ≤ ws.length → lcM (.vals ws) g t e k i ρ S = some ((ws.drop i).filter p, S) := by
  intro k
  induction k with
  | zero =>
    intro i hk hi
    have e : i = ws.length := by omega
    subst e
    unfold lcM
    have : (Itm.vals ws).at_ S ws.length = some none := by show some ws[ws.length]? = _; simp
    rw [this, List.drop_of_length_le (by omega)]
    rfl
  | succ k ih =>
    intro i hk hi
    have hlt : i < ws.length := by omega
    obtain ⟨ρ1, e1, e2, e3⟩ := step i ws[i] (List.getElem?_eq_getElem hlt)
    have h3 := ih (i + 1) (by omega) hlt
    unfold lcM
    have ha : (Itm.vals ws).at_ S i = some (some ws[i]) := by show some ws[i]? = _; simp [hlt]
    rw [ha, List.drop_eq_getElem_cons hlt]
    cases hp : p ws[i] with
    | true => simp only [e1, e2, e3, hp, Option.bind_some, if_true, h3, List.filter_cons]
    | false => simp only [e1, e2, hp, Option.bind_some, Bool.false_eq_true, if_false, h3, List.filter_cons]
/-- all(..) over values -/
theorem allL_vals {g : MG} {e : ME} {ρ : Env'} {S : Mem} (p : W → Bool) : ∀ {ws : List W}, (∀ w ∈ ws, ∃ ρ1, g w ρ S = some (ρ1, S) ∧ e ρ1 S = some (.d (.bool (p w)), S)) → allL g e ws ρ S = some (ws.all p, S)
  | [], _ => rfl
  | w :: ws, h => by
    obtain ⟨ρ1, e1, e2⟩ := h w List.mem_cons_self
    have ih := allL_vals p (ws := ws) fun x hx => h x (List.mem_cons_of_mem _ hx)
    unfold allL
    have e3 : eB e ρ1 S = some (p w, S) := by unfold eB; rw [e2]; rfl
    rw [e1]
    simp only [Option.bind_some, e3]
    cases hp : p w with
    | true => simp only [if_true, ih, List.all_cons, hp, Bool.true_and]
    | false => simp only [Bool.false_eq_true, if_false, List.all_cons, hp, Bool.false_and]
end Pd
namespace Pd
open PySem PySem.Spec PyProof.Rows L2 GxR Gx
section
variable {ρ ρ1 ρ2 : Env'} {S S1 S2 S3 : Mem} {w x y z : W} {a b c : MS} {e e1 e2 e3 : ME} {t u : MT} {m n : MA} {f : F2} {g : MG} {r : Option (Out × Env' × Mem)} {k : Bool} {ws us : List W}
theorem v_nx (h : a ρ S = some (.nx, ρ1, S1)) (q : b ρ1 S1 = r) : sSeq a b ρ S = r := by unfold sSeq; rw [h]; exact q
theorem v_rt (h : a ρ S = some (.rt w, ρ1, S1)) : sSeq a b ρ S = some (.rt w, ρ1, S1) := by unfold sSeq; rw [h]; rfl
theorem v_bk (h : a ρ S = some (.bk, ρ1, S1)) : sSeq a b ρ S = some (.bk, ρ1, S1) := by unfold sSeq; rw [h]; rfl
theorem v_ifT (h : t ρ S = some (true, S1)) (q : a ρ S1 = r) : sIf t a b ρ S = r := by unfold sIf; rw [h]; exact q
theorem v_ifF (h : t ρ S = some (false, S1)) (q : b ρ S1 = r) : sIf t a b ρ S = r := by unfold sIf; rw [h]; exact q
theorem v_ret (h : e ρ S = some (w, S1)) : sRet e ρ S = some (.rt w, ρ, S1) := by unfold sRet; rw [h]; rfl
theorem v_drop (h : e ρ S = some (w, S1)) : sDrop e ρ S = some (.nx, ρ, S1) := by unfold sDrop; rw [h]; rfl
theorem v_asg (h : e ρ S = some (w, S1)) (q : g w ρ S1 = some (ρ2, S2)) : sAsg e g ρ S = some (.nx, ρ2, S2) := by unfold sAsg; rw [h]; simp only [Option.bind_some, q]
theorem v_op {o : Option (W × Mem)} (h1 : e1 ρ S = some (x, S1)) (h2 : e2 ρ S1 = some (y, S2)) (h3 : f x y S2 = o) : eOp f e1 e2 ρ S = o := by unfold eOp; rw [h1]; simp only [Option.bind_some, h2, h3]
theorem v_call {q : MF} {o : Option (W × Mem)} (h1 : m ρ S = some (ws, S1)) (h2 : q ws S1 = o) : eCall q m ρ S = o := by unfold eCall; rw [h1]; simp only [Option.bind_some, h2]
theorem v_cons (h1 : e ρ S = some (x, S1)) (h2 : m ρ S1 = some (ws, S2)) : aCons e m ρ S = some (x :: ws, S2) := by unfold aCons; rw [h1]; simp only [Option.bind_some, h2]
theorem v_tup {o : Option (W × Mem)} (h : m ρ S = some (ws, S1)) (q : mkT ws S1 = o) : eTup m ρ S = o := by unfold eTup; rw [h]; exact q
theorem v_lstF {o : Option (W × Mem)} (h : m ρ S = some (ws, S1)) (q : mkF ws S1 = o) : eLstF m ρ S = o := by unfold eLstF; rw [h]; exact q
theorem v_lstL {o : Option (W × Mem)} (h : m ρ S = some (ws, S1)) (q : mkL ws S1 = o) : eLstL m ρ S = o := by unfold eLstL; rw [h]; exact q
theorem v_b (h : e ρ S = some (.d (.bool k), S1)) : eB e ρ S = some (k, S1) := by unfold eB; rw [h]; rfl
theorem v_orT (h : t ρ S = some (true, S1)) : eOr t u ρ S = some (true, S1) := by unfold eOr; rw [h]; rfl
theorem v_orF {o : Option (Bool × Mem)} (h : t ρ S = some (false, S1)) (q : u ρ S1 = o) : eOr t u ρ S = o := by unfold eOr; rw [h]; exact q
theorem v_andF (h : t ρ S = some (false, S1)) : eAnd t u ρ S = some (false, S1) := by unfold eAnd; rw [h]; rfl
theorem v_andT {o : Option (Bool × Mem)} (h : t ρ S = some (true, S1)) (q : u ρ S1 = o) : eAnd t u ρ S = o := by unfold eAnd; rw [h]; exact q
theorem v_not (h : t ρ S = some (k, S1)) : eNot t ρ S = some (!k, S1) := by unfold eNot; rw [h]; rfl
theorem v_ieT {o : Option (W × Mem)} (h : t ρ S = some (true, S1)) (q : e1 ρ S1 = o) : eIf t e1 e2 ρ S = o := by unfold eIf; rw [h]; exact q
theorem v_ieF {o : Option (W × Mem)} (h : t ρ S = some (false, S1)) (q : e2 ρ S1 = o) : eIf t e1 e2 ρ S = o := by unfold eIf; rw [h]; exact q
theorem v_all {mi : MI} {vs : List Nat} (h : mi ρ S = some (.vals ws, S1)) (q : allL g e ws (wipeE ρ vs) S1 = some (k, S2)) : eAll mi vs g e ρ S = some (.d (.bool k), S2) := by unfold eAll; rw [h]; simp only [Option.bind_some, q]
theorem v_itup {ds : List PyData} (h : e ρ S = some (.d (.tuple ds), S1)) : iTupM e ρ S = some (.vals (ds.map .d), S1) := by unfold iTupM; rw [h]; rfl
theorem v_ilst {ds : List PyData} (h : e ρ S = some (.d (.list ds), S1)) : iLstM e ρ S = some (.vals (ds.map .d), S1) := by unfold iLstM; rw [h]; rfl
theorem v_rng1 {i : Int} (h : m ρ S = some ([.d (.int i)], S1)) (h1 : -(2 ^ 62) ≤ i) (h2 : i < 2 ^ 62) : iRng1M m ρ S = some (.vals ((List.range i.toNat).map fun (j : Nat) => W.d (.int (0 + (j : Int)))), S1) := by
  unfold iRng1M; rw [h]
  show iRngM (.d (.int 0)) (.d (.int i)) S1 = _
  unfold iRngM
  simp only []
  rw [if_pos (decide_eq_true ⟨by decide, by decide, h1, h2⟩), Int.sub_zero]
theorem v_lc {mi : MI} {vs : List Nat} {im : Itm} {mk : List W → Mem → Option (W × Mem)} {o : Option (W × Mem)} (h : mi ρ S = some (im, S1)) (q : lcM im g t e (im.len S1) 0 (wipeE ρ vs) S1 = some (us, S2)) (p : mk us S2 = o) : eLc mi vs g t e mk ρ S = o := by
  unfold eLc; rw [h]; simp only [Option.bind_some, q, p]
theorem v_for {mi : MI} {im : Itm} (h : mi ρ S = some (im, S1)) (q : forM im g a (im.len S1) 0 ρ S1 = r) : sFor mi g a ρ S = r := by unfold sFor; rw [h]; exact q
theorem v_def {np k : Nat} {body : MS} {o : Option (W × Mem)} {ws : List W} {fz : Bool} (hl : ws.length = np) (h : body (ws.map some ++ List.replicate k none) S = some (.rt w, ρ1, S1)) (q : fin fz S.length w S1 = o) : dfn np k fz body ws S = o := by
  unfold dfn; rw [if_pos hl, h]; exact q
theorem v_defN {np k : Nat} {body : MS} {o : Option (W × Mem)} {ws : List W} {fz : Bool} (hl : ws.length = np) (h : body (ws.map some ++ List.replicate k none) S = some (.nx, ρ1, S1)) (q : fin fz S.length (.d .none) S1 = o) : dfn np k fz body ws S = o := by
  unfold dfn; rw [if_pos hl, h]; exact q
theorem fin_f {n : Nat} : fin false n w S = some (w, S) := rfl
theorem v_bm {q : MM} {o : Option (W × Mem)} {us : List W} (h1 : e ρ S = some (x, S1)) (h0 : itemsL x S1 = some us) (h2 : m ρ S1 = some (ws, S2)) (h3 : q x ws S2 = o) : eBm q e m ρ S = o := by unfold eBm; rw [h1]; simp only [Option.bind_some, h0, h2, h3]
theorem dOf_cons {d : PyData} {ds : List PyData} (h : dOf ws = some ds) : dOf (.d d :: ws) = some (d :: ds) := by show (dOf ws).map _ = _; rw [h]; rfl
theorem mkT_d {ds : List PyData} (h : ds.length ≤ sizeLine) : mkT (ds.map .d) S = some (.d (.tuple ds), S) := by unfold mkT; rw [dOf_map]; simp only [Option.bind_some]; rw [if_pos h]
theorem mkF_d {ds : List PyData} (h : ds.length ≤ sizeLine) : mkF (ds.map .d) S = some (.d (.list ds), S) := by unfold mkF; rw [dOf_map]; simp only [Option.bind_some]; rw [if_pos h]
theorem allL_map {α : Type} {h : α → W} {p : α → Bool} : ∀ {xs : List α}, (∀ a ∈ xs, ∃ ρ1, g (h a) ρ S = some (ρ1, S) ∧ e ρ1 S = some (.d (.bool (p a)), S)) → allL g e (xs.map h) ρ S = some (xs.all p, S)
  | [], _ => rfl
  | a :: xs, hx => by
    obtain ⟨ρ1, q1, q2⟩ := hx a List.mem_cons_self
    have ih := allL_map (xs := xs) fun x hm => hx x (List.mem_cons_of_mem _ hm)
    show (g (h a) ρ S).bind _ = _
    rw [q1]
    simp only [Option.bind_some, v_b q2]
    cases hp : p a with
    | true => simp only [if_true, ih, List.all_cons, hp, Bool.true_and]
    | false => simp only [Bool.false_eq_true, if_false, List.all_cons, hp, Bool.false_and]
/-- a comprehension over the images of xs whose element leaves the state alone -/
theorem lcM_map {α : Type} {h u : α → W} {xs : List α} (hx : ∀ a ∈ xs, ∃ ρ1, g (h a) ρ S = some (ρ1, S) ∧ e ρ1 S = some (u a, S)) : lcM (.vals (xs.map h)) g tYesM e (Itm.len (.vals (xs.map h)) S) 0 ρ S = some (xs.map u, S) := by
  have := lcM_vals (g := g) (e := e) (ws := xs.map h) (us := xs.map u) (ρ := ρ) (S := S) (by simp) (fun i w v e1 e2 => by
    rw [List.getElem?_map] at e1 e2
    obtain ⟨a, q1, rfl⟩ := Option.map_eq_some_iff.mp e1
    rw [q1] at e2
    cases e2
    exact hx a (List.mem_of_getElem? q1)) (xs.map h).length 0 (by simp) (Nat.zero_le _)
  rw [List.drop_zero] at this
  exact this
theorem lcM_mapIf {α : Type} {h : α → W} {p : α → Bool} {xs : List α} (hx : ∀ a ∈ xs, ∃ ρ1, g (h a) ρ S = some (ρ1, S) ∧ t ρ1 S = some (p a, S) ∧ e ρ1 S = some (h a, S)) : lcM (.vals (xs.map h)) g t e (Itm.len (.vals (xs.map h)) S) 0 ρ S = some ((xs.filter p).map h, S) := by
  have gen : ∀ (ys : List α) (i : Nat), i + ys.length = xs.length → xs.drop i = ys → lcM (.vals (xs.map h)) g t e ys.length i ρ S = some ((ys.filter p).map h, S) := by
    intro ys
    induction ys with
    | nil =>
      intro i hi hd
      unfold lcM
      have : (Itm.vals (xs.map h)).at_ S i = some none := by show some (xs.map h)[i]? = _; simp at hi ⊢; omega
      simp only [this]
      rfl
    | cons y ys ih =>
      intro i hi hd
      have hlt : i < xs.length := by simp at hi; omega
      have hy : xs[i] = y := by
        have := List.drop_eq_getElem_cons hlt
        rw [hd] at this
        exact (List.cons.inj this).1.symm
      have hd' : xs.drop (i + 1) = ys := by
        have := List.drop_eq_getElem_cons hlt
        rw [hd] at this
        exact (List.cons.inj this).2.symm
      obtain ⟨ρ1, q1, q2, q3⟩ := hx y (by rw [← hy]; exact List.getElem_mem hlt)
      have ih' := ih (i + 1) (by simp at hi ⊢; omega) hd'
      have ha : (Itm.vals (xs.map h)).at_ S i = some (some (h y)) := by show some (xs.map h)[i]? = _; rw [List.getElem?_map, List.getElem?_eq_getElem hlt, hy]; rfl
      show lcM _ _ _ _ (ys.length + 1) _ _ _ = _
      unfold lcM
      simp only [ha, q1, q2, q3, Option.bind_some]
      cases hp : p y with
      | true => simp only [if_true, ih', Option.bind_some, List.filter_cons, hp, List.map_cons]
      | false => simp only [Bool.false_eq_true, if_false, ih', List.filter_cons, hp]
  have := gen xs 0 (by simp) (by simp)
  show lcM _ _ _ _ (xs.map h).length _ _ _ = _
  rw [List.length_map]
  exact this
theorem v_callK {q : List W → List W → Mem → Option (W × Mem)} {vs : List W} {o : Option (W × Mem)} (h1 : m ρ S = some (ws, S1)) (h2 : n ρ S1 = some (vs, S2)) (h3 : q ws vs S2 = o) : eCallK q m n ρ S = o := by unfold eCallK; rw [h1]; simp only [Option.bind_some, h2, h3]
theorem mkF_1 {d : PyData} : mkF [.d d] S = some (.d (.list [d]), S) := rfl
theorem mkT_1 {d : PyData} : mkT [.d d] S = some (.d (.tuple [d]), S) := rfl
theorem lcM_one {u : W} {h : W} (hx : ∃ ρ1, g h ρ S = some (ρ1, S) ∧ e ρ1 S = some (u, S)) : lcM (.vals [h]) g tYesM e (Itm.len (.vals [h]) S) 0 ρ S = some ([u], S) := lcM_map (xs := [()]) (h := fun _ => h) (u := fun _ => u) fun _ _ => hx
end
end Pd
namespace k05
open PySem PySem.Spec PyProof.Rows L2 GxR Gx Pd
noncomputable def b_kinds_inside (C_Graph C_Lowering : Addr)  : MS :=
    (sSeq (sIf (eB (eOp (oIn false) (eOp oIx (eVar 0) (eC (.int (0)))) (eC (.tuple [.str "int", .str "bool", .str "unit", .str "record"])))) (sRet (eTup aNil)) sNx)
    (sSeq (sIf (eB (eOp (oEq false) (eOp oIx (eVar 0) (eC (.int (0)))) (eC (.str "tuple")))) (sRet (eOp oIx (eVar 0) (eC (.int (1))))) sNx)
    (sRet (eTup (aCons (eOp oIx (eVar 0) (eC (.int (1)))) aNil)))))
noncomputable def m_kinds_inside (C_Graph C_Lowering : Addr) : MF := dfn 1 0 false (b_kinds_inside C_Graph C_Lowering)
theorem ar_kinds_inside {C_Graph C_Lowering : Addr} : Ar 1 (m_kinds_inside C_Graph C_Lowering) := ar_dfn
noncomputable def b_is_copy (C_Graph C_Lowering : Addr) (r_is_copy : MF) : MS :=
    (sSeq (sIf (eB (eOp (oIn false) (eOp oIx (eVar 0) (eC (.int (0)))) (eTup (aCons (eC (.str "maybe")) (aCons (eC (.str "tuple")) aNil))))) (sRet (eAll (iTupM (eCall (m_kinds_inside C_Graph C_Lowering) (aCons (eVar 0) aNil))) [1] (gN 1) (eCall r_is_copy (aCons (eVar 1) aNil)))) sNx)
    (sRet (eOp (oIn false) (eOp oIx (eVar 0) (eC (.int (0)))) (eTup (aCons (eC (.str "int")) (aCons (eC (.str "bool")) (aCons (eC (.str "unit")) (aCons (eC (.str "shared")) aNil))))))))
noncomputable def m_is_copy (C_Graph C_Lowering : Addr) : Nat → MF
  | 0 => mNone
  | n + 1 => dfn 1 1 false (b_is_copy C_Graph C_Lowering (m_is_copy C_Graph C_Lowering n))
theorem ar_is_copy {C_Graph C_Lowering : Addr} : ∀ n, Ar 1 (m_is_copy C_Graph C_Lowering n)
  | 0 => ar_none
  | _ + 1 => by unfold m_is_copy; exact ar_dfn
noncomputable def b_is_item (C_Graph C_Lowering : Addr)  : MS :=
    (sRet (eAndV (eIs false (eVar 1)) (eAndV (eNotV (eIs true (eVar 1))) (eChain oLe oLt (eC (.int (0))) (eVar 1) (eCall bLen (aCons (eVar 0) aNil))))))
noncomputable def m_is_item (C_Graph C_Lowering : Addr) : MF := dfn 2 0 false (b_is_item C_Graph C_Lowering)
theorem ar_is_item {C_Graph C_Lowering : Addr} : Ar 2 (m_is_item C_Graph C_Lowering) := ar_dfn
noncomputable def b_fields_of (C_Graph C_Lowering : Addr)  : MS :=
    (sSeq (sFor (iTupM (eVar 0)) (gTup' (gsCons (gN 2) (gsCons (gN 3) gsNil))) (sIf (eB (eOp (oEq false) (eVar 2) (eVar 1))) (sRet (eVar 3)) sNx))
    (sRet (eTup aNil)))
noncomputable def m_fields_of (C_Graph C_Lowering : Addr) : MF := dfn 2 2 false (b_fields_of C_Graph C_Lowering)
theorem ar_fields_of {C_Graph C_Lowering : Addr} : Ar 2 (m_fields_of C_Graph C_Lowering) := ar_dfn
noncomputable def b_kind_after (C_Graph C_Lowering : Addr)  : MS :=
    (sSeq (sIf (eAnd (eB (eOp (oEq false) (eOp oIx (eVar 1) (eC (.int (0)))) (eC (.str "tuple")))) (eB (eCall (m_is_item C_Graph C_Lowering) (aCons (eOp oIx (eVar 1) (eC (.int (1)))) (aCons (eVar 2) aNil))))) (sRet (eOp oIx (eOp oIx (eVar 1) (eC (.int (1)))) (eVar 2))) sNx)
    (sSeq (sIf (eB (eOp (oEq false) (eOp oIx (eVar 1) (eC (.int (0)))) (eC (.str "record")))) (sFor (iTupM (eCall (m_fields_of C_Graph C_Lowering) (aCons (eVar 0) (aCons (eOp oIx (eVar 1) (eC (.int (1)))) aNil)))) (gTup' (gsCons (gN 3) (gsCons (gN 4) gsNil))) (sIf (eB (eOp (oEq false) (eVar 3) (eVar 2))) (sRet (eVar 4)) sNx)) sNx)
    (sSeq (sIf (eAnd (eB (eOp (oEq false) (eOp oIx (eVar 1) (eC (.int (0)))) (eC (.str "maybe")))) (eB (eOp (oEq false) (eVar 2) (eC (.str "?"))))) (sRet (eOp oIx (eVar 1) (eC (.int (1))))) sNx)
    (sSeq (sIf (eAnd (eOr (eB (eOp (oEq false) (eOp oIx (eVar 1) (eC (.int (0)))) (eC (.str "box")))) (eB (eOp (oIn false) (eOp oIx (eVar 1) (eC (.int (0)))) (eC (.tuple [.str "shared", .str "exclusive"]))))) (eB (eOp (oEq false) (eVar 2) (eC (.str "^"))))) (sRet (eOp oIx (eVar 1) (eC (.int (1))))) sNx)
    sNone))))
noncomputable def m_kind_after (C_Graph C_Lowering : Addr) : MF := dfn 3 2 false (b_kind_after C_Graph C_Lowering)
theorem ar_kind_after {C_Graph C_Lowering : Addr} : Ar 3 (m_kind_after C_Graph C_Lowering) := ar_dfn
noncomputable def b_kinds_along (C_Graph C_Lowering : Addr)  : MS :=
    (sSeq (sAsg (eVar 0) (gTup' (gsCons (gN 3) (gsCons (gN 4) gsNil))))
    (sSeq (sIf (eB (eDIn true (eVar 3) (eVar 2))) sNone sNx)
    (sSeq (sAsg (eLstL (aCons (eDGet (eVar 2) (eVar 3)) aNil)) (gN 5))
    (sSeq (sFor (iTupM (eVar 4)) (gN 6) (sDrop (eBm mAppend (eVar 5) (aCons (eCall (m_kind_after C_Graph C_Lowering) (aCons (eVar 1) (aCons (eOp oIx (eVar 5) (eUn oNeg (eC (.int (1))))) (aCons (eVar 6) aNil)))) aNil))))
    (sRet (eVar 5))))))
noncomputable def m_kinds_along (C_Graph C_Lowering : Addr) : MF := dfn 3 4 true (b_kinds_along C_Graph C_Lowering)
theorem ar_kinds_along {C_Graph C_Lowering : Addr} : Ar 3 (m_kinds_along C_Graph C_Lowering) := ar_dfn
noncomputable def b_kind_at (C_Graph C_Lowering : Addr)  : MS :=
    (sRet (eOp oIx (eCall (m_kinds_along C_Graph C_Lowering) (aCons (eVar 0) (aCons (eVar 1) (aCons (eVar 2) aNil)))) (eUn oNeg (eC (.int (1))))))
noncomputable def m_kind_at (C_Graph C_Lowering : Addr) : MF := dfn 3 0 false (b_kind_at C_Graph C_Lowering)
theorem ar_kind_at {C_Graph C_Lowering : Addr} : Ar 3 (m_kind_at C_Graph C_Lowering) := ar_dfn
noncomputable def b_function_named (C_Graph C_Lowering : Addr)  : MS :=
    (sSeq (sFor (iTupM (eOp oIx (eVar 0) (eC (.int (1))))) (gN 2) (sIf (eB (eOp (oEq false) (eOp oIx (eVar 2) (eC (.int (0)))) (eVar 1))) (sRet (eVar 2)) sNx))
    (sRet (eC .none)))
noncomputable def m_function_named (C_Graph C_Lowering : Addr) : MF := dfn 2 1 false (b_function_named C_Graph C_Lowering)
theorem ar_function_named {C_Graph C_Lowering : Addr} : Ar 2 (m_function_named C_Graph C_Lowering) := ar_dfn
noncomputable def b_parts_of (C_Graph C_Lowering : Addr)  : MS :=
    (sSeq (sAsg (eOp oIx (eVar 0) (eC (.int (0)))) (gN 1))
    (sSeq (sIf (eB (eOp (oIn false) (eVar 1) (eTup (aCons (eC (.str "some")) (aCons (eC (.str "box")) (aCons (eC (.str "unbox")) (aCons (eC (.str "not")) (aCons (eC (.str "join")) aNil)))))))) (sRet (eTup (aCons (eOp oIx (eVar 0) (eC (.int (1)))) aNil))) sNx)
    (sSeq (sIf (eB (eOp (oEq false) (eVar 1) (eC (.str "tuple")))) (sRet (eOp oIx (eVar 0) (eC (.int (1))))) sNx)
    (sSeq (sIf (eB (eOp (oIn false) (eVar 1) (eTup (aCons (eC (.str "record")) (aCons (eC (.str "call")) (aCons (eC (.str "spawn")) aNil)))))) (sRet (eOp oIx (eVar 0) (eC (.int (2))))) sNx)
    (sSeq (sIf (eB (eOp (oEq false) (eVar 1) (eC (.str "swap")))) (sRet (eTup (aCons (eOp oIx (eVar 0) (eC (.int (2)))) aNil))) sNx)
    (sSeq (sIf (eB (eOp (oEq false) (eVar 1) (eC (.str "op")))) (sRet (eTup (aCons (eOp oIx (eVar 0) (eC (.int (2)))) (aCons (eOp oIx (eVar 0) (eC (.int (3)))) aNil)))) sNx)
    (sRet (eTup aNil))))))))
noncomputable def m_parts_of (C_Graph C_Lowering : Addr) : MF := dfn 1 1 false (b_parts_of C_Graph C_Lowering)
theorem ar_parts_of {C_Graph C_Lowering : Addr} : Ar 1 (m_parts_of C_Graph C_Lowering) := ar_dfn
noncomputable def b_place_in (C_Graph C_Lowering : Addr)  : MS :=
    (sSeq (sIf (eB (eOp (oEq false) (eOp oIx (eVar 0) (eC (.int (0)))) (eC (.str "borrow")))) (sRet (eOp oIx (eVar 0) (eC (.int (2))))) sNx)
    (sRet (eOp oIx (eVar 0) (eC (.int (1))))))
noncomputable def m_place_in (C_Graph C_Lowering : Addr) : MF := dfn 1 0 false (b_place_in C_Graph C_Lowering)
theorem ar_place_in {C_Graph C_Lowering : Addr} : Ar 1 (m_place_in C_Graph C_Lowering) := ar_dfn
noncomputable def b_kind_fetched (C_Graph C_Lowering : Addr)  : MS :=
    (sSeq (sAsg (eOp oIx (eVar 2) (eC (.int (0)))) (gN 3))
    (sSeq (sIf (eB (eOp (oEq false) (eVar 3) (eC (.str "record")))) (sRet (eTup (aCons (eC (.str "record")) (aCons (eOp oIx (eVar 2) (eC (.int (1)))) aNil)))) sNx)
    (sSeq (sIf (eB (eOp (oEq false) (eVar 3) (eC (.str "call")))) (sRet (eOp oIx (eCall (m_function_named C_Graph C_Lowering) (aCons (eVar 0) (aCons (eOp oIx (eVar 2) (eC (.int (1)))) aNil))) (eC (.int (2))))) sNx)
    (sSeq (sIf (eB (eOp (oEq false) (eVar 3) (eC (.str "spawn")))) (sRet (eTup (aCons (eC (.str "task")) (aCons (eOp oIx (eCall (m_function_named C_Graph C_Lowering) (aCons (eVar 0) (aCons (eOp oIx (eVar 2) (eC (.int (1)))) aNil))) (eC (.int (2)))) aNil)))) sNx)
    (sSeq (sAsg (eCallKw (m_kind_at C_Graph C_Lowering) g12 (aCons (eCall (m_place_in C_Graph C_Lowering) (aCons (eVar 2) aNil)) aNil) (aCons (eOp oIx (eVar 0) (eC (.int (0)))) (aCons (eVar 1) aNil))) (gN 4))
    (sSeq (sIf (eB (eOp (oEq false) (eVar 3) (eC (.str "borrow")))) (sRet (eTup (aCons (eOp oIx (eVar 2) (eC (.int (1)))) (aCons (eVar 4) aNil)))) sNx)
    (sRet (eVar 4))))))))
noncomputable def m_kind_fetched (C_Graph C_Lowering : Addr) : MF := dfn 3 2 false (b_kind_fetched C_Graph C_Lowering)
theorem ar_kind_fetched {C_Graph C_Lowering : Addr} : Ar 3 (m_kind_fetched C_Graph C_Lowering) := ar_dfn
noncomputable def b_kind_made (C_Graph C_Lowering : Addr)  : MS :=
    (sSeq (sAsg (eOp oIx (eVar 2) (eC (.int (0)))) (gN 4))
    (sSeq (sIf (eB (eOp (oIn false) (eVar 4) (eTup (aCons (eC (.str "int")) (aCons (eC (.str "bool")) (aCons (eC (.str "unit")) aNil)))))) (sRet (eTup (aCons (eVar 4) aNil))) sNx)
    (sSeq (sIf (eB (eOp (oIn false) (eVar 4) (eTup (aCons (eC (.str "is")) (aCons (eC (.str "not")) aNil))))) (sRet (eTup (aCons (eC (.str "bool")) aNil))) sNx)
    (sSeq (sIf (eB (eOp (oEq false) (eVar 4) (eC (.str "op")))) sNone sNx)
    (sSeq (sIf (eB (eOp (oEq false) (eVar 4) (eC (.str "none")))) (sRet (eTup (aCons (eC (.str "maybe")) (aCons (eOp oIx (eVar 2) (eC (.int (1)))) aNil)))) sNx)
    (sSeq (sIf (eB (eOp (oEq false) (eVar 4) (eC (.str "some")))) (sRet (eTup (aCons (eC (.str "maybe")) (aCons (eOp oIx (eVar 3) (eC (.int (0)))) aNil)))) sNx)
    (sSeq (sIf (eB (eOp (oEq false) (eVar 4) (eC (.str "box")))) (sRet (eTup (aCons (eC (.str "box")) (aCons (eOp oIx (eVar 3) (eC (.int (0)))) aNil)))) sNx)
    (sSeq (sIf (eB (eOp (oEq false) (eVar 4) (eC (.str "tuple")))) (sRet (eTup (aCons (eC (.str "tuple")) (aCons (eCall bTuple (aCons (eVar 3) aNil)) aNil)))) sNx)
    (sSeq (sIf (eB (eOp (oIn false) (eVar 4) (eTup (aCons (eC (.str "unbox")) (aCons (eC (.str "join")) aNil))))) (sRet (eOp oIx (eOp oIx (eVar 3) (eC (.int (0)))) (eC (.int (1))))) sNx)
    (sRet (eCall (m_kind_fetched C_Graph C_Lowering) (aCons (eVar 0) (aCons (eVar 1) (aCons (eVar 2) aNil))))))))))))))
noncomputable def m_kind_made (C_Graph C_Lowering : Addr) : MF := dfn 4 1 false (b_kind_made C_Graph C_Lowering)
theorem ar_kind_made {C_Graph C_Lowering : Addr} : Ar 4 (m_kind_made C_Graph C_Lowering) := ar_dfn
noncomputable def b_Graph_init (C_Graph C_Lowering : Addr)  : MS :=
    (sSeq (sAsg (eVar 1) (gTup' (gsCons (gN 2) (gsCons (gN 3) (gsCons (gN 4) (gsCons (gN 5) (gsCons (gN 6) gsNil)))))))
    (sSeq (sFldW C_Graph (eVar 0) "name" (eVar 2))
    (sSeq (sFldW C_Graph (eVar 0) "parameters" (eCall bTuple (aCons (eLc (iTupM (eVar 3)) [7, 6] (gTup' (gsCons (gN 7) (gsCons (gN 6) gsNil))) tYesM (eVar 7) mkF) aNil)))
    (sSeq (sFldW C_Graph (eVar 0) "sources" (eVar 5))
    (sSeq (sFldW C_Graph (eVar 0) "result" (eVar 4))
    (sSeq (sFldW C_Graph (eVar 0) "kinds" (eDc (iTupM (eVar 3)) [7, 8] (gTup' (gsCons (gN 7) (gsCons (gN 8) gsNil))) tYesM (eVar 7) (eVar 8)))
    (sSeq (sFldW C_Graph (eVar 0) "points" (eLstL aNil))
    (sFldW C_Graph (eVar 0) "successors" (eLstL aNil)))))))))
noncomputable def m_Graph_init (C_Graph C_Lowering : Addr) : MF := dfn 2 7 false (b_Graph_init C_Graph C_Lowering)
theorem ar_Graph_init {C_Graph C_Lowering : Addr} : Ar 2 (m_Graph_init C_Graph C_Lowering) := ar_dfn
noncomputable def b_Lowering_init (C_Graph C_Lowering : Addr)  : MS :=
    (sSeq (sFldW C_Lowering (eVar 0) "program" (eVar 1))
    (sSeq (sFldW C_Lowering (eVar 0) "graph" (eMake C_Graph (m_Graph_init C_Graph C_Lowering) (aCons (eVar 2) aNil)))
    (sSeq (sFldW C_Lowering (eVar 0) "scope" (eCall bListL (aCons (eFld C_Graph (eFld C_Lowering (eVar 0) "graph") "parameters") aNil)))
    (sFldW C_Lowering (eVar 0) "temporaries" (eC (.int (0)))))))
noncomputable def m_Lowering_init (C_Graph C_Lowering : Addr) : MF := dfn 3 0 false (b_Lowering_init C_Graph C_Lowering)
theorem ar_Lowering_init {C_Graph C_Lowering : Addr} : Ar 3 (m_Lowering_init C_Graph C_Lowering) := ar_dfn
noncomputable def b_Lowering_add_end (C_Graph C_Lowering : Addr)  : MS :=
    (sSeq (sDrop (eBm mAppend (eFld C_Graph (eFld C_Lowering (eVar 0) "graph") "points") (aCons (eVar 1) aNil)))
    (sDrop (eBm mAppend (eFld C_Graph (eFld C_Lowering (eVar 0) "graph") "successors") (aCons (eTup aNil) aNil))))
noncomputable def m_Lowering_add_end (C_Graph C_Lowering : Addr) : MF := dfn 2 0 false (b_Lowering_add_end C_Graph C_Lowering)
theorem ar_Lowering_add_end {C_Graph C_Lowering : Addr} : Ar 2 (m_Lowering_add_end C_Graph C_Lowering) := ar_dfn
noncomputable def b_Lowering_add_point (C_Graph C_Lowering : Addr)  : MS :=
    (sSeq (sDrop (eBm mAppend (eFld C_Graph (eFld C_Lowering (eVar 0) "graph") "points") (aCons (eVar 1) aNil)))
    (sSeq (sDrop (eBm mAppend (eFld C_Graph (eFld C_Lowering (eVar 0) "graph") "successors") (aCons (eTup (aCons (eCall bLen (aCons (eFld C_Graph (eFld C_Lowering (eVar 0) "graph") "points") aNil)) aNil)) aNil)))
    (sRet (eOp oSub (eCall bLen (aCons (eFld C_Graph (eFld C_Lowering (eVar 0) "graph") "points") aNil)) (eC (.int (1)))))))
noncomputable def m_Lowering_add_point (C_Graph C_Lowering : Addr) : MF := dfn 2 0 false (b_Lowering_add_point C_Graph C_Lowering)
theorem ar_Lowering_add_point {C_Graph C_Lowering : Addr} : Ar 2 (m_Lowering_add_point C_Graph C_Lowering) := ar_dfn
noncomputable def b_Lowering_add_drops (C_Graph C_Lowering : Addr)  : MS :=
    (sFor (iRevM (eVar 1)) (gN 2) (sDrop (eMeth C_Lowering "add_point" (m_Lowering_add_point C_Graph C_Lowering) (eVar 0) (aCons (eTup (aCons (eC (.str "drop")) (aCons (eVar 2) aNil))) aNil))))
noncomputable def m_Lowering_add_drops (C_Graph C_Lowering : Addr) : MF := dfn 2 1 false (b_Lowering_add_drops C_Graph C_Lowering)
theorem ar_Lowering_add_drops {C_Graph C_Lowering : Addr} : Ar 2 (m_Lowering_add_drops C_Graph C_Lowering) := ar_dfn
noncomputable def b_Lowering_add_leave (C_Graph C_Lowering : Addr)  : MS :=
    (sSeq (sDrop (eMeth C_Lowering "add_drops" (m_Lowering_add_drops C_Graph C_Lowering) (eVar 0) (aCons (eFld C_Lowering (eVar 0) "scope") aNil)))
    (sDrop (eMeth C_Lowering "add_end" (m_Lowering_add_end C_Graph C_Lowering) (eVar 0) (aCons (eTup (aCons (eC (.str "leave")) (aCons (eVar 1) aNil))) aNil))))
noncomputable def m_Lowering_add_leave (C_Graph C_Lowering : Addr) : MF := dfn 2 0 false (b_Lowering_add_leave C_Graph C_Lowering)
theorem ar_Lowering_add_leave {C_Graph C_Lowering : Addr} : Ar 2 (m_Lowering_add_leave C_Graph C_Lowering) := ar_dfn
noncomputable def b_instruction_for (C_Graph C_Lowering : Addr)  : MS :=
    (sSeq (sAsg (eOp oIx (eVar 0) (eC (.int (0)))) (gN 4))
    (sSeq (sIf (eB (eOp (oIn false) (eVar 4) (eTup (aCons (eC (.str "int")) (aCons (eC (.str "bool")) (aCons (eC (.str "unit")) (aCons (eC (.str "none")) aNil))))))) (sRet (eTup (aCons (eC (.str "set")) (aCons (eVar 2) (aCons (eVar 0) aNil))))) sNx)
    (sSeq (sIf (eB (eOp (oIn false) (eVar 4) (eTup (aCons (eC (.str "some")) (aCons (eC (.str "box")) (aCons (eC (.str "tuple")) aNil)))))) (sRet (eTup (aCons (eC (.str "make")) (aCons (eVar 2) (aCons (eVar 4) (aCons (eVar 3) aNil)))))) sNx)
    (sSeq (sIf (eB (eOp (oEq false) (eVar 4) (eC (.str "record")))) (sRet (eTup (aCons (eC (.str "make")) (aCons (eVar 2) (aCons (eOp oIx (eVar 0) (eC (.int (1)))) (aCons (eVar 3) aNil)))))) sNx)
    (sSeq (sIf (eB (eOp (oEq false) (eVar 4) (eC (.str "use")))) (sRet (eTup (aCons (eIf (eB (eCall (m_is_copy C_Graph C_Lowering 3) (aCons (eVar 1) aNil))) (eC (.str "copy")) (eC (.str "move"))) (aCons (eVar 2) (aCons (eCall (m_place_in C_Graph C_Lowering) (aCons (eVar 0) aNil)) aNil))))) sNx)
    (sSeq (sIf (eB (eOp (oEq false) (eVar 4) (eC (.str "borrow")))) (sRet (eTup (aCons (eC (.str "borrow")) (aCons (eVar 2) (aCons (eOp oIx (eVar 0) (eC (.int (1)))) (aCons (eCall (m_place_in C_Graph C_Lowering) (aCons (eVar 0) aNil)) aNil)))))) sNx)
    (sSeq (sIf (eB (eOp (oEq false) (eVar 4) (eC (.str "is")))) (sRet (eTup (aCons (eC (.str "is")) (aCons (eVar 2) (aCons (eCall (m_place_in C_Graph C_Lowering) (aCons (eVar 0) aNil)) aNil))))) sNx)
    (sSeq (sIf (eB (eOp (oEq false) (eVar 4) (eC (.str "swap")))) (sRet (eTup (aCons (eC (.str "swap")) (aCons (eVar 2) (aCons (eCall (m_place_in C_Graph C_Lowering) (aCons (eVar 0) aNil)) (aCons (eOp oIx (eVar 3) (eC (.int (0)))) aNil)))))) sNx)
    (sSeq (sIf (eB (eOp (oEq false) (eVar 4) (eC (.str "op")))) (sRet (eTup (aCons (eC (.str "op")) (aCons (eVar 2) (aCons (eOp oIx (eVar 0) (eC (.int (1)))) (aCons (eOp oIx (eVar 3) (eC (.int (0)))) (aCons (eOp oIx (eVar 3) (eC (.int (1)))) aNil))))))) sNx)
    (sSeq (sIf (eB (eOp (oIn false) (eVar 4) (eTup (aCons (eC (.str "call")) (aCons (eC (.str "spawn")) aNil))))) (sRet (eTup (aCons (eVar 4) (aCons (eVar 2) (aCons (eOp oIx (eVar 0) (eC (.int (1)))) (aCons (eVar 3) aNil)))))) sNx)
    (sRet (eTup (aCons (eVar 4) (aCons (eVar 2) (aCons (eOp oIx (eVar 3) (eC (.int (0)))) aNil)))))))))))))))
noncomputable def m_instruction_for (C_Graph C_Lowering : Addr) : MF := dfn 4 1 false (b_instruction_for C_Graph C_Lowering)
theorem ar_instruction_for {C_Graph C_Lowering : Addr} : Ar 4 (m_instruction_for C_Graph C_Lowering) := ar_dfn
noncomputable def b_Lowering_lower_expression (C_Graph C_Lowering : Addr) (r_Lowering_lower_expression : MF) : MS :=
    (sSeq (sAsg (eCall bTuple (aCons (eLc (iTupM (eCall (m_parts_of C_Graph C_Lowering) (aCons (eVar 1) aNil))) [6] (gN 6) tYesM (eMeth C_Lowering "lower_expression" r_Lowering_lower_expression (eVar 0) (aCons (eVar 6) aNil)) mkF) aNil)) (gN 2))
    (sSeq (sAsg (eFld C_Graph (eFld C_Lowering (eVar 0) "graph") "kinds") (gN 3))
    (sSeq (sAsg (eCall (m_kind_made C_Graph C_Lowering) (aCons (eFld C_Lowering (eVar 0) "program") (aCons (eVar 3) (aCons (eVar 1) (aCons (eLc (iTupM (eVar 2)) [6] (gN 6) tYesM (eDGet (eVar 3) (eVar 6)) mkF) aNil))))) (gN 4))
    (sSeq (sAsg (eOp (oPlus false) (eC (.str "#")) (eCall bStr (aCons (eFld C_Lowering (eVar 0) "temporaries") aNil))) (gN 5))
    (sSeq (sFldAugW C_Lowering (eVar 0) "temporaries" (eC (.int (1))))
    (sSeq (sDPutW (eVar 3) (eVar 5) (eVar 4))
    (sSeq (sDrop (eMeth C_Lowering "add_point" (m_Lowering_add_point C_Graph C_Lowering) (eVar 0) (aCons (eCall (m_instruction_for C_Graph C_Lowering) (aCons (eVar 1) (aCons (eVar 4) (aCons (eVar 5) (aCons (eVar 2) aNil))))) aNil)))
    (sRet (eVar 5)))))))))
noncomputable def m_Lowering_lower_expression (C_Graph C_Lowering : Addr) : Nat → MF
  | 0 => mNone
  | n + 1 => dfn 2 5 false (b_Lowering_lower_expression C_Graph C_Lowering (m_Lowering_lower_expression C_Graph C_Lowering n))
theorem ar_Lowering_lower_expression {C_Graph C_Lowering : Addr} : ∀ n, Ar 2 (m_Lowering_lower_expression C_Graph C_Lowering n)
  | 0 => ar_none
  | _ + 1 => by unfold m_Lowering_lower_expression; exact ar_dfn
noncomputable def b_Lowering_lower_let (C_Graph C_Lowering : Addr)  : MS :=
    (sSeq (sAsg (eVar 1) (gTup' (gsCons (gN 2) (gsCons (gN 3) (gsCons (gN 4) gsNil)))))
    (sSeq (sAsg (eMeth C_Lowering "lower_expression" (m_Lowering_lower_expression C_Graph C_Lowering 3) (eVar 0) (aCons (eVar 4) aNil)) (gN 5))
    (sSeq (sDPutW (eFld C_Graph (eFld C_Lowering (eVar 0) "graph") "kinds") (eVar 3) (eDGet (eFld C_Graph (eFld C_Lowering (eVar 0) "graph") "kinds") (eVar 5)))
    (sSeq (sDrop (eBm mAppend (eFld C_Lowering (eVar 0) "scope") (aCons (eVar 3) aNil)))
    (sDrop (eMeth C_Lowering "add_point" (m_Lowering_add_point C_Graph C_Lowering) (eVar 0) (aCons (eTup (aCons (eC (.str "let")) (aCons (eVar 3) (aCons (eVar 5) aNil)))) aNil)))))))
noncomputable def m_Lowering_lower_let (C_Graph C_Lowering : Addr) : MF := dfn 2 4 false (b_Lowering_lower_let C_Graph C_Lowering)
theorem ar_Lowering_lower_let {C_Graph C_Lowering : Addr} : Ar 2 (m_Lowering_lower_let C_Graph C_Lowering) := ar_dfn
noncomputable def b_Lowering_lower_if (C_Graph C_Lowering : Addr)  : MS :=
    sNone
noncomputable def m_Lowering_lower_if (C_Graph C_Lowering : Addr) : MF := dfn 2 6 false (b_Lowering_lower_if C_Graph C_Lowering)
theorem ar_Lowering_lower_if {C_Graph C_Lowering : Addr} : Ar 2 (m_Lowering_lower_if C_Graph C_Lowering) := ar_dfn
noncomputable def b_Lowering_lower_while (C_Graph C_Lowering : Addr)  : MS :=
    sNone
noncomputable def m_Lowering_lower_while (C_Graph C_Lowering : Addr) : MF := dfn 2 6 false (b_Lowering_lower_while C_Graph C_Lowering)
theorem ar_Lowering_lower_while {C_Graph C_Lowering : Addr} : Ar 2 (m_Lowering_lower_while C_Graph C_Lowering) := ar_dfn
noncomputable def b_Lowering_lower_statement (C_Graph C_Lowering : Addr)  : MS :=
    (sSeq (sAsg (eOp oIx (eVar 1) (eC (.int (0)))) (gN 2))
    (sIf (eB (eOp (oEq false) (eVar 2) (eC (.str "if")))) (sDrop (eMeth C_Lowering "lower_if" (m_Lowering_lower_if C_Graph C_Lowering) (eVar 0) (aCons (eVar 1) aNil))) (sIf (eB (eOp (oEq false) (eVar 2) (eC (.str "while")))) (sDrop (eMeth C_Lowering "lower_while" (m_Lowering_lower_while C_Graph C_Lowering) (eVar 0) (aCons (eVar 1) aNil))) (sIf (eB (eOp (oEq false) (eVar 2) (eC (.str "let")))) (sDrop (eMeth C_Lowering "lower_let" (m_Lowering_lower_let C_Graph C_Lowering) (eVar 0) (aCons (eVar 1) aNil))) (sIf (eB (eOp (oEq false) (eVar 2) (eC (.str "store")))) (sSeq (sAsg (eVar 1) (gTup' (gsCons (gN 3) (gsCons (gN 4) (gsCons (gN 5) gsNil)))))
    (sDrop (eMeth C_Lowering "add_point" (m_Lowering_add_point C_Graph C_Lowering) (eVar 0) (aCons (eTup (aCons (eC (.str "store")) (aCons (eVar 4) (aCons (eMeth C_Lowering "lower_expression" (m_Lowering_lower_expression C_Graph C_Lowering 3) (eVar 0) (aCons (eVar 5) aNil)) aNil)))) aNil)))) (sIf (eB (eOp (oEq false) (eVar 2) (eC (.str "return")))) (sDrop (eMeth C_Lowering "add_leave" (m_Lowering_add_leave C_Graph C_Lowering) (eVar 0) (aCons (eMeth C_Lowering "lower_expression" (m_Lowering_lower_expression C_Graph C_Lowering 3) (eVar 0) (aCons (eOp oIx (eVar 1) (eC (.int (1)))) aNil)) aNil))) (sIf (eB (eOp (oEq false) (eVar 2) (eC (.str "do")))) (sDrop (eMeth C_Lowering "add_point" (m_Lowering_add_point C_Graph C_Lowering) (eVar 0) (aCons (eTup (aCons (eC (.str "drop")) (aCons (eMeth C_Lowering "lower_expression" (m_Lowering_lower_expression C_Graph C_Lowering 3) (eVar 0) (aCons (eOp oIx (eVar 1) (eC (.int (1)))) aNil)) aNil))) aNil))) (sDrop (eMeth C_Lowering "add_point" (m_Lowering_add_point C_Graph C_Lowering) (eVar 0) (aCons (eTup (aCons (eC (.str "print")) (aCons (eMeth C_Lowering "lower_expression" (m_Lowering_lower_expression C_Graph C_Lowering 3) (eVar 0) (aCons (eOp oIx (eVar 1) (eC (.int (1)))) aNil)) aNil))) aNil))))))))))
noncomputable def m_Lowering_lower_statement (C_Graph C_Lowering : Addr) : MF := dfn 2 4 false (b_Lowering_lower_statement C_Graph C_Lowering)
theorem ar_Lowering_lower_statement {C_Graph C_Lowering : Addr} : Ar 2 (m_Lowering_lower_statement C_Graph C_Lowering) := ar_dfn
noncomputable def b_Lowering_lower_block (C_Graph C_Lowering : Addr)  : MS :=
    (sSeq (sAsg (eCall bLen (aCons (eFld C_Lowering (eVar 0) "scope") aNil)) (gN 2))
    (sSeq (sFor (iTupM (eVar 1)) (gN 3) (sDrop (eMeth C_Lowering "lower_statement" (m_Lowering_lower_statement C_Graph C_Lowering) (eVar 0) (aCons (eVar 3) aNil))))
    (sSeq (sDrop (eMeth C_Lowering "add_drops" (m_Lowering_add_drops C_Graph C_Lowering) (eVar 0) (aCons (eSl false (eFld C_Lowering (eVar 0) "scope") (pSome (eVar 2)) pNone) aNil)))
    (sFldW C_Lowering (eVar 0) "scope" (eSl true (eFld C_Lowering (eVar 0) "scope") pNone (pSome (eVar 2)))))))
noncomputable def m_Lowering_lower_block (C_Graph C_Lowering : Addr) : MF := dfn 2 2 false (b_Lowering_lower_block C_Graph C_Lowering)
theorem ar_Lowering_lower_block {C_Graph C_Lowering : Addr} : Ar 2 (m_Lowering_lower_block C_Graph C_Lowering) := ar_dfn
noncomputable def b_Lowering_lower_function (C_Graph C_Lowering : Addr)  : MS :=
    (sSeq (sDrop (eMeth C_Lowering "lower_block" (m_Lowering_lower_block C_Graph C_Lowering) (eVar 0) (aCons (eVar 1) aNil)))
    (sIf (eB (eOp (oEq false) (eFld C_Graph (eFld C_Lowering (eVar 0) "graph") "result") (eTup (aCons (eC (.str "unit")) aNil)))) (sDrop (eMeth C_Lowering "add_leave" (m_Lowering_add_leave C_Graph C_Lowering) (eVar 0) (aCons (eMeth C_Lowering "lower_expression" (m_Lowering_lower_expression C_Graph C_Lowering 3) (eVar 0) (aCons (eTup (aCons (eC (.str "unit")) aNil)) aNil)) aNil))) (sDrop (eMeth C_Lowering "add_end" (m_Lowering_add_end C_Graph C_Lowering) (eVar 0) (aCons (eTup (aCons (eC (.str "stop")) aNil)) aNil)))))
noncomputable def m_Lowering_lower_function (C_Graph C_Lowering : Addr) : MF := dfn 2 0 false (b_Lowering_lower_function C_Graph C_Lowering)
theorem ar_Lowering_lower_function {C_Graph C_Lowering : Addr} : Ar 2 (m_Lowering_lower_function C_Graph C_Lowering) := ar_dfn
noncomputable def b_build_graph (C_Graph C_Lowering : Addr)  : MS :=
    (sSeq (sAsg (eCall (m_function_named C_Graph C_Lowering) (aCons (eVar 0) (aCons (eVar 1) aNil))) (gN 2))
    (sSeq (sIf (eB (eOp (oIsN false) (eVar 2) (eC .none))) sNone sNx)
    (sSeq (sAsg (eMake C_Lowering (m_Lowering_init C_Graph C_Lowering) (aCons (eVar 0) (aCons (eVar 2) aNil))) (gN 3))
    (sSeq (sDrop (eMeth C_Lowering "lower_function" (m_Lowering_lower_function C_Graph C_Lowering) (eVar 3) (aCons (eOp oIx (eVar 2) (eC (.int (4)))) aNil)))
    (sRet (eFld C_Lowering (eVar 3) "graph"))))))
noncomputable def m_build_graph (C_Graph C_Lowering : Addr) : MF := dfn 2 2 false (b_build_graph C_Graph C_Lowering)
theorem ar_build_graph {C_Graph C_Lowering : Addr} : Ar 2 (m_build_graph C_Graph C_Lowering) := ar_dfn
noncomputable def b_law_tape (C_Graph C_Lowering : Addr)  : MS :=
    (sSeq (sAsg (eLstL aNil) (gN 1))
    (sSeq (sAsg (eC (.int (1))) (gN 2))
    (sSeq (sFor (iLstM (eSl false (eVar 0) pNone (pSome (eC (.int (63)))))) (gN 3) (sSeq (sAsg (eCall bAbs (aCons (eCall bInt (aCons (eVar 3) aNil)) aNil)) (gN 4))
    (sSeq (sAsg (eOp (oPlus false) (eVar 2) (eVar 4)) (gN 2))
    (sFor (iRng1M (aCons (eC (.int (24))) aNil)) (gN 5) (sSeq (sDrop (eBm mAppend (eVar 1) (aCons (eOp oMod (eCall bInt (aCons (eVar 4) aNil)) (eC (.int (60)))) aNil)))
    (sSeq (sAsg (eOp oDiv (eVar 4) (eC (.int (60)))) (gN 4))
    (sIf (eB (eOp (oEq false) (eVar 4) (eC (.int (0))))) sBrk sNx)))))))
    (sRet (eLstL (aCons (eC (.int (0))) (aCons (eVar 1) (aCons (eOp oMod (eCall bInt (aCons (eVar 2) aNil)) (eC (.int (1000003)))) aNil))))))))
noncomputable def m_law_tape (C_Graph C_Lowering : Addr) : MF := dfn 1 5 false (b_law_tape C_Graph C_Lowering)
theorem ar_law_tape {C_Graph C_Lowering : Addr} : Ar 1 (m_law_tape C_Graph C_Lowering) := ar_dfn
noncomputable def b_law_next (C_Graph C_Lowering : Addr)  : MS :=
    (sSeq (sAsg (eOp oIx (eVar 0) (eC (.int (0)))) (gN 2))
    (sSeq (sAsg (eOp (oPlus false) (eVar 2) (eC (.int (1)))) (gIx (eVar 0) (eC (.int (0)))))
    (sSeq (sIf (eB (eOp oLt (eVar 2) (eCall bLen (aCons (eOp oIx (eVar 0) (eC (.int (1)))) aNil)))) (sRet (eOp oMod (eCall bInt (aCons (eOp oIx (eOp oIx (eVar 0) (eC (.int (1)))) (eVar 2)) aNil)) (eVar 1))) sNx)
    (sRet (eOp oMod (eOp oDiv (eOp oMod (eCall bInt (aCons (eOp (oPlus false) (eOp oMul (eOp (oPlus false) (eVar 2) (eC (.int (1)))) (eC (.int (48271)))) (eOp oMul (eOp oIx (eVar 0) (eC (.int (2)))) (eC (.int (69621))))) aNil)) (eC (.int (2147483647)))) (eC (.int (11)))) (eVar 1))))))
noncomputable def m_law_next (C_Graph C_Lowering : Addr) : MF := dfn 2 1 false (b_law_next C_Graph C_Lowering)
theorem ar_law_next {C_Graph C_Lowering : Addr} : Ar 2 (m_law_next C_Graph C_Lowering) := ar_dfn
noncomputable def b_law_made (C_Graph C_Lowering : Addr)  : MS :=
    (sSeq (sAsg (eOp (oPlus false) (eC (.str "#")) (eCall bStr (aCons (eDGet (eVar 0) (eC (.str "made"))) aNil))) (gN 2))
    (sSeq (sDPutW (eVar 0) (eC (.str "made")) (eOp (oPlus false) (eDGet (eVar 0) (eC (.str "made"))) (eC (.int (1)))))
    (sSeq (sAsg (eDGet (eVar 0) (eC (.str "kinds"))) (gN 3))
    (sSeq (sDPutW (eVar 3) (eVar 2) (eVar 1))
    (sRet (eVar 2))))))
noncomputable def m_law_made (C_Graph C_Lowering : Addr) : MF := dfn 2 2 false (b_law_made C_Graph C_Lowering)
theorem ar_law_made {C_Graph C_Lowering : Addr} : Ar 2 (m_law_made C_Graph C_Lowering) := ar_dfn
noncomputable def b_law_started (C_Graph C_Lowering : Addr)  : MS :=
    (sSeq (sAsg (eTup (aCons (eC (.str "int")) (aCons (eCall (m_law_next C_Graph C_Lowering) (aCons (eVar 0) (aCons (eC (.int (60))) aNil))) aNil))) (gN 3))
    (sSeq (sAsg (eDGet (eVar 1) (eC (.str "points"))) (gN 4))
    (sSeq (sAsg (eTup (aCons (eC (.str "x")) (aCons (eTup (aCons (eCall (m_law_next C_Graph C_Lowering) (aCons (eVar 0) (aCons (eC (.int (2))) aNil))) aNil)) aNil))) (gN 5))
    (sSeq (sAsg (eCall (m_law_made C_Graph C_Lowering) (aCons (eVar 1) (aCons (eTup (aCons (eVar 2) (aCons (eTup (aCons (eC (.str "int")) aNil)) aNil))) aNil))) (gN 6))
    (sSeq (sDrop (eBm mAppend (eVar 4) (aCons (eTup (aCons (eC (.str "borrow")) (aCons (eVar 6) (aCons (eVar 2) (aCons (eVar 5) aNil))))) aNil)))
    (sSeq (sAsg (eCall (m_law_made C_Graph C_Lowering) (aCons (eVar 1) (aCons (eTup (aCons (eC (.str "int")) aNil)) aNil))) (gN 7))
    (sSeq (sDrop (eBm mAppend (eVar 4) (aCons (eTup (aCons (eC (.str "set")) (aCons (eVar 7) (aCons (eVar 3) aNil)))) aNil)))
    (sSeq (sAsg (eCall (m_law_made C_Graph C_Lowering) (aCons (eVar 1) (aCons (eTup (aCons (eC (.str "task")) (aCons (eTup (aCons (eC (.str "int")) aNil)) aNil))) aNil))) (gN 8))
    (sSeq (sDrop (eBm mAppend (eVar 4) (aCons (eTup (aCons (eC (.str "spawn")) (aCons (eVar 8) (aCons (eVar 2) (aCons (eTup (aCons (eVar 6) (aCons (eVar 7) aNil))) aNil))))) aNil)))
    (sRet (eTup (aCons (eTup (aCons (eC (.str "spawn")) (aCons (eVar 2) (aCons (eTup (aCons (eTup (aCons (eC (.str "borrow")) (aCons (eVar 2) (aCons (eVar 5) aNil)))) (aCons (eVar 3) aNil))) aNil)))) (aCons (eVar 8) aNil)))))))))))))
noncomputable def m_law_started (C_Graph C_Lowering : Addr) : MF := dfn 3 6 false (b_law_started C_Graph C_Lowering)
theorem ar_law_started {C_Graph C_Lowering : Addr} : Ar 3 (m_law_started C_Graph C_Lowering) := ar_dfn
noncomputable def b_law_statement (C_Graph C_Lowering : Addr)  : MS :=
    (sSeq (sAsg (eDGet (eVar 1) (eC (.str "points"))) (gN 2))
    (sSeq (sAsg (eDGet (eVar 1) (eC (.str "kinds"))) (gN 3))
    (sSeq (sAsg (eCall (m_law_next C_Graph C_Lowering) (aCons (eVar 0) (aCons (eC (.int (4))) aNil))) (gN 4))
    (sSeq (sAsg (eOp oIx (eLstF (aCons (eC (.str "shared")) (aCons (eC (.str "exclusive")) aNil))) (eCall (m_law_next C_Graph C_Lowering) (aCons (eVar 0) (aCons (eC (.int (2))) aNil)))) (gN 5))
    (sSeq (sIf (eOr (eB (eOp (oEq false) (eVar 4) (eC (.int (0))))) (eB (eOp (oEq false) (eCall bLen (aCons (eDGet (eVar 1) (eC (.str "names"))) aNil)) (eC (.int (0)))))) (sSeq (sAsg (eCall (m_law_started C_Graph C_Lowering) (aCons (eVar 0) (aCons (eVar 1) (aCons (eVar 5) aNil)))) (gTup' (gsCons (gN 6) (gsCons (gN 7) gsNil))))
    (sSeq (sAsg (eOp (oPlus false) (eC (.str "t")) (eCall bStr (aCons (eCall bLen (aCons (eVar 2) aNil)) aNil))) (gN 8))
    (sSeq (sDrop (eBm mAppend (eVar 2) (aCons (eTup (aCons (eC (.str "let")) (aCons (eVar 8) (aCons (eVar 7) aNil)))) aNil)))
    (sSeq (sDPutW (eVar 3) (eVar 8) (eTup (aCons (eC (.str "task")) (aCons (eTup (aCons (eC (.str "int")) aNil)) aNil))))
    (sSeq (sDrop (eBm mAppend (eDGet (eVar 1) (eC (.str "names"))) (aCons (eVar 8) aNil)))
    (sRet (eTup (aCons (eC (.str "let")) (aCons (eVar 8) (aCons (eVar 6) aNil)))))))))) sNx)
    (sSeq (sIf (eB (eOp (oEq false) (eVar 4) (eC (.int (1))))) (sSeq (sAsg (eCall (m_law_started C_Graph C_Lowering) (aCons (eVar 0) (aCons (eVar 1) (aCons (eVar 5) aNil)))) (gTup' (gsCons (gN 6) (gsCons (gN 7) gsNil))))
    (sSeq (sDrop (eBm mAppend (eVar 2) (aCons (eTup (aCons (eC (.str "drop")) (aCons (eVar 7) aNil))) aNil)))
    (sRet (eTup (aCons (eC (.str "do")) (aCons (eVar 6) aNil)))))) sNx)
    (sSeq (sAsg (eOp oIx (eDGet (eVar 1) (eC (.str "names"))) (eCall (m_law_next C_Graph C_Lowering) (aCons (eVar 0) (aCons (eCall bLen (aCons (eDGet (eVar 1) (eC (.str "names"))) aNil)) aNil)))) (gN 8))
    (sSeq (sIf (eB (eOp (oEq false) (eVar 4) (eC (.int (2))))) (sSeq (sAsg (eCall (m_law_started C_Graph C_Lowering) (aCons (eVar 0) (aCons (eVar 1) (aCons (eVar 5) aNil)))) (gTup' (gsCons (gN 6) (gsCons (gN 7) gsNil))))
    (sSeq (sDrop (eBm mAppend (eVar 2) (aCons (eTup (aCons (eC (.str "store")) (aCons (eTup (aCons (eVar 8) (aCons (eTup aNil) aNil))) (aCons (eVar 7) aNil)))) aNil)))
    (sRet (eTup (aCons (eC (.str "store")) (aCons (eTup (aCons (eVar 8) (aCons (eTup aNil) aNil))) (aCons (eVar 6) aNil))))))) sNx)
    (sSeq (sAsg (eCall (m_law_made C_Graph C_Lowering) (aCons (eVar 1) (aCons (eTup (aCons (eC (.str "task")) (aCons (eTup (aCons (eC (.str "int")) aNil)) aNil))) aNil))) (gN 9))
    (sSeq (sDrop (eBm mAppend (eVar 2) (aCons (eTup (aCons (eC (.str "move")) (aCons (eVar 9) (aCons (eTup (aCons (eVar 8) (aCons (eTup aNil) aNil))) aNil)))) aNil)))
    (sSeq (sAsg (eCall (m_law_made C_Graph C_Lowering) (aCons (eVar 1) (aCons (eTup (aCons (eC (.str "int")) aNil)) aNil))) (gN 10))
    (sSeq (sDrop (eBm mAppend (eVar 2) (aCons (eTup (aCons (eC (.str "join")) (aCons (eVar 10) (aCons (eVar 9) aNil)))) aNil)))
    (sSeq (sDrop (eBm mAppend (eVar 2) (aCons (eTup (aCons (eC (.str "print")) (aCons (eVar 10) aNil))) aNil)))
    (sRet (eTup (aCons (eC (.str "print")) (aCons (eTup (aCons (eC (.str "join")) (aCons (eTup (aCons (eC (.str "use")) (aCons (eTup (aCons (eVar 8) (aCons (eTup aNil) aNil))) aNil))) aNil))) aNil)))))))))))))))))
noncomputable def m_law_statement (C_Graph C_Lowering : Addr) : MF := dfn 2 9 false (b_law_statement C_Graph C_Lowering)
theorem ar_law_statement {C_Graph C_Lowering : Addr} : Ar 2 (m_law_statement C_Graph C_Lowering) := ar_dfn
noncomputable def b_law (C_Graph C_Lowering : Addr)  : MS :=
    (sSeq (sAsg (eCall (m_law_tape C_Graph C_Lowering) (aCons (eVar 0) aNil)) (gN 1))
    (sSeq (sAsg eDNew (gN 2))
    (sSeq (sDPutW (eVar 2) (eC (.str "made")) (eC (.int (0))))
    (sSeq (sDPutW (eVar 2) (eC (.str "points")) (eLstL aNil))
    (sSeq (sDPutW (eVar 2) (eC (.str "kinds")) (eDisp (pCons (eC (.str "x")) (eTup (aCons (eC (.str "tuple")) (aCons (eTup (aCons (eTup (aCons (eC (.str "int")) aNil)) (aCons (eTup (aCons (eC (.str "int")) aNil)) aNil))) aNil))) (pCons (eC (.str "n")) (eTup (aCons (eC (.str "int")) aNil)) pNil))))
    (sSeq (sDPutW (eVar 2) (eC (.str "names")) (eLstL aNil))
    (sSeq (sAsg (eCall bTuple (aCons (eLc (iRng1M (aCons (eOp (oPlus false) (eC (.int (1))) (eCall (m_law_next C_Graph C_Lowering) (aCons (eVar 1) (aCons (eC (.int (6))) aNil)))) aNil)) [3] (gN 3) tYesM (eCall (m_law_statement C_Graph C_Lowering) (aCons (eVar 1) (aCons (eVar 2) aNil))) mkF) aNil)) (gN 4))
    (sSeq (sAsg (eDGet (eVar 2) (eC (.str "points"))) (gN 5))
    (sSeq (sFor (iRng1M (aCons (eCall bLen (aCons (eDGet (eVar 2) (eC (.str "names"))) aNil)) aNil)) (gN 3) (sDrop (eBm mAppend (eVar 5) (aCons (eTup (aCons (eC (.str "drop")) (aCons (eOp oIx (eDGet (eVar 2) (eC (.str "names"))) (eOp oSub (eOp oSub (eCall bLen (aCons (eDGet (eVar 2) (eC (.str "names"))) aNil)) (eC (.int (1)))) (eVar 3))) aNil))) aNil))))
    (sSeq (sAsg (eCall (m_law_made C_Graph C_Lowering) (aCons (eVar 2) (aCons (eTup (aCons (eC (.str "unit")) aNil)) aNil))) (gN 6))
    (sSeq (sDrop (eBm mExtend (eVar 5) (aCons (eLstF (aCons (eTup (aCons (eC (.str "set")) (aCons (eVar 6) (aCons (eTup (aCons (eC (.str "unit")) aNil)) aNil)))) (aCons (eTup (aCons (eC (.str "drop")) (aCons (eC (.str "n")) aNil))) (aCons (eTup (aCons (eC (.str "drop")) (aCons (eC (.str "x")) aNil))) (aCons (eTup (aCons (eC (.str "leave")) (aCons (eVar 6) aNil))) aNil))))) aNil)))
    (sSeq (sAsg (eTup (aCons (eC (.str "int")) aNil)) (gN 7))
    (sSeq (sAsg (eLstL aNil) (gN 8))
    (sSeq (sFor (iLstM (eLstF (aCons (eC (.str "shared")) (aCons (eC (.str "exclusive")) aNil)))) (gN 9) (sSeq (sAsg (eTup (aCons (eTup (aCons (eC (.str "r")) (aCons (eTup (aCons (eVar 9) (aCons (eVar 7) aNil))) aNil))) (aCons (eTup (aCons (eC (.str "n")) (aCons (eVar 7) aNil))) aNil))) (gN 10))
    (sDrop (eBm mAppend (eVar 8) (aCons (eTup (aCons (eVar 9) (aCons (eVar 10) (aCons (eVar 7) (aCons (eTup aNil) (aCons (eTup (aCons (eTup (aCons (eC (.str "return")) (aCons (eTup (aCons (eC (.str "int")) (aCons (eC (.int (1))) aNil))) aNil))) aNil)) aNil)))))) aNil)))))
    (sSeq (sAsg (eTup (aCons (eTup (aCons (eC (.str "x")) (aCons (eTup (aCons (eC (.str "tuple")) (aCons (eTup (aCons (eVar 7) (aCons (eVar 7) aNil))) aNil))) aNil))) (aCons (eTup (aCons (eC (.str "n")) (aCons (eVar 7) aNil))) aNil))) (gN 11))
    (sSeq (sAsg (eTup (aCons (eC (.str "main")) (aCons (eTup aNil) (aCons (eTup (aCons (eC (.str "unit")) aNil)) (aCons (eTup aNil) (aCons (eTup aNil) aNil)))))) (gN 12))
    (sSeq (sAsg (eTup (aCons (eTup aNil) (aCons (eOp (oPlus false) (eCall bTuple (aCons (eVar 8) aNil)) (eTup (aCons (eTup (aCons (eC (.str "work")) (aCons (eVar 11) (aCons (eTup (aCons (eC (.str "unit")) aNil)) (aCons (eTup aNil) (aCons (eVar 4) aNil)))))) (aCons (eVar 12) aNil)))) aNil))) (gN 13))
    (sSeq (sAsg (eCall (m_build_graph C_Graph C_Lowering) (aCons (eVar 13) (aCons (eC (.str "work")) aNil))) (gN 14))
    (sSeq (sAsg (eOp (oPlus false) (eCall bTuple (aCons (eLc (iRng1M (aCons (eOp oSub (eCall bLen (aCons (eVar 5) aNil)) (eC (.int (1)))) aNil)) [3] (gN 3) tYesM (eTup (aCons (eOp (oPlus false) (eVar 3) (eC (.int (1)))) aNil)) mkF) aNil)) (eTup (aCons (eTup aNil) aNil))) (gN 15))
    (sSeq (sIf (eOr (eB (eOp (oEq true) (eCall bTuple (aCons (eFld C_Graph (eVar 14) "points") aNil)) (eCall bTuple (aCons (eVar 5) aNil)))) (eB (eOp (oEq true) (eCall bTuple (aCons (eFld C_Graph (eVar 14) "successors") aNil)) (eVar 15)))) (sRet (eC (.bool false))) sNx)
    (sSeq (sIf (eOr (eB (eOp (oEq true) (eFld C_Graph (eVar 14) "parameters") (eTup (aCons (eC (.str "x")) (aCons (eC (.str "n")) aNil))))) (eOr (eB (eOp (oEq true) (eFld C_Graph (eVar 14) "result") (eTup (aCons (eC (.str "unit")) aNil)))) (eOr (eB (eOp (oEq true) (eFld C_Graph (eVar 14) "sources") (eTup aNil))) (eB (eOp (oEq true) (eFld C_Graph (eVar 14) "name") (eC (.str "work"))))))) (sRet (eC (.bool false))) sNx)
    (sRet (eOp oEqDct (eFld C_Graph (eVar 14) "kinds") (eDGet (eVar 2) (eC (.str "kinds"))))))))))))))))))))))))))
noncomputable def m_law (C_Graph C_Lowering : Addr) : MF := dfn 1 15 false (b_law C_Graph C_Lowering)
theorem ar_law {C_Graph C_Lowering : Addr} : Ar 1 (m_law C_Graph C_Lowering) := ar_dfn
end k05
namespace k05
open PySem PySem.Spec PyProof.Rows L2 GxR Gx Pd
def topS (i : Nat) : Stmt := PySem.Challenge.pw_forklent_k05_graphs_of_threads.main.body.getD i (.Pass ⟨0, 0, 0, 0⟩)
def mthS (i j : Nat) : Stmt := match topS i with
  | .ClassDef _ _ _ body _ _ _ _ _ _ _ => body.getD j (.Pass ⟨0, 0, 0, 0⟩)
  | s => s
abbrev s_kinds_inside : Stmt := topS 8
theorem sc_kinds_inside : FnScope ["kind"] ["kind"] (defScope s_kinds_inside) := ⟨rfl, rfl, rfl, by decide +kernel, rfl, by decide +kernel, by decide +kernel⟩
abbrev s_is_copy : Stmt := topS 9
theorem sc_is_copy : FnScope ["kind", "part"] ["kind"] (defScope s_is_copy) := ⟨rfl, rfl, rfl, by decide +kernel, rfl, by decide +kernel, by decide +kernel⟩
abbrev s_is_item : Stmt := topS 11
theorem sc_is_item : FnScope ["items", "step"] ["items", "step"] (defScope s_is_item) := ⟨rfl, rfl, rfl, by decide +kernel, rfl, by decide +kernel, by decide +kernel⟩
abbrev s_fields_of : Stmt := topS 12
theorem sc_fields_of : FnScope ["records", "name", "record", "fields"] ["records", "name"] (defScope s_fields_of) := ⟨rfl, rfl, rfl, by decide +kernel, rfl, by decide +kernel, by decide +kernel⟩
abbrev s_kind_after : Stmt := topS 10
theorem sc_kind_after : FnScope ["records", "kind", "step", "field", "inside"] ["records", "kind", "step"] (defScope s_kind_after) := ⟨rfl, rfl, rfl, by decide +kernel, rfl, by decide +kernel, by decide +kernel⟩
abbrev s_kinds_along : Stmt := topS 15
theorem sc_kinds_along : FnScope ["place", "records", "kinds", "variable", "steps", "along", "step"] ["place", "records", "kinds"] (defScope s_kinds_along) := ⟨rfl, rfl, rfl, by decide +kernel, rfl, by decide +kernel, by decide +kernel⟩
abbrev s_kind_at : Stmt := topS 14
theorem sc_kind_at : FnScope ["place", "records", "kinds"] ["place", "records", "kinds"] (defScope s_kind_at) := ⟨rfl, rfl, rfl, by decide +kernel, rfl, by decide +kernel, by decide +kernel⟩
abbrev s_function_named : Stmt := topS 18
theorem sc_function_named : FnScope ["program", "name", "function"] ["program", "name"] (defScope s_function_named) := ⟨rfl, rfl, rfl, by decide +kernel, rfl, by decide +kernel, by decide +kernel⟩
abbrev s_parts_of : Stmt := topS 19
theorem sc_parts_of : FnScope ["expression", "word"] ["expression"] (defScope s_parts_of) := ⟨rfl, rfl, rfl, by decide +kernel, rfl, by decide +kernel, by decide +kernel⟩
abbrev s_place_in : Stmt := topS 20
theorem sc_place_in : FnScope ["expression"] ["expression"] (defScope s_place_in) := ⟨rfl, rfl, rfl, by decide +kernel, rfl, by decide +kernel, by decide +kernel⟩
abbrev s_kind_fetched : Stmt := topS 22
theorem sc_kind_fetched : FnScope ["program", "kinds", "expression", "word", "kind"] ["program", "kinds", "expression"] (defScope s_kind_fetched) := ⟨rfl, rfl, rfl, by decide +kernel, rfl, by decide +kernel, by decide +kernel⟩
abbrev s_kind_made : Stmt := topS 21
theorem sc_kind_made : FnScope ["program", "kinds", "expression", "inside", "word"] ["program", "kinds", "expression", "inside"] (defScope s_kind_made) := ⟨rfl, rfl, rfl, by decide +kernel, rfl, by decide +kernel, by decide +kernel⟩
abbrev s_Graph___init__ : Stmt := mthS 24 0
theorem sc_Graph___init__ : FnScope ["self", "function", "name", "parameters", "result", "sources", "_", "parameter", "kind"] ["self", "function"] (defScope s_Graph___init__) := ⟨rfl, rfl, rfl, by decide +kernel, rfl, by decide +kernel, by decide +kernel⟩
abbrev s_Lowering___init__ : Stmt := mthS 26 0
theorem sc_Lowering___init__ : FnScope ["self", "program", "function"] ["self", "program", "function"] (defScope s_Lowering___init__) := ⟨rfl, rfl, rfl, by decide +kernel, rfl, by decide +kernel, by decide +kernel⟩
abbrev s_Lowering_add_end : Stmt := mthS 26 3
theorem sc_Lowering_add_end : FnScope ["self", "instruction"] ["self", "instruction"] (defScope s_Lowering_add_end) := ⟨rfl, rfl, rfl, by decide +kernel, rfl, by decide +kernel, by decide +kernel⟩
abbrev s_Lowering_add_point : Stmt := mthS 26 2
theorem sc_Lowering_add_point : FnScope ["self", "instruction"] ["self", "instruction"] (defScope s_Lowering_add_point) := ⟨rfl, rfl, rfl, by decide +kernel, rfl, by decide +kernel, by decide +kernel⟩
abbrev s_Lowering_add_drops : Stmt := mthS 26 4
theorem sc_Lowering_add_drops : FnScope ["self", "names", "name"] ["self", "names"] (defScope s_Lowering_add_drops) := ⟨rfl, rfl, rfl, by decide +kernel, rfl, by decide +kernel, by decide +kernel⟩
abbrev s_Lowering_add_leave : Stmt := mthS 26 5
theorem sc_Lowering_add_leave : FnScope ["self", "temporary"] ["self", "temporary"] (defScope s_Lowering_add_leave) := ⟨rfl, rfl, rfl, by decide +kernel, rfl, by decide +kernel, by decide +kernel⟩
abbrev s_instruction_for : Stmt := topS 27
theorem sc_instruction_for : FnScope ["expression", "kind", "temporary", "parts", "word"] ["expression", "kind", "temporary", "parts"] (defScope s_instruction_for) := ⟨rfl, rfl, rfl, by decide +kernel, rfl, by decide +kernel, by decide +kernel⟩
abbrev s_Lowering_lower_expression : Stmt := mthS 26 11
theorem sc_Lowering_lower_expression : FnScope ["self", "expression", "parts", "kinds", "kind", "temporary", "part"] ["self", "expression"] (defScope s_Lowering_lower_expression) := ⟨rfl, rfl, rfl, by decide +kernel, rfl, by decide +kernel, by decide +kernel⟩
abbrev s_Lowering_lower_let : Stmt := mthS 26 8
theorem sc_Lowering_lower_let : FnScope ["self", "statement", "_", "name", "expression", "temporary"] ["self", "statement"] (defScope s_Lowering_lower_let) := ⟨rfl, rfl, rfl, by decide +kernel, rfl, by decide +kernel, by decide +kernel⟩
abbrev s_Lowering_lower_if : Stmt := mthS 26 9
theorem sc_Lowering_lower_if : FnScope ["self", "statement", "_", "condition", "first", "second", "test", "jump"] ["self", "statement"] (defScope s_Lowering_lower_if) := ⟨rfl, rfl, rfl, by decide +kernel, rfl, by decide +kernel, by decide +kernel⟩
abbrev s_Lowering_lower_while : Stmt := mthS 26 10
theorem sc_Lowering_lower_while : FnScope ["self", "statement", "_", "condition", "block", "begin", "test", "jump"] ["self", "statement"] (defScope s_Lowering_lower_while) := ⟨rfl, rfl, rfl, by decide +kernel, rfl, by decide +kernel, by decide +kernel⟩
abbrev s_Lowering_lower_statement : Stmt := mthS 26 7
theorem sc_Lowering_lower_statement : FnScope ["self", "statement", "word", "_", "place", "expression"] ["self", "statement"] (defScope s_Lowering_lower_statement) := ⟨rfl, rfl, rfl, by decide +kernel, rfl, by decide +kernel, by decide +kernel⟩
abbrev s_Lowering_lower_block : Stmt := mthS 26 6
theorem sc_Lowering_lower_block : FnScope ["self", "block", "outside", "statement"] ["self", "block"] (defScope s_Lowering_lower_block) := ⟨rfl, rfl, rfl, by decide +kernel, rfl, by decide +kernel, by decide +kernel⟩
abbrev s_Lowering_lower_function : Stmt := mthS 26 1
theorem sc_Lowering_lower_function : FnScope ["self", "block"] ["self", "block"] (defScope s_Lowering_lower_function) := ⟨rfl, rfl, rfl, by decide +kernel, rfl, by decide +kernel, by decide +kernel⟩
abbrev s_build_graph : Stmt := topS 25
theorem sc_build_graph : FnScope ["program", "name", "function", "lowering"] ["program", "name"] (defScope s_build_graph) := ⟨rfl, rfl, rfl, by decide +kernel, rfl, by decide +kernel, by decide +kernel⟩
abbrev s__law_tape : Stmt := topS 29
theorem sc__law_tape : FnScope ["script", "numbers", "total", "cell", "rest", "k"] ["script"] (defScope s__law_tape) := ⟨rfl, rfl, rfl, by decide +kernel, rfl, by decide +kernel, by decide +kernel⟩
abbrev s__law_next : Stmt := topS 30
theorem sc__law_next : FnScope ["tape", "many", "at"] ["tape", "many"] (defScope s__law_next) := ⟨rfl, rfl, rfl, by decide +kernel, rfl, by decide +kernel, by decide +kernel⟩
abbrev s__law_made : Stmt := topS 31
theorem sc__law_made : FnScope ["state", "kind", "name", "kinds"] ["state", "kind"] (defScope s__law_made) := ⟨rfl, rfl, rfl, by decide +kernel, rfl, by decide +kernel, by decide +kernel⟩
abbrev s__law_started : Stmt := topS 32
theorem sc__law_started : FnScope ["tape", "state", "mode", "number", "points", "place", "first", "second", "third"] ["tape", "state", "mode"] (defScope s__law_started) := ⟨rfl, rfl, rfl, by decide +kernel, rfl, by decide +kernel, by decide +kernel⟩
abbrev s__law_statement : Stmt := topS 33
theorem sc__law_statement : FnScope ["tape", "state", "points", "kinds", "choice", "mode", "tree", "made", "name", "first", "second"] ["tape", "state"] (defScope s__law_statement) := ⟨rfl, rfl, rfl, by decide +kernel, rfl, by decide +kernel, by decide +kernel⟩
abbrev s_law : Stmt := topS 34
theorem sc_law : FnScope ["script", "tape", "state", "k", "block", "points", "last", "integer", "functions", "mode", "given", "parameters", "main", "program", "graph", "following"] ["script"] (defScope s_law) := ⟨rfl, rfl, rfl, by decide +kernel, rfl, by decide +kernel, by decide +kernel⟩
structure Txt (K : PySem.W.Frag) (mg : Str → Option Value) where
  tb : List Addr
  z_len : mg "len" = none
  z_int : mg "int" = none
  z_bool : mg "bool" = none
  z_abs : mg "abs" = none
  z_range : mg "range" = none
  z_tuple : mg "tuple" = none
  z_all : mg "all" = none
  z_list : mg "list" = none
  z_str : mg "str" = none
  z_isinstance : mg "isinstance" = none
  z_reversed : mg "reversed" = none
  a_BORROWS : Addr
  g_BORROWS : mg "BORROWS" = some (.ref a_BORROWS)
  d_BORROWS : ∀ A, DR K tb A (.ref a_BORROWS) (.tuple [.str "shared", .str "exclusive"])
  a_SINGLE_WORDS : Addr
  g_SINGLE_WORDS : mg "SINGLE_WORDS" = some (.ref a_SINGLE_WORDS)
  d_SINGLE_WORDS : ∀ A, DR K tb A (.ref a_SINGLE_WORDS) (.tuple [.str "int", .str "bool", .str "unit", .str "record"])
  C_Graph : Addr
  g_Graph : mg "Graph" = some (.ref C_Graph)
  cl_Graph : Cls K C_Graph
  na_Graph_kinds : NoAttr K C_Graph "kinds"
  na_Graph_name : NoAttr K C_Graph "name"
  na_Graph_parameters : NoAttr K C_Graph "parameters"
  na_Graph_points : NoAttr K C_Graph "points"
  na_Graph_result : NoAttr K C_Graph "result"
  na_Graph_sources : NoAttr K C_Graph "sources"
  na_Graph_successors : NoAttr K C_Graph "successors"
  C_Lowering : Addr
  g_Lowering : mg "Lowering" = some (.ref C_Lowering)
  cl_Lowering : Cls K C_Lowering
  na_Lowering_graph : NoAttr K C_Lowering "graph"
  na_Lowering_program : NoAttr K C_Lowering "program"
  na_Lowering_scope : NoAttr K C_Lowering "scope"
  na_Lowering_temporaries : NoAttr K C_Lowering "temporaries"
  kinds_inside : DfC K mg "kinds_inside" s_kinds_inside ["kind"]
  is_copy : DfC K mg "is_copy" s_is_copy ["kind"]
  P_is_copy : Addr
  hP_is_copy : P_is_copy ∈ tb
  kind_after : DfC K mg "kind_after" s_kind_after ["records", "kind", "step"]
  is_item : DfC K mg "is_item" s_is_item ["items", "step"]
  fields_of : DfC K mg "fields_of" s_fields_of ["records", "name"]
  kind_at : DfK K mg "kind_at" s_kind_at ["place", "records", "kinds"] ["records", "kinds"]
  kinds_along : DfC K mg "kinds_along" s_kinds_along ["place", "records", "kinds"]
  function_named : DfC K mg "function_named" s_function_named ["program", "name"]
  parts_of : DfC K mg "parts_of" s_parts_of ["expression"]
  place_in : DfC K mg "place_in" s_place_in ["expression"]
  kind_made : DfC K mg "kind_made" s_kind_made ["program", "kinds", "expression", "inside"]
  kind_fetched : DfC K mg "kind_fetched" s_kind_fetched ["program", "kinds", "expression"]
  Graph___init__ : DfM K C_Graph "__init__" "Graph.__init__" s_Graph___init__ ["self", "function"]
  build_graph : DfC K mg "build_graph" s_build_graph ["program", "name"]
  Lowering___init__ : DfM K C_Lowering "__init__" "Lowering.__init__" s_Lowering___init__ ["self", "program", "function"]
  Lowering_lower_function : DfM K C_Lowering "lower_function" "Lowering.lower_function" s_Lowering_lower_function ["self", "block"]
  Lowering_add_point : DfM K C_Lowering "add_point" "Lowering.add_point" s_Lowering_add_point ["self", "instruction"]
  Lowering_add_end : DfM K C_Lowering "add_end" "Lowering.add_end" s_Lowering_add_end ["self", "instruction"]
  Lowering_add_drops : DfM K C_Lowering "add_drops" "Lowering.add_drops" s_Lowering_add_drops ["self", "names"]
  Lowering_add_leave : DfM K C_Lowering "add_leave" "Lowering.add_leave" s_Lowering_add_leave ["self", "temporary"]
  Lowering_lower_block : DfM K C_Lowering "lower_block" "Lowering.lower_block" s_Lowering_lower_block ["self", "block"]
  Lowering_lower_statement : DfM K C_Lowering "lower_statement" "Lowering.lower_statement" s_Lowering_lower_statement ["self", "statement"]
  Lowering_lower_let : DfM K C_Lowering "lower_let" "Lowering.lower_let" s_Lowering_lower_let ["self", "statement"]
  Lowering_lower_if : DfM K C_Lowering "lower_if" "Lowering.lower_if" s_Lowering_lower_if ["self", "statement"]
  Lowering_lower_while : DfM K C_Lowering "lower_while" "Lowering.lower_while" s_Lowering_lower_while ["self", "statement"]
  Lowering_lower_expression : DfM K C_Lowering "lower_expression" "Lowering.lower_expression" s_Lowering_lower_expression ["self", "expression"]
  instruction_for : DfC K mg "instruction_for" s_instruction_for ["expression", "kind", "temporary", "parts"]
  _law_tape : DfC K mg "_law_tape" s__law_tape ["script"]
  _law_next : DfC K mg "_law_next" s__law_next ["tape", "many"]
  _law_made : DfC K mg "_law_made" s__law_made ["state", "kind"]
  _law_started : DfC K mg "_law_started" s__law_started ["tape", "state", "mode"]
  _law_statement : DfC K mg "_law_statement" s__law_statement ["tape", "state"]
  law : DfC K mg "law" s_law ["script"]
  mk_Graph : Mk K C_Graph Graph___init__.f
  mk_Lowering : Mk K C_Lowering Lowering___init__.f
structure Tbs {K : PySem.W.Frag} {mg : Str → Option Value} (T : Txt K mg) (base : Heap) : Prop where
  any : True
  is_copy : TabB base mg T.is_copy.c T.P_is_copy
end k05
namespace k05
open PySem PySem.Spec PyProof.Rows L2 GxR Gx Pd
section
variable {P : Program} {w : World} {K : PySem.W.Frag} {mg : Str → Option Value} {base : Heap}
theorem ok_kinds_inside (T : Txt K mg) (hT : Tbs T base) : FnOk P w K mg base CX0 1 T.kinds_inside.f T.kinds_inside.fd ["kind"] (spD K T.tb 1 (m_kinds_inside T.C_Graph T.C_Lowering)) :=
  def_ok (k := 0) T.kinds_inside.F sc_kinds_inside fun A outer s H E hr => ⟨_, (pss_cons (ps_if (pt_cmpR (op_inK (K := K) rfl) (pe_ix (ix_seqK (K := K) rfl) (pv 0) pe_int (fun _ _ => rfl)) (pe_glob (v := .ref T.a_SINGLE_WORDS) rfl T.g_SINGLE_WORDS rfl) (by rfl)) (pss_one (ps_ret (pe_tup pa_nil))) pss_nil)
    (pss_cons (ps_if (pt_cmpR (op_eqAK (K := K) rfl hr.units) (pe_ix (ix_seqK (K := K) rfl) (pv 0) pe_int (fun _ _ => rfl)) pe_str (nomark _)) (pss_one (ps_ret (pe_ix (ix_seqK (K := K) rfl) (pv 0) pe_int (fun _ _ => rfl)))) pss_nil)
    (pss_one (ps_ret (pe_tup (pa_cons (pe_ix (ix_seqK (K := K) rfl) (pv 0) pe_int (fun _ _ => rfl)) pa_nil)))))),
    (ss_seq (ss_if (st_test (se_op (sr_in (n := false)) (se_op sr_ix (se_var 0) se_int) (se_const (T.d_SINGLE_WORDS)))) (ss_ret (se_tup sa_nil)) ss_nil)
    (ss_seq (ss_if (st_test (se_op sr_eq (se_op sr_ix (se_var 0) se_int) se_str)) (ss_ret (se_op sr_ix (se_var 0) se_int)) ss_nil)
    (ss_ret (se_tup (sa_cons (se_op sr_ix (se_var 0) se_int) sa_nil)))))⟩
theorem ok_is_copy (T : Txt K mg) (hT : Tbs T base) : ∀ n : Nat, FnOk P w K mg base CX0 (2 + 2 * n) T.is_copy.f T.is_copy.fd ["kind"] (spD K T.tb 1 (m_is_copy T.C_Graph T.C_Lowering n))
  | 0 => fn_none
  | n + 1 => (def_ok (k := 3 + 2 * n) (body := b_is_copy T.C_Graph T.C_Lowering (m_is_copy T.C_Graph T.C_Lowering n)) (fz := false) T.is_copy.F sc_is_copy fun A outer s H E hr => ⟨_, (pss_cons (ps_if (pt_cmpR (op_inK (K := K) rfl) (pe_ix (ix_seqK (K := K) rfl) (pv 0) pe_int (fun _ _ => rfl)) (pe_tup (pa_cons pe_str (pa_cons pe_str pa_nil))) (by rfl)) (pss_one (ps_ret (pe_allG (own := [("part", 1)]) (k := 2 + 2 * n) (hr.mono (by omega)) rfl rfl T.z_all bt_all (hT.is_copy) rfl sc_is_copy.nd (pi_tupK (K := K) rfl (pe_call (ok_kinds_inside T hT) (hr.mono (by omega)) rfl T.kinds_inside.g T.kinds_inside.F.kp T.kinds_inside.b .nil pass0 (pa_cons (pv 0) pa_nil))) (blkOk_by (N := ["kind", "part"]) (sc := defScope s_is_copy) (by decide +kernel)) rfl (by decide +kernel) rfl (nodot ["kind", "part"] (by decide +kernel)) (fun _ _ _ _ _ _ _ _ _ => (pg_name (i := 1) sc_is_copy.nd rfl (Or.inl rfl))) (fun _ _ _ _ _ _ _ _ _ hr => (pe_call (ok_is_copy T hT n) (hr.mono (by omega)) rfl T.is_copy.g T.is_copy.F.kp T.is_copy.b .nil pass0 (pa_cons (pv 1) pa_nil)))))) pss_nil)
    (pss_one (ps_ret (pe_cmpR (op_inK (K := K) rfl) (pe_ix (ix_seqK (K := K) rfl) (pv 0) pe_int (fun _ _ => rfl)) (pe_tup (pa_cons pe_str (pa_cons pe_str (pa_cons pe_str (pa_cons pe_str pa_nil))))) (by rfl))))),
    (ss_seq (ss_if (st_test (se_op (sr_in (n := false)) (se_op sr_ix (se_var 0) se_int) (se_tup (sa_cons se_str (sa_cons se_str sa_nil))))) (ss_ret (se_all T.hP_is_copy (si_tup (se_call ar_kinds_inside (sa_cons (se_var 0) sa_nil))) (sg_name 1) (by decide) (se_call (ar_is_copy n) (sa_cons (se_var 1) sa_nil)))) ss_nil)
    (ss_ret (se_op (sr_in (n := false)) (se_op sr_ix (se_var 0) se_int) (se_tup (sa_cons se_str (sa_cons se_str (sa_cons se_str (sa_cons se_str sa_nil))))))))⟩).mono (by omega)
theorem ok_is_item (T : Txt K mg) (hT : Tbs T base) : FnOk P w K mg base CX0 1 T.is_item.f T.is_item.fd ["items", "step"] (spD K T.tb 2 (m_is_item T.C_Graph T.C_Lowering)) :=
  def_ok (k := 0) T.is_item.F sc_is_item fun A outer s H E hr => ⟨_, (pss_one (ps_ret (pe_and (pe_callB (cr_isiK (K := K) rfl) rfl T.z_isinstance PyProof.Rows.boot_isinstance (pa_cons (pv 1) (pa_cons (pe_bltn (v := .ty "int") rfl T.z_int PyProof.Rows.boot_int rfl) pa_nil))) (pe_and (pe_not (pe_callB (cr_isiK (K := K) rfl) rfl T.z_isinstance PyProof.Rows.boot_isinstance (pa_cons (pv 1) (pa_cons (pe_bltn (v := .ty "bool") rfl T.z_bool PyProof.Rows.boot_bool rfl) pa_nil)))) (pe_one (pe_chain op_le op_lt pe_int (pv 1) (pe_callB (cr_lenK (K := K) rfl) rfl T.z_len PySem.boot_len (pa_cons (pv 0) pa_nil)))))))),
    (ss_ret (se_andV (se_is (T := false) (se_var 1)) (se_andV (se_notV (se_is (T := true) (se_var 1))) (se_chain sr_le sr_lt se_int (se_var 1) (se_cb sc_len (sa_cons (se_var 0) sa_nil))))))⟩
theorem ok_fields_of (T : Txt K mg) (hT : Tbs T base) : FnOk P w K mg base CX0 1 T.fields_of.f T.fields_of.fd ["records", "name"] (spD K T.tb 2 (m_fields_of T.C_Graph T.C_Lowering)) :=
  def_ok (k := 0) T.fields_of.F sc_fields_of fun A outer s H E hr => ⟨_, (pss_cons (ps_for PassesOwn.never rfl (pi_tupK (K := K) rfl (pv 0)) (pg_tup rfl (pgs_cons (pg_name (i := 2) sc_fields_of.nd rfl (Or.inl rfl)) (pgs_cons (pg_name (i := 3) sc_fields_of.nd rfl (Or.inl rfl)) pgs_nil))) (pss_one (ps_if (pt_cmpR (op_eqAK (K := K) rfl hr.units) (pv 2) (pv 1) (nomark _)) (pss_one (ps_ret (pv 3))) pss_nil)))
    (pss_one (ps_ret (pe_tup pa_nil)))),
    (ss_seq (ss_for (si_tup (se_var 0)) (sg_tup (glen_cons (glen_cons glen_nil)) (sgs_cons (sg_name 2) (sgs_cons (sg_name 3) sgs_nil))) (ss_if (st_test (se_op sr_eq (se_var 2) (se_var 1))) (ss_ret (se_var 3)) ss_nil))
    (ss_ret (se_tup sa_nil)))⟩
theorem ok_kind_after (T : Txt K mg) (hT : Tbs T base) : FnOk P w K mg base CX0 2 T.kind_after.f T.kind_after.fd ["records", "kind", "step"] (spD K T.tb 3 (m_kind_after T.C_Graph T.C_Lowering)) :=
  def_ok (k := 1) T.kind_after.F sc_kind_after fun A outer s H E hr => ⟨_, (pss_cons (ps_if (PW.pt (pw_and (pt_cmpR (op_eqAK (K := K) rfl hr.units) (pe_ix (ix_seqK (K := K) rfl) (pv 1) pe_int (fun _ _ => rfl)) pe_str (nomark _)) (pw_and1 (pt_val (pe_call (ok_is_item T hT) (hr.mono (by omega)) rfl T.is_item.g T.is_item.F.kp T.is_item.b .nil pass0 (pa_cons (pe_ix (ix_seqK (K := K) rfl) (pv 1) pe_int (fun _ _ => rfl)) (pa_cons (pv 2) pa_nil))))))) (pss_one (ps_ret (pe_ix (ix_seqK (K := K) rfl) (pe_ix (ix_seqK (K := K) rfl) (pv 1) pe_int (fun _ _ => rfl)) (pv 2) (fun _ _ => rfl)))) pss_nil)
    (pss_cons (ps_if (pt_cmpR (op_eqAK (K := K) rfl hr.units) (pe_ix (ix_seqK (K := K) rfl) (pv 1) pe_int (fun _ _ => rfl)) pe_str (nomark _)) (pss_one (ps_for PassesOwn.never rfl (pi_tupK (K := K) rfl (pe_call (ok_fields_of T hT) (hr.mono (by omega)) rfl T.fields_of.g T.fields_of.F.kp T.fields_of.b .nil pass0 (pa_cons (pv 0) (pa_cons (pe_ix (ix_seqK (K := K) rfl) (pv 1) pe_int (fun _ _ => rfl)) pa_nil)))) (pg_tup rfl (pgs_cons (pg_name (i := 3) sc_kind_after.nd rfl (Or.inl rfl)) (pgs_cons (pg_name (i := 4) sc_kind_after.nd rfl (Or.inl rfl)) pgs_nil))) (pss_one (ps_if (pt_cmpR (op_eqAK (K := K) rfl hr.units) (pv 3) (pv 2) (nomark _)) (pss_one (ps_ret (pv 4))) pss_nil)))) pss_nil)
    (pss_cons (ps_if (PW.pt (pw_and (pt_cmpR (op_eqAK (K := K) rfl hr.units) (pe_ix (ix_seqK (K := K) rfl) (pv 1) pe_int (fun _ _ => rfl)) pe_str (nomark _)) (pw_and1 (pt_cmpR (op_eqAK (K := K) rfl hr.units) (pv 2) pe_str (nomark _))))) (pss_one (ps_ret (pe_ix (ix_seqK (K := K) rfl) (pv 1) pe_int (fun _ _ => rfl)))) pss_nil)
    (pss_cons (ps_if (PW.pt (pw_and (PW.pt (pw_or (pt_cmpR (op_eqAK (K := K) rfl hr.units) (pe_ix (ix_seqK (K := K) rfl) (pv 1) pe_int (fun _ _ => rfl)) pe_str (nomark _)) (pw_or1 (pt_cmpR (op_inK (K := K) rfl) (pe_ix (ix_seqK (K := K) rfl) (pv 1) pe_int (fun _ _ => rfl)) (pe_glob (v := .ref T.a_BORROWS) rfl T.g_BORROWS rfl) (by rfl))))) (pw_and1 (pt_cmpR (op_eqAK (K := K) rfl hr.units) (pv 2) pe_str (nomark _))))) (pss_one (ps_ret (pe_ix (ix_seqK (K := K) rfl) (pv 1) pe_int (fun _ _ => rfl)))) pss_nil)
    (pss_one ps_none))))),
    (ss_seq (ss_if (st_and (st_test (se_op sr_eq (se_op sr_ix (se_var 1) se_int) se_str)) (st_val (se_call ar_is_item (sa_cons (se_op sr_ix (se_var 1) se_int) (sa_cons (se_var 2) sa_nil))))) (ss_ret (se_op sr_ix (se_op sr_ix (se_var 1) se_int) (se_var 2))) ss_nil)
    (ss_seq (ss_if (st_test (se_op sr_eq (se_op sr_ix (se_var 1) se_int) se_str)) (ss_for (si_tup (se_call ar_fields_of (sa_cons (se_var 0) (sa_cons (se_op sr_ix (se_var 1) se_int) sa_nil)))) (sg_tup (glen_cons (glen_cons glen_nil)) (sgs_cons (sg_name 3) (sgs_cons (sg_name 4) sgs_nil))) (ss_if (st_test (se_op sr_eq (se_var 3) (se_var 2))) (ss_ret (se_var 4)) ss_nil)) ss_nil)
    (ss_seq (ss_if (st_and (st_test (se_op sr_eq (se_op sr_ix (se_var 1) se_int) se_str)) (st_test (se_op sr_eq (se_var 2) se_str))) (ss_ret (se_op sr_ix (se_var 1) se_int)) ss_nil)
    (ss_seq (ss_if (st_and (st_or (st_test (se_op sr_eq (se_op sr_ix (se_var 1) se_int) se_str)) (st_test (se_op (sr_in (n := false)) (se_op sr_ix (se_var 1) se_int) (se_const (T.d_BORROWS))))) (st_test (se_op sr_eq (se_var 2) se_str))) (ss_ret (se_op sr_ix (se_var 1) se_int)) ss_nil)
    ss_none))))⟩
theorem ok_kinds_along (T : Txt K mg) (hT : Tbs T base) : FnOk P w K mg base CX0 3 T.kinds_along.f T.kinds_along.fd ["place", "records", "kinds"] (spD K T.tb 3 (m_kinds_along T.C_Graph T.C_Lowering)) :=
  def_ok (k := 2) T.kinds_along.F sc_kinds_along fun A outer s H E hr => ⟨_, (pss_cons (ps_asg (pv 0) (pg_tup rfl (pgs_cons (pg_name (i := 3) sc_kinds_along.nd rfl (Or.inl rfl)) (pgs_cons (pg_name (i := 4) sc_kinds_along.nd rfl (Or.inl rfl)) pgs_nil))))
    (pss_cons (ps_if (pt_cmp (pc_dnotin (hu_of hr) (pv 3) (pv 2))) (pss_one ps_none) pss_nil)
    (pss_cons (ps_set (i := 5) sc_kinds_along.nd rfl (Or.inl rfl) (pe_lst (pa_cons (pe_dget (hu_of hr) (pv 2) (pv 3) (fun _ _ => rfl)) pa_nil)))
    (pss_cons (ps_for PassesOwn.never rfl (pi_tupK (K := K) rfl (pv 4)) (pg_name (i := 6) sc_kinds_along.nd rfl (Or.inl rfl)) (pss_one (ps_expr (pe_bm PySem.F.plainAttrs_list PySem.F.slot_list_append PySem.F.type_list_append mt_append (pv 5) (pa_cons (pe_call (ok_kind_after T hT) (hr.mono (by omega)) rfl T.kind_after.g T.kind_after.F.kp T.kind_after.b .nil pass0 (pa_cons (pv 1) (pa_cons (pe_ix (ix_seqK (K := K) rfl) (pv 5) (pe_un un_neg pe_int) (fun _ _ => rfl)) (pa_cons (pv 6) pa_nil)))) pa_nil)))))
    (pss_one (ps_ret (pv 5))))))),
    (ss_seq (ss_asg (se_var 0) (sg_tup (glen_cons (glen_cons glen_nil)) (sgs_cons (sg_name 3) (sgs_cons (sg_name 4) sgs_nil))))
    (ss_seq (ss_if (st_val (se_dnin (se_var 3) (se_var 2))) ss_none ss_nil)
    (ss_seq (ss_asg (se_lstL (sa_cons (se_dget (se_var 2) (se_var 3)) sa_nil)) (sg_name 5))
    (ss_seq (ss_for (si_tup (se_var 4)) (sg_name 6) (ss_drop (se_bm sm_append (se_var 5) (sa_cons (se_call ar_kind_after (sa_cons (se_var 1) (sa_cons (se_op sr_ix (se_var 5) (se_un su_neg se_int)) (sa_cons (se_var 6) sa_nil)))) sa_nil))))
    (ss_ret (se_var 5))))))⟩
end
end k05
namespace k05
open PySem PySem.Spec PyProof.Rows L2 GxR Gx Pd
section
variable {P : Program} {w : World} {K : PySem.W.Frag} {mg : Str → Option Value} {base : Heap}
theorem ok_kind_at (T : Txt K mg) (hT : Tbs T base) : FnOk P w K mg base CX0 4 T.kind_at.f T.kind_at.fd ["place", "records", "kinds"] (spD K T.tb 3 (m_kind_at T.C_Graph T.C_Lowering)) :=
  def_ok (k := 3) T.kind_at.F sc_kind_at fun A outer s H E hr => ⟨_, (pss_one (ps_ret (pe_ix (ix_seqK (K := K) rfl) (pe_call (ok_kinds_along T hT) (hr.mono (by omega)) rfl T.kinds_along.g T.kinds_along.F.kp T.kinds_along.b .nil pass0 (pa_cons (pv 0) (pa_cons (pv 1) (pa_cons (pv 2) pa_nil)))) (pe_un un_neg pe_int) (fun _ _ => rfl)))),
    (ss_ret (se_op sr_ix (se_call ar_kinds_along (sa_cons (se_var 0) (sa_cons (se_var 1) (sa_cons (se_var 2) sa_nil)))) (se_un su_neg se_int)))⟩
theorem ok_function_named (T : Txt K mg) (hT : Tbs T base) : FnOk P w K mg base CX0 1 T.function_named.f T.function_named.fd ["program", "name"] (spD K T.tb 2 (m_function_named T.C_Graph T.C_Lowering)) :=
  def_ok (k := 0) T.function_named.F sc_function_named fun A outer s H E hr => ⟨_, (pss_cons (ps_for PassesOwn.never rfl (pi_tupK (K := K) rfl (pe_ix (ix_seqK (K := K) rfl) (pv 0) pe_int (fun _ _ => rfl))) (pg_name (i := 2) sc_function_named.nd rfl (Or.inl rfl)) (pss_one (ps_if (pt_cmpR (op_eqAK (K := K) rfl hr.units) (pe_ix (ix_seqK (K := K) rfl) (pv 2) pe_int (fun _ _ => rfl)) (pv 1) (nomark _)) (pss_one (ps_ret (pv 2))) pss_nil)))
    (pss_one (ps_ret pe_non))),
    (ss_seq (ss_for (si_tup (se_op sr_ix (se_var 0) se_int)) (sg_name 2) (ss_if (st_test (se_op sr_eq (se_op sr_ix (se_var 2) se_int) (se_var 1))) (ss_ret (se_var 2)) ss_nil))
    (ss_ret se_non))⟩
theorem ok_parts_of (T : Txt K mg) (hT : Tbs T base) : FnOk P w K mg base CX0 1 T.parts_of.f T.parts_of.fd ["expression"] (spD K T.tb 1 (m_parts_of T.C_Graph T.C_Lowering)) :=
  def_ok (k := 0) T.parts_of.F sc_parts_of fun A outer s H E hr => ⟨_, (pss_cons (ps_set (i := 1) sc_parts_of.nd rfl (Or.inl rfl) (pe_ix (ix_seqK (K := K) rfl) (pv 0) pe_int (fun _ _ => rfl)))
    (pss_cons (ps_if (pt_cmpR (op_inK (K := K) rfl) (pv 1) (pe_tup (pa_cons pe_str (pa_cons pe_str (pa_cons pe_str (pa_cons pe_str (pa_cons pe_str pa_nil)))))) (by rfl)) (pss_one (ps_ret (pe_tup (pa_cons (pe_ix (ix_seqK (K := K) rfl) (pv 0) pe_int (fun _ _ => rfl)) pa_nil)))) pss_nil)
    (pss_cons (ps_if (pt_cmpR (op_eqAK (K := K) rfl hr.units) (pv 1) pe_str (nomark _)) (pss_one (ps_ret (pe_ix (ix_seqK (K := K) rfl) (pv 0) pe_int (fun _ _ => rfl)))) pss_nil)
    (pss_cons (ps_if (pt_cmpR (op_inK (K := K) rfl) (pv 1) (pe_tup (pa_cons pe_str (pa_cons pe_str (pa_cons pe_str pa_nil)))) (by rfl)) (pss_one (ps_ret (pe_ix (ix_seqK (K := K) rfl) (pv 0) pe_int (fun _ _ => rfl)))) pss_nil)
    (pss_cons (ps_if (pt_cmpR (op_eqAK (K := K) rfl hr.units) (pv 1) pe_str (nomark _)) (pss_one (ps_ret (pe_tup (pa_cons (pe_ix (ix_seqK (K := K) rfl) (pv 0) pe_int (fun _ _ => rfl)) pa_nil)))) pss_nil)
    (pss_cons (ps_if (pt_cmpR (op_eqAK (K := K) rfl hr.units) (pv 1) pe_str (nomark _)) (pss_one (ps_ret (pe_tup (pa_cons (pe_ix (ix_seqK (K := K) rfl) (pv 0) pe_int (fun _ _ => rfl)) (pa_cons (pe_ix (ix_seqK (K := K) rfl) (pv 0) pe_int (fun _ _ => rfl)) pa_nil))))) pss_nil)
    (pss_one (ps_ret (pe_tup pa_nil))))))))),
    (ss_seq (ss_asg (se_op sr_ix (se_var 0) se_int) (sg_name 1))
    (ss_seq (ss_if (st_test (se_op (sr_in (n := false)) (se_var 1) (se_tup (sa_cons se_str (sa_cons se_str (sa_cons se_str (sa_cons se_str (sa_cons se_str sa_nil)))))))) (ss_ret (se_tup (sa_cons (se_op sr_ix (se_var 0) se_int) sa_nil))) ss_nil)
    (ss_seq (ss_if (st_test (se_op sr_eq (se_var 1) se_str)) (ss_ret (se_op sr_ix (se_var 0) se_int)) ss_nil)
    (ss_seq (ss_if (st_test (se_op (sr_in (n := false)) (se_var 1) (se_tup (sa_cons se_str (sa_cons se_str (sa_cons se_str sa_nil)))))) (ss_ret (se_op sr_ix (se_var 0) se_int)) ss_nil)
    (ss_seq (ss_if (st_test (se_op sr_eq (se_var 1) se_str)) (ss_ret (se_tup (sa_cons (se_op sr_ix (se_var 0) se_int) sa_nil))) ss_nil)
    (ss_seq (ss_if (st_test (se_op sr_eq (se_var 1) se_str)) (ss_ret (se_tup (sa_cons (se_op sr_ix (se_var 0) se_int) (sa_cons (se_op sr_ix (se_var 0) se_int) sa_nil)))) ss_nil)
    (ss_ret (se_tup sa_nil))))))))⟩
theorem ok_place_in (T : Txt K mg) (hT : Tbs T base) : FnOk P w K mg base CX0 1 T.place_in.f T.place_in.fd ["expression"] (spD K T.tb 1 (m_place_in T.C_Graph T.C_Lowering)) :=
  def_ok (k := 0) T.place_in.F sc_place_in fun A outer s H E hr => ⟨_, (pss_cons (ps_if (pt_cmpR (op_eqAK (K := K) rfl hr.units) (pe_ix (ix_seqK (K := K) rfl) (pv 0) pe_int (fun _ _ => rfl)) pe_str (nomark _)) (pss_one (ps_ret (pe_ix (ix_seqK (K := K) rfl) (pv 0) pe_int (fun _ _ => rfl)))) pss_nil)
    (pss_one (ps_ret (pe_ix (ix_seqK (K := K) rfl) (pv 0) pe_int (fun _ _ => rfl))))),
    (ss_seq (ss_if (st_test (se_op sr_eq (se_op sr_ix (se_var 0) se_int) se_str)) (ss_ret (se_op sr_ix (se_var 0) se_int)) ss_nil)
    (ss_ret (se_op sr_ix (se_var 0) se_int)))⟩
theorem ok_kind_fetched (T : Txt K mg) (hT : Tbs T base) : FnOk P w K mg base CX0 5 T.kind_fetched.f T.kind_fetched.fd ["program", "kinds", "expression"] (spD K T.tb 3 (m_kind_fetched T.C_Graph T.C_Lowering)) :=
  def_ok (k := 4) T.kind_fetched.F sc_kind_fetched fun A outer s H E hr => ⟨_, (pss_cons (ps_set (i := 3) sc_kind_fetched.nd rfl (Or.inl rfl) (pe_ix (ix_seqK (K := K) rfl) (pv 2) pe_int (fun _ _ => rfl)))
    (pss_cons (ps_if (pt_cmpR (op_eqAK (K := K) rfl hr.units) (pv 3) pe_str (nomark _)) (pss_one (ps_ret (pe_tup (pa_cons pe_str (pa_cons (pe_ix (ix_seqK (K := K) rfl) (pv 2) pe_int (fun _ _ => rfl)) pa_nil))))) pss_nil)
    (pss_cons (ps_if (pt_cmpR (op_eqAK (K := K) rfl hr.units) (pv 3) pe_str (nomark _)) (pss_one (ps_ret (pe_ix (ix_seqK (K := K) rfl) (pe_call (ok_function_named T hT) (hr.mono (by omega)) rfl T.function_named.g T.function_named.F.kp T.function_named.b .nil pass0 (pa_cons (pv 0) (pa_cons (pe_ix (ix_seqK (K := K) rfl) (pv 2) pe_int (fun _ _ => rfl)) pa_nil))) pe_int (fun _ _ => rfl)))) pss_nil)
    (pss_cons (ps_if (pt_cmpR (op_eqAK (K := K) rfl hr.units) (pv 3) pe_str (nomark _)) (pss_one (ps_ret (pe_tup (pa_cons pe_str (pa_cons (pe_ix (ix_seqK (K := K) rfl) (pe_call (ok_function_named T hT) (hr.mono (by omega)) rfl T.function_named.g T.function_named.F.kp T.function_named.b .nil pass0 (pa_cons (pv 0) (pa_cons (pe_ix (ix_seqK (K := K) rfl) (pv 2) pe_int (fun _ _ => rfl)) pa_nil))) pe_int (fun _ _ => rfl)) pa_nil))))) pss_nil)
    (pss_cons (ps_set (i := 4) sc_kind_fetched.nd rfl (Or.inl rfl) (pe_callK (ok_kind_at T hT) (hr.mono (by omega)) rfl T.kind_at.g T.kind_at.F.kp T.kind_at.b pass0 (pa_cons (pe_call (ok_place_in T hT) (hr.mono (by omega)) rfl T.place_in.g T.place_in.F.kp T.place_in.b .nil pass0 (pa_cons (pv 2) pa_nil)) pa_nil) (pk_cons (pe_ix (ix_seqK (K := K) rfl) (pv 0) pe_int (fun _ _ => rfl)) (pk_cons (pv 1) pk_nil))))
    (pss_cons (ps_if (pt_cmpR (op_eqAK (K := K) rfl hr.units) (pv 3) pe_str (nomark _)) (pss_one (ps_ret (pe_tup (pa_cons (pe_ix (ix_seqK (K := K) rfl) (pv 2) pe_int (fun _ _ => rfl)) (pa_cons (pv 4) pa_nil))))) pss_nil)
    (pss_one (ps_ret (pv 4))))))))),
    (ss_seq (ss_asg (se_op sr_ix (se_var 2) se_int) (sg_name 3))
    (ss_seq (ss_if (st_test (se_op sr_eq (se_var 3) se_str)) (ss_ret (se_tup (sa_cons se_str (sa_cons (se_op sr_ix (se_var 2) se_int) sa_nil)))) ss_nil)
    (ss_seq (ss_if (st_test (se_op sr_eq (se_var 3) se_str)) (ss_ret (se_op sr_ix (se_call ar_function_named (sa_cons (se_var 0) (sa_cons (se_op sr_ix (se_var 2) se_int) sa_nil))) se_int)) ss_nil)
    (ss_seq (ss_if (st_test (se_op sr_eq (se_var 3) se_str)) (ss_ret (se_tup (sa_cons se_str (sa_cons (se_op sr_ix (se_call ar_function_named (sa_cons (se_var 0) (sa_cons (se_op sr_ix (se_var 2) se_int) sa_nil))) se_int) sa_nil)))) ss_nil)
    (ss_seq (ss_asg (se_callkw ar_kind_at (fun _ _ _ _ _ h g => g12_rel h g) (sa_cons (se_call ar_place_in (sa_cons (se_var 2) sa_nil)) sa_nil) (sa_cons (se_op sr_ix (se_var 0) se_int) (sa_cons (se_var 1) sa_nil))) (sg_name 4))
    (ss_seq (ss_if (st_test (se_op sr_eq (se_var 3) se_str)) (ss_ret (se_tup (sa_cons (se_op sr_ix (se_var 2) se_int) (sa_cons (se_var 4) sa_nil)))) ss_nil)
    (ss_ret (se_var 4))))))))⟩
theorem ok_kind_made (T : Txt K mg) (hT : Tbs T base) : FnOk P w K mg base CX0 6 T.kind_made.f T.kind_made.fd ["program", "kinds", "expression", "inside"] (spD K T.tb 4 (m_kind_made T.C_Graph T.C_Lowering)) :=
  def_ok (k := 5) T.kind_made.F sc_kind_made fun A outer s H E hr => ⟨_, (pss_cons (ps_set (i := 4) sc_kind_made.nd rfl (Or.inl rfl) (pe_ix (ix_seqK (K := K) rfl) (pv 2) pe_int (fun _ _ => rfl)))
    (pss_cons (ps_if (pt_cmpR (op_inK (K := K) rfl) (pv 4) (pe_tup (pa_cons pe_str (pa_cons pe_str (pa_cons pe_str pa_nil)))) (by rfl)) (pss_one (ps_ret (pe_tup (pa_cons (pv 4) pa_nil)))) pss_nil)
    (pss_cons (ps_if (pt_cmpR (op_inK (K := K) rfl) (pv 4) (pe_tup (pa_cons pe_str (pa_cons pe_str pa_nil))) (by rfl)) (pss_one (ps_ret (pe_tup (pa_cons pe_str pa_nil)))) pss_nil)
    (pss_cons (ps_if (pt_cmpR (op_eqAK (K := K) rfl hr.units) (pv 4) pe_str (nomark _)) (pss_one ps_none) pss_nil)
    (pss_cons (ps_if (pt_cmpR (op_eqAK (K := K) rfl hr.units) (pv 4) pe_str (nomark _)) (pss_one (ps_ret (pe_tup (pa_cons pe_str (pa_cons (pe_ix (ix_seqK (K := K) rfl) (pv 2) pe_int (fun _ _ => rfl)) pa_nil))))) pss_nil)
    (pss_cons (ps_if (pt_cmpR (op_eqAK (K := K) rfl hr.units) (pv 4) pe_str (nomark _)) (pss_one (ps_ret (pe_tup (pa_cons pe_str (pa_cons (pe_ix (ix_seqK (K := K) rfl) (pv 3) pe_int (fun _ _ => rfl)) pa_nil))))) pss_nil)
    (pss_cons (ps_if (pt_cmpR (op_eqAK (K := K) rfl hr.units) (pv 4) pe_str (nomark _)) (pss_one (ps_ret (pe_tup (pa_cons pe_str (pa_cons (pe_ix (ix_seqK (K := K) rfl) (pv 3) pe_int (fun _ _ => rfl)) pa_nil))))) pss_nil)
    (pss_cons (ps_if (pt_cmpR (op_eqAK (K := K) rfl hr.units) (pv 4) pe_str (nomark _)) (pss_one (ps_ret (pe_tup (pa_cons pe_str (pa_cons (pe_callTy (cr_tupK (K := K) rfl) rfl T.z_tuple PyProof.Rows.boot_tuple (pa_cons (pv 3) pa_nil)) pa_nil))))) pss_nil)
    (pss_cons (ps_if (pt_cmpR (op_inK (K := K) rfl) (pv 4) (pe_tup (pa_cons pe_str (pa_cons pe_str pa_nil))) (by rfl)) (pss_one (ps_ret (pe_ix (ix_seqK (K := K) rfl) (pe_ix (ix_seqK (K := K) rfl) (pv 3) pe_int (fun _ _ => rfl)) pe_int (fun _ _ => rfl)))) pss_nil)
    (pss_one (ps_ret (pe_call (ok_kind_fetched T hT) (hr.mono (by omega)) rfl T.kind_fetched.g T.kind_fetched.F.kp T.kind_fetched.b .nil pass0 (pa_cons (pv 0) (pa_cons (pv 1) (pa_cons (pv 2) pa_nil))))))))))))))),
    (ss_seq (ss_asg (se_op sr_ix (se_var 2) se_int) (sg_name 4))
    (ss_seq (ss_if (st_test (se_op (sr_in (n := false)) (se_var 4) (se_tup (sa_cons se_str (sa_cons se_str (sa_cons se_str sa_nil)))))) (ss_ret (se_tup (sa_cons (se_var 4) sa_nil))) ss_nil)
    (ss_seq (ss_if (st_test (se_op (sr_in (n := false)) (se_var 4) (se_tup (sa_cons se_str (sa_cons se_str sa_nil))))) (ss_ret (se_tup (sa_cons se_str sa_nil))) ss_nil)
    (ss_seq (ss_if (st_test (se_op sr_eq (se_var 4) se_str)) ss_none ss_nil)
    (ss_seq (ss_if (st_test (se_op sr_eq (se_var 4) se_str)) (ss_ret (se_tup (sa_cons se_str (sa_cons (se_op sr_ix (se_var 2) se_int) sa_nil)))) ss_nil)
    (ss_seq (ss_if (st_test (se_op sr_eq (se_var 4) se_str)) (ss_ret (se_tup (sa_cons se_str (sa_cons (se_op sr_ix (se_var 3) se_int) sa_nil)))) ss_nil)
    (ss_seq (ss_if (st_test (se_op sr_eq (se_var 4) se_str)) (ss_ret (se_tup (sa_cons se_str (sa_cons (se_op sr_ix (se_var 3) se_int) sa_nil)))) ss_nil)
    (ss_seq (ss_if (st_test (se_op sr_eq (se_var 4) se_str)) (ss_ret (se_tup (sa_cons se_str (sa_cons (se_cb sc_tuple (sa_cons (se_var 3) sa_nil)) sa_nil)))) ss_nil)
    (ss_seq (ss_if (st_test (se_op (sr_in (n := false)) (se_var 4) (se_tup (sa_cons se_str (sa_cons se_str sa_nil))))) (ss_ret (se_op sr_ix (se_op sr_ix (se_var 3) se_int) se_int)) ss_nil)
    (ss_ret (se_call ar_kind_fetched (sa_cons (se_var 0) (sa_cons (se_var 1) (sa_cons (se_var 2) sa_nil))))))))))))))⟩
end
end k05
namespace k05
open PySem PySem.Spec PyProof.Rows L2 GxR Gx Pd
section
variable {P : Program} {w : World} {K : PySem.W.Frag} {mg : Str → Option Value} {base : Heap}
theorem ok_Graph_init (T : Txt K mg) (hT : Tbs T base) : FnOk P w K mg base CX0 1 T.Graph___init__.f T.Graph___init__.fd ["self", "function"] (spD K T.tb 2 (m_Graph_init T.C_Graph T.C_Lowering)) :=
  def_ok (k := 0) T.Graph___init__.F sc_Graph___init__ fun A outer s H E hr => ⟨_, (pss_cons (ps_asg (pv 1) (pg_tup rfl (pgs_cons (pg_name (i := 2) sc_Graph___init__.nd rfl (Or.inl rfl)) (pgs_cons (pg_name (i := 3) sc_Graph___init__.nd rfl (Or.inl rfl)) (pgs_cons (pg_name (i := 4) sc_Graph___init__.nd rfl (Or.inl rfl)) (pgs_cons (pg_name (i := 5) sc_Graph___init__.nd rfl (Or.inl rfl)) (pgs_cons (pg_name (i := 6) sc_Graph___init__.nd rfl (Or.inl rfl)) pgs_nil)))))))
    (pss_cons (ps_fldK (K := K) rfl (pv 0) (pv 2) rfl)
    (pss_cons (ps_fldK (K := K) rfl (pv 0) (pe_callTy (cr_tupK (K := K) rfl) rfl T.z_tuple PyProof.Rows.boot_tuple (pa_cons (pe_lc (own := [("parameter", 7), ("_", 6)]) (tt := tYes) rfl sc_Graph___init__.nd (pi_tupK (K := K) rfl (pv 3)) (blkOk_by (N := ["self", "function", "name", "parameters", "result", "sources", "_", "parameter", "kind"]) (sc := defScope s_Graph___init__) (by decide +kernel)) (fun _ _ _ _ _ => (pg_tup rfl (pgs_cons (pg_name (i := 7) sc_Graph___init__.nd rfl (Or.inl rfl)) (pgs_cons (pg_name (i := 6) sc_Graph___init__.nd rfl (Or.inl rfl)) pgs_nil)))) (fun _ _ _ _ _ => pts_nil) (fun _ _ _ _ _ => (pv 7))) pa_nil)) rfl)
    (pss_cons (ps_fldK (K := K) rfl (pv 0) (pv 5) rfl)
    (pss_cons (ps_fldK (K := K) rfl (pv 0) (pv 4) rfl)
    (pss_cons (ps_fldK (K := K) rfl (pv 0) (pe_dc (own := [("parameter", 7), ("kind", 8)]) (tt := tYes) rfl sc_Graph___init__.nd (pi_tupK (K := K) rfl (pv 3)) (blkOk_by (N := ["self", "function", "name", "parameters", "result", "sources", "_", "parameter", "kind"]) (sc := defScope s_Graph___init__) (by decide +kernel)) (fun _ _ _ _ _ => (pg_tup rfl (pgs_cons (pg_name (i := 7) sc_Graph___init__.nd rfl (Or.inl rfl)) (pgs_cons (pg_name (i := 8) sc_Graph___init__.nd rfl (Or.inl rfl)) pgs_nil)))) (fun _ _ _ _ _ => pts_nil) (fun _ _ _ _ _ => (pv 7)) (fun _ _ _ _ _ => (pv 8))) rfl)
    (pss_cons (ps_fldK (K := K) rfl (pv 0) (pe_lst pa_nil) rfl)
    (pss_one (ps_fldK (K := K) rfl (pv 0) (pe_lst pa_nil) rfl))))))))),
    (ss_seq (ss_asg (se_var 1) (sg_tup (glen_cons (glen_cons (glen_cons (glen_cons (glen_cons glen_nil))))) (sgs_cons (sg_name 2) (sgs_cons (sg_name 3) (sgs_cons (sg_name 4) (sgs_cons (sg_name 5) (sgs_cons (sg_name 6) sgs_nil)))))))
    (ss_seq (ss_fld T.cl_Graph T.na_Graph_name (se_var 0) (se_var 2))
    (ss_seq (ss_fld T.cl_Graph T.na_Graph_parameters (se_var 0) (se_cb sc_tuple (sa_cons (se_lc smk_F (si_tup (se_var 3)) (sg_tup (glen_cons (glen_cons glen_nil)) (sgs_cons (sg_name 7) (sgs_cons (sg_name 6) sgs_nil))) (by decide) st_yes (se_var 7)) sa_nil)))
    (ss_seq (ss_fld T.cl_Graph T.na_Graph_sources (se_var 0) (se_var 5))
    (ss_seq (ss_fld T.cl_Graph T.na_Graph_result (se_var 0) (se_var 4))
    (ss_seq (ss_fld T.cl_Graph T.na_Graph_kinds (se_var 0) (se_dc (si_tup (se_var 3)) (sg_tup (glen_cons (glen_cons glen_nil)) (sgs_cons (sg_name 7) (sgs_cons (sg_name 8) sgs_nil))) (by decide) st_yes (se_var 7) (se_var 8)))
    (ss_seq (ss_fld T.cl_Graph T.na_Graph_points (se_var 0) (se_lstL sa_nil))
    (ss_fld T.cl_Graph T.na_Graph_successors (se_var 0) (se_lstL sa_nil)))))))))⟩
theorem ok_Lowering_init (T : Txt K mg) (hT : Tbs T base) : FnOk P w K mg base CX0 3 T.Lowering___init__.f T.Lowering___init__.fd ["self", "program", "function"] (spD K T.tb 3 (m_Lowering_init T.C_Graph T.C_Lowering)) :=
  def_ok (k := 2) T.Lowering___init__.F sc_Lowering___init__ fun A outer s H E hr => ⟨_, (pss_cons (ps_fldK (K := K) rfl (pv 0) (pv 1) rfl)
    (pss_cons (ps_fldK (K := K) rfl (pv 0) (pe_make T.mk_Graph (ok_Graph_init T hT) (hr.mono (by omega)) rfl T.g_Graph T.Graph___init__.b .nil pass0 (pa_cons (pv 2) pa_nil)) rfl)
    (pss_cons (ps_fldK (K := K) rfl (pv 0) (pe_callTy (cr_lstK (K := K) rfl) rfl T.z_list PyProof.Rows.boot_list (pa_cons (pe_fldK (K := K) rfl (pe_fldK (K := K) rfl (pv 0) rfl) rfl) pa_nil)) rfl)
    (pss_one (ps_fldK (K := K) rfl (pv 0) pe_int rfl))))),
    (ss_seq (ss_fld T.cl_Lowering T.na_Lowering_program (se_var 0) (se_var 1))
    (ss_seq (ss_fld T.cl_Lowering T.na_Lowering_graph (se_var 0) (se_make ar_Graph_init (sa_cons (se_var 2) sa_nil)))
    (ss_seq (ss_fld T.cl_Lowering T.na_Lowering_scope (se_var 0) (se_cb sc_listL (sa_cons (se_fld T.cl_Graph T.na_Graph_parameters (se_fld T.cl_Lowering T.na_Lowering_graph (se_var 0))) sa_nil)))
    (ss_fld T.cl_Lowering T.na_Lowering_temporaries (se_var 0) se_int))))⟩
theorem ok_Lowering_add_end (T : Txt K mg) (hT : Tbs T base) : FnOk P w K mg base CX0 1 T.Lowering_add_end.f T.Lowering_add_end.fd ["self", "instruction"] (spD K T.tb 2 (m_Lowering_add_end T.C_Graph T.C_Lowering)) :=
  def_ok (k := 0) T.Lowering_add_end.F sc_Lowering_add_end fun A outer s H E hr => ⟨_, (pss_cons (ps_expr (pe_bm PySem.F.plainAttrs_list PySem.F.slot_list_append PySem.F.type_list_append mt_append (pe_fldK (K := K) rfl (pe_fldK (K := K) rfl (pv 0) rfl) rfl) (pa_cons (pv 1) pa_nil)))
    (pss_one (ps_expr (pe_bm PySem.F.plainAttrs_list PySem.F.slot_list_append PySem.F.type_list_append mt_append (pe_fldK (K := K) rfl (pe_fldK (K := K) rfl (pv 0) rfl) rfl) (pa_cons (pe_tup pa_nil) pa_nil))))),
    (ss_seq (ss_drop (se_bm sm_append (se_fld T.cl_Graph T.na_Graph_points (se_fld T.cl_Lowering T.na_Lowering_graph (se_var 0))) (sa_cons (se_var 1) sa_nil)))
    (ss_drop (se_bm sm_append (se_fld T.cl_Graph T.na_Graph_successors (se_fld T.cl_Lowering T.na_Lowering_graph (se_var 0))) (sa_cons (se_tup sa_nil) sa_nil))))⟩
theorem ok_Lowering_add_point (T : Txt K mg) (hT : Tbs T base) : FnOk P w K mg base CX0 1 T.Lowering_add_point.f T.Lowering_add_point.fd ["self", "instruction"] (spD K T.tb 2 (m_Lowering_add_point T.C_Graph T.C_Lowering)) :=
  def_ok (k := 0) T.Lowering_add_point.F sc_Lowering_add_point fun A outer s H E hr => ⟨_, (pss_cons (ps_expr (pe_bm PySem.F.plainAttrs_list PySem.F.slot_list_append PySem.F.type_list_append mt_append (pe_fldK (K := K) rfl (pe_fldK (K := K) rfl (pv 0) rfl) rfl) (pa_cons (pv 1) pa_nil)))
    (pss_cons (ps_expr (pe_bm PySem.F.plainAttrs_list PySem.F.slot_list_append PySem.F.type_list_append mt_append (pe_fldK (K := K) rfl (pe_fldK (K := K) rfl (pv 0) rfl) rfl) (pa_cons (pe_tup (pa_cons (pe_callB (cr_lenK (K := K) rfl) rfl T.z_len PySem.boot_len (pa_cons (pe_fldK (K := K) rfl (pe_fldK (K := K) rfl (pv 0) rfl) rfl) pa_nil)) pa_nil)) pa_nil)))
    (pss_one (ps_ret (pe_op op_sub (pe_callB (cr_lenK (K := K) rfl) rfl T.z_len PySem.boot_len (pa_cons (pe_fldK (K := K) rfl (pe_fldK (K := K) rfl (pv 0) rfl) rfl) pa_nil)) pe_int))))),
    (ss_seq (ss_drop (se_bm sm_append (se_fld T.cl_Graph T.na_Graph_points (se_fld T.cl_Lowering T.na_Lowering_graph (se_var 0))) (sa_cons (se_var 1) sa_nil)))
    (ss_seq (ss_drop (se_bm sm_append (se_fld T.cl_Graph T.na_Graph_successors (se_fld T.cl_Lowering T.na_Lowering_graph (se_var 0))) (sa_cons (se_tup (sa_cons (se_cb sc_len (sa_cons (se_fld T.cl_Graph T.na_Graph_points (se_fld T.cl_Lowering T.na_Lowering_graph (se_var 0))) sa_nil)) sa_nil)) sa_nil)))
    (ss_ret (se_op sr_sub (se_cb sc_len (sa_cons (se_fld T.cl_Graph T.na_Graph_points (se_fld T.cl_Lowering T.na_Lowering_graph (se_var 0))) sa_nil)) se_int))))⟩
theorem ok_Lowering_add_drops (T : Txt K mg) (hT : Tbs T base) : FnOk P w K mg base CX0 2 T.Lowering_add_drops.f T.Lowering_add_drops.fd ["self", "names"] (spD K T.tb 2 (m_Lowering_add_drops T.C_Graph T.C_Lowering)) :=
  def_ok (k := 1) T.Lowering_add_drops.F sc_Lowering_add_drops fun A outer s H E hr => ⟨_, (pss_one (ps_for PassesOwn.never rfl (pi_revK (K := K) rfl (by rfl) T.z_reversed (pv 1)) (pg_name (i := 2) sc_Lowering_add_drops.nd rfl (Or.inl rfl)) (pss_one (ps_expr (pe_meth (pv 0) T.cl_Lowering T.Lowering_add_point.m (ok_Lowering_add_point T hT) (hr.mono (by omega)) T.Lowering_add_point.b .nil pass0 (pa_cons (pe_tup (pa_cons pe_str (pa_cons (pv 2) pa_nil))) pa_nil)))))),
    (ss_for (si_rev (se_var 1)) (sg_name 2) (ss_drop (se_meth ar_Lowering_add_point (se_var 0) (sa_cons (se_tup (sa_cons se_str (sa_cons (se_var 2) sa_nil))) sa_nil))))⟩
theorem ok_Lowering_add_leave (T : Txt K mg) (hT : Tbs T base) : FnOk P w K mg base CX0 3 T.Lowering_add_leave.f T.Lowering_add_leave.fd ["self", "temporary"] (spD K T.tb 2 (m_Lowering_add_leave T.C_Graph T.C_Lowering)) :=
  def_ok (k := 2) T.Lowering_add_leave.F sc_Lowering_add_leave fun A outer s H E hr => ⟨_, (pss_cons (ps_expr (pe_meth (pv 0) T.cl_Lowering T.Lowering_add_drops.m (ok_Lowering_add_drops T hT) (hr.mono (by omega)) T.Lowering_add_drops.b .nil pass0 (pa_cons (pe_fldK (K := K) rfl (pv 0) rfl) pa_nil)))
    (pss_one (ps_expr (pe_meth (pv 0) T.cl_Lowering T.Lowering_add_end.m (ok_Lowering_add_end T hT) (hr.mono (by omega)) T.Lowering_add_end.b .nil pass0 (pa_cons (pe_tup (pa_cons pe_str (pa_cons (pv 1) pa_nil))) pa_nil))))),
    (ss_seq (ss_drop (se_meth ar_Lowering_add_drops (se_var 0) (sa_cons (se_fld T.cl_Lowering T.na_Lowering_scope (se_var 0)) sa_nil)))
    (ss_drop (se_meth ar_Lowering_add_end (se_var 0) (sa_cons (se_tup (sa_cons se_str (sa_cons (se_var 1) sa_nil))) sa_nil))))⟩
end
end k05
namespace k05
open PySem PySem.Spec PyProof.Rows L2 GxR Gx Pd
section
variable {P : Program} {w : World} {K : PySem.W.Frag} {mg : Str → Option Value} {base : Heap}
theorem ok_instruction_for (T : Txt K mg) (hT : Tbs T base) : FnOk P w K mg base CX0 9 T.instruction_for.f T.instruction_for.fd ["expression", "kind", "temporary", "parts"] (spD K T.tb 4 (m_instruction_for T.C_Graph T.C_Lowering)) :=
  def_ok (k := 8) T.instruction_for.F sc_instruction_for fun A outer s H E hr => ⟨_, (pss_cons (ps_set (i := 4) sc_instruction_for.nd rfl (Or.inl rfl) (pe_ix (ix_seqK (K := K) rfl) (pv 0) pe_int (fun _ _ => rfl)))
    (pss_cons (ps_if (pt_cmpR (op_inK (K := K) rfl) (pv 4) (pe_tup (pa_cons pe_str (pa_cons pe_str (pa_cons pe_str (pa_cons pe_str pa_nil))))) (by rfl)) (pss_one (ps_ret (pe_tup (pa_cons pe_str (pa_cons (pv 2) (pa_cons (pv 0) pa_nil)))))) pss_nil)
    (pss_cons (ps_if (pt_cmpR (op_inK (K := K) rfl) (pv 4) (pe_tup (pa_cons pe_str (pa_cons pe_str (pa_cons pe_str pa_nil)))) (by rfl)) (pss_one (ps_ret (pe_tup (pa_cons pe_str (pa_cons (pv 2) (pa_cons (pv 4) (pa_cons (pv 3) pa_nil))))))) pss_nil)
    (pss_cons (ps_if (pt_cmpR (op_eqAK (K := K) rfl hr.units) (pv 4) pe_str (nomark _)) (pss_one (ps_ret (pe_tup (pa_cons pe_str (pa_cons (pv 2) (pa_cons (pe_ix (ix_seqK (K := K) rfl) (pv 0) pe_int (fun _ _ => rfl)) (pa_cons (pv 3) pa_nil))))))) pss_nil)
    (pss_cons (ps_if (pt_cmpR (op_eqAK (K := K) rfl hr.units) (pv 4) pe_str (nomark _)) (pss_one (ps_ret (pe_tup (pa_cons (pe_ifExp (pt_val (pe_call (ok_is_copy T hT 3) (hr.mono (by omega)) rfl T.is_copy.g T.is_copy.F.kp T.is_copy.b .nil pass0 (pa_cons (pv 1) pa_nil))) pe_str pe_str) (pa_cons (pv 2) (pa_cons (pe_call (ok_place_in T hT) (hr.mono (by omega)) rfl T.place_in.g T.place_in.F.kp T.place_in.b .nil pass0 (pa_cons (pv 0) pa_nil)) pa_nil)))))) pss_nil)
    (pss_cons (ps_if (pt_cmpR (op_eqAK (K := K) rfl hr.units) (pv 4) pe_str (nomark _)) (pss_one (ps_ret (pe_tup (pa_cons pe_str (pa_cons (pv 2) (pa_cons (pe_ix (ix_seqK (K := K) rfl) (pv 0) pe_int (fun _ _ => rfl)) (pa_cons (pe_call (ok_place_in T hT) (hr.mono (by omega)) rfl T.place_in.g T.place_in.F.kp T.place_in.b .nil pass0 (pa_cons (pv 0) pa_nil)) pa_nil))))))) pss_nil)
    (pss_cons (ps_if (pt_cmpR (op_eqAK (K := K) rfl hr.units) (pv 4) pe_str (nomark _)) (pss_one (ps_ret (pe_tup (pa_cons pe_str (pa_cons (pv 2) (pa_cons (pe_call (ok_place_in T hT) (hr.mono (by omega)) rfl T.place_in.g T.place_in.F.kp T.place_in.b .nil pass0 (pa_cons (pv 0) pa_nil)) pa_nil)))))) pss_nil)
    (pss_cons (ps_if (pt_cmpR (op_eqAK (K := K) rfl hr.units) (pv 4) pe_str (nomark _)) (pss_one (ps_ret (pe_tup (pa_cons pe_str (pa_cons (pv 2) (pa_cons (pe_call (ok_place_in T hT) (hr.mono (by omega)) rfl T.place_in.g T.place_in.F.kp T.place_in.b .nil pass0 (pa_cons (pv 0) pa_nil)) (pa_cons (pe_ix (ix_seqK (K := K) rfl) (pv 3) pe_int (fun _ _ => rfl)) pa_nil))))))) pss_nil)
    (pss_cons (ps_if (pt_cmpR (op_eqAK (K := K) rfl hr.units) (pv 4) pe_str (nomark _)) (pss_one (ps_ret (pe_tup (pa_cons pe_str (pa_cons (pv 2) (pa_cons (pe_ix (ix_seqK (K := K) rfl) (pv 0) pe_int (fun _ _ => rfl)) (pa_cons (pe_ix (ix_seqK (K := K) rfl) (pv 3) pe_int (fun _ _ => rfl)) (pa_cons (pe_ix (ix_seqK (K := K) rfl) (pv 3) pe_int (fun _ _ => rfl)) pa_nil)))))))) pss_nil)
    (pss_cons (ps_if (pt_cmpR (op_inK (K := K) rfl) (pv 4) (pe_tup (pa_cons pe_str (pa_cons pe_str pa_nil))) (by rfl)) (pss_one (ps_ret (pe_tup (pa_cons (pv 4) (pa_cons (pv 2) (pa_cons (pe_ix (ix_seqK (K := K) rfl) (pv 0) pe_int (fun _ _ => rfl)) (pa_cons (pv 3) pa_nil))))))) pss_nil)
    (pss_one (ps_ret (pe_tup (pa_cons (pv 4) (pa_cons (pv 2) (pa_cons (pe_ix (ix_seqK (K := K) rfl) (pv 3) pe_int (fun _ _ => rfl)) pa_nil)))))))))))))))),
    (ss_seq (ss_asg (se_op sr_ix (se_var 0) se_int) (sg_name 4))
    (ss_seq (ss_if (st_test (se_op (sr_in (n := false)) (se_var 4) (se_tup (sa_cons se_str (sa_cons se_str (sa_cons se_str (sa_cons se_str sa_nil))))))) (ss_ret (se_tup (sa_cons se_str (sa_cons (se_var 2) (sa_cons (se_var 0) sa_nil))))) ss_nil)
    (ss_seq (ss_if (st_test (se_op (sr_in (n := false)) (se_var 4) (se_tup (sa_cons se_str (sa_cons se_str (sa_cons se_str sa_nil)))))) (ss_ret (se_tup (sa_cons se_str (sa_cons (se_var 2) (sa_cons (se_var 4) (sa_cons (se_var 3) sa_nil)))))) ss_nil)
    (ss_seq (ss_if (st_test (se_op sr_eq (se_var 4) se_str)) (ss_ret (se_tup (sa_cons se_str (sa_cons (se_var 2) (sa_cons (se_op sr_ix (se_var 0) se_int) (sa_cons (se_var 3) sa_nil)))))) ss_nil)
    (ss_seq (ss_if (st_test (se_op sr_eq (se_var 4) se_str)) (ss_ret (se_tup (sa_cons (se_if (st_val (se_call (ar_is_copy 3) (sa_cons (se_var 1) sa_nil))) se_str se_str) (sa_cons (se_var 2) (sa_cons (se_call ar_place_in (sa_cons (se_var 0) sa_nil)) sa_nil))))) ss_nil)
    (ss_seq (ss_if (st_test (se_op sr_eq (se_var 4) se_str)) (ss_ret (se_tup (sa_cons se_str (sa_cons (se_var 2) (sa_cons (se_op sr_ix (se_var 0) se_int) (sa_cons (se_call ar_place_in (sa_cons (se_var 0) sa_nil)) sa_nil)))))) ss_nil)
    (ss_seq (ss_if (st_test (se_op sr_eq (se_var 4) se_str)) (ss_ret (se_tup (sa_cons se_str (sa_cons (se_var 2) (sa_cons (se_call ar_place_in (sa_cons (se_var 0) sa_nil)) sa_nil))))) ss_nil)
    (ss_seq (ss_if (st_test (se_op sr_eq (se_var 4) se_str)) (ss_ret (se_tup (sa_cons se_str (sa_cons (se_var 2) (sa_cons (se_call ar_place_in (sa_cons (se_var 0) sa_nil)) (sa_cons (se_op sr_ix (se_var 3) se_int) sa_nil)))))) ss_nil)
    (ss_seq (ss_if (st_test (se_op sr_eq (se_var 4) se_str)) (ss_ret (se_tup (sa_cons se_str (sa_cons (se_var 2) (sa_cons (se_op sr_ix (se_var 0) se_int) (sa_cons (se_op sr_ix (se_var 3) se_int) (sa_cons (se_op sr_ix (se_var 3) se_int) sa_nil))))))) ss_nil)
    (ss_seq (ss_if (st_test (se_op (sr_in (n := false)) (se_var 4) (se_tup (sa_cons se_str (sa_cons se_str sa_nil))))) (ss_ret (se_tup (sa_cons (se_var 4) (sa_cons (se_var 2) (sa_cons (se_op sr_ix (se_var 0) se_int) (sa_cons (se_var 3) sa_nil)))))) ss_nil)
    (ss_ret (se_tup (sa_cons (se_var 4) (sa_cons (se_var 2) (sa_cons (se_op sr_ix (se_var 3) se_int) sa_nil)))))))))))))))⟩
theorem ok_Lowering_lower_expression (T : Txt K mg) (hT : Tbs T base) : ∀ n : Nat, FnOk P w K mg base CX0 (10 + 1 * n) T.Lowering_lower_expression.f T.Lowering_lower_expression.fd ["self", "expression"] (spD K T.tb 2 (m_Lowering_lower_expression T.C_Graph T.C_Lowering n))
  | 0 => fn_none
  | n + 1 => (def_ok (k := 10 + 1 * n) (body := b_Lowering_lower_expression T.C_Graph T.C_Lowering (m_Lowering_lower_expression T.C_Graph T.C_Lowering n)) (fz := false) T.Lowering_lower_expression.F sc_Lowering_lower_expression fun A outer s H E hr => ⟨_, (pss_cons (ps_set (i := 2) sc_Lowering_lower_expression.nd rfl (Or.inl rfl) (pe_callTy (cr_tupK (K := K) rfl) rfl T.z_tuple PyProof.Rows.boot_tuple (pa_cons (pe_lc (own := [("part", 6)]) (tt := tYes) rfl sc_Lowering_lower_expression.nd (pi_tupK (K := K) rfl (pe_call (ok_parts_of T hT) (hr.mono (by omega)) rfl T.parts_of.g T.parts_of.F.kp T.parts_of.b .nil pass0 (pa_cons (pv 1) pa_nil))) (blkOk_by (N := ["self", "expression", "parts", "kinds", "kind", "temporary", "part"]) (sc := defScope s_Lowering_lower_expression) (by decide +kernel)) (fun _ _ _ _ _ => (pg_name (i := 6) sc_Lowering_lower_expression.nd rfl (Or.inl rfl))) (fun _ _ _ _ _ => pts_nil) (fun _ _ _ _ _ => (pe_meth (pv 0) T.cl_Lowering T.Lowering_lower_expression.m (ok_Lowering_lower_expression T hT n) (hr.mono (by omega)) T.Lowering_lower_expression.b .nil pass0 (pa_cons (pv 6) pa_nil)))) pa_nil)))
    (pss_cons (ps_set (i := 3) sc_Lowering_lower_expression.nd rfl (Or.inr rfl) (pe_fldK (K := K) rfl (pe_fldK (K := K) rfl (pv 0) rfl) rfl))
    (pss_cons (ps_set (i := 4) sc_Lowering_lower_expression.nd rfl (Or.inl rfl) (pe_call (ok_kind_made T hT) (hr.mono (by omega)) rfl T.kind_made.g T.kind_made.F.kp T.kind_made.b .nil pass0 (pa_cons (pe_fldK (K := K) rfl (pv 0) rfl) (pa_cons (pv 3) (pa_cons (pv 1) (pa_cons (pe_lc (own := [("part", 6)]) (tt := tYes) rfl sc_Lowering_lower_expression.nd (pi_tupK (K := K) rfl (pv 2)) (blkOk_by (N := ["self", "expression", "parts", "kinds", "kind", "temporary", "part"]) (sc := defScope s_Lowering_lower_expression) (by decide +kernel)) (fun _ _ _ _ _ => (pg_name (i := 6) sc_Lowering_lower_expression.nd rfl (Or.inl rfl))) (fun _ _ _ _ _ => pts_nil) (fun _ _ _ _ _ => (pe_dget (hu_of hr) (pv 3) (pv 6) (fun _ _ => rfl)))) pa_nil))))))
    (pss_cons (ps_set (i := 5) sc_Lowering_lower_expression.nd rfl (Or.inl rfl) (pe_op (op_plusK (K := K) rfl) pe_str (pe_callTy call_str_int rfl T.z_str PyProof.Rows.boot_str (pa_cons (pe_fldK (K := K) rfl (pv 0) rfl) pa_nil))))
    (pss_cons (ps_fldaugK (K := K) rfl (pv 0) pe_int)
    (pss_cons (ps_dput (hu_of hr) (pv 3) (pv 5) (pv 4) rfl)
    (pss_cons (ps_expr (pe_meth (pv 0) T.cl_Lowering T.Lowering_add_point.m (ok_Lowering_add_point T hT) (hr.mono (by omega)) T.Lowering_add_point.b .nil pass0 (pa_cons (pe_call (ok_instruction_for T hT) (hr.mono (by omega)) rfl T.instruction_for.g T.instruction_for.F.kp T.instruction_for.b .nil pass0 (pa_cons (pv 1) (pa_cons (pv 4) (pa_cons (pv 5) (pa_cons (pv 2) pa_nil))))) pa_nil)))
    (pss_one (ps_ret (pv 5)))))))))),
    (ss_seq (ss_asg (se_cb sc_tuple (sa_cons (se_lc smk_F (si_tup (se_call ar_parts_of (sa_cons (se_var 1) sa_nil))) (sg_name 6) (by decide) st_yes (se_meth (ar_Lowering_lower_expression n) (se_var 0) (sa_cons (se_var 6) sa_nil))) sa_nil)) (sg_name 2))
    (ss_seq (ss_asg (se_fld T.cl_Graph T.na_Graph_kinds (se_fld T.cl_Lowering T.na_Lowering_graph (se_var 0))) (sg_name 3))
    (ss_seq (ss_asg (se_call ar_kind_made (sa_cons (se_fld T.cl_Lowering T.na_Lowering_program (se_var 0)) (sa_cons (se_var 3) (sa_cons (se_var 1) (sa_cons (se_lc smk_F (si_tup (se_var 2)) (sg_name 6) (by decide) st_yes (se_dget (se_var 3) (se_var 6))) sa_nil))))) (sg_name 4))
    (ss_seq (ss_asg (se_op (sr_plus (L := false)) se_str (se_cb sc_str (sa_cons (se_fld T.cl_Lowering T.na_Lowering_temporaries (se_var 0)) sa_nil))) (sg_name 5))
    (ss_seq (ss_fldaug T.cl_Lowering T.na_Lowering_temporaries (se_var 0) se_int)
    (ss_seq (ss_dput (se_var 3) (se_var 5) (se_var 4))
    (ss_seq (ss_drop (se_meth ar_Lowering_add_point (se_var 0) (sa_cons (se_call ar_instruction_for (sa_cons (se_var 1) (sa_cons (se_var 4) (sa_cons (se_var 5) (sa_cons (se_var 2) sa_nil))))) sa_nil)))
    (ss_ret (se_var 5)))))))))⟩).mono (by omega)
theorem ok_Lowering_lower_let (T : Txt K mg) (hT : Tbs T base) : FnOk P w K mg base CX0 14 T.Lowering_lower_let.f T.Lowering_lower_let.fd ["self", "statement"] (spD K T.tb 2 (m_Lowering_lower_let T.C_Graph T.C_Lowering)) :=
  def_ok (k := 13) T.Lowering_lower_let.F sc_Lowering_lower_let fun A outer s H E hr => ⟨_, (pss_cons (ps_asg (pv 1) (pg_tup rfl (pgs_cons (pg_name (i := 2) sc_Lowering_lower_let.nd rfl (Or.inl rfl)) (pgs_cons (pg_name (i := 3) sc_Lowering_lower_let.nd rfl (Or.inl rfl)) (pgs_cons (pg_name (i := 4) sc_Lowering_lower_let.nd rfl (Or.inl rfl)) pgs_nil)))))
    (pss_cons (ps_set (i := 5) sc_Lowering_lower_let.nd rfl (Or.inl rfl) (pe_meth (pv 0) T.cl_Lowering T.Lowering_lower_expression.m (ok_Lowering_lower_expression T hT 3) (hr.mono (by omega)) T.Lowering_lower_expression.b .nil pass0 (pa_cons (pv 4) pa_nil)))
    (pss_cons (ps_dput (hu_of hr) (pe_fldK (K := K) rfl (pe_fldK (K := K) rfl (pv 0) rfl) rfl) (pv 3) (pe_dget (hu_of hr) (pe_fldK (K := K) rfl (pe_fldK (K := K) rfl (pv 0) rfl) rfl) (pv 5) (fun _ _ => rfl)) rfl)
    (pss_cons (ps_expr (pe_bm PySem.F.plainAttrs_list PySem.F.slot_list_append PySem.F.type_list_append mt_append (pe_fldK (K := K) rfl (pv 0) rfl) (pa_cons (pv 3) pa_nil)))
    (pss_one (ps_expr (pe_meth (pv 0) T.cl_Lowering T.Lowering_add_point.m (ok_Lowering_add_point T hT) (hr.mono (by omega)) T.Lowering_add_point.b .nil pass0 (pa_cons (pe_tup (pa_cons pe_str (pa_cons (pv 3) (pa_cons (pv 5) pa_nil)))) pa_nil)))))))),
    (ss_seq (ss_asg (se_var 1) (sg_tup (glen_cons (glen_cons (glen_cons glen_nil))) (sgs_cons (sg_name 2) (sgs_cons (sg_name 3) (sgs_cons (sg_name 4) sgs_nil)))))
    (ss_seq (ss_asg (se_meth (ar_Lowering_lower_expression 3) (se_var 0) (sa_cons (se_var 4) sa_nil)) (sg_name 5))
    (ss_seq (ss_dput (se_fld T.cl_Graph T.na_Graph_kinds (se_fld T.cl_Lowering T.na_Lowering_graph (se_var 0))) (se_var 3) (se_dget (se_fld T.cl_Graph T.na_Graph_kinds (se_fld T.cl_Lowering T.na_Lowering_graph (se_var 0))) (se_var 5)))
    (ss_seq (ss_drop (se_bm sm_append (se_fld T.cl_Lowering T.na_Lowering_scope (se_var 0)) (sa_cons (se_var 3) sa_nil)))
    (ss_drop (se_meth ar_Lowering_add_point (se_var 0) (sa_cons (se_tup (sa_cons se_str (sa_cons (se_var 3) (sa_cons (se_var 5) sa_nil)))) sa_nil)))))))⟩
theorem ok_Lowering_lower_if (T : Txt K mg) (hT : Tbs T base) : FnOk P w K mg base CX0 1 T.Lowering_lower_if.f T.Lowering_lower_if.fd ["self", "statement"] (spD K T.tb 2 (m_Lowering_lower_if T.C_Graph T.C_Lowering)) :=
  def_ok (k := 0) T.Lowering_lower_if.F sc_Lowering_lower_if fun A outer s H E hr => ⟨_, pss_none,
    ss_none⟩
theorem ok_Lowering_lower_while (T : Txt K mg) (hT : Tbs T base) : FnOk P w K mg base CX0 1 T.Lowering_lower_while.f T.Lowering_lower_while.fd ["self", "statement"] (spD K T.tb 2 (m_Lowering_lower_while T.C_Graph T.C_Lowering)) :=
  def_ok (k := 0) T.Lowering_lower_while.F sc_Lowering_lower_while fun A outer s H E hr => ⟨_, pss_none,
    ss_none⟩
theorem ok_Lowering_lower_statement (T : Txt K mg) (hT : Tbs T base) : FnOk P w K mg base CX0 15 T.Lowering_lower_statement.f T.Lowering_lower_statement.fd ["self", "statement"] (spD K T.tb 2 (m_Lowering_lower_statement T.C_Graph T.C_Lowering)) :=
  def_ok (k := 14) T.Lowering_lower_statement.F sc_Lowering_lower_statement fun A outer s H E hr => ⟨_, (pss_cons (ps_set (i := 2) sc_Lowering_lower_statement.nd rfl (Or.inl rfl) (pe_ix (ix_seqK (K := K) rfl) (pv 1) pe_int (fun _ _ => rfl)))
    (pss_one (ps_if (pt_cmpR (op_eqAK (K := K) rfl hr.units) (pv 2) pe_str (nomark _)) (pss_one (ps_expr (pe_meth (pv 0) T.cl_Lowering T.Lowering_lower_if.m (ok_Lowering_lower_if T hT) (hr.mono (by omega)) T.Lowering_lower_if.b .nil pass0 (pa_cons (pv 1) pa_nil)))) (pss_one (ps_if (pt_cmpR (op_eqAK (K := K) rfl hr.units) (pv 2) pe_str (nomark _)) (pss_one (ps_expr (pe_meth (pv 0) T.cl_Lowering T.Lowering_lower_while.m (ok_Lowering_lower_while T hT) (hr.mono (by omega)) T.Lowering_lower_while.b .nil pass0 (pa_cons (pv 1) pa_nil)))) (pss_one (ps_if (pt_cmpR (op_eqAK (K := K) rfl hr.units) (pv 2) pe_str (nomark _)) (pss_one (ps_expr (pe_meth (pv 0) T.cl_Lowering T.Lowering_lower_let.m (ok_Lowering_lower_let T hT) (hr.mono (by omega)) T.Lowering_lower_let.b .nil pass0 (pa_cons (pv 1) pa_nil)))) (pss_one (ps_if (pt_cmpR (op_eqAK (K := K) rfl hr.units) (pv 2) pe_str (nomark _)) (pss_cons (ps_asg (pv 1) (pg_tup rfl (pgs_cons (pg_name (i := 3) sc_Lowering_lower_statement.nd rfl (Or.inl rfl)) (pgs_cons (pg_name (i := 4) sc_Lowering_lower_statement.nd rfl (Or.inl rfl)) (pgs_cons (pg_name (i := 5) sc_Lowering_lower_statement.nd rfl (Or.inl rfl)) pgs_nil)))))
    (pss_one (ps_expr (pe_meth (pv 0) T.cl_Lowering T.Lowering_add_point.m (ok_Lowering_add_point T hT) (hr.mono (by omega)) T.Lowering_add_point.b .nil pass0 (pa_cons (pe_tup (pa_cons pe_str (pa_cons (pv 4) (pa_cons (pe_meth (pv 0) T.cl_Lowering T.Lowering_lower_expression.m (ok_Lowering_lower_expression T hT 3) (hr.mono (by omega)) T.Lowering_lower_expression.b .nil pass0 (pa_cons (pv 5) pa_nil)) pa_nil)))) pa_nil))))) (pss_one (ps_if (pt_cmpR (op_eqAK (K := K) rfl hr.units) (pv 2) pe_str (nomark _)) (pss_one (ps_expr (pe_meth (pv 0) T.cl_Lowering T.Lowering_add_leave.m (ok_Lowering_add_leave T hT) (hr.mono (by omega)) T.Lowering_add_leave.b .nil pass0 (pa_cons (pe_meth (pv 0) T.cl_Lowering T.Lowering_lower_expression.m (ok_Lowering_lower_expression T hT 3) (hr.mono (by omega)) T.Lowering_lower_expression.b .nil pass0 (pa_cons (pe_ix (ix_seqK (K := K) rfl) (pv 1) pe_int (fun _ _ => rfl)) pa_nil)) pa_nil)))) (pss_one (ps_if (pt_cmpR (op_eqAK (K := K) rfl hr.units) (pv 2) pe_str (nomark _)) (pss_one (ps_expr (pe_meth (pv 0) T.cl_Lowering T.Lowering_add_point.m (ok_Lowering_add_point T hT) (hr.mono (by omega)) T.Lowering_add_point.b .nil pass0 (pa_cons (pe_tup (pa_cons pe_str (pa_cons (pe_meth (pv 0) T.cl_Lowering T.Lowering_lower_expression.m (ok_Lowering_lower_expression T hT 3) (hr.mono (by omega)) T.Lowering_lower_expression.b .nil pass0 (pa_cons (pe_ix (ix_seqK (K := K) rfl) (pv 1) pe_int (fun _ _ => rfl)) pa_nil)) pa_nil))) pa_nil)))) (pss_one (ps_expr (pe_meth (pv 0) T.cl_Lowering T.Lowering_add_point.m (ok_Lowering_add_point T hT) (hr.mono (by omega)) T.Lowering_add_point.b .nil pass0 (pa_cons (pe_tup (pa_cons pe_str (pa_cons (pe_meth (pv 0) T.cl_Lowering T.Lowering_lower_expression.m (ok_Lowering_lower_expression T hT 3) (hr.mono (by omega)) T.Lowering_lower_expression.b .nil pass0 (pa_cons (pe_ix (ix_seqK (K := K) rfl) (pv 1) pe_int (fun _ _ => rfl)) pa_nil)) pa_nil))) pa_nil))))))))))))))))),
    (ss_seq (ss_asg (se_op sr_ix (se_var 1) se_int) (sg_name 2))
    (ss_if (st_test (se_op sr_eq (se_var 2) se_str)) (ss_drop (se_meth ar_Lowering_lower_if (se_var 0) (sa_cons (se_var 1) sa_nil))) (ss_if (st_test (se_op sr_eq (se_var 2) se_str)) (ss_drop (se_meth ar_Lowering_lower_while (se_var 0) (sa_cons (se_var 1) sa_nil))) (ss_if (st_test (se_op sr_eq (se_var 2) se_str)) (ss_drop (se_meth ar_Lowering_lower_let (se_var 0) (sa_cons (se_var 1) sa_nil))) (ss_if (st_test (se_op sr_eq (se_var 2) se_str)) (ss_seq (ss_asg (se_var 1) (sg_tup (glen_cons (glen_cons (glen_cons glen_nil))) (sgs_cons (sg_name 3) (sgs_cons (sg_name 4) (sgs_cons (sg_name 5) sgs_nil)))))
    (ss_drop (se_meth ar_Lowering_add_point (se_var 0) (sa_cons (se_tup (sa_cons se_str (sa_cons (se_var 4) (sa_cons (se_meth (ar_Lowering_lower_expression 3) (se_var 0) (sa_cons (se_var 5) sa_nil)) sa_nil)))) sa_nil)))) (ss_if (st_test (se_op sr_eq (se_var 2) se_str)) (ss_drop (se_meth ar_Lowering_add_leave (se_var 0) (sa_cons (se_meth (ar_Lowering_lower_expression 3) (se_var 0) (sa_cons (se_op sr_ix (se_var 1) se_int) sa_nil)) sa_nil))) (ss_if (st_test (se_op sr_eq (se_var 2) se_str)) (ss_drop (se_meth ar_Lowering_add_point (se_var 0) (sa_cons (se_tup (sa_cons se_str (sa_cons (se_meth (ar_Lowering_lower_expression 3) (se_var 0) (sa_cons (se_op sr_ix (se_var 1) se_int) sa_nil)) sa_nil))) sa_nil))) (ss_drop (se_meth ar_Lowering_add_point (se_var 0) (sa_cons (se_tup (sa_cons se_str (sa_cons (se_meth (ar_Lowering_lower_expression 3) (se_var 0) (sa_cons (se_op sr_ix (se_var 1) se_int) sa_nil)) sa_nil))) sa_nil))))))))))⟩
end
end k05
namespace k05
open PySem PySem.Spec PyProof.Rows L2 GxR Gx Pd
section
variable {P : Program} {w : World} {K : PySem.W.Frag} {mg : Str → Option Value} {base : Heap}
theorem ok_Lowering_lower_block (T : Txt K mg) (hT : Tbs T base) : FnOk P w K mg base CX0 16 T.Lowering_lower_block.f T.Lowering_lower_block.fd ["self", "block"] (spD K T.tb 2 (m_Lowering_lower_block T.C_Graph T.C_Lowering)) :=
  def_ok (k := 15) T.Lowering_lower_block.F sc_Lowering_lower_block fun A outer s H E hr => ⟨_, (pss_cons (ps_set (i := 2) sc_Lowering_lower_block.nd rfl (Or.inl rfl) (pe_callB (cr_lenK (K := K) rfl) rfl T.z_len PySem.boot_len (pa_cons (pe_fldK (K := K) rfl (pv 0) rfl) pa_nil)))
    (pss_cons (ps_for PassesOwn.never rfl (pi_tupK (K := K) rfl (pv 1)) (pg_name (i := 3) sc_Lowering_lower_block.nd rfl (Or.inl rfl)) (pss_one (ps_expr (pe_meth (pv 0) T.cl_Lowering T.Lowering_lower_statement.m (ok_Lowering_lower_statement T hT) (hr.mono (by omega)) T.Lowering_lower_statement.b .nil pass0 (pa_cons (pv 3) pa_nil)))))
    (pss_cons (ps_expr (pe_meth (pv 0) T.cl_Lowering T.Lowering_add_drops.m (ok_Lowering_add_drops T hT) (hr.mono (by omega)) T.Lowering_add_drops.b .nil pass0 (pa_cons (pe_slice (sl_allK (K := K) rfl) (pe_fldK (K := K) rfl (pv 0) rfl) (po_some (pv 2)) po_none) pa_nil)))
    (pss_one (ps_fldK (K := K) rfl (pv 0) (pe_slice (sl_allK (K := K) rfl) (pe_fldK (K := K) rfl (pv 0) rfl) po_none (po_some (pv 2))) rfl))))),
    (ss_seq (ss_asg (se_cb sc_len (sa_cons (se_fld T.cl_Lowering T.na_Lowering_scope (se_var 0)) sa_nil)) (sg_name 2))
    (ss_seq (ss_for (si_tup (se_var 1)) (sg_name 3) (ss_drop (se_meth ar_Lowering_lower_statement (se_var 0) (sa_cons (se_var 3) sa_nil))))
    (ss_seq (ss_drop (se_meth ar_Lowering_add_drops (se_var 0) (sa_cons (se_sl (L := false) (se_fld T.cl_Lowering T.na_Lowering_scope (se_var 0)) (so_some (se_var 2)) so_none) sa_nil)))
    (ss_fld T.cl_Lowering T.na_Lowering_scope (se_var 0) (se_sl (L := true) (se_fld T.cl_Lowering T.na_Lowering_scope (se_var 0)) so_none (so_some (se_var 2)))))))⟩
theorem ok_Lowering_lower_function (T : Txt K mg) (hT : Tbs T base) : FnOk P w K mg base CX0 17 T.Lowering_lower_function.f T.Lowering_lower_function.fd ["self", "block"] (spD K T.tb 2 (m_Lowering_lower_function T.C_Graph T.C_Lowering)) :=
  def_ok (k := 16) T.Lowering_lower_function.F sc_Lowering_lower_function fun A outer s H E hr => ⟨_, (pss_cons (ps_expr (pe_meth (pv 0) T.cl_Lowering T.Lowering_lower_block.m (ok_Lowering_lower_block T hT) (hr.mono (by omega)) T.Lowering_lower_block.b .nil pass0 (pa_cons (pv 1) pa_nil)))
    (pss_one (ps_if (pt_cmpR (op_eqAK (K := K) rfl hr.units) (pe_fldK (K := K) rfl (pe_fldK (K := K) rfl (pv 0) rfl) rfl) (pe_tup (pa_cons pe_str pa_nil)) (nomark _)) (pss_one (ps_expr (pe_meth (pv 0) T.cl_Lowering T.Lowering_add_leave.m (ok_Lowering_add_leave T hT) (hr.mono (by omega)) T.Lowering_add_leave.b .nil pass0 (pa_cons (pe_meth (pv 0) T.cl_Lowering T.Lowering_lower_expression.m (ok_Lowering_lower_expression T hT 3) (hr.mono (by omega)) T.Lowering_lower_expression.b .nil pass0 (pa_cons (pe_tup (pa_cons pe_str pa_nil)) pa_nil)) pa_nil)))) (pss_one (ps_expr (pe_meth (pv 0) T.cl_Lowering T.Lowering_add_end.m (ok_Lowering_add_end T hT) (hr.mono (by omega)) T.Lowering_add_end.b .nil pass0 (pa_cons (pe_tup (pa_cons pe_str pa_nil)) pa_nil))))))),
    (ss_seq (ss_drop (se_meth ar_Lowering_lower_block (se_var 0) (sa_cons (se_var 1) sa_nil)))
    (ss_if (st_test (se_op sr_eq (se_fld T.cl_Graph T.na_Graph_result (se_fld T.cl_Lowering T.na_Lowering_graph (se_var 0))) (se_tup (sa_cons se_str sa_nil)))) (ss_drop (se_meth ar_Lowering_add_leave (se_var 0) (sa_cons (se_meth (ar_Lowering_lower_expression 3) (se_var 0) (sa_cons (se_tup (sa_cons se_str sa_nil)) sa_nil)) sa_nil))) (ss_drop (se_meth ar_Lowering_add_end (se_var 0) (sa_cons (se_tup (sa_cons se_str sa_nil)) sa_nil)))))⟩
theorem ok_build_graph (T : Txt K mg) (hT : Tbs T base) : FnOk P w K mg base CX0 18 T.build_graph.f T.build_graph.fd ["program", "name"] (spD K T.tb 2 (m_build_graph T.C_Graph T.C_Lowering)) :=
  def_ok (k := 17) T.build_graph.F sc_build_graph fun A outer s H E hr => ⟨_, (pss_cons (ps_set (i := 2) sc_build_graph.nd rfl (Or.inl rfl) (pe_call (ok_function_named T hT) (hr.mono (by omega)) rfl T.function_named.g T.function_named.F.kp T.function_named.b .nil pass0 (pa_cons (pv 0) (pa_cons (pv 1) pa_nil))))
    (pss_cons (ps_if (pt_cmpR op_isN (pv 2) pe_non (nomark _)) (pss_one ps_none) pss_nil)
    (pss_cons (ps_set (i := 3) sc_build_graph.nd rfl (Or.inl rfl) (pe_make T.mk_Lowering (ok_Lowering_init T hT) (hr.mono (by omega)) rfl T.g_Lowering T.Lowering___init__.b .nil pass0 (pa_cons (pv 0) (pa_cons (pv 2) pa_nil))))
    (pss_cons (ps_expr (pe_meth (pv 3) T.cl_Lowering T.Lowering_lower_function.m (ok_Lowering_lower_function T hT) (hr.mono (by omega)) T.Lowering_lower_function.b .nil pass0 (pa_cons (pe_ix (ix_seqK (K := K) rfl) (pv 2) pe_int (fun _ _ => rfl)) pa_nil)))
    (pss_one (ps_ret (pe_fldK (K := K) rfl (pv 3) rfl))))))),
    (ss_seq (ss_asg (se_call ar_function_named (sa_cons (se_var 0) (sa_cons (se_var 1) sa_nil))) (sg_name 2))
    (ss_seq (ss_if (st_test (se_op sr_isN (se_var 2) se_non)) ss_none ss_nil)
    (ss_seq (ss_asg (se_make ar_Lowering_init (sa_cons (se_var 0) (sa_cons (se_var 2) sa_nil))) (sg_name 3))
    (ss_seq (ss_drop (se_meth ar_Lowering_lower_function (se_var 3) (sa_cons (se_op sr_ix (se_var 2) se_int) sa_nil)))
    (ss_ret (se_fld T.cl_Lowering T.na_Lowering_graph (se_var 3)))))))⟩
theorem ok_law_tape (T : Txt K mg) (hT : Tbs T base) : FnOk P w K mg base CX0 1 T._law_tape.f T._law_tape.fd ["script"] (spD K T.tb 1 (m_law_tape T.C_Graph T.C_Lowering)) :=
  def_ok (k := 0) T._law_tape.F sc__law_tape fun A outer s H E hr => ⟨_, (pss_cons (ps_set (i := 1) sc__law_tape.nd rfl (Or.inl rfl) (pe_lst pa_nil))
    (pss_cons (ps_set (i := 2) sc__law_tape.nd rfl (Or.inl rfl) pe_int)
    (pss_cons (ps_for PassesOwn.never rfl (pi_lstK (K := K) rfl (pe_slice (sl_allK (K := K) rfl) (pv 0) po_none (po_some pe_int))) (pg_name (i := 3) sc__law_tape.nd rfl (Or.inl rfl)) (pss_cons (ps_set (i := 4) sc__law_tape.nd rfl (Or.inl rfl) (pe_callB call_abs rfl T.z_abs PyProof.Rows.boot_abs (pa_cons (pe_callTy call_int1 rfl T.z_int PyProof.Rows.boot_int (pa_cons (pv 3) pa_nil)) pa_nil)))
    (pss_cons (ps_set (i := 2) sc__law_tape.nd rfl (Or.inl rfl) (pe_op (op_plusK (K := K) rfl) (pv 2) (pv 4)))
    (pss_one (ps_for PassesOwn.never rfl (pi_range1 (by rfl) T.z_range (pa_cons pe_int pa_nil)) (pg_name (i := 5) sc__law_tape.nd rfl (Or.inl rfl)) (pss_cons (ps_expr (pe_bm PySem.F.plainAttrs_list PySem.F.slot_list_append PySem.F.type_list_append mt_append (pv 1) (pa_cons (pe_op op_mod (pe_callTy call_int1 rfl T.z_int PyProof.Rows.boot_int (pa_cons (pv 4) pa_nil)) pe_int) pa_nil)))
    (pss_cons (ps_set (i := 4) sc__law_tape.nd rfl (Or.inl rfl) (pe_op op_fdivW (pv 4) pe_int))
    (pss_one (ps_if (pt_cmpR (op_eqAK (K := K) rfl hr.units) (pv 4) pe_int (nomark _)) (pss_one ps_break) pss_nil)))))))))
    (pss_one (ps_ret (pe_lst (pa_cons pe_int (pa_cons (pv 1) (pa_cons (pe_op op_mod (pe_callTy call_int1 rfl T.z_int PyProof.Rows.boot_int (pa_cons (pv 2) pa_nil)) pe_int) pa_nil))))))))),
    (ss_seq (ss_asg (se_lstL sa_nil) (sg_name 1))
    (ss_seq (ss_asg se_int (sg_name 2))
    (ss_seq (ss_for (si_lst (se_sl (L := false) (se_var 0) so_none (so_some se_int))) (sg_name 3) (ss_seq (ss_asg (se_cb sc_abs (sa_cons (se_cb sc_int (sa_cons (se_var 3) sa_nil)) sa_nil)) (sg_name 4))
    (ss_seq (ss_asg (se_op (sr_plus (L := false)) (se_var 2) (se_var 4)) (sg_name 2))
    (ss_for (si_rng1 (sa_cons se_int sa_nil)) (sg_name 5) (ss_seq (ss_drop (se_bm sm_append (se_var 1) (sa_cons (se_op sr_mod (se_cb sc_int (sa_cons (se_var 4) sa_nil)) se_int) sa_nil)))
    (ss_seq (ss_asg (se_op sr_div (se_var 4) se_int) (sg_name 4))
    (ss_if (st_test (se_op sr_eq (se_var 4) se_int)) ss_brk ss_nil)))))))
    (ss_ret (se_lstL (sa_cons se_int (sa_cons (se_var 1) (sa_cons (se_op sr_mod (se_cb sc_int (sa_cons (se_var 2) sa_nil)) se_int) sa_nil))))))))⟩
theorem ok_law_next (T : Txt K mg) (hT : Tbs T base) : FnOk P w K mg base CX0 1 T._law_next.f T._law_next.fd ["tape", "many"] (spD K T.tb 2 (m_law_next T.C_Graph T.C_Lowering)) :=
  def_ok (k := 0) T._law_next.F sc__law_next fun A outer s H E hr => ⟨_, (pss_cons (ps_set (i := 2) sc__law_next.nd rfl (Or.inl rfl) (pe_ix (ix_seqK (K := K) rfl) (pv 0) pe_int (fun _ _ => rfl)))
    (pss_cons (ps_asg (pe_op (op_plusK (K := K) rfl) (pv 2) pe_int) (pg_sub (pv 0) pe_int set_list))
    (pss_cons (ps_if (pt_cmpR op_lt (pv 2) (pe_callB (cr_lenK (K := K) rfl) rfl T.z_len PySem.boot_len (pa_cons (pe_ix (ix_seqK (K := K) rfl) (pv 0) pe_int (fun _ _ => rfl)) pa_nil)) (nomark _)) (pss_one (ps_ret (pe_op op_mod (pe_callTy call_int1 rfl T.z_int PyProof.Rows.boot_int (pa_cons (pe_ix (ix_seqK (K := K) rfl) (pe_ix (ix_seqK (K := K) rfl) (pv 0) pe_int (fun _ _ => rfl)) (pv 2) (fun _ _ => rfl)) pa_nil)) (pv 1)))) pss_nil)
    (pss_one (ps_ret (pe_op op_mod (pe_op op_fdivW (pe_op op_mod (pe_callTy call_int1 rfl T.z_int PyProof.Rows.boot_int (pa_cons (pe_op (op_plusK (K := K) rfl) (pe_op op_mulA (pe_op (op_plusK (K := K) rfl) (pv 2) pe_int) pe_int) (pe_op op_mulA (pe_ix (ix_seqK (K := K) rfl) (pv 0) pe_int (fun _ _ => rfl)) pe_int)) pa_nil)) pe_int) pe_int) (pv 1))))))),
    (ss_seq (ss_asg (se_op sr_ix (se_var 0) se_int) (sg_name 2))
    (ss_seq (ss_asg (se_op (sr_plus (L := false)) (se_var 2) se_int) (sg_ix (se_var 0) se_int))
    (ss_seq (ss_if (st_test (se_op sr_lt (se_var 2) (se_cb sc_len (sa_cons (se_op sr_ix (se_var 0) se_int) sa_nil)))) (ss_ret (se_op sr_mod (se_cb sc_int (sa_cons (se_op sr_ix (se_op sr_ix (se_var 0) se_int) (se_var 2)) sa_nil)) (se_var 1))) ss_nil)
    (ss_ret (se_op sr_mod (se_op sr_div (se_op sr_mod (se_cb sc_int (sa_cons (se_op (sr_plus (L := false)) (se_op sr_mul (se_op (sr_plus (L := false)) (se_var 2) se_int) se_int) (se_op sr_mul (se_op sr_ix (se_var 0) se_int) se_int)) sa_nil)) se_int) se_int) (se_var 1))))))⟩
theorem ok_law_made (T : Txt K mg) (hT : Tbs T base) : FnOk P w K mg base CX0 1 T._law_made.f T._law_made.fd ["state", "kind"] (spD K T.tb 2 (m_law_made T.C_Graph T.C_Lowering)) :=
  def_ok (k := 0) T._law_made.F sc__law_made fun A outer s H E hr => ⟨_, (pss_cons (ps_set (i := 2) sc__law_made.nd rfl (Or.inl rfl) (pe_op (op_plusK (K := K) rfl) pe_str (pe_callTy call_str_int rfl T.z_str PyProof.Rows.boot_str (pa_cons (pe_dget (hu_of hr) (pv 0) pe_str (fun _ _ => rfl)) pa_nil))))
    (pss_cons (ps_dput (hu_of hr) (pv 0) pe_str (pe_op (op_plusK (K := K) rfl) (pe_dget (hu_of hr) (pv 0) pe_str (fun _ _ => rfl)) pe_int) rfl)
    (pss_cons (ps_set (i := 3) sc__law_made.nd rfl (Or.inl rfl) (pe_dget (hu_of hr) (pv 0) pe_str (fun _ _ => rfl)))
    (pss_cons (ps_dput (hu_of hr) (pv 3) (pv 2) (pv 1) rfl)
    (pss_one (ps_ret (pv 2))))))),
    (ss_seq (ss_asg (se_op (sr_plus (L := false)) se_str (se_cb sc_str (sa_cons (se_dget (se_var 0) se_str) sa_nil))) (sg_name 2))
    (ss_seq (ss_dput (se_var 0) se_str (se_op (sr_plus (L := false)) (se_dget (se_var 0) se_str) se_int))
    (ss_seq (ss_asg (se_dget (se_var 0) se_str) (sg_name 3))
    (ss_seq (ss_dput (se_var 3) (se_var 2) (se_var 1))
    (ss_ret (se_var 2))))))⟩
end
end k05
namespace k05
open PySem PySem.Spec PyProof.Rows L2 GxR Gx Pd
section
variable {P : Program} {w : World} {K : PySem.W.Frag} {mg : Str → Option Value} {base : Heap}
theorem ok_law_started (T : Txt K mg) (hT : Tbs T base) : FnOk P w K mg base CX0 2 T._law_started.f T._law_started.fd ["tape", "state", "mode"] (spD K T.tb 3 (m_law_started T.C_Graph T.C_Lowering)) :=
  def_ok (k := 1) T._law_started.F sc__law_started fun A outer s H E hr => ⟨_, (pss_cons (ps_set (i := 3) sc__law_started.nd rfl (Or.inl rfl) (pe_tup (pa_cons pe_str (pa_cons (pe_call (ok_law_next T hT) (hr.mono (by omega)) rfl T._law_next.g T._law_next.F.kp T._law_next.b .nil pass0 (pa_cons (pv 0) (pa_cons pe_int pa_nil))) pa_nil))))
    (pss_cons (ps_set (i := 4) sc__law_started.nd rfl (Or.inl rfl) (pe_dget (hu_of hr) (pv 1) pe_str (fun _ _ => rfl)))
    (pss_cons (ps_set (i := 5) sc__law_started.nd rfl (Or.inl rfl) (pe_tup (pa_cons pe_str (pa_cons (pe_tup (pa_cons (pe_call (ok_law_next T hT) (hr.mono (by omega)) rfl T._law_next.g T._law_next.F.kp T._law_next.b .nil pass0 (pa_cons (pv 0) (pa_cons pe_int pa_nil))) pa_nil)) pa_nil))))
    (pss_cons (ps_set (i := 6) sc__law_started.nd rfl (Or.inl rfl) (pe_call (ok_law_made T hT) (hr.mono (by omega)) rfl T._law_made.g T._law_made.F.kp T._law_made.b .nil pass0 (pa_cons (pv 1) (pa_cons (pe_tup (pa_cons (pv 2) (pa_cons (pe_tup (pa_cons pe_str pa_nil)) pa_nil))) pa_nil))))
    (pss_cons (ps_expr (pe_bm PySem.F.plainAttrs_list PySem.F.slot_list_append PySem.F.type_list_append mt_append (pv 4) (pa_cons (pe_tup (pa_cons pe_str (pa_cons (pv 6) (pa_cons (pv 2) (pa_cons (pv 5) pa_nil))))) pa_nil)))
    (pss_cons (ps_set (i := 7) sc__law_started.nd rfl (Or.inl rfl) (pe_call (ok_law_made T hT) (hr.mono (by omega)) rfl T._law_made.g T._law_made.F.kp T._law_made.b .nil pass0 (pa_cons (pv 1) (pa_cons (pe_tup (pa_cons pe_str pa_nil)) pa_nil))))
    (pss_cons (ps_expr (pe_bm PySem.F.plainAttrs_list PySem.F.slot_list_append PySem.F.type_list_append mt_append (pv 4) (pa_cons (pe_tup (pa_cons pe_str (pa_cons (pv 7) (pa_cons (pv 3) pa_nil)))) pa_nil)))
    (pss_cons (ps_set (i := 8) sc__law_started.nd rfl (Or.inl rfl) (pe_call (ok_law_made T hT) (hr.mono (by omega)) rfl T._law_made.g T._law_made.F.kp T._law_made.b .nil pass0 (pa_cons (pv 1) (pa_cons (pe_tup (pa_cons pe_str (pa_cons (pe_tup (pa_cons pe_str pa_nil)) pa_nil))) pa_nil))))
    (pss_cons (ps_expr (pe_bm PySem.F.plainAttrs_list PySem.F.slot_list_append PySem.F.type_list_append mt_append (pv 4) (pa_cons (pe_tup (pa_cons pe_str (pa_cons (pv 8) (pa_cons (pv 2) (pa_cons (pe_tup (pa_cons (pv 6) (pa_cons (pv 7) pa_nil))) pa_nil))))) pa_nil)))
    (pss_one (ps_ret (pe_tup (pa_cons (pe_tup (pa_cons pe_str (pa_cons (pv 2) (pa_cons (pe_tup (pa_cons (pe_tup (pa_cons pe_str (pa_cons (pv 2) (pa_cons (pv 5) pa_nil)))) (pa_cons (pv 3) pa_nil))) pa_nil)))) (pa_cons (pv 8) pa_nil)))))))))))))),
    (ss_seq (ss_asg (se_tup (sa_cons se_str (sa_cons (se_call ar_law_next (sa_cons (se_var 0) (sa_cons se_int sa_nil))) sa_nil))) (sg_name 3))
    (ss_seq (ss_asg (se_dget (se_var 1) se_str) (sg_name 4))
    (ss_seq (ss_asg (se_tup (sa_cons se_str (sa_cons (se_tup (sa_cons (se_call ar_law_next (sa_cons (se_var 0) (sa_cons se_int sa_nil))) sa_nil)) sa_nil))) (sg_name 5))
    (ss_seq (ss_asg (se_call ar_law_made (sa_cons (se_var 1) (sa_cons (se_tup (sa_cons (se_var 2) (sa_cons (se_tup (sa_cons se_str sa_nil)) sa_nil))) sa_nil))) (sg_name 6))
    (ss_seq (ss_drop (se_bm sm_append (se_var 4) (sa_cons (se_tup (sa_cons se_str (sa_cons (se_var 6) (sa_cons (se_var 2) (sa_cons (se_var 5) sa_nil))))) sa_nil)))
    (ss_seq (ss_asg (se_call ar_law_made (sa_cons (se_var 1) (sa_cons (se_tup (sa_cons se_str sa_nil)) sa_nil))) (sg_name 7))
    (ss_seq (ss_drop (se_bm sm_append (se_var 4) (sa_cons (se_tup (sa_cons se_str (sa_cons (se_var 7) (sa_cons (se_var 3) sa_nil)))) sa_nil)))
    (ss_seq (ss_asg (se_call ar_law_made (sa_cons (se_var 1) (sa_cons (se_tup (sa_cons se_str (sa_cons (se_tup (sa_cons se_str sa_nil)) sa_nil))) sa_nil))) (sg_name 8))
    (ss_seq (ss_drop (se_bm sm_append (se_var 4) (sa_cons (se_tup (sa_cons se_str (sa_cons (se_var 8) (sa_cons (se_var 2) (sa_cons (se_tup (sa_cons (se_var 6) (sa_cons (se_var 7) sa_nil))) sa_nil))))) sa_nil)))
    (ss_ret (se_tup (sa_cons (se_tup (sa_cons se_str (sa_cons (se_var 2) (sa_cons (se_tup (sa_cons (se_tup (sa_cons se_str (sa_cons (se_var 2) (sa_cons (se_var 5) sa_nil)))) (sa_cons (se_var 3) sa_nil))) sa_nil)))) (sa_cons (se_var 8) sa_nil)))))))))))))⟩
theorem ok_law_statement (T : Txt K mg) (hT : Tbs T base) : FnOk P w K mg base CX0 3 T._law_statement.f T._law_statement.fd ["tape", "state"] (spD K T.tb 2 (m_law_statement T.C_Graph T.C_Lowering)) :=
  def_ok (k := 2) T._law_statement.F sc__law_statement fun A outer s H E hr => ⟨_, (pss_cons (ps_set (i := 2) sc__law_statement.nd rfl (Or.inl rfl) (pe_dget (hu_of hr) (pv 1) pe_str (fun _ _ => rfl)))
    (pss_cons (ps_set (i := 3) sc__law_statement.nd rfl (Or.inl rfl) (pe_dget (hu_of hr) (pv 1) pe_str (fun _ _ => rfl)))
    (pss_cons (ps_set (i := 4) sc__law_statement.nd rfl (Or.inl rfl) (pe_call (ok_law_next T hT) (hr.mono (by omega)) rfl T._law_next.g T._law_next.F.kp T._law_next.b .nil pass0 (pa_cons (pv 0) (pa_cons pe_int pa_nil))))
    (pss_cons (ps_set (i := 5) sc__law_statement.nd rfl (Or.inl rfl) (pe_ix (ix_seqK (K := K) rfl) (pe_lst (pa_cons pe_str (pa_cons pe_str pa_nil))) (pe_call (ok_law_next T hT) (hr.mono (by omega)) rfl T._law_next.g T._law_next.F.kp T._law_next.b .nil pass0 (pa_cons (pv 0) (pa_cons pe_int pa_nil))) (fun _ _ => rfl)))
    (pss_cons (ps_if (PW.pt (pw_or (pt_cmpR (op_eqAK (K := K) rfl hr.units) (pv 4) pe_int (nomark _)) (pw_or1 (pt_cmpR (op_eqAK (K := K) rfl hr.units) (pe_callB (cr_lenK (K := K) rfl) rfl T.z_len PySem.boot_len (pa_cons (pe_dget (hu_of hr) (pv 1) pe_str (fun _ _ => rfl)) pa_nil)) pe_int (nomark _))))) (pss_cons (ps_asg (pe_call (ok_law_started T hT) (hr.mono (by omega)) rfl T._law_started.g T._law_started.F.kp T._law_started.b .nil pass0 (pa_cons (pv 0) (pa_cons (pv 1) (pa_cons (pv 5) pa_nil)))) (pg_tup rfl (pgs_cons (pg_name (i := 6) sc__law_statement.nd rfl (Or.inl rfl)) (pgs_cons (pg_name (i := 7) sc__law_statement.nd rfl (Or.inl rfl)) pgs_nil))))
    (pss_cons (ps_set (i := 8) sc__law_statement.nd rfl (Or.inl rfl) (pe_op (op_plusK (K := K) rfl) pe_str (pe_callTy call_str_int rfl T.z_str PyProof.Rows.boot_str (pa_cons (pe_callB (cr_lenK (K := K) rfl) rfl T.z_len PySem.boot_len (pa_cons (pv 2) pa_nil)) pa_nil))))
    (pss_cons (ps_expr (pe_bm PySem.F.plainAttrs_list PySem.F.slot_list_append PySem.F.type_list_append mt_append (pv 2) (pa_cons (pe_tup (pa_cons pe_str (pa_cons (pv 8) (pa_cons (pv 7) pa_nil)))) pa_nil)))
    (pss_cons (ps_dput (hu_of hr) (pv 3) (pv 8) (pe_tup (pa_cons pe_str (pa_cons (pe_tup (pa_cons pe_str pa_nil)) pa_nil))) rfl)
    (pss_cons (ps_expr (pe_bm PySem.F.plainAttrs_list PySem.F.slot_list_append PySem.F.type_list_append mt_append (pe_dget (hu_of hr) (pv 1) pe_str (fun _ _ => rfl)) (pa_cons (pv 8) pa_nil)))
    (pss_one (ps_ret (pe_tup (pa_cons pe_str (pa_cons (pv 8) (pa_cons (pv 6) pa_nil))))))))))) pss_nil)
    (pss_cons (ps_if (pt_cmpR (op_eqAK (K := K) rfl hr.units) (pv 4) pe_int (nomark _)) (pss_cons (ps_asg (pe_call (ok_law_started T hT) (hr.mono (by omega)) rfl T._law_started.g T._law_started.F.kp T._law_started.b .nil pass0 (pa_cons (pv 0) (pa_cons (pv 1) (pa_cons (pv 5) pa_nil)))) (pg_tup rfl (pgs_cons (pg_name (i := 6) sc__law_statement.nd rfl (Or.inl rfl)) (pgs_cons (pg_name (i := 7) sc__law_statement.nd rfl (Or.inl rfl)) pgs_nil))))
    (pss_cons (ps_expr (pe_bm PySem.F.plainAttrs_list PySem.F.slot_list_append PySem.F.type_list_append mt_append (pv 2) (pa_cons (pe_tup (pa_cons pe_str (pa_cons (pv 7) pa_nil))) pa_nil)))
    (pss_one (ps_ret (pe_tup (pa_cons pe_str (pa_cons (pv 6) pa_nil))))))) pss_nil)
    (pss_cons (ps_set (i := 8) sc__law_statement.nd rfl (Or.inl rfl) (pe_ix (ix_seqK (K := K) rfl) (pe_dget (hu_of hr) (pv 1) pe_str (fun _ _ => rfl)) (pe_call (ok_law_next T hT) (hr.mono (by omega)) rfl T._law_next.g T._law_next.F.kp T._law_next.b .nil pass0 (pa_cons (pv 0) (pa_cons (pe_callB (cr_lenK (K := K) rfl) rfl T.z_len PySem.boot_len (pa_cons (pe_dget (hu_of hr) (pv 1) pe_str (fun _ _ => rfl)) pa_nil)) pa_nil))) (fun _ _ => rfl)))
    (pss_cons (ps_if (pt_cmpR (op_eqAK (K := K) rfl hr.units) (pv 4) pe_int (nomark _)) (pss_cons (ps_asg (pe_call (ok_law_started T hT) (hr.mono (by omega)) rfl T._law_started.g T._law_started.F.kp T._law_started.b .nil pass0 (pa_cons (pv 0) (pa_cons (pv 1) (pa_cons (pv 5) pa_nil)))) (pg_tup rfl (pgs_cons (pg_name (i := 6) sc__law_statement.nd rfl (Or.inl rfl)) (pgs_cons (pg_name (i := 7) sc__law_statement.nd rfl (Or.inl rfl)) pgs_nil))))
    (pss_cons (ps_expr (pe_bm PySem.F.plainAttrs_list PySem.F.slot_list_append PySem.F.type_list_append mt_append (pv 2) (pa_cons (pe_tup (pa_cons pe_str (pa_cons (pe_tup (pa_cons (pv 8) (pa_cons (pe_tup pa_nil) pa_nil))) (pa_cons (pv 7) pa_nil)))) pa_nil)))
    (pss_one (ps_ret (pe_tup (pa_cons pe_str (pa_cons (pe_tup (pa_cons (pv 8) (pa_cons (pe_tup pa_nil) pa_nil))) (pa_cons (pv 6) pa_nil)))))))) pss_nil)
    (pss_cons (ps_set (i := 9) sc__law_statement.nd rfl (Or.inl rfl) (pe_call (ok_law_made T hT) (hr.mono (by omega)) rfl T._law_made.g T._law_made.F.kp T._law_made.b .nil pass0 (pa_cons (pv 1) (pa_cons (pe_tup (pa_cons pe_str (pa_cons (pe_tup (pa_cons pe_str pa_nil)) pa_nil))) pa_nil))))
    (pss_cons (ps_expr (pe_bm PySem.F.plainAttrs_list PySem.F.slot_list_append PySem.F.type_list_append mt_append (pv 2) (pa_cons (pe_tup (pa_cons pe_str (pa_cons (pv 9) (pa_cons (pe_tup (pa_cons (pv 8) (pa_cons (pe_tup pa_nil) pa_nil))) pa_nil)))) pa_nil)))
    (pss_cons (ps_set (i := 10) sc__law_statement.nd rfl (Or.inl rfl) (pe_call (ok_law_made T hT) (hr.mono (by omega)) rfl T._law_made.g T._law_made.F.kp T._law_made.b .nil pass0 (pa_cons (pv 1) (pa_cons (pe_tup (pa_cons pe_str pa_nil)) pa_nil))))
    (pss_cons (ps_expr (pe_bm PySem.F.plainAttrs_list PySem.F.slot_list_append PySem.F.type_list_append mt_append (pv 2) (pa_cons (pe_tup (pa_cons pe_str (pa_cons (pv 10) (pa_cons (pv 9) pa_nil)))) pa_nil)))
    (pss_cons (ps_expr (pe_bm PySem.F.plainAttrs_list PySem.F.slot_list_append PySem.F.type_list_append mt_append (pv 2) (pa_cons (pe_tup (pa_cons pe_str (pa_cons (pv 10) pa_nil))) pa_nil)))
    (pss_one (ps_ret (pe_tup (pa_cons pe_str (pa_cons (pe_tup (pa_cons pe_str (pa_cons (pe_tup (pa_cons pe_str (pa_cons (pe_tup (pa_cons (pv 8) (pa_cons (pe_tup pa_nil) pa_nil))) pa_nil))) pa_nil))) pa_nil)))))))))))))))))),
    (ss_seq (ss_asg (se_dget (se_var 1) se_str) (sg_name 2))
    (ss_seq (ss_asg (se_dget (se_var 1) se_str) (sg_name 3))
    (ss_seq (ss_asg (se_call ar_law_next (sa_cons (se_var 0) (sa_cons se_int sa_nil))) (sg_name 4))
    (ss_seq (ss_asg (se_op sr_ix (se_lstF (sa_cons se_str (sa_cons se_str sa_nil))) (se_call ar_law_next (sa_cons (se_var 0) (sa_cons se_int sa_nil)))) (sg_name 5))
    (ss_seq (ss_if (st_or (st_test (se_op sr_eq (se_var 4) se_int)) (st_test (se_op sr_eq (se_cb sc_len (sa_cons (se_dget (se_var 1) se_str) sa_nil)) se_int))) (ss_seq (ss_asg (se_call ar_law_started (sa_cons (se_var 0) (sa_cons (se_var 1) (sa_cons (se_var 5) sa_nil)))) (sg_tup (glen_cons (glen_cons glen_nil)) (sgs_cons (sg_name 6) (sgs_cons (sg_name 7) sgs_nil))))
    (ss_seq (ss_asg (se_op (sr_plus (L := false)) se_str (se_cb sc_str (sa_cons (se_cb sc_len (sa_cons (se_var 2) sa_nil)) sa_nil))) (sg_name 8))
    (ss_seq (ss_drop (se_bm sm_append (se_var 2) (sa_cons (se_tup (sa_cons se_str (sa_cons (se_var 8) (sa_cons (se_var 7) sa_nil)))) sa_nil)))
    (ss_seq (ss_dput (se_var 3) (se_var 8) (se_tup (sa_cons se_str (sa_cons (se_tup (sa_cons se_str sa_nil)) sa_nil))))
    (ss_seq (ss_drop (se_bm sm_append (se_dget (se_var 1) se_str) (sa_cons (se_var 8) sa_nil)))
    (ss_ret (se_tup (sa_cons se_str (sa_cons (se_var 8) (sa_cons (se_var 6) sa_nil)))))))))) ss_nil)
    (ss_seq (ss_if (st_test (se_op sr_eq (se_var 4) se_int)) (ss_seq (ss_asg (se_call ar_law_started (sa_cons (se_var 0) (sa_cons (se_var 1) (sa_cons (se_var 5) sa_nil)))) (sg_tup (glen_cons (glen_cons glen_nil)) (sgs_cons (sg_name 6) (sgs_cons (sg_name 7) sgs_nil))))
    (ss_seq (ss_drop (se_bm sm_append (se_var 2) (sa_cons (se_tup (sa_cons se_str (sa_cons (se_var 7) sa_nil))) sa_nil)))
    (ss_ret (se_tup (sa_cons se_str (sa_cons (se_var 6) sa_nil)))))) ss_nil)
    (ss_seq (ss_asg (se_op sr_ix (se_dget (se_var 1) se_str) (se_call ar_law_next (sa_cons (se_var 0) (sa_cons (se_cb sc_len (sa_cons (se_dget (se_var 1) se_str) sa_nil)) sa_nil)))) (sg_name 8))
    (ss_seq (ss_if (st_test (se_op sr_eq (se_var 4) se_int)) (ss_seq (ss_asg (se_call ar_law_started (sa_cons (se_var 0) (sa_cons (se_var 1) (sa_cons (se_var 5) sa_nil)))) (sg_tup (glen_cons (glen_cons glen_nil)) (sgs_cons (sg_name 6) (sgs_cons (sg_name 7) sgs_nil))))
    (ss_seq (ss_drop (se_bm sm_append (se_var 2) (sa_cons (se_tup (sa_cons se_str (sa_cons (se_tup (sa_cons (se_var 8) (sa_cons (se_tup sa_nil) sa_nil))) (sa_cons (se_var 7) sa_nil)))) sa_nil)))
    (ss_ret (se_tup (sa_cons se_str (sa_cons (se_tup (sa_cons (se_var 8) (sa_cons (se_tup sa_nil) sa_nil))) (sa_cons (se_var 6) sa_nil))))))) ss_nil)
    (ss_seq (ss_asg (se_call ar_law_made (sa_cons (se_var 1) (sa_cons (se_tup (sa_cons se_str (sa_cons (se_tup (sa_cons se_str sa_nil)) sa_nil))) sa_nil))) (sg_name 9))
    (ss_seq (ss_drop (se_bm sm_append (se_var 2) (sa_cons (se_tup (sa_cons se_str (sa_cons (se_var 9) (sa_cons (se_tup (sa_cons (se_var 8) (sa_cons (se_tup sa_nil) sa_nil))) sa_nil)))) sa_nil)))
    (ss_seq (ss_asg (se_call ar_law_made (sa_cons (se_var 1) (sa_cons (se_tup (sa_cons se_str sa_nil)) sa_nil))) (sg_name 10))
    (ss_seq (ss_drop (se_bm sm_append (se_var 2) (sa_cons (se_tup (sa_cons se_str (sa_cons (se_var 10) (sa_cons (se_var 9) sa_nil)))) sa_nil)))
    (ss_seq (ss_drop (se_bm sm_append (se_var 2) (sa_cons (se_tup (sa_cons se_str (sa_cons (se_var 10) sa_nil))) sa_nil)))
    (ss_ret (se_tup (sa_cons se_str (sa_cons (se_tup (sa_cons se_str (sa_cons (se_tup (sa_cons se_str (sa_cons (se_tup (sa_cons (se_var 8) (sa_cons (se_tup sa_nil) sa_nil))) sa_nil))) sa_nil))) sa_nil)))))))))))))))))⟩
theorem ok_law (T : Txt K mg) (hT : Tbs T base) : FnOk P w K mg base CX0 19 T.law.f T.law.fd ["script"] (spD K T.tb 1 (m_law T.C_Graph T.C_Lowering)) :=
  def_ok (k := 18) T.law.F sc_law fun A outer s H E hr => ⟨_, (pss_cons (ps_set (i := 1) sc_law.nd rfl (Or.inr rfl) (pe_call (ok_law_tape T hT) (hr.mono (by omega)) rfl T._law_tape.g T._law_tape.F.kp T._law_tape.b .nil pass0 (pa_cons (pv 0) pa_nil)))
    (pss_cons (ps_set (i := 2) sc_law.nd rfl (Or.inr rfl) pe_dnewK)
    (pss_cons (ps_dput (hu_of hr) (pv 2) pe_str pe_int rfl)
    (pss_cons (ps_dput (hu_of hr) (pv 2) pe_str (pe_lst pa_nil) rfl)
    (pss_cons (ps_dput (hu_of hr) (pv 2) pe_str (pe_disp (pps_cons pe_str (pe_tup (pa_cons pe_str (pa_cons (pe_tup (pa_cons (pe_tup (pa_cons pe_str pa_nil)) (pa_cons (pe_tup (pa_cons pe_str pa_nil)) pa_nil))) pa_nil))) (pps_cons pe_str (pe_tup (pa_cons pe_str pa_nil)) pps_nil)) rfl rfl (List.cons_ne_nil _ _) (Nat.le_of_ble_eq_true rfl)) rfl)
    (pss_cons (ps_dput (hu_of hr) (pv 2) pe_str (pe_lst pa_nil) rfl)
    (pss_cons (ps_set (i := 4) sc_law.nd rfl (Or.inl rfl) (pe_callTy (cr_tupK (K := K) rfl) rfl T.z_tuple PyProof.Rows.boot_tuple (pa_cons (pe_lc (own := [("k", 3)]) (tt := tYes) rfl sc_law.nd (pi_range1 (by rfl) T.z_range (pa_cons (pe_op (op_plusK (K := K) rfl) pe_int (pe_call (ok_law_next T hT) (hr.mono (by omega)) rfl T._law_next.g T._law_next.F.kp T._law_next.b .nil pass0 (pa_cons (pv 1) (pa_cons pe_int pa_nil)))) pa_nil)) (blkOk_by (N := ["script", "tape", "state", "k", "block", "points", "last", "integer", "functions", "mode", "given", "parameters", "main", "program", "graph", "following"]) (sc := defScope s_law) (by decide +kernel)) (fun _ _ _ _ _ => (pg_name (i := 3) sc_law.nd rfl (Or.inl rfl))) (fun _ _ _ _ _ => pts_nil) (fun _ _ _ _ _ => (pe_call (ok_law_statement T hT) (hr.mono (by omega)) rfl T._law_statement.g T._law_statement.F.kp T._law_statement.b .nil pass0 (pa_cons (pv 1) (pa_cons (pv 2) pa_nil))))) pa_nil)))
    (pss_cons (ps_set (i := 5) sc_law.nd rfl (Or.inl rfl) (pe_dget (hu_of hr) (pv 2) pe_str (fun _ _ => rfl)))
    (pss_cons (ps_for PassesOwn.never rfl (pi_range1 (by rfl) T.z_range (pa_cons (pe_callB (cr_lenK (K := K) rfl) rfl T.z_len PySem.boot_len (pa_cons (pe_dget (hu_of hr) (pv 2) pe_str (fun _ _ => rfl)) pa_nil)) pa_nil)) (pg_name (i := 3) sc_law.nd rfl (Or.inl rfl)) (pss_one (ps_expr (pe_bm PySem.F.plainAttrs_list PySem.F.slot_list_append PySem.F.type_list_append mt_append (pv 5) (pa_cons (pe_tup (pa_cons pe_str (pa_cons (pe_ix (ix_seqK (K := K) rfl) (pe_dget (hu_of hr) (pv 2) pe_str (fun _ _ => rfl)) (pe_op op_sub (pe_op op_sub (pe_callB (cr_lenK (K := K) rfl) rfl T.z_len PySem.boot_len (pa_cons (pe_dget (hu_of hr) (pv 2) pe_str (fun _ _ => rfl)) pa_nil)) pe_int) (pv 3)) (fun _ _ => rfl)) pa_nil))) pa_nil)))))
    (pss_cons (ps_set (i := 6) sc_law.nd rfl (Or.inl rfl) (pe_call (ok_law_made T hT) (hr.mono (by omega)) rfl T._law_made.g T._law_made.F.kp T._law_made.b .nil pass0 (pa_cons (pv 2) (pa_cons (pe_tup (pa_cons pe_str pa_nil)) pa_nil))))
    (pss_cons (ps_expr (pe_bm PySem.F.plainAttrs_list PySem.F.slot_list_extend PySem.F.type_list_extend mt_extendL (pv 5) (pa_cons (pe_lst (pa_cons (pe_tup (pa_cons pe_str (pa_cons (pv 6) (pa_cons (pe_tup (pa_cons pe_str pa_nil)) pa_nil)))) (pa_cons (pe_tup (pa_cons pe_str (pa_cons pe_str pa_nil))) (pa_cons (pe_tup (pa_cons pe_str (pa_cons pe_str pa_nil))) (pa_cons (pe_tup (pa_cons pe_str (pa_cons (pv 6) pa_nil))) pa_nil))))) pa_nil)))
    (pss_cons (ps_set (i := 7) sc_law.nd rfl (Or.inl rfl) (pe_tup (pa_cons pe_str pa_nil)))
    (pss_cons (ps_set (i := 8) sc_law.nd rfl (Or.inl rfl) (pe_lst pa_nil))
    (pss_cons (ps_for PassesOwn.never rfl (pi_lstK (K := K) rfl (pe_lst (pa_cons pe_str (pa_cons pe_str pa_nil)))) (pg_name (i := 9) sc_law.nd rfl (Or.inl rfl)) (pss_cons (ps_set (i := 10) sc_law.nd rfl (Or.inl rfl) (pe_tup (pa_cons (pe_tup (pa_cons pe_str (pa_cons (pe_tup (pa_cons (pv 9) (pa_cons (pv 7) pa_nil))) pa_nil))) (pa_cons (pe_tup (pa_cons pe_str (pa_cons (pv 7) pa_nil))) pa_nil))))
    (pss_one (ps_expr (pe_bm PySem.F.plainAttrs_list PySem.F.slot_list_append PySem.F.type_list_append mt_append (pv 8) (pa_cons (pe_tup (pa_cons (pv 9) (pa_cons (pv 10) (pa_cons (pv 7) (pa_cons (pe_tup pa_nil) (pa_cons (pe_tup (pa_cons (pe_tup (pa_cons pe_str (pa_cons (pe_tup (pa_cons pe_str (pa_cons pe_int pa_nil))) pa_nil))) pa_nil)) pa_nil)))))) pa_nil))))))
    (pss_cons (ps_set (i := 11) sc_law.nd rfl (Or.inl rfl) (pe_tup (pa_cons (pe_tup (pa_cons pe_str (pa_cons (pe_tup (pa_cons pe_str (pa_cons (pe_tup (pa_cons (pv 7) (pa_cons (pv 7) pa_nil))) pa_nil))) pa_nil))) (pa_cons (pe_tup (pa_cons pe_str (pa_cons (pv 7) pa_nil))) pa_nil))))
    (pss_cons (ps_set (i := 12) sc_law.nd rfl (Or.inl rfl) (pe_tup (pa_cons pe_str (pa_cons (pe_tup pa_nil) (pa_cons (pe_tup (pa_cons pe_str pa_nil)) (pa_cons (pe_tup pa_nil) (pa_cons (pe_tup pa_nil) pa_nil)))))))
    (pss_cons (ps_set (i := 13) sc_law.nd rfl (Or.inl rfl) (pe_tup (pa_cons (pe_tup pa_nil) (pa_cons (pe_op (op_plusK (K := K) rfl) (pe_callTy (cr_tupK (K := K) rfl) rfl T.z_tuple PyProof.Rows.boot_tuple (pa_cons (pv 8) pa_nil)) (pe_tup (pa_cons (pe_tup (pa_cons pe_str (pa_cons (pv 11) (pa_cons (pe_tup (pa_cons pe_str pa_nil)) (pa_cons (pe_tup pa_nil) (pa_cons (pv 4) pa_nil)))))) (pa_cons (pv 12) pa_nil)))) pa_nil))))
    (pss_cons (ps_set (i := 14) sc_law.nd rfl (Or.inl rfl) (pe_call (ok_build_graph T hT) (hr.mono (by omega)) rfl T.build_graph.g T.build_graph.F.kp T.build_graph.b .nil pass0 (pa_cons (pv 13) (pa_cons pe_str pa_nil))))
    (pss_cons (ps_set (i := 15) sc_law.nd rfl (Or.inl rfl) (pe_op (op_plusK (K := K) rfl) (pe_callTy (cr_tupK (K := K) rfl) rfl T.z_tuple PyProof.Rows.boot_tuple (pa_cons (pe_lc (own := [("k", 3)]) (tt := tYes) rfl sc_law.nd (pi_range1 (by rfl) T.z_range (pa_cons (pe_op op_sub (pe_callB (cr_lenK (K := K) rfl) rfl T.z_len PySem.boot_len (pa_cons (pv 5) pa_nil)) pe_int) pa_nil)) (blkOk_by (N := ["script", "tape", "state", "k", "block", "points", "last", "integer", "functions", "mode", "given", "parameters", "main", "program", "graph", "following"]) (sc := defScope s_law) (by decide +kernel)) (fun _ _ _ _ _ => (pg_name (i := 3) sc_law.nd rfl (Or.inl rfl))) (fun _ _ _ _ _ => pts_nil) (fun _ _ _ _ _ => (pe_tup (pa_cons (pe_op (op_plusK (K := K) rfl) (pv 3) pe_int) pa_nil)))) pa_nil)) (pe_tup (pa_cons (pe_tup pa_nil) pa_nil))))
    (pss_cons (ps_if (PW.pt (pw_or (pt_cmpR (op_neAK (K := K) rfl hr.units) (pe_callTy (cr_tupK (K := K) rfl) rfl T.z_tuple PyProof.Rows.boot_tuple (pa_cons (pe_fldK (K := K) rfl (pv 14) rfl) pa_nil)) (pe_callTy (cr_tupK (K := K) rfl) rfl T.z_tuple PyProof.Rows.boot_tuple (pa_cons (pv 5) pa_nil)) (nomark _)) (pw_or1 (pt_cmpR (op_neAK (K := K) rfl hr.units) (pe_callTy (cr_tupK (K := K) rfl) rfl T.z_tuple PyProof.Rows.boot_tuple (pa_cons (pe_fldK (K := K) rfl (pv 14) rfl) pa_nil)) (pv 15) (nomark _))))) (pss_one (ps_ret pe_bl)) pss_nil)
    (pss_cons (ps_if (PW.pt (pw_or (pt_cmpR (op_neAK (K := K) rfl hr.units) (pe_fldK (K := K) rfl (pv 14) rfl) (pe_tup (pa_cons pe_str (pa_cons pe_str pa_nil))) (nomark _)) (pw_or (pt_cmpR (op_neAK (K := K) rfl hr.units) (pe_fldK (K := K) rfl (pv 14) rfl) (pe_tup (pa_cons pe_str pa_nil)) (nomark _)) (pw_or (pt_cmpR (op_neAK (K := K) rfl hr.units) (pe_fldK (K := K) rfl (pv 14) rfl) (pe_tup pa_nil) (nomark _)) (pw_or1 (pt_cmpR (op_neAK (K := K) rfl hr.units) (pe_fldK (K := K) rfl (pv 14) rfl) pe_str (nomark _))))))) (pss_one (ps_ret pe_bl)) pss_nil)
    (pss_one (ps_ret (pe_cmpR (op_eqDct (K := K) rfl hr.units) (pe_fldK (K := K) rfl (pv 14) rfl) (pe_dget (hu_of hr) (pv 2) pe_str (fun _ _ => rfl)) (nomark _))))))))))))))))))))))))),
    (ss_seq (ss_asg (se_call ar_law_tape (sa_cons (se_var 0) sa_nil)) (sg_name 1))
    (ss_seq (ss_asg se_dnew (sg_name 2))
    (ss_seq (ss_dput (se_var 2) se_str se_int)
    (ss_seq (ss_dput (se_var 2) se_str (se_lstL sa_nil))
    (ss_seq (ss_dput (se_var 2) se_str (se_disp (sp_cons se_str (se_tup (sa_cons se_str (sa_cons (se_tup (sa_cons (se_tup (sa_cons se_str sa_nil)) (sa_cons (se_tup (sa_cons se_str sa_nil)) sa_nil))) sa_nil))) (sp_cons se_str (se_tup (sa_cons se_str sa_nil)) sp_nil))))
    (ss_seq (ss_dput (se_var 2) se_str (se_lstL sa_nil))
    (ss_seq (ss_asg (se_cb sc_tuple (sa_cons (se_lc smk_F (si_rng1 (sa_cons (se_op (sr_plus (L := false)) se_int (se_call ar_law_next (sa_cons (se_var 1) (sa_cons se_int sa_nil)))) sa_nil)) (sg_name 3) (by decide) st_yes (se_call ar_law_statement (sa_cons (se_var 1) (sa_cons (se_var 2) sa_nil)))) sa_nil)) (sg_name 4))
    (ss_seq (ss_asg (se_dget (se_var 2) se_str) (sg_name 5))
    (ss_seq (ss_for (si_rng1 (sa_cons (se_cb sc_len (sa_cons (se_dget (se_var 2) se_str) sa_nil)) sa_nil)) (sg_name 3) (ss_drop (se_bm sm_append (se_var 5) (sa_cons (se_tup (sa_cons se_str (sa_cons (se_op sr_ix (se_dget (se_var 2) se_str) (se_op sr_sub (se_op sr_sub (se_cb sc_len (sa_cons (se_dget (se_var 2) se_str) sa_nil)) se_int) (se_var 3))) sa_nil))) sa_nil))))
    (ss_seq (ss_asg (se_call ar_law_made (sa_cons (se_var 2) (sa_cons (se_tup (sa_cons se_str sa_nil)) sa_nil))) (sg_name 6))
    (ss_seq (ss_drop (se_bm sm_extend (se_var 5) (sa_cons (se_lstF (sa_cons (se_tup (sa_cons se_str (sa_cons (se_var 6) (sa_cons (se_tup (sa_cons se_str sa_nil)) sa_nil)))) (sa_cons (se_tup (sa_cons se_str (sa_cons se_str sa_nil))) (sa_cons (se_tup (sa_cons se_str (sa_cons se_str sa_nil))) (sa_cons (se_tup (sa_cons se_str (sa_cons (se_var 6) sa_nil))) sa_nil))))) sa_nil)))
    (ss_seq (ss_asg (se_tup (sa_cons se_str sa_nil)) (sg_name 7))
    (ss_seq (ss_asg (se_lstL sa_nil) (sg_name 8))
    (ss_seq (ss_for (si_lst (se_lstF (sa_cons se_str (sa_cons se_str sa_nil)))) (sg_name 9) (ss_seq (ss_asg (se_tup (sa_cons (se_tup (sa_cons se_str (sa_cons (se_tup (sa_cons (se_var 9) (sa_cons (se_var 7) sa_nil))) sa_nil))) (sa_cons (se_tup (sa_cons se_str (sa_cons (se_var 7) sa_nil))) sa_nil))) (sg_name 10))
    (ss_drop (se_bm sm_append (se_var 8) (sa_cons (se_tup (sa_cons (se_var 9) (sa_cons (se_var 10) (sa_cons (se_var 7) (sa_cons (se_tup sa_nil) (sa_cons (se_tup (sa_cons (se_tup (sa_cons se_str (sa_cons (se_tup (sa_cons se_str (sa_cons se_int sa_nil))) sa_nil))) sa_nil)) sa_nil)))))) sa_nil)))))
    (ss_seq (ss_asg (se_tup (sa_cons (se_tup (sa_cons se_str (sa_cons (se_tup (sa_cons se_str (sa_cons (se_tup (sa_cons (se_var 7) (sa_cons (se_var 7) sa_nil))) sa_nil))) sa_nil))) (sa_cons (se_tup (sa_cons se_str (sa_cons (se_var 7) sa_nil))) sa_nil))) (sg_name 11))
    (ss_seq (ss_asg (se_tup (sa_cons se_str (sa_cons (se_tup sa_nil) (sa_cons (se_tup (sa_cons se_str sa_nil)) (sa_cons (se_tup sa_nil) (sa_cons (se_tup sa_nil) sa_nil)))))) (sg_name 12))
    (ss_seq (ss_asg (se_tup (sa_cons (se_tup sa_nil) (sa_cons (se_op (sr_plus (L := false)) (se_cb sc_tuple (sa_cons (se_var 8) sa_nil)) (se_tup (sa_cons (se_tup (sa_cons se_str (sa_cons (se_var 11) (sa_cons (se_tup (sa_cons se_str sa_nil)) (sa_cons (se_tup sa_nil) (sa_cons (se_var 4) sa_nil)))))) (sa_cons (se_var 12) sa_nil)))) sa_nil))) (sg_name 13))
    (ss_seq (ss_asg (se_call ar_build_graph (sa_cons (se_var 13) (sa_cons se_str sa_nil))) (sg_name 14))
    (ss_seq (ss_asg (se_op (sr_plus (L := false)) (se_cb sc_tuple (sa_cons (se_lc smk_F (si_rng1 (sa_cons (se_op sr_sub (se_cb sc_len (sa_cons (se_var 5) sa_nil)) se_int) sa_nil)) (sg_name 3) (by decide) st_yes (se_tup (sa_cons (se_op (sr_plus (L := false)) (se_var 3) se_int) sa_nil))) sa_nil)) (se_tup (sa_cons (se_tup sa_nil) sa_nil))) (sg_name 15))
    (ss_seq (ss_if (st_or (st_test (se_op sr_ne (se_cb sc_tuple (sa_cons (se_fld T.cl_Graph T.na_Graph_points (se_var 14)) sa_nil)) (se_cb sc_tuple (sa_cons (se_var 5) sa_nil)))) (st_test (se_op sr_ne (se_cb sc_tuple (sa_cons (se_fld T.cl_Graph T.na_Graph_successors (se_var 14)) sa_nil)) (se_var 15)))) (ss_ret se_bl) ss_nil)
    (ss_seq (ss_if (st_or (st_test (se_op sr_ne (se_fld T.cl_Graph T.na_Graph_parameters (se_var 14)) (se_tup (sa_cons se_str (sa_cons se_str sa_nil))))) (st_or (st_test (se_op sr_ne (se_fld T.cl_Graph T.na_Graph_result (se_var 14)) (se_tup (sa_cons se_str sa_nil)))) (st_or (st_test (se_op sr_ne (se_fld T.cl_Graph T.na_Graph_sources (se_var 14)) (se_tup sa_nil))) (st_test (se_op sr_ne (se_fld T.cl_Graph T.na_Graph_name (se_var 14)) se_str))))) (ss_ret se_bl) ss_nil)
    (ss_ret (se_op sr_eqDct (se_fld T.cl_Graph T.na_Graph_kinds (se_var 14)) (se_dget (se_var 2) se_str))))))))))))))))))))))))⟩
end
end k05
namespace Pd
open PySem L2
section
variable {S : Mem}
theorem mod_p {i j : Int} (h : 0 < j) : oMod (.d (.int i)) (.d (.int j)) S = some (.d (.int (i % j)), S) := by
  show ((if decide (0 < j) = true then some (PyData.int (i % j)) else none).map _) = _
  rw [if_pos (decide_eq_true h)]; rfl
theorem div_p {i j : Int} (h : 0 < j ∧ j.natAbs.log2 < 9000) : oDiv (.d (.int i)) (.d (.int j)) S = some (.d (.int (i / j)), S) := by
  show ((if decide (0 < j ∧ j.natAbs.log2 < 9000) = true then some (PyData.int (i / j)) else none).map _) = _
  rw [if_pos (decide_eq_true h)]; rfl
theorem mul_p {i j : Int} (h : -(2 ^ 64) < j ∧ j < 2 ^ 64) : oMul (.d (.int i)) (.d (.int j)) S = some (.d (.int (i * j)), S) := by
  show ((if decide _ = true then some (PyData.int (i * j)) else none).map _) = _
  rw [if_pos (decide_eq_true (.inl (.inr h)))]; rfl
theorem mApp {n : Nat} {ws : List W} {w : W} (h : S[n]? = some (.lst ws)) (hl : ws.length < sizeLine) : mAppend (.loc n) [w] S = some (.d .none, S.set n (.lst (ws ++ [w]))) := by
  show (lstAt (.loc n) S).bind _ = _
  rw [lstAt_loc h]
  simp only [Option.bind_some]
  rw [if_pos hl]
theorem v_dput {o i x : ME} {ρ : Env'} {S1 S2 S3 : Mem} {v p z : W} {n : Nat} {kvs : KW} {k : Key} (h1 : x ρ S = some (v, S1)) (h2 : o ρ S1 = some (p, S2)) (h3 : i ρ S2 = some (z, S3)) (h4 : dctAt p S3 = some (n, kvs)) (h5 : keyW z = some k) (hl : kvs.length < sizeLine) :
    sDPutW o i x ρ S = some (.nx, ρ, S3.set n (.dct (putD kvs k v))) := by
  unfold sDPutW
  rw [h1]; simp only [Option.bind_some, h2, h3, h4, h5]
  rw [if_pos hl]
theorem v_dget {o i : ME} {ρ : Env'} {S1 S2 : Mem} {p z w : W} {n : Nat} {kvs : KW} {k : Key} (h1 : o ρ S = some (p, S1)) (h2 : i ρ S1 = some (z, S2)) (h3 : dctAt p S2 = some (n, kvs)) (h4 : keyW z = some k) (h5 : valW kvs k = some w) : eDGet o i ρ S = some (w, S2) := by
  unfold eDGet
  rw [h1]; simp only [Option.bind_some, h2, h3, h4, h5, Option.map_some]
theorem v_meth {C : Addr} {m : Str} {f : MF} {o : ME} {a : MA} {ρ : Env'} {S1 S2 : Mem} {p : W} {ws : List W} {n : Nat} {fs : FW} {r : Option (W × Mem)} (h1 : o ρ S = some (p, S1)) (h2 : insAt p S1 = some (n, C, fs)) (h3 : fs.lookup m = none) (h4 : a ρ S1 = some (ws, S2)) (h5 : f (p :: ws) S2 = r) : eMeth C m f o a ρ S = r := by
  unfold eMeth
  rw [h1]; simp only [Option.bind_some, h2]
  rw [if_pos ⟨trivial, h3⟩, h4]
  exact h5
theorem v_fld {C : Addr} {o : ME} {f : Str} {ρ : Env'} {S1 : Mem} {p w : W} {n : Nat} {fs : FW} (h1 : o ρ S = some (p, S1)) (h2 : insAt p S1 = some (n, C, fs)) (h3 : fs.lookup f = some w) : eFld C o f ρ S = some (w, S1) := by
  unfold eFld
  rw [h1]; simp only [Option.bind_some, h2]
  rw [if_pos trivial, h3]; rfl
theorem v_fldput {C : Addr} {o x : ME} {f : Str} {ρ : Env'} {S1 S2 : Mem} {v p : W} {n : Nat} {fs : FW} (h1 : x ρ S = some (v, S1)) (h2 : o ρ S1 = some (p, S2)) (h3 : insAt p S2 = some (n, C, fs)) (h4 : fs.length < 1000) : sFldW C o f x ρ S = some (.nx, ρ, S2.set n (.ins C (putW f v fs))) := by
  unfold sFldW
  rw [h1]; simp only [Option.bind_some, h2, h3]
  rw [if_pos ⟨trivial, h4⟩]
theorem v_fldaug {C : Addr} {o x : ME} {f : Str} {ρ : Env'} {S1 S2 : Mem} {p : W} {n n2 : Nat} {fs fs2 : FW} {i j : Int} (h1 : o ρ S = some (p, S1)) (h2 : insAt p S1 = some (n, C, fs)) (h3 : fs.lookup f = some (.d (.int i))) (h4 : x ρ S1 = some (.d (.int j), S2)) (h5 : insAt p S2 = some (n2, C, fs2)) (h6 : fs2.length < 1000) :
    sFldAugW C o f x ρ S = some (.nx, ρ, S2.set n2 (.ins C (putW f (.d (.int (i + j))) fs2))) := by
  unfold sFldAugW
  rw [h1]; simp only [Option.bind_some, h2, h3, h4, h5]
  rw [if_pos ⟨trivial, trivial, h6⟩]
end
/-- a for over values: each turn carries the state on, or breaks off -/
theorem forM_brk {g : MG} {b : MS} {ws : List W} (Inv : Nat → Env' → Mem → Prop) (Brk : Env' → Mem → Prop)
    (step : ∀ i w ρ S, ws[i]? = some w → Inv i ρ S → ∃ ρ1 S1, g w ρ S = some (ρ1, S1) ∧ ((∃ ρ2 S2, b ρ1 S1 = some (.nx, ρ2, S2) ∧ Inv (i + 1) ρ2 S2) ∨ ∃ ρ2 S2, b ρ1 S1 = some (.bk, ρ2, S2) ∧ Brk ρ2 S2)) :
    ∀ (k i : Nat) ρ S, ws.length - i = k → i ≤ ws.length → Inv i ρ S → ∃ ρ' S', forM (.vals ws) g b k i ρ S = some (.nx, ρ', S') ∧ (Inv ws.length ρ' S' ∨ Brk ρ' S') := by
  intro k
  induction k with
  | zero =>
    intro i ρ S hk hi h
    have e : i = ws.length := by omega
    subst e
    refine ⟨ρ, S, ?_, .inl h⟩
    unfold forM
    have : (Itm.vals ws).at_ S ws.length = some none := by show some ws[ws.length]? = _; simp
    rw [this]
  | succ k ih =>
    intro i ρ S hk hi h
    have hlt : i < ws.length := by omega
    have ha : (Itm.vals ws).at_ S i = some (some ws[i]) := by show some ws[i]? = _; simp [hlt]
    obtain ⟨ρ1, S1, e1, h1⟩ := step i ws[i] ρ S (List.getElem?_eq_getElem hlt) h
    rcases h1 with ⟨ρ2, S2, e2, h2⟩ | ⟨ρ2, S2, e2, h2⟩
    · obtain ⟨ρ', S', e3, h3⟩ := ih (i + 1) ρ2 S2 (by omega) hlt h2
      refine ⟨ρ', S', ?_, h3⟩
      unfold forM
      rw [ha]
      simp only [e1, e2, Option.bind_some]
      exact e3
    · refine ⟨ρ2, S2, ?_, .inr h2⟩
      unfold forM
      rw [ha]
      simp only [e1, e2, Option.bind_some]
end Pd
namespace k05
open PySem L2 Pd
/-! ### texts -/
abbrev NS (n : Nat) : Str := Str.ofString (toString (n : Int))
theorem num_len : ∀ m : Fin 256, (NS m.val).length ≤ 4 := by decide +kernel
theorem ns_len {n : Nat} (h : n < 256) : (NS n).length ≤ 4 := num_len ⟨n, h⟩
def TN (n : Nat) : Str := ("#" : Str) ++ NS n
def VN (n : Nat) : Str := ("t" : Str) ++ NS n
theorem ok_ofString (s : String) : PyData.strOk (Str.ofString s) = true := by
  unfold PyData.strOk
  rw [Str.ofString_eq_toList, ← Array.all_toList]
  simp only [List.all_map, List.all_eq_true, Function.comp]
  intro c _
  refine decide_eq_true ?_
  have := c.valid
  show c.val.toNat < 0x110000
  rcases this with h | ⟨_, h⟩
  · exact Nat.lt_trans h (by decide)
  · exact h
theorem ok_app {a b : Str} (ha : PyData.strOk a = true) (hb : PyData.strOk b = true) : PyData.strOk (a ++ b) = true := by
  unfold PyData.strOk at *
  show (a.cps ++ b.cps).all _ = true
  rw [Array.all_append, ha, hb]; rfl
theorem ok_TN (n : Nat) : PyData.strOk (TN n) = true := ok_app (ok_ofString _) (ok_ofString _)
theorem ok_VN (n : Nat) : PyData.strOk (VN n) = true := ok_app (ok_ofString _) (ok_ofString _)
theorem hd_app (a : Nat) (l : Array Nat) : (#[a] ++ l)[0]? = some a := by simp [Array.getElem?_append]
theorem hd_TN (n : Nat) : (TN n).cps[0]? = some 35 := hd_app 35 _
theorem hd_VN (n : Nat) : (VN n).cps[0]? = some 116 := hd_app 116 _
theorem TN_VN (n m : Nat) : VN n ≠ TN m := fun h => by
  have := congrArg (fun s : Str => s.cps[0]?) h
  simp only [hd_TN, hd_VN] at this
  cases this
theorem TN_x (n : Nat) : TN n ≠ "x" := fun h => by
  have := congrArg (fun s : Str => s.cps[0]?) h
  simp only [hd_TN] at this
  exact absurd this (by decide +kernel)
theorem VN_x (n : Nat) : VN n ≠ "x" := fun h => by
  have := congrArg (fun s : Str => s.cps[0]?) h
  simp only [hd_VN] at this
  exact absurd this (by decide +kernel)
theorem log2_small {n : Nat} (h : n < 256) : ((n : Int).natAbs.log2 < 1920) := by
  show n.log2 < 1920
  have : n < 2 ^ 8 := h
  by_cases h0 : n = 0
  · subst h0; decide
  · exact Nat.lt_trans ((Nat.log2_lt h0).mpr this) (by decide)
theorem str_p {S : Mem} {n : Nat} (h : n < 256) : bStr [.d (.int (n : Int))] S = some (.d (.str (NS n)), S) := by
  show (if decide ((n : Int).natAbs.log2 < 1920) = true then _ else _) = _
  rw [if_pos (decide_eq_true (log2_small h))]
theorem plus_s {S : Mem} {a b : Str} (h : a.length + b.length ≤ sizeLine) : oPlus false (.d (.str a)) (.d (.str b)) S = some (.d (.str (a ++ b)), S) := by
  show (if a.length + b.length ≤ sizeLine then _ else _) = _
  rw [if_pos h]
theorem l1 (n : Nat) (h : n < 256) (a : Str) (ha : a.length = 1) : a.length + (NS n).length ≤ sizeLine := by
  have := ns_len h
  rw [ha]
  exact Nat.le_trans (show 1 + (NS n).length ≤ 5 by omega) (by decide)
/-! ### keys -/
theorem valW_put_same (kvs : KW) (k : Key) (w : W) : valW (putD kvs k w) k = some w := by
  unfold putD
  split
  · rename_i h
    unfold valW
    induction kvs with
    | nil => cases h
    | cons p r ih =>
      rw [List.map_cons, List.find?_cons]
      by_cases e : p.1 = k
      · simp only [e, if_true, decide_true, Option.map_some]
      · rw [List.any_cons, decide_eq_false e, Bool.false_or] at h
        rw [if_neg e]
        simp only [decide_eq_false e]
        exact ih h
  · rename_i h
    unfold valW
    rw [List.find?_append]
    have : (kvs.find? fun kv => decide (kv.1 = k)) = none := by
      rw [List.find?_eq_none]
      intro p hp hk
      exact h (List.any_eq_true.mpr ⟨p, hp, hk⟩)
    rw [this]
    simp
theorem valW_put_ne {kvs : KW} {k j : Key} {w : W} (hne : j ≠ k) : valW (putD kvs k w) j = valW kvs j := by
  unfold putD
  split
  · rename_i hh
    clear hh
    unfold valW
    induction kvs with
    | nil => rfl
    | cons p r ih =>
      rw [List.map_cons, List.find?_cons, List.find?_cons]
      by_cases e : p.1 = k
      · have : ¬ k = j := fun z => hne z.symm
        have h2 : ¬ p.1 = j := fun z => hne (z.symm.trans e)
        simp only [e, if_true, this, decide_false]
        have : (decide (k = j)) = false := decide_eq_false (fun z => hne z.symm)
        simpa [e, this] using ih
      · rw [if_neg e]
        by_cases e2 : p.1 = j
        · simp only [decide_eq_true e2]
        · simp only [decide_eq_false e2]
          exact ih
  · unfold valW
    rw [List.find?_append]
    cases h : kvs.find? fun kv => decide (kv.1 = j) with
    | some p => rfl
    | none =>
      have : ¬ k = j := fun z => hne z.symm
      simp [this]
theorem put_keys (kvs : KW) (k : Key) (w : W) : (putD kvs k w).map (·.1) = kvs.map (·.1) ∨ (k ∉ kvs.map (·.1) ∧ (putD kvs k w).map (·.1) = kvs.map (·.1) ++ [k]) := by
  have hm : ((kvs.any fun kv => decide (kv.1 = k)) = true) ↔ k ∈ kvs.map (·.1) := by
    rw [List.any_eq_true, List.mem_map]
    constructor
    · rintro ⟨p, hp, e⟩; exact ⟨p, hp, of_decide_eq_true e⟩
    · rintro ⟨p, hp, e⟩; exact ⟨p, hp, decide_eq_true e⟩
  unfold putD
  by_cases h : k ∈ kvs.map (·.1)
  · rw [if_pos (hm.mpr h), List.map_map]
    refine .inl (List.map_congr_left fun p _ => ?_)
    show (if p.1 = k then (p.1, w) else p).1 = p.1
    split <;> rfl
  · rw [if_neg (fun z => h (hm.mp z)), List.map_append]
    exact .inr ⟨h, rfl⟩
theorem put_nodup {kvs : KW} {k : Key} {w : W} (h : (kvs.map (·.1)).Nodup) : ((putD kvs k w).map (·.1)).Nodup := by
  rcases put_keys kvs k w with e | ⟨hk, e⟩
  · rw [e]; exact h
  · rw [e, List.nodup_append]
    exact ⟨h, by simp, fun a ha b hb e => hk (by rw [List.mem_singleton.mp hb] at e; rw [← e]; exact ha)⟩
theorem put_len (kvs : KW) (k : Key) (w : W) : (putD kvs k w).length ≤ kvs.length + 1 := by
  rcases put_keys kvs k w with e | ⟨_, e⟩
  · have := congrArg List.length e
    rw [List.length_map, List.length_map] at this
    omega
  · have := congrArg List.length e
    rw [List.length_map, List.length_append, List.length_map] at this
    simp at this
    omega
theorem put_mem {kvs : KW} {k : Key} {w : W} {p : Key × W} (h : p ∈ putD kvs k w) : p ∈ kvs ∨ p.2 = w := by
  unfold putD at h
  split at h
  · obtain ⟨q, hq, e⟩ := List.mem_map.mp h
    split at e
    · subst e; exact .inr rfl
    · subst e; exact .inl hq
  · rcases List.mem_append.mp h with h | h
    · exact .inl h
    · rw [List.mem_singleton.mp h]; exact .inr rfl
theorem nodup_val {kvs : KW} (h : (kvs.map (·.1)).Nodup) {p : Key × W} (hp : p ∈ kvs) : valW kvs p.1 = some p.2 := by
  induction kvs with
  | nil => cases hp
  | cons a r ih =>
    rw [List.map_cons, List.nodup_cons] at h
    unfold valW
    rw [List.find?_cons]
    rcases List.mem_cons.mp hp with rfl | hp
    · simp
    · have hne : ¬ a.1 = p.1 := fun z => h.1 (by rw [z]; exact List.mem_map_of_mem hp)
      simp only [hne, decide_false]
      exact ih h.2 hp
end k05
namespace k05
open PySem L2 Pd
section
variable {CG CL : Addr}
def iW (i : Int) : W := .d (.int i)
/-- the tape, and what lies behind it -/
def TS (nums : List Int) (a t : Int) (r : Mem) : Mem := .lst (nums.map iW) :: .lst [.d (.int a), .loc 0, .d (.int t)] :: r
theorem next_ok (nums : List Int) (a t m : Int) (r : Mem) (h0 : 0 ≤ a) (hm : 0 < m) : ∃ v, 0 ≤ v ∧ v < m ∧ m_law_next CG CL [.loc 1, .d (.int m)] (TS nums a t r) = some (.d (.int v), TS nums (a + 1) t r) := by
  have e0 : sAsg (eOp oIx (eVar 0) (eC (.int (0)))) (gN 2) [some (.loc 1), some (.d (.int m)), none] (TS nums a t r) = some (.nx, [some (.loc 1), some (.d (.int m)), some (.d (.int a))], TS nums a t r) := by rfl
  have e1 : sAsg (eOp (oPlus false) (eVar 2) (eC (.int (1)))) (gIx (eVar 0) (eC (.int (0)))) [some (.loc 1), some (.d (.int m)), some (.d (.int a))] (TS nums a t r) = some (.nx, [some (.loc 1), some (.d (.int m)), some (.d (.int a))], TS nums (a + 1) t r) := by rfl
  have e2 : eB (eOp oLt (eVar 2) (eCall bLen (aCons (eOp oIx (eVar 0) (eC (.int (1)))) aNil))) [some (.loc 1), some (.d (.int m)), some (.d (.int a))] (TS nums (a + 1) t r) = some (decide (a < ((nums.map iW).length : Int)), TS nums (a + 1) t r) := by rfl
  by_cases hlt : a < ((nums.map iW).length : Int)
  · rw [decide_eq_true hlt] at e2
    obtain ⟨x, q1, q2⟩ := atI_ok h0 hlt
    rw [List.getElem?_map] at q1
    obtain ⟨q, q3, rfl⟩ := Option.map_eq_some_iff.mp q1
    refine ⟨q % m, Int.emod_nonneg _ (by omega), Int.emod_lt_of_pos _ hm, ?_⟩
    have e3 : eOp oIx (eOp oIx (eVar 0) (eC (.int (1)))) (eVar 2) [some (.loc 1), some (.d (.int m)), some (.d (.int a))] (TS nums (a + 1) t r) = some (.d (.int q), TS nums (a + 1) t r) := by
      refine v_op (x := .loc 0) (S1 := TS nums (a + 1) t r) (by rfl) (y := .d (.int a)) (S2 := TS nums (a + 1) t r) (by rfl) ?_
      rw [oIx_loc (ws := nums.map iW) (by rfl), q2]
      rfl
    exact v_def rfl (v_nx e0 (v_nx e1 (v_rt (v_ifT e2 (v_ret (v_op (v_call (v_cons e3 rfl) (by rfl)) (by rfl) (mod_p hm))))))) rfl
  · rw [decide_eq_false hlt] at e2
    refine ⟨((a + 1) * 48271 + t * 69621) % 2147483647 / 11 % m, Int.emod_nonneg _ (by omega), Int.emod_lt_of_pos _ hm, ?_⟩
    refine v_def rfl (v_nx e0 (v_nx e1 (v_nx (v_ifF e2 (by rfl)) (v_ret (v_op (v_op (v_op (v_call (ws := [.d (.int ((a + 1) * 48271 + t * 69621))]) (v_cons (v_op (v_op (by rfl) (by rfl) (mul_p (by decide))) (v_op (x := .d (.int t)) (by rfl) (by rfl) (mul_p (by decide))) (by rfl)) rfl) (by rfl)) (by rfl) (mod_p (by decide))) (by rfl) (div_p (by decide))) (by rfl) (mod_p hm)))))) rfl
theorem mul24 {i : Nat} (h : i ≤ 63) : 24 * i + 24 < sizeLine := Nat.lt_of_le_of_lt (show 24 * i + 24 ≤ 1536 by omega) (by decide)
theorem cut63 {α β : Type} (f : α → β) (xs : List α) : cutL (xs.map f) none (some 63) = (xs.take 63).map f := by
  unfold cutL
  rw [HT.sIx_none, show (some (63 : Int)) = some ((63 : Nat) : Int) from rfl, HT.sIx_nat, List.drop_zero, Nat.sub_zero, List.length_map, ← List.map_take]
  congr 1
  by_cases h : xs.length ≤ 63
  · rw [Nat.min_eq_right h, List.take_of_length_le (Nat.le_refl _), List.take_of_length_le h]
  · rw [Nat.min_eq_left (by omega)]
theorem tape_ok (ns : List Int) : ∃ (nums : List Int) (t : Int), m_law_tape CG CL [.d (.dict [(.none, .list (ns.map .int))])] [] = some (.loc 1, TS nums 0 t []) := by
  let D : W := .d (.dict [(.none, .list (ns.map .int))])
  let M (nums : List Int) : Mem := [.lst (nums.map iW)]
  let En (t : Int) (x3 x4 x5 : Option W) : Env' := [some D, some (.loc 0), some (.d (.int t)), x3, x4, x5]
  let ws : List W := ((ns.take 63).map PyData.int).map W.d
  have hws : ws.length ≤ 63 := by
    simp only [ws, List.length_map, List.length_take]
    exact Nat.min_le_left _ _
  let inner : MS := (sSeq (sDrop (eBm mAppend (eVar 1) (aCons (eOp oMod (eCall bInt (aCons (eVar 4) aNil)) (eC (.int (60)))) aNil)))
    (sSeq (sAsg (eOp oDiv (eVar 4) (eC (.int (60)))) (gN 4))
    (sIf (eB (eOp (oEq false) (eVar 4) (eC (.int (0))))) sBrk sNx)))
  let outer : MS := (sSeq (sAsg (eCall bAbs (aCons (eCall bInt (aCons (eVar 3) aNil)) aNil)) (gN 4))
    (sSeq (sAsg (eOp (oPlus false) (eVar 2) (eVar 4)) (gN 2))
    (sFor (iRng1M (aCons (eC (.int (24))) aNil)) (gN 5) inner)))
  let rs : List W := (List.range (24 : Int).toNat).map fun (j : Nat) => W.d (.int (0 + (j : Int)))
  have hrs : rs.length = 24 := by simp [rs]
  obtain ⟨ρ', S', e2, nums, t, x3, x4, x5, rfl, rfl, _⟩ := forM_vals (g := gN 3) (b := outer) (ws := ws) (fun i ρ S => ∃ nums t x3 x4 x5, S = M nums ∧ ρ = En t x3 x4 x5 ∧ nums.length ≤ 24 * i) (fun i v ρ S hv hI => by
    obtain ⟨nums, t, x3, x4, x5, rfl, rfl, hl⟩ := hI
    have hi : i < 63 := by
      have := (List.getElem?_eq_some_iff.mp hv).1
      omega
    obtain ⟨q, rfl⟩ : ∃ q : Int, v = .d (.int q) := by
      have hm := List.mem_of_getElem? hv
      simp only [ws, List.map_map, List.mem_map] at hm
      obtain ⟨q, _, rfl⟩ := hm
      exact ⟨q, rfl⟩
    let z0 : Int := if q < 0 then -q else q
    obtain ⟨ρ2, S2, e3, hp⟩ := forM_brk (g := gN 5) (b := inner) (ws := rs) (fun j ρ S => ∃ nums z x5, S = M nums ∧ ρ = En (t + z0) (some (.d (.int q))) (some (.d (.int z))) x5 ∧ nums.length ≤ 24 * i + j) (fun ρ S => ∃ nums z x5, S = M nums ∧ ρ = En (t + z0) (some (.d (.int q))) (some (.d (.int z))) x5 ∧ nums.length ≤ 24 * i + 24) (fun j v ρ S hv hI => by
      obtain ⟨nums, z, x5, rfl, rfl, hl⟩ := hI
      have hj : j < 24 := by
        have := (List.getElem?_eq_some_iff.mp hv).1
        omega
      have hM : (M nums)[0]? = some (.lst (nums.map iW)) := rfl
      have e4 : sDrop (eBm mAppend (eVar 1) (aCons (eOp oMod (eCall bInt (aCons (eVar 4) aNil)) (eC (.int (60)))) aNil)) (En (t + z0) (some (.d (.int q))) (some (.d (.int z))) (some v)) (M nums) = some (.nx, En (t + z0) (some (.d (.int q))) (some (.d (.int z))) (some v), M (nums ++ [z % 60])) := by
        refine v_drop (w := .d .none) (v_bm (x := .loc 0) (S1 := M nums) (by rfl) (itemsL_loc hM) (ws := [.d (.int (z % 60))]) (S2 := M nums) (v_cons (v_op (x := .d (.int z)) (S1 := M nums) (by rfl) (y := .d (.int 60)) (S2 := M nums) (by rfl) (mod_p (by decide))) rfl) ?_)
        rw [mApp hM (by
          have : (nums.map iW).length < 24 * i + 24 := by rw [List.length_map]; omega
          exact Nat.lt_trans this (mul24 (Nat.le_of_lt hi)))]
        show some (W.d .none, [Ob.lst (nums.map iW ++ [iW (z % 60)])]) = some (W.d .none, [Ob.lst ((nums ++ [z % 60]).map iW)])
        rw [List.map_append]; rfl
      have e5 : sAsg (eOp oDiv (eVar 4) (eC (.int (60)))) (gN 4) (En (t + z0) (some (.d (.int q))) (some (.d (.int z))) (some v)) (M (nums ++ [z % 60])) = some (.nx, En (t + z0) (some (.d (.int q))) (some (.d (.int (z / 60)))) (some v), M (nums ++ [z % 60])) :=
        v_asg (v_op (x := .d (.int z)) (S1 := M (nums ++ [z % 60])) (by rfl) (y := .d (.int 60)) (S2 := M (nums ++ [z % 60])) (by rfl) (div_p ⟨by decide, by decide⟩)) (by rfl)
      have e6 : eB (eOp (oEq false) (eVar 4) (eC (.int (0)))) (En (t + z0) (some (.d (.int q))) (some (.d (.int (z / 60)))) (some v)) (M (nums ++ [z % 60])) = some (decide (z / 60 = 0), M (nums ++ [z % 60])) := by rfl
      refine ⟨_, M nums, rfl, ?_⟩
      by_cases hz : z / 60 = 0
      · rw [decide_eq_true hz] at e6
        exact .inr ⟨_, _, v_nx e4 (v_nx e5 (v_ifT e6 (by rfl))), nums ++ [z % 60], z / 60, _, rfl, rfl, by rw [List.length_append]; simp; omega⟩
      · rw [decide_eq_false hz] at e6
        exact .inl ⟨_, _, v_nx e4 (v_nx e5 (v_ifF e6 (by rfl))), nums ++ [z % 60], z / 60, _, rfl, rfl, by rw [List.length_append]; simp; omega⟩) rs.length 0 (En (t + z0) (some (.d (.int q))) (some (.d (.int z0))) x5) (M nums) (by omega) (Nat.zero_le _) ⟨nums, z0, x5, rfl, rfl, by omega⟩
    have hp' : ∃ nums z x5, S2 = M nums ∧ ρ2 = En (t + z0) (some (.d (.int q))) (some (.d (.int z))) x5 ∧ nums.length ≤ 24 * i + 24 := by
      rcases hp with ⟨nums, z, x5, h1, h2, h3⟩ | h
      · exact ⟨nums, z, x5, h1, h2, by omega⟩
      · exact h
    obtain ⟨nums2, z, x5', rfl, rfl, hl2⟩ := hp'
    have e7 : sAsg (eCall bAbs (aCons (eCall bInt (aCons (eVar 3) aNil)) aNil)) (gN 4) (En t (some (.d (.int q))) x4 x5) (M nums) = some (.nx, En t (some (.d (.int q))) (some (.d (.int z0))) x5, M nums) := by rfl
    have e8 : sAsg (eOp (oPlus false) (eVar 2) (eVar 4)) (gN 2) (En t (some (.d (.int q))) (some (.d (.int z0))) x5) (M nums) = some (.nx, En (t + z0) (some (.d (.int q))) (some (.d (.int z0))) x5, M nums) := by rfl
    exact ⟨_, M nums, _, M nums2, rfl, v_nx e7 (v_nx e8 (v_for (v_rng1 (S1 := M nums) (i := 24) (by rfl) (by decide) (by decide)) e3)), nums2, t + z0, _, _, _, rfl, rfl, by omega⟩) ws.length 0 (En 1 none none none) (M []) (by omega) (Nat.zero_le _) ⟨[], 1, none, none, none, rfl, rfl, Nat.zero_le _⟩
  refine ⟨nums, t % 1000003, ?_⟩
  have es : iLstM (eSl false (eVar 0) pNone (pSome (eC (.int (63))))) (En 1 none none none) (M []) = some (.vals ws, M []) := by
    refine v_ilst (ds := (ns.take 63).map .int) ?_
    show ((dOf (cutL ((ns.map PyData.int).map W.d) none (some 63))).map fun ds => (W.d (.list ds), M [])) = _
    rw [cut63, List.map_take, ← List.map_take, ← List.map_take, dOf_map]
    rfl
  refine v_def rfl (v_nx (v_asg (w := .loc 0) (S1 := M []) (by rfl) (by rfl)) (v_nx (v_asg (w := .d (.int 1)) (S1 := M []) (by rfl) (by rfl)) (v_nx (v_for es e2) (v_ret (v_lstL (v_cons (x := .d (.int 0)) (S1 := M nums) (by rfl) (v_cons (x := .loc 0) (S1 := M nums) (by rfl) (v_cons (v_op (x := .d (.int t)) (S1 := M nums) (by rfl) (y := .d (.int 1000003)) (S2 := M nums) (by rfl) (mod_p (by decide))) rfl))) (by rfl)))))) rfl
/-! ### the law's own state -/
structure St where
  m : Nat
  pts : List PyData
  kinds : KW
  names : List Str
def IK : PyData := .tuple [.str "int"]
def TK : PyData := .tuple [.str "task", IK]
def UK : PyData := .tuple [.str "unit"]
def MK (mode : Str) : PyData := .tuple [.str mode, IK]
def plc (i : Int) : PyData := .tuple [.str "x", .tuple [.int i]]
def pln (x : Str) : PyData := .tuple [.str x, .tuple []]
def num (v : Int) : PyData := .tuple [.str "int", .int v]
def trB (mode : Str) (i : Int) : PyData := .tuple [.str "borrow", .str mode, plc i]
def trS (mode : Str) (i v : Int) : PyData := .tuple [.str "spawn", .str mode, .tuple [trB mode i, num v]]
/-- a temporary of a kind, and the instruction that sets it -/
def St.tmp (σ : St) (kind : PyData) (ins : PyData) : St := { m := σ.m + 1, pts := σ.pts ++ [ins], kinds := putD σ.kinds (.inr (TN σ.m)) (.d kind), names := σ.names }
def St.emit (σ : St) (p : PyData) : St := { σ with pts := σ.pts ++ [p] }
def St.started (σ : St) (mode : Str) (i v : Int) : St :=
  ((σ.tmp (MK mode) (.tuple [.str "borrow", .str (TN σ.m), .str mode, plc i])).tmp IK (.tuple [.str "set", .str (TN (σ.m + 1)), num v])).tmp TK (.tuple [.str "spawn", .str (TN (σ.m + 2)), .str mode, .tuple [.str (TN σ.m), .str (TN (σ.m + 1))]])
def St.letS (σ : St) (mode : Str) (i v : Int) : St :=
  let τ := σ.started mode i v
  let x := VN τ.pts.length
  { m := τ.m, pts := τ.pts ++ [.tuple [.str "let", .str x, .str (TN (σ.m + 2))]], kinds := putD τ.kinds (.inr x) (.d TK), names := τ.names ++ [x] }
def St.prnt (σ : St) (x : Str) : St :=
  ((σ.tmp TK (.tuple [.str "move", .str (TN σ.m), pln x])).tmp IK (.tuple [.str "join", .str (TN (σ.m + 1)), .str (TN σ.m)])).emit (.tuple [.str "print", .str (TN (σ.m + 1))])
/-- a statement, and what it does -/
inductive Step (σ : St) : PyData → St → Prop where
  | let_ (mode : Str) (i v : Int) (hm : mode = "shared" ∨ mode = "exclusive") (hi : i = 0 ∨ i = 1) : Step σ (.tuple [.str "let", .str (VN (σ.started mode i v).pts.length), trS mode i v]) (σ.letS mode i v)
  | do_ (mode : Str) (i v : Int) (hm : mode = "shared" ∨ mode = "exclusive") (hi : i = 0 ∨ i = 1) : Step σ (.tuple [.str "do", trS mode i v]) ((σ.started mode i v).emit (.tuple [.str "drop", .str (TN (σ.m + 2))]))
  | store (x : Str) (hx : x ∈ σ.names) (mode : Str) (i v : Int) (hm : mode = "shared" ∨ mode = "exclusive") (hi : i = 0 ∨ i = 1) : Step σ (.tuple [.str "store", pln x, trS mode i v]) ((σ.started mode i v).emit (.tuple [.str "store", pln x, .str (TN (σ.m + 2))]))
  | print (x : Str) (hx : x ∈ σ.names) : Step σ (.tuple [.str "print", .tuple [.str "join", .tuple [.str "use", pln x]]]) (σ.prnt x)
def nmW (x : Str) : W := .d (.str x)
/-- the objects of the law's state -/
def LR (σ : St) : Mem := [.dct [(.inr "made", .d (.int (σ.m : Int))), (.inr "points", .loc 3), (.inr "kinds", .loc 4), (.inr "names", .loc 5)], .lst (σ.pts.map .d), .dct σ.kinds, .lst (σ.names.map nmW)]
def Bd (σ : St) (n : Nat) : Prop := σ.m ≤ n ∧ σ.pts.length ≤ n ∧ σ.kinds.length ≤ n ∧ σ.names.length ≤ n
theorem sz {n : Nat} (h : n ≤ 200) : n < sizeLine := Nat.lt_of_le_of_lt h (by decide)
theorem Bd.tmp {σ : St} {n : Nat} {k i : PyData} (h : Bd σ n) : Bd (σ.tmp k i) (n + 1) := by
  obtain ⟨h1, h2, h3, h4⟩ := h
  refine ⟨Nat.succ_le_succ h1, ?_, Nat.le_trans (put_len _ _ _) (Nat.succ_le_succ h3), Nat.le_succ_of_le h4⟩
  show (σ.pts ++ [i]).length ≤ _
  rw [List.length_append]; exact Nat.succ_le_succ h2
theorem Bd.emit {σ : St} {n : Nat} {i : PyData} (h : Bd σ n) : Bd (σ.emit i) (n + 1) := by
  obtain ⟨h1, h2, h3, h4⟩ := h
  refine ⟨Nat.le_succ_of_le h1, ?_, Nat.le_succ_of_le h3, Nat.le_succ_of_le h4⟩
  show (σ.pts ++ [i]).length ≤ _
  rw [List.length_append]; exact Nat.succ_le_succ h2
theorem Bd.started {σ : St} {n : Nat} {mode : Str} {i v : Int} (h : Bd σ n) : Bd (σ.started mode i v) (n + 3) := h.tmp.tmp.tmp
/-- a name is made -/
theorem made_ok {σ : St} {n : Nat} {nums : List Int} {a t : Int} {kind : PyData} (h : Bd σ n) (hn : n ≤ 200) :
    m_law_made CG CL [.loc 2, .d kind] (TS nums a t (LR σ)) = some (.d (.str (TN σ.m)), TS nums a t (LR { m := σ.m + 1, pts := σ.pts, kinds := putD σ.kinds (.inr (TN σ.m)) (.d kind), names := σ.names })) := by
  have hm : σ.m < 256 := Nat.lt_of_le_of_lt h.1 (by omega)
  have e1 : eOp (oPlus false) (eC (.str "#")) (eCall bStr (aCons (eDGet (eVar 0) (eC (.str "made"))) aNil)) [some (.loc 2), some (.d kind), none, none] (TS nums a t (LR σ)) = some (.d (.str (TN σ.m)), TS nums a t (LR σ)) :=
    v_op (x := .d (.str "#")) (S1 := TS nums a t (LR σ)) (by rfl) (v_call (ws := [.d (.int (σ.m : Int))]) (S1 := TS nums a t (LR σ)) (by rfl) (str_p hm)) (plus_s (l1 σ.m hm _ (by decide +kernel)))
  let σ' : St := { m := σ.m + 1, pts := σ.pts, kinds := σ.kinds, names := σ.names }
  have e2 : sDPutW (eVar 0) (eC (.str "made")) (eOp (oPlus false) (eDGet (eVar 0) (eC (.str "made"))) (eC (.int (1)))) [some (.loc 2), some (.d kind), some (.d (.str (TN σ.m))), none] (TS nums a t (LR σ)) = some (.nx, [some (.loc 2), some (.d kind), some (.d (.str (TN σ.m))), none], TS nums a t (LR σ')) := by
    refine (v_dput (v := .d (.int ((σ.m : Int) + 1))) (S1 := TS nums a t (LR σ)) (by rfl) (p := .loc 2) (S2 := TS nums a t (LR σ)) (by rfl) (z := .d (.str "made")) (S3 := TS nums a t (LR σ)) (by rfl) (n := 2) (kvs := [(.inr "made", .d (.int (σ.m : Int))), (.inr "points", .loc 3), (.inr "kinds", .loc 4), (.inr "names", .loc 5)]) (by rfl) (k := .inr "made") (by rfl) (by show 4 < sizeLine; decide)).trans ?_
    rfl
  have e3 : sDPutW (eVar 3) (eVar 2) (eVar 1) [some (.loc 2), some (.d kind), some (.d (.str (TN σ.m))), some (.loc 4)] (TS nums a t (LR σ')) = some (.nx, [some (.loc 2), some (.d kind), some (.d (.str (TN σ.m))), some (.loc 4)], TS nums a t (LR { m := σ.m + 1, pts := σ.pts, kinds := putD σ.kinds (.inr (TN σ.m)) (.d kind), names := σ.names })) :=
    v_dput (v := .d kind) (S1 := TS nums a t (LR σ')) (by rfl) (p := .loc 4) (S2 := TS nums a t (LR σ')) (by rfl) (z := .d (.str (TN σ.m))) (S3 := TS nums a t (LR σ')) (by rfl) (n := 4) (kvs := σ.kinds) (by rfl) (k := .inr (TN σ.m)) (by rfl) (sz (Nat.le_trans h.2.2.1 hn))
  exact v_def rfl (v_nx (v_asg e1 (by rfl)) (v_nx e2 (v_nx (v_asg (w := .loc 4) (S1 := TS nums a t (LR σ')) (by rfl) (by rfl)) (v_nx e3 (v_ret (by rfl)))))) rfl
/-- an instruction is put down -/
theorem pt_app {σ : St} {n : Nat} {nums : List Int} {a t : Int} {p : PyData} (h : Bd σ n) (hn : n ≤ 200) : mAppend (.loc 3) [.d p] (TS nums a t (LR σ)) = some (.d .none, TS nums a t (LR (σ.emit p))) := by
  rw [mApp (ws := σ.pts.map .d) (by rfl) (by rw [List.length_map]; exact sz (Nat.le_trans h.2.1 hn))]
  show some (W.d .none, Ob.lst _ :: Ob.lst _ :: [_, Ob.lst (σ.pts.map W.d ++ [.d p]), _, _]) = some (W.d .none, Ob.lst _ :: Ob.lst _ :: [_, Ob.lst ((σ.pts ++ [p]).map W.d), _, _])
  rw [List.map_append]; rfl
end
end k05
namespace k05
open PySem L2 Pd
section
variable {CG CL : Addr}
theorem started_ok {σ : St} {n : Nat} {nums : List Int} {a t : Int} {mode : Str} (h : Bd σ n) (hn : n ≤ 190) (h0 : 0 ≤ a) :
    ∃ (a' i v : Int), 0 ≤ a' ∧ (i = 0 ∨ i = 1) ∧ m_law_started CG CL [.loc 1, .loc 2, .d (.str mode)] (TS nums a t (LR σ)) = some (.d (.tuple [trS mode i v, .str (TN (σ.m + 2))]), TS nums a' t (LR (σ.started mode i v))) := by
  obtain ⟨v, _, _, e1⟩ := next_ok (CG := CG) (CL := CL) nums a t 60 (LR σ) h0 (by decide)
  obtain ⟨i, hi0, hi1, e2⟩ := next_ok (CG := CG) (CL := CL) nums (a + 1) t 2 (LR σ) (by omega) (by decide)
  refine ⟨a + 1 + 1, i, v, by omega, by omega, ?_⟩
  let M (τ : St) : Mem := TS nums (a + 1 + 1) t (LR τ)
  let B : List (Option W) := [some (.loc 1), some (.loc 2), some (.d (.str mode))]
  let σ1 := σ.tmp (MK mode) (.tuple [.str "borrow", .str (TN σ.m), .str mode, plc i])
  let σ2 := σ1.tmp IK (.tuple [.str "set", .str (TN (σ.m + 1)), num v])
  have hb1 : Bd σ1 (n + 1) := h.tmp
  have hb2 : Bd σ2 (n + 2) := hb1.tmp
  let σ1' : St := { m := σ.m + 1, pts := σ.pts, kinds := putD σ.kinds (.inr (TN σ.m)) (.d (MK mode)), names := σ.names }
  let σ2' : St := { m := σ1.m + 1, pts := σ1.pts, kinds := putD σ1.kinds (.inr (TN σ1.m)) (.d IK), names := σ1.names }
  let σ3' : St := { m := σ2.m + 1, pts := σ2.pts, kinds := putD σ2.kinds (.inr (TN σ2.m)) (.d TK), names := σ2.names }
  have hb1' : Bd σ1' (n + 1) := ⟨hb1.1, Nat.le_succ_of_le h.2.1, hb1.2.2⟩
  have hb2' : Bd σ2' (n + 2) := ⟨hb2.1, Nat.le_succ_of_le hb1.2.1, hb2.2.2⟩
  have hb3' : Bd σ3' (n + 3) := ⟨(hb2.tmp (k := TK) (i := TK)).1, Nat.le_succ_of_le hb2.2.1, (hb2.tmp (k := TK) (i := TK)).2.2⟩
  have k1 := made_ok (CG := CG) (CL := CL) (nums := nums) (a := a + 1 + 1) (t := t) (kind := MK mode) h (by omega)
  have k2 := made_ok (CG := CG) (CL := CL) (nums := nums) (a := a + 1 + 1) (t := t) (kind := IK) hb1 (by omega)
  have k3 := made_ok (CG := CG) (CL := CL) (nums := nums) (a := a + 1 + 1) (t := t) (kind := TK) hb2 (by omega)
  have p1 := pt_app (nums := nums) (a := a + 1 + 1) (t := t) (p := .tuple [.str "borrow", .str (TN σ.m), .str mode, plc i]) hb1' (by omega)
  have p2 := pt_app (nums := nums) (a := a + 1 + 1) (t := t) (p := .tuple [.str "set", .str (TN (σ.m + 1)), num v]) hb2' (by omega)
  have p3 := pt_app (nums := nums) (a := a + 1 + 1) (t := t) (p := .tuple [.str "spawn", .str (TN (σ.m + 2)), .str mode, .tuple [.str (TN σ.m), .str (TN (σ.m + 1))]]) hb3' (by omega)
  let nn := none (α := W)
  have s1 : sAsg (eTup (aCons (eC (.str "int")) (aCons (eCall (m_law_next CG CL) (aCons (eVar 0) (aCons (eC (.int (60))) aNil))) aNil))) (gN 3) (B ++ [none, none, none, none, none, none]) (TS nums a t (LR σ)) = some (.nx, B ++ [some (.d (num v)), none, none, none, none, none], TS nums (a + 1) t (LR σ)) :=
    v_asg (v_tup (v_cons (x := .d (.str "int")) (S1 := TS nums a t (LR σ)) (by rfl) (v_cons (v_call (ws := [.loc 1, .d (.int 60)]) (S1 := TS nums a t (LR σ)) (by rfl) e1) rfl)) (by rfl)) (by rfl)
  have s2 : sAsg (eDGet (eVar 1) (eC (.str "points"))) (gN 4) (B ++ [some (.d (num v)), none, none, none, none, none]) (TS nums (a + 1) t (LR σ)) = some (.nx, B ++ [some (.d (num v)), some (.loc 3), none, none, none, none], TS nums (a + 1) t (LR σ)) := by rfl
  have s3 : sAsg (eTup (aCons (eC (.str "x")) (aCons (eTup (aCons (eCall (m_law_next CG CL) (aCons (eVar 0) (aCons (eC (.int (2))) aNil))) aNil)) aNil))) (gN 5) (B ++ [some (.d (num v)), some (.loc 3), none, none, none, none]) (TS nums (a + 1) t (LR σ)) = some (.nx, B ++ [some (.d (num v)), some (.loc 3), some (.d (plc i)), none, none, none], M σ) :=
    v_asg (v_tup (v_cons (x := .d (.str "x")) (S1 := TS nums (a + 1) t (LR σ)) (by rfl) (v_cons (v_tup (v_cons (v_call (ws := [.loc 1, .d (.int 2)]) (S1 := TS nums (a + 1) t (LR σ)) (by rfl) e2) rfl) (by rfl)) rfl)) (by rfl)) (by rfl)
  have s4 : sAsg (eCall (m_law_made CG CL) (aCons (eVar 1) (aCons (eTup (aCons (eVar 2) (aCons (eTup (aCons (eC (.str "int")) aNil)) aNil))) aNil))) (gN 6) (B ++ [some (.d (num v)), some (.loc 3), some (.d (plc i)), none, none, none]) (M σ) = some (.nx, B ++ [some (.d (num v)), some (.loc 3), some (.d (plc i)), some (.d (.str (TN σ.m))), none, none], M σ1') :=
    v_asg (v_call (ws := [.loc 2, .d (MK mode)]) (S1 := M σ) (by rfl) k1) (by rfl)
  have s5 : sDrop (eBm mAppend (eVar 4) (aCons (eTup (aCons (eC (.str "borrow")) (aCons (eVar 6) (aCons (eVar 2) (aCons (eVar 5) aNil))))) aNil)) (B ++ [some (.d (num v)), some (.loc 3), some (.d (plc i)), some (.d (.str (TN σ.m))), none, none]) (M σ1') = some (.nx, B ++ [some (.d (num v)), some (.loc 3), some (.d (plc i)), some (.d (.str (TN σ.m))), none, none], M σ1) :=
    v_drop (v_bm (x := .loc 3) (S1 := M σ1') (us := σ.pts.map .d) (by rfl) (by rfl) (ws := [.d (.tuple [.str "borrow", .str (TN σ.m), .str mode, plc i])]) (S2 := M σ1') (by rfl) p1)
  have s6 : sAsg (eCall (m_law_made CG CL) (aCons (eVar 1) (aCons (eTup (aCons (eC (.str "int")) aNil)) aNil))) (gN 7) (B ++ [some (.d (num v)), some (.loc 3), some (.d (plc i)), some (.d (.str (TN σ.m))), none, none]) (M σ1) = some (.nx, B ++ [some (.d (num v)), some (.loc 3), some (.d (plc i)), some (.d (.str (TN σ.m))), some (.d (.str (TN (σ.m + 1)))), none], M σ2') :=
    v_asg (v_call (ws := [.loc 2, .d IK]) (S1 := M σ1) (by rfl) k2) (by rfl)
  have s7 : sDrop (eBm mAppend (eVar 4) (aCons (eTup (aCons (eC (.str "set")) (aCons (eVar 7) (aCons (eVar 3) aNil)))) aNil)) (B ++ [some (.d (num v)), some (.loc 3), some (.d (plc i)), some (.d (.str (TN σ.m))), some (.d (.str (TN (σ.m + 1)))), none]) (M σ2') = some (.nx, B ++ [some (.d (num v)), some (.loc 3), some (.d (plc i)), some (.d (.str (TN σ.m))), some (.d (.str (TN (σ.m + 1)))), none], M σ2) :=
    v_drop (v_bm (x := .loc 3) (S1 := M σ2') (us := σ1.pts.map .d) (by rfl) (by rfl) (ws := [.d (.tuple [.str "set", .str (TN (σ.m + 1)), num v])]) (S2 := M σ2') (by rfl) p2)
  have s8 : sAsg (eCall (m_law_made CG CL) (aCons (eVar 1) (aCons (eTup (aCons (eC (.str "task")) (aCons (eTup (aCons (eC (.str "int")) aNil)) aNil))) aNil))) (gN 8) (B ++ [some (.d (num v)), some (.loc 3), some (.d (plc i)), some (.d (.str (TN σ.m))), some (.d (.str (TN (σ.m + 1)))), none]) (M σ2) = some (.nx, B ++ [some (.d (num v)), some (.loc 3), some (.d (plc i)), some (.d (.str (TN σ.m))), some (.d (.str (TN (σ.m + 1)))), some (.d (.str (TN (σ.m + 2))))], M σ3') :=
    v_asg (v_call (ws := [.loc 2, .d TK]) (S1 := M σ2) (by rfl) k3) (by rfl)
  have s9 : sDrop (eBm mAppend (eVar 4) (aCons (eTup (aCons (eC (.str "spawn")) (aCons (eVar 8) (aCons (eVar 2) (aCons (eTup (aCons (eVar 6) (aCons (eVar 7) aNil))) aNil))))) aNil)) (B ++ [some (.d (num v)), some (.loc 3), some (.d (plc i)), some (.d (.str (TN σ.m))), some (.d (.str (TN (σ.m + 1)))), some (.d (.str (TN (σ.m + 2))))]) (M σ3') = some (.nx, B ++ [some (.d (num v)), some (.loc 3), some (.d (plc i)), some (.d (.str (TN σ.m))), some (.d (.str (TN (σ.m + 1)))), some (.d (.str (TN (σ.m + 2))))], M (σ.started mode i v)) :=
    v_drop (v_bm (x := .loc 3) (S1 := M σ3') (us := σ2.pts.map .d) (by rfl) (by rfl) (ws := [.d (.tuple [.str "spawn", .str (TN (σ.m + 2)), .str mode, .tuple [.str (TN σ.m), .str (TN (σ.m + 1))]])]) (S2 := M σ3') (by rfl) p3)
  exact v_def rfl (v_nx s1 (v_nx s2 (v_nx s3 (v_nx s4 (v_nx s5 (v_nx s6 (v_nx s7 (v_nx s8 (v_nx s9 (v_ret (by rfl))))))))))) rfl
/-- a list of names -/
theorem nm_app {σ : St} {n : Nat} {nums : List Int} {a t : Int} {x : Str} (h : Bd σ n) (hn : n ≤ 200) : mAppend (.loc 5) [.d (.str x)] (TS nums a t (LR σ)) = some (.d .none, TS nums a t (LR { σ with names := σ.names ++ [x] })) := by
  rw [mApp (ws := σ.names.map nmW) (by rfl) (by rw [List.length_map]; exact sz (Nat.le_trans h.2.2.2 hn))]
  show some (W.d .none, Ob.lst _ :: Ob.lst _ :: [_, _, _, Ob.lst (σ.names.map nmW ++ [nmW x])]) = some (W.d .none, Ob.lst _ :: Ob.lst _ :: [_, _, _, Ob.lst ((σ.names ++ [x]).map nmW)])
  rw [List.map_append]; rfl
theorem Bd.letS {σ : St} {n : Nat} {mode : Str} {i v : Int} (h : Bd σ n) : Bd (σ.letS mode i v) (n + 4) := by
  obtain ⟨h1, h2, h3, h4⟩ := (h.started (mode := mode) (i := i) (v := v))
  refine ⟨Nat.le_succ_of_le h1, ?_, Nat.le_trans (put_len _ _ _) (Nat.succ_le_succ h3), ?_⟩
  · show (_ ++ [_]).length ≤ _
    rw [List.length_append]; exact Nat.succ_le_succ h2
  · show (_ ++ [_]).length ≤ _
    rw [List.length_append]; exact Nat.succ_le_succ h4
theorem Step.bd {σ τ : St} {d : PyData} {n : Nat} (h : Bd σ n) (s : Step σ d τ) : Bd τ (n + 4) := by
  cases s with
  | let_ => exact h.letS
  | do_ => exact h.started.emit
  | store => exact h.started.emit
  | print x hx =>
    obtain ⟨h1, h2, h3, h4⟩ := (((h.tmp (k := TK) (i := .tuple [.str "move", .str (TN σ.m), pln x])).tmp (k := IK) (i := .tuple [.str "join", .str (TN (σ.m + 1)), .str (TN σ.m)])).emit (i := .tuple [.str "print", .str (TN (σ.m + 1))]))
    exact ⟨Nat.le_succ_of_le h1, Nat.le_succ_of_le h2, Nat.le_succ_of_le h3, Nat.le_succ_of_le h4⟩
end
end k05
namespace k05
open PySem L2 Pd
section
variable {CG CL : Addr}
theorem statement_ok {σ : St} {n : Nat} {nums : List Int} {a t : Int} (h : Bd σ n) (hn : n ≤ 150) (h0 : 0 ≤ a) :
    ∃ (a' : Int) (d : PyData) (τ : St), 0 ≤ a' ∧ Step σ d τ ∧ m_law_statement CG CL [.loc 1, .loc 2] (TS nums a t (LR σ)) = some (.d d, TS nums a' t (LR τ)) := by
  obtain ⟨c, hc0, hc1, e1⟩ := next_ok (CG := CG) (CL := CL) nums a t 4 (LR σ) h0 (by decide)
  obtain ⟨b, hb0, hb1, e2⟩ := next_ok (CG := CG) (CL := CL) nums (a + 1) t 2 (LR σ) (by omega) (by decide)
  have h2 : 0 ≤ a + 1 + 1 := by omega
  obtain ⟨mode, hmode, em⟩ : ∃ mode : Str, (mode = "shared" ∨ mode = "exclusive") ∧ oIx (.d (.list [.str "shared", .str "exclusive"])) (.d (.int b)) (TS nums (a + 1 + 1) t (LR σ)) = some (.d (.str mode), TS nums (a + 1 + 1) t (LR σ)) := by
    have : b = 0 ∨ b = 1 := by omega
    rcases this with rfl | rfl
    · exact ⟨"shared", .inl rfl, by rfl⟩
    · exact ⟨"exclusive", .inr rfl, by rfl⟩
  let B : List (Option W) := [some (.loc 1), some (.loc 2), some (.loc 3), some (.loc 4), some (.d (.int c)), some (.d (.str mode))]
  let M : Mem := TS nums (a + 1 + 1) t (LR σ)
  have s1 : sAsg (eDGet (eVar 1) (eC (.str "points"))) (gN 2) [some (.loc 1), some (.loc 2), none, none, none, none, none, none, none, none, none] (TS nums a t (LR σ)) = some (.nx, [some (.loc 1), some (.loc 2), some (.loc 3), none, none, none, none, none, none, none, none], TS nums a t (LR σ)) := by rfl
  have s2 : sAsg (eDGet (eVar 1) (eC (.str "kinds"))) (gN 3) [some (.loc 1), some (.loc 2), some (.loc 3), none, none, none, none, none, none, none, none] (TS nums a t (LR σ)) = some (.nx, [some (.loc 1), some (.loc 2), some (.loc 3), some (.loc 4), none, none, none, none, none, none, none], TS nums a t (LR σ)) := by rfl
  have s3 : sAsg (eCall (m_law_next CG CL) (aCons (eVar 0) (aCons (eC (.int (4))) aNil))) (gN 4) [some (.loc 1), some (.loc 2), some (.loc 3), some (.loc 4), none, none, none, none, none, none, none] (TS nums a t (LR σ)) = some (.nx, [some (.loc 1), some (.loc 2), some (.loc 3), some (.loc 4), some (.d (.int c)), none, none, none, none, none, none], TS nums (a + 1) t (LR σ)) :=
    v_asg (v_call (ws := [.loc 1, .d (.int 4)]) (S1 := TS nums a t (LR σ)) (by rfl) e1) (by rfl)
  have s4 : sAsg (eOp oIx (eLstF (aCons (eC (.str "shared")) (aCons (eC (.str "exclusive")) aNil))) (eCall (m_law_next CG CL) (aCons (eVar 0) (aCons (eC (.int (2))) aNil)))) (gN 5) [some (.loc 1), some (.loc 2), some (.loc 3), some (.loc 4), some (.d (.int c)), none, none, none, none, none, none] (TS nums (a + 1) t (LR σ)) = some (.nx, B ++ [none, none, none, none, none], M) :=
    v_asg (v_op (x := .d (.list [.str "shared", .str "exclusive"])) (S1 := TS nums (a + 1) t (LR σ)) (by rfl) (v_call (ws := [.loc 1, .d (.int 2)]) (S1 := TS nums (a + 1) t (LR σ)) (by rfl) e2) em) (by rfl)
  have tc : ∀ j : Int, eB (eOp (oEq false) (eVar 4) (eC (.int j))) (B ++ [none, none, none, none, none]) M = some (decide (c = j), M) := fun j => by rfl
  have tl : eB (eOp (oEq false) (eCall bLen (aCons (eDGet (eVar 1) (eC (.str "names"))) aNil)) (eC (.int (0)))) (B ++ [none, none, none, none, none]) M = some (decide (((σ.names.map nmW).length : Int) = 0), M) := by rfl
  obtain ⟨a3, i, v, ha3, hi, es⟩ := started_ok (CG := CG) (CL := CL) (nums := nums) (a := a + 1 + 1) (t := t) (mode := mode) h (by omega) h2
  have sS : ∀ x8 : Option W, sAsg (eCall (m_law_started CG CL) (aCons (eVar 0) (aCons (eVar 1) (aCons (eVar 5) aNil)))) (gTup' (gsCons (gN 6) (gsCons (gN 7) gsNil))) (B ++ [none, none, x8, none, none]) M = some (.nx, B ++ [some (.d (trS mode i v)), some (.d (.str (TN (σ.m + 2)))), x8, none, none], TS nums a3 t (LR (σ.started mode i v))) := fun x8 =>
    v_asg (v_call (ws := [.loc 1, .loc 2, .d (.str mode)]) (S1 := M) (by rfl) es) (by rfl)
  have hbs := h.started (mode := mode) (i := i) (v := v)
  by_cases hA : c = 0 ∨ ((σ.names.map nmW).length : Int) = 0
  · have tA : (eOr (eB (eOp (oEq false) (eVar 4) (eC (.int (0))))) (eB (eOp (oEq false) (eCall bLen (aCons (eDGet (eVar 1) (eC (.str "names"))) aNil)) (eC (.int (0)))))) (B ++ [none, none, none, none, none]) M = some (true, M) := by
      by_cases hc : c = 0
      · exact v_orT (by have z := tc 0; rw [decide_eq_true hc] at z; exact z)
      · exact v_orF (S1 := M) (by have z := tc 0; rw [decide_eq_false hc] at z; exact z) (by have z := tl; rw [decide_eq_true (hA.resolve_left hc)] at z; exact z)
    let τ := σ.started mode i v
    let x := VN τ.pts.length
    have hpl : τ.pts.length < 256 := Nat.lt_of_le_of_lt hbs.2.1 (by omega)
    let E : List (Option W) := B ++ [some (.d (trS mode i v)), some (.d (.str (TN (σ.m + 2)))), some (.d (.str x)), none, none]
    have u1 : sAsg (eOp (oPlus false) (eC (.str "t")) (eCall bStr (aCons (eCall bLen (aCons (eVar 2) aNil)) aNil))) (gN 8) (B ++ [some (.d (trS mode i v)), some (.d (.str (TN (σ.m + 2)))), none, none, none]) (TS nums a3 t (LR τ)) = some (.nx, E, TS nums a3 t (LR τ)) := by
      refine v_asg (v_op (x := .d (.str "t")) (S1 := TS nums a3 t (LR τ)) (by rfl) (v_call (ws := [.d (.int (((τ.pts.map W.d).length : Nat) : Int))]) (S1 := TS nums a3 t (LR τ)) (by rfl) ?_) (plus_s (l1 τ.pts.length hpl _ (by decide +kernel)))) (by rfl)
      rw [List.length_map]
      exact str_p hpl
    let τ1 : St := τ.emit (.tuple [.str "let", .str x, .str (TN (σ.m + 2))])
    let τ2 : St := { m := τ1.m, pts := τ1.pts, kinds := putD τ1.kinds (.inr x) (.d TK), names := τ1.names }
    have hb1 : Bd τ1 (n + 3 + 1) := hbs.emit
    have hb2 : Bd τ2 (n + 3 + 1 + 1) := ⟨Nat.le_succ_of_le hb1.1, Nat.le_succ_of_le hb1.2.1, Nat.le_trans (put_len _ _ _) (Nat.succ_le_succ hb1.2.2.1), Nat.le_succ_of_le hb1.2.2.2⟩
    have u2 : sDrop (eBm mAppend (eVar 2) (aCons (eTup (aCons (eC (.str "let")) (aCons (eVar 8) (aCons (eVar 7) aNil)))) aNil)) E (TS nums a3 t (LR τ)) = some (.nx, E, TS nums a3 t (LR τ1)) :=
      v_drop (v_bm (x := .loc 3) (S1 := TS nums a3 t (LR τ)) (us := τ.pts.map .d) (by rfl) (by rfl) (ws := [.d (.tuple [.str "let", .str x, .str (TN (σ.m + 2))])]) (S2 := TS nums a3 t (LR τ)) (by rfl) (pt_app hbs (by omega)))
    have u3 : sDPutW (eVar 3) (eVar 8) (eTup (aCons (eC (.str "task")) (aCons (eTup (aCons (eC (.str "int")) aNil)) aNil))) E (TS nums a3 t (LR τ1)) = some (.nx, E, TS nums a3 t (LR τ2)) :=
      v_dput (v := .d TK) (S1 := TS nums a3 t (LR τ1)) (by rfl) (p := .loc 4) (S2 := TS nums a3 t (LR τ1)) (by rfl) (z := .d (.str x)) (S3 := TS nums a3 t (LR τ1)) (by rfl) (n := 4) (kvs := τ1.kinds) (by rfl) (k := .inr x) (by rfl) (sz (Nat.le_trans hb1.2.2.1 (by omega)))
    have u4 : sDrop (eBm mAppend (eDGet (eVar 1) (eC (.str "names"))) (aCons (eVar 8) aNil)) E (TS nums a3 t (LR τ2)) = some (.nx, E, TS nums a3 t (LR (σ.letS mode i v))) :=
      v_drop (v_bm (x := .loc 5) (S1 := TS nums a3 t (LR τ2)) (us := τ2.names.map nmW) (by rfl) (by rfl) (ws := [.d (.str x)]) (S2 := TS nums a3 t (LR τ2)) (by rfl) (nm_app hb2 (by omega)))
    exact ⟨a3, _, _, ha3, .let_ mode i v hmode hi, v_def rfl (v_nx s1 (v_nx s2 (v_nx s3 (v_nx s4 (v_rt (v_ifT tA (v_nx (sS none) (v_nx u1 (v_nx u2 (v_nx u3 (v_nx u4 (v_ret (by rfl))))))))))))) rfl⟩
  have hc0' : ¬ c = 0 := fun z => hA (.inl z)
  have hl0 : ¬ ((σ.names.map nmW).length : Int) = 0 := fun z => hA (.inr z)
  have tA : (eOr (eB (eOp (oEq false) (eVar 4) (eC (.int (0))))) (eB (eOp (oEq false) (eCall bLen (aCons (eDGet (eVar 1) (eC (.str "names"))) aNil)) (eC (.int (0)))))) (B ++ [none, none, none, none, none]) M = some (false, M) :=
    v_orF (S1 := M) (by have z := tc 0; rw [decide_eq_false hc0'] at z; exact z) (by have z := tl; rw [decide_eq_false hl0] at z; exact z)
  by_cases h1 : c = 1
  · have t1 := tc 1
    rw [decide_eq_true h1] at t1
    have u2 : sDrop (eBm mAppend (eVar 2) (aCons (eTup (aCons (eC (.str "drop")) (aCons (eVar 7) aNil))) aNil)) (B ++ [some (.d (trS mode i v)), some (.d (.str (TN (σ.m + 2)))), none, none, none]) (TS nums a3 t (LR (σ.started mode i v))) = some (.nx, B ++ [some (.d (trS mode i v)), some (.d (.str (TN (σ.m + 2)))), none, none, none], TS nums a3 t (LR ((σ.started mode i v).emit (.tuple [.str "drop", .str (TN (σ.m + 2))])))) :=
      v_drop (v_bm (x := .loc 3) (S1 := TS nums a3 t (LR (σ.started mode i v))) (us := (σ.started mode i v).pts.map .d) (by rfl) (by rfl) (ws := [.d (.tuple [.str "drop", .str (TN (σ.m + 2))])]) (S2 := TS nums a3 t (LR (σ.started mode i v))) (by rfl) (pt_app hbs (by omega)))
    exact ⟨a3, _, _, ha3, .do_ mode i v hmode hi, v_def rfl (v_nx s1 (v_nx s2 (v_nx s3 (v_nx s4 (v_nx (v_ifF tA (by rfl)) (v_rt (v_ifT t1 (v_nx (sS none) (v_nx u2 (v_ret (by rfl))))))))))) rfl⟩
  have t1 := tc 1
  rw [decide_eq_false h1] at t1
  obtain ⟨j, hj0, hj1, e3⟩ := next_ok (CG := CG) (CL := CL) nums (a + 1 + 1) t ((σ.names.map nmW).length : Int) (LR σ) h2 (by omega)
  let M3 : Mem := TS nums (a + 1 + 1 + 1) t (LR σ)
  have h3 : 0 ≤ a + 1 + 1 + 1 := by omega
  obtain ⟨w, q1, q2⟩ := atI_ok hj0 hj1
  rw [List.getElem?_map] at q1
  obtain ⟨x, q3, rfl⟩ := Option.map_eq_some_iff.mp q1
  have hx : x ∈ σ.names := List.mem_of_getElem? q3
  have u0 : sAsg (eOp oIx (eDGet (eVar 1) (eC (.str "names"))) (eCall (m_law_next CG CL) (aCons (eVar 0) (aCons (eCall bLen (aCons (eDGet (eVar 1) (eC (.str "names"))) aNil)) aNil)))) (gN 8) (B ++ [none, none, none, none, none]) M = some (.nx, B ++ [none, none, some (.d (.str x)), none, none], M3) := by
    refine v_asg (v_op (x := .loc 5) (S1 := M) (by rfl) (v_call (ws := [.loc 1, .d (.int ((σ.names.map nmW).length : Int))]) (S1 := M) (by rfl) e3) ?_) (by rfl)
    rw [oIx_loc (ws := σ.names.map nmW) (by rfl), q2]
    rfl
  obtain ⟨a4, i4, v4, ha4, hi4, es4⟩ := started_ok (CG := CG) (CL := CL) (nums := nums) (a := a + 1 + 1 + 1) (t := t) (mode := mode) h (by omega) h3
  have tc3 : ∀ j : Int, eB (eOp (oEq false) (eVar 4) (eC (.int j))) (B ++ [none, none, some (.d (.str x)), none, none]) M3 = some (decide (c = j), M3) := fun j => by rfl
  by_cases h2' : c = 2
  · have t2 := tc3 2
    rw [decide_eq_true h2'] at t2
    have hbs4 := h.started (mode := mode) (i := i4) (v := v4)
    have sS4 : sAsg (eCall (m_law_started CG CL) (aCons (eVar 0) (aCons (eVar 1) (aCons (eVar 5) aNil)))) (gTup' (gsCons (gN 6) (gsCons (gN 7) gsNil))) (B ++ [none, none, some (.d (.str x)), none, none]) M3 = some (.nx, B ++ [some (.d (trS mode i4 v4)), some (.d (.str (TN (σ.m + 2)))), some (.d (.str x)), none, none], TS nums a4 t (LR (σ.started mode i4 v4))) :=
      v_asg (v_call (ws := [.loc 1, .loc 2, .d (.str mode)]) (S1 := M3) (by rfl) es4) (by rfl)
    have u2 : sDrop (eBm mAppend (eVar 2) (aCons (eTup (aCons (eC (.str "store")) (aCons (eTup (aCons (eVar 8) (aCons (eTup aNil) aNil))) (aCons (eVar 7) aNil)))) aNil)) (B ++ [some (.d (trS mode i4 v4)), some (.d (.str (TN (σ.m + 2)))), some (.d (.str x)), none, none]) (TS nums a4 t (LR (σ.started mode i4 v4))) = some (.nx, B ++ [some (.d (trS mode i4 v4)), some (.d (.str (TN (σ.m + 2)))), some (.d (.str x)), none, none], TS nums a4 t (LR ((σ.started mode i4 v4).emit (.tuple [.str "store", pln x, .str (TN (σ.m + 2))])))) :=
      v_drop (v_bm (x := .loc 3) (S1 := TS nums a4 t (LR (σ.started mode i4 v4))) (us := (σ.started mode i4 v4).pts.map .d) (by rfl) (by rfl) (ws := [.d (.tuple [.str "store", pln x, .str (TN (σ.m + 2))])]) (S2 := TS nums a4 t (LR (σ.started mode i4 v4))) (by rfl) (pt_app hbs4 (by omega)))
    exact ⟨a4, _, _, ha4, .store x hx mode i4 v4 hmode hi4, v_def rfl (v_nx s1 (v_nx s2 (v_nx s3 (v_nx s4 (v_nx (v_ifF tA (by rfl)) (v_nx (v_ifF t1 (by rfl)) (v_nx u0 (v_rt (v_ifT t2 (v_nx sS4 (v_nx u2 (v_ret (by rfl))))))))))))) rfl⟩
  · have t2 := tc3 2
    rw [decide_eq_false h2'] at t2
    let σ1 := σ.tmp TK (.tuple [.str "move", .str (TN σ.m), pln x])
    let σ2 := σ1.tmp IK (.tuple [.str "join", .str (TN (σ.m + 1)), .str (TN σ.m)])
    let σ1' : St := { m := σ.m + 1, pts := σ.pts, kinds := putD σ.kinds (.inr (TN σ.m)) (.d TK), names := σ.names }
    let σ2' : St := { m := σ1.m + 1, pts := σ1.pts, kinds := putD σ1.kinds (.inr (TN σ1.m)) (.d IK), names := σ1.names }
    have hb1 : Bd σ1 (n + 1) := h.tmp
    have hb2 : Bd σ2 (n + 2) := hb1.tmp
    have hb1' : Bd σ1' (n + 1) := ⟨hb1.1, Nat.le_succ_of_le h.2.1, hb1.2.2⟩
    have hb2' : Bd σ2' (n + 2) := ⟨hb2.1, Nat.le_succ_of_le hb1.2.1, hb2.2.2⟩
    let N (τ : St) : Mem := TS nums (a + 1 + 1 + 1) t (LR τ)
    have k1 := made_ok (CG := CG) (CL := CL) (nums := nums) (a := a + 1 + 1 + 1) (t := t) (kind := TK) h (by omega)
    have k2 := made_ok (CG := CG) (CL := CL) (nums := nums) (a := a + 1 + 1 + 1) (t := t) (kind := IK) hb1 (by omega)
    have w1 : sAsg (eCall (m_law_made CG CL) (aCons (eVar 1) (aCons (eTup (aCons (eC (.str "task")) (aCons (eTup (aCons (eC (.str "int")) aNil)) aNil))) aNil))) (gN 9) (B ++ [none, none, some (.d (.str x)), none, none]) M3 = some (.nx, B ++ [none, none, some (.d (.str x)), some (.d (.str (TN σ.m))), none], N σ1') :=
      v_asg (v_call (ws := [.loc 2, .d TK]) (S1 := M3) (by rfl) k1) (by rfl)
    have w2 : sDrop (eBm mAppend (eVar 2) (aCons (eTup (aCons (eC (.str "move")) (aCons (eVar 9) (aCons (eTup (aCons (eVar 8) (aCons (eTup aNil) aNil))) aNil)))) aNil)) (B ++ [none, none, some (.d (.str x)), some (.d (.str (TN σ.m))), none]) (N σ1') = some (.nx, B ++ [none, none, some (.d (.str x)), some (.d (.str (TN σ.m))), none], N σ1) :=
      v_drop (v_bm (x := .loc 3) (S1 := N σ1') (us := σ.pts.map .d) (by rfl) (by rfl) (ws := [.d (.tuple [.str "move", .str (TN σ.m), pln x])]) (S2 := N σ1') (by rfl) (pt_app hb1' (by omega)))
    have w3 : sAsg (eCall (m_law_made CG CL) (aCons (eVar 1) (aCons (eTup (aCons (eC (.str "int")) aNil)) aNil))) (gN 10) (B ++ [none, none, some (.d (.str x)), some (.d (.str (TN σ.m))), none]) (N σ1) = some (.nx, B ++ [none, none, some (.d (.str x)), some (.d (.str (TN σ.m))), some (.d (.str (TN (σ.m + 1))))], N σ2') :=
      v_asg (v_call (ws := [.loc 2, .d IK]) (S1 := N σ1) (by rfl) k2) (by rfl)
    have w4 : sDrop (eBm mAppend (eVar 2) (aCons (eTup (aCons (eC (.str "join")) (aCons (eVar 10) (aCons (eVar 9) aNil)))) aNil)) (B ++ [none, none, some (.d (.str x)), some (.d (.str (TN σ.m))), some (.d (.str (TN (σ.m + 1))))]) (N σ2') = some (.nx, B ++ [none, none, some (.d (.str x)), some (.d (.str (TN σ.m))), some (.d (.str (TN (σ.m + 1))))], N σ2) :=
      v_drop (v_bm (x := .loc 3) (S1 := N σ2') (us := σ1.pts.map .d) (by rfl) (by rfl) (ws := [.d (.tuple [.str "join", .str (TN (σ.m + 1)), .str (TN σ.m)])]) (S2 := N σ2') (by rfl) (pt_app hb2' (by omega)))
    have w5 : sDrop (eBm mAppend (eVar 2) (aCons (eTup (aCons (eC (.str "print")) (aCons (eVar 10) aNil))) aNil)) (B ++ [none, none, some (.d (.str x)), some (.d (.str (TN σ.m))), some (.d (.str (TN (σ.m + 1))))]) (N σ2) = some (.nx, B ++ [none, none, some (.d (.str x)), some (.d (.str (TN σ.m))), some (.d (.str (TN (σ.m + 1))))], N (σ.prnt x)) :=
      v_drop (v_bm (x := .loc 3) (S1 := N σ2) (us := σ2.pts.map .d) (by rfl) (by rfl) (ws := [.d (.tuple [.str "print", .str (TN (σ.m + 1))])]) (S2 := N σ2) (by rfl) (pt_app hb2 (by omega)))
    exact ⟨a + 1 + 1 + 1, _, _, h3, .print x hx, v_def rfl (v_nx s1 (v_nx s2 (v_nx s3 (v_nx s4 (v_nx (v_ifF tA (by rfl)) (v_nx (v_ifF t1 (by rfl)) (v_nx u0 (v_nx (v_ifF t2 (by rfl)) (v_nx w1 (v_nx w2 (v_nx w3 (v_nx w4 (v_nx w5 (v_ret (by rfl))))))))))))))) rfl⟩
end
end k05
namespace Pd
open PySem L2
theorem v_dnin {S : Mem} {o i : ME} {ρ : Env'} {S1 S2 : Mem} {p z w : W} {n : Nat} {kvs : KW} {k : Key} (h1 : i ρ S = some (z, S1)) (h2 : o ρ S1 = some (p, S2)) (h3 : dctAt p S2 = some (n, kvs)) (h4 : keyW z = some k) (h5 : valW kvs k = some w) : eDIn true i o ρ S = some (.d (.bool false), S2) := by
  unfold eDIn
  rw [h1]; simp only [Option.bind_some, h2, h3, h4, h5]
  rfl
theorem v_callkw {S : Mem} {f : MF} {pm : List W → List W → List W} {a k : MA} {ρ : Env'} {S1 S2 : Mem} {us ws : List W} {r : Option (W × Mem)} (h1 : a ρ S = some (us, S1)) (h2 : k ρ S1 = some (ws, S2)) (h3 : f (pm us ws) S2 = r) : eCallKw f pm a k ρ S = r := by
  unfold eCallKw
  rw [h1]; simp only [Option.bind_some, h2]
  exact h3
theorem wLt_mono {n m : Nat} (h : n ≤ m) {w : W} (q : wLt n w = true) : wLt m w = true := by
  cases w with
  | d x => rfl
  | loc k => exact decide_eq_true (Nat.lt_of_lt_of_le (of_decide_eq_true q) h)
theorem obLt_mono {n m : Nat} (h : n ≤ m) {o : Ob} (q : obLt n o = true) : obLt m o = true := by
  cases o with
  | lst ws => exact List.all_eq_true.mpr fun w hw => wLt_mono h (List.all_eq_true.mp q w hw)
  | dct kvs => exact List.all_eq_true.mpr fun p hp => wLt_mono h (List.all_eq_true.mp q p hp)
  | ins C fs => exact List.all_eq_true.mpr fun p hp => wLt_mono h (List.all_eq_true.mp q p hp)
theorem dctAt_loc {S : Mem} {n : Nat} {kvs : KW} (h : S[n]? = some (.dct kvs)) : dctAt (.loc n) S = some (n, kvs) := by
  unfold dctAt; simp only [h]
end Pd
namespace k05
open PySem L2 Pd
def XK : PyData := .tuple [.str "tuple", .tuple [IK, IK]]
def fnD (mode : Str) : PyData := .tuple [.str mode, .tuple [.tuple [.str "r", MK mode], .tuple [.str "n", IK]], IK, .tuple [], .tuple [.tuple [.str "return", .tuple [.str "int", .int 1]]]]
def parsD : PyData := .tuple [.tuple [.str "x", XK], .tuple [.str "n", IK]]
def workD (blk : PyData) : PyData := .tuple [.str "work", parsD, UK, .tuple [], blk]
def mainD : PyData := .tuple [.str "main", .tuple [], UK, .tuple [], .tuple []]
def prog (blk : PyData) : PyData := .tuple [.tuple [], .tuple [fnD "shared", fnD "exclusive", workD blk, mainD]]
section
variable {CG CL : Addr}
theorem named_mode {blk : PyData} {mode : Str} {S : Mem} (h : mode = "shared" ∨ mode = "exclusive") : m_function_named CG CL [.d (prog blk), .d (.str mode)] S = some (.d (fnD mode), S) := by
  rcases h with rfl | rfl <;> rfl
theorem named_work {blk : PyData} {S : Mem} : m_function_named CG CL [.d (prog blk), .d (.str "work")] S = some (.d (workD blk), S) := by rfl
/-! ### the kind at a place -/
theorem fin_own {S : Mem} {ds : List PyData} (hS : S.all (obLt S.length) = true) : fin true S.length (.loc S.length) (S ++ [.lst (ds.map .d)]) = some (.d (.list ds), S) := by
  show (if true = false then _ else if ((S ++ [Ob.lst (ds.map W.d)]).take S.length).all (obLt S.length) = true then _ else none) = _
  rw [if_neg (by decide), List.take_left, if_pos hS]
  show (if S.length < S.length then _ else match (S ++ [Ob.lst (ds.map W.d)])[S.length]? with | some (.lst ws) => _ | _ => none) = _
  rw [if_neg (Nat.lt_irrefl _), show (S ++ [Ob.lst (ds.map W.d)])[S.length]? = some (.lst (ds.map W.d)) by simp]
  simp only [dOf_map, Option.map_some]
theorem at9 {S : Mem} {kinds : KW} {o : Ob} (h : S[9]? = some (.dct kinds)) : (S ++ [o])[9]? = some (.dct kinds) := by
  rw [List.getElem?_append_left (List.getElem?_eq_some_iff.mp h).1]; exact h
theorem set_last {S : Mem} {o o' : Ob} : (S ++ [o]).set S.length o' = S ++ [o'] := by simp
theorem at_last {S : Mem} {o : Ob} : (S ++ [o])[S.length]? = some o := by simp
theorem along_n {S : Mem} {kinds : KW} {x : Str} {k : PyData} (h9 : S[9]? = some (.dct kinds)) (hS : S.all (obLt S.length) = true) (hx : valW kinds (.inr x) = some (.d k)) :
    m_kinds_along CG CL [.d (pln x), .d (.tuple []), .loc 9] S = some (.d (.list [k]), S) := by
  refine v_def rfl (v_nx (v_asg (w := .d (pln x)) (S1 := S) (by rfl) (by rfl)) (v_nx (v_ifF (v_b (v_dnin (z := .d (.str x)) (S1 := S) (by rfl) (p := .loc 9) (S2 := S) (by rfl) (dctAt_loc h9) (by rfl) hx)) (by rfl)) (v_nx (v_asg (v_lstL (v_cons (v_dget (p := .loc 9) (S1 := S) (by rfl) (z := .d (.str x)) (S2 := S) (by rfl) (dctAt_loc h9) (by rfl) hx) rfl) (by rfl)) (by rfl)) (v_nx (by rfl) (v_ret (by rfl)))))) (fin_own hS)
theorem after_x {i : Int} {S : Mem} (h : i = 0 ∨ i = 1) : m_kind_after CG CL [.d (.tuple []), .d XK, .d (.int i)] S = some (.d IK, S) := by
  rcases h with rfl | rfl <;> rfl
theorem along_x {S : Mem} {kinds : KW} {i : Int} (h9 : S[9]? = some (.dct kinds)) (hS : S.all (obLt S.length) = true) (hx : valW kinds (.inr "x") = some (.d XK)) (hi : i = 0 ∨ i = 1) :
    m_kinds_along CG CL [.d (plc i), .d (.tuple []), .loc 9] S = some (.d (.list [XK, IK]), S) := by
  let T : Mem := S ++ [.lst [.d XK]]
  let E : Env' := [some (.d (plc i)), some (.d (.tuple [])), some (.loc 9), some (.d (.str "x")), some (.d (.tuple [.int i])), some (.loc S.length), some (.d (.int i))]
  have hb : sDrop (eBm mAppend (eVar 5) (aCons (eCall (m_kind_after CG CL) (aCons (eVar 1) (aCons (eOp oIx (eVar 5) (eUn oNeg (eC (.int (1))))) (aCons (eVar 6) aNil)))) aNil)) E T = some (.nx, E, S ++ [.lst ([XK, IK].map .d)]) := by
    refine v_drop (w := .d .none) (v_bm (x := .loc S.length) (S1 := T) (by rfl) (itemsL_loc at_last) (v_cons (v_call (ws := [.d (.tuple []), .d XK, .d (.int i)]) (S1 := T) (v_cons (by rfl) (v_cons (v_op (x := .loc S.length) (S1 := T) (by rfl) (y := .d (.int (-1))) (S2 := T) (by rfl) ?_) (by rfl))) (after_x hi)) rfl) ?_)
    · rw [oIx_loc (ws := [.d XK]) at_last]; rfl
    · rw [mApp (ws := [.d XK]) at_last (by show 1 < sizeLine; decide), set_last]; rfl
  have hf : sFor (iTupM (eVar 4)) (gN 6) (sDrop (eBm mAppend (eVar 5) (aCons (eCall (m_kind_after CG CL) (aCons (eVar 1) (aCons (eOp oIx (eVar 5) (eUn oNeg (eC (.int (1))))) (aCons (eVar 6) aNil)))) aNil))) [some (.d (plc i)), some (.d (.tuple [])), some (.loc 9), some (.d (.str "x")), some (.d (.tuple [.int i])), some (.loc S.length), none] T = some (.nx, E, S ++ [.lst ([XK, IK].map .d)]) := by
    refine v_for (im := .vals [.d (.int i)]) (S1 := T) (by rfl) ?_
    show Pd.forM (.vals [.d (.int i)]) _ _ 1 0 _ T = _
    unfold Pd.forM
    show (sDrop _ E T).bind _ = _
    rw [hb]
    rfl
  exact v_def rfl (v_nx (v_asg (w := .d (plc i)) (S1 := S) (by rfl) (by rfl)) (v_nx (v_ifF (v_b (v_dnin (z := .d (.str "x")) (S1 := S) (by rfl) (p := .loc 9) (S2 := S) (by rfl) (dctAt_loc h9) (by rfl) hx)) (by rfl)) (v_nx (v_asg (w := .loc S.length) (S1 := T) (v_lstL (v_cons (v_dget (p := .loc 9) (S1 := S) (by rfl) (z := .d (.str "x")) (S2 := S) (by rfl) (dctAt_loc h9) (by rfl) hx) rfl) (by rfl)) (by rfl)) (v_nx hf (v_ret (w := .loc S.length) (S1 := S ++ [.lst ([XK, IK].map .d)]) (by rfl)))))) (fin_own (ds := [XK, IK]) hS)
theorem at_n {S : Mem} {kinds : KW} {x : Str} {k : PyData} (h9 : S[9]? = some (.dct kinds)) (hS : S.all (obLt S.length) = true) (hx : valW kinds (.inr x) = some (.d k)) :
    m_kind_at CG CL [.d (pln x), .d (.tuple []), .loc 9] S = some (.d k, S) :=
  v_def rfl (v_ret (v_op (v_call (ws := [.d (pln x), .d (.tuple []), .loc 9]) (S1 := S) (by rfl) (along_n h9 hS hx)) (y := .d (.int (-1))) (S2 := S) (by rfl) (by rfl))) rfl
theorem at_x {S : Mem} {kinds : KW} {i : Int} (h9 : S[9]? = some (.dct kinds)) (hS : S.all (obLt S.length) = true) (hx : valW kinds (.inr "x") = some (.d XK)) (hi : i = 0 ∨ i = 1) :
    m_kind_at CG CL [.d (plc i), .d (.tuple []), .loc 9] S = some (.d IK, S) :=
  v_def rfl (v_ret (v_op (v_call (ws := [.d (plc i), .d (.tuple []), .loc 9]) (S1 := S) (by rfl) (along_x h9 hS hx hi)) (y := .d (.int (-1))) (S2 := S) (by rfl) (by rfl))) rfl
/-! ### the kind of an expression -/
theorem made_int {S : Mem} {p : W} {v : Int} : m_kind_made CG CL [p, .loc 9, .d (num v), .d (.list [])] S = some (.d IK, S) := by rfl
theorem made_unit {S : Mem} {p : W} : m_kind_made CG CL [p, .loc 9, .d UK, .d (.list [])] S = some (.d UK, S) := by rfl
theorem made_join {S : Mem} {p : W} {e : PyData} : m_kind_made CG CL [p, .loc 9, .d (.tuple [.str "join", e]), .d (.list [TK])] S = some (.d IK, S) := by rfl
theorem fetched_spawn {S : Mem} {blk ps : PyData} {mode : Str} (hm : mode = "shared" ∨ mode = "exclusive") : m_kind_fetched CG CL [.d (prog blk), .loc 9, .d (.tuple [.str "spawn", .str mode, ps])] S = some (.d TK, S) := by
  rcases hm with rfl | rfl <;> rfl
theorem made_spawn {S : Mem} {blk ps : PyData} {ins : List PyData} {mode : Str} (hm : mode = "shared" ∨ mode = "exclusive") : m_kind_made CG CL [.d (prog blk), .loc 9, .d (.tuple [.str "spawn", .str mode, ps]), .d (.list ins)] S = some (.d TK, S) := by
  refine v_def rfl (v_nx (v_asg (w := .d (.str "spawn")) (S1 := S) (by rfl) (by rfl)) (v_nx (v_ifF (by rfl) (by rfl)) (v_nx (v_ifF (by rfl) (by rfl)) (v_nx (v_ifF (by rfl) (by rfl)) (v_nx (v_ifF (by rfl) (by rfl)) (v_nx (v_ifF (by rfl) (by rfl)) (v_nx (v_ifF (by rfl) (by rfl)) (v_nx (v_ifF (by rfl) (by rfl)) (v_nx (v_ifF (by rfl) (by rfl)) (v_ret (v_call (ws := [.d (prog blk), .loc 9, .d (.tuple [.str "spawn", .str mode, ps])]) (S1 := S) (by rfl) (fetched_spawn hm)))))))))))) rfl
theorem fetched_borrow {S : Mem} {blk : PyData} {kinds : KW} {i : Int} {mode : Str} (h9 : S[9]? = some (.dct kinds)) (hS : S.all (obLt S.length) = true) (hx : valW kinds (.inr "x") = some (.d XK)) (hi : i = 0 ∨ i = 1) :
    m_kind_fetched CG CL [.d (prog blk), .loc 9, .d (trB mode i)] S = some (.d (MK mode), S) := by
  refine v_def rfl (v_nx (v_asg (w := .d (.str "borrow")) (S1 := S) (by rfl) (by rfl)) (v_nx (v_ifF (by rfl) (by rfl)) (v_nx (v_ifF (by rfl) (by rfl)) (v_nx (v_ifF (by rfl) (by rfl)) (v_nx (v_asg (v_callkw (us := [.d (plc i)]) (S1 := S) (by rfl) (ws := [.d (.tuple []), .loc 9]) (S2 := S) (by rfl) (at_x h9 hS hx hi)) (by rfl)) (v_rt (v_ifT (by rfl) (v_ret (by rfl))))))))) rfl
theorem fetched_use {S : Mem} {blk : PyData} {kinds : KW} {x : Str} (h9 : S[9]? = some (.dct kinds)) (hS : S.all (obLt S.length) = true) (hx : valW kinds (.inr x) = some (.d TK)) :
    m_kind_fetched CG CL [.d (prog blk), .loc 9, .d (.tuple [.str "use", pln x])] S = some (.d TK, S) := by
  refine v_def rfl (v_nx (v_asg (w := .d (.str "use")) (S1 := S) (by rfl) (by rfl)) (v_nx (v_ifF (by rfl) (by rfl)) (v_nx (v_ifF (by rfl) (by rfl)) (v_nx (v_ifF (by rfl) (by rfl)) (v_nx (v_asg (v_callkw (us := [.d (pln x)]) (S1 := S) (by rfl) (ws := [.d (.tuple []), .loc 9]) (S2 := S) (by rfl) (at_n h9 hS hx)) (by rfl)) (v_nx (v_ifF (by rfl) (by rfl)) (v_ret (by rfl)))))))) rfl
theorem made_borrow {S : Mem} {blk : PyData} {kinds : KW} {i : Int} {mode : Str} (h9 : S[9]? = some (.dct kinds)) (hS : S.all (obLt S.length) = true) (hx : valW kinds (.inr "x") = some (.d XK)) (hi : i = 0 ∨ i = 1) :
    m_kind_made CG CL [.d (prog blk), .loc 9, .d (trB mode i), .d (.list [])] S = some (.d (MK mode), S) := by
  refine v_def rfl (v_nx (v_asg (w := .d (.str "borrow")) (S1 := S) (by rfl) (by rfl)) (v_nx (v_ifF (by rfl) (by rfl)) (v_nx (v_ifF (by rfl) (by rfl)) (v_nx (v_ifF (by rfl) (by rfl)) (v_nx (v_ifF (by rfl) (by rfl)) (v_nx (v_ifF (by rfl) (by rfl)) (v_nx (v_ifF (by rfl) (by rfl)) (v_nx (v_ifF (by rfl) (by rfl)) (v_nx (v_ifF (by rfl) (by rfl)) (v_ret (v_call (ws := [.d (prog blk), .loc 9, .d (trB mode i)]) (S1 := S) (by rfl) (fetched_borrow h9 hS hx hi)))))))))))) rfl
theorem made_use {S : Mem} {blk : PyData} {kinds : KW} {x : Str} (h9 : S[9]? = some (.dct kinds)) (hS : S.all (obLt S.length) = true) (hx : valW kinds (.inr x) = some (.d TK)) :
    m_kind_made CG CL [.d (prog blk), .loc 9, .d (.tuple [.str "use", pln x]), .d (.list [])] S = some (.d TK, S) := by
  refine v_def rfl (v_nx (v_asg (w := .d (.str "use")) (S1 := S) (by rfl) (by rfl)) (v_nx (v_ifF (by rfl) (by rfl)) (v_nx (v_ifF (by rfl) (by rfl)) (v_nx (v_ifF (by rfl) (by rfl)) (v_nx (v_ifF (by rfl) (by rfl)) (v_nx (v_ifF (by rfl) (by rfl)) (v_nx (v_ifF (by rfl) (by rfl)) (v_nx (v_ifF (by rfl) (by rfl)) (v_nx (v_ifF (by rfl) (by rfl)) (v_ret (v_call (ws := [.d (prog blk), .loc 9, .d (.tuple [.str "use", pln x])]) (S1 := S) (by rfl) (fetched_use h9 hS hx)))))))))))) rfl
/-! ### the instruction of an expression -/
theorem instr_int {S : Mem} {v : Int} {t : Str} {ps : List PyData} {k : PyData} : m_instruction_for CG CL [.d (num v), .d k, .d (.str t), .d (.tuple ps)] S = some (.d (.tuple [.str "set", .str t, num v]), S) := by rfl
theorem instr_unit {S : Mem} {t : Str} {ps : List PyData} {k : PyData} : m_instruction_for CG CL [.d UK, .d k, .d (.str t), .d (.tuple ps)] S = some (.d (.tuple [.str "set", .str t, UK]), S) := by rfl
theorem instr_borrow {S : Mem} {t mode : Str} {i : Int} {ps : List PyData} {k : PyData} : m_instruction_for CG CL [.d (trB mode i), .d k, .d (.str t), .d (.tuple ps)] S = some (.d (.tuple [.str "borrow", .str t, .str mode, plc i]), S) := by rfl
theorem instr_use {S : Mem} {t x : Str} {ps : List PyData} : m_instruction_for CG CL [.d (.tuple [.str "use", pln x]), .d TK, .d (.str t), .d (.tuple ps)] S = some (.d (.tuple [.str "move", .str t, pln x]), S) := by rfl
theorem instr_spawn {S : Mem} {t mode : Str} {as : PyData} {ps : List PyData} {k : PyData} : m_instruction_for CG CL [.d (.tuple [.str "spawn", .str mode, as]), .d k, .d (.str t), .d (.tuple ps)] S = some (.d (.tuple [.str "spawn", .str t, .str mode, .tuple ps]), S) := by rfl
theorem instr_join {S : Mem} {t a : Str} {e : PyData} {k : PyData} : m_instruction_for CG CL [.d (.tuple [.str "join", e]), .d k, .d (.str t), .d (.tuple [.str a])] S = some (.d (.tuple [.str "join", .str t, .str a]), S) := by rfl
end
end k05
namespace k05
open PySem L2 Pd
/-- what follows a point -/
def sucW (i : Nat) : W := .d (.tuple [.int ((i : Int) + 1)])
structure Env7 where
  o0 : Ob
  o1 : Ob
  o2 : Ob
  o3 : Ob
  o4 : Ob
  o5 : Ob
  o6 : Ob
  blk : PyData
  lt : ∀ o ∈ [o0, o1, o2, o3, o4, o5, o6], obLt 7 o = true
section
variable {CG CL : Addr} {e : Env7}
/-- the graph that is made: k successors, the scope's list at sc, tail behind -/
def GS (CG CL : Addr) (e : Env7) (σ : St) (k sc : Nat) (tail : Mem) : Mem :=
  e.o0 :: e.o1 :: e.o2 :: e.o3 :: e.o4 :: e.o5 :: e.o6 ::
  .ins CL [("program", .d (prog e.blk)), ("graph", .loc 8), ("scope", .loc sc), ("temporaries", .d (.int (σ.m : Int)))] ::
  .ins CG [("name", .d (.str "work")), ("parameters", .d (.tuple [.str "x", .str "n"])), ("sources", .d (.tuple [])), ("result", .d UK), ("kinds", .loc 9), ("points", .loc 10), ("successors", .loc 11)] ::
  .dct σ.kinds :: .lst (σ.pts.map .d) :: .lst ((List.range k).map sucW) :: tail
/-- what the statements rely on -/
structure Good (σ : St) : Prop where
  x : valW σ.kinds (.inr "x") = some (.d XK)
  nm : ∀ y ∈ σ.names, valW σ.kinds (.inr y) = some (.d TK)
  vn : ∀ y ∈ σ.names, ∃ n, y = VN n
  dat : ∀ p ∈ σ.kinds, ∃ d, p.2 = .d d
theorem Good.tmp {σ : St} {k i : PyData} (g : Good σ) : Good (σ.tmp k i) := by
  refine ⟨?_, fun y hy => ?_, g.vn, fun p hp => ?_⟩
  · show valW (putD σ.kinds (.inr (TN σ.m)) _) _ = _
    rw [valW_put_ne (fun z => TN_x σ.m (Sum.inr.inj z).symm)]; exact g.x
  · show valW (putD σ.kinds (.inr (TN σ.m)) _) _ = _
    obtain ⟨n, rfl⟩ := g.vn y hy
    rw [valW_put_ne (fun z => TN_VN n σ.m (Sum.inr.inj z))]; exact g.nm _ hy
  · rcases put_mem hp with h | h
    · exact g.dat p h
    · exact ⟨_, h⟩
theorem Good.emit {σ : St} {i : PyData} (g : Good σ) : Good (σ.emit i) := ⟨g.x, g.nm, g.vn, g.dat⟩
theorem Good.started {σ : St} {mode : Str} {i v : Int} (g : Good σ) : Good (σ.started mode i v) := g.tmp.tmp.tmp
theorem Good.letS {σ : St} {mode : Str} {i v : Int} (g : Good σ) : Good (σ.letS mode i v) := by
  have h := g.started (mode := mode) (i := i) (v := v)
  refine ⟨?_, fun y hy => ?_, fun y hy => ?_, fun p hp => ?_⟩
  · show valW (putD _ (.inr (VN _)) _) _ = _
    rw [valW_put_ne (fun z => VN_x _ (Sum.inr.inj z).symm)]; exact h.x
  · show valW (putD _ (.inr (VN _)) _) _ = _
    by_cases e : y = VN (σ.started mode i v).pts.length
    · subst e; exact valW_put_same _ _ _
    · rw [valW_put_ne (fun z => e (Sum.inr.inj z))]
      rcases List.mem_append.mp hy with z | z
      · exact h.nm y z
      · exact absurd (List.mem_singleton.mp z) e
  · rcases List.mem_append.mp hy with z | z
    · exact h.vn y z
    · exact ⟨_, List.mem_singleton.mp z⟩
  · rcases put_mem hp with q | q
    · exact h.dat p q
    · exact ⟨_, q⟩
theorem Good.step {σ τ : St} {d : PyData} (g : Good σ) (s : Step σ d τ) : Good τ := by
  cases s with
  | let_ => exact g.letS
  | do_ => exact g.started.emit
  | store => exact g.started.emit
  | print => exact g.tmp.tmp.emit
theorem all_d {n : Nat} (l : List PyData) : (l.map W.d).all (wLt n) = true := by
  rw [List.all_map]; exact List.all_eq_true.mpr fun _ _ => rfl
theorem gs_lt {σ : St} {k sc : Nat} {tail : Mem} (g : Good σ) (ht : ∀ o ∈ tail, obLt 12 o = true) (hs : sc < 12 + tail.length) : (GS CG CL e σ k sc tail).all (obLt (GS CG CL e σ k sc tail).length) = true := by
  have hl : (GS CG CL e σ k sc tail).length = 12 + tail.length := by
    show tail.length + 12 = _; omega
  rw [hl]
  refine List.all_eq_true.mpr fun o ho => ?_
  have h7 : 7 ≤ 12 + tail.length := by omega
  have lt := e.lt
  simp only [GS, List.mem_cons] at ho
  rcases ho with rfl | rfl | rfl | rfl | rfl | rfl | rfl | rfl | rfl | rfl | rfl | rfl | ho
  · exact obLt_mono h7 (lt _ (by simp))
  · exact obLt_mono h7 (lt _ (by simp))
  · exact obLt_mono h7 (lt _ (by simp))
  · exact obLt_mono h7 (lt _ (by simp))
  · exact obLt_mono h7 (lt _ (by simp))
  · exact obLt_mono h7 (lt _ (by simp))
  · exact obLt_mono h7 (lt _ (by simp))
  · have h8 : decide (8 < 12 + tail.length) = true := decide_eq_true (by omega)
    have h9 : decide (sc < 12 + tail.length) = true := decide_eq_true hs
    show (true && (decide (8 < 12 + tail.length) && (decide (sc < 12 + tail.length) && (true && true)))) = true
    rw [h8, h9]; rfl
  · have h9 : decide (9 < 12 + tail.length) = true := decide_eq_true (by omega)
    have h10 : decide (10 < 12 + tail.length) = true := decide_eq_true (by omega)
    have h11 : decide (11 < 12 + tail.length) = true := decide_eq_true (by omega)
    show (true && (true && (true && (true && (decide (9 < 12 + tail.length) && (decide (10 < 12 + tail.length) && (decide (11 < 12 + tail.length) && true))))))) = true
    rw [h9, h10, h11]; rfl
  · refine List.all_eq_true.mpr fun p hp => ?_
    obtain ⟨d, hd⟩ := g.dat p hp
    rw [hd]; rfl
  · exact all_d _
  · show (((List.range k).map sucW).all _) = true
    rw [List.all_map]; exact List.all_eq_true.mpr fun _ _ => rfl
  · exact obLt_mono (by omega) (ht o ho)
theorem rng (k : Nat) : (List.range (k + 1)).map sucW = (List.range k).map sucW ++ [sucW k] := by rw [List.range_succ, List.map_append]; rfl
theorem add_point_ok {σ : St} {n sc : Nat} {tail : Mem} {p : PyData} (h : Bd σ n) (hn : n ≤ 200) :
    ∃ i : Int, m_Lowering_add_point CG CL [.loc 7, .d p] (GS CG CL e σ σ.pts.length sc tail) = some (.d (.int i), GS CG CL e (σ.emit p) (σ.emit p).pts.length sc tail) := by
  have hl : (σ.emit p).pts.length = σ.pts.length + 1 := by show (σ.pts ++ [p]).length = _; simp
  let S0 := GS CG CL e σ σ.pts.length sc tail
  let S1 := GS CG CL e (σ.emit p) σ.pts.length sc tail
  let S2 := GS CG CL e (σ.emit p) (σ.pts.length + 1) sc tail
  have hp : σ.pts.length < sizeLine := sz (Nat.le_trans h.2.1 hn)
  have a1 : mAppend (.loc 10) [.d p] S0 = some (.d .none, S1) := by
    rw [mApp (ws := σ.pts.map .d) (by rfl) (by rw [List.length_map]; exact hp)]
    have : (σ.emit p).pts.map W.d = σ.pts.map W.d ++ [.d p] := by show (σ.pts ++ [p]).map W.d = _; rw [List.map_append]; rfl
    show some (W.d .none, (GS CG CL e σ σ.pts.length sc tail).set 10 _) = some (W.d .none, S1)
    simp only [S1, GS, this]
    rfl
  have a2 : mAppend (.loc 11) [sucW σ.pts.length] S1 = some (.d .none, S2) := by
    rw [mApp (ws := (List.range σ.pts.length).map sucW) (by rfl) (by rw [List.length_map, List.length_range]; exact hp)]
    show some (W.d .none, (GS CG CL e (σ.emit p) σ.pts.length sc tail).set 11 _) = some (W.d .none, S2)
    simp only [S2, GS, rng]
    rfl
  have s1 : sDrop (eBm mAppend (eFld CG (eFld CL (eVar 0) "graph") "points") (aCons (eVar 1) aNil)) [some (.loc 7), some (.d p)] S0 = some (.nx, [some (.loc 7), some (.d p)], S1) :=
    v_drop (v_bm (x := .loc 10) (S1 := S0) (us := σ.pts.map .d) (v_fld (p := .loc 8) (S1 := S0) (n := 8) (v_fld (p := .loc 7) (S1 := S0) (n := 7) (by rfl) (by rfl) (by rfl)) (by rfl) (by rfl)) (by rfl) (ws := [.d p]) (S2 := S0) (by rfl) a1)
  have f10 : eFld CG (eFld CL (eVar 0) "graph") "points" [some (.loc 7), some (.d p)] S1 = some (.loc 10, S1) := v_fld (p := .loc 8) (S1 := S1) (n := 8) (v_fld (p := .loc 7) (S1 := S1) (n := 7) (by rfl) (by rfl) (by rfl)) (by rfl) (by rfl)
  have l10 : eCall bLen (aCons (eFld CG (eFld CL (eVar 0) "graph") "points") aNil) [some (.loc 7), some (.d p)] S1 = some (.d (.int ((σ.pts.length : Int) + 1)), S1) := by
    refine v_call (ws := [.loc 10]) (S1 := S1) (v_cons f10 rfl) ?_
    show some (W.d (.int ((((σ.pts ++ [p]).map W.d).length : Nat) : Int)), S1) = _
    rw [List.length_map, List.length_append]
    rfl
  have s2 : sDrop (eBm mAppend (eFld CG (eFld CL (eVar 0) "graph") "successors") (aCons (eTup (aCons (eCall bLen (aCons (eFld CG (eFld CL (eVar 0) "graph") "points") aNil)) aNil)) aNil)) [some (.loc 7), some (.d p)] S1 = some (.nx, [some (.loc 7), some (.d p)], S2) :=
    v_drop (v_bm (x := .loc 11) (S1 := S1) (us := (List.range σ.pts.length).map sucW) (v_fld (p := .loc 8) (S1 := S1) (n := 8) (v_fld (p := .loc 7) (S1 := S1) (n := 7) (by rfl) (by rfl) (by rfl)) (by rfl) (by rfl)) (by rfl) (ws := [sucW σ.pts.length]) (S2 := S1) (v_cons (v_tup (v_cons l10 rfl) (by rfl)) rfl) a2)
  have f10' : eFld CG (eFld CL (eVar 0) "graph") "points" [some (.loc 7), some (.d p)] S2 = some (.loc 10, S2) := v_fld (p := .loc 8) (S1 := S2) (n := 8) (v_fld (p := .loc 7) (S1 := S2) (n := 7) (by rfl) (by rfl) (by rfl)) (by rfl) (by rfl)
  rw [hl]
  exact ⟨_, v_def rfl (v_nx s1 (v_nx s2 (v_ret (v_op (v_call (ws := [.loc 10]) (S1 := S2) (v_cons f10' rfl) (by rfl)) (y := .d (.int 1)) (S2 := S2) (by rfl) (by rfl))))) rfl⟩
/-- an expression whose parts are lowered -/
theorem lower_core {r : MF} {σ τ : St} {n sc : Nat} {tail : Mem} {ex kind ins : PyData} {ps inn : List PyData} (h : Bd τ n) (hn : n ≤ 190)
    (hp : eLc (iTupM (eCall (m_parts_of CG CL) (aCons (eVar 1) aNil))) [6] (gN 6) tYesM (eMeth CL "lower_expression" r (eVar 0) (aCons (eVar 6) aNil)) mkF [some (.loc 7), some (.d ex), none, none, none, none, none] (GS CG CL e σ σ.pts.length sc tail) = some (.d (.list ps), GS CG CL e τ τ.pts.length sc tail))
    (hi : eLc (iTupM (eVar 2)) [6] (gN 6) tYesM (eDGet (eVar 3) (eVar 6)) mkF [some (.loc 7), some (.d ex), some (.d (.tuple ps)), some (.loc 9), none, none, none] (GS CG CL e τ τ.pts.length sc tail) = some (.d (.list inn), GS CG CL e τ τ.pts.length sc tail))
    (hk : m_kind_made CG CL [.d (prog e.blk), .loc 9, .d ex, .d (.list inn)] (GS CG CL e τ τ.pts.length sc tail) = some (.d kind, GS CG CL e τ τ.pts.length sc tail))
    (hin : ∀ S : Mem, m_instruction_for CG CL [.d ex, .d kind, .d (.str (TN τ.m)), .d (.tuple ps)] S = some (.d ins, S)) :
    dfn 2 5 false (b_Lowering_lower_expression CG CL r) [.loc 7, .d ex] (GS CG CL e σ σ.pts.length sc tail) = some (.d (.str (TN τ.m)), GS CG CL e (τ.tmp kind ins) (τ.tmp kind ins).pts.length sc tail) := by
  have hm : τ.m < 256 := Nat.lt_of_le_of_lt h.1 (by omega)
  let S1 := GS CG CL e τ τ.pts.length sc tail
  let τ1 : St := { m := τ.m + 1, pts := τ.pts, kinds := τ.kinds, names := τ.names }
  let τ2 : St := { m := τ.m + 1, pts := τ.pts, kinds := putD τ.kinds (.inr (TN τ.m)) (.d kind), names := τ.names }
  have hb2 : Bd τ2 (n + 1) := ⟨Nat.succ_le_succ h.1, Nat.le_succ_of_le h.2.1, Nat.le_trans (put_len _ _ _) (Nat.succ_le_succ h.2.2.1), Nat.le_succ_of_le h.2.2.2⟩
  let S2 := GS CG CL e τ1 τ.pts.length sc tail
  let S3 := GS CG CL e τ2 τ.pts.length sc tail
  have s1 : sAsg (eCall bTuple (aCons (eLc (iTupM (eCall (m_parts_of CG CL) (aCons (eVar 1) aNil))) [6] (gN 6) tYesM (eMeth CL "lower_expression" r (eVar 0) (aCons (eVar 6) aNil)) mkF) aNil)) (gN 2) [some (.loc 7), some (.d ex), none, none, none, none, none] (GS CG CL e σ σ.pts.length sc tail) = some (.nx, [some (.loc 7), some (.d ex), some (.d (.tuple ps)), none, none, none, none], S1) := by
    refine v_asg (w := .d (.tuple ps)) (S1 := S1) (v_call (v_cons hp rfl) ?_) (by rfl)
    · show (dOf (ps.map W.d)).bind _ = _
      rw [dOf_map]; rfl
  have s2 : sAsg (eFld CG (eFld CL (eVar 0) "graph") "kinds") (gN 3) [some (.loc 7), some (.d ex), some (.d (.tuple ps)), none, none, none, none] S1 = some (.nx, [some (.loc 7), some (.d ex), some (.d (.tuple ps)), some (.loc 9), none, none, none], S1) :=
    v_asg (v_fld (p := .loc 8) (S1 := S1) (n := 8) (v_fld (p := .loc 7) (S1 := S1) (n := 7) (by rfl) (by rfl) (by rfl)) (by rfl) (by rfl)) (by rfl)
  have s3 : sAsg (eCall (m_kind_made CG CL) (aCons (eFld CL (eVar 0) "program") (aCons (eVar 3) (aCons (eVar 1) (aCons (eLc (iTupM (eVar 2)) [6] (gN 6) tYesM (eDGet (eVar 3) (eVar 6)) mkF) aNil))))) (gN 4) [some (.loc 7), some (.d ex), some (.d (.tuple ps)), some (.loc 9), none, none, none] S1 = some (.nx, [some (.loc 7), some (.d ex), some (.d (.tuple ps)), some (.loc 9), some (.d kind), none, none], S1) :=
    v_asg (v_call (v_cons (x := .d (prog e.blk)) (S1 := S1) (v_fld (p := .loc 7) (S1 := S1) (n := 7) (by rfl) (by rfl) (by rfl)) (v_cons (x := .loc 9) (S1 := S1) (by rfl) (v_cons (x := .d ex) (S1 := S1) (by rfl) (v_cons hi rfl)))) hk) (by rfl)
  have s4 : sAsg (eOp (oPlus false) (eC (.str "#")) (eCall bStr (aCons (eFld CL (eVar 0) "temporaries") aNil))) (gN 5) [some (.loc 7), some (.d ex), some (.d (.tuple ps)), some (.loc 9), some (.d kind), none, none] S1 = some (.nx, [some (.loc 7), some (.d ex), some (.d (.tuple ps)), some (.loc 9), some (.d kind), some (.d (.str (TN τ.m))), none], S1) :=
    v_asg (v_op (x := .d (.str "#")) (S1 := S1) (by rfl) (v_call (ws := [.d (.int (τ.m : Int))]) (S1 := S1) (v_cons (v_fld (p := .loc 7) (S1 := S1) (n := 7) (by rfl) (by rfl) (by rfl)) rfl) (str_p hm)) (plus_s (l1 τ.m hm _ (by decide +kernel)))) (by rfl)
  let E : Env' := [some (.loc 7), some (.d ex), some (.d (.tuple ps)), some (.loc 9), some (.d kind), some (.d (.str (TN τ.m))), none]
  have s5 : sFldAugW CL (eVar 0) "temporaries" (eC (.int (1))) E S1 = some (.nx, E, S2) := by
    refine (v_fldaug (p := .loc 7) (S1 := S1) (n := 7) (i := (τ.m : Int)) (by rfl) (by rfl) (by rfl) (j := 1) (S2 := S1) (by rfl) (n2 := 7) (fs2 := [("program", .d (prog e.blk)), ("graph", .loc 8), ("scope", .loc sc), ("temporaries", .d (.int (τ.m : Int)))]) (by rfl) (show 4 < 1000 by decide)).trans ?_
    rfl
  have s6 : sDPutW (eVar 3) (eVar 5) (eVar 4) E S2 = some (.nx, E, S3) :=
    v_dput (v := .d kind) (S1 := S2) (by rfl) (p := .loc 9) (S2 := S2) (by rfl) (z := .d (.str (TN τ.m))) (S3 := S2) (by rfl) (n := 9) (kvs := τ.kinds) (by rfl) (k := .inr (TN τ.m)) (by rfl) (sz (Nat.le_trans h.2.2.1 (by omega)))
  obtain ⟨i, ha⟩ := add_point_ok (CG := CG) (CL := CL) (e := e) (sc := sc) (tail := tail) (p := ins) hb2 (by omega)
  have s7 : sDrop (eMeth CL "add_point" (m_Lowering_add_point CG CL) (eVar 0) (aCons (eCall (m_instruction_for CG CL) (aCons (eVar 1) (aCons (eVar 4) (aCons (eVar 5) (aCons (eVar 2) aNil))))) aNil)) E S3 = some (.nx, E, GS CG CL e (τ.tmp kind ins) (τ.tmp kind ins).pts.length sc tail) :=
    v_drop (v_meth (p := .loc 7) (S1 := S3) (n := 7) (by rfl) (by rfl) (by rfl) (ws := [.d ins]) (S2 := S3) (v_cons (v_call (ws := [.d ex, .d kind, .d (.str (TN τ.m)), .d (.tuple ps)]) (S1 := S3) (by rfl) (hin S3)) rfl) ha)
  exact v_def rfl (v_nx s1 (v_nx s2 (v_nx s3 (v_nx s4 (v_nx s5 (v_nx s6 (v_nx s7 (v_ret (by rfl))))))))) rfl
end
end k05
namespace Pd
open PySem L2
theorem lcM_two {g : MG} {x : ME} {ρ ρ1 ρ2 : Env'} {S S1 S2 : Mem} {w1 w2 u1 u2 : W} (h1 : g w1 ρ S = some (ρ1, S)) (h2 : x ρ1 S = some (u1, S1)) (h3 : g w2 ρ S1 = some (ρ2, S1)) (h4 : x ρ2 S1 = some (u2, S2)) :
    lcM (.vals [w1, w2]) g tYesM x (Itm.len (.vals [w1, w2]) S) 0 ρ S = some ([u1, u2], S2) := by
  show lcM (.vals [w1, w2]) g tYesM x 2 0 ρ S = _
  unfold lcM
  show (g w1 ρ S).bind _ = _
  rw [h1]
  show (x ρ1 S).bind _ = _
  rw [h2]
  show (lcM (.vals [w1, w2]) g tYesM x 1 1 ρ S1).bind _ = _
  unfold lcM
  show ((g w2 ρ S1).bind _).bind _ = _
  rw [h3]
  show ((x ρ2 S1).bind _).bind _ = _
  rw [h4]
  rfl
theorem lcM_sng {g : MG} {x : ME} {ρ ρ1 : Env'} {S S1 : Mem} {w1 u1 : W} (h1 : g w1 ρ S = some (ρ1, S)) (h2 : x ρ1 S = some (u1, S1)) :
    lcM (.vals [w1]) g tYesM x (Itm.len (.vals [w1]) S) 0 ρ S = some ([u1], S1) := by
  show lcM (.vals [w1]) g tYesM x 1 0 ρ S = _
  unfold lcM
  show (g w1 ρ S).bind _ = _
  rw [h1]
  show (x ρ1 S).bind _ = _
  rw [h2]
  rfl
end Pd
namespace k05
open PySem L2 Pd
theorem val_some {kvs : KW} {k j : Key} {d x : PyData} (h : valW kvs j = some (.d d)) : ∃ d', valW (putD kvs k (.d x)) j = some (.d d') := by
  by_cases e : j = k
  · subst e; exact ⟨x, valW_put_same _ _ _⟩
  · exact ⟨d, by rw [valW_put_ne e]; exact h⟩
section
variable {CG CL : Addr} {e : Env7}
theorem lower_leaf {r : MF} {σ : St} {n sc : Nat} {tail : Mem} {ex kind ins : PyData} (h : Bd σ n) (hn : n ≤ 190)
    (hp : ∀ S : Mem, m_parts_of CG CL [.d ex] S = some (.d (.tuple []), S))
    (hk : m_kind_made CG CL [.d (prog e.blk), .loc 9, .d ex, .d (.list [])] (GS CG CL e σ σ.pts.length sc tail) = some (.d kind, GS CG CL e σ σ.pts.length sc tail))
    (hin : ∀ S : Mem, m_instruction_for CG CL [.d ex, .d kind, .d (.str (TN σ.m)), .d (.tuple [])] S = some (.d ins, S)) :
    dfn 2 5 false (b_Lowering_lower_expression CG CL r) [.loc 7, .d ex] (GS CG CL e σ σ.pts.length sc tail) = some (.d (.str (TN σ.m)), GS CG CL e (σ.tmp kind ins) (σ.tmp kind ins).pts.length sc tail) :=
  lower_core (inn := []) h hn (v_lc (v_itup (ds := []) (v_call (ws := [.d ex]) (S1 := GS CG CL e σ σ.pts.length sc tail) (by rfl) (hp _))) (us := []) (S2 := GS CG CL e σ σ.pts.length sc tail) (by rfl) (by rfl)) (by rfl) hk hin
theorem low_int {k n sc : Nat} {σ : St} {tail : Mem} {v : Int} (h : Bd σ n) (hn : n ≤ 190) :
    m_Lowering_lower_expression CG CL (k + 1) [.loc 7, .d (num v)] (GS CG CL e σ σ.pts.length sc tail) = some (.d (.str (TN σ.m)), GS CG CL e (σ.tmp IK (.tuple [.str "set", .str (TN σ.m), num v])) (σ.tmp IK (.tuple [.str "set", .str (TN σ.m), num v])).pts.length sc tail) :=
  lower_leaf h hn (fun S => by rfl) made_int fun S => instr_int
theorem low_unit {k n sc : Nat} {σ : St} {tail : Mem} (h : Bd σ n) (hn : n ≤ 190) :
    m_Lowering_lower_expression CG CL (k + 1) [.loc 7, .d UK] (GS CG CL e σ σ.pts.length sc tail) = some (.d (.str (TN σ.m)), GS CG CL e (σ.tmp UK (.tuple [.str "set", .str (TN σ.m), UK])) (σ.tmp UK (.tuple [.str "set", .str (TN σ.m), UK])).pts.length sc tail) :=
  lower_leaf h hn (fun S => by rfl) made_unit fun S => instr_unit
theorem low_borrow {k n sc : Nat} {σ : St} {tail : Mem} {mode : Str} {i : Int} (h : Bd σ n) (hn : n ≤ 190) (g : Good σ) (ht : ∀ o ∈ tail, obLt 12 o = true) (hs : sc < 12 + tail.length) (hi : i = 0 ∨ i = 1) :
    m_Lowering_lower_expression CG CL (k + 1) [.loc 7, .d (trB mode i)] (GS CG CL e σ σ.pts.length sc tail) = some (.d (.str (TN σ.m)), GS CG CL e (σ.tmp (MK mode) (.tuple [.str "borrow", .str (TN σ.m), .str mode, plc i])) (σ.tmp (MK mode) (.tuple [.str "borrow", .str (TN σ.m), .str mode, plc i])).pts.length sc tail) :=
  lower_leaf h hn (fun S => by rfl) (made_borrow (by rfl) (gs_lt g ht hs) g.x hi) fun S => instr_borrow
theorem low_use {k n sc : Nat} {σ : St} {tail : Mem} {x : Str} (h : Bd σ n) (hn : n ≤ 190) (g : Good σ) (ht : ∀ o ∈ tail, obLt 12 o = true) (hs : sc < 12 + tail.length) (hx : x ∈ σ.names) :
    m_Lowering_lower_expression CG CL (k + 1) [.loc 7, .d (.tuple [.str "use", pln x])] (GS CG CL e σ σ.pts.length sc tail) = some (.d (.str (TN σ.m)), GS CG CL e (σ.tmp TK (.tuple [.str "move", .str (TN σ.m), pln x])) (σ.tmp TK (.tuple [.str "move", .str (TN σ.m), pln x])).pts.length sc tail) :=
  lower_leaf h hn (fun S => by rfl) (made_use (by rfl) (gs_lt g ht hs) (g.nm x hx)) fun S => instr_use
theorem low_spawn {k n sc : Nat} {σ : St} {tail : Mem} {mode : Str} {i v : Int} (h : Bd σ n) (hn : n ≤ 180) (g : Good σ) (ht : ∀ o ∈ tail, obLt 12 o = true) (hs : sc < 12 + tail.length) (hm : mode = "shared" ∨ mode = "exclusive") (hi : i = 0 ∨ i = 1) :
    m_Lowering_lower_expression CG CL (k + 1 + 1) [.loc 7, .d (trS mode i v)] (GS CG CL e σ σ.pts.length sc tail) = some (.d (.str (TN (σ.m + 2))), GS CG CL e (σ.started mode i v) (σ.started mode i v).pts.length sc tail) := by
  let σ1 := σ.tmp (MK mode) (.tuple [.str "borrow", .str (TN σ.m), .str mode, plc i])
  let σ2 := σ1.tmp IK (.tuple [.str "set", .str (TN (σ.m + 1)), num v])
  have hb1 : Bd σ1 (n + 1) := h.tmp
  have hb2 : Bd σ2 (n + 2) := hb1.tmp
  have e1 := low_borrow (CG := CG) (CL := CL) (e := e) (k := k) h (by omega) g ht hs hi (mode := mode)
  have e2 := low_int (CG := CG) (CL := CL) (e := e) (k := k) (v := v) (sc := sc) (tail := tail) hb1 (by omega)
  obtain ⟨d1, hd1⟩ := val_some (k := .inr (TN (σ.m + 1))) (x := IK) (valW_put_same σ.kinds (.inr (TN σ.m)) (.d (MK mode)))
  refine lower_core (τ := σ2) (ps := [.str (TN σ.m), .str (TN (σ.m + 1))]) (inn := [d1, IK]) (kind := TK) hb2 (by omega) ?_ ?_ (made_spawn hm) fun S => instr_spawn
  · refine v_lc (v_itup (ds := [trB mode i, num v]) (v_call (ws := [.d (trS mode i v)]) (S1 := GS CG CL e σ σ.pts.length sc tail) (by rfl) (by rfl))) (us := [.d (.str (TN σ.m)), .d (.str (TN (σ.m + 1)))]) (S2 := GS CG CL e σ2 σ2.pts.length sc tail) (lcM_two (by rfl) (v_meth (p := .loc 7) (S1 := GS CG CL e σ σ.pts.length sc tail) (n := 7) (by rfl) (by rfl) (by rfl) (ws := [.d (trB mode i)]) (S2 := GS CG CL e σ σ.pts.length sc tail) (by rfl) e1) (by rfl) (v_meth (p := .loc 7) (S1 := GS CG CL e σ1 σ1.pts.length sc tail) (n := 7) (by rfl) (by rfl) (by rfl) (ws := [.d (num v)]) (S2 := GS CG CL e σ1 σ1.pts.length sc tail) (by rfl) e2)) (by rfl)
  · refine v_lc (v_itup (ds := [.str (TN σ.m), .str (TN (σ.m + 1))]) (by rfl)) (us := [.d d1, .d IK]) (S2 := GS CG CL e σ2 σ2.pts.length sc tail) (lcM_two (by rfl) (v_dget (p := .loc 9) (S1 := GS CG CL e σ2 σ2.pts.length sc tail) (by rfl) (z := .d (.str (TN σ.m))) (S2 := GS CG CL e σ2 σ2.pts.length sc tail) (by rfl) (n := 9) (kvs := σ2.kinds) (by rfl) (by rfl) hd1) (by rfl) (v_dget (p := .loc 9) (S1 := GS CG CL e σ2 σ2.pts.length sc tail) (by rfl) (z := .d (.str (TN (σ.m + 1)))) (S2 := GS CG CL e σ2 σ2.pts.length sc tail) (by rfl) (n := 9) (kvs := σ2.kinds) (by rfl) (by rfl) (valW_put_same _ _ _))) (by rfl)
theorem low_join {k n sc : Nat} {σ : St} {tail : Mem} {x : Str} (h : Bd σ n) (hn : n ≤ 180) (g : Good σ) (ht : ∀ o ∈ tail, obLt 12 o = true) (hs : sc < 12 + tail.length) (hx : x ∈ σ.names) :
    m_Lowering_lower_expression CG CL (k + 1 + 1) [.loc 7, .d (.tuple [.str "join", .tuple [.str "use", pln x]])] (GS CG CL e σ σ.pts.length sc tail) = some (.d (.str (TN (σ.m + 1))), GS CG CL e ((σ.tmp TK (.tuple [.str "move", .str (TN σ.m), pln x])).tmp IK (.tuple [.str "join", .str (TN (σ.m + 1)), .str (TN σ.m)])) ((σ.tmp TK (.tuple [.str "move", .str (TN σ.m), pln x])).tmp IK (.tuple [.str "join", .str (TN (σ.m + 1)), .str (TN σ.m)])).pts.length sc tail) := by
  let σ1 := σ.tmp TK (.tuple [.str "move", .str (TN σ.m), pln x])
  have hb1 : Bd σ1 (n + 1) := h.tmp
  have e1 := low_use (CG := CG) (CL := CL) (e := e) (k := k) h (by omega) g ht hs hx
  refine lower_core (τ := σ1) (ps := [.str (TN σ.m)]) (inn := [TK]) (kind := IK) hb1 (by omega) ?_ ?_ made_join fun S => instr_join
  · refine v_lc (v_itup (ds := [.tuple [.str "use", pln x]]) (v_call (ws := [.d (.tuple [.str "join", .tuple [.str "use", pln x]])]) (S1 := GS CG CL e σ σ.pts.length sc tail) (by rfl) (by rfl))) (us := [.d (.str (TN σ.m))]) (S2 := GS CG CL e σ1 σ1.pts.length sc tail) (lcM_sng (by rfl) (v_meth (p := .loc 7) (S1 := GS CG CL e σ σ.pts.length sc tail) (n := 7) (by rfl) (by rfl) (by rfl) (ws := [.d (.tuple [.str "use", pln x])]) (S2 := GS CG CL e σ σ.pts.length sc tail) (by rfl) e1)) (by rfl)
  · refine v_lc (v_itup (ds := [.str (TN σ.m)]) (by rfl)) (us := [.d TK]) (S2 := GS CG CL e σ1 σ1.pts.length sc tail) (lcM_sng (by rfl) (v_dget (p := .loc 9) (S1 := GS CG CL e σ1 σ1.pts.length sc tail) (by rfl) (z := .d (.str (TN σ.m))) (S2 := GS CG CL e σ1 σ1.pts.length sc tail) (by rfl) (n := 9) (kvs := σ1.kinds) (by rfl) (by rfl) (valW_put_same _ _ _))) (by rfl)
/-! ### statements -/
def scp (names : List Str) : Ob := .lst (nmW "x" :: nmW "n" :: names.map nmW)
theorem scp_lt (names : List Str) : ∀ o ∈ [scp names], obLt 12 o = true := fun o ho => by
  rw [List.mem_singleton.mp ho]
  show (true && (true && (names.map nmW).all (wLt 12))) = true
  rw [show (names.map nmW).all (wLt 12) = true by rw [List.all_map]; exact List.all_eq_true.mpr fun _ _ => rfl]
  rfl
def GF (CG CL : Addr) (e : Env7) (σ : St) : Mem := GS CG CL e σ σ.pts.length 12 [scp σ.names]
theorem add_p {σ0 σ : St} {n : Nat} {p : PyData} {o : ME} {m : MA} {ρ : Env'} (h : Bd σ n) (hn : n ≤ 200) (ho : o ρ (GF CG CL e σ0) = some (.loc 7, GF CG CL e σ0)) (ha : m ρ (GF CG CL e σ0) = some ([.d p], GF CG CL e σ)) :
    sDrop (eMeth CL "add_point" (m_Lowering_add_point CG CL) o m) ρ (GF CG CL e σ0) = some (.nx, ρ, GF CG CL e (σ.emit p)) := by
  obtain ⟨i, hi⟩ := add_point_ok (CG := CG) (CL := CL) (e := e) (sc := 12) (tail := [scp σ.names]) (p := p) h hn
  exact v_drop (v_meth (n := 7) ho (by rfl) (by rfl) ha hi)
theorem let_ok {σ : St} {n : Nat} {mode : Str} {i v : Int} (h : Bd σ n) (hn : n ≤ 150) (g : Good σ) (hm : mode = "shared" ∨ mode = "exclusive") (hi : i = 0 ∨ i = 1) :
    m_Lowering_lower_let CG CL [.loc 7, .d (.tuple [.str "let", .str (VN (σ.started mode i v).pts.length), trS mode i v])] (GF CG CL e σ) = some (.d .none, GF CG CL e (σ.letS mode i v)) := by
  let τ := σ.started mode i v
  let x := VN τ.pts.length
  let D : PyData := .tuple [.str "let", .str x, trS mode i v]
  have hb := h.started (mode := mode) (i := i) (v := v)
  have e1 := low_spawn (CG := CG) (CL := CL) (e := e) (k := 1) (v := v) h (by omega) g (scp_lt σ.names) (show 12 < 12 + 1 by omega) hm hi
  let S1 : Mem := GF CG CL e τ
  let τ2 : St := { m := τ.m, pts := τ.pts, kinds := putD τ.kinds (.inr x) (.d TK), names := τ.names }
  let τ3 : St := { m := τ.m, pts := τ.pts, kinds := putD τ.kinds (.inr x) (.d TK), names := τ.names ++ [x] }
  have hb3 : Bd τ3 (n + 3 + 1) := ⟨Nat.le_succ_of_le hb.1, Nat.le_succ_of_le hb.2.1, Nat.le_trans (put_len _ _ _) (Nat.succ_le_succ hb.2.2.1), by show (_ ++ [_]).length ≤ _; rw [List.length_append]; exact Nat.succ_le_succ hb.2.2.2⟩
  let E : Env' := [some (.loc 7), some (.d D), some (.d (.str "let")), some (.d (.str x)), some (.d (trS mode i v)), some (.d (.str (TN (σ.m + 2))))]
  have s2 : sAsg (eMeth CL "lower_expression" (m_Lowering_lower_expression CG CL 3) (eVar 0) (aCons (eVar 4) aNil)) (gN 5) [some (.loc 7), some (.d D), some (.d (.str "let")), some (.d (.str x)), some (.d (trS mode i v)), none] (GF CG CL e σ) = some (.nx, E, S1) :=
    v_asg (v_meth (p := .loc 7) (S1 := GF CG CL e σ) (n := 7) (by rfl) (by rfl) (by rfl) (ws := [.d (trS mode i v)]) (S2 := GF CG CL e σ) (by rfl) e1) (by rfl)
  have f9 : eFld CG (eFld CL (eVar 0) "graph") "kinds" E S1 = some (.loc 9, S1) := v_fld (p := .loc 8) (S1 := S1) (n := 8) (v_fld (p := .loc 7) (S1 := S1) (n := 7) (by rfl) (by rfl) (by rfl)) (by rfl) (by rfl)
  have s3 : sDPutW (eFld CG (eFld CL (eVar 0) "graph") "kinds") (eVar 3) (eDGet (eFld CG (eFld CL (eVar 0) "graph") "kinds") (eVar 5)) E S1 = some (.nx, E, GF CG CL e τ2) :=
    v_dput (v := .d TK) (S1 := S1) (v_dget f9 (z := .d (.str (TN (σ.m + 2)))) (S2 := S1) (by rfl) (n := 9) (kvs := τ.kinds) (by rfl) (by rfl) (valW_put_same _ _ _)) f9 (z := .d (.str x)) (S3 := S1) (by rfl) (n := 9) (kvs := τ.kinds) (by rfl) (k := .inr x) (by rfl) (sz (Nat.le_trans hb.2.2.1 (by omega)))
  have s4 : sDrop (eBm mAppend (eFld CL (eVar 0) "scope") (aCons (eVar 3) aNil)) E (GF CG CL e τ2) = some (.nx, E, GF CG CL e τ3) := by
    refine v_drop (w := .d .none) (v_bm (x := .loc 12) (S1 := GF CG CL e τ2) (us := nmW "x" :: nmW "n" :: τ.names.map nmW) (v_fld (p := .loc 7) (S1 := GF CG CL e τ2) (n := 7) (by rfl) (by rfl) (by rfl)) (by rfl) (ws := [.d (.str x)]) (S2 := GF CG CL e τ2) (by rfl) ?_)
    rw [mApp (ws := nmW "x" :: nmW "n" :: τ.names.map nmW) (by rfl) (by
      show (τ.names.map nmW).length + 1 + 1 < sizeLine
      rw [List.length_map]
      exact Nat.lt_of_le_of_lt (show τ.names.length + 1 + 1 ≤ 200 by have : τ.names.length ≤ n + 3 := hb.2.2.2; omega) (by decide))]
    have : (nmW "x" :: nmW "n" :: τ.names.map nmW) ++ [W.d (.str x)] = nmW "x" :: nmW "n" :: (τ.names ++ [x]).map nmW := by rw [List.map_append]; rfl
    rw [this]
    rfl
  have s5 : sDrop (eMeth CL "add_point" (m_Lowering_add_point CG CL) (eVar 0) (aCons (eTup (aCons (eC (.str "let")) (aCons (eVar 3) (aCons (eVar 5) aNil)))) aNil)) E (GF CG CL e τ3) = some (.nx, E, GF CG CL e (σ.letS mode i v)) :=
    add_p (p := .tuple [.str "let", .str x, .str (TN (σ.m + 2))]) hb3 (by omega) (by rfl) (by rfl)
  exact v_defN rfl (v_nx (v_asg (w := .d D) (S1 := GF CG CL e σ) (by rfl) (by rfl)) (v_nx s2 (v_nx s3 (v_nx s4 s5)))) rfl
theorem stmt_ok {σ τ : St} {d : PyData} {n : Nat} (h : Bd σ n) (hn : n ≤ 150) (g : Good σ) (s : Step σ d τ) : m_Lowering_lower_statement CG CL [.loc 7, .d d] (GF CG CL e σ) = some (.d .none, GF CG CL e τ) := by
  cases s with
  | let_ mode i v hm hi =>
    let D : PyData := .tuple [.str "let", .str (VN (σ.started mode i v).pts.length), trS mode i v]
    have e1 := let_ok (CG := CG) (CL := CL) (e := e) (v := v) h hn g hm hi
    exact v_defN rfl (v_nx (v_asg (w := .d (.str "let")) (S1 := GF CG CL e σ) (by rfl) (by rfl)) (v_ifF (by rfl) (v_ifF (by rfl) (v_ifT (by rfl) (v_drop (v_meth (p := .loc 7) (S1 := GF CG CL e σ) (n := 7) (by rfl) (by rfl) (by rfl) (ws := [.d D]) (S2 := GF CG CL e σ) (by rfl) e1)))))) rfl
  | do_ mode i v hm hi =>
    have e1 := low_spawn (CG := CG) (CL := CL) (e := e) (k := 1) (v := v) h (by omega) g (scp_lt σ.names) (show 12 < 12 + 1 by omega) hm hi
    have hb := h.started (mode := mode) (i := i) (v := v)
    let D : PyData := .tuple [.str "do", trS mode i v]
    let E : Env' := [some (.loc 7), some (.d D), some (.d (.str "do")), none, none, none]
    have ex : eMeth CL "lower_expression" (m_Lowering_lower_expression CG CL 3) (eVar 0) (aCons (eOp oIx (eVar 1) (eC (.int (1)))) aNil) E (GF CG CL e σ) = some (.d (.str (TN (σ.m + 2))), GF CG CL e (σ.started mode i v)) :=
      v_meth (p := .loc 7) (S1 := GF CG CL e σ) (n := 7) (by rfl) (by rfl) (by rfl) (ws := [.d (trS mode i v)]) (S2 := GF CG CL e σ) (by rfl) e1
    have q := add_p (CG := CG) (CL := CL) (e := e) (σ0 := σ) (p := .tuple [.str "drop", .str (TN (σ.m + 2))]) (o := eVar 0) (ρ := E) hb (by omega) (by rfl) (m := aCons (eTup (aCons (eC (.str "drop")) (aCons (eMeth CL "lower_expression" (m_Lowering_lower_expression CG CL 3) (eVar 0) (aCons (eOp oIx (eVar 1) (eC (.int (1)))) aNil)) aNil))) aNil) (v_cons (v_tup (v_cons (x := .d (.str "drop")) (S1 := GF CG CL e σ) (by rfl) (v_cons ex rfl)) (by rfl)) rfl)
    exact v_defN rfl (v_nx (v_asg (w := .d (.str "do")) (S1 := GF CG CL e σ) (by rfl) (by rfl)) (v_ifF (by rfl) (v_ifF (by rfl) (v_ifF (by rfl) (v_ifF (by rfl) (v_ifF (by rfl) (v_ifT (by rfl) q))))))) rfl
  | store x hx mode i v hm hi =>
    have e1 := low_spawn (CG := CG) (CL := CL) (e := e) (k := 1) (v := v) h (by omega) g (scp_lt σ.names) (show 12 < 12 + 1 by omega) hm hi
    have hb := h.started (mode := mode) (i := i) (v := v)
    let D : PyData := .tuple [.str "store", pln x, trS mode i v]
    let E : Env' := [some (.loc 7), some (.d D), some (.d (.str "store")), some (.d (.str "store")), some (.d (pln x)), some (.d (trS mode i v))]
    have ex : eMeth CL "lower_expression" (m_Lowering_lower_expression CG CL 3) (eVar 0) (aCons (eVar 5) aNil) E (GF CG CL e σ) = some (.d (.str (TN (σ.m + 2))), GF CG CL e (σ.started mode i v)) :=
      v_meth (p := .loc 7) (S1 := GF CG CL e σ) (n := 7) (by rfl) (by rfl) (by rfl) (ws := [.d (trS mode i v)]) (S2 := GF CG CL e σ) (by rfl) e1
    have q := add_p (CG := CG) (CL := CL) (e := e) (σ0 := σ) (p := .tuple [.str "store", pln x, .str (TN (σ.m + 2))]) (o := eVar 0) (ρ := E) hb (by omega) (by rfl) (m := aCons (eTup (aCons (eC (.str "store")) (aCons (eVar 4) (aCons (eMeth CL "lower_expression" (m_Lowering_lower_expression CG CL 3) (eVar 0) (aCons (eVar 5) aNil)) aNil)))) aNil) (v_cons (v_tup (v_cons (x := .d (.str "store")) (S1 := GF CG CL e σ) (by rfl) (v_cons (x := .d (pln x)) (S1 := GF CG CL e σ) (by rfl) (v_cons ex rfl))) (by rfl)) rfl)
    exact v_defN rfl (v_nx (v_asg (w := .d (.str "store")) (S1 := GF CG CL e σ) (by rfl) (by rfl)) (v_ifF (by rfl) (v_ifF (by rfl) (v_ifF (by rfl) (v_ifT (by rfl) (v_nx (v_asg (w := .d D) (S1 := GF CG CL e σ) (by rfl) (by rfl)) q)))))) rfl
  | print x hx =>
    have e1 := low_join (CG := CG) (CL := CL) (e := e) (k := 1) h (by omega) g (scp_lt σ.names) (show 12 < 12 + 1 by omega) hx
    let σ2 := (σ.tmp TK (.tuple [.str "move", .str (TN σ.m), pln x])).tmp IK (.tuple [.str "join", .str (TN (σ.m + 1)), .str (TN σ.m)])
    have hb : Bd σ2 (n + 2) := h.tmp.tmp
    let D : PyData := .tuple [.str "print", .tuple [.str "join", .tuple [.str "use", pln x]]]
    let E : Env' := [some (.loc 7), some (.d D), some (.d (.str "print")), none, none, none]
    have ex : eMeth CL "lower_expression" (m_Lowering_lower_expression CG CL 3) (eVar 0) (aCons (eOp oIx (eVar 1) (eC (.int (1)))) aNil) E (GF CG CL e σ) = some (.d (.str (TN (σ.m + 1))), GF CG CL e σ2) :=
      v_meth (p := .loc 7) (S1 := GF CG CL e σ) (n := 7) (by rfl) (by rfl) (by rfl) (ws := [.d (.tuple [.str "join", .tuple [.str "use", pln x]])]) (S2 := GF CG CL e σ) (by rfl) e1
    have q := add_p (CG := CG) (CL := CL) (e := e) (σ0 := σ) (p := .tuple [.str "print", .str (TN (σ.m + 1))]) (o := eVar 0) (ρ := E) hb (by omega) (by rfl) (m := aCons (eTup (aCons (eC (.str "print")) (aCons (eMeth CL "lower_expression" (m_Lowering_lower_expression CG CL 3) (eVar 0) (aCons (eOp oIx (eVar 1) (eC (.int (1)))) aNil)) aNil))) aNil) (v_cons (v_tup (v_cons (x := .d (.str "print")) (S1 := GF CG CL e σ) (by rfl) (v_cons ex rfl)) (by rfl)) rfl)
    exact v_defN rfl (v_nx (v_asg (w := .d (.str "print")) (S1 := GF CG CL e σ) (by rfl) (by rfl)) (v_ifF (by rfl) (v_ifF (by rfl) (v_ifF (by rfl) (v_ifF (by rfl) (v_ifF (by rfl) (v_ifF (by rfl) q))))))) rfl
end
end k05
namespace Pd
open PySem L2
theorem v_make {C : Addr} {f : MF} {a : MA} {ρ : Env'} {S S1 S2 : Mem} {ws : List W} (h1 : a ρ S = some (ws, S1)) (h2 : f (.loc S1.length :: ws) (S1 ++ [.ins C []]) = some (.d .none, S2)) : eMake C f a ρ S = some (.loc S1.length, S2) := by
  unfold eMake
  rw [h1]; simp only [Option.bind_some, h2]
end Pd
namespace k05
open PySem L2 Pd
def dropI (x : Str) : PyData := .tuple [.str "drop", .str x]
def St.emits (σ : St) (ps : List PyData) : St := { σ with pts := σ.pts ++ ps }
theorem emits_nil (σ : St) : σ.emits [] = σ := by unfold St.emits; rw [List.append_nil]
theorem emits_emit (σ : St) (ps : List PyData) (p : PyData) : (σ.emits ps).emit p = σ.emits (ps ++ [p]) := by
  unfold St.emits St.emit; simp
theorem Bd.emits {σ : St} {n : Nat} {ps : List PyData} (h : Bd σ n) : Bd (σ.emits ps) (n + ps.length) := by
  obtain ⟨h1, h2, h3, h4⟩ := h
  refine ⟨Nat.le_add_right_of_le h1, ?_, Nat.le_add_right_of_le h3, Nat.le_add_right_of_le h4⟩
  show (σ.pts ++ ps).length ≤ _
  rw [List.length_append]; omega
theorem Bd.mono {σ : St} {n m : Nat} (h : Bd σ n) (l : n ≤ m) : Bd σ m := ⟨Nat.le_trans h.1 l, Nat.le_trans h.2.1 l, Nat.le_trans h.2.2.1 l, Nat.le_trans h.2.2.2 l⟩
/-- statements one behind another -/
inductive Chain (σ : St) : List PyData → St → Prop where
  | nil : Chain σ [] σ
  | snoc {ds : List PyData} {τ υ : St} {d : PyData} : Chain σ ds τ → Step τ d υ → Chain σ (ds ++ [d]) υ
theorem chain_fun {σ τ : St} {ds : List PyData} (c : Chain σ ds τ) : ∃ f : Nat → St, f 0 = σ ∧ f ds.length = τ ∧ ∀ i d, ds[i]? = some d → Step (f i) d (f (i + 1)) := by
  induction c with
  | nil => exact ⟨fun _ => σ, rfl, rfl, fun i d h => by simp at h⟩
  | @snoc ds τ υ d c s ih =>
    obtain ⟨f, h0, h1, h2⟩ := ih
    refine ⟨fun j => if j ≤ ds.length then f j else υ, by show (if 0 ≤ ds.length then _ else _) = _; rw [if_pos (Nat.zero_le _)]; exact h0, ?_, fun i x hx => ?_⟩
    · show (if (ds ++ [d]).length ≤ ds.length then _ else _) = _
      rw [if_neg (by simp)]
    · by_cases hi : i < ds.length
      · rw [List.getElem?_append_left hi] at hx
        show Step (if i ≤ ds.length then f i else υ) x (if i + 1 ≤ ds.length then f (i + 1) else υ)
        rw [if_pos (Nat.le_of_lt hi), if_pos (show i + 1 ≤ ds.length from hi)]
        exact h2 i x hx
      · rw [List.getElem?_append_right (by omega)] at hx
        have e : i = ds.length := by
          have := (List.getElem?_eq_some_iff.mp hx).1
          simp at this; omega
        subst e
        simp at hx
        subst hx
        show Step (if ds.length ≤ ds.length then f ds.length else υ) d (if ds.length + 1 ≤ ds.length then _ else υ)
        rw [if_pos (Nat.le_refl _), if_neg (by omega), h1]
        exact s
theorem chain_good {σ τ : St} {ds : List PyData} (c : Chain σ ds τ) (g : Good σ) : Good τ := by
  induction c with
  | nil => exact g
  | snoc _ s ih => exact ih.step s
theorem chain_bd {σ τ : St} {ds : List PyData} {n : Nat} (c : Chain σ ds τ) (h : Bd σ n) : Bd τ (n + 4 * ds.length) := by
  induction c with
  | nil => exact h.mono (by omega)
  | snoc _ s ih =>
    have := s.bd ih
    rw [List.length_append]
    exact this.mono (by simp; omega)
section
variable {CG CL : Addr} {e : Env7}
theorem drops_ok {σ : St} {n sc : Nat} {tail : Mem} {xs : List Str} (h : Bd σ n) (hn : n + xs.length ≤ 200) :
    m_Lowering_add_drops CG CL [.loc 7, .d (.list (xs.map PyData.str))] (GS CG CL e σ σ.pts.length sc tail) = some (.d .none, GS CG CL e (σ.emits (xs.reverse.map dropI)) (σ.emits (xs.reverse.map dropI)).pts.length sc tail) := by
  let ws : List W := (xs.map PyData.str).reverse.map W.d
  have hl : ws.length = xs.length := by simp [ws]
  have hw : ∀ i, ws[i]? = (xs.reverse[i]?).map fun x => W.d (.str x) := fun i => by
    simp only [ws]; rw [← List.map_reverse, List.map_map, List.getElem?_map]; rfl
  let G (i : Nat) : Mem := GS CG CL e (σ.emits ((xs.reverse.take i).map dropI)) (σ.emits ((xs.reverse.take i).map dropI)).pts.length sc tail
  let body : MS := sDrop (eMeth CL "add_point" (m_Lowering_add_point CG CL) (eVar 0) (aCons (eTup (aCons (eC (.str "drop")) (aCons (eVar 2) aNil))) aNil))
  obtain ⟨ρ', S', e1, rfl, y, rfl⟩ := forM_vals (g := gN 2) (b := body) (ws := ws) (fun i ρ S => S = G i ∧ ∃ y, ρ = [some (.loc 7), some (.d (.list (xs.map PyData.str))), y]) (fun i w ρ S hv hI => by
    obtain ⟨rfl, y, rfl⟩ := hI
    rw [hw] at hv
    obtain ⟨x, hx, rfl⟩ := Option.map_eq_some_iff.mp hv
    have hi : i < xs.reverse.length := (List.getElem?_eq_some_iff.mp hx).1
    have hs : (xs.reverse.take (i + 1)).map dropI = (xs.reverse.take i).map dropI ++ [dropI x] := by
      rw [List.take_succ_eq_append_getElem hi, List.map_append]
      congr 2
      have := List.getElem?_eq_getElem hi
      rw [hx] at this; cases this; rfl
    have hb : Bd (σ.emits ((xs.reverse.take i).map dropI)) (n + i) := (h.emits).mono (by rw [List.length_map]; exact Nat.add_le_add_left (List.length_take_le _ _) _)
    obtain ⟨k, hk⟩ := add_point_ok (CG := CG) (CL := CL) (e := e) (sc := sc) (tail := tail) (p := dropI x) hb (by simp at hi; omega)
    refine ⟨_, G i, _, G (i + 1), rfl, v_drop (v_meth (p := .loc 7) (S1 := G i) (n := 7) (by rfl) (by rfl) (by rfl) (ws := [.d (dropI x)]) (S2 := G i) (by rfl) hk) |>.trans ?_, rfl, some (.d (.str x)), rfl⟩
    simp only [G, hs, emits_emit]
    rfl) ws.length 0 [some (.loc 7), some (.d (.list (xs.map PyData.str))), none] (G 0) (by omega) (Nat.zero_le _) ⟨rfl, none, rfl⟩
  have g0 : G 0 = GS CG CL e σ σ.pts.length sc tail := by simp only [G, List.take_zero, List.map_nil, emits_nil]
  have gn : G ws.length = GS CG CL e (σ.emits (xs.reverse.map dropI)) (σ.emits (xs.reverse.map dropI)).pts.length sc tail := by
    simp only [G]; rw [hl, List.take_of_length_le (by simp)]
  rw [g0, gn] at e1
  exact v_defN rfl (v_for (im := .vals ws) (S1 := GS CG CL e σ σ.pts.length sc tail) (by rfl) e1) rfl
theorem str_map (names : List Str) : names.map nmW = (names.map PyData.str).map W.d := by rw [List.map_map]; rfl
def tail2 (names : List Str) : Mem := [scp names, .lst [nmW "x", nmW "n"]]
theorem block_ok {σ τ : St} {ds : List PyData} {n : Nat} (h : Bd σ n) (hn : n + 4 * ds.length ≤ 90) (g : Good σ) (hσ : σ.names = []) (c : Chain σ ds τ) :
    m_Lowering_lower_block CG CL [.loc 7, .d (.tuple ds)] (GF CG CL e σ) = some (.d .none, GS CG CL e (τ.emits (τ.names.reverse.map dropI)) (τ.emits (τ.names.reverse.map dropI)).pts.length 13 (tail2 τ.names)) := by
  let D : W := .d (.tuple ds)
  have s1 : sAsg (eCall bLen (aCons (eFld CL (eVar 0) "scope") aNil)) (gN 2) [some (.loc 7), some D, none, none] (GF CG CL e σ) = some (.nx, [some (.loc 7), some D, some (.d (.int 2)), none], GF CG CL e σ) := by
    refine v_asg (w := .d (.int 2)) (S1 := GF CG CL e σ) (v_call (ws := [.loc 12]) (S1 := GF CG CL e σ) (v_cons (v_fld (p := .loc 7) (S1 := GF CG CL e σ) (n := 7) (by rfl) (by rfl) (by rfl)) rfl) ?_) (by rfl)
    show some (W.d (.int (((nmW "x" :: nmW "n" :: σ.names.map nmW).length : Nat) : Int)), GF CG CL e σ) = _
    rw [hσ]; rfl
  let body : MS := sDrop (eMeth CL "lower_statement" (m_Lowering_lower_statement CG CL) (eVar 0) (aCons (eVar 3) aNil))
  obtain ⟨f, f0, f1, fs⟩ := chain_fun c
  have fg : ∀ i, i ≤ ds.length → Good (f i) ∧ Bd (f i) (n + 4 * i) := by
    intro i
    induction i with
    | zero => intro _; rw [f0]; exact ⟨g, h⟩
    | succ i ih =>
      intro hi
      obtain ⟨g1, b1⟩ := ih (by omega)
      have s := fs i _ (List.getElem?_eq_getElem (show i < ds.length from hi))
      exact ⟨g1.step s, (s.bd b1).mono (by omega)⟩
  obtain ⟨ρ', S', e1, rfl, y, rfl⟩ := forM_vals (g := gN 3) (b := body) (ws := ds.map W.d) (fun i ρ S => S = GF CG CL e (f i) ∧ ∃ y, ρ = [some (.loc 7), some D, some (.d (.int 2)), y]) (fun i w ρ S hv hI => by
    obtain ⟨rfl, y, rfl⟩ := hI
    rw [List.getElem?_map] at hv
    obtain ⟨d, hd, rfl⟩ := Option.map_eq_some_iff.mp hv
    have hi : i < ds.length := (List.getElem?_eq_some_iff.mp hd).1
    obtain ⟨g1, b1⟩ := fg i (Nat.le_of_lt hi)
    have q := stmt_ok (CG := CG) (CL := CL) (e := e) b1 (by omega) g1 (fs i d hd)
    exact ⟨_, GF CG CL e (f i), _, GF CG CL e (f (i + 1)), rfl, v_drop (v_meth (p := .loc 7) (S1 := GF CG CL e (f i)) (n := 7) (by rfl) (by rfl) (by rfl) (ws := [.d d]) (S2 := GF CG CL e (f i)) (by rfl) q), rfl, _, rfl⟩) (ds.map W.d).length 0 [some (.loc 7), some D, some (.d (.int 2)), none] (GF CG CL e σ) (by omega) (Nat.zero_le _) ⟨by rw [f0], none, rfl⟩
  rw [List.length_map, f1] at e1
  have s2 : sFor (iTupM (eVar 1)) (gN 3) body [some (.loc 7), some D, some (.d (.int 2)), none] (GF CG CL e σ) = some (.nx, [some (.loc 7), some D, some (.d (.int 2)), y], GF CG CL e τ) :=
    v_for (im := .vals (ds.map W.d)) (S1 := GF CG CL e σ) (by rfl) (by show Pd.forM _ _ _ (ds.map W.d).length _ _ _ = _; rw [List.length_map]; exact e1)
  have hbτ : Bd τ (n + 4 * ds.length) := chain_bd c h
  have sl : eSl false (eFld CL (eVar 0) "scope") (pSome (eVar 2)) pNone [some (.loc 7), some D, some (.d (.int 2)), y] (GF CG CL e τ) = some (.d (.list (τ.names.map PyData.str)), GF CG CL e τ) := by
    unfold eSl
    rw [v_fld (p := .loc 7) (S1 := GF CG CL e τ) (n := 7) (fs := [("program", .d (prog e.blk)), ("graph", .loc 8), ("scope", .loc 12), ("temporaries", .d (.int (τ.m : Int)))]) (w := .loc 12) (by rfl) (by rfl) (by rfl)]
    show ((dOf (cutL (nmW "x" :: nmW "n" :: τ.names.map nmW) (some 2) none)).map fun ds => (W.d (.list ds), GF CG CL e τ)) = _
    have hc : cutL (nmW "x" :: nmW "n" :: τ.names.map nmW) (some 2) none = τ.names.map nmW := by
      unfold cutL
      rw [HT.sIx_none, show (some (2 : Int)) = some ((2 : Nat) : Int) from rfl, HT.sIx_nat]
      have hm : min 2 (nmW "x" :: nmW "n" :: τ.names.map nmW).length = 2 := Nat.min_eq_left (by simp)
      rw [hm]
      show (τ.names.map nmW).take _ = _
      exact List.take_of_length_le (by simp)
    rw [hc, str_map, dOf_map]
    rfl
  have hbl : τ.names.length ≤ n + 4 * ds.length := hbτ.2.2.2
  let υ := τ.emits (τ.names.reverse.map dropI)
  have dr := drops_ok (CG := CG) (CL := CL) (e := e) (sc := 12) (tail := [scp τ.names]) (xs := τ.names) hbτ (by omega)
  have s3 : sDrop (eMeth CL "add_drops" (m_Lowering_add_drops CG CL) (eVar 0) (aCons (eSl false (eFld CL (eVar 0) "scope") (pSome (eVar 2)) pNone) aNil)) [some (.loc 7), some D, some (.d (.int 2)), y] (GF CG CL e τ) = some (.nx, [some (.loc 7), some D, some (.d (.int 2)), y], GS CG CL e υ υ.pts.length 12 [scp τ.names]) :=
    v_drop (v_meth (p := .loc 7) (S1 := GF CG CL e τ) (n := 7) (by rfl) (by rfl) (by rfl) (ws := [.d (.list (τ.names.map PyData.str))]) (S2 := GF CG CL e τ) (v_cons sl rfl) dr)
  have sl2 : eSl true (eFld CL (eVar 0) "scope") pNone (pSome (eVar 2)) [some (.loc 7), some D, some (.d (.int 2)), y] (GS CG CL e υ υ.pts.length 12 [scp τ.names]) = some (.loc 13, GS CG CL e υ υ.pts.length 12 (tail2 τ.names)) := by
    unfold eSl
    rw [v_fld (p := .loc 7) (S1 := GS CG CL e υ υ.pts.length 12 [scp τ.names]) (n := 7) (fs := [("program", .d (prog e.blk)), ("graph", .loc 8), ("scope", .loc 12), ("temporaries", .d (.int (τ.m : Int)))]) (w := .loc 12) (by rfl) (by rfl) (by rfl)]
    show some (W.loc 13, GS CG CL e υ υ.pts.length 12 [scp τ.names] ++ [.lst (cutL (nmW "x" :: nmW "n" :: τ.names.map nmW) none (some 2))]) = _
    have hc : cutL (nmW "x" :: nmW "n" :: τ.names.map nmW) none (some 2) = [nmW "x", nmW "n"] := by
      unfold cutL
      rw [HT.sIx_none, show (some (2 : Int)) = some ((2 : Nat) : Int) from rfl, HT.sIx_nat]
      have hm : min 2 (nmW "x" :: nmW "n" :: τ.names.map nmW).length = 2 := Nat.min_eq_left (by simp)
      rw [hm]
      rfl
    rw [hc]
    rfl
  have s4 : sFldW CL (eVar 0) "scope" (eSl true (eFld CL (eVar 0) "scope") pNone (pSome (eVar 2))) [some (.loc 7), some D, some (.d (.int 2)), y] (GS CG CL e υ υ.pts.length 12 [scp τ.names]) = some (.nx, [some (.loc 7), some D, some (.d (.int 2)), y], GS CG CL e υ υ.pts.length 13 (tail2 τ.names)) := by
    refine (v_fldput sl2 (p := .loc 7) (S2 := GS CG CL e υ υ.pts.length 12 (tail2 τ.names)) (by rfl) (n := 7) (fs := [("program", .d (prog e.blk)), ("graph", .loc 8), ("scope", .loc 12), ("temporaries", .d (.int (τ.m : Int)))]) (by rfl) (show 4 < 1000 by decide)).trans ?_
    rfl
  exact v_defN rfl (v_nx s1 (v_nx s2 (v_nx s3 s4))) rfl
end
end k05
namespace k05
open PySem L2 Pd
section
variable {CG CL : Addr} {e : Env7}
def fsL (e : Env7) (m sc : Nat) : FW := [("program", .d (prog e.blk)), ("graph", .loc 8), ("scope", .loc sc), ("temporaries", .d (.int (m : Int)))]
def fsG : FW := [("name", .d (.str "work")), ("parameters", .d (.tuple [.str "x", .str "n"])), ("sources", .d (.tuple [])), ("result", .d UK), ("kinds", .loc 9), ("points", .loc 10), ("successors", .loc 11)]
def GX (CG CL : Addr) (e : Env7) (σ : St) (sl : List W) (sc : Nat) (tail : Mem) : Mem :=
  e.o0 :: e.o1 :: e.o2 :: e.o3 :: e.o4 :: e.o5 :: e.o6 :: .ins CL (fsL e σ.m sc) :: .ins CG fsG :: .dct σ.kinds :: .lst (σ.pts.map .d) :: .lst sl :: tail
theorem add_end_ok {σ : St} {n sc : Nat} {tail : Mem} {p : PyData} (h : Bd σ n) (hn : n ≤ 200) :
    m_Lowering_add_end CG CL [.loc 7, .d p] (GS CG CL e σ σ.pts.length sc tail) = some (.d .none, GX CG CL e (σ.emit p) ((List.range σ.pts.length).map sucW ++ [.d (.tuple [])]) sc tail) := by
  let S0 := GS CG CL e σ σ.pts.length sc tail
  let S1 := GS CG CL e (σ.emit p) σ.pts.length sc tail
  let S2 := GX CG CL e (σ.emit p) ((List.range σ.pts.length).map sucW ++ [.d (.tuple [])]) sc tail
  have hp : σ.pts.length < sizeLine := sz (Nat.le_trans h.2.1 hn)
  have a1 : mAppend (.loc 10) [.d p] S0 = some (.d .none, S1) := by
    rw [mApp (ws := σ.pts.map .d) (by rfl) (by rw [List.length_map]; exact hp)]
    have : (σ.emit p).pts.map W.d = σ.pts.map W.d ++ [.d p] := by show (σ.pts ++ [p]).map W.d = _; rw [List.map_append]; rfl
    show some (W.d .none, (GS CG CL e σ σ.pts.length sc tail).set 10 _) = some (W.d .none, S1)
    simp only [S1, GS, this]
    rfl
  have a2 : mAppend (.loc 11) [.d (.tuple [])] S1 = some (.d .none, S2) := by
    rw [mApp (ws := (List.range σ.pts.length).map sucW) (by rfl) (by rw [List.length_map, List.length_range]; exact hp)]
    rfl
  have s1 : sDrop (eBm mAppend (eFld CG (eFld CL (eVar 0) "graph") "points") (aCons (eVar 1) aNil)) [some (.loc 7), some (.d p)] S0 = some (.nx, [some (.loc 7), some (.d p)], S1) :=
    v_drop (v_bm (x := .loc 10) (S1 := S0) (us := σ.pts.map .d) (v_fld (p := .loc 8) (S1 := S0) (n := 8) (v_fld (p := .loc 7) (S1 := S0) (n := 7) (by rfl) (by rfl) (by rfl)) (by rfl) (by rfl)) (by rfl) (ws := [.d p]) (S2 := S0) (by rfl) a1)
  have s2 : sDrop (eBm mAppend (eFld CG (eFld CL (eVar 0) "graph") "successors") (aCons (eTup aNil) aNil)) [some (.loc 7), some (.d p)] S1 = some (.nx, [some (.loc 7), some (.d p)], S2) :=
    v_drop (v_bm (x := .loc 11) (S1 := S1) (us := (List.range σ.pts.length).map sucW) (v_fld (p := .loc 8) (S1 := S1) (n := 8) (v_fld (p := .loc 7) (S1 := S1) (n := 7) (by rfl) (by rfl) (by rfl)) (by rfl) (by rfl)) (by rfl) (ws := [.d (.tuple [])]) (S2 := S1) (by rfl) a2)
  exact v_defN rfl (v_nx s1 s2) rfl
theorem drops2_ok {σ : St} {n : Nat} {names : List Str} (h : Bd σ n) (hn : n ≤ 190) :
    m_Lowering_add_drops CG CL [.loc 7, .loc 13] (GS CG CL e σ σ.pts.length 13 (tail2 names)) = some (.d .none, GS CG CL e (σ.emits [dropI "n", dropI "x"]) (σ.emits [dropI "n", dropI "x"]).pts.length 13 (tail2 names)) := by
  let σ1 := σ.emit (dropI "n")
  let σ2 := σ1.emit (dropI "x")
  have hσ2 : σ2 = σ.emits [dropI "n", dropI "x"] := by show { σ with pts := σ.pts ++ [dropI "n"] ++ [dropI "x"] } = { σ with pts := σ.pts ++ [dropI "n", dropI "x"] }; rw [List.append_assoc]; rfl
  rw [← hσ2]
  let S0 := GS CG CL e σ σ.pts.length 13 (tail2 names)
  let S1 := GS CG CL e σ1 σ1.pts.length 13 (tail2 names)
  let S2 := GS CG CL e σ2 σ2.pts.length 13 (tail2 names)
  obtain ⟨k1, h1⟩ := add_point_ok (CG := CG) (CL := CL) (e := e) (sc := 13) (tail := tail2 names) (p := dropI "n") h (by omega)
  obtain ⟨k2, h2⟩ := add_point_ok (CG := CG) (CL := CL) (e := e) (sc := 13) (tail := tail2 names) (p := dropI "x") (h.emit (i := dropI "n")) (by omega)
  let body : MS := sDrop (eMeth CL "add_point" (m_Lowering_add_point CG CL) (eVar 0) (aCons (eTup (aCons (eC (.str "drop")) (aCons (eVar 2) aNil))) aNil))
  let R1 : Env' := [some (.loc 7), some (.loc 13), some (nmW "n")]
  let R2 : Env' := [some (.loc 7), some (.loc 13), some (nmW "x")]
  have b1 : body R1 S0 = some (.nx, R1, S1) := v_drop (v_meth (p := .loc 7) (S1 := S0) (n := 7) (by rfl) (by rfl) (by rfl) (ws := [.d (dropI "n")]) (S2 := S0) (by rfl) h1)
  have b2 : body R2 S1 = some (.nx, R2, S2) := v_drop (v_meth (p := .loc 7) (S1 := S1) (n := 7) (by rfl) (by rfl) (by rfl) (ws := [.d (dropI "x")]) (S2 := S1) (by rfl) h2)
  have f2 : Pd.forM (.rev 13 2) (gN 2) body 0 2 R2 S2 = some (.nx, R2, S2) := by unfold Pd.forM; rfl
  have f1 : Pd.forM (.rev 13 2) (gN 2) body 1 1 R1 S1 = some (.nx, R2, S2) := by
    unfold Pd.forM
    show (body R2 S1).bind _ = _
    rw [b2]
    exact f2
  have f0 : Pd.forM (.rev 13 2) (gN 2) body 2 0 [some (.loc 7), some (.loc 13), none] S0 = some (.nx, R2, S2) := by
    unfold Pd.forM
    show (body R1 S0).bind _ = _
    rw [b1]
    exact f1
  exact v_defN rfl (v_for (im := .rev 13 2) (S1 := S0) (by rfl) f0) rfl
theorem leave_ok {σ : St} {n : Nat} {names : List Str} {t : Str} (h : Bd σ n) (hn : n ≤ 180) :
    m_Lowering_add_leave CG CL [.loc 7, .d (.str t)] (GS CG CL e σ σ.pts.length 13 (tail2 names)) = some (.d .none, GX CG CL e ((σ.emits [dropI "n", dropI "x"]).emit (.tuple [.str "leave", .str t])) ((List.range (σ.emits [dropI "n", dropI "x"]).pts.length).map sucW ++ [.d (.tuple [])]) 13 (tail2 names)) := by
  let γ := σ.emits [dropI "n", dropI "x"]
  have hb : Bd γ (n + 2) := h.emits
  let S0 := GS CG CL e σ σ.pts.length 13 (tail2 names)
  let S1 := GS CG CL e γ γ.pts.length 13 (tail2 names)
  exact v_defN rfl (v_nx (v_drop (v_meth (p := .loc 7) (S1 := S0) (n := 7) (by rfl) (by rfl) (by rfl) (ws := [.loc 13]) (S2 := S0) (v_cons (v_fld (p := .loc 7) (S1 := S0) (n := 7) (by rfl) (by rfl) (by rfl)) rfl) (drops2_ok h (by omega))))
    (v_drop (v_meth (p := .loc 7) (S1 := S1) (n := 7) (by rfl) (by rfl) (by rfl) (ws := [.d (.tuple [.str "leave", .str t])]) (S2 := S1) (by rfl) (add_end_ok hb (by omega))))) rfl
/-- the state at the end -/
def St.fin (τ : St) : St :=
  let α := τ.emits (τ.names.reverse.map dropI)
  ((α.tmp UK (.tuple [.str "set", .str (TN α.m), UK])).emits [dropI "n", dropI "x"]).emit (.tuple [.str "leave", .str (TN α.m)])
def St.fsl (τ : St) : List W :=
  let α := τ.emits (τ.names.reverse.map dropI)
  (List.range ((α.tmp UK (.tuple [.str "set", .str (TN α.m), UK])).emits [dropI "n", dropI "x"]).pts.length).map sucW ++ [.d (.tuple [])]
theorem uk_eq : eqP UK UK = some true := by decide +kernel
theorem function_ok {σ τ : St} {ds : List PyData} {n : Nat} (h : Bd σ n) (hn : n + 4 * ds.length ≤ 70) (g : Good σ) (hσ : σ.names = []) (c : Chain σ ds τ) :
    m_Lowering_lower_function CG CL [.loc 7, .d (.tuple ds)] (GF CG CL e σ) = some (.d .none, GX CG CL e τ.fin τ.fsl 13 (tail2 τ.names)) := by
  let α := τ.emits (τ.names.reverse.map dropI)
  have hbτ : Bd τ (n + 4 * ds.length) := chain_bd c h
  have hlen : τ.names.length ≤ n + 4 * ds.length := hbτ.2.2.2
  have hbα : Bd α 140 := (hbτ.emits (ps := τ.names.reverse.map dropI)).mono (by rw [List.length_map, List.length_reverse]; omega)
  let β := α.tmp UK (.tuple [.str "set", .str (TN α.m), UK])
  have hbβ : Bd β 141 := hbα.tmp
  let S1 := GS CG CL e α α.pts.length 13 (tail2 τ.names)
  let S2 := GS CG CL e β β.pts.length 13 (tail2 τ.names)
  let E : Env' := [some (.loc 7), some (.d (.tuple ds))]
  have b1 := block_ok (CG := CG) (CL := CL) (e := e) h (by omega) g hσ c
  have u1 := low_unit (CG := CG) (CL := CL) (e := e) (k := 2) (sc := 13) (tail := tail2 τ.names) hbα (by omega)
  have l1 := leave_ok (CG := CG) (CL := CL) (e := e) (names := τ.names) (t := TN α.m) hbβ (by omega)
  have t1 : eB (eOp (oEq false) (eFld CG (eFld CL (eVar 0) "graph") "result") (eTup (aCons (eC (.str "unit")) aNil))) E S1 = some (true, S1) :=
    v_b (v_op (x := .d UK) (S1 := S1) (v_fld (p := .loc 8) (S1 := S1) (n := 8) (v_fld (p := .loc 7) (S1 := S1) (n := 7) (by rfl) (by rfl) (by rfl)) (by rfl) (by rfl)) (y := .d UK) (S2 := S1) (by rfl) (oEq_d (n := false) uk_eq))
  have s1 : sDrop (eMeth CL "lower_block" (m_Lowering_lower_block CG CL) (eVar 0) (aCons (eVar 1) aNil)) E (GF CG CL e σ) = some (.nx, E, S1) :=
    v_drop (v_meth (p := .loc 7) (S1 := GF CG CL e σ) (n := 7) (by rfl) (by rfl) (by rfl) (ws := [.d (.tuple ds)]) (S2 := GF CG CL e σ) (by rfl) b1)
  have ex : eMeth CL "lower_expression" (m_Lowering_lower_expression CG CL 3) (eVar 0) (aCons (eTup (aCons (eC (.str "unit")) aNil)) aNil) E S1 = some (.d (.str (TN α.m)), S2) :=
    v_meth (p := .loc 7) (S1 := S1) (n := 7) (by rfl) (by rfl) (by rfl) (ws := [.d UK]) (S2 := S1) (by rfl) u1
  exact v_defN rfl (v_nx s1 (v_ifT t1 (v_drop (v_meth (p := .loc 7) (S1 := S1) (n := 7) (by rfl) (by rfl) (by rfl) (v_cons ex rfl) l1)))) rfl
/-! ### the beginning -/
def kinds0 : KW := [(.inr "x", .d XK), (.inr "n", .d IK)]
def σ0 : St := { m := 0, pts := [], kinds := kinds0, names := [] }
theorem good0 : Good σ0 := by
  refine ⟨by rfl, fun y hy => (by cases hy), fun y hy => (by cases hy), fun p hp => ?_⟩
  rcases List.mem_cons.mp hp with rfl | hp
  · exact ⟨_, rfl⟩
  · rw [List.mem_singleton.mp hp]; exact ⟨_, rfl⟩
theorem bd0 : Bd σ0 2 := ⟨by decide, by decide, by decide, by decide⟩
def base (e : Env7) (fl : FW) (fg : FW) (t : Mem) (CG CL : Addr) : Mem := e.o0 :: e.o1 :: e.o2 :: e.o3 :: e.o4 :: e.o5 :: e.o6 :: .ins CL fl :: .ins CG fg :: t
theorem graph_init {fl : FW} : m_Graph_init CG CL [.loc 8, .d (workD e.blk)] (base e fl [] [] CG CL) = some (.d .none, base e fl fsG [.dct kinds0, .lst [], .lst []] CG CL) := by
  let F1 : FW := [("name", .d (.str "work"))]
  let F2 : FW := F1 ++ ([("parameters", .d (.tuple [.str "x", .str "n"]))] : FW)
  let F3 : FW := F2 ++ ([("sources", .d (.tuple []))] : FW)
  let F4 : FW := F3 ++ ([("result", .d UK)] : FW)
  let F5 : FW := F4 ++ ([("kinds", .loc 9)] : FW)
  let F6 : FW := F5 ++ ([("points", .loc 10)] : FW)
  let E0 : Env' := [some (.loc 8), some (.d (workD e.blk)), none, none, none, none, none, none, none]
  let E : Env' := [some (.loc 8), some (.d (workD e.blk)), some (.d (.str "work")), some (.d parsD), some (.d UK), some (.d (.tuple [])), some (.d e.blk), none, none]
  have s0 : sAsg (eVar 1) (gTup' (gsCons (gN 2) (gsCons (gN 3) (gsCons (gN 4) (gsCons (gN 5) (gsCons (gN 6) gsNil)))))) E0 (base e fl [] [] CG CL) = some (.nx, E, base e fl [] [] CG CL) := by rfl
  have s1 : sFldW CG (eVar 0) "name" (eVar 2) E (base e fl [] [] CG CL) = some (.nx, E, base e fl F1 [] CG CL) :=
    v_fldput (v := .d (.str "work")) (S1 := base e fl [] [] CG CL) (by rfl) (p := .loc 8) (S2 := base e fl [] [] CG CL) (by rfl) (n := 8) (fs := []) (by rfl) (by decide)
  have s2 : sFldW CG (eVar 0) "parameters" (eCall bTuple (aCons (eLc (iTupM (eVar 3)) [7, 6] (gTup' (gsCons (gN 7) (gsCons (gN 6) gsNil))) tYesM (eVar 7) mkF) aNil)) E (base e fl F1 [] CG CL) = some (.nx, E, base e fl F2 [] CG CL) :=
    v_fldput (v := .d (.tuple [.str "x", .str "n"])) (S1 := base e fl F1 [] CG CL) (by rfl) (p := .loc 8) (S2 := base e fl F1 [] CG CL) (by rfl) (n := 8) (fs := F1) (by rfl) (show 1 < 1000 by decide)
  have s3 : sFldW CG (eVar 0) "sources" (eVar 5) E (base e fl F2 [] CG CL) = some (.nx, E, base e fl F3 [] CG CL) :=
    v_fldput (v := .d (.tuple [])) (S1 := base e fl F2 [] CG CL) (by rfl) (p := .loc 8) (S2 := base e fl F2 [] CG CL) (by rfl) (n := 8) (fs := F2) (by rfl) (show 2 < 1000 by decide)
  have s4 : sFldW CG (eVar 0) "result" (eVar 4) E (base e fl F3 [] CG CL) = some (.nx, E, base e fl F4 [] CG CL) :=
    v_fldput (v := .d UK) (S1 := base e fl F3 [] CG CL) (by rfl) (p := .loc 8) (S2 := base e fl F3 [] CG CL) (by rfl) (n := 8) (fs := F3) (by rfl) (show 3 < 1000 by decide)
  have s5 : sFldW CG (eVar 0) "kinds" (eDc (iTupM (eVar 3)) [7, 8] (gTup' (gsCons (gN 7) (gsCons (gN 8) gsNil))) tYesM (eVar 7) (eVar 8)) E (base e fl F4 [] CG CL) = some (.nx, E, base e fl F5 [.dct kinds0] CG CL) :=
    v_fldput (v := .loc 9) (S1 := base e fl F4 [.dct kinds0] CG CL) (by rfl) (p := .loc 8) (S2 := base e fl F4 [.dct kinds0] CG CL) (by rfl) (n := 8) (fs := F4) (by rfl) (show 4 < 1000 by decide)
  have s6 : sFldW CG (eVar 0) "points" (eLstL aNil) E (base e fl F5 [.dct kinds0] CG CL) = some (.nx, E, base e fl F6 [.dct kinds0, .lst []] CG CL) :=
    v_fldput (v := .loc 10) (S1 := base e fl F5 [.dct kinds0, .lst []] CG CL) (by rfl) (p := .loc 8) (S2 := base e fl F5 [.dct kinds0, .lst []] CG CL) (by rfl) (n := 8) (fs := F5) (by rfl) (show 5 < 1000 by decide)
  have s7 : sFldW CG (eVar 0) "successors" (eLstL aNil) E (base e fl F6 [.dct kinds0, .lst []] CG CL) = some (.nx, E, base e fl fsG [.dct kinds0, .lst [], .lst []] CG CL) :=
    v_fldput (v := .loc 11) (S1 := base e fl F6 [.dct kinds0, .lst [], .lst []] CG CL) (by rfl) (p := .loc 8) (S2 := base e fl F6 [.dct kinds0, .lst [], .lst []] CG CL) (by rfl) (n := 8) (fs := F6) (by rfl) (show 6 < 1000 by decide)
  exact v_defN rfl (v_nx s0 (v_nx s1 (v_nx s2 (v_nx s3 (v_nx s4 (v_nx s5 (v_nx s6 s7))))))) rfl
def base7 (e : Env7) : Mem := [e.o0, e.o1, e.o2, e.o3, e.o4, e.o5, e.o6]
theorem lowering_init : m_Lowering_init CG CL [.loc 7, .d (prog e.blk), .d (workD e.blk)] (base7 e ++ [.ins CL []]) = some (.d .none, GF CG CL e σ0) := by
  let E : Env' := [some (.loc 7), some (.d (prog e.blk)), some (.d (workD e.blk))]
  let L1 : FW := [("program", .d (prog e.blk))]
  let L2 : FW := L1 ++ ([("graph", .loc 8)] : FW)
  let L3 : FW := L2 ++ ([("scope", .loc 12)] : FW)
  let t3 : Mem := [.dct kinds0, .lst [], .lst []]
  let t4 : Mem := [.dct kinds0, .lst [], .lst [], scp []]
  let S0 : Mem := base7 e ++ [.ins CL []]
  let S1 : Mem := base7 e ++ [.ins CL L1]
  have s1 : sFldW CL (eVar 0) "program" (eVar 1) E S0 = some (.nx, E, S1) :=
    v_fldput (v := .d (prog e.blk)) (S1 := S0) (by rfl) (p := .loc 7) (S2 := S0) (by rfl) (n := 7) (fs := []) (by rfl) (by decide)
  have s2 : sFldW CL (eVar 0) "graph" (eMake CG (m_Graph_init CG CL) (aCons (eVar 2) aNil)) E S1 = some (.nx, E, base e L2 fsG t3 CG CL) :=
    v_fldput (v_make (ws := [.d (workD e.blk)]) (S1 := S1) (by rfl) (graph_init (fl := L1))) (p := .loc 7) (S2 := base e L1 fsG t3 CG CL) (by rfl) (n := 7) (fs := L1) (by rfl) (show 1 < 1000 by decide)
  have s3 : sFldW CL (eVar 0) "scope" (eCall bListL (aCons (eFld CG (eFld CL (eVar 0) "graph") "parameters") aNil)) E (base e L2 fsG t3 CG CL) = some (.nx, E, base e L3 fsG t4 CG CL) :=
    v_fldput (v := .loc 12) (S1 := base e L2 fsG t4 CG CL) (v_call (ws := [.d (.tuple [.str "x", .str "n"])]) (S1 := base e L2 fsG t3 CG CL) (v_cons (v_fld (p := .loc 8) (S1 := base e L2 fsG t3 CG CL) (n := 8) (v_fld (p := .loc 7) (S1 := base e L2 fsG t3 CG CL) (n := 7) (by rfl) (by rfl) (by rfl)) (by rfl) (by rfl)) rfl) (by rfl)) (p := .loc 7) (S2 := base e L2 fsG t4 CG CL) (by rfl) (n := 7) (fs := L2) (by rfl) (show 2 < 1000 by decide)
  have s4 : sFldW CL (eVar 0) "temporaries" (eC (.int (0))) E (base e L3 fsG t4 CG CL) = some (.nx, E, GF CG CL e σ0) :=
    v_fldput (v := .d (.int 0)) (S1 := base e L3 fsG t4 CG CL) (by rfl) (p := .loc 7) (S2 := base e L3 fsG t4 CG CL) (by rfl) (n := 7) (fs := L3) (by rfl) (show 3 < 1000 by decide)
  exact v_defN rfl (v_nx s1 (v_nx s2 (v_nx s3 s4))) rfl
theorem build_ok {τ : St} {ds : List PyData} (hds : ds.length ≤ 6) (hb : e.blk = .tuple ds) (c : Chain σ0 ds τ) :
    m_build_graph CG CL [.d (prog e.blk), .d (.str "work")] (base7 e) = some (.loc 8, GX CG CL e τ.fin τ.fsl 13 (tail2 τ.names)) := by
  have f1 := function_ok (CG := CG) (CL := CL) (e := e) bd0 (by omega) good0 rfl c
  let E : Env' := [some (.d (prog e.blk)), some (.d (.str "work")), some (.d (workD e.blk)), some (.loc 7)]
  let S3 := GX CG CL e τ.fin τ.fsl 13 (tail2 τ.names)
  have s1 : sAsg (eCall (m_function_named CG CL) (aCons (eVar 0) (aCons (eVar 1) aNil))) (gN 2) [some (.d (prog e.blk)), some (.d (.str "work")), none, none] (base7 e) = some (.nx, [some (.d (prog e.blk)), some (.d (.str "work")), some (.d (workD e.blk)), none], base7 e) :=
    v_asg (v_call (ws := [.d (prog e.blk), .d (.str "work")]) (S1 := base7 e) (by rfl) named_work) (by rfl)
  have s3 : sAsg (eMake CL (m_Lowering_init CG CL) (aCons (eVar 0) (aCons (eVar 2) aNil))) (gN 3) [some (.d (prog e.blk)), some (.d (.str "work")), some (.d (workD e.blk)), none] (base7 e) = some (.nx, E, GF CG CL e σ0) :=
    v_asg (v_make (ws := [.d (prog e.blk), .d (workD e.blk)]) (S1 := base7 e) (by rfl) lowering_init) (by rfl)
  have s4 : sDrop (eMeth CL "lower_function" (m_Lowering_lower_function CG CL) (eVar 3) (aCons (eOp oIx (eVar 2) (eC (.int (4)))) aNil)) E (GF CG CL e σ0) = some (.nx, E, S3) :=
    v_drop (v_meth (p := .loc 7) (S1 := GF CG CL e σ0) (n := 7) (by rfl) (by rfl) (by rfl) (ws := [.d (.tuple ds)]) (S2 := GF CG CL e σ0) (by rw [← hb]; rfl) f1)
  exact v_def rfl (v_nx s1 (v_nx (v_ifF (by rfl) (by rfl)) (v_nx s3 (v_nx s4 (v_ret (v_fld (p := .loc 7) (S1 := S3) (n := 7) (by rfl) (by rfl) (by rfl))))))) rfl
end
end k05
namespace k05
open PySem L2 Pd
def LK (n : Nat) (d : PyData) : Prop := d.canLay0 = true ∧ d.depth ≤ n
theorem canAll {xs : List PyData} (h : ∀ x ∈ xs, x.canLay0 = true) : PyData.canLayAll0 xs = true := by
  induction xs with
  | nil => rfl
  | cons x xs ih => rw [PyData.canLayAll0, h x List.mem_cons_self, ih fun y hy => h y (List.mem_cons_of_mem _ hy)]; rfl
theorem depAll {n : Nat} {xs : List PyData} (h : ∀ x ∈ xs, x.depth ≤ n) : PyData.depthAll xs ≤ n := by
  induction xs with
  | nil => exact Nat.zero_le _
  | cons x xs ih => rw [PyData.depthAll]; exact Nat.max_le.mpr ⟨h x List.mem_cons_self, ih fun y hy => h y (List.mem_cons_of_mem _ hy)⟩
theorem lk_tup {n : Nat} {xs : List PyData} (h : ∀ x ∈ xs, LK n x) : LK (n + 1) (.tuple xs) := by
  refine ⟨?_, ?_⟩
  · rw [PyData.canLay0]; exact canAll fun x hx => (h x hx).1
  · rw [PyData.depth]; exact Nat.succ_le_succ (depAll fun x hx => (h x hx).2)
theorem lk_str {n : Nat} {s : Str} (h : PyData.strOk s = true) : LK n (.str s) := by
  refine ⟨?_, Nat.zero_le _⟩
  rw [PyData.canLay0]; exact h
theorem lk_lit {n : Nat} (s : String) : LK n (.str (Str.ofString s)) := lk_str (ok_ofString s)
theorem lk_int {n : Nat} {i : Int} : LK n (.int i) := ⟨rfl, Nat.zero_le _⟩
theorem LK.mono {n m : Nat} {d : PyData} (h : LK n d) (l : n ≤ m) : LK m d := ⟨h.1, Nat.le_trans h.2 l⟩
theorem lk_cons {n : Nat} {x : PyData} {xs : List PyData} (h : LK n x) (t : ∀ y ∈ xs, LK n y) : ∀ y ∈ x :: xs, LK n y := fun y hy => by
  rcases List.mem_cons.mp hy with rfl | hy
  · exact h
  · exact t y hy
theorem lk_nil {n : Nat} : ∀ y ∈ ([] : List PyData), LK n y := fun y hy => by cases hy
theorem lk_mode {n : Nat} {m : Str} (h : m = "shared" ∨ m = "exclusive") : LK n (.str m) := by
  rcases h with rfl | rfl
  · exact lk_lit _
  · exact lk_lit _
theorem lk_IK {n : Nat} : LK (n + 1) IK := lk_tup (lk_cons (lk_lit _) lk_nil)
theorem lk_UK {n : Nat} : LK (n + 1) UK := lk_tup (lk_cons (lk_lit _) lk_nil)
theorem lk_TK {n : Nat} : LK (n + 2) TK := lk_tup (lk_cons (lk_lit _) (lk_cons lk_IK lk_nil))
theorem lk_MK {n : Nat} {m : Str} (h : m = "shared" ∨ m = "exclusive") : LK (n + 2) (MK m) := lk_tup (lk_cons (lk_mode h) (lk_cons lk_IK lk_nil))
theorem lk_XK {n : Nat} : LK (n + 3) XK := lk_tup (lk_cons (lk_lit _) (lk_cons (lk_tup (lk_cons lk_IK (lk_cons lk_IK lk_nil))) lk_nil))
theorem lk_plc {n : Nat} {i : Int} : LK (n + 2) (plc i) := lk_tup (lk_cons (lk_lit _) (lk_cons (lk_tup (lk_cons lk_int lk_nil)) lk_nil))
theorem lk_num {n : Nat} {i : Int} : LK (n + 1) (num i) := lk_tup (lk_cons (lk_lit _) (lk_cons lk_int lk_nil))
theorem lk_TN {n m : Nat} : LK n (.str (TN m)) := lk_str (ok_TN m)
theorem lk_VN {n m : Nat} : LK n (.str (VN m)) := lk_str (ok_VN m)
structure Fine (σ : St) : Prop where
  nd : (σ.kinds.map (·.1)).Nodup
  ks : ∀ p ∈ σ.kinds, ∃ x, p.2 = .d x ∧ LK 10 x
  ps : ∀ p ∈ σ.pts, LK 10 p
  ns : ∀ x ∈ σ.names, PyData.strOk x = true
theorem Fine.tmp {σ : St} {k i : PyData} (f : Fine σ) (hk : LK 10 k) (hi : LK 10 i) : Fine (σ.tmp k i) := by
  refine ⟨put_nodup f.nd, fun p hp => ?_, fun p hp => ?_, f.ns⟩
  · rcases put_mem hp with h | h
    · exact f.ks p h
    · exact ⟨k, h, hk⟩
  · rcases List.mem_append.mp hp with h | h
    · exact f.ps p h
    · rw [List.mem_singleton.mp h]; exact hi
theorem Fine.emit {σ : St} {i : PyData} (f : Fine σ) (hi : LK 10 i) : Fine (σ.emit i) := by
  refine ⟨f.nd, f.ks, fun p hp => ?_, f.ns⟩
  rcases List.mem_append.mp hp with h | h
  · exact f.ps p h
  · rw [List.mem_singleton.mp h]; exact hi
theorem Fine.emits {σ : St} {is : List PyData} (f : Fine σ) (hi : ∀ i ∈ is, LK 10 i) : Fine (σ.emits is) := by
  refine ⟨f.nd, f.ks, fun p hp => ?_, f.ns⟩
  rcases List.mem_append.mp hp with h | h
  · exact f.ps p h
  · exact hi p h
theorem Fine.started {σ : St} {m : Str} {i v : Int} (f : Fine σ) (hm : m = "shared" ∨ m = "exclusive") : Fine (σ.started m i v) :=
  ((f.tmp (lk_MK hm) (lk_tup (n := 9) (lk_cons (lk_lit _) (lk_cons lk_TN (lk_cons (lk_mode hm) (lk_cons lk_plc lk_nil)))))).tmp lk_IK (lk_tup (n := 9) (lk_cons (lk_lit _) (lk_cons lk_TN (lk_cons lk_num lk_nil))))).tmp lk_TK
    (lk_tup (n := 9) (lk_cons (lk_lit _) (lk_cons lk_TN (lk_cons (lk_mode hm) (lk_cons (lk_tup (n := 8) (lk_cons lk_TN (lk_cons lk_TN lk_nil))) lk_nil)))))
theorem lk_pln {n : Nat} {x : Str} (h : PyData.strOk x = true) : LK (n + 2) (pln x) := lk_tup (lk_cons (lk_str h) (lk_cons (lk_tup lk_nil) lk_nil))
theorem Fine.step {σ τ : St} {d : PyData} (f : Fine σ) (s : Step σ d τ) : Fine τ := by
  cases s with
  | let_ m i v hm hi =>
    have g := f.started (i := i) (v := v) hm
    refine ⟨put_nodup g.nd, fun p hp => ?_, fun p hp => ?_, fun x hx => ?_⟩
    · rcases put_mem hp with h | h
      · exact g.ks p h
      · exact ⟨TK, h, lk_TK⟩
    · rcases List.mem_append.mp hp with h | h
      · exact g.ps p h
      · rw [List.mem_singleton.mp h]
        exact lk_tup (n := 9) (lk_cons (lk_lit _) (lk_cons lk_VN (lk_cons lk_TN lk_nil)))
    · rcases List.mem_append.mp hx with h | h
      · exact g.ns x h
      · rw [List.mem_singleton.mp h]; exact ok_VN _
  | do_ m i v hm hi => exact (f.started hm).emit (lk_tup (n := 9) (lk_cons (lk_lit _) (lk_cons lk_TN lk_nil)))
  | store x hx m i v hm hi => exact (f.started hm).emit (lk_tup (n := 9) (lk_cons (lk_lit _) (lk_cons (lk_pln (f.ns x hx)) (lk_cons lk_TN lk_nil))))
  | print x hx =>
    exact ((f.tmp lk_TK (lk_tup (n := 9) (lk_cons (lk_lit _) (lk_cons lk_TN (lk_cons (lk_pln (f.ns x hx)) lk_nil))))).tmp lk_IK (lk_tup (n := 9) (lk_cons (lk_lit _) (lk_cons lk_TN (lk_cons lk_TN lk_nil))))).emit (lk_tup (n := 9) (lk_cons (lk_lit _) (lk_cons lk_TN lk_nil)))
theorem chain_fine {σ τ : St} {ds : List PyData} (c : Chain σ ds τ) (f : Fine σ) : Fine τ := by
  induction c with
  | nil => exact f
  | snoc _ s ih => exact ih.step s
theorem fine0 : Fine σ0 := by
  refine ⟨(by decide +kernel), fun p hp => ?_, fun p hp => (by cases hp), fun x hx => (by cases hx)⟩
  rcases List.mem_cons.mp hp with rfl | hp
  · exact ⟨XK, rfl, lk_XK⟩
  · rw [List.mem_singleton.mp hp]; exact ⟨IK, rfl, lk_IK⟩
theorem lk_drop {x : Str} (h : PyData.strOk x = true) : LK 10 (dropI x) := lk_tup (n := 9) (lk_cons (lk_lit _) (lk_cons (lk_str h) lk_nil))
theorem fine_fin {τ : St} (f : Fine τ) : Fine τ.fin := by
  refine (((f.emits (is := τ.names.reverse.map dropI) fun i hi => ?_).tmp lk_UK (lk_tup (n := 9) (lk_cons (lk_lit _) (lk_cons lk_TN (lk_cons lk_UK lk_nil))))).emits (is := [dropI "n", dropI "x"]) (lk_cons (lk_drop (ok_ofString _)) (lk_cons (lk_drop (ok_ofString _)) lk_nil))).emit (lk_tup (n := 9) (lk_cons (lk_lit _) (lk_cons lk_TN lk_nil)))
  obtain ⟨x, hx, rfl⟩ := List.mem_map.mp hi
  exact lk_drop (f.ns x (List.mem_reverse.mp hx))
theorem eqP_refl {xs : List PyData} (h : ∀ x ∈ xs, LK 40 x) : eqP (.tuple xs) (.tuple xs) = some true := by
  have hk := lk_tup h
  have hs : SeqAt.shaped (PyData.tuple xs) = true := by
    unfold SeqAt.shaped
    rw [hk.1, decide_eq_true (Nat.le_trans hk.2 (by decide))]; rfl
  show (if false = true then _ else if _ ∧ _ then _ else _) = _
  rw [if_neg Bool.false_ne_true, if_pos ⟨hs, hs⟩, SeqAt.eqv_refl _ hk.1]
theorem same_self {σ : St} (f : Fine σ) : SameD σ.kinds σ.kinds := by
  refine ⟨rfl, fun p hp => ?_⟩
  obtain ⟨x, hx, h1, h2⟩ := f.ks p hp
  refine ⟨x, hx, ?_, h1, Nat.le_trans h2 (by decide)⟩
  rw [nodup_val f.nd hp, hx]
end k05
namespace Pd
open PySem L2
theorem mExt {S : Mem} {n : Nat} {ws : List W} {ds : List PyData} (h : S[n]? = some (.lst ws)) (hl : ws.length + ds.length ≤ sizeLine) : mExtend (.loc n) [.d (.list ds)] S = some (.d .none, S.set n (.lst (ws ++ ds.map .d))) := by
  show (lstAt (.loc n) S).bind _ = _
  rw [lstAt_loc h]
  simp only [Option.bind_some]
  rw [if_pos hl]
end Pd
namespace k05
open PySem L2 Pd
section
variable {CG CL : Addr}
theorem ext_p {σ : St} {n : Nat} {nums : List Int} {a t : Int} {ps : List PyData} (h : Bd σ n) (hn : n + ps.length ≤ 200) : mExtend (.loc 3) [.d (.list ps)] (TS nums a t (LR σ)) = some (.d .none, TS nums a t (LR (σ.emits ps))) := by
  rw [mExt (ws := σ.pts.map W.d) (by rfl) (by rw [List.length_map]; exact Nat.le_of_lt (sz (Nat.le_trans (Nat.add_le_add_right h.2.1 _) hn)))]
  show some (W.d .none, Ob.lst _ :: Ob.lst _ :: [_, Ob.lst (σ.pts.map W.d ++ ps.map W.d), _, _]) = some (W.d .none, Ob.lst _ :: Ob.lst _ :: [_, Ob.lst ((σ.pts ++ ps).map W.d), _, _])
  rw [List.map_append]
  rfl
/-- the statements -/
theorem block_made {nums : List Int} {t : Int} : ∃ (ds : List PyData) (τ : St) (a : Int), ds.length ≤ 6 ∧ Chain σ0 ds τ ∧ ∀ (D : W) (x4 x5 x6 x7 x8 x9 x10 x11 x12 x13 x14 x15 : Option W),
    eCall bTuple (aCons (eLc (iRng1M (aCons (eOp (oPlus false) (eC (.int (1))) (eCall (m_law_next CG CL) (aCons (eVar 1) (aCons (eC (.int (6))) aNil)))) aNil)) [3] (gN 3) tYesM (eCall (m_law_statement CG CL) (aCons (eVar 1) (aCons (eVar 2) aNil))) mkF) aNil) [some D, some (.loc 1), some (.loc 2), none, x4, x5, x6, x7, x8, x9, x10, x11, x12, x13, x14, x15] (TS nums 0 t (LR σ0)) = some (.d (.tuple ds), TS nums a t (LR τ)) := by
  obtain ⟨c, hc0, hc1, e1⟩ := next_ok (CG := CG) (CL := CL) nums 0 t 6 (LR σ0) (by decide) (by decide)
  let ws : List W := (List.range (1 + c).toNat).map fun (j : Nat) => W.d (.int (0 + (j : Int)))
  have hws : ws.length = (1 + c).toNat := by simp [ws]
  let el : ME := eCall (m_law_statement CG CL) (aCons (eVar 1) (aCons (eVar 2) aNil))
  obtain ⟨us, S', e6, ds, τ, a, hus, hch, rfl, ha, hl⟩ := lcM_st (g := fun w ρ S => some (ρ, S)) (e := fun ρ S => m_law_statement CG CL [.loc 1, .loc 2] S) (ws := ws) (ρ := []) (fun i acc S => ∃ (ds : List PyData) (τ : St) (a : Int), acc = ds.map W.d ∧ Chain σ0 ds τ ∧ S = TS nums a t (LR τ) ∧ 0 ≤ a ∧ ds.length = i) (fun i w acc S hw hI => by
    obtain ⟨ds, τ, a, rfl, hch, rfl, ha, hl⟩ := hI
    have hi : i < (1 + c).toNat := by
      have := (List.getElem?_eq_some_iff.mp hw).1
      omega
    obtain ⟨a', d, υ, ha', hs, es⟩ := statement_ok (CG := CG) (CL := CL) (nums := nums) (a := a) (t := t) (chain_bd hch bd0) (by omega) ha
    exact ⟨[], .d d, _, rfl, es, ds ++ [d], υ, a', by rw [List.map_append]; rfl, .snoc hch hs, rfl, ha', by simp [hl]⟩) ws.length 0 [] (TS nums (0 + 1) t (LR σ0)) (by omega) (Nat.zero_le _) ⟨[], σ0, 0 + 1, rfl, .nil, rfl, by decide, rfl⟩
  rw [List.nil_append] at hus
  subst hus
  have hl6 : ds.length ≤ 6 := by omega
  refine ⟨ds, τ, a, hl6, hch, fun D x4 x5 x6 x7 x8 x9 x10 x11 x12 x13 x14 x15 => ?_⟩
  let ρ : Env' := [some D, some (.loc 1), some (.loc 2), none, x4, x5, x6, x7, x8, x9, x10, x11, x12, x13, x14, x15]
  have same : ∀ (k i : Nat) (S : Mem) (r : List W × Mem), lcM (.vals ws) (fun w ρ S => some (ρ, S)) tYesM (fun ρ S => m_law_statement CG CL [.loc 1, .loc 2] S) k i [] S = some r → lcM (.vals ws) (gN 3) tYesM el k i ρ S = some r := by
    intro k
    induction k with
    | zero =>
      intro i S r h
      unfold lcM at h ⊢
      exact h
    | succ k ih =>
      intro i S r h
      unfold lcM at h ⊢
      cases hat : (Itm.vals ws).at_ S i with
      | none => rw [hat] at h; cases h
      | some o =>
        rw [hat] at h
        cases o with
        | none => exact h
        | some w =>
          have h : (m_law_statement CG CL [.loc 1, .loc 2] S).bind _ = some r := h
          obtain ⟨p, e1, h⟩ := Option.bind_eq_some_iff.mp h
          obtain ⟨z, e2, h⟩ := Option.bind_eq_some_iff.mp h
          show (m_law_statement CG CL [.loc 1, .loc 2] S).bind _ = some r
          rw [e1]
          simp only [Option.bind_some]
          rw [ih (i + 1) p.2 z e2]
          exact h
  have e7 := same ws.length 0 _ _ e6
  refine v_call (ws := [.d (.list ds)]) (S1 := TS nums a t (LR τ)) (v_cons (v_lc (im := .vals ws) (S1 := TS nums (0 + 1) t (LR σ0)) (v_rng1 (i := 1 + c) (v_cons (v_op (x := .d (.int 1)) (S1 := TS nums 0 t (LR σ0)) (by rfl) (v_call (ws := [.loc 1, .d (.int 6)]) (S1 := TS nums 0 t (LR σ0)) (by rfl) e1) (by rfl)) rfl) (by omega) (by omega)) (us := ds.map W.d) (S2 := TS nums a t (LR τ)) e7 (mkF_d (Nat.le_trans hl6 (by decide)))) rfl) ?_
  show (dOf (ds.map W.d)).bind _ = _
  rw [dOf_map]; rfl
/-- the drops that the law expects -/
theorem law_drops {τ : St} {n : Nat} {nums : List Int} {a t : Int} (h : Bd τ n) (hn : n + τ.names.length ≤ 200) (D B : W) (x3 x6 x7 x8 x9 x10 x11 x12 x13 x14 x15 : Option W) :
    ∃ y, sFor (iRng1M (aCons (eCall bLen (aCons (eDGet (eVar 2) (eC (.str "names"))) aNil)) aNil)) (gN 3) (sDrop (eBm mAppend (eVar 5) (aCons (eTup (aCons (eC (.str "drop")) (aCons (eOp oIx (eDGet (eVar 2) (eC (.str "names"))) (eOp oSub (eOp oSub (eCall bLen (aCons (eDGet (eVar 2) (eC (.str "names"))) aNil)) (eC (.int (1)))) (eVar 3))) aNil))) aNil)))
      [some D, some (.loc 1), some (.loc 2), x3, some B, some (.loc 3), x6, x7, x8, x9, x10, x11, x12, x13, x14, x15] (TS nums a t (LR τ)) = some (.nx, [some D, some (.loc 1), some (.loc 2), y, some B, some (.loc 3), x6, x7, x8, x9, x10, x11, x12, x13, x14, x15], TS nums a t (LR (τ.emits (τ.names.reverse.map dropI)))) := by
  let L := τ.names.length
  let ws : List W := (List.range (L : Int).toNat).map fun (j : Nat) => W.d (.int (0 + (j : Int)))
  have hws : ws.length = L := by simp [ws]
  let Q (y : Option W) : Env' := [some D, some (.loc 1), some (.loc 2), y, some B, some (.loc 3), x6, x7, x8, x9, x10, x11, x12, x13, x14, x15]
  let G (i : Nat) : Mem := TS nums a t (LR (τ.emits ((τ.names.reverse.take i).map dropI)))
  obtain ⟨ρ', S', e1, rfl, y, rfl⟩ := forM_vals (g := gN 3) (b := sDrop (eBm mAppend (eVar 5) (aCons (eTup (aCons (eC (.str "drop")) (aCons (eOp oIx (eDGet (eVar 2) (eC (.str "names"))) (eOp oSub (eOp oSub (eCall bLen (aCons (eDGet (eVar 2) (eC (.str "names"))) aNil)) (eC (.int (1)))) (eVar 3))) aNil))) aNil))) (ws := ws) (fun i ρ S => S = G i ∧ ∃ y, ρ = Q y) (fun i w ρ S hv hI => by
    obtain ⟨rfl, y, rfl⟩ := hI
    have hi : i < L := by
      have := (List.getElem?_eq_some_iff.mp hv).1
      omega
    have hw : w = .d (.int (i : Int)) := by
      simp only [ws] at hv
      rw [List.getElem?_map, List.getElem?_range (by simpa using hi)] at hv
      cases hv
      simp
    subst hw
    have hir : i < τ.names.reverse.length := by simpa using hi
    have hx : τ.names.reverse[i]? = some τ.names.reverse[i] := List.getElem?_eq_getElem hir
    have hx2 : τ.names[L - 1 - i]? = some τ.names.reverse[i] := by rw [← hx, List.getElem?_reverse hi]
    have hs : (τ.names.reverse.take (i + 1)).map dropI = (τ.names.reverse.take i).map dropI ++ [dropI τ.names.reverse[i]] := by
      rw [List.take_succ_eq_append_getElem hir, List.map_append]; rfl
    have hb : Bd (τ.emits ((τ.names.reverse.take i).map dropI)) (n + i) := (h.emits).mono (by rw [List.length_map]; exact Nat.add_le_add_left (List.length_take_le _ _) _)
    have eix : eOp oIx (eDGet (eVar 2) (eC (.str "names"))) (eOp oSub (eOp oSub (eCall bLen (aCons (eDGet (eVar 2) (eC (.str "names"))) aNil)) (eC (.int (1)))) (eVar 3)) (Q (some (.d (.int (i : Int))))) (G i) = some (nmW τ.names.reverse[i], G i) := by
      refine v_op (x := .loc 5) (S1 := G i) (by rfl) (y := .d (.int ((((τ.names.map nmW).length : Int) - 1) - (i : Int)))) (S2 := G i) (by rfl) ?_
      rw [oIx_loc (ws := τ.names.map nmW) (by rfl), List.length_map]
      have : ((τ.names.length : Int) - 1) - (i : Int) = ((L - 1 - i : Nat) : Int) := by
        show ((L : Int) - 1) - (i : Int) = _
        omega
      rw [this, atI_at (x := nmW τ.names.reverse[i]) (by rw [List.getElem?_map, hx2]; rfl)]
      rfl
    refine ⟨Q (some (.d (.int (i : Int)))), G i, Q (some (.d (.int (i : Int)))), G (i + 1), rfl, (v_drop (v_bm (x := .loc 3) (S1 := G i) (us := (τ.emits ((τ.names.reverse.take i).map dropI)).pts.map W.d) (by rfl) (by rfl) (ws := [.d (dropI τ.names.reverse[i])]) (S2 := G i) (v_cons (v_tup (v_cons (x := .d (.str "drop")) (S1 := G i) (by rfl) (v_cons eix rfl)) (by rfl)) rfl) (pt_app hb (by omega)))).trans ?_, rfl, _, rfl⟩
    simp only [G, hs, emits_emit]) ws.length 0 (Q x3) (G 0) (by omega) (Nat.zero_le _) ⟨rfl, x3, rfl⟩
  have g0 : G 0 = TS nums a t (LR τ) := by simp only [G, List.take_zero, List.map_nil, emits_nil]
  have gn : G ws.length = TS nums a t (LR (τ.emits (τ.names.reverse.map dropI))) := by
    simp only [G]; rw [hws, List.take_of_length_le (by simp [L])]
  rw [g0, gn] at e1
  refine ⟨y, v_for (v_rng1 (i := (L : Int)) (S1 := TS nums a t (LR τ)) (v_cons (v_call (ws := [.loc 5]) (S1 := TS nums a t (LR τ)) (by rfl) ?_) rfl) (by omega) (by have := h.2.2.2; show (τ.names.length : Int) < _; omega)) e1⟩
  show some (W.d (.int (((τ.names.map nmW).length : Nat) : Int)), TS nums a t (LR τ)) = _
  rw [List.length_map]
end
end k05
namespace k05
open PySem L2 Pd
section
variable {CG CL : Addr}
theorem fin_pts (τ : St) : τ.fin.pts = ((τ.emits (τ.names.reverse.map dropI)).pts ++ [.tuple [.str "set", .str (TN τ.m), UK], dropI "n", dropI "x", .tuple [.str "leave", .str (TN τ.m)]]) := by
  show ((((τ.emits (τ.names.reverse.map dropI)).pts ++ [_]) ++ [_, _]) ++ [_]) = _
  rw [List.append_assoc, List.append_assoc]; rfl
/-- the law's state at the end -/
theorem fin_eq (τ : St) : St.emits { m := τ.m + 1, pts := (τ.emits (τ.names.reverse.map dropI)).pts, kinds := putD τ.kinds (.inr (TN τ.m)) (.d UK), names := τ.names } [.tuple [.str "set", .str (TN τ.m), UK], dropI "n", dropI "x", .tuple [.str "leave", .str (TN τ.m)]] = τ.fin := by
  have h := fin_pts τ
  show St.mk (τ.m + 1) (_ ++ _) (putD τ.kinds (.inr (TN τ.m)) (.d UK)) τ.names = St.mk (τ.m + 1) τ.fin.pts (putD τ.kinds (.inr (TN τ.m)) (.d UK)) τ.names
  rw [h]
theorem fsl_eq (τ : St) : τ.fsl = (List.range (τ.fin.pts.length - 1)).map sucW ++ [.d (.tuple [])] := by
  have h : τ.fin.pts.length - 1 = ((((τ.emits (τ.names.reverse.map dropI)).tmp UK (.tuple [.str "set", .str (TN τ.m), UK])).emits [dropI "n", dropI "x"]).pts).length := by
    show ((_ : List PyData) ++ [_]).length - 1 = _
    rw [List.length_append]
    rfl
  rw [h]
  rfl
theorem env_lt {nums : List Int} {a t : Int} {τ : St} (f : Fine τ) (fl : List PyData) : ∀ o ∈ TS nums a t (LR τ) ++ [Ob.lst (fl.map W.d)], obLt 7 o = true := by
  intro o ho
  simp only [TS, LR, List.cons_append, List.nil_append, List.mem_cons, List.not_mem_nil, or_false] at ho
  rcases ho with rfl | rfl | rfl | rfl | rfl | rfl | rfl
  · show (nums.map iW).all (wLt 7) = true
    rw [List.all_map]; exact List.all_eq_true.mpr fun _ _ => rfl
  · rfl
  · rfl
  · exact all_d _
  · refine List.all_eq_true.mpr fun p hp => ?_
    obtain ⟨x, hx, _⟩ := f.ks p hp
    rw [hx]; rfl
  · show (τ.names.map nmW).all (wLt 7) = true
    rw [List.all_map]; exact List.all_eq_true.mpr fun _ _ => rfl
  · exact all_d _
def follow (n : Nat) : List PyData := (List.range n).map fun (i : Nat) => .tuple [.int ((i : Int) + 1)]
theorem follow_w (n : Nat) : (List.range n).map sucW = (follow n).map W.d := by unfold follow; rw [List.map_map]; rfl
theorem lk_follow (n : Nat) : ∀ x ∈ follow n ++ [.tuple []], LK 40 x := by
  intro x hx
  rcases List.mem_append.mp hx with h | h
  · obtain ⟨i, _, rfl⟩ := List.mem_map.mp h
    exact (lk_tup (n := 0) (lk_cons lk_int lk_nil)).mono (by decide)
  · rw [List.mem_singleton.mp h]; exact (lk_tup (n := 0) lk_nil).mono (by decide)
theorem ne_f {S : Mem} {x : PyData} (h : eqP x x = some true) : oEq true (.d x) (.d x) S = some (.d (.bool false), S) := oEq_d (n := true) h
theorem xn_eq : eqP (.tuple [.str "x", .str "n"]) (.tuple [.str "x", .str "n"]) = some true := by decide +kernel
theorem nil_eq : eqP (.tuple []) (.tuple []) = some true := by decide +kernel
theorem eqDct_ok {S : Mem} {x y : W} {n m : Nat} {ks ls : KW} (h1 : dctAt x S = some (n, ks)) (h2 : dctAt y S = some (m, ls)) (h : SameD ks ls) : oEqDct x y S = some (.d (.bool true), S) := by
  unfold oEqDct
  rw [h1]; simp only [Option.bind_some, h2]
  rw [if_pos h]
theorem law_ok (CG CL : Addr) (ns : List Int) : ∃ S', m_law CG CL [.d (.dict [(.none, .list (ns.map .int))])] [] = some (.d (.bool true), S') := by
  obtain ⟨nums, t, et⟩ := tape_ok (CG := CG) (CL := CL) ns
  obtain ⟨ds, τ, a, hds, hch, eblk⟩ := block_made (CG := CG) (CL := CL) (nums := nums) (t := t)
  have hbτ : Bd τ (2 + 4 * ds.length) := chain_bd hch bd0
  have hb26 : Bd τ 26 := hbτ.mono (by omega)
  have hfine : Fine τ := chain_fine hch fine0
  have hlen : τ.names.length ≤ 26 := hb26.2.2.2
  let D : W := .d (.dict [(.none, .list (ns.map .int))])
  let B : W := .d (.tuple ds)
  obtain ⟨y, edrop⟩ := law_drops (nums := nums) (a := a) (t := t) hb26 (by omega) D B none none none none none none none none none none none
  let α := τ.emits (τ.names.reverse.map dropI)
  have hbα : Bd α 52 := (hb26.emits (ps := τ.names.reverse.map dropI)).mono (by rw [List.length_map, List.length_reverse]; omega)
  have km := made_ok (CG := CG) (CL := CL) (nums := nums) (a := a) (t := t) (kind := UK) hbα (by omega)
  let β : St := { m := τ.m + 1, pts := α.pts, kinds := putD τ.kinds (.inr (TN τ.m)) (.d UK), names := τ.names }
  have hbβ : Bd β 53 := ⟨Nat.succ_le_succ hbα.1, Nat.le_succ_of_le hbα.2.1, Nat.le_trans (put_len _ _ _) (Nat.succ_le_succ hbα.2.2.1), Nat.le_succ_of_le hbα.2.2.2⟩
  have kx := ext_p (nums := nums) (a := a) (t := t) (ps := [.tuple [.str "set", .str (TN τ.m), UK], dropI "n", dropI "x", .tuple [.str "leave", .str (TN τ.m)]]) hbβ (by simp)
  rw [fin_eq] at kx
  let φ := τ.fin
  have hff : Fine φ := fine_fin hfine
  have hφ : φ.pts.length ≤ 57 := by
    have h := congrArg List.length (fin_pts τ)
    rw [List.length_append] at h
    have := hbα.2.1
    show τ.fin.pts.length ≤ 57
    rw [h]
    exact Nat.le_trans (Nat.add_le_add this (Nat.le_refl 4)) (by decide)
  let fl : List PyData := [fnD "shared", fnD "exclusive"]
  let M : Mem := TS nums a t (LR φ)
  let M6 : Mem := M ++ [.lst []]
  let M7 : Mem := M ++ [.lst (fl.map W.d)]
  let e : Env7 := { o0 := .lst (nums.map iW), o1 := .lst [.d (.int a), .loc 0, .d (.int t)], o2 := .dct [(.inr "made", .d (.int (φ.m : Int))), (.inr "points", .loc 3), (.inr "kinds", .loc 4), (.inr "names", .loc 5)], o3 := .lst (φ.pts.map .d), o4 := .dct φ.kinds, o5 := .lst (φ.names.map nmW), o6 := .lst (fl.map W.d), blk := .tuple ds, lt := env_lt hff fl }
  have hM7 : M7 = base7 e := rfl
  have eb := build_ok (CG := CG) (CL := CL) (e := e) hds rfl hch
  let F : Mem := GX CG CL e φ τ.fsl 13 (tail2 τ.names)
  -- the beginning
  let x0 : List (Option W) := [some D, some (.loc 1)]
  let n12 : List (Option W) := [none, none, none, none, none, none, none, none, none, none, none, none, none]
  let T0 : Mem := TS nums 0 t []
  have s1 : sAsg (eCall (m_law_tape CG CL) (aCons (eVar 0) aNil)) (gN 1) ([some D, none, none] ++ n12) [] = some (.nx, [some D, some (.loc 1), none] ++ n12, T0) :=
    v_asg (v_call (ws := [D]) (S1 := []) (by rfl) et) (by rfl)
  have s2 : sAsg eDNew (gN 2) ([some D, some (.loc 1), none] ++ n12) T0 = some (.nx, [some D, some (.loc 1), some (.loc 2)] ++ n12, TS nums 0 t [.dct []]) := by rfl
  have s3 : sDPutW (eVar 2) (eC (.str "made")) (eC (.int (0))) ([some D, some (.loc 1), some (.loc 2)] ++ n12) (TS nums 0 t [.dct []]) = some (.nx, [some D, some (.loc 1), some (.loc 2)] ++ n12, TS nums 0 t [.dct [(.inr "made", .d (.int 0))]]) := by rfl
  have s4 : sDPutW (eVar 2) (eC (.str "points")) (eLstL aNil) ([some D, some (.loc 1), some (.loc 2)] ++ n12) (TS nums 0 t [.dct [(.inr "made", .d (.int 0))]]) = some (.nx, [some D, some (.loc 1), some (.loc 2)] ++ n12, TS nums 0 t [.dct [(.inr "made", .d (.int 0)), (.inr "points", .loc 3)], .lst []]) := by rfl
  have s5 : sDPutW (eVar 2) (eC (.str "kinds")) (eDisp (pCons (eC (.str "x")) (eTup (aCons (eC (.str "tuple")) (aCons (eTup (aCons (eTup (aCons (eC (.str "int")) aNil)) (aCons (eTup (aCons (eC (.str "int")) aNil)) aNil))) aNil))) (pCons (eC (.str "n")) (eTup (aCons (eC (.str "int")) aNil)) pNil))) ([some D, some (.loc 1), some (.loc 2)] ++ n12) (TS nums 0 t [.dct [(.inr "made", .d (.int 0)), (.inr "points", .loc 3)], .lst []]) = some (.nx, [some D, some (.loc 1), some (.loc 2)] ++ n12, TS nums 0 t [.dct [(.inr "made", .d (.int 0)), (.inr "points", .loc 3), (.inr "kinds", .loc 4)], .lst [], .dct kinds0]) := by rfl
  have s6 : sDPutW (eVar 2) (eC (.str "names")) (eLstL aNil) ([some D, some (.loc 1), some (.loc 2)] ++ n12) (TS nums 0 t [.dct [(.inr "made", .d (.int 0)), (.inr "points", .loc 3), (.inr "kinds", .loc 4)], .lst [], .dct kinds0]) = some (.nx, [some D, some (.loc 1), some (.loc 2)] ++ n12, TS nums 0 t (LR σ0)) := by rfl
  let E4 : Env' := [some D, some (.loc 1), some (.loc 2), none, some B, none, none, none, none, none, none, none, none, none, none, none]
  have s7 : sAsg (eCall bTuple (aCons (eLc (iRng1M (aCons (eOp (oPlus false) (eC (.int (1))) (eCall (m_law_next CG CL) (aCons (eVar 1) (aCons (eC (.int (6))) aNil)))) aNil)) [3] (gN 3) tYesM (eCall (m_law_statement CG CL) (aCons (eVar 1) (aCons (eVar 2) aNil))) mkF) aNil)) (gN 4) ([some D, some (.loc 1), some (.loc 2)] ++ n12) (TS nums 0 t (LR σ0)) = some (.nx, E4, TS nums a t (LR τ)) :=
    v_asg (eblk D none none none none none none none none none none none none) (by rfl)
  have s8 : sAsg (eDGet (eVar 2) (eC (.str "points"))) (gN 5) E4 (TS nums a t (LR τ)) = some (.nx, [some D, some (.loc 1), some (.loc 2), none, some B, some (.loc 3), none, none, none, none, none, none, none, none, none, none], TS nums a t (LR τ)) := by rfl
  let Q (r : List (Option W)) : Env' := [some D, some (.loc 1), some (.loc 2), y, some B, some (.loc 3)] ++ r
  let t1 : Option W := some (.d (.str (TN τ.m)))
  let gv (m : Str) : PyData := .tuple [.tuple [.str "r", MK m], .tuple [.str "n", IK]]
  have s10 : sAsg (eCall (m_law_made CG CL) (aCons (eVar 2) (aCons (eTup (aCons (eC (.str "unit")) aNil)) aNil))) (gN 6) (Q [none, none, none, none, none, none, none, none, none, none]) (TS nums a t (LR α)) = some (.nx, Q [t1, none, none, none, none, none, none, none, none, none], TS nums a t (LR β)) :=
    v_asg (v_call (ws := [.loc 2, .d UK]) (S1 := TS nums a t (LR α)) (by rfl) km) (by rfl)
  have s11 : sDrop (eBm mExtend (eVar 5) (aCons (eLstF (aCons (eTup (aCons (eC (.str "set")) (aCons (eVar 6) (aCons (eTup (aCons (eC (.str "unit")) aNil)) aNil)))) (aCons (eTup (aCons (eC (.str "drop")) (aCons (eC (.str "n")) aNil))) (aCons (eTup (aCons (eC (.str "drop")) (aCons (eC (.str "x")) aNil))) (aCons (eTup (aCons (eC (.str "leave")) (aCons (eVar 6) aNil))) aNil))))) aNil)) (Q [t1, none, none, none, none, none, none, none, none, none]) (TS nums a t (LR β)) = some (.nx, Q [t1, none, none, none, none, none, none, none, none, none], M) :=
    v_drop (v_bm (x := .loc 3) (S1 := TS nums a t (LR β)) (us := β.pts.map .d) (by rfl) (by rfl) (ws := [.d (.list [.tuple [.str "set", .str (TN τ.m), UK], dropI "n", dropI "x", .tuple [.str "leave", .str (TN τ.m)]])]) (S2 := TS nums a t (LR β)) (by rfl) kx)
  have s12 : sAsg (eTup (aCons (eC (.str "int")) aNil)) (gN 7) (Q [t1, none, none, none, none, none, none, none, none, none]) M = some (.nx, Q [t1, some (.d IK), none, none, none, none, none, none, none, none], M) := by rfl
  have s13 : sAsg (eLstL aNil) (gN 8) (Q [t1, some (.d IK), none, none, none, none, none, none, none, none]) M = some (.nx, Q [t1, some (.d IK), some (.loc 6), none, none, none, none, none, none, none], M6) := by rfl
  have s14 : sFor (iLstM (eLstF (aCons (eC (.str "shared")) (aCons (eC (.str "exclusive")) aNil)))) (gN 9) (sSeq (sAsg (eTup (aCons (eTup (aCons (eC (.str "r")) (aCons (eTup (aCons (eVar 9) (aCons (eVar 7) aNil))) aNil))) (aCons (eTup (aCons (eC (.str "n")) (aCons (eVar 7) aNil))) aNil))) (gN 10))
    (sDrop (eBm mAppend (eVar 8) (aCons (eTup (aCons (eVar 9) (aCons (eVar 10) (aCons (eVar 7) (aCons (eTup aNil) (aCons (eTup (aCons (eTup (aCons (eC (.str "return")) (aCons (eTup (aCons (eC (.str "int")) (aCons (eC (.int (1))) aNil))) aNil))) aNil)) aNil)))))) aNil)))) (Q [t1, some (.d IK), some (.loc 6), none, none, none, none, none, none, none]) M6 = some (.nx, Q [t1, some (.d IK), some (.loc 6), some (.d (.str "exclusive")), some (.d (gv "exclusive")), none, none, none, none, none], M7) := by rfl
  let R (r : List (Option W)) : Env' := Q ([t1, some (.d IK), some (.loc 6), some (.d (.str "exclusive")), some (.d (gv "exclusive"))] ++ r)
  have s15 : sAsg (eTup (aCons (eTup (aCons (eC (.str "x")) (aCons (eTup (aCons (eC (.str "tuple")) (aCons (eTup (aCons (eVar 7) (aCons (eVar 7) aNil))) aNil))) aNil))) (aCons (eTup (aCons (eC (.str "n")) (aCons (eVar 7) aNil))) aNil))) (gN 11) (R [none, none, none, none, none]) M7 = some (.nx, R [some (.d parsD), none, none, none, none], M7) := by rfl
  have s16 : sAsg (eTup (aCons (eC (.str "main")) (aCons (eTup aNil) (aCons (eTup (aCons (eC (.str "unit")) aNil)) (aCons (eTup aNil) (aCons (eTup aNil) aNil)))))) (gN 12) (R [some (.d parsD), none, none, none, none]) M7 = some (.nx, R [some (.d parsD), some (.d mainD), none, none, none], M7) := by rfl
  have s17 : sAsg (eTup (aCons (eTup aNil) (aCons (eOp (oPlus false) (eCall bTuple (aCons (eVar 8) aNil)) (eTup (aCons (eTup (aCons (eC (.str "work")) (aCons (eVar 11) (aCons (eTup (aCons (eC (.str "unit")) aNil)) (aCons (eTup aNil) (aCons (eVar 4) aNil)))))) (aCons (eVar 12) aNil)))) aNil))) (gN 13) (R [some (.d parsD), some (.d mainD), none, none, none]) M7 = some (.nx, R [some (.d parsD), some (.d mainD), some (.d (prog (.tuple ds))), none, none], M7) := by rfl
  have s18 : sAsg (eCall (m_build_graph CG CL) (aCons (eVar 13) (aCons (eC (.str "work")) aNil))) (gN 14) (R [some (.d parsD), some (.d mainD), some (.d (prog (.tuple ds))), none, none]) M7 = some (.nx, R [some (.d parsD), some (.d mainD), some (.d (prog (.tuple ds))), some (.loc 8), none], F) :=
    v_asg (v_call (ws := [.d (prog (.tuple ds)), .d (.str "work")]) (S1 := M7) (by rfl) eb) (by rfl)
  let fw : PyData := .tuple (follow (φ.pts.length - 1) ++ [.tuple []])
  let E14 : Env' := R [some (.d parsD), some (.d mainD), some (.d (prog (.tuple ds))), some (.loc 8), none]
  have hp1 : 1 ≤ φ.pts.length := by
    have h := congrArg List.length (fin_pts τ)
    rw [List.length_append] at h
    show 1 ≤ τ.fin.pts.length
    rw [h]
    exact Nat.le_trans (by decide : 1 ≤ 4) (Nat.le_add_left 4 _)
  have c19 : eLc (iRng1M (aCons (eOp oSub (eCall bLen (aCons (eVar 5) aNil)) (eC (.int (1)))) aNil)) [3] (gN 3) tYesM (eTup (aCons (eOp (oPlus false) (eVar 3) (eC (.int (1)))) aNil)) mkF E14 F = some (.d (.list (follow (φ.pts.length - 1))), F) := by
    refine v_lc (v_rng1 (i := (φ.pts.length : Int) - 1) (S1 := F) (v_cons (v_op (x := .d (.int (φ.pts.length : Int))) (S1 := F) (v_call (ws := [.loc 3]) (S1 := F) (by rfl) ?_) (y := .d (.int 1)) (S2 := F) (by rfl) (by rfl)) rfl) (by omega) (by omega)) (us := (List.range ((φ.pts.length : Int) - 1).toNat).map fun (j : Nat) => W.d (.tuple [.int (0 + (j : Int) + 1)])) (S2 := F) (lcM_map fun j hj => ⟨_, rfl, by rfl⟩) ?_
    · show some (W.d (.int (((φ.pts.map W.d).length : Nat) : Int)), F) = _
      rw [List.length_map]
    · have h1 : ((φ.pts.length : Int) - 1).toNat = φ.pts.length - 1 := by omega
      rw [h1, show ((List.range (φ.pts.length - 1)).map fun (j : Nat) => W.d (.tuple [.int (0 + (j : Int) + 1)])) = (follow (φ.pts.length - 1)).map W.d by
        unfold follow
        rw [List.map_map]
        refine List.map_congr_left fun j _ => ?_
        show W.d (.tuple [.int (0 + (j : Int) + 1)]) = W.d (.tuple [.int ((j : Int) + 1)])
        rw [Int.zero_add]]
      exact mkF_d (by unfold follow; rw [List.length_map, List.length_range]; exact Nat.le_trans (Nat.sub_le _ _) (Nat.le_of_lt (sz (Nat.le_trans hφ (by decide)))))
  have s19 : sAsg (eOp (oPlus false) (eCall bTuple (aCons (eLc (iRng1M (aCons (eOp oSub (eCall bLen (aCons (eVar 5) aNil)) (eC (.int (1)))) aNil)) [3] (gN 3) tYesM (eTup (aCons (eOp (oPlus false) (eVar 3) (eC (.int (1)))) aNil)) mkF) aNil)) (eTup (aCons (eTup aNil) aNil))) (gN 15) E14 F = some (.nx, R [some (.d parsD), some (.d mainD), some (.d (prog (.tuple ds))), some (.loc 8), some (.d fw)], F) := by
    refine v_asg (v_op (x := .d (.tuple (follow (φ.pts.length - 1)))) (S1 := F) (v_call (v_cons c19 rfl) ?_) (y := .d (.tuple [.tuple []])) (S2 := F) (by rfl) ?_) (by rfl)
    · show (dOf ((follow (φ.pts.length - 1)).map W.d)).bind _ = _
      rw [dOf_map]; rfl
    · show (if (follow (φ.pts.length - 1)).length + [PyData.tuple []].length ≤ sizeLine then _ else _) = _
      rw [if_pos (by
        show (follow (φ.pts.length - 1)).length + 1 ≤ sizeLine
        unfold follow; rw [List.length_map, List.length_range]
        exact Nat.le_of_lt (sz (by omega)))]
  let E : Env' := R [some (.d parsD), some (.d mainD), some (.d (prog (.tuple ds))), some (.loc 8), some (.d fw)]
  have hpl : ∀ x ∈ φ.pts, LK 40 x := fun x hx => (hff.ps x hx).mono (by decide)
  have g10 : eCall bTuple (aCons (eFld CG (eVar 14) "points") aNil) E F = some (.d (.tuple φ.pts), F) := by
    refine v_call (v_cons (v_fld (p := .loc 8) (S1 := F) (n := 8) (fs := fsG) (w := .loc 10) (by rfl) (by rfl) (by rfl)) rfl) ?_
    show (dOf (φ.pts.map W.d)).bind _ = _
    rw [dOf_map]; rfl
  have g3 : eCall bTuple (aCons (eVar 5) aNil) E F = some (.d (.tuple φ.pts), F) := by
    refine v_call (ws := [.loc 3]) (S1 := F) (by rfl) ?_
    show (dOf (φ.pts.map W.d)).bind _ = _
    rw [dOf_map]; rfl
  have g11 : eCall bTuple (aCons (eFld CG (eVar 14) "successors") aNil) E F = some (.d fw, F) := by
    refine v_call (v_cons (v_fld (p := .loc 8) (S1 := F) (n := 8) (fs := fsG) (w := .loc 11) (by rfl) (by rfl) (by rfl)) rfl) ?_
    show (dOf τ.fsl).bind _ = _
    rw [fsl_eq, follow_w, show (follow (τ.fin.pts.length - 1)).map W.d ++ [W.d (.tuple [])] = (follow (τ.fin.pts.length - 1) ++ [PyData.tuple []]).map W.d by rw [List.map_append]; rfl, dOf_map]
    rfl
  have t20 : (eOr (eB (eOp (oEq true) (eCall bTuple (aCons (eFld CG (eVar 14) "points") aNil)) (eCall bTuple (aCons (eVar 5) aNil)))) (eB (eOp (oEq true) (eCall bTuple (aCons (eFld CG (eVar 14) "successors") aNil)) (eVar 15)))) E F = some (false, F) :=
    v_orF (v_b (v_op g10 g3 (ne_f (eqP_refl hpl)))) (v_b (v_op g11 (y := .d fw) (S2 := F) (by rfl) (ne_f (eqP_refl (lk_follow _)))))
  have fd : ∀ {f : Str} {w : W}, fsG.lookup f = some w → eFld CG (eVar 14) f E F = some (w, F) := fun h => v_fld (p := .loc 8) (S1 := F) (n := 8) (by rfl) (by rfl) h
  have t21 : (eOr (eB (eOp (oEq true) (eFld CG (eVar 14) "parameters") (eTup (aCons (eC (.str "x")) (aCons (eC (.str "n")) aNil))))) (eOr (eB (eOp (oEq true) (eFld CG (eVar 14) "result") (eTup (aCons (eC (.str "unit")) aNil)))) (eOr (eB (eOp (oEq true) (eFld CG (eVar 14) "sources") (eTup aNil))) (eB (eOp (oEq true) (eFld CG (eVar 14) "name") (eC (.str "work"))))))) E F = some (false, F) :=
    v_orF (v_b (v_op (fd (w := .d (.tuple [.str "x", .str "n"])) (by rfl)) (y := .d (.tuple [.str "x", .str "n"])) (S2 := F) (by rfl) (ne_f xn_eq))) (v_orF (v_b (v_op (fd (w := .d UK) (by rfl)) (y := .d UK) (S2 := F) (by rfl) (ne_f uk_eq))) (v_orF (v_b (v_op (fd (w := .d (.tuple [])) (by rfl)) (y := .d (.tuple [])) (S2 := F) (by rfl) (ne_f nil_eq))) (v_b (v_op (fd (w := .d (.str "work")) (by rfl)) (y := .d (.str "work")) (S2 := F) (by rfl) (by rfl)))))
  have r22 : eOp oEqDct (eFld CG (eVar 14) "kinds") (eDGet (eVar 2) (eC (.str "kinds"))) E F = some (.d (.bool true), F) := by
    refine v_op (fd (w := .loc 9) (by rfl)) (y := .loc 4) (S2 := F) (v_dget (p := .loc 2) (S1 := F) (by rfl) (z := .d (.str "kinds")) (S2 := F) (by rfl) (n := 2) (kvs := [(.inr "made", .d (.int (φ.m : Int))), (.inr "points", .loc 3), (.inr "kinds", .loc 4), (.inr "names", .loc 5)]) (by rfl) (by rfl) (by rfl)) ?_
    exact eqDct_ok (n := 9) (m := 4) (ks := φ.kinds) (ls := φ.kinds) (by rfl) (by rfl) (same_self hff)
  exact ⟨F, v_def rfl (v_nx s1 (v_nx s2 (v_nx s3 (v_nx s4 (v_nx s5 (v_nx s6 (v_nx s7 (v_nx s8 (v_nx edrop (v_nx s10 (v_nx s11 (v_nx s12 (v_nx s13 (v_nx s14 (v_nx s15 (v_nx s16 (v_nx s17 (v_nx s18 (v_nx s19 (v_nx (v_ifF t20 (by rfl)) (v_nx (v_ifF t21 (by rfl)) (v_ret r22)))))))))))))))))))))) rfl⟩
end
end k05
/-! the end of a row whose law is a mirror -/
namespace Pd
open PySem PySem.Spec PyProof.Rows L2 GxR Gx
theorem drs_ints {K : PySem.W.Frag} {tb : List Addr} {A : Wd} : ∀ ns : List Int, DRs K tb A (ns.map V.int) (ns.map PyData.int)
  | [] => .nil
  | n :: ns => .cons (.int n) (drs_ints ns)
theorem spD_law {K : PySem.W.Frag} {tb : List Addr} {m : MF} {ns : List Int} {S' : Mem} {a : Addr} {H : Hp} {E : XK} (hm : m [.d (.dict [(.none, .list (ns.map .int))])] [] = some (.d (.bool true), S')) (ht : ∀ P ∈ tb, H P = some (.tbl #[])) (hs : SqL K H a (ns.map V.int)) :
    spD K tb 1 m [.ref a] H (fun v _ => v = .bl true) E := by
  let A : Wd := ⟨H, [], []⟩
  have R : Rep K tb A [] := by
    refine ⟨rfl, List.nodup_nil, fun P hP => ⟨#[], ht P hP, trivial⟩, ?_, ?_⟩
    · intro b hb; cases hb
    · intro n a ob h; cases h
  have D : DR K tb A (.ref a) (.dict [(.none, .list (ns.map .int))]) := DR.scr ?_ (drs_ints ns)
  · exact ⟨rfl, A, [.d (.dict [(.none, .list (ns.map .int))])], [], _, S', rfl, .cons D .nil, R, hm, fun v B _ _ r => WR.bl r⟩
  rcases hs with r | r
  · refine .inl ⟨fun z => ?_, r⟩
    have hat : a ∈ tb := z.elim (fun z => nomatch z) fun z => z.elim id fun z => nomatch z
    have ha := ht a hat
    rcases r with r | ⟨o, r⟩
    · rw [ha] at r; cases r
    · rw [ha] at r; cases r
  · exact .inr (.inr r)
theorem tab_in {K : PySem.W.Frag} {x : Str} {f c P : Addr} {oc : Value} {od : Option Addr} {fd : FuncData} {sl : Array (Option Value)} {e : Value} {dd : Option Addr} {vs : Array Value} {sm : Array (Option Value)}
    (a : PySem.W.nsIn K mainGlobals x = some (some (.ref f))) (l : K.lookup f = some ⟨oc, od, .func fd, sl⟩) (hc : fd.code = .ref c) (m : K.lookup c = some ⟨e, dd, .fields vs, sm⟩) (v : (vs[11]? : Option Value) = some (.ref P)) : PySem.W.tabIn K x = some (c, P) := by
  unfold PySem.W.tabIn
  simp only [a, l, hc, m, v]
/-- the head's heap at every def's table -/
def TabsOf (q : Program) (K : PySem.W.Frag) (h : Heap) : Prop := ∀ (x : Str) (c P : Addr), ((recsOf q).find? fun e => e.name == x).isSome = true → PySem.W.tabIn K x = some (c, P) → PySem.W.CodeHd h c P ∧ h.get? P = some { cls := .none, data := .fields #[] }
theorem walk_tabs {l : PySem.W.OpenLaw} {n k : Nat} {q : Program} {loose : List Str} {XP : (Str → Option Value) → Heap → Prop} {YP : World → Heap → Prop} {d : DefRec} {K : Params → PySem.W.Frag} {CX : World → CXT} {x : Str}
    (hn : l.most = some n) (hn2 : n ≤ sizeLine) (hdf : d.params.defaults = []) (hr : Room k callerA) (hY : ∀ (w : World) (h : Heap), YP w h → (K w.params).In h)
    (F : ∀ (w : World) (mg : Str → Option Value) (fa : Addr) (h : Heap), (K w.params).In h → h.Ns mainGlobals mg → mg d.name = some (.ref fa) → TabsOf q (K w.params) h → LamX.LawAtS l w (K w.params) (CX w) k n x mg fa h)
    (hCX : ∀ (w : World) (H : Hp) (s : Shared) (e : Value) (s' : Shared), CX w [] H s (fun _ _ _ => False) e s' → False) :
    PySem.W.WalkO q loose XP YP l.row.toRowW d [] (fun f vs => PySem.call f vs) :=
  Att.attach_callB hn hdf fun w s₀ s₁ mg mb fa o pm cd doc a vs ns G Y ho hd hcd hmg hobj hints hlen hbits hg =>
    have KX := hY w _ Y
    have tabs : TabsOf q (K w.params) s₁.heap := fun y c P hr ht => by
      obtain ⟨r, e⟩ := Option.isSome_iff_exists.mp hr
      exact PySem.W.tab_of G.T KX e ht
    let ⟨fd, cs, sp, hT, nT, C, hb, hsp, hF⟩ := F w mg fa _ KX G.T.g hmg tabs
    LamX.law_callTs KX G.T.g G.T.b G.T.builtins G.T.nolimit hg hT nT C G.T.bmain hobj hints (Nat.le_trans hlen hn2) hr hF hb (fun H hH hS => hsp H a ns hlen hbits hH hS) fun H e s' => hCX w H s₁ e s'
theorem tabG_of {base : Heap} {mg : Str → Option Value} {c P : Addr} (h : LamX.TabB base mg c P) : TabB base mg c P := ⟨h.code, h.bm, h.gP⟩
end Pd
namespace k05
open PySem PySem.Spec PyProof.Rows L2 GxR Gx Pd
theorem all_mk {l : PySem.W.OpenLaw} {q : Program} {w : World} {K : PySem.W.Frag} {h : Heap} {mg : Str → Option Value} {fa : Addr} (X : K.In h) (G : h.Ns mainGlobals mg) (hfa : mg "law" = some (.ref fa)) (TT : TabsOf q K h)
    {A_BORROWS : Addr} {D_BORROWS : Option Addr} {N_BORROWS : Nat} {S_BORROWS : Array (Option Value)} {t0_BORROWS t1_BORROWS : Tok}
    {A_SINGLE_WORDS : Addr} {D_SINGLE_WORDS : Option Addr} {N_SINGLE_WORDS : Nat} {S_SINGLE_WORDS : Array (Option Value)} {t0_SINGLE_WORDS t1_SINGLE_WORDS t2_SINGLE_WORDS t3_SINGLE_WORDS : Tok}
    {C_Graph : Addr}
    {C_Lowering : Addr}
    {f0 cd0 : Addr} {od0 an0 : Option Addr} {sl0 : Array (Option Value)} {oc0 kV0 dc0 pm0 ct0 : Value}
    {f1 cd1 : Addr} {od1 an1 : Option Addr} {sl1 : Array (Option Value)} {oc1 kV1 dc1 pm1 ct1 : Value}
    {P1 : Addr} {e1 : Value} {dd1 : Option Addr} {vs1 : Array Value} {sm1 : Array (Option Value)}
    {f2 cd2 : Addr} {od2 an2 : Option Addr} {sl2 : Array (Option Value)} {oc2 kV2 dc2 pm2 ct2 : Value}
    {f3 cd3 : Addr} {od3 an3 : Option Addr} {sl3 : Array (Option Value)} {oc3 kV3 dc3 pm3 ct3 : Value}
    {f4 cd4 : Addr} {od4 an4 : Option Addr} {sl4 : Array (Option Value)} {oc4 kV4 dc4 pm4 ct4 : Value}
    {f5 cd5 : Addr} {od5 an5 : Option Addr} {sl5 : Array (Option Value)} {oc5 kV5 dc5 pm5 ct5 : Value}
    {f6 cd6 : Addr} {od6 an6 : Option Addr} {sl6 : Array (Option Value)} {oc6 kV6 dc6 pm6 ct6 : Value}
    {f7 cd7 : Addr} {od7 an7 : Option Addr} {sl7 : Array (Option Value)} {oc7 kV7 dc7 pm7 ct7 : Value}
    {f8 cd8 : Addr} {od8 an8 : Option Addr} {sl8 : Array (Option Value)} {oc8 kV8 dc8 pm8 ct8 : Value}
    {f9 cd9 : Addr} {od9 an9 : Option Addr} {sl9 : Array (Option Value)} {oc9 kV9 dc9 pm9 ct9 : Value}
    {f10 cd10 : Addr} {od10 an10 : Option Addr} {sl10 : Array (Option Value)} {oc10 kV10 dc10 pm10 ct10 : Value}
    {f11 cd11 : Addr} {od11 an11 : Option Addr} {sl11 : Array (Option Value)} {oc11 kV11 dc11 pm11 ct11 : Value}
    {f12 cd12 : Addr} {od12 an12 : Option Addr} {sl12 : Array (Option Value)} {oc12 kV12 dc12 pm12 ct12 : Value}
    {f13 cd13 : Addr} {od13 an13 : Option Addr} {sl13 : Array (Option Value)} {oc13 kV13 dc13 pm13 ct13 : Value}
    {f14 cd14 : Addr} {od14 an14 : Option Addr} {sl14 : Array (Option Value)} {oc14 kV14 dc14 pm14 ct14 : Value}
    {f15 cd15 : Addr} {od15 an15 : Option Addr} {sl15 : Array (Option Value)} {oc15 kV15 dc15 pm15 ct15 : Value}
    {f16 cd16 : Addr} {od16 an16 : Option Addr} {sl16 : Array (Option Value)} {oc16 kV16 dc16 pm16 ct16 : Value}
    {f17 cd17 : Addr} {od17 an17 : Option Addr} {sl17 : Array (Option Value)} {oc17 kV17 dc17 pm17 ct17 : Value}
    {f18 cd18 : Addr} {od18 an18 : Option Addr} {sl18 : Array (Option Value)} {oc18 kV18 dc18 pm18 ct18 : Value}
    {f19 cd19 : Addr} {od19 an19 : Option Addr} {sl19 : Array (Option Value)} {oc19 kV19 dc19 pm19 ct19 : Value}
    {f20 cd20 : Addr} {od20 an20 : Option Addr} {sl20 : Array (Option Value)} {oc20 kV20 dc20 pm20 ct20 : Value}
    {f21 cd21 : Addr} {od21 an21 : Option Addr} {sl21 : Array (Option Value)} {oc21 kV21 dc21 pm21 ct21 : Value}
    {f22 cd22 : Addr} {od22 an22 : Option Addr} {sl22 : Array (Option Value)} {oc22 kV22 dc22 pm22 ct22 : Value}
    {f23 cd23 : Addr} {od23 an23 : Option Addr} {sl23 : Array (Option Value)} {oc23 kV23 dc23 pm23 ct23 : Value}
    {f24 cd24 : Addr} {od24 an24 : Option Addr} {sl24 : Array (Option Value)} {oc24 kV24 dc24 pm24 ct24 : Value}
    {f25 cd25 : Addr} {od25 an25 : Option Addr} {sl25 : Array (Option Value)} {oc25 kV25 dc25 pm25 ct25 : Value}
    {f26 cd26 : Addr} {od26 an26 : Option Addr} {sl26 : Array (Option Value)} {oc26 kV26 dc26 pm26 ct26 : Value}
    {f27 cd27 : Addr} {od27 an27 : Option Addr} {sl27 : Array (Option Value)} {oc27 kV27 dc27 pm27 ct27 : Value}
    {f28 cd28 : Addr} {od28 an28 : Option Addr} {sl28 : Array (Option Value)} {oc28 kV28 dc28 pm28 ct28 : Value}
    {f29 cd29 : Addr} {od29 an29 : Option Addr} {sl29 : Array (Option Value)} {oc29 kV29 dc29 pm29 ct29 : Value}
    {f30 cd30 : Addr} {od30 an30 : Option Addr} {sl30 : Array (Option Value)} {oc30 kV30 dc30 pm30 ct30 : Value}
    {f31 cd31 : Addr} {od31 an31 : Option Addr} {sl31 : Array (Option Value)} {oc31 kV31 dc31 pm31 ct31 : Value}
    {f32 cd32 : Addr} {od32 an32 : Option Addr} {sl32 : Array (Option Value)} {oc32 kV32 dc32 pm32 ct32 : Value}
    (z_len : PySem.W.nsIn K mainGlobals "len" = some none)
    (z_int : PySem.W.nsIn K mainGlobals "int" = some none)
    (z_bool : PySem.W.nsIn K mainGlobals "bool" = some none)
    (z_abs : PySem.W.nsIn K mainGlobals "abs" = some none)
    (z_range : PySem.W.nsIn K mainGlobals "range" = some none)
    (z_tuple : PySem.W.nsIn K mainGlobals "tuple" = some none)
    (z_all : PySem.W.nsIn K mainGlobals "all" = some none)
    (z_list : PySem.W.nsIn K mainGlobals "list" = some none)
    (z_str : PySem.W.nsIn K mainGlobals "str" = some none)
    (z_isinstance : PySem.W.nsIn K mainGlobals "isinstance" = some none)
    (z_reversed : PySem.W.nsIn K mainGlobals "reversed" = some none)
    (b_BORROWS : PySem.W.nsIn K mainGlobals "BORROWS" = some (some (.ref A_BORROWS))) (w_BORROWS : K.lookup A_BORROWS = some ⟨.type "tuple", D_BORROWS, .seq #[.str "shared" t0_BORROWS, .str "exclusive" t1_BORROWS] N_BORROWS, S_BORROWS⟩)
    (b_SINGLE_WORDS : PySem.W.nsIn K mainGlobals "SINGLE_WORDS" = some (some (.ref A_SINGLE_WORDS))) (w_SINGLE_WORDS : K.lookup A_SINGLE_WORDS = some ⟨.type "tuple", D_SINGLE_WORDS, .seq #[.str "int" t0_SINGLE_WORDS, .str "bool" t1_SINGLE_WORDS, .str "unit" t2_SINGLE_WORDS, .str "record" t3_SINGLE_WORDS] N_SINGLE_WORDS, S_SINGLE_WORDS⟩)
    (gc_Graph : PySem.W.nsIn K mainGlobals "Graph" = some (some (.ref C_Graph)))
    (pg_Graph : PySem.W.plainGet K C_Graph Str.empty = true) (hd_Graph : PySem.W.hasDictIn K C_Graph = true) (po_Graph : PySem.W.plainOver K C_Graph = true) (sa_Graph : PySem.W.findIn K (.ref C_Graph) "__setattr__" = some (some (.builtin "object.__setattr__"))) (mi_Graph : PySem.W.makesIn K C_Graph = true) (kc_Graph : PySem.W.keepIn K (.ref C_Graph) = true)
    (na_Graph_kinds : PySem.W.findIn K (.ref C_Graph) "kinds" = some none)
    (na_Graph_name : PySem.W.findIn K (.ref C_Graph) "name" = some none)
    (na_Graph_parameters : PySem.W.findIn K (.ref C_Graph) "parameters" = some none)
    (na_Graph_points : PySem.W.findIn K (.ref C_Graph) "points" = some none)
    (na_Graph_result : PySem.W.findIn K (.ref C_Graph) "result" = some none)
    (na_Graph_sources : PySem.W.findIn K (.ref C_Graph) "sources" = some none)
    (na_Graph_successors : PySem.W.findIn K (.ref C_Graph) "successors" = some none)
    (gc_Lowering : PySem.W.nsIn K mainGlobals "Lowering" = some (some (.ref C_Lowering)))
    (pg_Lowering : PySem.W.plainGet K C_Lowering Str.empty = true) (hd_Lowering : PySem.W.hasDictIn K C_Lowering = true) (po_Lowering : PySem.W.plainOver K C_Lowering = true) (sa_Lowering : PySem.W.findIn K (.ref C_Lowering) "__setattr__" = some (some (.builtin "object.__setattr__"))) (mi_Lowering : PySem.W.makesIn K C_Lowering = true) (kc_Lowering : PySem.W.keepIn K (.ref C_Lowering) = true)
    (na_Lowering_graph : PySem.W.findIn K (.ref C_Lowering) "graph" = some none)
    (na_Lowering_program : PySem.W.findIn K (.ref C_Lowering) "program" = some none)
    (na_Lowering_scope : PySem.W.findIn K (.ref C_Lowering) "scope" = some none)
    (na_Lowering_temporaries : PySem.W.findIn K (.ref C_Lowering) "temporaries" = some none)
    (a0 : PySem.W.nsIn K mainGlobals "kinds_inside" = some (some (.ref f0)))
    (l0 : K.lookup f0 = some ⟨oc0, od0, .func (PySem.W.fnOf "kinds_inside" "kinds_inside" (defArgs s_kinds_inside) (defBody s_kinds_inside) (defScope s_kinds_inside) .none kV0 dc0 pm0 an0 (.ref cd0) ct0), sl0⟩)
    (c0 : PySem.W.codeIn K (.ref cd0) "kinds_inside" = true) (k0 : PySem.W.keepIn K (.ref f0) = true)
    (a1 : PySem.W.nsIn K mainGlobals "is_copy" = some (some (.ref f1)))
    (l1 : K.lookup f1 = some ⟨oc1, od1, .func (PySem.W.fnOf "is_copy" "is_copy" (defArgs s_is_copy) (defBody s_is_copy) (defScope s_is_copy) .none kV1 dc1 pm1 an1 (.ref cd1) ct1), sl1⟩)
    (c1 : PySem.W.codeIn K (.ref cd1) "is_copy" = true) (k1 : PySem.W.keepIn K (.ref f1) = true)
    (m1 : K.lookup cd1 = some ⟨e1, dd1, .fields vs1, sm1⟩) (v1 : (vs1[11]? : Option Value) = some (.ref P1)) (n1 : K.lookup P1 = none) (r1 : ((recsOf q).find? fun e => e.name == ("is_copy" : Str)).isSome = true)
    (a2 : PySem.W.nsIn K mainGlobals "kind_after" = some (some (.ref f2)))
    (l2 : K.lookup f2 = some ⟨oc2, od2, .func (PySem.W.fnOf "kind_after" "kind_after" (defArgs s_kind_after) (defBody s_kind_after) (defScope s_kind_after) .none kV2 dc2 pm2 an2 (.ref cd2) ct2), sl2⟩)
    (c2 : PySem.W.codeIn K (.ref cd2) "kind_after" = true) (k2 : PySem.W.keepIn K (.ref f2) = true)
    (a3 : PySem.W.nsIn K mainGlobals "is_item" = some (some (.ref f3)))
    (l3 : K.lookup f3 = some ⟨oc3, od3, .func (PySem.W.fnOf "is_item" "is_item" (defArgs s_is_item) (defBody s_is_item) (defScope s_is_item) .none kV3 dc3 pm3 an3 (.ref cd3) ct3), sl3⟩)
    (c3 : PySem.W.codeIn K (.ref cd3) "is_item" = true) (k3 : PySem.W.keepIn K (.ref f3) = true)
    (a4 : PySem.W.nsIn K mainGlobals "fields_of" = some (some (.ref f4)))
    (l4 : K.lookup f4 = some ⟨oc4, od4, .func (PySem.W.fnOf "fields_of" "fields_of" (defArgs s_fields_of) (defBody s_fields_of) (defScope s_fields_of) .none kV4 dc4 pm4 an4 (.ref cd4) ct4), sl4⟩)
    (c4 : PySem.W.codeIn K (.ref cd4) "fields_of" = true) (k4 : PySem.W.keepIn K (.ref f4) = true)
    (a5 : PySem.W.nsIn K mainGlobals "kind_at" = some (some (.ref f5)))
    (l5 : K.lookup f5 = some ⟨oc5, od5, .func (PySem.W.fnOf "kind_at" "kind_at" (defArgs s_kind_at) (defBody s_kind_at) (defScope s_kind_at) .none kV5 dc5 pm5 an5 (.ref cd5) ct5), sl5⟩)
    (c5 : PySem.W.codeIn K (.ref cd5) "kind_at" = true) (k5 : PySem.W.keepIn K (.ref f5) = true)
    (a6 : PySem.W.nsIn K mainGlobals "kinds_along" = some (some (.ref f6)))
    (l6 : K.lookup f6 = some ⟨oc6, od6, .func (PySem.W.fnOf "kinds_along" "kinds_along" (defArgs s_kinds_along) (defBody s_kinds_along) (defScope s_kinds_along) .none kV6 dc6 pm6 an6 (.ref cd6) ct6), sl6⟩)
    (c6 : PySem.W.codeIn K (.ref cd6) "kinds_along" = true) (k6 : PySem.W.keepIn K (.ref f6) = true)
    (a7 : PySem.W.nsIn K mainGlobals "function_named" = some (some (.ref f7)))
    (l7 : K.lookup f7 = some ⟨oc7, od7, .func (PySem.W.fnOf "function_named" "function_named" (defArgs s_function_named) (defBody s_function_named) (defScope s_function_named) .none kV7 dc7 pm7 an7 (.ref cd7) ct7), sl7⟩)
    (c7 : PySem.W.codeIn K (.ref cd7) "function_named" = true) (k7 : PySem.W.keepIn K (.ref f7) = true)
    (a8 : PySem.W.nsIn K mainGlobals "parts_of" = some (some (.ref f8)))
    (l8 : K.lookup f8 = some ⟨oc8, od8, .func (PySem.W.fnOf "parts_of" "parts_of" (defArgs s_parts_of) (defBody s_parts_of) (defScope s_parts_of) .none kV8 dc8 pm8 an8 (.ref cd8) ct8), sl8⟩)
    (c8 : PySem.W.codeIn K (.ref cd8) "parts_of" = true) (k8 : PySem.W.keepIn K (.ref f8) = true)
    (a9 : PySem.W.nsIn K mainGlobals "place_in" = some (some (.ref f9)))
    (l9 : K.lookup f9 = some ⟨oc9, od9, .func (PySem.W.fnOf "place_in" "place_in" (defArgs s_place_in) (defBody s_place_in) (defScope s_place_in) .none kV9 dc9 pm9 an9 (.ref cd9) ct9), sl9⟩)
    (c9 : PySem.W.codeIn K (.ref cd9) "place_in" = true) (k9 : PySem.W.keepIn K (.ref f9) = true)
    (a10 : PySem.W.nsIn K mainGlobals "kind_made" = some (some (.ref f10)))
    (l10 : K.lookup f10 = some ⟨oc10, od10, .func (PySem.W.fnOf "kind_made" "kind_made" (defArgs s_kind_made) (defBody s_kind_made) (defScope s_kind_made) .none kV10 dc10 pm10 an10 (.ref cd10) ct10), sl10⟩)
    (c10 : PySem.W.codeIn K (.ref cd10) "kind_made" = true) (k10 : PySem.W.keepIn K (.ref f10) = true)
    (a11 : PySem.W.nsIn K mainGlobals "kind_fetched" = some (some (.ref f11)))
    (l11 : K.lookup f11 = some ⟨oc11, od11, .func (PySem.W.fnOf "kind_fetched" "kind_fetched" (defArgs s_kind_fetched) (defBody s_kind_fetched) (defScope s_kind_fetched) .none kV11 dc11 pm11 an11 (.ref cd11) ct11), sl11⟩)
    (c11 : PySem.W.codeIn K (.ref cd11) "kind_fetched" = true) (k11 : PySem.W.keepIn K (.ref f11) = true)
    (a12 : PySem.W.findIn K (.ref C_Graph) "__init__" = some (some (.ref f12))) (i12 : PySem.W.isFn K (.ref f12) = true)
    (l12 : K.lookup f12 = some ⟨oc12, od12, .func (PySem.W.fnOf "__init__" "Graph.__init__" (defArgs s_Graph___init__) (defBody s_Graph___init__) (defScope s_Graph___init__) .none kV12 dc12 pm12 an12 (.ref cd12) ct12), sl12⟩)
    (c12 : PySem.W.codeIn K (.ref cd12) "Graph.__init__" = true) (k12 : PySem.W.keepIn K (.ref f12) = true)
    (a13 : PySem.W.nsIn K mainGlobals "build_graph" = some (some (.ref f13)))
    (l13 : K.lookup f13 = some ⟨oc13, od13, .func (PySem.W.fnOf "build_graph" "build_graph" (defArgs s_build_graph) (defBody s_build_graph) (defScope s_build_graph) .none kV13 dc13 pm13 an13 (.ref cd13) ct13), sl13⟩)
    (c13 : PySem.W.codeIn K (.ref cd13) "build_graph" = true) (k13 : PySem.W.keepIn K (.ref f13) = true)
    (a14 : PySem.W.findIn K (.ref C_Lowering) "__init__" = some (some (.ref f14))) (i14 : PySem.W.isFn K (.ref f14) = true)
    (l14 : K.lookup f14 = some ⟨oc14, od14, .func (PySem.W.fnOf "__init__" "Lowering.__init__" (defArgs s_Lowering___init__) (defBody s_Lowering___init__) (defScope s_Lowering___init__) .none kV14 dc14 pm14 an14 (.ref cd14) ct14), sl14⟩)
    (c14 : PySem.W.codeIn K (.ref cd14) "Lowering.__init__" = true) (k14 : PySem.W.keepIn K (.ref f14) = true)
    (a15 : PySem.W.findIn K (.ref C_Lowering) "lower_function" = some (some (.ref f15))) (i15 : PySem.W.isFn K (.ref f15) = true)
    (l15 : K.lookup f15 = some ⟨oc15, od15, .func (PySem.W.fnOf "lower_function" "Lowering.lower_function" (defArgs s_Lowering_lower_function) (defBody s_Lowering_lower_function) (defScope s_Lowering_lower_function) .none kV15 dc15 pm15 an15 (.ref cd15) ct15), sl15⟩)
    (c15 : PySem.W.codeIn K (.ref cd15) "Lowering.lower_function" = true) (k15 : PySem.W.keepIn K (.ref f15) = true)
    (a16 : PySem.W.findIn K (.ref C_Lowering) "add_point" = some (some (.ref f16))) (i16 : PySem.W.isFn K (.ref f16) = true)
    (l16 : K.lookup f16 = some ⟨oc16, od16, .func (PySem.W.fnOf "add_point" "Lowering.add_point" (defArgs s_Lowering_add_point) (defBody s_Lowering_add_point) (defScope s_Lowering_add_point) .none kV16 dc16 pm16 an16 (.ref cd16) ct16), sl16⟩)
    (c16 : PySem.W.codeIn K (.ref cd16) "Lowering.add_point" = true) (k16 : PySem.W.keepIn K (.ref f16) = true)
    (a17 : PySem.W.findIn K (.ref C_Lowering) "add_end" = some (some (.ref f17))) (i17 : PySem.W.isFn K (.ref f17) = true)
    (l17 : K.lookup f17 = some ⟨oc17, od17, .func (PySem.W.fnOf "add_end" "Lowering.add_end" (defArgs s_Lowering_add_end) (defBody s_Lowering_add_end) (defScope s_Lowering_add_end) .none kV17 dc17 pm17 an17 (.ref cd17) ct17), sl17⟩)
    (c17 : PySem.W.codeIn K (.ref cd17) "Lowering.add_end" = true) (k17 : PySem.W.keepIn K (.ref f17) = true)
    (a18 : PySem.W.findIn K (.ref C_Lowering) "add_drops" = some (some (.ref f18))) (i18 : PySem.W.isFn K (.ref f18) = true)
    (l18 : K.lookup f18 = some ⟨oc18, od18, .func (PySem.W.fnOf "add_drops" "Lowering.add_drops" (defArgs s_Lowering_add_drops) (defBody s_Lowering_add_drops) (defScope s_Lowering_add_drops) .none kV18 dc18 pm18 an18 (.ref cd18) ct18), sl18⟩)
    (c18 : PySem.W.codeIn K (.ref cd18) "Lowering.add_drops" = true) (k18 : PySem.W.keepIn K (.ref f18) = true)
    (a19 : PySem.W.findIn K (.ref C_Lowering) "add_leave" = some (some (.ref f19))) (i19 : PySem.W.isFn K (.ref f19) = true)
    (l19 : K.lookup f19 = some ⟨oc19, od19, .func (PySem.W.fnOf "add_leave" "Lowering.add_leave" (defArgs s_Lowering_add_leave) (defBody s_Lowering_add_leave) (defScope s_Lowering_add_leave) .none kV19 dc19 pm19 an19 (.ref cd19) ct19), sl19⟩)
    (c19 : PySem.W.codeIn K (.ref cd19) "Lowering.add_leave" = true) (k19 : PySem.W.keepIn K (.ref f19) = true)
    (a20 : PySem.W.findIn K (.ref C_Lowering) "lower_block" = some (some (.ref f20))) (i20 : PySem.W.isFn K (.ref f20) = true)
    (l20 : K.lookup f20 = some ⟨oc20, od20, .func (PySem.W.fnOf "lower_block" "Lowering.lower_block" (defArgs s_Lowering_lower_block) (defBody s_Lowering_lower_block) (defScope s_Lowering_lower_block) .none kV20 dc20 pm20 an20 (.ref cd20) ct20), sl20⟩)
    (c20 : PySem.W.codeIn K (.ref cd20) "Lowering.lower_block" = true) (k20 : PySem.W.keepIn K (.ref f20) = true)
    (a21 : PySem.W.findIn K (.ref C_Lowering) "lower_statement" = some (some (.ref f21))) (i21 : PySem.W.isFn K (.ref f21) = true)
    (l21 : K.lookup f21 = some ⟨oc21, od21, .func (PySem.W.fnOf "lower_statement" "Lowering.lower_statement" (defArgs s_Lowering_lower_statement) (defBody s_Lowering_lower_statement) (defScope s_Lowering_lower_statement) .none kV21 dc21 pm21 an21 (.ref cd21) ct21), sl21⟩)
    (c21 : PySem.W.codeIn K (.ref cd21) "Lowering.lower_statement" = true) (k21 : PySem.W.keepIn K (.ref f21) = true)
    (a22 : PySem.W.findIn K (.ref C_Lowering) "lower_let" = some (some (.ref f22))) (i22 : PySem.W.isFn K (.ref f22) = true)
    (l22 : K.lookup f22 = some ⟨oc22, od22, .func (PySem.W.fnOf "lower_let" "Lowering.lower_let" (defArgs s_Lowering_lower_let) (defBody s_Lowering_lower_let) (defScope s_Lowering_lower_let) .none kV22 dc22 pm22 an22 (.ref cd22) ct22), sl22⟩)
    (c22 : PySem.W.codeIn K (.ref cd22) "Lowering.lower_let" = true) (k22 : PySem.W.keepIn K (.ref f22) = true)
    (a23 : PySem.W.findIn K (.ref C_Lowering) "lower_if" = some (some (.ref f23))) (i23 : PySem.W.isFn K (.ref f23) = true)
    (l23 : K.lookup f23 = some ⟨oc23, od23, .func (PySem.W.fnOf "lower_if" "Lowering.lower_if" (defArgs s_Lowering_lower_if) (defBody s_Lowering_lower_if) (defScope s_Lowering_lower_if) .none kV23 dc23 pm23 an23 (.ref cd23) ct23), sl23⟩)
    (c23 : PySem.W.codeIn K (.ref cd23) "Lowering.lower_if" = true) (k23 : PySem.W.keepIn K (.ref f23) = true)
    (a24 : PySem.W.findIn K (.ref C_Lowering) "lower_while" = some (some (.ref f24))) (i24 : PySem.W.isFn K (.ref f24) = true)
    (l24 : K.lookup f24 = some ⟨oc24, od24, .func (PySem.W.fnOf "lower_while" "Lowering.lower_while" (defArgs s_Lowering_lower_while) (defBody s_Lowering_lower_while) (defScope s_Lowering_lower_while) .none kV24 dc24 pm24 an24 (.ref cd24) ct24), sl24⟩)
    (c24 : PySem.W.codeIn K (.ref cd24) "Lowering.lower_while" = true) (k24 : PySem.W.keepIn K (.ref f24) = true)
    (a25 : PySem.W.findIn K (.ref C_Lowering) "lower_expression" = some (some (.ref f25))) (i25 : PySem.W.isFn K (.ref f25) = true)
    (l25 : K.lookup f25 = some ⟨oc25, od25, .func (PySem.W.fnOf "lower_expression" "Lowering.lower_expression" (defArgs s_Lowering_lower_expression) (defBody s_Lowering_lower_expression) (defScope s_Lowering_lower_expression) .none kV25 dc25 pm25 an25 (.ref cd25) ct25), sl25⟩)
    (c25 : PySem.W.codeIn K (.ref cd25) "Lowering.lower_expression" = true) (k25 : PySem.W.keepIn K (.ref f25) = true)
    (a26 : PySem.W.nsIn K mainGlobals "instruction_for" = some (some (.ref f26)))
    (l26 : K.lookup f26 = some ⟨oc26, od26, .func (PySem.W.fnOf "instruction_for" "instruction_for" (defArgs s_instruction_for) (defBody s_instruction_for) (defScope s_instruction_for) .none kV26 dc26 pm26 an26 (.ref cd26) ct26), sl26⟩)
    (c26 : PySem.W.codeIn K (.ref cd26) "instruction_for" = true) (k26 : PySem.W.keepIn K (.ref f26) = true)
    (a27 : PySem.W.nsIn K mainGlobals "_law_tape" = some (some (.ref f27)))
    (l27 : K.lookup f27 = some ⟨oc27, od27, .func (PySem.W.fnOf "_law_tape" "_law_tape" (defArgs s__law_tape) (defBody s__law_tape) (defScope s__law_tape) .none kV27 dc27 pm27 an27 (.ref cd27) ct27), sl27⟩)
    (c27 : PySem.W.codeIn K (.ref cd27) "_law_tape" = true) (k27 : PySem.W.keepIn K (.ref f27) = true)
    (a28 : PySem.W.nsIn K mainGlobals "_law_next" = some (some (.ref f28)))
    (l28 : K.lookup f28 = some ⟨oc28, od28, .func (PySem.W.fnOf "_law_next" "_law_next" (defArgs s__law_next) (defBody s__law_next) (defScope s__law_next) .none kV28 dc28 pm28 an28 (.ref cd28) ct28), sl28⟩)
    (c28 : PySem.W.codeIn K (.ref cd28) "_law_next" = true) (k28 : PySem.W.keepIn K (.ref f28) = true)
    (a29 : PySem.W.nsIn K mainGlobals "_law_made" = some (some (.ref f29)))
    (l29 : K.lookup f29 = some ⟨oc29, od29, .func (PySem.W.fnOf "_law_made" "_law_made" (defArgs s__law_made) (defBody s__law_made) (defScope s__law_made) .none kV29 dc29 pm29 an29 (.ref cd29) ct29), sl29⟩)
    (c29 : PySem.W.codeIn K (.ref cd29) "_law_made" = true) (k29 : PySem.W.keepIn K (.ref f29) = true)
    (a30 : PySem.W.nsIn K mainGlobals "_law_started" = some (some (.ref f30)))
    (l30 : K.lookup f30 = some ⟨oc30, od30, .func (PySem.W.fnOf "_law_started" "_law_started" (defArgs s__law_started) (defBody s__law_started) (defScope s__law_started) .none kV30 dc30 pm30 an30 (.ref cd30) ct30), sl30⟩)
    (c30 : PySem.W.codeIn K (.ref cd30) "_law_started" = true) (k30 : PySem.W.keepIn K (.ref f30) = true)
    (a31 : PySem.W.nsIn K mainGlobals "_law_statement" = some (some (.ref f31)))
    (l31 : K.lookup f31 = some ⟨oc31, od31, .func (PySem.W.fnOf "_law_statement" "_law_statement" (defArgs s__law_statement) (defBody s__law_statement) (defScope s__law_statement) .none kV31 dc31 pm31 an31 (.ref cd31) ct31), sl31⟩)
    (c31 : PySem.W.codeIn K (.ref cd31) "_law_statement" = true) (k31 : PySem.W.keepIn K (.ref f31) = true)
    (a32 : PySem.W.nsIn K mainGlobals "law" = some (some (.ref f32)))
    (l32 : K.lookup f32 = some ⟨oc32, od32, .func (PySem.W.fnOf "law" "law" (defArgs s_law) (defBody s_law) (defScope s_law) .none kV32 dc32 pm32 an32 (.ref cd32) ct32), sl32⟩)
    (c32 : PySem.W.codeIn K (.ref cd32) "law" = true) (k32 : PySem.W.keepIn K (.ref f32) = true) :
    LamX.LawAtS l w K CX0 19 63 "script" mg fa h := by
  have e := hfa.symm.trans (PySem.W.mg_of X G a32)
  cases e
  let T : Txt K mg := {
    tb := [P1],
    z_len := PySem.W.mg_none_of X G z_len,
    z_int := PySem.W.mg_none_of X G z_int,
    z_bool := PySem.W.mg_none_of X G z_bool,
    z_abs := PySem.W.mg_none_of X G z_abs,
    z_range := PySem.W.mg_none_of X G z_range,
    z_tuple := PySem.W.mg_none_of X G z_tuple,
    z_all := PySem.W.mg_none_of X G z_all,
    z_list := PySem.W.mg_none_of X G z_list,
    z_str := PySem.W.mg_none_of X G z_str,
    z_isinstance := PySem.W.mg_none_of X G z_isinstance,
    z_reversed := PySem.W.mg_none_of X G z_reversed,
    a_BORROWS := A_BORROWS,
    g_BORROWS := PySem.W.mg_of X G b_BORROWS,
    d_BORROWS := dr_con (xs := [.str "shared", .str "exclusive"]) (.inr ⟨_, _, _, w_BORROWS, rfl, rfl, by show 2 ≤ sizeLine; decide, (.cons ⟨t0_BORROWS, rfl⟩ (.cons ⟨t1_BORROWS, rfl⟩ .nil))⟩) fun _ => (.cons (.str _) (.cons (.str _) .nil)),
    a_SINGLE_WORDS := A_SINGLE_WORDS,
    g_SINGLE_WORDS := PySem.W.mg_of X G b_SINGLE_WORDS,
    d_SINGLE_WORDS := dr_con (xs := [.str "int", .str "bool", .str "unit", .str "record"]) (.inr ⟨_, _, _, w_SINGLE_WORDS, rfl, rfl, by show 4 ≤ sizeLine; decide, (.cons ⟨t0_SINGLE_WORDS, rfl⟩ (.cons ⟨t1_SINGLE_WORDS, rfl⟩ (.cons ⟨t2_SINGLE_WORDS, rfl⟩ (.cons ⟨t3_SINGLE_WORDS, rfl⟩ .nil))))⟩) fun _ => (.cons (.str _) (.cons (.str _) (.cons (.str _) (.cons (.str _) .nil)))),
    C_Graph := C_Graph,
    g_Graph := PySem.W.mg_of X G gc_Graph,
    cl_Graph := ⟨pg_Graph, hd_Graph, po_Graph, sa_Graph⟩,
    na_Graph_kinds := na_Graph_kinds,
    na_Graph_name := na_Graph_name,
    na_Graph_parameters := na_Graph_parameters,
    na_Graph_points := na_Graph_points,
    na_Graph_result := na_Graph_result,
    na_Graph_sources := na_Graph_sources,
    na_Graph_successors := na_Graph_successors,
    C_Lowering := C_Lowering,
    g_Lowering := PySem.W.mg_of X G gc_Lowering,
    cl_Lowering := ⟨pg_Lowering, hd_Lowering, po_Lowering, sa_Lowering⟩,
    na_Lowering_graph := na_Lowering_graph,
    na_Lowering_program := na_Lowering_program,
    na_Lowering_scope := na_Lowering_scope,
    na_Lowering_temporaries := na_Lowering_temporaries,
    kinds_inside := ⟨f0, _, cd0, ⟨⟨oc0, od0, kV0, dc0, pm0, an0, ct0, sl0, rfl, l0, c0⟩, k0⟩, PySem.W.mg_of X G a0, (fun_mk (st := s_kinds_inside) l0 c0 k0).binds (ps := ["kind"]) fun _ _ _ _ _ _ us hl => match us, hl with | [_], _ => rfl⟩,
    is_copy := ⟨f1, _, cd1, ⟨⟨oc1, od1, kV1, dc1, pm1, an1, ct1, sl1, rfl, l1, c1⟩, k1⟩, PySem.W.mg_of X G a1, (fun_mk (st := s_is_copy) l1 c1 k1).binds (ps := ["kind"]) fun _ _ _ _ _ _ us hl => match us, hl with | [_], _ => rfl⟩,
    P_is_copy := P1,
    hP_is_copy := by simp,
    kind_after := ⟨f2, _, cd2, ⟨⟨oc2, od2, kV2, dc2, pm2, an2, ct2, sl2, rfl, l2, c2⟩, k2⟩, PySem.W.mg_of X G a2, (fun_mk (st := s_kind_after) l2 c2 k2).binds (ps := ["records", "kind", "step"]) fun _ _ _ _ _ _ us hl => match us, hl with | [_, _, _], _ => rfl⟩,
    is_item := ⟨f3, _, cd3, ⟨⟨oc3, od3, kV3, dc3, pm3, an3, ct3, sl3, rfl, l3, c3⟩, k3⟩, PySem.W.mg_of X G a3, (fun_mk (st := s_is_item) l3 c3 k3).binds (ps := ["items", "step"]) fun _ _ _ _ _ _ us hl => match us, hl with | [_, _], _ => rfl⟩,
    fields_of := ⟨f4, _, cd4, ⟨⟨oc4, od4, kV4, dc4, pm4, an4, ct4, sl4, rfl, l4, c4⟩, k4⟩, PySem.W.mg_of X G a4, (fun_mk (st := s_fields_of) l4 c4 k4).binds (ps := ["records", "name"]) fun _ _ _ _ _ _ us hl => match us, hl with | [_, _], _ => rfl⟩,
    kind_at := ⟨f5, _, cd5, ⟨⟨oc5, od5, kV5, dc5, pm5, an5, ct5, sl5, rfl, l5, c5⟩, k5⟩, PySem.W.mg_of X G a5, ⟨fun s us ws _ hl => by
      obtain ⟨u, v1, v2, rfl, rfl⟩ := g12_len hl
      exact .of_eq rfl, fun h g => g12_rel h g⟩⟩,
    kinds_along := ⟨f6, _, cd6, ⟨⟨oc6, od6, kV6, dc6, pm6, an6, ct6, sl6, rfl, l6, c6⟩, k6⟩, PySem.W.mg_of X G a6, (fun_mk (st := s_kinds_along) l6 c6 k6).binds (ps := ["place", "records", "kinds"]) fun _ _ _ _ _ _ us hl => match us, hl with | [_, _, _], _ => rfl⟩,
    function_named := ⟨f7, _, cd7, ⟨⟨oc7, od7, kV7, dc7, pm7, an7, ct7, sl7, rfl, l7, c7⟩, k7⟩, PySem.W.mg_of X G a7, (fun_mk (st := s_function_named) l7 c7 k7).binds (ps := ["program", "name"]) fun _ _ _ _ _ _ us hl => match us, hl with | [_, _], _ => rfl⟩,
    parts_of := ⟨f8, _, cd8, ⟨⟨oc8, od8, kV8, dc8, pm8, an8, ct8, sl8, rfl, l8, c8⟩, k8⟩, PySem.W.mg_of X G a8, (fun_mk (st := s_parts_of) l8 c8 k8).binds (ps := ["expression"]) fun _ _ _ _ _ _ us hl => match us, hl with | [_], _ => rfl⟩,
    place_in := ⟨f9, _, cd9, ⟨⟨oc9, od9, kV9, dc9, pm9, an9, ct9, sl9, rfl, l9, c9⟩, k9⟩, PySem.W.mg_of X G a9, (fun_mk (st := s_place_in) l9 c9 k9).binds (ps := ["expression"]) fun _ _ _ _ _ _ us hl => match us, hl with | [_], _ => rfl⟩,
    kind_made := ⟨f10, _, cd10, ⟨⟨oc10, od10, kV10, dc10, pm10, an10, ct10, sl10, rfl, l10, c10⟩, k10⟩, PySem.W.mg_of X G a10, (fun_mk (st := s_kind_made) l10 c10 k10).binds (ps := ["program", "kinds", "expression", "inside"]) fun _ _ _ _ _ _ us hl => match us, hl with | [_, _, _, _], _ => rfl⟩,
    kind_fetched := ⟨f11, _, cd11, ⟨⟨oc11, od11, kV11, dc11, pm11, an11, ct11, sl11, rfl, l11, c11⟩, k11⟩, PySem.W.mg_of X G a11, (fun_mk (st := s_kind_fetched) l11 c11 k11).binds (ps := ["program", "kinds", "expression"]) fun _ _ _ _ _ _ us hl => match us, hl with | [_, _, _], _ => rfl⟩,
    Graph___init__ := ⟨f12, _, cd12, ⟨⟨oc12, od12, kV12, dc12, pm12, an12, ct12, sl12, rfl, l12, c12⟩, k12⟩, ⟨a12, i12, k12⟩, (fun_mk (st := s_Graph___init__) l12 c12 k12).binds (ps := ["self", "function"]) fun _ _ _ _ _ _ us hl => match us, hl with | [_, _], _ => rfl⟩,
    build_graph := ⟨f13, _, cd13, ⟨⟨oc13, od13, kV13, dc13, pm13, an13, ct13, sl13, rfl, l13, c13⟩, k13⟩, PySem.W.mg_of X G a13, (fun_mk (st := s_build_graph) l13 c13 k13).binds (ps := ["program", "name"]) fun _ _ _ _ _ _ us hl => match us, hl with | [_, _], _ => rfl⟩,
    Lowering___init__ := ⟨f14, _, cd14, ⟨⟨oc14, od14, kV14, dc14, pm14, an14, ct14, sl14, rfl, l14, c14⟩, k14⟩, ⟨a14, i14, k14⟩, (fun_mk (st := s_Lowering___init__) l14 c14 k14).binds (ps := ["self", "program", "function"]) fun _ _ _ _ _ _ us hl => match us, hl with | [_, _, _], _ => rfl⟩,
    Lowering_lower_function := ⟨f15, _, cd15, ⟨⟨oc15, od15, kV15, dc15, pm15, an15, ct15, sl15, rfl, l15, c15⟩, k15⟩, ⟨a15, i15, k15⟩, (fun_mk (st := s_Lowering_lower_function) l15 c15 k15).binds (ps := ["self", "block"]) fun _ _ _ _ _ _ us hl => match us, hl with | [_, _], _ => rfl⟩,
    Lowering_add_point := ⟨f16, _, cd16, ⟨⟨oc16, od16, kV16, dc16, pm16, an16, ct16, sl16, rfl, l16, c16⟩, k16⟩, ⟨a16, i16, k16⟩, (fun_mk (st := s_Lowering_add_point) l16 c16 k16).binds (ps := ["self", "instruction"]) fun _ _ _ _ _ _ us hl => match us, hl with | [_, _], _ => rfl⟩,
    Lowering_add_end := ⟨f17, _, cd17, ⟨⟨oc17, od17, kV17, dc17, pm17, an17, ct17, sl17, rfl, l17, c17⟩, k17⟩, ⟨a17, i17, k17⟩, (fun_mk (st := s_Lowering_add_end) l17 c17 k17).binds (ps := ["self", "instruction"]) fun _ _ _ _ _ _ us hl => match us, hl with | [_, _], _ => rfl⟩,
    Lowering_add_drops := ⟨f18, _, cd18, ⟨⟨oc18, od18, kV18, dc18, pm18, an18, ct18, sl18, rfl, l18, c18⟩, k18⟩, ⟨a18, i18, k18⟩, (fun_mk (st := s_Lowering_add_drops) l18 c18 k18).binds (ps := ["self", "names"]) fun _ _ _ _ _ _ us hl => match us, hl with | [_, _], _ => rfl⟩,
    Lowering_add_leave := ⟨f19, _, cd19, ⟨⟨oc19, od19, kV19, dc19, pm19, an19, ct19, sl19, rfl, l19, c19⟩, k19⟩, ⟨a19, i19, k19⟩, (fun_mk (st := s_Lowering_add_leave) l19 c19 k19).binds (ps := ["self", "temporary"]) fun _ _ _ _ _ _ us hl => match us, hl with | [_, _], _ => rfl⟩,
    Lowering_lower_block := ⟨f20, _, cd20, ⟨⟨oc20, od20, kV20, dc20, pm20, an20, ct20, sl20, rfl, l20, c20⟩, k20⟩, ⟨a20, i20, k20⟩, (fun_mk (st := s_Lowering_lower_block) l20 c20 k20).binds (ps := ["self", "block"]) fun _ _ _ _ _ _ us hl => match us, hl with | [_, _], _ => rfl⟩,
    Lowering_lower_statement := ⟨f21, _, cd21, ⟨⟨oc21, od21, kV21, dc21, pm21, an21, ct21, sl21, rfl, l21, c21⟩, k21⟩, ⟨a21, i21, k21⟩, (fun_mk (st := s_Lowering_lower_statement) l21 c21 k21).binds (ps := ["self", "statement"]) fun _ _ _ _ _ _ us hl => match us, hl with | [_, _], _ => rfl⟩,
    Lowering_lower_let := ⟨f22, _, cd22, ⟨⟨oc22, od22, kV22, dc22, pm22, an22, ct22, sl22, rfl, l22, c22⟩, k22⟩, ⟨a22, i22, k22⟩, (fun_mk (st := s_Lowering_lower_let) l22 c22 k22).binds (ps := ["self", "statement"]) fun _ _ _ _ _ _ us hl => match us, hl with | [_, _], _ => rfl⟩,
    Lowering_lower_if := ⟨f23, _, cd23, ⟨⟨oc23, od23, kV23, dc23, pm23, an23, ct23, sl23, rfl, l23, c23⟩, k23⟩, ⟨a23, i23, k23⟩, (fun_mk (st := s_Lowering_lower_if) l23 c23 k23).binds (ps := ["self", "statement"]) fun _ _ _ _ _ _ us hl => match us, hl with | [_, _], _ => rfl⟩,
    Lowering_lower_while := ⟨f24, _, cd24, ⟨⟨oc24, od24, kV24, dc24, pm24, an24, ct24, sl24, rfl, l24, c24⟩, k24⟩, ⟨a24, i24, k24⟩, (fun_mk (st := s_Lowering_lower_while) l24 c24 k24).binds (ps := ["self", "statement"]) fun _ _ _ _ _ _ us hl => match us, hl with | [_, _], _ => rfl⟩,
    Lowering_lower_expression := ⟨f25, _, cd25, ⟨⟨oc25, od25, kV25, dc25, pm25, an25, ct25, sl25, rfl, l25, c25⟩, k25⟩, ⟨a25, i25, k25⟩, (fun_mk (st := s_Lowering_lower_expression) l25 c25 k25).binds (ps := ["self", "expression"]) fun _ _ _ _ _ _ us hl => match us, hl with | [_, _], _ => rfl⟩,
    instruction_for := ⟨f26, _, cd26, ⟨⟨oc26, od26, kV26, dc26, pm26, an26, ct26, sl26, rfl, l26, c26⟩, k26⟩, PySem.W.mg_of X G a26, (fun_mk (st := s_instruction_for) l26 c26 k26).binds (ps := ["expression", "kind", "temporary", "parts"]) fun _ _ _ _ _ _ us hl => match us, hl with | [_, _, _, _], _ => rfl⟩,
    _law_tape := ⟨f27, _, cd27, ⟨⟨oc27, od27, kV27, dc27, pm27, an27, ct27, sl27, rfl, l27, c27⟩, k27⟩, PySem.W.mg_of X G a27, (fun_mk (st := s__law_tape) l27 c27 k27).binds (ps := ["script"]) fun _ _ _ _ _ _ us hl => match us, hl with | [_], _ => rfl⟩,
    _law_next := ⟨f28, _, cd28, ⟨⟨oc28, od28, kV28, dc28, pm28, an28, ct28, sl28, rfl, l28, c28⟩, k28⟩, PySem.W.mg_of X G a28, (fun_mk (st := s__law_next) l28 c28 k28).binds (ps := ["tape", "many"]) fun _ _ _ _ _ _ us hl => match us, hl with | [_, _], _ => rfl⟩,
    _law_made := ⟨f29, _, cd29, ⟨⟨oc29, od29, kV29, dc29, pm29, an29, ct29, sl29, rfl, l29, c29⟩, k29⟩, PySem.W.mg_of X G a29, (fun_mk (st := s__law_made) l29 c29 k29).binds (ps := ["state", "kind"]) fun _ _ _ _ _ _ us hl => match us, hl with | [_, _], _ => rfl⟩,
    _law_started := ⟨f30, _, cd30, ⟨⟨oc30, od30, kV30, dc30, pm30, an30, ct30, sl30, rfl, l30, c30⟩, k30⟩, PySem.W.mg_of X G a30, (fun_mk (st := s__law_started) l30 c30 k30).binds (ps := ["tape", "state", "mode"]) fun _ _ _ _ _ _ us hl => match us, hl with | [_, _, _], _ => rfl⟩,
    _law_statement := ⟨f31, _, cd31, ⟨⟨oc31, od31, kV31, dc31, pm31, an31, ct31, sl31, rfl, l31, c31⟩, k31⟩, PySem.W.mg_of X G a31, (fun_mk (st := s__law_statement) l31 c31 k31).binds (ps := ["tape", "state"]) fun _ _ _ _ _ _ us hl => match us, hl with | [_, _], _ => rfl⟩,
    law := ⟨fa, _, cd32, ⟨⟨oc32, od32, kV32, dc32, pm32, an32, ct32, sl32, rfl, l32, c32⟩, k32⟩, PySem.W.mg_of X G a32, (fun_mk (st := s_law) l32 c32 k32).binds (ps := ["script"]) fun _ _ _ _ _ _ us hl => match us, hl with | [_], _ => rfl⟩,
    mk_Graph := ⟨mi_Graph, a12, i12, kc_Graph⟩,
    mk_Lowering := ⟨mi_Lowering, a14, i14, kc_Lowering⟩ }
  have t1 := TT "is_copy" cd1 P1 r1 (tab_in a1 l1 rfl m1 v1)
  refine ⟨T.law.fd, [(cd1, P1)], spD K T.tb 1 (m_law C_Graph C_Lowering), (List.forall_mem_cons.mpr ⟨t1.2, (fun _ z => absurd z List.not_mem_nil)⟩), (List.forall_mem_cons.mpr ⟨n1, (fun _ z => absurd z List.not_mem_nil)⟩), (List.forall_mem_cons.mpr ⟨t1.1, (fun _ z => absurd z List.not_mem_nil)⟩), fun s v => .of_eq rfl, fun H a ns _ _ hH hS => ?_, fun base _ _ TB => ?_⟩
  · obtain ⟨S', e⟩ := law_ok C_Graph C_Lowering ns
    exact spD_law e (List.forall_mem_cons.mpr ⟨hH (cd1, P1) (by simp), (fun _ z => absurd z List.not_mem_nil)⟩) hS
  · exact ok_law T ⟨trivial, tabG_of (TB (cd1, P1) (by simp))⟩
end k05
open PySem PySem.W PyProof.Rows
set_option maxRecDepth 100000 in
set_option maxHeartbeats 0 in
theorem PySem.Challenge.cw_forklent_k05_graphs_of_threads_holds : PySem.Challenge.rw_forklent_k05_graphs_of_threads.Holds := by
  w_on; o_law; k_head; (case hw => w_witness2)
  k_fill
  refine Pd.walk_tabs (l := PySem.Challenge.rw_forklent_k05_graphs_of_threads) (n := 63) (k := 19) (x := "script") (CX := fun _ => L2.CX0) rfl (by decide) rfl ⟨rfl, by decide, by decide⟩ (fun w h Y => PySem.W.kIn_of Y) ?F fun _ _ _ _ _ z => z
  case F =>
    intro w mg fa h KX G hmg TT
    refine' k05.all_mk KX G hmg TT ?z_len ?z_int ?z_bool ?z_abs ?z_range ?z_tuple ?z_all ?z_list ?z_str ?z_isinstance ?z_reversed ?b_BORROWS ?w_BORROWS ?b_SINGLE_WORDS ?w_SINGLE_WORDS ?gc_Graph ?pg_Graph ?hd_Graph ?po_Graph ?sa_Graph ?mi_Graph ?kc_Graph ?na_Graph_kinds ?na_Graph_name ?na_Graph_parameters ?na_Graph_points ?na_Graph_result ?na_Graph_sources ?na_Graph_successors ?gc_Lowering ?pg_Lowering ?hd_Lowering ?po_Lowering ?sa_Lowering ?mi_Lowering ?kc_Lowering ?na_Lowering_graph ?na_Lowering_program ?na_Lowering_scope ?na_Lowering_temporaries ?a0 ?l0 ?c0 ?k0 ?a1 ?l1 ?c1 ?k1 ?m1 ?v1 ?n1 ?r1 ?a2 ?l2 ?c2 ?k2 ?a3 ?l3 ?c3 ?k3 ?a4 ?l4 ?c4 ?k4 ?a5 ?l5 ?c5 ?k5 ?a6 ?l6 ?c6 ?k6 ?a7 ?l7 ?c7 ?k7 ?a8 ?l8 ?c8 ?k8 ?a9 ?l9 ?c9 ?k9 ?a10 ?l10 ?c10 ?k10 ?a11 ?l11 ?c11 ?k11 ?a12 ?i12 ?l12 ?c12 ?k12 ?a13 ?l13 ?c13 ?k13 ?a14 ?i14 ?l14 ?c14 ?k14 ?a15 ?i15 ?l15 ?c15 ?k15 ?a16 ?i16 ?l16 ?c16 ?k16 ?a17 ?i17 ?l17 ?c17 ?k17 ?a18 ?i18 ?l18 ?c18 ?k18 ?a19 ?i19 ?l19 ?c19 ?k19 ?a20 ?i20 ?l20 ?c20 ?k20 ?a21 ?i21 ?l21 ?c21 ?k21 ?a22 ?i22 ?l22 ?c22 ?k22 ?a23 ?i23 ?l23 ?c23 ?k23 ?a24 ?i24 ?l24 ?c24 ?k24 ?a25 ?i25 ?l25 ?c25 ?k25 ?a26 ?l26 ?c26 ?k26 ?a27 ?l27 ?c27 ?k27 ?a28 ?l28 ?c28 ?k28 ?a29 ?l29 ?c29 ?k29 ?a30 ?l30 ?c30 ?k30 ?a31 ?l31 ?c31 ?k31 ?a32 ?l32 ?c32 ?k32
    (case z_len => k_is)
    (case z_int => k_is)
    (case z_bool => k_is)
    (case z_abs => k_is)
    (case z_range => k_is)
    (case z_tuple => k_is)
    (case z_all => k_is)
    (case z_list => k_is)
    (case z_str => k_is)
    (case z_isinstance => k_is)
    (case z_reversed => k_is)
    (case b_BORROWS => k_is)
    (case w_BORROWS => k_is)
    (case b_SINGLE_WORDS => k_is)
    (case w_SINGLE_WORDS => k_is)
    (case gc_Graph => k_is)
    (case pg_Graph => k_is)
    (case hd_Graph => k_is)
    (case po_Graph => k_is)
    (case sa_Graph => k_is)
    (case mi_Graph => k_is)
    (case kc_Graph => k_is)
    (case na_Graph_kinds => k_is)
    (case na_Graph_name => k_is)
    (case na_Graph_parameters => k_is)
    (case na_Graph_points => k_is)
    (case na_Graph_result => k_is)
    (case na_Graph_sources => k_is)
    (case na_Graph_successors => k_is)
    (case gc_Lowering => k_is)
    (case pg_Lowering => k_is)
    (case hd_Lowering => k_is)
    (case po_Lowering => k_is)
    (case sa_Lowering => k_is)
    (case mi_Lowering => k_is)
    (case kc_Lowering => k_is)
    (case na_Lowering_graph => k_is)
    (case na_Lowering_program => k_is)
    (case na_Lowering_scope => k_is)
    (case na_Lowering_temporaries => k_is)
    (case a0 => k_is)
    (case l0 => k_is)
    (case c0 => k_is)
    (case k0 => k_is)
    (case a1 => k_is)
    (case l1 => k_is)
    (case c1 => k_is)
    (case k1 => k_is)
    (case m1 => k_is)
    (case v1 => exact rfl)
    (case n1 => kernel_rfl)
    (case r1 => decide +kernel)
    (case a2 => k_is)
    (case l2 => k_is)
    (case c2 => k_is)
    (case k2 => k_is)
    (case a3 => k_is)
    (case l3 => k_is)
    (case c3 => k_is)
    (case k3 => k_is)
    (case a4 => k_is)
    (case l4 => k_is)
    (case c4 => k_is)
    (case k4 => k_is)
    (case a5 => k_is)
    (case l5 => k_is)
    (case c5 => k_is)
    (case k5 => k_is)
    (case a6 => k_is)
    (case l6 => k_is)
    (case c6 => k_is)
    (case k6 => k_is)
    (case a7 => k_is)
    (case l7 => k_is)
    (case c7 => k_is)
    (case k7 => k_is)
    (case a8 => k_is)
    (case l8 => k_is)
    (case c8 => k_is)
    (case k8 => k_is)
    (case a9 => k_is)
    (case l9 => k_is)
    (case c9 => k_is)
    (case k9 => k_is)
    (case a10 => k_is)
    (case l10 => k_is)
    (case c10 => k_is)
    (case k10 => k_is)
    (case a11 => k_is)
    (case l11 => k_is)
    (case c11 => k_is)
    (case k11 => k_is)
    (case a12 => k_is)
    (case i12 => k_is)
    (case l12 => k_is)
    (case c12 => k_is)
    (case k12 => k_is)
    (case a13 => k_is)
    (case l13 => k_is)
    (case c13 => k_is)
    (case k13 => k_is)
    (case a14 => k_is)
    (case i14 => k_is)
    (case l14 => k_is)
    (case c14 => k_is)
    (case k14 => k_is)
    (case a15 => k_is)
    (case i15 => k_is)
    (case l15 => k_is)
    (case c15 => k_is)
    (case k15 => k_is)
    (case a16 => k_is)
    (case i16 => k_is)
    (case l16 => k_is)
    (case c16 => k_is)
    (case k16 => k_is)
    (case a17 => k_is)
    (case i17 => k_is)
    (case l17 => k_is)
    (case c17 => k_is)
    (case k17 => k_is)
    (case a18 => k_is)
    (case i18 => k_is)
    (case l18 => k_is)
    (case c18 => k_is)
    (case k18 => k_is)
    (case a19 => k_is)
    (case i19 => k_is)
    (case l19 => k_is)
    (case c19 => k_is)
    (case k19 => k_is)
    (case a20 => k_is)
    (case i20 => k_is)
    (case l20 => k_is)
    (case c20 => k_is)
    (case k20 => k_is)
    (case a21 => k_is)
    (case i21 => k_is)
    (case l21 => k_is)
    (case c21 => k_is)
    (case k21 => k_is)
    (case a22 => k_is)
    (case i22 => k_is)
    (case l22 => k_is)
    (case c22 => k_is)
    (case k22 => k_is)
    (case a23 => k_is)
    (case i23 => k_is)
    (case l23 => k_is)
    (case c23 => k_is)
    (case k23 => k_is)
    (case a24 => k_is)
    (case i24 => k_is)
    (case l24 => k_is)
    (case c24 => k_is)
    (case k24 => k_is)
    (case a25 => k_is)
    (case i25 => k_is)
    (case l25 => k_is)
    (case c25 => k_is)
    (case k25 => k_is)
    (case a26 => k_is)
    (case l26 => k_is)
    (case c26 => k_is)
    (case k26 => k_is)
    (case a27 => k_is)
    (case l27 => k_is)
    (case c27 => k_is)
    (case k27 => k_is)
    (case a28 => k_is)
    (case l28 => k_is)
    (case c28 => k_is)
    (case k28 => k_is)
    (case a29 => k_is)
    (case l29 => k_is)
    (case c29 => k_is)
    (case k29 => k_is)
    (case a30 => k_is)
    (case l30 => k_is)
    (case c30 => k_is)
    (case k30 => k_is)
    (case a31 => k_is)
    (case l31 => k_is)
    (case c31 => k_is)
    (case k31 => k_is)
    (case a32 => k_is)
    (case l32 => k_is)
    (case c32 => k_is)
    (case k32 => k_is)
