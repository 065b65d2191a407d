import PyProof.Rows.All
import Wide.All
import OpenK.AllK
import Wide.FinOn
import HandS.ForExc
import HandS.Comp
import HandS.AnyAll
import HandS.GenOver
import HandS.GenList
import HandS.Iter
import HandS.Text
import HandS.Codes
import HandS.IsInst
import HandS.ExcIs
import HandS.FStr
import HandS.RaiseMore
import HandS.Wide
import HandS.TupAny
import KE.GoesMore
import KE.GoesEnum
import HandS.Style
import KE.DataMinMax
import HandS.SortKw
import PySem.Challenge.RW_forklent_k01_kinds
import HandS.EndOwn
import KE.RegKIsAll
set_option Elab.async false
set_option linter.all false
set_option maxRecDepth 100000
set_option maxHeartbeats 8000000
namespace Gx
open PySem PySem.Spec PyProof.Rows L2 GxR GenW
/-! ### all(..) of a generator expression whose element is any expression -/
section
variable {X : Cx} {pins : List (Addr × Obj)} {σ : L2.St} {H : Hp} {s : Shared}
/-- the generators and the tokens change, objects come -/
theorem inv_gens {h' : Heap} {G : Array GenState} {t : Nat} (I : Inv X pins σ H s) (k : ∀ b o, s.heap.get? b = some o → h'.get? b = some o) (hG : AllBare G) :
    Inv X pins σ H { s with heap := h', gens := G, toks := t } := by
  refine I.step (g' := G) (d' := s.drawn) (ch := []) (fun b hb => absurd hb (by simp)) (fun b o _ _ _ e n => k b o e) (fun b o _ _ _ e n => ⟨o.slots, k b o e⟩)
    (fun b o _ e n => n) (fun b o _ e => ⟨o, k b o e⟩) (fun b xs e => e) (fun b o u e => e) (fun b qs e => ⟨#[], by rw [e]; simp⟩) (fun m hn => ?_) (I.hok.kept k) hG
  obtain ⟨ob, es, ep, ho, r⟩ := hn
  exact ⟨ob, es, ep, k _ ob ho, r⟩
end
/-- the generator's context -/
abbrev gcx (X : Cx) (s : Shared) (H : Hp) (genv : Env) (fp : List Addr) (A' : Around) (pn : List (Addr × Obj)) : Cx :=
  { X with A := A', s_0 := s, H_0 := H, env := genv, outer := X.stack, stack := genv :: X.stack, ex := fp, fn := fun _ => false, pn := pn, xe := fun _ _ => False }
section
variable {X : Cx} {pins : List (Addr × Obj)} {σ : L2.St} {H : Hp} {s : Shared}
theorem gen_start {scope : Scope} {own : List (Str × Nat)} {fp : List Addr} {A' : Around} {code : Value} {h' : Heap} {gobj : Obj} {it : Value} {G : Array GenState} {t : Nat}
    (I : Inv X pins σ H s) (ok : BlkOk X.N X.env.scope scope own) (hN : X.N.Nodup) (nocell : ∀ y ∈ scope.names, y.2 ≠ .cell) (hfp : ∀ b ∈ fp, FpOk X pins H b ∧ b < s.heap.objs.size)
    (hA : A'.handled = none) (hfr : A'.frames = some (genEnv scope (cloFrom X.env.cells scope.names []) s.heap.objs.size code builtinsNs X.env :: X.stack))
    (hns : h'.Ns s.heap.objs.size (fun y => if y = (".0" : Str) then some it else none)) (hsb : Heap.SameBut s.heap.objs.size (s.heap.push { cls := .type "frame", data := .dict #[] }) h') (hgd : ∀ v, gobj.data ≠ .cell v) (hgf : gobj.isFreed = false) (hG : AllBare G)
    (hdot : ∀ (i : Nat), X.N[i]? ≠ some (".0" : Str)) :
    Inv (gcx X s H (genEnv scope (cloFrom X.env.cells scope.names []) s.heap.objs.size code builtinsNs X.env) fp A' [(h'.objs.size, gobj)]) [] (wipe σ (own.map (·.2))) H { s with heap := h'.push gobj, gens := G, toks := t } := by
  have hfree : ∀ y ∈ scope.names, y.2 = .free → ∃ c, X.env.cells.lookup y.1 = some c := fun y hy e => by
    rcases ok.free y hy e with k | k
    · exact I.ok.has _ (.inl k)
    · exact I.ok.has _ (.inr k)
  generalize hcenv : genEnv scope (cloFrom X.env.cells scope.names []) s.heap.objs.size code builtinsNs X.env = cenv at hfr ⊢
  have sz' : h'.objs.size = s.heap.objs.size + 1 := by rw [hsb.1, Heap.size_push]
  have kp' : ∀ b o, s.heap.get? b = some o → h'.get? b = some o := fun b o e => hsb.extBut b o (Nat.ne_of_lt (Heap.lt_size e)) (Heap.get?_push_of_some _ e)
  have kp : ∀ b o, s.heap.get? b = some o → (h'.push gobj).get? b = some o := fun b o e => Heap.get?_push_of_some _ (kp' b o e)
  have hL : cenv.locals = s.heap.objs.size := by rw [← hcenv]; rfl
  have hcl : cenv.cells = cloFrom X.env.cells scope.names [] := by rw [← hcenv]; rfl
  have hsc : cenv.scope = scope := by rw [← hcenv]; rfl
  have cm : ∀ {y c}, (y, c) ∈ cloFrom X.env.cells scope.names [] → X.env.cells.lookup y = some c ∧ c < s.heap.objs.size := fun {y c} hm => by
    rcases cloFrom_mem hm with hm | ⟨h1, rfl⟩
    · cases hm
    · obtain ⟨c, hc⟩ := hfree _ h1 rfl
      rw [hc]
      obtain ⟨w, z⟩ := I.cell _ _ hc
      exact ⟨rfl, z.lt⟩
  have mem : ∀ {y c}, cenv.cells.lookup y = some c → X.env.cells.lookup y = some c ∧ c < s.heap.objs.size := fun {y c} e => by
    rw [hcl] at e
    exact cm (PySem.mem_of_lookup e)
  have look : ∀ {y}, scope.names.lookup y = some .free → ∃ c, cenv.cells.lookup y = some c ∧ X.env.cells.lookup y = some c := fun {y} hl => by
    have hy : (y, NameKind.free) ∈ scope.names := PySem.mem_of_lookup hl
    obtain ⟨c', e'⟩ := mem_lookup (cloFrom_has (cells := X.env.cells) (acc := []) hy)
    rw [← hcl] at e'
    exact ⟨c', e', (mem e').1⟩
  have nocell' : ∀ y, scope.names.lookup y ≠ some .cell := fun y e => nocell _ (PySem.mem_of_lookup e) rfl
  have okB : (gcx X s H cenv fp A' [(h'.objs.size, gobj)]).Ok := by
    refine ⟨I.ok.mod, by show cenv.scope.kind = _; rw [hsc]; exact ok.kind, by show cenv.globals = _; rw [← hcenv]; exact I.ok.glob, by show cenv.builtins = _; rw [← hcenv]; rfl, by show s.heap.objs.size ≤ cenv.locals; rw [hL]; exact Nat.le_refl _,
      fun y z c e1 e2 => ?_, fun y hy => ?_, fun y c z e => ?_, fun _ => hA, hfr, .inr ⟨rfl, by show cenv.frame = some cenv.locals; rw [← hcenv]; rfl⟩, fun b hb => ⟨?_, fun y c e z => ?_⟩, I.bs, Nat.le_trans I.ok.bsz I.sz, fun b o e hb => ?_, fun b hb z => ?_, I.stack, I.stkFree⟩
    · exact I.ok.inj y z c (mem e1).1 (mem e2).1
    · show ∃ c, cenv.cells.lookup y = some c
      have hy : cenv.scope.names.lookup y = some .cell ∨ cenv.scope.names.lookup y = some .free := hy
      rw [hsc] at hy
      rcases hy with hy | hy
      · exact absurd hy (nocell' y)
      · obtain ⟨c, h1, _⟩ := look hy
        exact ⟨c, h1⟩
    · exact absurd (show false = true from z) Bool.false_ne_true
    · show b ≠ cenv.locals
      rw [hL]; exact Nat.ne_of_lt (hfp b hb).2
    · exact (hfp b hb).1.2.2.2.2.1 y c (mem e).1 z
    · rcases (hfp b hb).1.2.2.2.1 with z | z
      · exact I.ok.noex b o e z
      · exact absurd (Nat.lt_of_lt_of_le (Heap.lt_size e) (Nat.le_trans I.ok.bsz z)) (Nat.lt_irrefl _)
    · rcases List.mem_cons.mp (I.stkSub b z) with z | z
      · exact (hfp b hb).1.2.1 z
      · exact (hfp b hb).1.2.2.1 z
  have freeL : H cenv.locals = none := by rw [hL]; exact I.hok.fresh (Nat.le_refl _)
  refine ⟨okB, rfl, hG, Un.kept kp, ⟨fun y => if y = (".0" : Str) then some it else none, ?_, fun i y av e1 e2 e3 => ?_⟩, fun y c e => ?_, freeL, fun y c e => I.freeC y c (mem e).1, fun p hp => ?_, I.hok.kept kp, by rw [wipe_length]; exact I.len⟩
  · show Heap.Ns _ cenv.locals _
    rw [hL]
    exact hns.push _
  · obtain ⟨e2, hne⟩ := wipe_some e2
    have e3 : Vis cenv.scope y := e3
    rw [hsc] at e3
    have e1' : X.N[i]? = some y := e1
    have hfr : scope.names.lookup y = some .free := by
      have no : ∀ k', scope.names.lookup y = some k' → k' ≠ .local := fun k' e hh => by
        subst hh
        rcases ok.own _ (PySem.mem_of_lookup e) (.inl rfl) with e' | e'
        · obtain ⟨p, hp, hpy⟩ := List.mem_map.mp e'
          have e3 := ok.ix p hp
          have : p.1 = y := hpy
          rw [this] at e3
          exact hne (List.mem_map.mpr ⟨p, hp, nodup_ix hN e3 e1'⟩)
        · exact e' (List.mem_of_getElem? e1')
      rcases e3 with e3 | e3 | e3
      · exact absurd rfl (no _ e3)
      · exact absurd e3 (nocell' y)
      · exact e3
    obtain ⟨m, hn, hl⟩ := I.loc
    have hvis : Vis X.env.scope y := (ok.free _ (PySem.mem_of_lookup hfr) rfl).elim (fun k => .inr (.inl k)) (fun k => .inr (.inr k))
    obtain ⟨w, r, q⟩ := hl i y av e1 e2 hvis
    refine ⟨w, r, .inr ⟨.inr (by show cenv.scope.names.lookup y = _; rw [hsc]; exact hfr), ?_⟩⟩
    obtain ⟨c, h1, h2⟩ := look hfr
    rcases q with ⟨k, _⟩ | ⟨_, c', e', z⟩
    · have k : X.env.scope.names.lookup y = some .local := k
      rcases ok.free _ (PySem.mem_of_lookup hfr) rfl with k' | k' <;> rw [show X.env.scope.names.lookup y = _ from k'] at k <;> cases k
    · rw [h2] at e'; cases e'
      exact ⟨c, h1, z.keeps kp⟩
  · obtain ⟨w, z⟩ := I.cell y c (mem e).1
    exact ⟨w, z.keeps kp⟩
  · have hp : p = (h'.objs.size, gobj) := by simpa using hp
    subst hp
    refine ⟨Heap.get?_push_size _ hgf, I.hok.fresh (by rw [sz']; exact Nat.le_succ _), ?_, fun z => ?_, hgd⟩
    · show h'.objs.size ≠ cenv.locals
      rw [hL, sz']; exact Nat.succ_ne_self _
    · have z : h'.objs.size ∈ frs X.stack := z
      have hlt : ∀ b ∈ frs X.stack, b < s.heap.objs.size := fun b hb => by
        obtain ⟨_, o, ho, _⟩ := I.stack.mem hb
        exact Heap.lt_size ho
      have := hlt _ z
      rw [sz'] at this
      exact absurd (Nat.lt_of_succ_lt this) (Nat.lt_irrefl _)
end

theorem all_loop {prog : Program} {w : World} {A : Around} {R : Result → Shared → Prop} {a : Addr} {n : Nat} (P : Nat → Shared → Prop)
    (hi : ∀ i s, P i s → wpAny (model prog w) A.in1 (pyNext (.ref a)) (fun r s' => (i = n ∧ r = none ∧ R (.ok (.ret (.bool true))) s') ∨ (∃ b, r = some (.bool b) ∧ if b = true then i < n ∧ P (i + 1) s' else R (.ok (.ret (.bool false))) s')) (fun _ _ => False) s) :
    ∀ (k i : Nat) (s : Shared), n - i = k → P i s → codeAny (model prog w) A (.builtin "all.loop" ⟨[.ref a], []⟩) R s := by
  intro k
  induction k with
  | zero =>
    intro i s hk hp
    refine codeAny_builtin F.entry_all_loop ?_
    rw [Around.under_plainId F.plain_all_loop _]
    show wpAny _ A.in1 (pyNext (.ref a) >>= _) _ _ s
    refine wpAny_bind (wpAny_mono (hi i s hp) (fun r s' h => ?_) fun _ _ z => z.elim)
    rcases h with ⟨_, rfl, hR⟩ | ⟨b, rfl, hb⟩
    · exact wpAny_bind (wpAny_rule (wpAny_pure hR))
    · refine wpAny_bind (wpAny_holding (wpAny_truthy_bool ?_))
      refine wpAny_bind (wpAny_letGo ?_)
      cases b with
      | true =>
        have := hb.1
        omega
      | false =>
        simp only [Bool.false_eq_true, if_false] at hb ⊢
        exact wpAny_bind (wpAny_rule (wpAny_pure hb))
  | succ k ih =>
    intro i s hk hp
    refine codeAny_builtin F.entry_all_loop ?_
    rw [Around.under_plainId F.plain_all_loop _]
    show wpAny _ A.in1 (pyNext (.ref a) >>= _) _ _ s
    refine wpAny_bind (wpAny_mono (hi i s hp) (fun r s' h => ?_) fun _ _ z => z.elim)
    rcases h with ⟨_, rfl, hR⟩ | ⟨b, rfl, hb⟩
    · exact wpAny_bind (wpAny_rule (wpAny_pure hR))
    · refine wpAny_bind (wpAny_holding (wpAny_truthy_bool ?_))
      refine wpAny_bind (wpAny_letGo ?_)
      cases b with
      | true =>
        simp only [if_true] at hb ⊢
        exact wpAny_pure ⟨plainId_quiet F.plain_all_loop _, ih (i + 1) _ (by have := hb.1; omega) hb.2⟩
      | false =>
        simp only [Bool.false_eq_true, if_false] at hb ⊢
        exact wpAny_bind (wpAny_rule (wpAny_pure hb))
/-- what is wanted at an item, at the end -/
def TurnsAll (J : It) (g : TG) (te : TE) (σ : L2.St) (vs : List Nat) (n : Nat) (W : Nat → Hp → Prop) (Q : VK) : Prop :=
  ∀ i H, W i H → (i = n ∧ J.stop i H ∧ Q (.bl true) H) ∨ (i < n ∧ J.go i H ∧ ∀ x H', J.yld i H x H' → g x (wipe σ vs) H' fun σ2 H3 => wipe σ2 vs = wipe σ vs ∧ te σ2 H3 fun y H4 => ∃ b, y = .bl b ∧ if b = true then W (i + 1) H4 else Q (.bl false) H4)
def YAll (X' : Cx) (gi : Nat) (Q : VK) : Protocol := fun _ _ v s kap =>
  ∃ b, v = .bool b ∧ gi < s.gens.size ∧ (∃ pins' σ' H', Inv X' pins' σ' H' s ∧ (b = false → Q (.bl false) H')) ∧ (b = true → ∀ G', AllBare G' → gi < G'.size → kap (.send .none) { s with gens := G' })
def RAll (X' : Cx) (gi : Nat) (Q : VK) : Nat → Shared → Shared → Prop := fun m _ s₁ => m = 0 ∧ gi < s₁.gens.size ∧ ∃ pins' σ' H', Inv X' pins' σ' H' s₁ ∧ Q (.bl true) H'
theorem seg_gsz {α : Type} {M : Model} {A : Around} {R : GenEnd} {Y : Protocol} {n gi : Nat} {s₀ : Shared} {c : Code} {fs : List Frame} {s : Shared} {β : Type} {m : Sem α} {K : α → Sem β} {K' : β → Sem PySem.Fin} {H' : Value → Sem PySem.Fin} {gd lv} (hg : gi < s.gens.size)
    (h : wpAny M (A.over c fs) m (fun a s' => gi < s'.gens.size → Seg M A R Y n s₀ c ((K a).wrap K' H' gd lv) fs s') (fun _ _ => False) s) : Seg M A R Y n s₀ c ((m >>= K).wrap K' H' gd lv) fs s :=
  seg_bind_wrap (wpAny_gsz (n := gi + 1) hg (wpAny_mono h (fun _ _ z hg => z hg) fun _ _ z => z.elim))
section
variable {X : Cx} {s1 : Shared} {H1 : Hp} {genv : Env} {fp : List Addr} {A₁ : Around} {pn : List (Addr × Obj)} {elt tg iter : Expr} {scope : Scope} {pos : Pos} {it : Addr}
theorem seg_all {J : It} {g : TG} {te : TE} {σ : L2.St} {vs : List Nat} {n gi : Nat} {W : Nat → Hp → Prop} {Q : VK} {tn : Nat → Heap → Prop} {X' : Cx}
    (hX : X' = gcx X s1 H1 genv fp (A₁.over (.compLoop (.GeneratorExp elt [⟨tg, iter, [], 0⟩] scope pos) 0 (.ref it) .none genv) []) pn) (hc : X.calm = true) (T : Turn X.prog X.w X.K tg J fp it tn) (pg : PG X' tg g) (pe : PE X' elt te) (hco : genv.scope.isCoroutine = false)
    (turn : TurnsAll J g te σ vs n W Q) (hpf : ∀ b ∈ fp, ∀ p ∈ pn, p.1 ≠ b) :
    ∀ (k i : Nat) (s₀ s : Shared) (H : Hp), n - i = k → Inv X' [] (wipe σ vs) H s → tn i s.heap → (∀ b ∈ fp, H b = none) → W i H → gi < s.gens.size →
      Seg (model X.prog X.w) A₁ (fun m s₀ r s₁ => r = .ok .next ∧ RAll X' gi Q m s₀ s₁) (YAll X' gi Q) k s₀ (.compLoop (.GeneratorExp elt [⟨tg, iter, [], 0⟩] scope pos) 0 (.ref it) .none genv)
        ((model X.prog X.w).den (.compLoop (.GeneratorExp elt [⟨tg, iter, [], 0⟩] scope pos) 0 (.ref it) .none genv)) [] s := by
  have hA : X'.A = A₁.over (.compLoop (.GeneratorExp elt [⟨tg, iter, [], 0⟩] scope pos) 0 (.ref it) .none genv) [] := by rw [hX]
  have hP : X'.prog = X.prog := by rw [hX]
  have hw : X'.w = X.w := by rw [hX]
  have hK : X'.K = X.K := by rw [hX]
  have hcal : X'.calm = true := by rw [hX]; exact hc
  have hex : X'.ex = fp := by rw [hX]
  have hpn : X'.pn = pn := by rw [hX]
  have henv : X'.env = genv := by rw [hX]
  have hxe : X'.xe = fun _ _ => False := by rw [hX]
  have stat : ∀ {pins' : List (Addr × Obj)} {σ' : L2.St} {H' : Hp} {s' : Shared}, Inv X' pins' σ' H' s' → pins' = [] → (∀ b ∈ fp, H' b = none) → ∀ b ∈ fp, FpOk X' [] H' b := fun {pins' σ' H' s'} I' hp' hn b hb => by
    have hb' : b ∈ X'.ex := by rw [hex]; exact hb
    refine ⟨hn b hb, (I'.ok.exf b hb').1, I'.ok.exfs b hb', .inl hb', fun x c e => (I'.ok.exf b hb').2 x c e, fun p hp => ?_⟩
    rw [List.append_nil, hpn] at hp
    exact hpf b hb p hp
  intro k
  induction k with
  | zero =>
    intro i s₀ s H hk I st nf w0 hg
    show Seg _ A₁ _ _ _ s₀ _ ((compTurn (.GeneratorExp elt [⟨tg, iter, [], 0⟩] scope pos) 0 (.ref it) .none genv).onRaise (leaving genv)) [] s
    rw [compTurn_gen, Sem.onRaise_eq_wrap]
    refine seg_gsz hg (wpAny_standAt fun hg => ?_)
    rcases turn i H w0 with ⟨_, stop, q⟩ | ⟨hlt, _⟩
    · have td := T.done X' hP hw hK hcal i [] s _ H (fun _ _ => False) I (stat I rfl nf) st stop
      rw [hA] at td
      refine seg_gsz hg (wpAny_mono td (fun r s' ⟨hr, I'⟩ hg => ?_) fun _ _ z => z)
      subst hr
      exact seg_end (.ok .next) ⟨rfl, rfl, hg, _, _, _, I', q⟩
    · omega
  | succ k ih =>
    intro i s₀ s H hk I st nf w0 hg
    show Seg _ A₁ _ _ _ s₀ _ ((compTurn (.GeneratorExp elt [⟨tg, iter, [], 0⟩] scope pos) 0 (.ref it) .none genv).onRaise (leaving genv)) [] s
    rw [compTurn_gen, Sem.onRaise_eq_wrap]
    refine seg_gsz hg (wpAny_standAt fun hg => ?_)
    rcases turn i H w0 with ⟨e, _⟩ | ⟨hlt, go, step⟩
    · omega
    have ti := T.item X' hP hw hK hcal i [] s _ H (fun _ _ => False) I (stat I rfl nf) st go
    rw [hA] at ti
    refine seg_gsz hg (wpAny_mono ti (fun r s2 ⟨u, hr, h2⟩ hg => ?_) fun _ _ z => z)
    subst hr
    refine seg_gsz hg (wpAny_mono h2 (fun _ s3 ⟨x, H3, I3, r3, y3, st3, n3⟩ hg => ?_) fun _ _ z => z)
    have I3' := I3.pinned (stat I3 rfl n3) (T.obj _ _ st3)
    have pg' := pg.run _ s3 _ H3 x u _ I3' r3 (step x H3 y3)
    rw [hA, hP, hw, henv, hxe] at pg'
    refine seg_gsz hg (wpAny_mono pg' (fun _ s4 ⟨σ4, H4, I4, hw4, q4⟩ hg => ?_) fun _ _ z => z)
    refine seg_gsz hg ?_
    simp only [List.forIn_nil]
    refine wpAny_pure fun hg => ?_
    simp only [if_true]
    have hy : ∀ v, yieldOut genv v = yieldValue v := fun v => by simp only [yieldOut, hco, Bool.false_eq_true, if_false]
    simp only [hy]
    rw [Sem.bind_eq_wrap', Sem.bind_eq_wrap', Sem.wrap_wrap, Sem.wrap_wrap]
    have pe' := pe.run _ s4 σ4 H4 _ I4 q4
    rw [hA, hP, hw, henv, hxe] at pe'
    refine seg_wrap (wpAny_gsz (n := gi + 1) hg (wpAny_mono pe' (fun y s5 ⟨v5, H5, I5, r5, b, e5, q5⟩ hg => ?_) fun _ _ z => z.elim))
    subst e5
    obtain rfl : y = .bool b := r5
    refine seg_at (seg_yield rfl rfl rfl ⟨b, rfl, hg, ⟨_, _, _, I5, fun z => by subst z; exact q5⟩, fun z G' hG hg' => ?_⟩)
    subst z
    have q5' : W (i + 1) H5 := q5
    have pin' : ∀ b ∈ fp, ∀ o, s3.heap.get? b = some o → s5.heap.get? b = some o ∧ H5 b = none := fun b hb o e =>
      let z := I5.pin (b, o) (List.mem_append_right _ (List.mem_append_right _ (mem_pinsAt hb e)))
      ⟨z.1, z.2.1⟩
    have hl : (wipe σ vs).length = σ4.length := by rw [← hw4, wipe_length]
    have I6 : Inv X' [] (wipe σ vs) H5 s5 := (I5.unpinned (pins := [])).weak hl (fun j v e => by
      rw [← hw4] at e
      exact (wipe_some e).1)
    exact seg_again rfl (ih (i + 1) _ _ H5 (by omega) (inv_gens (t := s5.toks) I6 (fun _ _ e => e) hG) (T.keep _ _ _ st3 fun b hb o e => (pin' b hb o e).1) (fun b hb => by
      obtain ⟨o, e, _⟩ := T.obj _ _ st3 b hb
      exact (pin' b hb o e).2) q5' hg')
end

section
variable {X : Cx} {A₁ : Around} {genv : Env} {elt tg iter : Expr} {ifs : List Expr} {scope : Scope} {pos : Pos} {it : Addr}
/-- the generator's around -/
abbrev gA (A : Around) (elt tg iter : Expr) (scope : Scope) (pos : Pos) (it : Addr) (genv : Env) : Around := A.in1.in1.over (.compLoop (.GeneratorExp elt [⟨tg, iter, [], 0⟩] scope pos) 0 (.ref it) .none genv) []
theorem gA_handled {A : Around} (h : A.handled = none) : (gA A elt tg iter scope pos it genv).handled = none := h
theorem gA_frames {A : Around} {st : List Env} (h : A.frames = some st) : (gA A elt tg iter scope pos it genv).frames = some (genv :: st) := by
  show pushEnvs [genv] (pushEnvs [] A.frames) = _
  rw [h]; rfl
theorem gA_room {A : Around} {k : Nat} (r : Room (k + 1) A) : Room k (gA A elt tg iter scope pos it genv) :=
  ⟨r.hd, by have := r.dp; show A.depth + 0 + 1 + 3 * k + 5 < _; omega, by have := r.un; show A.units + 1 + 1 + 0 + 3 + 16 * k + 200 < _; omega⟩
def tAllG (P : Addr) (wi : TI) (g : TG) (te : TE) (vs : List Nat) : TE := fun σ H Q => wi σ H fun J H1 => TabG H1 P ∧ ∀ H2, Tabbed P H1 H2 → ∃ (n : Nat) (W : Nat → Hp → Prop), W 0 H2 ∧ TurnsAll J g te σ vs n W Q
theorem pe_allG {c P : Addr} {own : List (Str × Nat)} {p cpos : Pos} {wi : TI} {g : TG} {te : TE} {k : Nat}
    (hr : Room (k + 1) X.A) (hc : X.calm = true) (hgl : Gl X "all") (hm : X.mg "all" = none) (hbo : bootBuiltins "all" = some (.builtin "all")) (TB : TabB X.base X.mg c P) (hcode : X.env.code = .ref c) (hN : X.N.Nodup)
    (hi : PI X tg iter wi) (ok : BlkOk X.N X.env.scope scope own) (hco : scope.isCoroutine = false) (nocell : ∀ y ∈ scope.names, y.2 ≠ .cell) (h0 : scope.names.lookup (".0" : Str) = some NameKind.local) (hdot : ∀ (i : Nat), X.N[i]? ≠ some (".0" : Str))
    (hg : ∀ (s : Shared) (H : Hp) (C : Addr) (cl : List (Str × Addr)) (code : Value) (bi : Addr) (fp : List Addr) (A' : Around) (pn : List (Addr × Obj)), PG (gcx X s H (genEnv scope cl C code bi X.env) fp A' pn) tg g)
    (he : ∀ (s : Shared) (H : Hp) (C : Addr) (cl : List (Str × Addr)) (code : Value) (bi : Addr) (fp : List Addr) (A' : Around) (pn : List (Addr × Obj)), Room k A' → PE (gcx X s H (genEnv scope cl C code bi X.env) fp A' pn) elt te)
    (hs : ∀ v, genFold iter X.env v = pure v := by intro _; rfl)
    (hes : starEach [.GeneratorExp elt [⟨tg, iter, [], 0⟩] scope pos] X.env = (false, eval (.GeneratorExp elt [⟨tg, iter, [], 0⟩] scope pos) X.env) :: starEach [] X.env := by rfl) :
    PE X (.Call (.Name "all" p) [.GeneratorExp elt [⟨tg, iter, [], 0⟩] scope pos] [] cpos) (tAllG P wi g te (own.map (·.2))) := by
  refine ⟨fun pins s σ H Q I h => ?_⟩
  have hfree : ∀ y ∈ scope.names, y.2 = .free → ∃ c, X.env.cells.lookup y.1 = some c := fun y hy e => by
    rcases ok.free y hy e with k | k
    · exact I.ok.has _ (.inl k)
    · exact I.ok.has _ (.inr k)
  refine wpAny_Call_Name_kw (ld_blt I hgl hm hbo ?_)
  refine PyProof.Rows.callWith_builtin1 ?_ hes (by rfl)
  rw [hes]
  show wpAny _ _ (spliced ((false, eval (.GeneratorExp elt [⟨tg, iter, [], 0⟩] scope pos) X.env) :: backTo cpos (starEach [] X.env))) _ _ s
  refine Calls.spliced_cons (wpAny_GeneratorExp_make hco (closure_ok hfree) nocell h0 ok.kind (by have := hr.dp; omega) ?_ hs)
  refine thn (hi.run pins s σ H _ I h) fun xv s1 h1 => thn h1 fun itv s2 h2 => ?_
  obtain ⟨it, fp, tn, J, H2, e, I2, T, st2, f2, ⟨ps, hP, ht⟩, q⟩ := h2
  subst e
  refine ⟨I2.nolimit, ?_⟩
  have hPs : s2.heap.get? P = some { cls := .none, data := .fields ps } := I2.hok P _ hP
  have cd : PySem.W.CodeHd s2.heap c P := TB.code.keeps fun b u e => I2.bk b u e
  have cont : ∀ (code : Value) (h3 : Heap) (tk : Nat) (ps' : Array Value), Heap.ExtBut P s2.heap h3 → s2.heap.objs.size ≤ h3.objs.size → h3.get? P = some { cls := .none, data := .fields ps' } → (∃ more, ps' = ps ++ more) → TriplesOk ps'.toList →
      wpAny (model X.prog X.w) X.A (builtinsFor X.env.globals X.env.builtins) (fun bi s₄ =>
        ∀ h', h'.Ns s₄.heap.objs.size (fun y => if y = ".0" then some (.ref it) else none) → Heap.SameBut s₄.heap.objs.size (s₄.heap.push { cls := .type "frame", data := .dict #[] }) h' →
          wpAny (model X.prog X.w) X.A (call (.builtin "all") [.ref h'.objs.size]) (EP X pins σ Q) X.xe { s₄ with
            gens := s₄.gens.push (.fresh (.compStart (.GeneratorExp elt [⟨tg, iter, [], 0⟩] scope pos) 0 (.ref it) .none (genEnv scope (cloFrom X.env.cells scope.names []) s₄.heap.objs.size code bi X.env))),
            toks := s₄.toks + 1 + 1 + 1,
            heap := h'.push { cls := .type "generator", data := .fields #[.int s₄.gens.size 0, .str "<genexpr>" (s₄.toks + 1), .str (X.env.qual ++ "<genexpr>") (s₄.toks + 1 + 1)] } }) X.xe { s2 with heap := h3, toks := tk } := by
    intro code h3 tk ps' hx hsz hP3 hmore ht3
    obtain ⟨bm, ob, e1, e2, e3, e4, e5, e6, e7, e8⟩ := TB.bm
    obtain ⟨more, em⟩ := hmore
    have keep3 : ∀ b u, b ≠ P → s2.heap.get? b = some u → h3.get? b = some u := fun b u hb e => hx b u hb e
    have nP : ∀ b, H2 b = none → b ≠ P := fun b e z => by rw [z, hP] at e; cases e
    have I3 : Inv X pins σ (upd H2 P (.tbl ps')) { s2 with heap := h3, toks := tk } := by
      have J := inv_tab (more := more) (h' := h3) (g' := s2.gens) (d' := s2.drawn) (t' := tk) I2 hP keep3 (by rw [← em]; exact hP3) I2.bare
      rw [← em] at J
      exact J
    have hTab : Tabbed P H2 (upd H2 P (.tbl ps')) := ⟨⟨ps', upd_same, ht3⟩, fun b hb => upd_ne hb⟩
    obtain ⟨n, W, w0, turn⟩ := q _ hTab
    generalize hH3 : upd H2 P (.tbl ps') = H3 at I3 hTab w0
    refine wpAny_builtinsFor (m := X.mg) (by rw [I3.ok.glob]; exact I3.ok.mod.glob.keeps I3.bk) e1 e2 (I3.bk _ _ e5) e6 e7 e8 ?_
    generalize hs3 : ({ s2 with heap := h3, toks := tk } : Shared) = s3 at I3 ⊢
    have h3e : s3.heap = h3 := by rw [← hs3]
    intro h' hns hsb
    have sz' : h'.objs.size = s3.heap.objs.size + 1 := by rw [hsb.1, Heap.size_push]
    have kp' : ∀ b o, s3.heap.get? b = some o → h'.get? b = some o := fun b o e => hsb.extBut b o (Nat.ne_of_lt (Heap.lt_size e)) (Heap.get?_push_of_some _ e)
    generalize hgo : ({ cls := .type "generator", data := .fields #[.int s3.gens.size 0, .str "<genexpr>" (s3.toks + 1), .str (X.env.qual ++ "<genexpr>") (s3.toks + 1 + 1)] } : Obj) = gobj
    have hgd : ∀ v, gobj.data ≠ .cell v := fun v z => by rw [← hgo] at z; cases z
    have hgf : gobj.isFreed = false := by rw [← hgo]; rfl
    generalize hge : genEnv scope (cloFrom X.env.cells scope.names []) s3.heap.objs.size code builtinsNs X.env = genv
    have f3 : ∀ b ∈ fp, FpOk X pins H3 b ∧ b < s3.heap.objs.size := fun b hb => by
      obtain ⟨o, e, _⟩ := T.obj _ _ st2 b hb
      have hbP := nP b (f2 b hb).1
      refine ⟨⟨?_, (f2 b hb).2⟩, ?_⟩
      · rw [hTab.2 b hbP]; exact (f2 b hb).1
      · rw [h3e]; exact Heap.lt_size (keep3 b o hbP e)
    have st3 : tn 0 s3.heap := T.keep _ _ _ st2 fun b hb o e => by rw [h3e]; exact keep3 b o (nP b (f2 b hb).1) e
    have hA' : (gA X.A elt tg iter scope pos it genv).handled = none := hr.hd
    have hF' : (gA X.A elt tg iter scope pos it genv).frames = some (genv :: X.stack) := gA_frames I3.ok.frames
    have start : ∀ (G : Array GenState) (t : Nat), AllBare G → Inv (gcx X s3 H3 genv fp (gA X.A elt tg iter scope pos it genv) [(h'.objs.size, gobj)]) [] (wipe σ (own.map (·.2))) H3 { s3 with heap := h'.push gobj, gens := G, toks := t } := fun G t hG => by
      subst hge
      exact gen_start I3 ok hN nocell f3 hA' hF' hns hsb hgd hgf hG hdot
    generalize hX' : gcx X s3 H3 genv fp (gA X.A elt tg iter scope pos it genv) [(h'.objs.size, gobj)] = X' at start
    have pg : PG X' tg g := by rw [← hX', ← hge]; exact hg _ _ _ _ _ _ _ _ _
    have pe : PE X' elt te := by rw [← hX', ← hge]; exact he _ _ _ _ _ _ _ _ _ (gA_room hr)
    have hco' : genv.scope.isCoroutine = false := by rw [← hge]; exact hco
    have hgen : ∀ {pins' : List (Addr × Obj)} {σ' : L2.St} {H' : Hp} {s' : Shared}, Inv X' pins' σ' H' s' → s'.heap.IsGen h'.objs.size s3.gens.size := fun {pins' σ' H' s'} I' => by
      have z := (I'.pin (h'.objs.size, gobj) (List.mem_append_left _ (by rw [← hX']; exact List.mem_singleton.mpr rfl))).1
      rw [← hgo] at z
      exact ⟨_, _, _, z, rfl, rfl, rfl⟩
    have back : ∀ {pins' : List (Addr × Obj)} {σ' : L2.St} {H' : Hp} {s' : Shared}, Inv X' pins' σ' H' s' → Inv X pins σ H' s' := fun {pins' σ' H' s'} I' => by
      rw [← hX'] at I'
      exact I3.call' (ch := fp) I'.os I'.base I'.hok I'.bare fun b hb => ⟨(f3 b hb).1.2.2.2.1, (f3 b hb).1.2.1, (f3 b hb).1.2.2.2.2.1, (f3 b hb).1.2.2.2.2.2⟩
    have loop := seg_all (X := X) (s1 := s3) (H1 := H3) (genv := genv) (fp := fp) (A₁ := X.A.in1.in1) (pn := [(h'.objs.size, gobj)]) (elt := elt) (tg := tg) (iter := iter) (scope := scope) (pos := pos) (it := it) (J := J) (g := g) (te := te) (σ := σ) (vs := own.map (·.2)) (n := n) (gi := s3.gens.size) (W := W) (Q := Q) (tn := tn) (X' := X')
      hX'.symm hc T pg pe hco' turn (fun b hb p hp => by
        have e : p = (h'.objs.size, gobj) := by simpa using hp
        subst e
        have := (f3 b hb).2
        show h'.objs.size ≠ b
        rw [sz']
        exact fun z => absurd (Nat.lt_of_lt_of_eq (Nat.lt_succ_of_lt this) z) (Nat.lt_irrefl _))
    refine call_function_tree F.kind_all F.plain_all F.entry_all (F.args_all1 _) ?_
    unfold Builtin.«all»
    refine wpAny_bind (m := oneArg "all" _) (wpAny_pure ?_)
    have bareP : ∀ x : GenState, x.bare = true → AllBare (s3.gens.push x) := fun x hx => I3.bare.push hx
    have I5 := start (s3.gens.push (.fresh (.compStart (.GeneratorExp elt [⟨tg, iter, [], 0⟩] scope pos) 0 (.ref it) .none genv))) (s3.toks + 1 + 1 + 1) (bareP _ rfl)
    refine wpAny_bind (wpAny_pyIter_gen (hgen I5) ?_)
    refine wpAny_pure ⟨plainId_quiet F.plain_all_loop _, ?_⟩
    refine all_loop (n := n) (fun i s' => i ≤ n ∧ s'.heap.IsGen h'.objs.size s3.gens.size ∧ s'.heap.NoLimit ∧ ∃ gs, s'.gens[s3.gens.size]? = some gs ∧
      gs.Goes (model X.prog X.w) X.A.in1.in1 (fun m s₀ r s₁ => r = .ok .next ∧ RAll X' s3.gens.size Q m s₀ s₁) (YAll X' s3.gens.size Q) (n - i) (.send .none) (s'.setGen s3.gens.size .running)) ?_ (n - 0) 0 _ rfl ?_
    · rintro i s' ⟨hin, ig, nl, gs, hgs, hgo⟩
      refine wpAny_pyNext_genexpQ hr.hd nl (by have := hr.dp; show X.A.depth < _; omega) ig hgs hgo (fun v s₁ gs' hb hv => ?_) (fun s₁ hp h'' hk => ?_)
      · obtain ⟨b, rfl, hgz, ⟨pins', σ', H', I', hf⟩, ht⟩ := hv
        refine .inr ⟨b, rfl, ?_⟩
        cases b with
        | true =>
          simp only [if_true]
          cases hn : n - i with
          | zero =>
            rw [hn] at ht
            exact (ht rfl s₁.gens I'.bare hgz).elim
          | succ m =>
            rw [hn] at ht
            refine ⟨by omega, by omega, (show s₁.heap.IsGen _ _ from hgen I'), (show s₁.heap.NoLimit from I'.nolimit), gs', setGen_at hgz, ?_⟩
            rw [show n - (i + 1) = m by omega]
            exact ht rfl _ (allBare_setGen (s := s₁.setGen s3.gens.size gs') (allBare_setGen I'.bare hb) rfl) (by show _ < ((s₁.gens.setIfInBounds _ _).setIfInBounds _ _).size; simpa using hgz)
        | false =>
          simp only [Bool.false_eq_true, if_false]
          exact ⟨.bl false, H', inv_gens (t := s₁.toks) (back I') (fun _ _ e => e) (allBare_setGen I'.bare hb), rfl, hf rfl⟩
      · obtain ⟨hz, hgz, pins', σ', H', I', hq⟩ := hp
        exact .inl ⟨by omega, rfl, .bl true, H', inv_gens (s := s₁) (t := s₁.toks) (back I') hk (allBare_setGen I'.bare rfl), rfl, hq⟩
    · refine ⟨Nat.zero_le _, hgen I5, I5.nolimit, _, Array.getElem?_push_size .., ?_⟩
      have I6 := start ((s3.gens.push (.fresh (.compStart (.GeneratorExp elt [⟨tg, iter, [], 0⟩] scope pos) 0 (.ref it) .none genv))).setIfInBounds s3.gens.size .running) (s3.toks + 1 + 1 + 1) (allBare_setGen (s := { s3 with gens := s3.gens.push (.fresh (.compStart (.GeneratorExp elt [⟨tg, iter, [], 0⟩] scope pos) 0 (.ref it) .none genv)) }) (bareP _ rfl) rfl)
      refine ⟨rfl, ?_⟩
      have hloop := fun s₀ => loop n 0 s₀ _ H3 (Nat.sub_zero n) I6 (T.keep _ _ _ st3 fun b hb o e => Heap.get?_push_of_some _ (kp' b o e)) (fun b hb => (f3 b hb).1.1) w0 (by show s3.gens.size < ((s3.gens.push _).setIfInBounds _ _).size; simp)
      show Seg _ X.A.in1.in1 _ _ _ _ _ ((compStart (.GeneratorExp elt [⟨tg, iter, [], 0⟩] scope pos) 0 (.ref it) .none genv).onRaise (leaving genv)) [] _
      unfold compStart
      rw [Sem.onRaise_eq_wrap]
      show Seg _ X.A.in1.in1 _ _ _ _ _ ((ask >>= _).wrap _ _ _ _) [] _
      refine seg_bind_wrap (wpAny_askSetting ?_)
      split
      · exact seg_again rfl (hloop _)
      · first
          | exact seg_bind_wrap (wpAny_rule (seg_bind_wrap (wpAny_standAt (seg_bind_wrap (T.self _ _ _ _ _ (T.keep _ _ _ st3 fun b hb o e => Heap.get?_push_of_some _ (kp' b o e)) (seg_again rfl (hloop _)))))))
          | (refine seg_bind_wrap (wpAny_rule ?_); show Seg _ X.A.in1.in1 _ _ _ _ _ ((standAt iter.pos >>= _).wrap _ _ _ _) [] _; exact seg_bind_wrap (wpAny_standAt (seg_bind_wrap (T.self _ _ _ _ _ (T.keep _ _ _ st3 fun b hb o e => Heap.get?_push_of_some _ (kp' b o e)) (seg_again rfl (hloop _))))))
  cases hf : codeAmong pos ps.toList with
  | none =>
    refine wpAny_genexprCodeX hcode (cd.code hPs ht) (cd.tab hPs) hf fun c' h' tk hx hge hlt hco' _ htab' _ => ?_
    obtain ⟨o1, vs, f1, tf, fl, tg, inF, tx, tt, op, _, _, _, _, _, _, _, _, _, htr, _⟩ := hco'
    exact wpAny_mono (cont (.ref c') h' tk _ hx (Nat.le_trans hge (Nat.le_of_lt hlt)) htab'.2 ⟨_, rfl⟩ htr) (fun bi s4 hh h' a b => Calls.spliced_nil (hh h' a b)) fun _ _ e => e
  | some cv =>
    refine wpAny_genexprCode_hit hcode (cd.code hPs ht) hf ?_
    exact wpAny_mono (cont cv s2.heap s2.toks ps (Heap.ExtBut.refl _ _) (Nat.le_refl _) hPs ⟨#[], by simp⟩ ht) (fun bi s4 hh h' a b => Calls.spliced_nil (hh h' a b)) fun _ _ e => e
end
end Gx
/-! Programs as functions on data: what stands in the heap, told by data and numbered lists, dicts and instances. -/
namespace Pd
open PySem PySem.Spec PyProof.Rows L2 GxR Gx
/-! ### data and objects -/
/-- a value: data (which never changes), or the object with this number -/
inductive W where
  | d (x : PyData)
  | loc (n : Nat)
inductive Ob where
  | lst (ws : List W)
  | dct (kvs : List (Key × W))
  | ins (C : Addr) (fs : List (Str × W))
abbrev Mem := List Ob
/-- a heap, the numbered objects' addresses, and addresses that others own -/
structure Wd where
  H : Hp
  ι : List Addr
  hid : List Addr
def Mu (tb : List Addr) (A : Wd) (a : Addr) : Prop := a ∈ A.ι ∨ a ∈ tb ∨ a ∈ A.hid
def H0 : Hp := fun _ => none
/-- u stands at a and stays there -/
def Fz (tb : List Addr) (A : Wd) (a : Addr) (u : HO) : Prop := ¬ Mu tb A a ∧ Rd A.H a u
def FzL (K : PySem.W.Frag) (tb : List Addr) (A : Wd) (a : Addr) (xs : List V) : Prop := Fz tb A a (.lst xs) ∨ SqL K H0 a xs
def FzT (K : PySem.W.Frag) (tb : List Addr) (A : Wd) (a : Addr) (xs : List V) : Prop := Fz tb A a (.tup xs) ∨ SqT K H0 a xs
mutual
inductive DR (K : PySem.W.Frag) (tb : List Addr) (A : Wd) : V → PyData → Prop
  | non : DR K tb A .non .none
  | bl (b : Bool) : DR K tb A (.bl b) (.bool b)
  | int (i : Int) : DR K tb A (.int i) (.int i)
  | str (x : Str) : DR K tb A (.str x) (.str x)
  | lst {a : Addr} {xs : List V} {ds : List PyData} : Fz tb A a (.lst xs) → DRs K tb A xs ds → DR K tb A (.ref a) (.list ds)
  /-- the script: a list of the text's own, or one that stays -/
  | scr {a : Addr} {xs : List V} {ds : List PyData} : FzL K tb A a xs → DRs K tb A xs ds → DR K tb A (.ref a) (.dict [(.none, .list ds)])
  | tup {a : Addr} {xs : List V} {ds : List PyData} : FzT K tb A a xs → DRs K tb A xs ds → DR K tb A (.ref a) (.tuple ds)
inductive DRs (K : PySem.W.Frag) (tb : List Addr) (A : Wd) : List V → List PyData → Prop
  | nil : DRs K tb A [] []
  | cons {v : V} {vs : List V} {d : PyData} {ds : List PyData} : DR K tb A v d → DRs K tb A vs ds → DRs K tb A (v :: vs) (d :: ds)
end
def WR (K : PySem.W.Frag) (tb : List Addr) (A : Wd) : V → W → Prop
  | v, .d x => DR K tb A v x
  | v, .loc n => ∃ a, v = .ref a ∧ A.ι[n]? = some a
abbrev WRs (K : PySem.W.Frag) (tb : List Addr) (A : Wd) : List V → List W → Prop := Paired (WR K tb A)
/-- the heap goes on: what is not numbered stays -/
structure Nxt (tb : List Addr) (A B : Wd) : Prop where
  hid : ∀ b ∈ A.hid, b ∈ B.hid
  hid2 : ∀ b ∈ B.hid, b ∈ A.hid ∨ A.H b = none
  more : ∀ b, B.H b = none → A.H b = none
  pre : ∃ more, B.ι = A.ι ++ more
  keep : ∀ b o, b ∉ A.ι → b ∉ tb → A.H b = some o → B.H b = some o ∧ b ∉ B.ι
section
variable {K : PySem.W.Frag} {tb : List Addr} {A B C : Wd}
theorem Nxt.refl : Nxt tb A A := ⟨fun _ z => z, fun _ z => .inl z, fun _ z => z, ⟨[], by simp⟩, fun _ _ n _ e => ⟨e, n⟩⟩
theorem Nxt.trans (x : Nxt tb A B) (y : Nxt tb B C) : Nxt tb A C := by
  obtain ⟨m1, e1⟩ := x.pre
  obtain ⟨m2, e2⟩ := y.pre
  refine ⟨fun b z => y.hid b (x.hid b z), fun b z => (y.hid2 b z).elim (fun z => x.hid2 b z) (fun z => .inr (x.more b z)), fun b z => x.more b (y.more b z), ⟨m1 ++ m2, by rw [e2, e1, List.append_assoc]⟩, fun b o n t e => ?_⟩
  obtain ⟨q, n'⟩ := x.keep b o n t e
  exact y.keep b o n' t q
theorem Nxt.ix (x : Nxt tb A B) {n : Nat} {a : Addr} (h : A.ι[n]? = some a) : B.ι[n]? = some a := by
  obtain ⟨m, e⟩ := x.pre
  rw [e, List.getElem?_append_left (List.getElem?_eq_some_iff.mp h).1]
  exact h
/-- .. but what others own may change -/
structure NxW (tb : List Addr) (A B : Wd) : Prop where
  hid : ∀ b ∈ A.hid, b ∈ B.hid
  hid2 : ∀ b ∈ B.hid, b ∈ A.hid ∨ A.H b = none
  more : ∀ b, B.H b = none → A.H b = none
  pre : ∃ more, B.ι = A.ι ++ more
  keep : ∀ b o, b ∉ A.ι → b ∉ tb → b ∉ A.hid → A.H b = some o → B.H b = some o ∧ b ∉ B.ι
theorem Nxt.w (x : Nxt tb A B) : NxW tb A B := ⟨x.hid, x.hid2, x.more, x.pre, fun b o n t _ e => x.keep b o n t e⟩
theorem NxW.trans (x : NxW tb A B) (y : NxW tb B C) : NxW tb A C := by
  obtain ⟨m1, e1⟩ := x.pre
  obtain ⟨m2, e2⟩ := y.pre
  refine ⟨fun b z => y.hid b (x.hid b z), fun b z => (y.hid2 b z).elim (fun z => x.hid2 b z) (fun z => .inr (x.more b z)), fun b z => x.more b (y.more b z), ⟨m1 ++ m2, by rw [e2, e1, List.append_assoc]⟩, fun b o n t h e => ?_⟩
  obtain ⟨q, n'⟩ := x.keep b o n t h e
  exact y.keep b o n' t (fun z => (x.hid2 b z).elim h fun z => by rw [z] at e; cases e) q
theorem NxW.ix (x : NxW tb A B) {n : Nat} {a : Addr} (h : A.ι[n]? = some a) : B.ι[n]? = some a := by
  obtain ⟨m, e⟩ := x.pre
  rw [e, List.getElem?_append_left (List.getElem?_eq_some_iff.mp h).1]
  exact h
theorem Fz.nxw (x : NxW tb A B) {a : Addr} {u : HO} (h : Fz tb A a u) : Fz tb B a u := by
  obtain ⟨n, r⟩ := h
  have n1 : a ∉ A.ι := fun z => n (.inl z)
  have n2 : a ∉ tb := fun z => n (.inr (.inl z))
  have n3 : a ∉ A.hid := fun z => n (.inr (.inr z))
  rcases r with r | ⟨o, r⟩
  · obtain ⟨q, n'⟩ := x.keep a _ n1 n2 n3 r
    exact ⟨fun z => z.elim n' fun z => z.elim n2 fun z => (x.hid2 a z).elim n3 (fun z => by rw [z] at r; cases r), .inl q⟩
  · obtain ⟨q, n'⟩ := x.keep a _ n1 n2 n3 r
    exact ⟨fun z => z.elim n' fun z => z.elim n2 fun z => (x.hid2 a z).elim n3 (fun z => by rw [z] at r; cases r), .inr ⟨o, q⟩⟩
theorem Fz.nxt (x : Nxt tb A B) {a : Addr} {u : HO} (h : Fz tb A a u) : Fz tb B a u := h.nxw x.w
theorem FzL.nxw (x : NxW tb A B) {a : Addr} {xs : List V} (h : FzL K tb A a xs) : FzL K tb B a xs := h.imp (fun z => z.nxw x) id
theorem FzL.nxt (x : Nxt tb A B) {a : Addr} {xs : List V} (h : FzL K tb A a xs) : FzL K tb B a xs := h.nxw x.w
theorem FzT.nxw (x : NxW tb A B) {a : Addr} {xs : List V} (h : FzT K tb A a xs) : FzT K tb B a xs := h.imp (fun z => z.nxw x) id
theorem FzT.nxt (x : Nxt tb A B) {a : Addr} {xs : List V} (h : FzT K tb A a xs) : FzT K tb B a xs := h.nxw x.w
theorem sqL_h0 {H : Hp} {a : Addr} {xs : List V} (h : SqL K H0 a xs) : SqL K H a xs := by
  rcases h with (h | ⟨o, h⟩) | h
  · cases h
  · cases h
  · exact .inr h
theorem sqT_h0 {H : Hp} {a : Addr} {xs : List V} (h : SqT K H0 a xs) : SqT K H a xs := by
  rcases h with (h | ⟨o, h⟩) | h
  · cases h
  · cases h
  · exact .inr h
theorem Fz.sq {a : Addr} {xs : List V} (h : Fz tb A a (.lst xs)) : SqL K A.H a xs := .inl h.2
theorem FzL.sq {a : Addr} {xs : List V} (h : FzL K tb A a xs) : SqL K A.H a xs := h.elim (fun z => .inl z.2) sqL_h0
theorem FzT.sq {a : Addr} {xs : List V} (h : FzT K tb A a xs) : SqT K A.H a xs := h.elim (fun z => .inl z.2) sqT_h0
mutual
theorem DR.nxw (x : NxW tb A B) : ∀ {v : V} (d : PyData), DR K tb A v d → DR K tb B v d
  | _, .none, h => by cases h; exact .non
  | _, .bool b, h => by cases h; exact .bl b
  | _, .int i, h => by cases h; exact .int i
  | _, .str y, h => by cases h; exact .str y
  | _, .list ds, h => by cases h with | lst f r => exact .lst (f.nxw x) (DRs.nxw x ds r)
  | _, .tuple ds, h => by cases h with | tup f r => exact .tup (f.nxw x) (DRs.nxw x ds r)
  | _, .dict [(.none, .list ds)], h => by cases h with | scr f r => exact .scr (f.nxw x) (DRs.nxw x ds r)
theorem DRs.nxw (x : NxW tb A B) : ∀ {vs : List V} (ds : List PyData), DRs K tb A vs ds → DRs K tb B vs ds
  | _, [], h => by cases h; exact .nil
  | _, d :: ds, h => by cases h with | cons a b => exact .cons (DR.nxw x d a) (DRs.nxw x ds b)
end
theorem DR.nxt (x : Nxt tb A B) {v : V} (d : PyData) (h : DR K tb A v d) : DR K tb B v d := DR.nxw x.w d h
theorem DRs.nxt (x : Nxt tb A B) {vs : List V} (ds : List PyData) (h : DRs K tb A vs ds) : DRs K tb B vs ds := DRs.nxw x.w ds h
mutual
theorem DR.dp : ∀ {v : V} (d : PyData), DR K tb A v d → d.canLay0 = true → Dp K A.H v d
  | _, .none, h, _ => by cases h; exact .non
  | _, .bool b, h, _ => by cases h; exact .bl b
  | _, .int i, h, _ => by cases h; exact .int i
  | _, .str y, h, _ => by cases h; exact .str y
  | _, .list ds, h, c => by cases h with | lst f r => exact .lst f.sq (DRs.dp ds r c)
  | _, .tuple ds, h, c => by cases h with | tup f r => exact .tup f.sq (DRs.dp ds r c)
  | _, .dict _, h, c => absurd (show false = true from c) Bool.false_ne_true
theorem DRs.dp : ∀ {vs : List V} (ds : List PyData), DRs K tb A vs ds → PyData.canLayAll0 ds = true → DpAll K A.H vs ds
  | _, [], h, _ => by cases h; exact .nil
  | _, d :: ds, h, c => by
    have c : (PyData.canLay0 d && PyData.canLayAll0 ds) = true := c
    rw [Bool.and_eq_true] at c
    cases h with | cons a b => exact .cons (DR.dp d a c.1) (DRs.dp ds b c.2)
end
theorem WR.nxw (x : NxW tb A B) {v : V} {w : W} (h : WR K tb A v w) : WR K tb B v w := by
  cases w with
  | d y => exact DR.nxw x y h
  | loc n => obtain ⟨a, e, i⟩ := h; exact ⟨a, e, x.ix i⟩
theorem WR.nxt (x : Nxt tb A B) {v : V} {w : W} (h : WR K tb A v w) : WR K tb B v w := by
  cases w with
  | d y => exact DR.nxt x y h
  | loc n => obtain ⟨a, e, i⟩ := h; exact ⟨a, e, x.ix i⟩
theorem WRs.nxt (x : Nxt tb A B) {vs : List V} {ws : List W} (h : WRs K tb A vs ws) : WRs K tb B vs ws := Paired.mapP h fun _ _ r => r.nxt x
theorem DRs.length {vs : List V} {ds : List PyData} (h : DRs K tb A vs ds) : vs.length = ds.length := by
  induction ds generalizing vs with
  | nil => cases h; rfl
  | cons d ds ih => cases h with | cons a b => simp [ih b]
theorem DRs.get {vs : List V} {ds : List PyData} (h : DRs K tb A vs ds) : ∀ {i : Nat} {v : V}, vs[i]? = some v → ∃ d, ds[i]? = some d ∧ DR K tb A v d := by
  induction ds generalizing vs with
  | nil => intro i v e; cases h; simp at e
  | cons d ds ih =>
    intro i v e
    cases h with
    | cons a b =>
      cases i with
      | zero => simp at e; subst e; exact ⟨d, rfl, a⟩
      | succ i => simp at e; obtain ⟨d', q, r⟩ := ih b e; exact ⟨d', by simpa using q, r⟩
theorem DRs.get' {vs : List V} {ds : List PyData} (h : DRs K tb A vs ds) {i : Nat} {d : PyData} (e : ds[i]? = some d) : ∃ v, vs[i]? = some v ∧ DR K tb A v d := by
  have hl := h.length
  have hi : i < vs.length := by rw [hl]; exact (List.getElem?_eq_some_iff.mp e).1
  obtain ⟨d', q, r⟩ := h.get (List.getElem?_eq_getElem hi)
  rw [e] at q; cases q
  exact ⟨_, List.getElem?_eq_getElem hi, r⟩
theorem DRs.append {vs us : List V} {ds es : List PyData} (h : DRs K tb A vs ds) (g : DRs K tb A us es) : DRs K tb A (vs ++ us) (ds ++ es) := by
  induction ds generalizing vs with
  | nil => cases h; exact g
  | cons d ds ih => cases h with | cons a b => exact .cons a (ih b)
theorem DRs.take {vs : List V} {ds : List PyData} (h : DRs K tb A vs ds) : ∀ n, DRs K tb A (vs.take n) (ds.take n) := by
  induction ds generalizing vs with
  | nil => intro n; cases h; simp; exact .nil
  | cons d ds ih =>
    intro n
    cases h with
    | cons a b =>
      cases n with
      | zero => exact .nil
      | succ n => exact .cons a (ih b n)
theorem DRs.drop {vs : List V} {ds : List PyData} (h : DRs K tb A vs ds) : ∀ n, DRs K tb A (vs.drop n) (ds.drop n) := by
  induction ds generalizing vs with
  | nil => intro n; cases h; simp; exact .nil
  | cons d ds ih =>
    intro n
    cases h with
    | cons a b =>
      cases n with
      | zero => exact .cons a b
      | succ n => exact ih b n
end
/-! ### the objects -/
def OR (K : PySem.W.Frag) (tb : List Addr) (A : Wd) : Ob → Addr → Prop
  | .lst ws, a => ∃ vs, A.H a = some (.lst vs) ∧ WRs K tb A vs ws
  | .dct kvs, a => ∃ vs, A.H a = some (.dK vs) ∧ Paired (fun (p : Key × V) (q : Key × W) => p.1 = q.1 ∧ WR K tb A p.2 q.2) vs kvs
  | .ins C fs, a => ∃ dx vs, A.H a = some (.ins C dx vs) ∧ Paired (fun (p : Str × V) (q : Str × W) => p.1 = q.1 ∧ WR K tb A p.2 q.2) vs fs
structure Rep (K : PySem.W.Frag) (tb : List Addr) (A : Wd) (S : Mem) : Prop where
  len : A.ι.length = S.length
  nd : A.ι.Nodup
  tabs : ∀ P ∈ tb, TabG A.H P
  hd : ∀ b ∈ A.hid, (∃ o, A.H b = some o) ∧ b ∉ A.ι ∧ b ∉ tb
  at_ : ∀ (n : Nat) a ob, A.ι[n]? = some a → S[n]? = some ob → OR K tb A ob a
section
variable {K : PySem.W.Frag} {tb : List Addr} {A B : Wd} {S : Mem}
theorem OR.some {ob : Ob} {a : Addr} (h : OR K tb A ob a) : ∃ o, A.H a = some o ∧ Mut (some o) := by
  cases ob with
  | lst ws => obtain ⟨vs, e, _⟩ := h; exact ⟨_, e, trivial⟩
  | dct kvs => obtain ⟨vs, e, _⟩ := h; exact ⟨_, e, trivial⟩
  | ins C fs => obtain ⟨dx, vs, e, _⟩ := h; exact ⟨_, e, trivial⟩
theorem Rep.get (R : Rep K tb A S) {n : Nat} {a : Addr} (h : A.ι[n]? = some a) : ∃ ob, S[n]? = some ob ∧ OR K tb A ob a := by
  have hn : n < S.length := by rw [← R.len]; exact (List.getElem?_eq_some_iff.mp h).1
  exact ⟨S[n], List.getElem?_eq_getElem hn, R.at_ n a _ h (List.getElem?_eq_getElem hn)⟩
theorem Rep.addr (R : Rep K tb A S) {n : Nat} {ob : Ob} (h : S[n]? = some ob) : ∃ a, A.ι[n]? = some a ∧ OR K tb A ob a := by
  have hn : n < A.ι.length := by rw [R.len]; exact (List.getElem?_eq_some_iff.mp h).1
  exact ⟨A.ι[n], List.getElem?_eq_getElem hn, R.at_ n _ ob (List.getElem?_eq_getElem hn) h⟩
theorem Rep.mut (R : Rep K tb A S) {a : Addr} (h : a ∈ A.ι) : ∃ o, A.H a = some o ∧ Mut (some o) := by
  obtain ⟨n, hn, e⟩ := List.getElem_of_mem h
  obtain ⟨ob, _, q⟩ := R.get (n := n) (a := a) (by rw [List.getElem?_eq_getElem hn, e])
  exact q.some
theorem Rep.fresh (R : Rep K tb A S) {p : Addr} (h : A.H p = none) : ¬ Mu tb A p := by
  rintro (z | z | z)
  · obtain ⟨o, e, _⟩ := R.mut z; rw [h] at e; cases e
  · obtain ⟨ps, e, _⟩ := R.tabs p z; rw [h] at e; cases e
  · obtain ⟨⟨o, e⟩, _⟩ := R.hd p z; rw [h] at e; cases e
theorem Rep.tab_ne (R : Rep K tb A S) {a P : Addr} (h : a ∈ A.ι) (hP : P ∈ tb) : a ≠ P := by
  rintro rfl
  obtain ⟨o, e, m⟩ := R.mut h
  obtain ⟨ps, e', _⟩ := R.tabs a hP
  rw [e] at e'; cases e'; exact m
theorem OR.nxt {ob : Ob} {a : Addr} (x : Nxt tb A B) (e : B.H a = A.H a) (h : OR K tb A ob a) : OR K tb B ob a := by
  cases ob with
  | lst ws => obtain ⟨vs, q, r⟩ := h; exact ⟨vs, by rw [e]; exact q, r.nxt x⟩
  | dct kvs => obtain ⟨vs, q, r⟩ := h; exact ⟨vs, by rw [e]; exact q, Paired.mapP r fun _ _ z => ⟨z.1, z.2.nxt x⟩⟩
  | ins C fs => obtain ⟨dx, vs, q, r⟩ := h; exact ⟨dx, vs, by rw [e]; exact q, Paired.mapP r fun _ _ z => ⟨z.1, z.2.nxt x⟩⟩
/-- a new object that nobody will change -/
abbrev Wd.put (A : Wd) (p : Addr) (o : HO) : Wd := { A with H := upd A.H p o }
theorem upd_none {H : Hp} {a b : Addr} {o : HO} (h : upd H a o b = none) : H b = none := by
  by_cases e : b = a
  · rw [e, upd_same] at h; cases h
  · rw [upd_ne e] at h; exact h
theorem Nxt.put {p : Addr} (hp : A.H p = none) (o : HO) : Nxt tb A (A.put p o) :=
  ⟨fun _ z => z, fun _ z => .inl z, fun _ z => upd_none z, ⟨[], by simp⟩, fun b u n _ e => ⟨by show upd A.H p o b = _; rw [upd_ne (ne_of_none e hp)]; exact e, n⟩⟩
theorem Rep.put (R : Rep K tb A S) {p : Addr} (hp : A.H p = none) (o : HO) : Rep K tb (A.put p o) S := by
  have st : ∀ {b : Addr} {u : HO}, A.H b = some u → (A.put p o).H b = some u := fun {b u} e => by show upd A.H p o b = _; rw [upd_ne (ne_of_none e hp)]; exact e
  refine ⟨R.len, R.nd, fun P hP => ?_, fun b hb => ?_, fun n a ob e1 e2 => ?_⟩
  · obtain ⟨ps, e, t⟩ := R.tabs P hP; exact ⟨ps, st e, t⟩
  · obtain ⟨⟨o', e⟩, n⟩ := R.hd b hb; exact ⟨⟨o', st e⟩, n⟩
  · have q := R.at_ n a ob e1 e2
    obtain ⟨o', e, _⟩ := q.some
    exact q.nxt (.put hp o) (by rw [st e, e])
theorem Fz.put (R : Rep K tb A S) {p : Addr} (hp : A.H p = none) (o : HO) : Fz tb (A.put p o) p o := ⟨R.fresh hp, .inl upd_same⟩
/-- a new numbered object -/
abbrev Wd.add (A : Wd) (p : Addr) (o : HO) : Wd := { A with H := upd A.H p o, ι := A.ι ++ [p] }
theorem Nxt.add {p : Addr} (hp : A.H p = none) (o : HO) : Nxt tb A (A.add p o) :=
  ⟨fun _ z => z, fun _ z => .inl z, fun _ z => upd_none z, ⟨[p], rfl⟩, fun b u n _ e => ⟨by show upd A.H p o b = _; rw [upd_ne (ne_of_none e hp)]; exact e, fun z => (List.mem_append.mp z).elim n fun z => ne_of_none e hp (List.mem_singleton.mp z)⟩⟩
theorem Rep.add (R : Rep K tb A S) {p : Addr} (hp : A.H p = none) {o : HO} {ob : Ob} (h : OR K tb (A.add p o) ob p) : Rep K tb (A.add p o) (S ++ [ob]) := by
  have st : ∀ {b : Addr} {u : HO}, A.H b = some u → (A.add p o).H b = some u := fun {b u} e => by show upd A.H p o b = _; rw [upd_ne (ne_of_none e hp)]; exact e
  have np : p ∉ A.ι := fun z => R.fresh hp (.inl z)
  refine ⟨by simp [R.len], ?_, fun P hP => ?_, fun b hb => ?_, fun n a ob' e1 e2 => ?_⟩
  · rw [List.nodup_append]
    exact ⟨R.nd, by simp, fun a ha b hb e => np (by rw [List.mem_singleton.mp hb] at e; rw [← e]; exact ha)⟩
  · obtain ⟨ps, e, t⟩ := R.tabs P hP; exact ⟨ps, st e, t⟩
  · obtain ⟨⟨o', e⟩, n, t⟩ := R.hd b hb
    exact ⟨⟨o', st e⟩, fun z => (List.mem_append.mp z).elim n fun z => ne_of_none e hp (List.mem_singleton.mp z), t⟩
  · have e1 : (A.ι ++ [p])[n]? = some a := e1
    by_cases hn : n < A.ι.length
    · rw [List.getElem?_append_left hn] at e1
      rw [List.getElem?_append_left (by rw [← R.len]; exact hn)] at e2
      have q := R.at_ n a ob' e1 e2
      obtain ⟨o', e, _⟩ := q.some
      exact q.nxt (.add hp o) (by rw [st e, e])
    · rw [List.getElem?_append_right (by omega)] at e1
      rw [List.getElem?_append_right (by rw [← R.len]; omega)] at e2
      have hz : n - A.ι.length = 0 := by
        cases hh : n - A.ι.length with
        | zero => rfl
        | succ k => rw [hh] at e1; simp at e1
      rw [hz] at e1
      rw [← R.len, hz] at e2
      simp at e1 e2
      subst e1 e2
      exact h
/-- a numbered object is changed -/
theorem Nxt.set {n : Nat} {a : Addr} {o : HO} (ha : A.ι[n]? = some a) : Nxt tb A (A.put a o) :=
  ⟨fun _ z => z, fun _ z => .inl z, fun _ z => upd_none z, ⟨[], by simp⟩, fun b u nb _ e => ⟨by show upd A.H a o b = _; rw [upd_ne (fun z => nb (by rw [z]; exact List.mem_of_getElem? ha))]; exact e, nb⟩⟩
theorem Rep.set (R : Rep K tb A S) {n : Nat} {a : Addr} {o : HO} {ob : Ob} (ha : A.ι[n]? = some a) (h : OR K tb (A.put a o) ob a) : Rep K tb (A.put a o) (S.set n ob) := by
  have hin := List.mem_of_getElem? ha
  have st : ∀ {b : Addr}, b ≠ a → (A.put a o).H b = A.H b := fun {b} e => upd_ne e
  refine ⟨by rw [List.length_set]; exact R.len, R.nd, fun P hP => ?_, fun b hb => ?_, fun m b ob' e1 e2 => ?_⟩
  · obtain ⟨ps, e, t⟩ := R.tabs P hP
    exact ⟨ps, by rw [st (R.tab_ne hin hP).symm]; exact e, t⟩
  · obtain ⟨⟨o', e⟩, n', t⟩ := R.hd b hb
    exact ⟨⟨o', by rw [st (fun z => n' (by rw [z]; exact hin))]; exact e⟩, n', t⟩
  · by_cases hm : m = n
    · subst hm
      have e1 : A.ι[m]? = some b := e1
      rw [ha] at e1; cases e1
      rw [List.getElem?_set_self (by rw [← R.len]; exact (List.getElem?_eq_some_iff.mp ha).1)] at e2
      cases e2
      exact h
    · rw [List.getElem?_set_ne (Ne.symm hm)] at e2
      have hb : b ≠ a := by
        rintro rfl
        obtain ⟨h1, q1⟩ := List.getElem?_eq_some_iff.mp ha
        obtain ⟨h2, q2⟩ := List.getElem?_eq_some_iff.mp e1
        exact hm ((List.getElem_inj R.nd).mp (q2.trans q1.symm))
      exact (R.at_ m b ob' e1 e2).nxt (.set ha) (st hb)
/-- a table grows -/
theorem nxt_tab {P : Addr} {H' : Hp} (hP : P ∈ tb) (t : Tabbed P A.H H') : Nxt tb A { A with H := H' } :=
  ⟨fun _ z => z, fun _ z => .inl z, fun b z => by
    by_cases e : b = P
    · obtain ⟨ps, q, _⟩ := t.1
      rw [e] at z
      have z : H' P = none := z
      rw [q] at z; cases z
    · have z : H' b = none := z
      rw [t.2 b e] at z; exact z, ⟨[], by simp⟩, fun b u n nt e => ⟨by show H' b = _; rw [t.2 b (fun z => nt (by rw [z]; exact hP))]; exact e, n⟩⟩
theorem Rep.tab (R : Rep K tb A S) {P : Addr} {H' : Hp} (hP : P ∈ tb) (t : Tabbed P A.H H') : Rep K tb { A with H := H' } S := by
  refine ⟨R.len, R.nd, fun Q hQ => ?_, fun b hb => ?_, fun n a ob e1 e2 => ?_⟩
  · by_cases e : Q = P
    · rw [e]; exact t.1
    · obtain ⟨ps, q, z⟩ := R.tabs Q hQ
      exact ⟨ps, by show H' Q = _; rw [t.2 Q e]; exact q, z⟩
  · obtain ⟨⟨o', e⟩, n', nt⟩ := R.hd b hb
    exact ⟨⟨o', by show H' b = _; rw [t.2 b (fun z => nt (by rw [z]; exact hP))]; exact e⟩, n', nt⟩
  · exact (R.at_ n a ob e1 e2).nxt (nxt_tab hP t) (t.2 a (R.tab_ne (List.mem_of_getElem? e1) hP))
end
/-! ### environments and readings -/
abbrev Env' := List (Option W)
def ER (K : PySem.W.Frag) (tb : List Addr) (A : Wd) (σ : L2.St) (ρ : Env') : Prop := ρ.length = σ.length ∧ ∀ (i : Nat) w, ρ[i]? = some (some w) → ∃ v, σ[i]? = some (some v) ∧ WR K tb A v w
abbrev ME := Env' → Mem → Option (W × Mem)
abbrev MT := Env' → Mem → Option (Bool × Mem)
abbrev MA := Env' → Mem → Option (List W × Mem)
inductive Out where
  | nx | bk | ct | rt (w : W)
abbrev MS := Env' → Mem → Option (Out × Env' × Mem)
abbrev MG := W → Env' → Mem → Option (Env' × Mem)
section
variable (K : PySem.W.Frag) (tb : List Addr)
def KE (A : Wd) (w : W) (S' : Mem) (Q : VK) : Prop := ∀ v B, Nxt tb A B → Rep K tb B S' → WR K tb B v w → Q v B.H
def SE (t : TE) (m : ME) : Prop := ∀ A σ ρ S w S' Q, Rep K tb A S → ER K tb A σ ρ → m ρ S = some (w, S') → KE K tb A w S' Q → t σ A.H Q
def ST (t : TT) (m : MT) : Prop := ∀ A σ ρ S b S' (Q : Bool → Hp → Prop), Rep K tb A S → ER K tb A σ ρ → m ρ S = some (b, S') → (∀ B, Nxt tb A B → Rep K tb B S' → Q b B.H) → t σ A.H Q
def SA (t : TA) (m : MA) : Prop := ∀ A σ ρ S ws S' (Q : List V → Hp → Prop), Rep K tb A S → ER K tb A σ ρ → m ρ S = some (ws, S') → (∀ vs B, Nxt tb A B → Rep K tb B S' → WRs K tb B vs ws → Q vs B.H) → t σ A.H Q
/-- what is wanted behind a statement -/
def FinD (D : Ends) (B : Wd) (σ : L2.St) : Out → Prop
  | .nx => D.nx σ B.H
  | .bk => D.bk σ B.H
  | .ct => D.ct σ B.H
  | .rt w => ∃ v, WR K tb B v w ∧ D.rt v B.H
def FinK (D : Ends) (A : Wd) (o : Out) (ρ' : Env') (S' : Mem) : Prop := match o with
  | .nx => ∀ B σ', Nxt tb A B → Rep K tb B S' → ER K tb B σ' ρ' → D.nx σ' B.H
  | .bk => ∀ B σ', Nxt tb A B → Rep K tb B S' → ER K tb B σ' ρ' → D.bk σ' B.H
  | .ct => ∀ B σ', Nxt tb A B → Rep K tb B S' → ER K tb B σ' ρ' → D.ct σ' B.H
  | .rt w => ∀ B v, Nxt tb A B → Rep K tb B S' → WR K tb B v w → D.rt v B.H
def SS (t : TS) (m : MS) : Prop := ∀ A σ ρ S o ρ' S' (D : Ends), Rep K tb A S → ER K tb A σ ρ → m ρ S = some (o, ρ', S') → FinK K tb D A o ρ' S' → t D σ A.H
/-- a target; vs: the slots that it may set -/
def SG (vs : List Nat) (g : TG) (m : MG) : Prop := ∀ A v w σ ρ S ρ' S' (Q : L2.St → Hp → Prop), Rep K tb A S → ER K tb A σ ρ → WR K tb A v w → m w ρ S = some (ρ', S') →
  (∀ B σ', Nxt tb A B → Rep K tb B S' → ER K tb B σ' ρ' → σ'.length = σ.length → (∀ j, j ∉ vs → σ'[j]? = σ[j]?) → Q σ' B.H) → g v σ A.H Q
end
section
variable {K : PySem.W.Frag} {tb : List Addr} {A B : Wd}
theorem ER.nxt {σ : L2.St} {ρ : Env'} (x : Nxt tb A B) (h : ER K tb A σ ρ) : ER K tb B σ ρ := ⟨h.1, fun i w e => by obtain ⟨v, q, r⟩ := h.2 i w e; exact ⟨v, q, r.nxt x⟩⟩
theorem ER.nxw {σ : L2.St} {ρ : Env'} (x : NxW tb A B) (h : ER K tb A σ ρ) : ER K tb B σ ρ := ⟨h.1, fun i w e => by obtain ⟨v, q, r⟩ := h.2 i w e; exact ⟨v, q, r.nxw x⟩⟩
theorem ER.set {σ : L2.St} {ρ : Env'} {v : V} {w : W} (h : ER K tb A σ ρ) (r : WR K tb A v w) (i : Nat) : ER K tb A (σ.set i (some v)) (ρ.set i (some w)) := by
  refine ⟨by rw [List.length_set, List.length_set]; exact h.1, fun j w' e => ?_⟩
  by_cases hj : j = i
  · subst hj
    have hlt : j < ρ.length := by
      have := (List.getElem?_eq_some_iff.mp e).1
      rwa [List.length_set] at this
    rw [List.getElem?_set_self hlt] at e
    cases e
    exact ⟨v, by rw [List.getElem?_set_self (by rw [← h.1]; exact hlt)], r⟩
  · rw [List.getElem?_set_ne (Ne.symm hj)] at e
    obtain ⟨v', q, r'⟩ := h.2 j w' e
    exact ⟨v', by rw [List.getElem?_set_ne (Ne.symm hj)]; exact q, r'⟩
theorem KE.nxt {w : W} {S' : Mem} {Q : VK} (x : Nxt tb A B) (h : KE K tb A w S' Q) : KE K tb B w S' Q := fun v C y R r => h v C (x.trans y) R r
theorem FinK.nxt {D : Ends} {o : Out} {ρ' : Env'} {S' : Mem} (x : Nxt tb A B) (h : FinK K tb D A o ρ' S') : FinK K tb D B o ρ' S' := by
  cases o with
  | nx => exact fun C σ' y R r => h C σ' (x.trans y) R r
  | bk => exact fun C σ' y R r => h C σ' (x.trans y) R r
  | ct => exact fun C σ' y R r => h C σ' (x.trans y) R r
  | rt w => exact fun C v y R r => h C v (x.trans y) R r
end
end Pd
namespace Pd
open PySem PySem.Spec PyProof.Rows L2 GxR Gx
section
variable {K : PySem.W.Frag} {tb : List Addr}
/-! ### expressions -/
def eVar (i : Nat) : ME := fun ρ S => match ρ[i]? with
  | some (some w) => some (w, S)
  | _ => none
def eC (x : PyData) : ME := fun _ S => some (.d x, S)
theorem se_var (i : Nat) : SE K tb (tVar i) (eVar i) := fun A σ ρ S w S' Q R E h q => by
  unfold eVar at h
  split at h
  · rename_i w' e
    cases h
    obtain ⟨v, e1, r⟩ := E.2 i _ e
    exact ⟨v, e1, q v A .refl R r⟩
  · cases h
theorem se_const {v : V} {x : PyData} (h : ∀ A, DR K tb A v x) : SE K tb (tC v) (eC x) := fun A σ ρ S w S' Q R E e q => by
  cases e
  exact q v A .refl R (h A)
theorem se_int {i : Int} : SE K tb (tC (.int i)) (eC (.int i)) := se_const fun _ => .int i
theorem se_str {x : Str} : SE K tb (tC (.str x)) (eC (.str x)) := se_const fun _ => .str x
theorem se_bl {b : Bool} : SE K tb (tC (.bl b)) (eC (.bool b)) := se_const fun _ => .bl b
theorem se_non : SE K tb (tC .non) (eC .none) := se_const fun _ => .non
/-- an operator -/
abbrev F2 := W → W → Mem → Option (W × Mem)
abbrev F1 := W → Mem → Option (W × Mem)
def SR (K : PySem.W.Frag) (tb : List Addr) (r : R2) (f : F2) : Prop := ∀ A x y a b S w S' Q, Rep K tb A S → WR K tb A x a → WR K tb A y b → f a b S = some (w, S') → Pd.KE K tb A w S' Q → r x y A.H Q
def SU (K : PySem.W.Frag) (tb : List Addr) (r : V → Hp → VK → Prop) (f : F1) : Prop := ∀ A x a S w S' Q, Rep K tb A S → WR K tb A x a → f a S = some (w, S') → Pd.KE K tb A w S' Q → r x A.H Q
theorem SR.or {r r' : R2} {f g : F2} (h : SR K tb r f) (h' : SR K tb r' g) : SR K tb (fun x y H Q => r x y H Q ∨ r' x y H Q) (fun a b S => (f a b S).or (g a b S)) := fun A x y a b S w S' Q R ra rb e q => by
  have e : (f a b S).or (g a b S) = some (w, S') := e
  cases hf : f a b S with
  | some z => rw [hf] at e; cases e; exact .inl (h A x y a b S _ _ Q R ra rb hf q)
  | none => rw [hf] at e; exact .inr (h' A x y a b S _ _ Q R ra rb e q)
def eOp (f : F2) (a b : ME) : ME := fun ρ S => (a ρ S).bind fun p => (b ρ p.2).bind fun q => f p.1 q.1 q.2
def eUn (f : F1) (a : ME) : ME := fun ρ S => (a ρ S).bind fun p => f p.1 p.2
theorem se_op {r : R2} {f : F2} {ta tb' : TE} {a b : ME} (hr : SR K tb r f) (ha : SE K tb ta a) (hb : SE K tb tb' b) : SE K tb (tOp r ta tb') (eOp f a b) := fun A σ ρ S w S' Q R E e q => by
  obtain ⟨p, e1, e⟩ := Option.bind_eq_some_iff.mp e
  obtain ⟨z, e2, e⟩ := Option.bind_eq_some_iff.mp e
  refine ha A σ ρ S p.1 p.2 _ R E e1 fun x B N1 R1 r1 => ?_
  exact hb B σ ρ p.2 z.1 z.2 _ R1 (E.nxt N1) e2 fun y C N2 R2 r2 => hr C x y p.1 z.1 z.2 w S' Q R2 (r1.nxt N2) r2 e (q.nxt (N1.trans N2))
theorem se_un {r : V → Hp → VK → Prop} {f : F1} {ta : TE} {a : ME} (hr : SU K tb r f) (ha : SE K tb ta a) : SE K tb (tUn r ta) (eUn f a) := fun A σ ρ S w S' Q R E e q => by
  obtain ⟨p, e1, e⟩ := Option.bind_eq_some_iff.mp e
  exact ha A σ ρ S p.1 p.2 _ R E e1 fun x B N1 R1 r1 => hr B x p.1 p.2 w S' Q R1 r1 e (q.nxt N1)
/-- an operator on ints -/
def oI (g : Int → Int → Option PyData) : F2 := fun a b S => match a, b with
  | .d (.int i), .d (.int j) => (g i j).map fun z => (.d z, S)
  | _, _ => none
theorem WR.int {A : Wd} {x : V} {i : Int} (h : WR K tb A x (.d (.int i))) : x = .int i := by cases (show DR K tb A x _ from h); rfl
theorem WR.str {A : Wd} {x : V} {i : Str} (h : WR K tb A x (.d (.str i))) : x = .str i := by cases (show DR K tb A x _ from h); rfl
theorem WR.bl {A : Wd} {x : V} {i : Bool} (h : WR K tb A x (.d (.bool i))) : x = .bl i := by cases (show DR K tb A x _ from h); rfl
theorem WR.non {A : Wd} {x : V} (h : WR K tb A x (.d .none)) : x = .non := by cases (show DR K tb A x _ from h); rfl
theorem WR.tup {A : Wd} {x : V} {ds : List PyData} (h : WR K tb A x (.d (.tuple ds))) : ∃ a xs, x = .ref a ∧ FzT K tb A a xs ∧ DRs K tb A xs ds := by
  cases (show DR K tb A x _ from h) with | tup f r => exact ⟨_, _, rfl, f, r⟩
theorem WR.lst {A : Wd} {x : V} {ds : List PyData} (h : WR K tb A x (.d (.list ds))) : ∃ a xs, x = .ref a ∧ Fz tb A a (.lst xs) ∧ DRs K tb A xs ds := by
  cases (show DR K tb A x _ from h) with | lst f r => exact ⟨_, _, rfl, f, r⟩
theorem WR.scr {A : Wd} {x : V} {ds : List PyData} (h : WR K tb A x (.d (.dict [(.none, .list ds)]))) : ∃ a xs, x = .ref a ∧ FzL K tb A a xs ∧ DRs K tb A xs ds := by
  cases (show DR K tb A x _ from h) with | scr f r => exact ⟨_, _, rfl, f, r⟩
theorem oI_some {g : Int → Int → Option PyData} {a b : W} {S S' : Mem} {w : W} (h : oI g a b S = some (w, S')) : ∃ i j z, a = .d (.int i) ∧ b = .d (.int j) ∧ g i j = some z ∧ w = .d z ∧ S' = S := by
  unfold oI at h
  split at h
  · rename_i i j
    obtain ⟨z, e1, e2⟩ := Option.map_eq_some_iff.mp h
    cases e2
    exact ⟨i, j, z, rfl, rfl, e1, rfl, rfl⟩
  · cases h
theorem sr_rI0 {g : Int → Int → PyData} {gv : Int → Int → V} (h : ∀ i j A, DR K tb A (gv i j) (g i j)) : SR K tb (rI0 gv) (oI fun i j => some (g i j)) := fun A x y a b S w S' Q R ra rb e q => by
  obtain ⟨i, j, z, rfl, rfl, e1, rfl, rfl⟩ := oI_some e
  cases e1
  obtain rfl := ra.int
  obtain rfl := rb.int
  exact ⟨i, j, rfl, rfl, q _ A .refl R (h i j A)⟩
theorem sr_rI {C : Int → Int → Prop} {c : Int → Int → Bool} {g : Int → Int → PyData} {gv : Int → Int → V} (hc : ∀ i j, c i j = true → C i j) (h : ∀ i j A, DR K tb A (gv i j) (g i j)) :
    SR K tb (rI C gv) (oI fun i j => if c i j = true then some (g i j) else none) := fun A x y a b S w S' Q R ra rb e q => by
  obtain ⟨i, j, z, rfl, rfl, e1, rfl, rfl⟩ := oI_some e
  split at e1
  · rename_i hcc
    cases e1
    obtain rfl := ra.int
    obtain rfl := rb.int
    exact ⟨i, j, rfl, rfl, hc i j hcc, q _ A .refl R (h i j A)⟩
  · cases e1
def oAdd : F2 := oI fun i j => some (.int (i + j))
def oSub : F2 := oI fun i j => some (.int (i - j))
def oLt : F2 := oI fun i j => some (.bool (decide (i < j)))
def oLe : F2 := oI fun i j => some (.bool (decide (i ≤ j)))
def oGt : F2 := oI fun i j => some (.bool (decide (j < i)))
def oGe : F2 := oI fun i j => some (.bool (decide (j ≤ i)))
def oMul : F2 := oI fun i j => if decide (((-(2 ^ 64) < i ∧ i < 2 ^ 64) ∨ (-(2 ^ 64) < j ∧ j < 2 ^ 64)) ∨ i.natAbs.log2 + j.natAbs.log2 < 1000000) = true then some (.int (i * j)) else none
def oDiv : F2 := oI fun i j => if decide (0 < j ∧ j.natAbs.log2 < 9000) = true then some (.int (i / j)) else none
def oMod : F2 := oI fun i j => if decide (0 < j) = true then some (.int (i % j)) else none
theorem sr_add : SR K tb (rI0 fun i j => .int (i + j)) oAdd := sr_rI0 fun _ _ _ => .int _
theorem sr_sub : SR K tb (rI0 fun i j => .int (i - j)) oSub := sr_rI0 fun _ _ _ => .int _
theorem sr_lt : SR K tb (rI0 fun i j => .bl (decide (i < j))) oLt := sr_rI0 fun _ _ _ => .bl _
theorem sr_le : SR K tb (rI0 fun i j => .bl (decide (i ≤ j))) oLe := sr_rI0 fun _ _ _ => .bl _
theorem sr_gt : SR K tb (rI0 fun i j => .bl (decide (j < i))) oGt := sr_rI0 fun _ _ _ => .bl _
theorem sr_ge : SR K tb (rI0 fun i j => .bl (decide (j ≤ i))) oGe := sr_rI0 fun _ _ _ => .bl _
abbrev rMulA : R2 := rI (fun i j => CMul i j ∨ CMulW i j) fun i j => .int (i * j)
theorem sr_mul : SR K tb rMulA oMul := sr_rI (fun i j h => show ((-(2 ^ 64) < i ∧ i < 2 ^ 64) ∨ (-(2 ^ 64) < j ∧ j < 2 ^ 64)) ∨ i.natAbs.log2 + j.natAbs.log2 < 1000000 from of_decide_eq_true h) fun _ _ _ => .int _
theorem op_mulA {X : Cx} : OpR X (binaryOp .Mult) rMulA := fun pins s σ H x y v u Q I rx ry h => by
  obtain ⟨i, j, e1, e2, h | h, q⟩ := h
  · exact op_mul pins s σ H x y v u Q I rx ry ⟨i, j, e1, e2, h, q⟩
  · exact op_mulW pins s σ H x y v u Q I rx ry ⟨i, j, e1, e2, h, q⟩
theorem sr_div : SR K tb (rI CDivW fun i j => .int (i / j)) oDiv := sr_rI (fun i j h => show 0 < j ∧ j.natAbs.log2 < 9000 from of_decide_eq_true h) fun _ _ _ => .int _
theorem sr_mod : SR K tb (rI (fun _ j => 0 < j) fun i j => .int (i % j)) oMod := sr_rI (fun _ _ h => of_decide_eq_true h) fun _ _ _ => .int _
/-- == of data -/
def scalD : PyData → PyData → Bool
  | .none, .none => true | .none, .int _ => true | .int _, .none => true | .none, .bool _ => true | .bool _, .none => true | .none, .str _ => true | .str _, .none => true
  | .int _, .int _ => true | .bool _, .bool _ => true | .str _, .str _ => true
  | .int _, .str _ => true | .str _, .int _ => true | .bool _, .str _ => true | .str _, .bool _ => true
  | _, _ => false
def eqS : PyData → PyData → Bool
  | .none, .none => true
  | .int i, .int j => decide (i = j)
  | .bool i, .bool j => decide (i = j)
  | .str i, .str j => decide (i = j)
  | _, _ => false
def eqP (x y : PyData) : Option Bool := if scalD x y = true then some (eqS x y) else if SeqAt.shaped x = true ∧ SeqAt.shaped y = true then some (PyData.eqv x y) else none
def oEq (n : Bool) : F2 := fun a b S => match a, b with
  | .d x, .d y => (eqP x y).map fun z => (.d (.bool (if n then !z else z)), S)
  | _, _ => none
theorem scal_of {A : Wd} {x y : V} {a b : PyData} (ra : DR K tb A x a) (rb : DR K tb A y b) (h : scalD a b = true) : scal x y = true ∧ decide (x = y) = eqS a b := by
  cases ra <;> cases rb <;> first | exact absurd (show false = true from h) Bool.false_ne_true | exact ⟨rfl, rfl⟩ | exact ⟨rfl, decide_eq_false (fun z => nomatch z)⟩ | (refine ⟨rfl, ?_⟩; show decide _ = decide _; congr 1; simp)
abbrev rEqA (K : PySem.W.Frag) : R2 := fun x y H Q => rEq x y H Q ∨ rEqD K x y H Q
abbrev rNeA (K : PySem.W.Frag) : R2 := fun x y H Q => rNe x y H Q ∨ rNeD K x y H Q
theorem eqP_run {A : Wd} {x y : V} {a b : PyData} {z : Bool} (ra : DR K tb A x a) (rb : DR K tb A y b) (h : eqP a b = some z) :
    (scal x y = true ∧ decide (x = y) = z) ∨ (SeqAt.shaped a = true ∧ SeqAt.shaped b = true ∧ PyData.eqv a b = z) := by
  unfold eqP at h
  split at h
  · rename_i hs
    cases h
    exact .inl (scal_of ra rb hs)
  · split at h
    · rename_i hs
      cases h
      exact .inr ⟨hs.1, hs.2, rfl⟩
    · cases h
theorem oEq_some {n : Bool} {a b : W} {S S' : Mem} {w : W} (h : oEq n a b S = some (w, S')) : ∃ x y z, a = .d x ∧ b = .d y ∧ eqP x y = some z ∧ w = .d (.bool (if n then !z else z)) ∧ S' = S := by
  unfold oEq at h
  split at h
  · rename_i x y
    obtain ⟨z, e1, e2⟩ := Option.map_eq_some_iff.mp h
    cases e2
    exact ⟨x, y, z, rfl, rfl, e1, rfl, rfl⟩
  · cases h
theorem sr_eq : SR K tb (rEqA K) (oEq false) := fun A x y a b S w S' Q R ra rb e q => by
  obtain ⟨u, v, z, rfl, rfl, e1, rfl, rfl⟩ := oEq_some e
  rcases eqP_run (show DR K tb A x u from ra) (show DR K tb A y v from rb) e1 with ⟨h1, h2⟩ | ⟨h1, h2, h3⟩
  · exact .inl ⟨h1, by rw [h2]; exact q _ A .refl R (DR.bl z)⟩
  · exact .inr ⟨u, v, DR.dp u ra (SeqAt.canLay_of_shaped h1), DR.dp v rb (SeqAt.canLay_of_shaped h2), h1, h2, by rw [h3]; exact q _ A .refl R (DR.bl z)⟩
theorem sr_ne : SR K tb (rNeA K) (oEq true) := fun A x y a b S w S' Q R ra rb e q => by
  obtain ⟨u, v, z, rfl, rfl, e1, rfl, rfl⟩ := oEq_some e
  rcases eqP_run (show DR K tb A x u from ra) (show DR K tb A y v from rb) e1 with ⟨h1, h2⟩ | ⟨h1, h2, h3⟩
  · exact .inl ⟨h1, by rw [h2]; exact q _ A .refl R (DR.bl (!z))⟩
  · exact .inr ⟨u, v, DR.dp u ra (SeqAt.canLay_of_shaped h1), DR.dp v rb (SeqAt.canLay_of_shaped h2), h1, h2, by rw [h3]; exact q _ A .refl R (DR.bl (!z))⟩
theorem op_eqA {X : Cx} (hu : X.A.units + 64 < cLine) : OpR X (compareOp .Eq) (rEqA X.K) := fun pins s σ H x y v u Q I rx ry h => h.elim (fun h => op_eq pins s σ H x y v u Q I rx ry h) (fun h => op_eqD hu pins s σ H x y v u Q I rx ry h)
theorem op_neA {X : Cx} (hu : X.A.units + 64 < cLine) : OpR X (compareOp .NotEq) (rNeA X.K) := fun pins s σ H x y v u Q I rx ry h => h.elim (fun h => op_ne pins s σ H x y v u Q I rx ry h) (fun h => op_neD hu pins s σ H x y v u Q I rx ry h)
/-- is None, is not None -/
def isNonW : W → Bool
  | .d .none => true
  | _ => false
def oIsN (n : Bool) : F2 := fun a b S => match b with
  | .d .none => some (.d (.bool (if n then !isNonW a else isNonW a)), S)
  | _ => none
theorem isNon_of {A : Wd} {x : V} {a : W} (h : WR K tb A x a) : decide (x = V.non) = isNonW a := by
  cases a with
  | d y => cases (show DR K tb A x y from h) <;> first | rfl | exact decide_eq_false (fun z => nomatch z)
  | loc n => obtain ⟨a, rfl, _⟩ := h; exact decide_eq_false (fun z => nomatch z)
theorem oIsN_some {n : Bool} {a b : W} {S S' : Mem} {w : W} (h : oIsN n a b S = some (w, S')) : b = .d .none ∧ w = .d (.bool (if n then !isNonW a else isNonW a)) ∧ S' = S := by
  unfold oIsN at h
  split at h
  · cases h; exact ⟨rfl, rfl, rfl⟩
  · cases h
theorem sr_isN : SR K tb (fun x y H Q => y = .non ∧ Q (.bl (decide (x = .non))) H) (oIsN false) := fun A x y a b S w S' Q R ra rb e q => by
  obtain ⟨rfl, rfl, rfl⟩ := oIsN_some e
  exact ⟨rb.non, by rw [isNon_of ra]; exact q _ A .refl R (DR.bl _)⟩
theorem sr_notN : SR K tb (fun x y H Q => y = .non ∧ Q (.bl (!decide (x = .non))) H) (oIsN true) := fun A x y a b S w S' Q R ra rb e q => by
  obtain ⟨rfl, rfl, rfl⟩ := oIsN_some e
  exact ⟨rb.non, by rw [isNon_of ra]; exact q _ A .refl R (DR.bl _)⟩
/-! ### tests -/
def eB (m : ME) : MT := fun ρ S => (m ρ S).bind fun p => match p.1 with
  | .d (.bool b) => some (b, p.2)
  | _ => none
theorem eB_some {m : ME} {ρ : Env'} {S S' : Mem} {b : Bool} (h : eB m ρ S = some (b, S')) : m ρ S = some (.d (.bool b), S') := by
  obtain ⟨p, e1, e⟩ := Option.bind_eq_some_iff.mp h
  obtain ⟨w, S1⟩ := p
  dsimp only at e
  split at e
  · cases e; exact e1
  · cases e
theorem st_of {te : TE} {m : ME} {t : TT} (h : SE K tb te m) (ht : ∀ σ H Q, te σ H (fun x H1 => ∃ k, x = .bl k ∧ Q k H1) → t σ H Q) : ST K tb t (eB m) := fun A σ ρ S b S' Q R E e q => by
  refine ht _ _ _ (h A σ ρ S _ S' _ R E (eB_some e) fun v B N R' r => ?_)
  exact ⟨b, r.bl, q B N R'⟩
theorem st_test {te : TE} {m : ME} (h : SE K tb te m) : ST K tb (tTest te) (eB m) := st_of h fun _ _ _ z => z
theorem st_val {te : TE} {m : ME} (h : SE K tb te m) : ST K tb (tB te) (eB m) := st_of h fun _ _ _ z => z
def eAnd (a b : MT) : MT := fun ρ S => (a ρ S).bind fun p => if p.1 = true then b ρ p.2 else some (false, p.2)
def eOr (a b : MT) : MT := fun ρ S => (a ρ S).bind fun p => if p.1 = true then some (true, p.2) else b ρ p.2
def eNot (a : MT) : MT := fun ρ S => (a ρ S).bind fun p => some (!p.1, p.2)
theorem st_and {t u : TT} {a b : MT} (ha : ST K tb t a) (hb : ST K tb u b) : ST K tb (tAnd t u) (eAnd a b) := fun A σ ρ S c S' Q R E e q => by
  obtain ⟨⟨k, S1⟩, e1, e⟩ := Option.bind_eq_some_iff.mp e
  refine ha A σ ρ S k S1 _ R E e1 fun B N R1 => ?_
  cases k with
  | true => exact hb B σ ρ S1 c S' Q R1 (E.nxt N) e fun C N2 R2 => q C (N.trans N2) R2
  | false => cases e; exact q B N R1
theorem st_or {t u : TT} {a b : MT} (ha : ST K tb t a) (hb : ST K tb u b) : ST K tb (tOr t u) (eOr a b) := fun A σ ρ S c S' Q R E e q => by
  obtain ⟨⟨k, S1⟩, e1, e⟩ := Option.bind_eq_some_iff.mp e
  refine ha A σ ρ S k S1 _ R E e1 fun B N R1 => ?_
  cases k with
  | false => exact hb B σ ρ S1 c S' Q R1 (E.nxt N) e fun C N2 R2 => q C (N.trans N2) R2
  | true => cases e; exact q B N R1
theorem st_not {t : TT} {a : MT} (ha : ST K tb t a) : ST K tb (tNot t) (eNot a) := fun A σ ρ S c S' Q R E e q => by
  obtain ⟨⟨k, S1⟩, e1, e⟩ := Option.bind_eq_some_iff.mp e
  cases e
  exact ha A σ ρ S k _ _ R E e1 fun B N R1 => q B N R1
/-- and, or, not as values -/
def eT (a : MT) : ME := fun ρ S => (a ρ S).bind fun p => some (.d (.bool p.1), p.2)
def eAndV (a b : ME) : ME := fun ρ S => (eB a ρ S).bind fun p => if p.1 = true then b ρ p.2 else some (.d (.bool false), p.2)
def eOrV (a b : ME) : ME := fun ρ S => (eB a ρ S).bind fun p => if p.1 = true then some (.d (.bool true), p.2) else b ρ p.2
def eNotV (a : ME) : ME := fun ρ S => (eB a ρ S).bind fun p => some (.d (.bool (!p.1)), p.2)
theorem se_andV {ta tb' : TE} {a b : ME} (ha : SE K tb ta a) (hb : SE K tb tb' b) : SE K tb (tAndV ta tb') (eAndV a b) := fun A σ ρ S w S' Q R E e q => by
  obtain ⟨⟨k, S1⟩, e1, e⟩ := Option.bind_eq_some_iff.mp e
  refine ha A σ ρ S _ S1 _ R E (eB_some e1) fun v B N R1 r1 => ⟨k, r1.bl, ?_⟩
  cases k with
  | true => exact hb B σ ρ S1 w S' Q R1 (E.nxt N) e (q.nxt N)
  | false => cases e; exact q _ B N R1 (DR.bl false)
theorem se_orV {ta tb' : TE} {a b : ME} (ha : SE K tb ta a) (hb : SE K tb tb' b) : SE K tb (tOrV ta tb') (eOrV a b) := fun A σ ρ S w S' Q R E e q => by
  obtain ⟨⟨k, S1⟩, e1, e⟩ := Option.bind_eq_some_iff.mp e
  refine ha A σ ρ S _ S1 _ R E (eB_some e1) fun v B N R1 r1 => ⟨k, r1.bl, ?_⟩
  cases k with
  | false => exact hb B σ ρ S1 w S' Q R1 (E.nxt N) e (q.nxt N)
  | true => cases e; exact q _ B N R1 (DR.bl true)
theorem se_notV {ta : TE} {a : ME} (ha : SE K tb ta a) : SE K tb (tNotV ta) (eNotV a) := fun A σ ρ S w S' Q R E e q => by
  obtain ⟨⟨k, S1⟩, e1, e⟩ := Option.bind_eq_some_iff.mp e
  cases e
  exact ha A σ ρ S _ _ _ R E (eB_some e1) fun v B N R1 r1 => ⟨k, r1.bl, q _ B N R1 (DR.bl _)⟩
def eIf (c : MT) (a b : ME) : ME := fun ρ S => (c ρ S).bind fun p => if p.1 = true then a ρ p.2 else b ρ p.2
theorem se_if {t : TT} {ta tb' : TE} {c : MT} {a b : ME} (hc : ST K tb t c) (ha : SE K tb ta a) (hb : SE K tb tb' b) : SE K tb (tIf t ta tb') (eIf c a b) := fun A σ ρ S w S' Q R E e q => by
  obtain ⟨⟨k, S1⟩, e1, e⟩ := Option.bind_eq_some_iff.mp e
  refine hc A σ ρ S k S1 _ R E e1 fun B N R1 => ?_
  cases k with
  | true => exact ha B σ ρ S1 w S' Q R1 (E.nxt N) e (q.nxt N)
  | false => exact hb B σ ρ S1 w S' Q R1 (E.nxt N) e (q.nxt N)
/-- a chain of two comparisons -/
def eChain (f g : F2) (a b c : ME) : ME := fun ρ S => (a ρ S).bind fun p => (b ρ p.2).bind fun q => (f p.1 q.1 q.2).bind fun z => match z.1 with
  | .d (.bool true) => (c ρ z.2).bind fun u => g q.1 u.1 u.2
  | .d (.bool false) => some (.d (.bool false), z.2)
  | _ => none
/-! ### arguments, displays -/
def aNil : MA := fun _ S => some ([], S)
def aCons (a : ME) (t : MA) : MA := fun ρ S => (a ρ S).bind fun p => (t ρ p.2).bind fun q => some (p.1 :: q.1, q.2)
theorem sa_nil : SA K tb tNil aNil := fun A σ ρ S ws S' Q R E e q => by cases e; exact q [] A .refl R .nil
theorem sa_cons {ta : TE} {t : TA} {a : ME} {m : MA} (ha : SE K tb ta a) (ht : SA K tb t m) : SA K tb (tCons ta t) (aCons a m) := fun A σ ρ S ws S' Q R E e q => by
  obtain ⟨p, e1, e⟩ := Option.bind_eq_some_iff.mp e
  obtain ⟨z, e2, e⟩ := Option.bind_eq_some_iff.mp e
  cases e
  exact ha A σ ρ S p.1 p.2 _ R E e1 fun x B N R1 r1 => ht B σ ρ p.2 z.1 z.2 _ R1 (E.nxt N) e2 fun xs C N2 R2 r2 => q _ C (N.trans N2) R2 (.cons (r1.nxt N2) r2)
/-- the data of values, if they are data -/
def dOf : List W → Option (List PyData)
  | [] => some []
  | .d x :: ws => (dOf ws).map (x :: ·)
  | .loc _ :: _ => none
theorem drs_of {A : Wd} : ∀ {vs : List V} {ws : List W} {ds : List PyData}, WRs K tb A vs ws → dOf ws = some ds → DRs K tb A vs ds
  | _, [], _, .nil, e => by cases e; exact .nil
  | _, .d x :: ws, _, .cons r t, e => by
    obtain ⟨ds, e1, e2⟩ := Option.map_eq_some_iff.mp e
    subst e2
    exact .cons r (drs_of t e1)
  | _, .loc n :: ws, _, .cons r t, e => by cases e
theorem wrs_of {A : Wd} : ∀ {vs : List V} {ds : List PyData}, DRs K tb A vs ds → WRs K tb A vs (ds.map .d)
  | _, [], h => by cases h; exact .nil
  | _, d :: ds, h => by cases h with | cons a b => exact .cons a (wrs_of b)
theorem dOf_length : ∀ {ws : List W} {ds : List PyData}, dOf ws = some ds → ws.length = ds.length
  | [], _, e => by cases e; rfl
  | .d x :: ws, _, e => by
    obtain ⟨ds, e1, e2⟩ := Option.map_eq_some_iff.mp e
    subst e2
    simp [dOf_length e1]
  | .loc n :: ws, _, e => by cases e
theorem dOf_map : ∀ {ds : List PyData}, dOf (ds.map .d) = some ds
  | [] => rfl
  | d :: ds => by show (dOf (ds.map .d)).map _ = _; rw [dOf_map]; rfl
/-- a tuple; a list that is never changed; a list that may be changed -/
def mkT (ws : List W) (S : Mem) : Option (W × Mem) := (dOf ws).bind fun ds => if ds.length ≤ sizeLine then some (.d (.tuple ds), S) else none
def mkF (ws : List W) (S : Mem) : Option (W × Mem) := (dOf ws).bind fun ds => if ds.length ≤ sizeLine then some (.d (.list ds), S) else none
def mkL (ws : List W) (S : Mem) : Option (W × Mem) := if ws.length ≤ sizeLine then some (.loc S.length, S ++ [.lst ws]) else none
def eTup (a : MA) : ME := fun ρ S => (a ρ S).bind fun p => mkT p.1 p.2
def eLstF (a : MA) : ME := fun ρ S => (a ρ S).bind fun p => mkF p.1 p.2
def eLstL (a : MA) : ME := fun ρ S => (a ρ S).bind fun p => mkL p.1 p.2
theorem WRs.length {A : Wd} {vs : List V} {ws : List W} (h : WRs K tb A vs ws) : vs.length = ws.length := Paired.length h
theorem mkT_run {A : Wd} {vs : List V} {ws : List W} {S S' : Mem} {w : W} {Q : VK} (R : Rep K tb A S) (r : WRs K tb A vs ws) (h : mkT ws S = some (w, S')) (q : Pd.KE K tb A w S' Q) : vs.length ≤ sizeLine ∧ ∀ p, A.H p = none → Q (.ref p) (upd A.H p (.tup vs)) := by
  obtain ⟨ds, e1, e⟩ := Option.bind_eq_some_iff.mp h
  split at e
  · rename_i hl
    cases e
    have rd := drs_of r e1
    refine ⟨by rw [rd.length]; exact hl, fun p hp => ?_⟩
    exact q _ (A.put p (.tup vs)) (.put hp _) (R.put hp _) (DR.tup (.inl (.put R hp _)) (DRs.nxt (.put hp _) ds rd))
  · cases e
theorem mkF_run {A : Wd} {vs : List V} {ws : List W} {S S' : Mem} {w : W} {Q : VK} (R : Rep K tb A S) (r : WRs K tb A vs ws) (h : mkF ws S = some (w, S')) (q : Pd.KE K tb A w S' Q) : vs.length ≤ sizeLine ∧ ∀ p, A.H p = none → Q (.ref p) (upd A.H p (.lst vs)) := by
  obtain ⟨ds, e1, e⟩ := Option.bind_eq_some_iff.mp h
  split at e
  · rename_i hl
    cases e
    have rd := drs_of r e1
    refine ⟨by rw [rd.length]; exact hl, fun p hp => ?_⟩
    exact q _ (A.put p (.lst vs)) (.put hp _) (R.put hp _) (DR.lst (.put R hp _) (DRs.nxt (.put hp _) ds rd))
  · cases e
theorem mkL_run {A : Wd} {vs : List V} {ws : List W} {S S' : Mem} {w : W} {Q : VK} (R : Rep K tb A S) (r : WRs K tb A vs ws) (h : mkL ws S = some (w, S')) (q : Pd.KE K tb A w S' Q) : vs.length ≤ sizeLine ∧ ∀ p, A.H p = none → Q (.ref p) (upd A.H p (.lst vs)) := by
  unfold mkL at h
  split at h
  · rename_i hl
    cases h
    refine ⟨by rw [WRs.length r]; exact hl, fun p hp => ?_⟩
    refine q _ (A.add p (.lst vs)) (.add hp _) (R.add hp ⟨vs, upd_same, r.nxt (.add hp _)⟩) ⟨p, rfl, ?_⟩
    show (A.ι ++ [p])[S.length]? = some p
    rw [← R.len]; simp
  · cases h
theorem se_tup {t : TA} {a : MA} (ha : SA K tb t a) : SE K tb (tTup t) (eTup a) := fun A σ ρ S w S' Q R E e q => by
  obtain ⟨p, e1, e⟩ := Option.bind_eq_some_iff.mp e
  exact ha A σ ρ S p.1 p.2 _ R E e1 fun vs B N R1 r1 => mkT_run R1 r1 e (q.nxt N)
theorem se_lstF {t : TA} {a : MA} (ha : SA K tb t a) : SE K tb (tLst t) (eLstF a) := fun A σ ρ S w S' Q R E e q => by
  obtain ⟨p, e1, e⟩ := Option.bind_eq_some_iff.mp e
  exact ha A σ ρ S p.1 p.2 _ R E e1 fun vs B N R1 r1 => mkF_run R1 r1 e (q.nxt N)
theorem se_lstL {t : TA} {a : MA} (ha : SA K tb t a) : SE K tb (tLst t) (eLstL a) := fun A σ ρ S w S' Q R E e q => by
  obtain ⟨p, e1, e⟩ := Option.bind_eq_some_iff.mp e
  exact ha A σ ρ S p.1 p.2 _ R E e1 fun vs B N R1 r1 => mkL_run R1 r1 e (q.nxt N)
/-! ### statements -/
def sNx : MS := fun ρ S => some (.nx, ρ, S)
def sSeq (a b : MS) : MS := fun ρ S => (a ρ S).bind fun p => match p.1 with
  | .nx => b p.2.1 p.2.2
  | o => some (o, p.2)
def sIf (c : MT) (a b : MS) : MS := fun ρ S => (c ρ S).bind fun p => if p.1 = true then a ρ p.2 else b ρ p.2
def sRet (a : ME) : MS := fun ρ S => (a ρ S).bind fun p => some (.rt p.1, ρ, p.2)
def sDrop (a : ME) : MS := fun ρ S => (a ρ S).bind fun p => some (.nx, ρ, p.2)
def sAsg (a : ME) (g : MG) : MS := fun ρ S => (a ρ S).bind fun p => (g p.1 ρ p.2).bind fun q => some (.nx, q.1, q.2)
def sBrk : MS := fun ρ S => some (.bk, ρ, S)
def sCt : MS := fun ρ S => some (.ct, ρ, S)
def sNone : MS := fun _ _ => none
theorem ss_nil : SS K tb tNext sNx := fun A σ ρ S o ρ' S' D R E e q => by cases e; exact q A σ .refl R E
theorem ss_brk : SS K tb tBreak sBrk := fun A σ ρ S o ρ' S' D R E e q => by cases e; exact q A σ .refl R E
theorem ss_ct : SS K tb tCont sCt := fun A σ ρ S o ρ' S' D R E e q => by cases e; exact q A σ .refl R E
/-- a statement that is never reached -/
theorem ps_none {X : Cx} {st : Stmt} : PS X st tNever := ⟨fun _ _ _ _ _ _ h => h.elim⟩
theorem ss_none : SS K tb tNever sNone := fun A σ ρ S o ρ' S' D R E e q => by cases e
theorem ss_seq {t u : TS} {a b : MS} (ha : SS K tb t a) (hb : SS K tb u b) : SS K tb (tSeq t u) (sSeq a b) := fun A σ ρ S o ρ' S' D R E e q => by
  obtain ⟨⟨o1, ρ1, S1⟩, e1, e⟩ := Option.bind_eq_some_iff.mp e
  refine ha A σ ρ S o1 ρ1 S1 _ R E e1 ?_
  cases o1 with
  | nx => exact fun B σ' N R' E' => hb B σ' ρ1 S1 o ρ' S' D R' E' e (q.nxt N)
  | bk => cases e; exact q
  | ct => cases e; exact q
  | rt w => cases e; exact q
theorem ss_if {c : TT} {t u : TS} {m : MT} {a b : MS} (hc : ST K tb c m) (ha : SS K tb t a) (hb : SS K tb u b) : SS K tb (tIfS c t u) (sIf m a b) := fun A σ ρ S o ρ' S' D R E e q => by
  obtain ⟨⟨k, S1⟩, e1, e⟩ := Option.bind_eq_some_iff.mp e
  refine hc A σ ρ S k S1 _ R E e1 fun B N R1 => ?_
  cases k with
  | true => exact ha B σ ρ S1 o ρ' S' D R1 (E.nxt N) e (q.nxt N)
  | false => exact hb B σ ρ S1 o ρ' S' D R1 (E.nxt N) e (q.nxt N)
theorem ss_ret {te : TE} {a : ME} (ha : SE K tb te a) : SS K tb (tRet te) (sRet a) := fun A σ ρ S o ρ' S' D R E e q => by
  obtain ⟨p, e1, e⟩ := Option.bind_eq_some_iff.mp e
  cases e
  exact ha A σ ρ S p.1 p.2 _ R E e1 fun v B N R1 r => q B v N R1 r
theorem ss_drop {te : TE} {a : ME} (ha : SE K tb te a) : SS K tb (tDrop te) (sDrop a) := fun A σ ρ S o ρ' S' D R E e q => by
  obtain ⟨p, e1, e⟩ := Option.bind_eq_some_iff.mp e
  cases e
  exact ha A σ ρ S p.1 p.2 _ R E e1 fun v B N R1 r => q B σ N R1 (E.nxt N)
theorem ss_asg {te : TE} {a : ME} {g : TG} {m : MG} {vs : List Nat} (ha : SE K tb te a) (hg : SG K tb vs g m) : SS K tb (tAsg te g) (sAsg a m) := fun A σ ρ S o ρ' S' D R E e q => by
  obtain ⟨p, e1, e⟩ := Option.bind_eq_some_iff.mp e
  obtain ⟨z, e2, e⟩ := Option.bind_eq_some_iff.mp e
  cases e
  exact ha A σ ρ S p.1 p.2 _ R E e1 fun v B N R1 r => hg B v p.1 σ ρ p.2 z.1 z.2 _ R1 (E.nxt N) r e2 fun C σ' N2 R2 E2 _ _ => q C σ' (N.trans N2) R2 E2
/-! ### targets -/
def gN (i : Nat) : MG := fun w ρ S => some (ρ.set i (some w), S)
theorem sg_name (i : Nat) : SG K tb [i] (gName i) (gN i) := fun A v w σ ρ S ρ' S' Q R E r e q => by
  cases e
  refine q A _ .refl R (E.set r i) (by rw [List.length_set]) fun j hj => ?_
  rw [List.getElem?_set_ne (fun z => hj (by rw [z]; exact List.mem_singleton.mpr rfl))]
abbrev MGs := List PyData → Env' → Mem → Option (Env' × Mem)
def SGs (K : PySem.W.Frag) (tb : List Addr) (vs : List Nat) (g : TGs) (m : MGs) : Prop := ∀ A xs ds σ ρ S ρ' S' (Q : L2.St → Hp → Prop), Rep K tb A S → ER K tb A σ ρ → DRs K tb A xs ds → m ds ρ S = some (ρ', S') →
  (∀ B σ', Nxt tb A B → Rep K tb B S' → ER K tb B σ' ρ' → σ'.length = σ.length → (∀ j, j ∉ vs → σ'[j]? = σ[j]?) → Q σ' B.H) → g xs σ A.H Q
def gsNil : MGs := fun ds ρ S => match ds with
  | [] => some (ρ, S)
  | _ => none
def gsCons (g : MG) (m : MGs) : MGs := fun ds ρ S => match ds with
  | [] => none
  | d :: ds => (g (.d d) ρ S).bind fun p => m ds p.1 p.2
def gTup' (m : MGs) : MG := fun w ρ S => match w with
  | .d (.tuple ds) => m ds ρ S
  | _ => none
theorem sgs_nil : SGs K tb [] gNil gsNil := fun A xs ds σ ρ S ρ' S' Q R E r e q => by
  unfold gsNil at e
  split at e
  · cases e; cases r; exact ⟨rfl, q A σ .refl R E rfl fun _ _ => rfl⟩
  · cases e
theorem sgs_cons {vs us : List Nat} {g : TG} {u : TGs} {m : MG} {n : MGs} (hg : SG K tb vs g m) (hu : SGs K tb us u n) : SGs K tb (vs ++ us) (gCons g u) (gsCons m n) := fun A xs ds σ ρ S ρ' S' Q R E r e q => by
  cases ds with
  | nil => cases e
  | cons d ds =>
    obtain ⟨p, e1, e⟩ := Option.bind_eq_some_iff.mp e
    cases r with
    | cons a b =>
      refine ⟨_, _, rfl, hg A _ (.d d) σ ρ S p.1 p.2 _ R E a e1 fun B σ' N R1 E1 hl hj => ?_⟩
      refine hu B _ ds σ' p.1 p.2 ρ' S' Q R1 E1 (DRs.nxt N ds b) e fun C σ2 N2 R2 E2 hl2 hj2 => q C σ2 (N.trans N2) R2 E2 (hl2.trans hl) fun j hn => ?_
      rw [List.mem_append, not_or] at hn
      exact (hj2 j hn.2).trans (hj j hn.1)
/-- how many the target takes -/
def SGlen (n : Nat) (m : MGs) : Prop := ∀ ds ρ S r, m ds ρ S = some r → ds.length = n
theorem glen_nil : SGlen 0 gsNil := fun ds ρ S r e => by
  unfold gsNil at e
  split at e
  · rfl
  · cases e
theorem glen_cons {n : Nat} {g : MG} {m : MGs} (h : SGlen n m) : SGlen (n + 1) (gsCons g m) := fun ds ρ S r e => by
  cases ds with
  | nil => cases e
  | cons d ds =>
    obtain ⟨p, e1, e⟩ := Option.bind_eq_some_iff.mp e
    simp [h _ _ _ _ e]
theorem sg_tup {n : Nat} {vs : List Nat} {g : TGs} {m : MGs} (hl : SGlen n m) (h : SGs K tb vs g m) : SG K tb vs (gTup K n g) (gTup' m) := fun A v w σ ρ S ρ' S' Q R E r e q => by
  unfold gTup' at e
  split at e
  · rename_i ds
    obtain ⟨a, xs, rfl, f, rd⟩ := r.tup
    exact ⟨a, xs, rfl, f.sq, by rw [rd.length]; exact hl _ _ _ _ e, h A xs ds σ ρ S ρ' S' Q R E rd e q⟩
  · cases e
end
end Pd
namespace Pd
open PySem PySem.Spec PyProof.Rows L2 GxR Gx
/-! ### defs -/
abbrev MF := List W → Mem → Option (W × Mem)
section
variable {K : PySem.W.Frag} {tb : List Addr}
def spD (K : PySem.W.Frag) (tb : List Addr) (n : Nat) (m : MF) : Sp := fun vs H Q _ => vs.length = n ∧ ∃ (A : Wd) (ws : List W) (S : Mem) (w : W) (S' : Mem), A.H = H ∧ WRs K tb A vs ws ∧ Rep K tb A S ∧ m ws S = some (w, S') ∧ Pd.KE K tb A w S' Q
def Ar (n : Nat) (m : MF) : Prop := ∀ ws S r, m ws S = some r → ws.length = n
def eCall (m : MF) (a : MA) : ME := fun ρ S => (a ρ S).bind fun p => m p.1 p.2
theorem se_call {n : Nat} {m : MF} {t : TA} {a : MA} {E : XK} (h : Ar n m) (ha : SA K tb t a) : SE K tb (tCall (spD K tb n m) [] E t) (eCall m a) := fun A σ ρ S w S' Q R E e q => by
  obtain ⟨p, e1, e⟩ := Option.bind_eq_some_iff.mp e
  refine ha A σ ρ S p.1 p.2 _ R E e1 fun vs B N R1 r1 => ?_
  rw [List.append_nil]
  exact ⟨by rw [WRs.length r1]; exact h _ _ _ e, B, p.1, p.2, w, S', rfl, r1, R1, e, q.nxt N⟩
def mNone : MF := fun _ _ => none
theorem ar_none {n : Nat} : Ar n mNone := fun _ _ _ h => nomatch h
/-- the locations of an object stand below n -/
def wLt (n : Nat) : W → Bool
  | .d _ => true
  | .loc k => decide (k < n)
def obLt (n : Nat) : Ob → Bool
  | .lst ws => ws.all (wLt n)
  | .dct kvs => kvs.all fun p => wLt n p.2
  | .ins _ fs => fs.all fun p => wLt n p.2
/-- a def's end: its own lists are given up, the one that it returns is never changed again -/
def fin (f : Bool) (n : Nat) (w : W) (S : Mem) : Option (W × Mem) := if f = false then some (w, S) else
  if (S.take n).all (obLt n) = true then match w with
    | .d x => some (.d x, S.take n)
    | .loc k => if k < n then some (.loc k, S.take n) else match S[k]? with
      | some (.lst ws) => (dOf ws).map fun ds => (.d (.list ds), S.take n)
      | _ => none
  else none
theorem wLt_wr {A : Wd} {n : Nat} {v : V} {w : W} (R : WR K tb A v w) (h : wLt n w = true) : WR K tb { A with ι := A.ι.take n } v w := by
  cases w with
  | d x =>
    have key : ∀ {a : Addr} {u : HO}, Fz tb A a u → Fz tb { A with ι := A.ι.take n } a u := fun {a u} z => ⟨fun m => z.1 (m.imp (fun y => List.mem_of_mem_take y) id), z.2⟩
    have all : (∀ (v : V) (x : PyData), DR K tb A v x → DR K tb { A with ι := A.ι.take n } v x) := by
      intro v x h
      exact DR.rec (motive_1 := fun v x _ => DR K tb { A with ι := A.ι.take n } v x) (motive_2 := fun vs xs _ => DRs K tb { A with ι := A.ι.take n } vs xs)
        .non .bl .int .str (fun f _ r => .lst (key f) r) (fun f _ r => .scr (f.imp key id) r) (fun f _ r => .tup (f.imp key id) r) .nil (fun _ _ a b => .cons a b) h
    exact all v x R
  | loc k =>
    obtain ⟨a, e, i⟩ := R
    have hk : k < n := of_decide_eq_true h
    exact ⟨a, e, by show (A.ι.take n)[k]? = some a; rw [List.getElem?_take_of_lt hk]; exact i⟩
theorem drs_map {A B : Wd} (all : ∀ (x : PyData) (v : V), DR K tb A v x → DR K tb B v x) : ∀ {vs : List V} {ds : List PyData}, DRs K tb A vs ds → DRs K tb B vs ds
  | _, [], h => by cases h; exact .nil
  | _, d :: ds, h => by cases h with | cons a b => exact .cons (all _ _ a) (drs_map all b)
theorem fin_run {A B : Wd} {S S' : Mem} {f : Bool} {v : V} {w w' : W} {S'' : Mem} {Q : VK} (R0 : Rep K tb A S) (N : Nxt tb A B) (R : Rep K tb B S') (r : WR K tb B v w) (h : fin f S.length w S' = some (w', S'')) (q : Pd.KE K tb A w' S'' Q) : Q v B.H := by
  unfold fin at h
  split at h
  · cases h; exact q v B N R r
  split at h
  · rename_i hall
    obtain ⟨more, em⟩ := N.pre
    have et : B.ι.take S.length = A.ι := by rw [em, ← R0.len, List.take_left]
    let C : Wd := { B with ι := B.ι.take S.length }
    have up : ∀ {b : Addr}, b ∈ A.ι → b ∈ B.ι := fun {b} z => by rw [em]; exact List.mem_append_left _ z
    have NC : Nxt tb A C := ⟨N.hid, N.hid2, N.more, ⟨[], by show B.ι.take S.length = _; rw [et, List.append_nil]⟩, fun b o n t e => ⟨(N.keep b o n t e).1, fun z => n (by have z' : b ∈ B.ι.take S.length := z; rwa [et] at z')⟩⟩
    have obC : ∀ {ob : Ob} {a : Addr}, OR K tb B ob a → obLt S.length ob = true → OR K tb C ob a := fun {ob a} z hl => by
      cases ob with
      | lst ws =>
        obtain ⟨vs, e, rr⟩ := z
        refine ⟨vs, e, ?_⟩
        have hl : ws.all (wLt S.length) = true := hl
        clear e h hall
        induction rr with
        | nil => exact .nil
        | cons a b ih =>
          rw [List.all_cons, Bool.and_eq_true] at hl
          exact .cons (wLt_wr a hl.1) (ih hl.2 hl.2)
      | dct kvs =>
        obtain ⟨vs, e, rr⟩ := z
        refine ⟨vs, e, ?_⟩
        have hl : (kvs.all fun p => wLt S.length p.2) = true := hl
        clear e h hall
        induction rr with
        | nil => exact .nil
        | cons a b ih =>
          rw [List.all_cons, Bool.and_eq_true] at hl
          exact .cons ⟨a.1, wLt_wr a.2 hl.1⟩ (ih hl.2 hl.2)
      | ins CC fs =>
        obtain ⟨dx, vs, e, rr⟩ := z
        refine ⟨dx, vs, e, ?_⟩
        have hl : (fs.all fun p => wLt S.length p.2) = true := hl
        clear e h hall
        induction rr with
        | nil => exact .nil
        | cons a b ih =>
          rw [List.all_cons, Bool.and_eq_true] at hl
          exact .cons ⟨a.1, wLt_wr a.2 hl.1⟩ (ih hl.2 hl.2)
    have RC : Rep K tb C (S'.take S.length) := by
      refine ⟨?_, ?_, R.tabs, fun b hb => ?_, fun n a ob e1 e2 => ?_⟩
      · show (B.ι.take S.length).length = _
        rw [List.length_take, List.length_take, R.len]
      · exact R.nd.sublist (List.take_sublist _ _)
      · obtain ⟨h1, h2, h3⟩ := R.hd b hb
        exact ⟨h1, fun z => h2 (List.mem_of_mem_take z), h3⟩
      · have e1 : (B.ι.take S.length)[n]? = some a := e1
        have hn : n < S.length := by
          have := (List.getElem?_eq_some_iff.mp e1).1
          rw [List.length_take] at this
          omega
        have e2' := e2
        rw [List.getElem?_take_of_lt hn] at e1 e2
        exact obC (R.at_ n a ob e1 e2) (List.all_eq_true.mp hall ob (List.mem_of_getElem? e2'))
    cases w with
    | d x =>
      cases h
      exact q v C NC RC (wLt_wr (w := .d x) r rfl)
    | loc k =>
      dsimp only at h
      split at h
      · rename_i hk
        cases h
        exact q v C NC RC (wLt_wr (w := .loc k) r (decide_eq_true hk))
      · rename_i hk
        split at h
        · rename_i ws ek
          obtain ⟨ds, e1, e2⟩ := Option.map_eq_some_iff.mp h
          cases e2
          obtain ⟨a, rfl, ei⟩ := r
          have o := R.at_ k a _ ei ek
          obtain ⟨vs, ev, rr⟩ := o
          refine q _ C NC RC (DR.lst ⟨?_, .inl ev⟩ ?_)
          · rintro (z | z | z)
            · have z : a ∈ B.ι.take S.length := z
              obtain ⟨j, hj, ej⟩ := List.getElem_of_mem z
              have ej' : (B.ι.take S.length)[j]? = some a := by rw [List.getElem?_eq_getElem hj, ej]
              have hjl : j < S.length := by rw [List.length_take] at hj; omega
              rw [List.getElem?_take_of_lt hjl] at ej'
              obtain ⟨h1, q1⟩ := List.getElem?_eq_some_iff.mp ej'
              obtain ⟨h2, q2⟩ := List.getElem?_eq_some_iff.mp ei
              have := (List.getElem_inj R.nd).mp (q1.trans q2.symm)
              omega
            · exact R.tab_ne (List.mem_of_getElem? ei) z rfl
            · exact (R.hd a z).2.1 (List.mem_of_getElem? ei)
          · have rd := drs_of rr e1
            have all : ∀ (x : PyData) (v : V), DR K tb B v x → DR K tb C v x := fun x v z => wLt_wr (w := .d x) z rfl
            exact drs_map all rd
        · cases h
  · cases h
/-- a def with n parameters, k further names -/
def dfn (n k : Nat) (f : Bool) (body : MS) : MF := fun ws S => if ws.length = n then (body (ws.map some ++ List.replicate k none) S).bind fun p => match p.1 with
    | .nx => fin f S.length (.d .none) p.2.2
    | .rt w => fin f S.length w p.2.2
    | _ => none
  else none
theorem ar_dfn {n k : Nat} {f : Bool} {body : MS} : Ar n (dfn n k f body) := fun ws S r h => by
  unfold dfn at h
  split at h
  · assumption
  · cases h
theorem er_start {A : Wd} {vs : List V} {ws : List W} (r : WRs K tb A vs ws) (k : Nat) : ER K tb A (vs.map some ++ List.replicate k none) (ws.map some ++ List.replicate k none) := by
  refine ⟨by simp [WRs.length r], fun i w e => ?_⟩
  have hl := WRs.length r
  by_cases hi : i < ws.length
  · rw [List.getElem?_append_left (by simpa using hi), List.getElem?_map] at e
    rw [List.getElem?_append_left (by simpa [hl] using hi), List.getElem?_map]
    obtain ⟨w', e1, e2⟩ := Option.map_eq_some_iff.mp e
    cases e2
    have : ∀ {vs : List V} {ws : List W} {i : Nat} {w : W}, WRs K tb A vs ws → ws[i]? = some w → ∃ v, vs[i]? = some v ∧ WR K tb A v w := by
      intro vs ws i w r
      induction r generalizing i with
      | nil => intro e; simp at e
      | cons a b ih =>
        intro e
        cases i with
        | zero => simp at e; subst e; exact ⟨_, rfl, a⟩
        | succ i => simp at e; obtain ⟨v, q, z⟩ := ih e; exact ⟨v, by simpa using q, z⟩
    obtain ⟨v, q, z⟩ := this r e1
    exact ⟨v, by rw [q]; rfl, z⟩
  · rw [List.getElem?_append_right (by simpa using hi), List.getElem?_replicate] at e
    split at e <;> cases e
/-- a def, its code object at c -/
structure FunC (K : PySem.W.Frag) (x qual : Str) (st : Stmt) (f : Addr) (fd : FuncData) (c : Addr) : Prop where
  ex : ∃ (oc : Value) (od : Option Addr) (kV doc pm : Value) (an : Option Addr) (ct : Value) (osl : Array (Option Value)),
    fd = PySem.W.fnOf x qual (defArgs st) (defBody st) (defScope st) .none kV doc pm an (.ref c) ct ∧ K.lookup f = some ⟨oc, od, .func fd, osl⟩ ∧ PySem.W.codeIn K (.ref c) qual = true
  kp : PySem.W.keepIn K (.ref f) = true
variable {P : Program} {w : World} {mg : Str → Option Value} {base : Heap}
theorem def_ok {x qual : Str} {st : Stmt} {f : Addr} {fd : FuncData} {c : Addr} {N ps : List Str} {k : Nat} {fz : Bool} {body : MS} (F : FunC K x qual st f fd c) (S : FnScope N ps (defScope st))
    (hbody : ∀ (A : Around) (outer : List Env) (s : Shared) (H : Hp) (E : XK), Room k (A.deeper (envOfC qual (defScope st) s.heap.objs.size f (.ref c))) →
      ∃ t, PSs (cxOf CX0 P w K mg base N qual (defScope st) f (.ref c) A outer s H E).nox (defBody st) t ∧ SS K tb t body) :
    FnOk P w K mg base CX0 (k + 1) f fd ps (spD K tb ps.length (dfn ps.length (N.length - ps.length) fz body)) := by
  obtain ⟨oc, od, kV, doc, pm, an, ct, osl, rfl, lk, hcd⟩ := F.ex
  refine fn_of lk hcd S (fun vs H Q E h => h.1) fun A outer s H vs Q E hr hsp => ?_
  obtain ⟨t, h, hs⟩ := hbody A outer s H E hr
  refine ⟨t, h.nox, ?_⟩
  obtain ⟨hl, B, ws, S0, w', S', rfl, r, R, e, q⟩ := hsp
  unfold dfn at e
  rw [if_pos (by rw [← WRs.length r, hl])] at e
  obtain ⟨⟨o, ρ', S1⟩, e1, e⟩ := Option.bind_eq_some_iff.mp e
  have hst : L2.start N vs = vs.map some ++ List.replicate (N.length - ps.length) none := by unfold L2.start; rw [hl]
  rw [hst]
  refine hs B _ _ S0 o ρ' S1 _ R (er_start r _) e1 ?_
  cases o with
  | nx => exact fun C σ' N1 R1 E1 => fin_run (v := .non) (w := .d .none) R N1 R1 DR.non e q
  | rt w2 => exact fun C v N1 R1 r1 => fin_run R N1 R1 r1 e q
  | bk => cases e
  | ct => cases e
theorem fn_none {f : Addr} {fd : FuncData} {ps : List Str} {k : Nat} : FnOk P w K mg base CX0 k f fd ps (spD K tb ps.length mNone) :=
  ⟨fun vs H Q E h => h.1, fun A outer s H args us vs Q E hr he hb hv ⟨_, _, _, _, _, _, _, _, _, e, _⟩ => nomatch e⟩
end
end Pd
namespace Pd
open PySem PySem.Spec PyProof.Rows L2 GxR Gx
/-! ### walks -/
/-- what is walked: values, or the list with this number as it stands at each turn -/
inductive Itm where
  | vals (ws : List W)
  | live (n : Nat)
  | rev (n l : Nat)
abbrev MI := Env' → Mem → Option (Itm × Mem)
section
variable {K : PySem.W.Frag} {tb : List Addr}
/-- the items as they stand -/
def Itm.now (im : Itm) (S : Mem) (ws : List W) : Prop := match im with
  | .vals us => us = ws
  | .live n => S[n]? = some (.lst ws)
  | .rev n l => ∃ us, S[n]? = some (.lst us) ∧ us.length = l ∧ ws = us.reverse
def ItOk (K : PySem.W.Frag) (tb : List Addr) (A : Wd) (J : It) (im : Itm) : Prop := ∀ B S ws, NxW tb A B → Rep K tb B S → im.now S ws →
  (∀ i w, ws[i]? = some w → J.go i B.H ∧ ∀ x H2, J.yld i B.H x H2 → ∃ C, C.H = H2 ∧ Nxt tb B C ∧ Rep K tb C S ∧ WR K tb C x w) ∧ ∀ i, ws.length ≤ i → J.stop i B.H
def SI (K : PySem.W.Frag) (tb : List Addr) (wi : TI) (mi : MI) : Prop := ∀ A σ ρ S im S' (R' : It → Hp → Prop), Rep K tb A S → ER K tb A σ ρ → mi ρ S = some (im, S') → (∀ J B, Nxt tb A B → Rep K tb B S' → ItOk K tb B J im → R' J B.H) → wi σ A.H R'
theorem ItOk.nxt {A B : Wd} {J : It} {im : Itm} (x : Nxt tb A B) (h : ItOk K tb A J im) : ItOk K tb B J im := fun C S ws y R e => h C S ws (x.w.trans y) R e
/-- the items at a turn -/
def Itm.at_ (im : Itm) (S : Mem) (i : Nat) : Option (Option W) := match im with
  | .vals ws => some ws[i]?
  | .live n => match S[n]? with
    | some (.lst ws) => some ws[i]?
    | _ => none
  | .rev n l => match S[n]? with
    | some (.lst us) => if us.length = l then some us.reverse[i]? else none
    | _ => none
def Itm.len (im : Itm) (S : Mem) : Nat := match im with
  | .vals ws => ws.length
  | .live n => match S[n]? with
    | some (.lst ws) => ws.length
    | _ => 0
  | .rev _ l => l
theorem Itm.at_now {im : Itm} {S : Mem} {i : Nat} {o : Option W} (h : im.at_ S i = some o) : ∃ ws, im.now S ws ∧ o = ws[i]? := by
  cases im with
  | vals ws => cases h; exact ⟨ws, rfl, rfl⟩
  | live n =>
    have h : (match S[n]? with | some (.lst ws) => some ws[i]? | _ => none) = some o := h
    split at h
    · rename_i ws e; cases h; exact ⟨ws, e, rfl⟩
    · cases h
  | rev n l =>
    have h : (match S[n]? with | some (.lst us) => if us.length = l then some us.reverse[i]? else none | _ => none) = some o := h
    split at h
    · rename_i us e
      split at h
      · rename_i hl; cases h; exact ⟨us.reverse, ⟨us, e, hl, rfl⟩, rfl⟩
      · cases h
    · cases h
/-! ### for -/
def forM (im : Itm) (g : MG) (b : MS) : Nat → Nat → MS
  | f, i, ρ, S => match im.at_ S i with
    | none => none
    | some none => some (.nx, ρ, S)
    | some (some w) => match f with
      | 0 => none
      | f + 1 => (g w ρ S).bind fun p => (b p.1 p.2).bind fun q => match q.1 with
        | .bk => some (.nx, q.2)
        | .rt w => some (.rt w, q.2)
        | _ => forM im g b f (i + 1) q.2.1 q.2.2
def sFor (mi : MI) (g : MG) (b : MS) : MS := fun ρ S => (mi ρ S).bind fun p => forM p.1 g b (p.1.len p.2) 0 ρ p.2
theorem ss_for {wi : TI} {g : TG} {tb' : TS} {mi : MI} {mg : MG} {b : MS} {vs : List Nat} (hi : SI K tb wi mi) (hg : SG K tb vs g mg) (hb : SS K tb tb' b) : SS K tb (tFor wi g tb') (sFor mi mg b) := fun A σ ρ S o ρ' S' D R E e q => by
  obtain ⟨⟨im, S1⟩, e1, e⟩ := Option.bind_eq_some_iff.mp e
  refine hi A σ ρ S im S1 _ R E e1 fun J B N R1 ok => ?_
  refine ⟨fun i m σ H => ∃ C ρ1 S2 o ρ' S', C.H = H ∧ Nxt tb B C ∧ Rep K tb C S2 ∧ ER K tb C σ ρ1 ∧ forM im mg b m i ρ1 S2 = some (o, ρ', S') ∧ FinK K tb D C o ρ' S', ⟨_, B, ρ, S1, o, ρ', S', rfl, .refl, R1, E.nxt N, e, q.nxt N⟩, ?_⟩
  rintro i m σ2 _ ⟨C, ρ1, S2, o, ρ', S', rfl, N2, R2, E2, e2, q2⟩
  unfold forM at e2
  split at e2
  · cases e2
  · rename_i ha
    cases e2
    obtain ⟨ws, hw, hz⟩ := Itm.at_now ha
    have st := (ok C S2 ws N2.w R2 hw).2 i (List.getElem?_eq_none_iff.mp hz.symm)
    exact .inl ⟨st, q2 C σ2 .refl R2 E2⟩
  · rename_i w ha
    obtain ⟨ws, hw, hz⟩ := Itm.at_now ha
    obtain ⟨go, yl⟩ := (ok C S2 ws N2.w R2 hw).1 i w hz.symm
    cases m with
    | zero => cases e2
    | succ m =>
      obtain ⟨⟨ρ3, S3⟩, e3, e2⟩ := Option.bind_eq_some_iff.mp e2
      obtain ⟨⟨o4, ρ4, S4⟩, e4, e2⟩ := Option.bind_eq_some_iff.mp e2
      refine .inr ⟨go, fun σ' H' => ∃ C ρ1 S2 o ρ' S', C.H = H' ∧ Nxt tb B C ∧ Rep K tb C S2 ∧ ER K tb C σ' ρ1 ∧ forM im mg b m (i + 1) ρ1 S2 = some (o, ρ', S') ∧ FinK K tb D C o ρ' S', fun σ' H' h => ⟨m, Nat.lt_succ_self m, h⟩, fun x H2 y => ?_⟩
      obtain ⟨C2, rfl, N3, R3, r3⟩ := yl x H2 y
      refine hg C2 x w σ2 ρ1 S2 ρ3 S3 _ R3 (E2.nxt N3) r3 e3 fun C3 σ3 N4 R4 E4 _ _ => ?_
      refine hb C3 σ3 ρ3 S3 o4 ρ4 S4 _ R4 E4 e4 ?_
      have NN := N2.trans (N3.trans N4)
      cases o4 with
      | nx => exact fun C5 σ5 N5 R5 E5 => ⟨C5, ρ4, S4, o, ρ', S', rfl, NN.trans N5, R5, E5, e2, q2.nxt ((N3.trans N4).trans N5)⟩
      | ct => exact fun C5 σ5 N5 R5 E5 => ⟨C5, ρ4, S4, o, ρ', S', rfl, NN.trans N5, R5, E5, e2, q2.nxt ((N3.trans N4).trans N5)⟩
      | bk => cases e2; exact fun C5 σ5 N5 R5 E5 => q2 C5 σ5 ((N3.trans N4).trans N5) R5 E5
      | rt w2 => cases e2; exact fun C5 v N5 R5 r5 => q2 C5 v ((N3.trans N4).trans N5) R5 r5
/-! ### the things that are walked -/
def seqW (w : W) : Option Itm := match w with
  | .d (.list ds) => some (.vals (ds.map .d))
  | .d (.tuple ds) => some (.vals (ds.map .d))
  | .loc n => some (.live n)
  | _ => none
def iTupM (a : ME) : MI := fun ρ S => (a ρ S).bind fun p => match p.1 with
  | .d (.tuple ds) => some (.vals (ds.map .d), p.2)
  | _ => none
def iLstM (a : ME) : MI := fun ρ S => (a ρ S).bind fun p => match p.1 with
  | .d (.list ds) => some (.vals (ds.map .d), p.2)
  | .d (.dict [(.none, .list ds)]) => some (.vals (ds.map .d), p.2)
  | .loc n => match p.2[n]? with
    | some (.lst _) => some (.live n, p.2)
    | _ => none
  | _ => none
def iRngM (lo n : W) (S : Mem) : Option (Itm × Mem) := match lo, n with
  | .d (.int lo), .d (.int n) => if decide (-(2 ^ 62) ≤ lo ∧ lo < 2 ^ 62 ∧ -(2 ^ 62) ≤ n ∧ n < 2 ^ 62) = true then some (.vals ((List.range (n - lo).toNat).map fun (i : Nat) => W.d (.int (lo + (i : Int)))), S) else none
  | _, _ => none
def iRng1M (a : MA) : MI := fun ρ S => (a ρ S).bind fun p => match p.1 with
  | [n] => iRngM (.d (.int 0)) n p.2
  | _ => none
def iRng2M (a : MA) : MI := fun ρ S => (a ρ S).bind fun p => match p.1 with
  | [lo, n] => iRngM lo n p.2
  | _ => none
theorem itt_ok {A : Wd} {a : Addr} {xs : List V} {ds : List PyData} (f : FzT K tb A a xs) (r : DRs K tb A xs ds) : ItOk K tb A (Itt K a) (.vals (ds.map .d)) := fun B S ws N R e => by
  cases (show ds.map W.d = ws from e)
  have f' := (f.nxw N).sq
  have rl := r.length
  refine ⟨fun i w hw => ?_, fun i hi => ⟨xs, f', by rw [List.length_map] at hi; omega⟩⟩
  rw [List.getElem?_map] at hw
  obtain ⟨d, e1, rfl⟩ := Option.map_eq_some_iff.mp hw
  obtain ⟨v, e2, r2⟩ := r.get' e1
  refine ⟨⟨xs, v, f', e2⟩, fun x H2 y => ?_⟩
  obtain ⟨rfl, y⟩ := y
  have := y xs f'
  rw [e2] at this; cases this
  exact ⟨B, rfl, .refl, R, DR.nxw N d r2⟩
theorem itl_ok0 {A : Wd} {a : Addr} {xs : List V} {ds : List PyData} (f : FzL K tb A a xs) (r : DRs K tb A xs ds) : ItOk K tb A (Itl K a) (.vals (ds.map .d)) := fun B S ws N R e => by
  cases (show ds.map W.d = ws from e)
  have f' := (f.nxw N).sq
  have rl := r.length
  refine ⟨fun i w hw => ?_, fun i hi => ⟨xs, f', by rw [List.length_map] at hi; omega⟩⟩
  rw [List.getElem?_map] at hw
  obtain ⟨d, e1, rfl⟩ := Option.map_eq_some_iff.mp hw
  obtain ⟨v, e2, r2⟩ := r.get' e1
  refine ⟨⟨xs, v, f', e2⟩, fun x H2 y => ?_⟩
  obtain ⟨rfl, y⟩ := y
  have := y xs f'
  rw [e2] at this; cases this
  exact ⟨B, rfl, .refl, R, DR.nxw N d r2⟩
theorem itl_ok {A : Wd} {a : Addr} {xs : List V} {ds : List PyData} (f : Fz tb A a (.lst xs)) (r : DRs K tb A xs ds) : ItOk K tb A (Itl K a) (.vals (ds.map .d)) := itl_ok0 (.inl f) r
theorem WRs.get' {A : Wd} {vs : List V} {ws : List W} {i : Nat} {w : W} (r : WRs K tb A vs ws) (e : ws[i]? = some w) : ∃ v, vs[i]? = some v ∧ WR K tb A v w := by
  induction r generalizing i with
  | nil => simp at e
  | cons a b ih =>
    cases i with
    | zero => simp at e; subst e; exact ⟨_, rfl, a⟩
    | succ i => simp at e; obtain ⟨v, q, z⟩ := ih e; exact ⟨v, by simpa using q, z⟩
theorem itl_live {A : Wd} {a : Addr} {n : Nat} (ha : A.ι[n]? = some a) : ItOk K tb A (Itl K a) (.live n) := fun B S ws N R e => by
  have e : S[n]? = some (.lst ws) := e
  obtain ⟨xs, ex, r⟩ := R.at_ n a _ (N.ix ha) e
  have sq : SqL K B.H a xs := .inl (.inl ex)
  have rl := WRs.length r
  refine ⟨fun i w hw => ?_, fun i hi => ⟨xs, sq, by omega⟩⟩
  obtain ⟨v, e2, r2⟩ := WRs.get' r hw
  refine ⟨⟨xs, v, sq, e2⟩, fun x H2 y => ?_⟩
  obtain ⟨rfl, y⟩ := y
  have := y xs sq
  rw [e2] at this; cases this
  exact ⟨B, rfl, .refl, R, r2⟩
theorem itr_ok {A : Wd} {lo : Int} {n : Nat} : ItOk K tb A (Itr lo n) (.vals ((List.range n).map fun (i : Nat) => W.d (.int (lo + (i : Int))))) := fun B S ws N R e => by
  cases (show (List.range n).map (fun (i : Nat) => W.d (.int (lo + (i : Int)))) = ws from e)
  refine ⟨fun i w hw => ?_, fun i hi => (by simpa using hi : n ≤ i)⟩
  rw [List.getElem?_map] at hw
  obtain ⟨d, e1, rfl⟩ := Option.map_eq_some_iff.mp hw
  obtain ⟨hi, e2⟩ := List.getElem?_eq_some_iff.mp e1
  rw [List.getElem_range] at e2
  subst e2
  rw [List.length_range] at hi
  refine ⟨hi, fun x H2 y => ?_⟩
  obtain ⟨rfl, rfl⟩ := y
  exact ⟨B, rfl, .refl, R, DR.int _⟩
theorem si_tup {tl : TE} {a : ME} (ha : SE K tb tl a) : SI K tb (iTup K tl) (iTupM a) := fun A σ ρ S im S' R' R E e q => by
  obtain ⟨⟨w, S1⟩, e1, e⟩ := Option.bind_eq_some_iff.mp e
  refine ha A σ ρ S w S1 _ R E e1 fun v B N R1 r => ?_
  dsimp only at e
  split at e
  · cases e
    obtain ⟨a, xs, rfl, f, rd⟩ := r.tup
    exact ⟨a, rfl, ⟨xs, f.sq⟩, q _ B N R1 (itt_ok f rd)⟩
  · cases e
theorem si_lst {tl : TE} {a : ME} (ha : SE K tb tl a) : SI K tb (iList K tl) (iLstM a) := fun A σ ρ S im S' R' R E e q => by
  obtain ⟨⟨w, S1⟩, e1, e⟩ := Option.bind_eq_some_iff.mp e
  refine ha A σ ρ S w S1 _ R E e1 fun v B N R1 r => ?_
  dsimp only at e
  split at e
  · cases e
    obtain ⟨a, xs, rfl, f, rd⟩ := r.lst
    exact ⟨a, rfl, ⟨xs, f.sq⟩, q _ B N R1 (itl_ok f rd)⟩
  · cases e
    obtain ⟨a, xs, rfl, f, rd⟩ := r.scr
    exact ⟨a, rfl, ⟨xs, f.sq⟩, q _ B N R1 (itl_ok0 f rd)⟩
  · split at e
    · rename_i ws ew
      cases e
      obtain ⟨a, rfl, i⟩ := r
      obtain ⟨vs, ev, _⟩ := R1.at_ _ a _ i ew
      exact ⟨a, rfl, ⟨vs, .inl (.inl ev)⟩, q _ B N R1 (itl_live i)⟩
    · cases e
  · cases e
theorem iRngM_some {a b : W} {S S' : Mem} {im : Itm} (h : iRngM a b S = some (im, S')) : ∃ lo n : Int, a = .d (.int lo) ∧ b = .d (.int n) ∧ (-(2 ^ 62) ≤ lo ∧ lo < 2 ^ 62 ∧ -(2 ^ 62) ≤ n ∧ n < 2 ^ 62) ∧ im = .vals ((List.range (n - lo).toNat).map fun (i : Nat) => W.d (.int (lo + (i : Int)))) ∧ S' = S := by
  unfold iRngM at h
  split at h
  · rename_i lo n
    split at h
    · rename_i hc
      cases h
      exact ⟨lo, n, rfl, rfl, of_decide_eq_true hc, rfl, rfl⟩
    · cases h
  · cases h
theorem si_rng1 {t : TA} {a : MA} (ha : SA K tb t a) : SI K tb (iRng1 t) (iRng1M a) := fun A σ ρ S im S' R' R E e q => by
  obtain ⟨⟨ws, S1⟩, e1, e⟩ := Option.bind_eq_some_iff.mp e
  refine ha A σ ρ S ws S1 _ R E e1 fun vs B N R1 r => ?_
  dsimp only at e
  split at e
  · obtain ⟨lo, n, e2, rfl, hb, rfl, rfl⟩ := iRngM_some e
    cases e2
    cases r with
    | cons r1 r2 =>
      cases r2
      obtain rfl := WR.int r1
      refine ⟨n, rfl, hb.2.2.1, hb.2.2.2, q _ B N R1 ?_⟩
      have := itr_ok (K := K) (tb := tb) (A := B) (lo := 0) (n := (n - 0).toNat)
      rw [Int.sub_zero] at this ⊢
      exact this
  · cases e
theorem si_rng2 {t : TA} {a : MA} (ha : SA K tb t a) : SI K tb (iRng2 t) (iRng2M a) := fun A σ ρ S im S' R' R E e q => by
  obtain ⟨⟨ws, S1⟩, e1, e⟩ := Option.bind_eq_some_iff.mp e
  refine ha A σ ρ S ws S1 _ R E e1 fun vs B N R1 r => ?_
  dsimp only at e
  split at e
  · obtain ⟨lo, n, rfl, rfl, hb, rfl, rfl⟩ := iRngM_some e
    cases r with
    | cons r1 r2 =>
      cases r2 with
      | cons r2 r3 =>
        cases r3
        obtain rfl := WR.int r1
        obtain rfl := WR.int r2
        exact ⟨lo, n, rfl, hb, q _ B N R1 itr_ok⟩
  · cases e
/-! ### comprehensions -/
def wipeE (ρ : Env') : List Nat → Env'
  | [] => ρ
  | v :: vs => (wipeE ρ vs).set v none
theorem wipeE_er {A : Wd} {σ : L2.St} {ρ : Env'} (h : ER K tb A σ ρ) : ∀ vs : List Nat, ER K tb A (wipe σ vs) (wipeE ρ vs)
  | [] => h
  | v :: vs => by
    have ih := wipeE_er h vs
    refine ⟨by show ((wipeE ρ vs).set v none).length = ((wipe σ vs).set v none).length; rw [List.length_set, List.length_set]; exact ih.1, fun i w e => ?_⟩
    have e : ((wipeE ρ vs).set v none)[i]? = some (some w) := e
    show ∃ u, ((wipe σ vs).set v none)[i]? = some (some u) ∧ _
    by_cases hi : v = i
    · subst hi
      have hlt : v < (wipeE ρ vs).length := by
        have := (List.getElem?_eq_some_iff.mp e).1
        rwa [List.length_set] at this
      rw [List.getElem?_set_self hlt] at e
      cases e
    · rw [List.getElem?_set_ne hi] at e ⊢
      exact ih.2 i w e
theorem wipe_get {σ : L2.St} {j : Nat} : ∀ {vs : List Nat}, (wipe σ vs)[j]? = if j ∈ vs then (if j < σ.length then some none else none) else σ[j]?
  | [] => by simp [wipe]
  | v :: vs => by
    show ((wipe σ vs).set v none)[j]? = _
    by_cases hj : v = j
    · subst hj
      by_cases hl : v < (wipe σ vs).length
      · rw [List.getElem?_set_self hl]
        rw [wipe_length] at hl
        simp [hl]
      · rw [List.getElem?_eq_none (by rw [List.length_set]; omega)]
        rw [wipe_length] at hl
        simp [hl]
    · rw [List.getElem?_set_ne hj, wipe_get (vs := vs)]
      have : j ∈ v :: vs ↔ j ∈ vs := by
        rw [List.mem_cons]
        exact ⟨fun z => z.resolve_left (fun z => hj z.symm), .inr⟩
      by_cases hm : j ∈ vs
      · rw [if_pos hm, if_pos (this.mpr hm)]
      · rw [if_neg hm, if_neg (fun z => hm (this.mp z))]
theorem wipe_wipe {σ σ2 : L2.St} {vs : List Nat} (hl : σ2.length = (wipe σ vs).length) (h : ∀ j, j ∉ vs → σ2[j]? = (wipe σ vs)[j]?) : wipe σ2 vs = wipe σ vs := by
  apply List.ext_getElem?
  intro j
  rw [wipe_length] at hl
  rw [wipe_get, wipe_get]
  by_cases hj : j ∈ vs
  · rw [if_pos hj, if_pos hj, hl]
  · rw [if_neg hj, if_neg hj, h j hj, wipe_get, if_neg hj]
def lcM (im : Itm) (g : MG) (t : MT) (e : ME) : Nat → Nat → Env' → Mem → Option (List W × Mem)
  | f, i, ρ, S => match im.at_ S i with
    | none => none
    | some none => some ([], S)
    | some (some w) => match f with
      | 0 => none
      | f + 1 => (g w ρ S).bind fun p => (t p.1 p.2).bind fun q => if q.1 = true then (e p.1 q.2).bind fun r => (lcM im g t e f (i + 1) ρ r.2).bind fun z => some (r.1 :: z.1, z.2) else lcM im g t e f (i + 1) ρ q.2
def eLc (mi : MI) (vs : List Nat) (g : MG) (t : MT) (e : ME) (mk : List W → Mem → Option (W × Mem)) : ME := fun ρ S => (mi ρ S).bind fun p => (lcM p.1 g t e (p.1.len p.2) 0 (wipeE ρ vs) p.2).bind fun q => mk q.1 q.2
def tYesM : MT := fun _ S => some (true, S)
theorem st_yes : ST K tb tYes tYesM := fun A σ ρ S b S' Q R E e q => by cases e; exact q A .refl R
theorem mkF_len {ws : List W} {S S' : Mem} {w : W} (h : mkF ws S = some (w, S')) : ws.length ≤ sizeLine := by
  obtain ⟨ds, e1, e⟩ := Option.bind_eq_some_iff.mp h
  split at e
  · rename_i hl; rw [dOf_length e1]; exact hl
  · cases e
theorem mkL_len {ws : List W} {S S' : Mem} {w : W} (h : mkL ws S = some (w, S')) : ws.length ≤ sizeLine := by
  unfold mkL at h
  split at h
  · assumption
  · cases h
/-- the same data, seen from a world that knows at least what stays -/
theorem dr_key {A C : Wd} (key : ∀ (a : Addr) (u : HO), Fz tb A a u → Fz tb C a u) : ∀ (x : PyData) (v : V), DR K tb A v x → DR K tb C v x := fun x v h =>
  DR.rec (motive_1 := fun v x _ => DR K tb C v x) (motive_2 := fun vs xs _ => DRs K tb C vs xs)
    .non .bl .int .str (fun f _ r => .lst (key _ _ f) r) (fun f _ r => .scr (f.imp (key _ _) id) r) (fun f _ r => .tup (f.imp (key _ _) id) r) .nil (fun _ _ a b => .cons a b) h
theorem wr_key {A C : Wd} (key : ∀ (a : Addr) (u : HO), Fz tb A a u → Fz tb C a u) (hι : ∀ (n : Nat) a, A.ι[n]? = some a → C.ι[n]? = some a) {v : V} {w : W} (h : WR K tb A v w) : WR K tb C v w := by
  cases w with
  | d x => exact dr_key key x v h
  | loc n => obtain ⟨a, e, i⟩ := h; exact ⟨a, e, hι n a i⟩
theorem or_key {A C : Wd} (key : ∀ (a : Addr) (u : HO), Fz tb A a u → Fz tb C a u) (hι : ∀ (n : Nat) a, A.ι[n]? = some a → C.ι[n]? = some a) {ob : Ob} {a : Addr} (e : C.H a = A.H a) (h : OR K tb A ob a) : OR K tb C ob a := by
  cases ob with
  | lst ws => obtain ⟨vs, q, r⟩ := h; exact ⟨vs, by rw [e]; exact q, Paired.mapP r fun _ _ z => wr_key key hι z⟩
  | dct kvs => obtain ⟨vs, q, r⟩ := h; exact ⟨vs, by rw [e]; exact q, Paired.mapP r fun _ _ z => ⟨z.1, wr_key key hι z.2⟩⟩
  | ins CC fs => obtain ⟨dx, vs, q, r⟩ := h; exact ⟨dx, vs, by rw [e]; exact q, Paired.mapP r fun _ _ z => ⟨z.1, wr_key key hι z.2⟩⟩
/-- a hidden object is changed -/
abbrev Wd.hset (A : Wd) (D : Addr) (o : HO) : Wd := { A with H := upd A.H D o }
theorem hset_key {A : Wd} {D : Addr} {o : HO} (hD : D ∈ A.hid) : ∀ (a : Addr) (u : HO), Fz tb A a u → Fz tb (A.hset D o) a u := fun a u h => by
  have ne : a ≠ D := fun z => h.1 (.inr (.inr (by rw [z]; exact hD)))
  refine ⟨h.1, ?_⟩
  rcases h.2 with r | ⟨ob, r⟩
  · exact .inl (by show upd A.H D o a = _; rw [upd_ne ne]; exact r)
  · exact .inr ⟨ob, by show upd A.H D o a = _; rw [upd_ne ne]; exact r⟩
theorem Rep.hset {A : Wd} {D : Addr} {o : HO} {S : Mem} (R : Rep K tb A S) (hD : D ∈ A.hid) : Rep K tb (A.hset D o) S := by
  obtain ⟨_, h2, h3⟩ := R.hd D hD
  refine ⟨R.len, R.nd, fun P hP => ?_, fun b hb => ?_, fun n a ob e1 e2 => ?_⟩
  · obtain ⟨ps, e, t⟩ := R.tabs P hP
    exact ⟨ps, by show upd A.H D o P = _; rw [upd_ne (fun z => h3 (by rw [← z]; exact hP))]; exact e, t⟩
  · obtain ⟨⟨o', e⟩, n, t⟩ := R.hd b hb
    refine ⟨?_, n, t⟩
    by_cases z : b = D
    · subst z; exact ⟨o, upd_same⟩
    · exact ⟨o', by show upd A.H D o b = _; rw [upd_ne z]; exact e⟩
  · have ne : a ≠ D := fun z => h2 (by rw [← z]; exact List.mem_of_getElem? e1)
    exact or_key (hset_key hD) (fun _ _ z => z) (upd_ne ne) (R.at_ n a ob e1 e2)
theorem nxw_hset {A B : Wd} {D : Addr} {o : HO} (N : NxW tb A B) (hD : D ∈ A.hid) : NxW tb A (B.hset D o) :=
  ⟨N.hid, N.hid2, fun b z => N.more b (upd_none z), N.pre, fun b u n t h e => by
    obtain ⟨q, n'⟩ := N.keep b u n t h e
    exact ⟨by show upd B.H D o b = _; rw [upd_ne (fun z => h (by rw [z]; exact hD))]; exact q, n'⟩⟩
theorem nxt_hset {A B : Wd} {D : Addr} {o : HO} (N : Nxt tb A B) (hD : A.H D = none) : Nxt tb A (B.hset D o) :=
  ⟨N.hid, N.hid2, fun b z => N.more b (upd_none z), N.pre, fun b u n t e => by
    obtain ⟨q, n'⟩ := N.keep b u n t e
    exact ⟨by show upd B.H D o b = _; rw [upd_ne (ne_of_none e hD)]; exact q, n'⟩⟩
theorem Nxt.hidden {A B : Wd} {S : Mem} (N : Nxt tb A B) (R : Rep K tb A S) {D : Addr} {o : HO} (hD : D ∈ A.hid) (e : A.H D = some o) : B.H D = some o := (N.keep D o (R.hd D hD).2.1 (R.hd D hD).2.2 e).1
/-- what becomes of the list that a comprehension makes -/
def SMk (K : PySem.W.Frag) (tb : List Addr) (mk : List W → Mem → Option (W × Mem)) : Prop := (∀ ws S r, mk ws S = some r → ws.length ≤ sizeLine) ∧ ∀ (B C : Wd) (D : Addr) (vs : List V) (ws : List W) (S0 S : Mem) (w : W) (S' : Mem) (Q : VK),
  Rep K tb B S0 → B.H D = none → Nxt tb B C → D ∈ C.hid → C.H D = some (.lst vs) → Rep K tb C S → WRs K tb C vs ws → mk ws S = some (w, S') → Pd.KE K tb B w S' Q → Q (.ref D) C.H
theorem smk_F : SMk K tb mkF := by
  refine ⟨fun ws S r h => mkF_len h, fun B C D vs ws S0 S w S' Q R0 hn N hD e R r h q => ?_⟩
  obtain ⟨ds, e1, e2⟩ := Option.bind_eq_some_iff.mp h
  split at e2
  · cases e2
    let E : Wd := { C with hid := B.hid }
    have key : ∀ (a : Addr) (u : HO), Fz tb C a u → Fz tb E a u := fun a u z => ⟨fun m => z.1 (m.imp id fun m => m.imp id fun m => N.hid a m), z.2⟩
    refine q (.ref D) E ⟨fun _ z => z, fun _ z => .inl z, N.more, N.pre, N.keep⟩ ⟨R.len, R.nd, R.tabs, fun b hb => R.hd b (N.hid b hb), fun n a ob z1 z2 => or_key key (fun _ _ z => z) rfl (R.at_ n a ob z1 z2)⟩ (DR.lst ⟨?_, .inl e⟩ (drs_map (dr_key key) (drs_of r e1)))
    obtain ⟨_, h2, h3⟩ := R.hd D hD
    rintro (z | z | z)
    · exact h2 z
    · exact h3 z
    · obtain ⟨⟨o, eo⟩, _⟩ := R0.hd D z
      rw [hn] at eo; cases eo
  · cases e2
theorem smk_L : SMk K tb mkL := by
  refine ⟨fun ws S r h => mkL_len h, fun B C D vs ws S0 S w S' Q R0 hn N hD e R r h q => ?_⟩
  unfold mkL at h
  split at h
  · cases h
    obtain ⟨⟨_, _⟩, h2, h3⟩ := R.hd D hD
    let E : Wd := { H := C.H, hid := B.hid, ι := C.ι ++ [D] }
    have key : ∀ (a : Addr) (u : HO), Fz tb C a u → Fz tb E a u := fun a u z => ⟨fun m => z.1 (by
      rcases m with m | m | m
      · rcases List.mem_append.mp m with m | m
        · exact .inl m
        · rw [List.mem_singleton.mp m]; exact .inr (.inr hD)
      · exact .inr (.inl m)
      · exact .inr (.inr (N.hid a m))), z.2⟩
    have hι : ∀ (n : Nat) a, C.ι[n]? = some a → E.ι[n]? = some a := fun n a z => by
      show (C.ι ++ [D])[n]? = some a
      rw [List.getElem?_append_left (List.getElem?_eq_some_iff.mp z).1]; exact z
    refine q (.ref D) E ⟨fun _ z => z, fun _ z => .inl z, N.more, ?_, fun b o n t eb => ?_⟩ ⟨by show (C.ι ++ [D]).length = _; simp [R.len], ?_, R.tabs, fun b hb => ?_, fun n a ob z1 z2 => ?_⟩ ⟨D, rfl, ?_⟩
    · obtain ⟨m, em⟩ := N.pre
      exact ⟨m ++ [D], by show C.ι ++ [D] = _; rw [em, List.append_assoc]⟩
    · obtain ⟨q1, q2⟩ := N.keep b o n t eb
      exact ⟨q1, fun z => (List.mem_append.mp z).elim q2 fun z => ne_of_none eb hn (List.mem_singleton.mp z)⟩
    · show (C.ι ++ [D]).Nodup
      rw [List.nodup_append]
      exact ⟨R.nd, by simp, fun a ha b hb eab => h2 (by rw [List.mem_singleton.mp hb] at eab; rw [← eab]; exact ha)⟩
    · obtain ⟨k1, k2, k3⟩ := R.hd b (N.hid b hb)
      refine ⟨k1, fun z => (List.mem_append.mp z).elim k2 fun z => ?_, k3⟩
      obtain ⟨⟨o, eo⟩, _⟩ := R0.hd b hb
      rw [List.mem_singleton.mp z, hn] at eo; cases eo
    · have z1 : (C.ι ++ [D])[n]? = some a := z1
      by_cases hl : n < C.ι.length
      · rw [List.getElem?_append_left hl] at z1
        rw [List.getElem?_append_left (by rw [← R.len]; exact hl)] at z2
        exact or_key key hι rfl (R.at_ n a ob z1 z2)
      · rw [List.getElem?_append_right (by omega)] at z1
        rw [List.getElem?_append_right (by rw [← R.len]; omega)] at z2
        have hz : n - C.ι.length = 0 := by
          cases hh : n - C.ι.length with
          | zero => rfl
          | succ k => rw [hh] at z1; simp at z1
        rw [hz] at z1
        rw [← R.len, hz] at z2
        simp at z1 z2
        subst z1 z2
        exact ⟨vs, e, Paired.mapP r fun _ _ z => wr_key key hι z⟩
    · show (C.ι ++ [D])[S.length]? = some D
      rw [← R.len]; simp
  · cases h
theorem se_lc {wi : TI} {mg' : TG} {tt : TT} {te : TE} {vs : List Nat} {us : List Nat} {mi : MI} {mg : MG} {mt : MT} {me : ME} {mk : List W → Mem → Option (W × Mem)} (hk : SMk K tb mk) (hi : SI K tb wi mi) (hg : SG K tb us mg' mg) (hsub : ∀ j, j ∈ us → j ∈ vs) (ht : ST K tb tt mt) (he : SE K tb te me) :
    SE K tb (tLc wi mg' tt te vs) (eLc mi vs mg mt me mk) := fun A σ ρ S w S' Q R E e q => by
  obtain ⟨⟨im, S1⟩, e1, e⟩ := Option.bind_eq_some_iff.mp e
  obtain ⟨⟨zs, S2⟩, e2, e3⟩ := Option.bind_eq_some_iff.mp e
  refine hi A σ ρ S im S1 _ R E e1 fun J B N R1 ok D hD => ?_
  have hlen := hk.1 _ _ _ e3
  let B1 : Wd := { H := upd B.H D (.lst []), ι := B.ι, hid := D :: B.hid }
  have nD := R1.fresh hD
  have N1 : Nxt tb B B1 := ⟨fun b z => List.mem_cons_of_mem _ z, fun b z => (List.mem_cons.mp z).elim (fun z => .inr (by rw [z]; exact hD)) .inl, fun b z => upd_none z, ⟨[], by show B.ι = _; simp⟩, fun b o n t e => ⟨by show upd B.H D _ b = _; rw [upd_ne (ne_of_none e hD)]; exact e, n⟩⟩
  have RB : Rep K tb B1 S1 := by
    have R2 := R1.put hD (.lst [])
    refine ⟨R2.len, R2.nd, R2.tabs, fun b hb => ?_, fun n a ob z1 z2 => ?_⟩
    · rcases List.mem_cons.mp hb with z | z
      · subst z; exact ⟨⟨_, upd_same⟩, fun z => nD (.inl z), fun z => nD (.inr (.inl z))⟩
      · exact R2.hd b z
    · have o := R1.at_ n a ob z1 z2
      obtain ⟨oo, eo, _⟩ := o.some
      exact o.nxt N1 (by show upd B.H D _ a = _; rw [upd_ne (ne_of_none eo hD)])
  have EB := wipeE_er (E.nxt N) vs
  refine ⟨fun i m H => ∃ C acc ws S3 zs', C.H = H ∧ Nxt tb B C ∧ D ∈ C.hid ∧ C.H D = some (.lst acc) ∧ Rep K tb C S3 ∧ WRs K tb C acc ws ∧ lcM im mg mt me m i (wipeE ρ vs) S3 = some (zs', S2) ∧ ws ++ zs' = zs,
    ⟨_, B1, [], [], S1, zs, rfl, N1, List.mem_cons_self, upd_same, RB, .nil, e2, rfl⟩, ?_⟩
  rintro i m _ ⟨C, acc, ws, S3, zs', rfl, N3, hDC, eD, R3, racc, e4, hz⟩
  unfold lcM at e4
  split at e4
  · cases e4
  · rename_i ha
    cases e4
    obtain ⟨us', hu, hz'⟩ := Itm.at_now ha
    rw [List.append_nil] at hz
    subst hz
    exact .inl ⟨(ok C _ us' N3.w R3 hu).2 i (List.getElem?_eq_none_iff.mp hz'.symm), hk.2 B C D acc ws S1 _ w S' Q R1 hD N3 hDC eD R3 racc e3 (q.nxt N)⟩
  · rename_i w1 ha
    obtain ⟨us', hu, hz'⟩ := Itm.at_now ha
    obtain ⟨go, yl⟩ := (ok C S3 us' N3.w R3 hu).1 i w1 hz'.symm
    cases m with
    | zero => cases e4
    | succ m =>
      obtain ⟨⟨ρ5, S5⟩, e5, e4⟩ := Option.bind_eq_some_iff.mp e4
      obtain ⟨⟨k6, S6⟩, e6, e4⟩ := Option.bind_eq_some_iff.mp e4
      refine .inr ⟨go, fun H' => ∃ C acc ws S3 zs', C.H = H' ∧ Nxt tb B C ∧ D ∈ C.hid ∧ C.H D = some (.lst acc) ∧ Rep K tb C S3 ∧ WRs K tb C acc ws ∧ lcM im mg mt me m (i + 1) (wipeE ρ vs) S3 = some (zs', S2) ∧ ws ++ zs' = zs, fun H' h => ⟨m, Nat.lt_succ_self m, h⟩, fun x H2 y => ?_⟩
      obtain ⟨C2, rfl, N4, R4, r4⟩ := yl x H2 y
      have EC : ER K tb C2 (wipe σ vs) (wipeE ρ vs) := EB.nxt (N3.trans N4)
      refine hg C2 x w1 _ _ S3 ρ5 S5 _ R4 EC r4 e5 fun C3 σ3 N5 R5 E5 hl5 hj5 => ⟨wipe_wipe hl5 fun j hj => hj5 j fun z => hj (hsub j z), ?_⟩
      refine ht C3 σ3 ρ5 S5 k6 S6 _ R5 E5 e6 fun C4 N6 R6 => ?_
      have NC := N4.trans (N5.trans N6)
      cases k6 with
      | false =>
        simp only [Bool.false_eq_true, if_false] at e4 ⊢
        exact ⟨C4, acc, ws, S6, zs', rfl, N3.trans NC, NC.hid D hDC, NC.hidden R3 hDC eD, R6, WRs.nxt NC racc, e4, hz⟩
      | true =>
        simp only [if_true] at e4 ⊢
        obtain ⟨⟨y7, S7⟩, e7, e4⟩ := Option.bind_eq_some_iff.mp e4
        obtain ⟨⟨zs8, S8⟩, e8, e4⟩ := Option.bind_eq_some_iff.mp e4
        cases e4
        refine he C4 σ3 ρ5 S6 y7 S7 _ R6 (E5.nxt N6) e7 fun v C5 N7 R7 r7 => ?_
        have NC5 := NC.trans N7
        have hD5 := NC5.hid D hDC
        have eD5 := NC5.hidden R3 hDC eD
        have hac := WRs.length racc
        refine ⟨acc, eD5, ?_, C5.hset D (.lst (acc ++ [v])), acc ++ [v], ws ++ [y7], S7, zs8, rfl, nxt_hset (N3.trans NC5) hD, hD5, upd_same, R7.hset hD5, ?_, e8, by rw [List.append_assoc]; exact hz⟩
        · rw [← hz, List.length_append, List.length_cons] at hlen
          omega
        · exact Paired.snoc (Paired.mapP (WRs.nxt NC5 racc) fun _ _ z => wr_key (hset_key hD5) (fun _ _ z => z) z) (wr_key (hset_key hD5) (fun _ _ z => z) r7)
end
end Pd
namespace Pd
open PySem PySem.Spec PyProof.Rows L2 GxR Gx
section
variable {K : PySem.W.Frag} {tb : List Addr}
/-! ### all(..) -/
def allL (g : MG) (e : ME) : List W → Env' → Mem → Option (Bool × Mem)
  | [], _, S => some (true, S)
  | w :: ws, ρ, S => (g w ρ S).bind fun p => (eB e p.1 p.2).bind fun q => if q.1 = true then allL g e ws ρ q.2 else some (false, q.2)
def eAll (mi : MI) (vs : List Nat) (g : MG) (e : ME) : ME := fun ρ S => (mi ρ S).bind fun p => match p.1 with
  | .vals ws => (allL g e ws (wipeE ρ vs) p.2).bind fun q => some (.d (.bool q.1), q.2)
  | _ => none
theorem se_all {wi : TI} {mg' : TG} {te : TE} {vs us : List Nat} {P : Addr} {mi : MI} {mg : MG} {me : ME} (hP : P ∈ tb) (hi : SI K tb wi mi) (hg : SG K tb us mg' mg) (hsub : ∀ j, j ∈ us → j ∈ vs) (he : SE K tb te me) :
    SE K tb (tAllG P wi mg' te vs) (eAll mi vs mg me) := fun A σ ρ S w S' Q R E e q => by
  obtain ⟨⟨im, S1⟩, e1, e⟩ := Option.bind_eq_some_iff.mp e
  refine hi A σ ρ S im S1 _ R E e1 fun J B N R1 ok => ⟨R1.tabs P hP, fun H2 hT => ?_⟩
  cases im with
  | live n => cases e
  | rev n l => cases e
  | vals ws =>
    obtain ⟨⟨b, S2⟩, e2, e⟩ := Option.bind_eq_some_iff.mp e
    cases e
    let B1 : Wd := { B with H := H2 }
    have N1 : Nxt tb B B1 := nxt_tab hP hT
    have RB : Rep K tb B1 S1 := R1.tab hP hT
    have EB := wipeE_er (E.nxt (N.trans N1)) vs
    refine ⟨ws.length, fun i H => ∃ C S3, C.H = H ∧ Nxt tb B C ∧ Rep K tb C S3 ∧ i ≤ ws.length ∧ allL mg me (ws.drop i) (wipeE ρ vs) S3 = some (b, S2), ⟨B1, S1, rfl, N1, RB, Nat.zero_le _, e2⟩, ?_⟩
    rintro i _ ⟨C, S3, rfl, N3, R3, hi, e3⟩
    obtain ⟨k1, k2⟩ := ok C S3 ws N3.w R3 rfl
    by_cases hlt : i < ws.length
    · have hd : ws.drop i = ws[i] :: ws.drop (i + 1) := List.drop_eq_getElem_cons hlt
      rw [hd] at e3
      obtain ⟨⟨ρ5, S5⟩, e5, e3⟩ := Option.bind_eq_some_iff.mp e3
      obtain ⟨⟨k6, S6⟩, e6, e3⟩ := Option.bind_eq_some_iff.mp e3
      obtain ⟨go, yl⟩ := k1 i _ (List.getElem?_eq_getElem hlt)
      refine .inr ⟨hlt, go, fun x H' y => ?_⟩
      obtain ⟨C2, rfl, N4, R4, r4⟩ := yl x H' y
      have EC : ER K tb C2 (wipe σ vs) (wipeE ρ vs) := wipeE_er (E.nxt (N.trans (N3.trans N4))) vs
      refine hg C2 x _ _ _ S3 ρ5 S5 _ R4 EC r4 e5 fun C3 σ3 N5 R5 E5 hl5 hj5 => ⟨wipe_wipe hl5 fun j hj => hj5 j fun z => hj (hsub j z), ?_⟩
      refine he C3 σ3 ρ5 S5 _ S6 _ R5 E5 (eB_some e6) fun v C4 N6 R6 r6 => ⟨k6, r6.bl, ?_⟩
      have NC := N3.trans (N4.trans (N5.trans N6))
      cases k6 with
      | true =>
        simp only [if_true] at e3 ⊢
        exact ⟨C4, S6, rfl, NC, R6, hlt, e3⟩
      | false =>
        simp only [Bool.false_eq_true, if_false] at e3 ⊢
        cases e3
        exact q _ C4 (N.trans NC) R6 (DR.bl false)
    · have hi' : i = ws.length := by omega
      subst hi'
      rw [List.drop_of_length_le (Nat.le_refl _)] at e3
      cases e3
      exact .inl ⟨rfl, k2 _ (Nat.le_refl _), q _ C (N.trans N3) R3 (DR.bl true)⟩
/-! ### built-in functions -/
def SC (K : PySem.W.Frag) (tb : List Addr) (r : List V → Hp → VK → Prop) (f : MF) : Prop := ∀ A vs ws S w S' Q, Rep K tb A S → WRs K tb A vs ws → f ws S = some (w, S') → Pd.KE K tb A w S' Q → r vs A.H Q
theorem se_cb {r : List V → Hp → VK → Prop} {f : MF} {t : TA} {a : MA} (hr : SC K tb r f) (ha : SA K tb t a) : SE K tb (tCB r t) (eCall f a) := fun A σ ρ S w S' Q R E e q => by
  obtain ⟨p, e1, e⟩ := Option.bind_eq_some_iff.mp e
  exact ha A σ ρ S p.1 p.2 _ R E e1 fun vs B N R1 r1 => hr B vs p.1 p.2 w S' Q R1 r1 e (q.nxt N)
theorem wrs1 {A : Wd} {vs : List V} {w : W} (r : WRs K tb A vs [w]) : ∃ v, vs = [v] ∧ WR K tb A v w := by
  cases r with | cons a b => cases b; exact ⟨_, rfl, a⟩
/-- the items of a list or tuple, as they stand -/
def items (w : W) (S : Mem) : Option (List W) := match w with
  | .d (.list ds) => some (ds.map .d)
  | .d (.dict [(.none, .list ds)]) => some (ds.map .d)
  | .d (.tuple ds) => some (ds.map .d)
  | .loc n => match S[n]? with
    | some (.lst ws) => some ws
    | _ => none
  | _ => none
theorem items_run {A : Wd} {S : Mem} {v : V} {w : W} {ws : List W} (R : Rep K tb A S) (r : WR K tb A v w) (h : items w S = some ws) : ∃ a xs, v = .ref a ∧ (SqL K A.H a xs ∨ SqT K A.H a xs) ∧ WRs K tb A xs ws := by
  unfold items at h
  split at h
  · cases h
    obtain ⟨a, xs, rfl, f, rd⟩ := r.lst
    exact ⟨a, xs, rfl, .inl f.sq, wrs_of rd⟩
  · cases h
    obtain ⟨a, xs, rfl, f, rd⟩ := r.scr
    exact ⟨a, xs, rfl, .inl f.sq, wrs_of rd⟩
  · cases h
    obtain ⟨a, xs, rfl, f, rd⟩ := r.tup
    exact ⟨a, xs, rfl, .inr f.sq, wrs_of rd⟩
  · split at h
    · rename_i n ws' e
      cases h
      obtain ⟨a, rfl, i⟩ := r
      obtain ⟨vs, ev, rr⟩ := R.at_ _ a _ i e
      exact ⟨a, vs, rfl, .inl (.inl (.inl ev)), rr⟩
    · cases h
  · cases h
def bLen : MF := fun ws S => match ws with
  | [w] => (items w S).bind fun us => some (.d (.int us.length), S)
  | _ => none
theorem sc_len : SC K tb (fun xs H Q => ∃ p ys, xs = [.ref p] ∧ (SqL K H p ys ∨ SqT K H p ys) ∧ Q (.int ys.length) H) bLen := fun A vs ws S w S' Q R r e q => by
  unfold bLen at e
  split at e
  · obtain ⟨us, e1, e2⟩ := Option.bind_eq_some_iff.mp e
    cases e2
    obtain ⟨v, rfl, r1⟩ := wrs1 r
    obtain ⟨a, xs, rfl, sq, rx⟩ := items_run R r1 e1
    exact ⟨a, xs, rfl, sq, by rw [WRs.length rx]; exact q _ A .refl R (DR.int _)⟩
  · cases e
/-- .. of a list -/
def itemsL (w : W) (S : Mem) : Option (List W) := match w with
  | .d (.list ds) => some (ds.map .d)
  | .d (.dict [(.none, .list ds)]) => some (ds.map .d)
  | .loc n => match S[n]? with
    | some (.lst ws) => some ws
    | _ => none
  | _ => none
theorem itemsL_run {A : Wd} {S : Mem} {v : V} {w : W} {ws : List W} (R : Rep K tb A S) (r : WR K tb A v w) (h : itemsL w S = some ws) : ∃ a xs, v = .ref a ∧ SqL K A.H a xs ∧ WRs K tb A xs ws := by
  unfold itemsL at h
  split at h
  · cases h
    obtain ⟨a, xs, rfl, f, rd⟩ := r.lst
    exact ⟨a, xs, rfl, f.sq, wrs_of rd⟩
  · cases h
    obtain ⟨a, xs, rfl, f, rd⟩ := r.scr
    exact ⟨a, xs, rfl, f.sq, wrs_of rd⟩
  · split at h
    · rename_i n ws' e
      cases h
      obtain ⟨a, rfl, i⟩ := r
      obtain ⟨vs, ev, rr⟩ := R.at_ _ a _ i e
      exact ⟨a, vs, rfl, .inl (.inl ev), rr⟩
    · cases h
  · cases h
def bTuple : MF := fun ws S => match ws with
  | [.d (.tuple ds)] => some (.d (.tuple ds), S)
  | [w] => (itemsL w S).bind fun us => (dOf us).bind fun ds => some (.d (.tuple ds), S)
  | _ => none
theorem sc_tuple : SC K tb (fun xs H Q => ∃ p ys, xs = [.ref p] ∧ ((SqL K H p ys ∧ ∀ l, H l = none → Q (.ref l) (upd H l (.tup ys))) ∨ (SqT K H p ys ∧ Q (.ref p) H))) bTuple := fun A vs ws S w S' Q R r e q => by
  unfold bTuple at e
  split at e
  · cases e
    obtain ⟨v, rfl, r1⟩ := wrs1 r
    obtain ⟨a, xs, rfl, f, rd⟩ := r1.tup
    exact ⟨a, xs, rfl, .inr ⟨f.sq, q _ A .refl R r1⟩⟩
  · rename_i w1 hne
    obtain ⟨us, e1, e2⟩ := Option.bind_eq_some_iff.mp e
    obtain ⟨ds, e3, e4⟩ := Option.bind_eq_some_iff.mp e2
    cases e4
    obtain ⟨v, rfl, r1⟩ := wrs1 r
    obtain ⟨a, xs, rfl, sq, rx⟩ := itemsL_run R r1 e1
    exact ⟨a, xs, rfl, .inl ⟨sq, fun l hl => q _ (A.put l (.tup xs)) (.put hl _) (R.put hl _) (DR.tup (.inl (.put R hl _)) (DRs.nxt (.put hl _) ds (drs_of rx e3)))⟩⟩
  · cases e
/-- list(x): never changed again, or changed -/
def bListF : MF := fun ws S => match ws with
  | [w] => (items w S).bind fun us => (dOf us).bind fun ds => some (.d (.list ds), S)
  | _ => none
def bListL : MF := fun ws S => match ws with
  | [w] => (items w S).bind fun us => some (.loc S.length, S ++ [.lst us])
  | _ => none
abbrev rLstOf (K : PySem.W.Frag) : List V → Hp → VK → Prop := fun xs H Q => ∃ p ys, xs = [.ref p] ∧ (SqL K H p ys ∨ SqT K H p ys) ∧ ∀ l, H l = none → Q (.ref l) (upd H l (.lst ys))
theorem sc_listF : SC K tb (rLstOf K) bListF := fun A vs ws S w S' Q R r e q => by
  unfold bListF at e
  split at e
  · obtain ⟨us, e1, e2⟩ := Option.bind_eq_some_iff.mp e
    obtain ⟨ds, e3, e4⟩ := Option.bind_eq_some_iff.mp e2
    cases e4
    obtain ⟨v, rfl, r1⟩ := wrs1 r
    obtain ⟨a, xs, rfl, sq, rx⟩ := items_run R r1 e1
    exact ⟨a, xs, rfl, sq, fun l hl => q _ (A.put l (.lst xs)) (.put hl _) (R.put hl _) (DR.lst (.put R hl _) (DRs.nxt (.put hl _) ds (drs_of rx e3)))⟩
  · cases e
theorem sc_listL : SC K tb (rLstOf K) bListL := fun A vs ws S w S' Q R r e q => by
  unfold bListL at e
  split at e
  · obtain ⟨us, e1, e2⟩ := Option.bind_eq_some_iff.mp e
    cases e2
    obtain ⟨v, rfl, r1⟩ := wrs1 r
    obtain ⟨a, xs, rfl, sq, rx⟩ := items_run R r1 e1
    refine ⟨a, xs, rfl, sq, fun l hl => q _ (A.add l (.lst xs)) (.add hl _) (R.add hl ⟨xs, upd_same, rx.nxt (.add hl _)⟩) ⟨l, rfl, ?_⟩⟩
    show (A.ι ++ [l])[S.length]? = some l
    rw [← R.len]; simp
  · cases e
def bAbs : MF := fun ws S => match ws with
  | [.d (.int i)] => some (.d (.int (if i < 0 then -i else i)), S)
  | _ => none
theorem sc_abs : SC K tb (fun xs H Q => ∃ i, xs = [.int i] ∧ Q (.int (if i < 0 then -i else i)) H) bAbs := fun A vs ws S w S' Q R r e q => by
  unfold bAbs at e
  split at e
  · cases e
    obtain ⟨v, rfl, r1⟩ := wrs1 r
    obtain rfl := WR.int r1
    exact ⟨_, rfl, q _ A .refl R (DR.int _)⟩
  · cases e
def bInt : MF := fun ws S => match ws with
  | [.d (.int i)] => some (.d (.int i), S)
  | [.d (.bool k)] => some (.d (.int (if k then 1 else 0)), S)
  | _ => none
theorem sc_int : SC K tb (fun xs H Q => (∃ i, xs = [.int i] ∧ Q (.int i) H) ∨ ∃ k, xs = [.bl k] ∧ Q (.int (if k then 1 else 0)) H) bInt := fun A vs ws S w S' Q R r e q => by
  unfold bInt at e
  split at e
  · cases e
    obtain ⟨v, rfl, r1⟩ := wrs1 r
    obtain rfl := WR.int r1
    exact .inl ⟨_, rfl, q _ A .refl R (DR.int _)⟩
  · cases e
    obtain ⟨v, rfl, r1⟩ := wrs1 r
    obtain rfl := WR.bl r1
    exact .inr ⟨_, rfl, q _ A .refl R (DR.int _)⟩
  · cases e
def bStr : MF := fun ws S => match ws with
  | [.d (.int i)] => if decide (i.natAbs.log2 < 1920) = true then some (.d (.str (toString i)), S) else none
  | _ => none
theorem sc_str : SC K tb (fun xs H Q => ∃ i, xs = [.int i] ∧ i.natAbs.log2 < 1920 ∧ Q (.str (toString i)) H) bStr := fun A vs ws S w S' Q R r e q => by
  unfold bStr at e
  split at e
  · split at e
    · rename_i hc
      cases e
      obtain ⟨v, rfl, r1⟩ := wrs1 r
      obtain rfl := WR.int r1
      exact ⟨_, rfl, of_decide_eq_true hc, q _ A .refl R (DR.str _)⟩
    · cases e
  · cases e
/-- ints -/
def intsOf : List W → Option (List Int)
  | [] => some []
  | .d (.int i) :: ws => (intsOf ws).map (i :: ·)
  | _ :: _ => none
theorem ints_run {A : Wd} : ∀ {vs : List V} {ws : List W} {ns : List Int}, WRs K tb A vs ws → intsOf ws = some ns → vs = ns.map V.int
  | _, [], _, .nil, e => by cases e; rfl
  | _, .d (.int i) :: ws, _, .cons r t, e => by
    obtain ⟨ns, e1, rfl⟩ := Option.map_eq_some_iff.mp e
    rw [ints_run t e1, WR.int r]; rfl
def bSum : MF := fun ws S => match ws with
  | [w] => (itemsL w S).bind fun us => (intsOf us).bind fun ns => some (.d (.int ns.sum), S)
  | _ => none
theorem sc_sum : SC K tb (rSum K) bSum := fun A vs ws S w S' Q R r e q => by
  unfold bSum at e
  split at e
  · obtain ⟨us, e1, e2⟩ := Option.bind_eq_some_iff.mp e
    obtain ⟨ns, e3, e4⟩ := Option.bind_eq_some_iff.mp e2
    cases e4
    obtain ⟨v, rfl, r1⟩ := wrs1 r
    obtain ⟨a, xs, rfl, sq, rx⟩ := itemsL_run R r1 e1
    rw [ints_run rx e3] at sq
    exact ⟨a, ns, rfl, sq, q _ A .refl R (DR.int _)⟩
  · cases e
def maxI : List Int → Int
  | [] => 0
  | [i] => i
  | i :: r => max i (maxI r)
theorem maxI_le : ∀ {ns : List Int} {y : Int}, y ∈ ns → y ≤ maxI ns
  | [], _, h => by cases h
  | [i], y, h => by simp at h; subst h; exact Int.le_refl _
  | i :: j :: r, y, h => by
    show y ≤ max i (maxI (j :: r))
    rcases List.mem_cons.mp h with rfl | h
    · exact Int.le_max_left _ _
    · exact Int.le_trans (maxI_le h) (Int.le_max_right _ _)
theorem maxI_mem : ∀ {ns : List Int}, ns ≠ [] → maxI ns ∈ ns
  | [], h => absurd rfl h
  | [i], _ => List.mem_singleton.mpr rfl
  | i :: j :: r, _ => by
    show max i (maxI (j :: r)) ∈ _
    rcases Int.le_total i (maxI (j :: r)) with h | h
    · rw [Int.max_eq_right h]; exact List.mem_cons_of_mem _ (maxI_mem (by simp))
    · rw [Int.max_eq_left h]; exact List.mem_cons_self
def bMax : MF := fun ws S => match ws with
  | [w] => (itemsL w S).bind fun us => (intsOf us).bind fun ns => if ns.isEmpty = true then none else some (.d (.int (maxI ns)), S)
  | _ => none
theorem sc_max : SC K tb (rMax K) bMax := fun A vs ws S w S' Q R r e q => by
  unfold bMax at e
  split at e
  · obtain ⟨us, e1, e2⟩ := Option.bind_eq_some_iff.mp e
    obtain ⟨ns, e3, e4⟩ := Option.bind_eq_some_iff.mp e2
    split at e4
    · cases e4
    · rename_i hne
      cases e4
      have hne' : ns ≠ [] := by rintro rfl; exact hne rfl
      obtain ⟨v, rfl, r1⟩ := wrs1 r
      obtain ⟨a, xs, rfl, sq, rx⟩ := itemsL_run R r1 e1
      rw [ints_run rx e3] at sq
      refine ⟨a, ns, rfl, sq, List.length_pos_iff.mpr hne', fun m hm hall => ?_⟩
      have : m = maxI ns := Int.le_antisymm (maxI_le hm) (hall _ (maxI_mem hne'))
      rw [this]
      exact q _ A .refl R (DR.int _)
  · cases e
/-! ### subscripts, slices -/
theorem atI_drs {A : Wd} {xs : List V} {ds : List PyData} {i : Int} {d : PyData} (r : DRs K tb A xs ds) (h : atI ds i = some d) : ∃ v, atI xs i = some v ∧ DR K tb A v d := by
  unfold atI at h ⊢
  rw [r.length]
  obtain ⟨j, e1, e2⟩ := Option.bind_eq_some_iff.mp h
  obtain ⟨v, e3, rv⟩ := r.get' e2
  exact ⟨v, by rw [e1]; exact e3, rv⟩
theorem atI_wrs {A : Wd} {xs : List V} {ds : List W} {i : Int} {d : W} (r : WRs K tb A xs ds) (h : atI ds i = some d) : ∃ v, atI xs i = some v ∧ WR K tb A v d := by
  unfold atI at h ⊢
  rw [WRs.length r]
  obtain ⟨j, e1, e2⟩ := Option.bind_eq_some_iff.mp h
  obtain ⟨v, e3, rv⟩ := WRs.get' r e2
  exact ⟨v, by rw [e1]; exact e3, rv⟩
def oIx : F2 := fun a b S => match b with
  | .d (.int i) => (match a with
    | .d (.tuple ds) => (atI ds i).map fun d => (.d d, S)
    | .d (.str z) => if z.length ≤ sizeLine then (atI z.cps.toList i).map fun c => (.d (.str ⟨#[c]⟩), S) else none
    | a => (itemsL a S).bind fun us => (atI us i).map fun w => (w, S))
  | _ => none
theorem sr_ix : SR K tb (rIx K) oIx := fun A x y a b S w S' Q R ra rb e q => by
  unfold oIx at e
  split at e
  · rename_i i
    obtain rfl := rb.int
    split at e
    · obtain ⟨d, e1, e2⟩ := Option.map_eq_some_iff.mp e
      cases e2
      obtain ⟨p, xs, rfl, f, rd⟩ := ra.tup
      obtain ⟨v, e3, rv⟩ := atI_drs rd e1
      exact .inr (.inl ⟨p, xs, i, v, rfl, rfl, f.sq, e3, q _ A .refl R rv⟩)
    · split at e
      · rename_i hz
        obtain ⟨d, e1, e2⟩ := Option.map_eq_some_iff.mp e
        cases e2
        obtain rfl := ra.str
        exact .inr (.inr ⟨_, i, d, rfl, rfl, hz, e1, q _ A .refl R (DR.str _)⟩)
      · cases e
    · obtain ⟨us, e0, e⟩ := Option.bind_eq_some_iff.mp e
      obtain ⟨d, e1, e2⟩ := Option.map_eq_some_iff.mp e
      cases e2
      obtain ⟨p, xs, rfl, sq, rx⟩ := itemsL_run R ra e0
      obtain ⟨v, e3, rv⟩ := atI_wrs rx e1
      exact .inl ⟨p, xs, i, v, rfl, rfl, sq, e3, q _ A .refl R rv⟩
  · cases e
/-- parts of a slice -/
abbrev MO := Env' → Mem → Option (Option Int × Mem)
def SO (K : PySem.W.Frag) (tb : List Addr) (t : TO) (m : MO) : Prop := ∀ A σ ρ S o S' (Q : Option Int → Hp → Prop), Rep K tb A S → ER K tb A σ ρ → m ρ S = some (o, S') → (∀ B, Nxt tb A B → Rep K tb B S' → Q o B.H) → t σ A.H Q
def pNone : MO := fun _ S => some (none, S)
def pSome (a : ME) : MO := fun ρ S => (a ρ S).bind fun p => match p.1 with
  | .d (.int i) => some (some i, p.2)
  | _ => none
theorem so_none : SO K tb tNoPart pNone := fun A σ ρ S o S' Q R E e q => by cases e; exact q A .refl R
theorem so_some {te : TE} {a : ME} (ha : SE K tb te a) : SO K tb (tPart te) (pSome a) := fun A σ ρ S o S' Q R E e q => by
  obtain ⟨⟨w, S1⟩, e1, e⟩ := Option.bind_eq_some_iff.mp e
  refine ha A σ ρ S w S1 _ R E e1 fun v B N R1 r => ?_
  dsimp only at e
  split at e
  · cases e
    exact ⟨_, r.int, q B N R1⟩
  · cases e
/-- the cut of a list -/
def cutL {α : Type} (xs : List α) (lo hi : Option Int) : List α := (xs.drop (HT.sIx xs.length 0 lo)).take (HT.sIx xs.length xs.length hi - HT.sIx xs.length 0 lo)
theorem drs_cut {A : Wd} {xs : List V} {ds : List PyData} (r : DRs K tb A xs ds) (lo hi : Option Int) : DRs K tb A (cutV xs lo hi) (cutL ds lo hi) := by
  unfold cutV cutL
  rw [r.length]
  exact (r.drop _).take _
theorem wrs_cut {A : Wd} {xs : List V} {ws : List W} (r : WRs K tb A xs ws) (lo hi : Option Int) : WRs K tb A (cutV xs lo hi) (cutL ws lo hi) := by
  unfold cutV cutL
  rw [WRs.length r]
  have d : ∀ {xs : List V} {ws : List W}, WRs K tb A xs ws → ∀ n, WRs K tb A (xs.drop n) (ws.drop n) := fun {xs ws} r => by
    induction r with
    | nil => intro n; simp; exact .nil
    | cons a b ih =>
      intro n
      cases n with
      | zero => exact .cons a b
      | succ n => exact ih n
  have t : ∀ {xs : List V} {ws : List W}, WRs K tb A xs ws → ∀ n, WRs K tb A (xs.take n) (ws.take n) := fun {xs ws} r => by
    induction r with
    | nil => intro n; simp; exact .nil
    | cons a b ih =>
      intro n
      cases n with
      | zero => exact .nil
      | succ n => exact .cons a (ih n)
  exact t (d r _) _
/-- a slice: of a tuple, a text, a list (L: the new list may be changed) -/
def oSl (L : Bool) (w : W) (lo hi : Option Int) (S : Mem) : Option (W × Mem) := match w with
  | .d (.tuple ds) => some (.d (.tuple (cutL ds lo hi)), S)
  | .d (.str z) => if z.length ≤ sizeLine then some (.d (.str (Txt.slice z lo hi)), S) else none
  | w => (itemsL w S).bind fun us => if L = true then some (.loc S.length, S ++ [.lst (cutL us lo hi)]) else (dOf (cutL us lo hi)).map fun ds => (.d (.list ds), S)
abbrev rSlAll (K : PySem.W.Frag) : V → Option Int → Option Int → Hp → VK → Prop := fun x lo hi H Q => rSlA K x lo hi H Q ∨ (rSlL K x lo hi H Q ∨ C8.rSlX x lo hi H Q)
theorem sl_all {X : Cx} : SlR X (rSlAll X.K) := sl_tupA.or (sl_list.or C8.sl_txt)
theorem whole_cut {α : Type} {xs : List α} {lo hi : Option Int} (h : HT.sIx xs.length 0 lo = 0 ∧ HT.sIx xs.length xs.length hi = xs.length) : cutL xs lo hi = xs := by
  unfold cutL
  rw [h.1, h.2]; simp
theorem oSl_run {A : Wd} {L : Bool} {x : V} {a w : W} {lo hi : Option Int} {S S' : Mem} {Q : VK} (R : Rep K tb A S) (ra : WR K tb A x a) (e : oSl L a lo hi S = some (w, S')) (q : Pd.KE K tb A w S' Q) : rSlAll K x lo hi A.H Q := by
  unfold oSl at e
  split at e
  · cases e
    obtain ⟨p, xs, rfl, f, rd⟩ := ra.tup
    refine .inl ⟨p, xs, rfl, f.sq, fun hw => ?_, fun hw p2 hp => ?_⟩
    · have hw' := hw
      rw [rd.length] at hw'
      exact q _ A .refl R (by rw [whole_cut hw']; exact DR.tup f rd)
    · exact q _ (A.put p2 _) (.put hp _) (R.put hp _) (DR.tup (.inl (.put R hp _)) (DRs.nxt (.put hp _) _ (drs_cut rd lo hi)))
  · split at e
    · rename_i hz
      cases e
      obtain rfl := ra.str
      exact .inr (.inr ⟨_, rfl, hz, q _ A .refl R (DR.str _)⟩)
    · cases e
  · obtain ⟨us, e1, e2⟩ := Option.bind_eq_some_iff.mp e
    obtain ⟨p, xs, rfl, sq, rx⟩ := itemsL_run R ra e1
    refine .inr (.inl ⟨p, xs, rfl, sq, fun l hl => ?_⟩)
    split at e2
    · cases e2
      refine q _ (A.add l _) (.add hl _) (R.add hl ⟨_, upd_same, (wrs_cut rx lo hi).nxt (.add hl _)⟩) ⟨l, rfl, ?_⟩
      show (A.ι ++ [l])[S.length]? = some l
      rw [← R.len]; simp
    · obtain ⟨ds, e3, e4⟩ := Option.map_eq_some_iff.mp e2
      cases e4
      exact q _ (A.put l _) (.put hl _) (R.put hl _) (DR.lst (.put R hl _) (DRs.nxt (.put hl _) ds (drs_of (wrs_cut rx lo hi) e3)))
def eSl (L : Bool) (a : ME) (lo hi : MO) : ME := fun ρ S => (a ρ S).bind fun p => (lo ρ p.2).bind fun l => (hi ρ l.2).bind fun h => oSl L p.1 l.1 h.1 h.2
theorem se_sl {L : Bool} {te : TE} {tl th : TO} {a : ME} {lo hi : MO} (ha : SE K tb te a) (hl : SO K tb tl lo) (hh : SO K tb th hi) : SE K tb (tSl (rSlAll K) te tl th) (eSl L a lo hi) := fun A σ ρ S w S' Q R E e q => by
  obtain ⟨p, e1, e⟩ := Option.bind_eq_some_iff.mp e
  obtain ⟨l, e2, e⟩ := Option.bind_eq_some_iff.mp e
  obtain ⟨h, e3, e⟩ := Option.bind_eq_some_iff.mp e
  refine ha A σ ρ S p.1 p.2 _ R E e1 fun x B N R1 r => ?_
  refine hl B σ ρ p.2 l.1 l.2 _ R1 (E.nxt N) e2 fun C N2 R2 => ?_
  refine hh C σ ρ l.2 h.1 h.2 _ R2 (E.nxt (N.trans N2)) e3 fun D N3 R3 => ?_
  exact oSl_run R3 (r.nxt (N2.trans N3)) e (q.nxt (N.trans (N2.trans N3)))
end
end Pd
namespace Pd
open PySem PySem.Spec PyProof.Rows L2 GxR Gx
theorem opOr {X : Cx} {f : Value → Value → Sem Value} {r r' : R2} (h : OpR X f r) (h' : OpR X f r') : OpR X f (fun x y H Q => r x y H Q ∨ r' x y H Q) := by
  intro pins s σ H x y v u Q I rx ry q
  rcases q with q | q
  · exact h pins s σ H x y v u Q I rx ry q
  · exact h' pins s σ H x y v u Q I rx ry q
/-! ### + -/
/-- two lists -/
def rCatL : R2 := fun x y H Q => ∃ l b xs zs, x = .ref l ∧ y = .ref b ∧ Rd H l (.lst xs) ∧ Rd H b (.lst zs) ∧ xs.length + zs.length ≤ sizeLine ∧ ∀ p, H p = none → Q (.ref p) (upd H p (.lst (xs ++ zs)))
section
variable {X : Cx} {pins : List (Addr × Obj)} {σ : L2.St} {H : Hp} {s : Shared}
theorem op_catL : OpR X (binaryOp .Add) rCatL := by
  intro pins s σ H x y v u Q I rx ry h
  obtain ⟨l, b, xs, zs, rfl, rfl, hH, hB, hz, q⟩ := h
  cases rx
  cases ry
  obtain ⟨z, its, n, r, e⟩ := hH.ok I.hok
  obtain ⟨z2, its2, n2, r2, e2⟩ := hB.ok I.hok
  have hl := r.length
  have hl2 := r2.length
  refine PySem.P.add_list e e2 ?_ (by rw [List.size_toArray, List.size_toArray]; omega)
  have ea : its.toArray ++ its2.toArray = (its ++ its2).toArray := by simp
  rw [ea]
  refine ⟨.ref s.heap.objs.size, _, I.laid (t' := s.toks) (o := .lst (xs ++ zs)) (fun b ob q => Heap.get?_push_of_some _ q) (Nat.le_refl _) ?_, rfl, q _ (I.hok.fresh (Nat.le_refl _))⟩
  exact ⟨by rw [List.length_append]; omega, its ++ its2, 0, r.append r2, Heap.get?_push_size _ rfl⟩
end
abbrev rAddS : R2 := fun x y H Q => ∃ i j, x = .str i ∧ y = .str j ∧ i.length + j.length ≤ sizeLine ∧ Q (.str (i ++ j)) H
abbrev rPlus (K : PySem.W.Frag) : R2 := fun x y H Q => rI0 (fun i j => .int (i + j)) x y H Q ∨ (rAddS x y H Q ∨ (rCatA K x y H Q ∨ rCatL x y H Q))
theorem op_plus {X : Cx} : OpR X (binaryOp .Add) (rPlus X.K) := opOr op_add (opOr op_add_str (opOr op_catA op_catL))
/-- +; L: the new list may be changed -/
def oPlus (L : Bool) : F2 := fun a b S => match a, b with
  | .d (.int i), .d (.int j) => some (.d (.int (i + j)), S)
  | .d (.str i), .d (.str j) => if i.length + j.length ≤ sizeLine then some (.d (.str (i ++ j)), S) else none
  | .d (.tuple xs), .d (.tuple ys) => if xs.length + ys.length ≤ sizeLine then some (.d (.tuple (xs ++ ys)), S) else none
  | .d (.list xs), .d (.list ys) => if xs.length + ys.length ≤ sizeLine then (if L = true then some (.loc S.length, S ++ [.lst ((xs ++ ys).map .d)]) else some (.d (.list (xs ++ ys)), S)) else none
  | _, _ => none
section
variable {K : PySem.W.Frag} {tb : List Addr}
theorem sr_plus {L : Bool} : SR K tb (rPlus K) (oPlus L) := fun A x y a b S w S' Q R ra rb e q => by
  unfold oPlus at e
  split at e
  · cases e
    obtain rfl := ra.int
    obtain rfl := rb.int
    exact .inl ⟨_, _, rfl, rfl, q _ A .refl R (DR.int _)⟩
  · split at e
    · rename_i hl
      cases e
      obtain rfl := ra.str
      obtain rfl := rb.str
      exact .inr (.inl ⟨_, _, rfl, rfl, hl, q _ A .refl R (DR.str _)⟩)
    · cases e
  · split at e
    · rename_i ds es hl
      cases e
      obtain ⟨a, xs, rfl, f, rd⟩ := ra.tup
      obtain ⟨b, ys, rfl, g, re⟩ := rb.tup
      have l1 := rd.length
      have l2 := re.length
      refine .inr (.inr (.inl ⟨a, b, xs, ys, rfl, rfl, f.sq, g.sq, by omega, fun z => ?_, fun z z2 => ?_, fun z z2 p hp => ?_⟩))
      · subst z
        have : ds = [] := List.length_eq_zero_iff.mp l1.symm
        subst this
        exact q _ A .refl R rb
      · subst z2
        have : es = [] := List.length_eq_zero_iff.mp l2.symm
        subst this
        rw [List.append_nil] at q
        exact q _ A .refl R ra
      · exact q _ (A.put p _) (.put hp _) (R.put hp _) (DR.tup (.inl (.put R hp _)) (DRs.nxt (.put hp _) _ (rd.append re)))
    · cases e
  · split at e
    · rename_i ds es hl
      obtain ⟨a, xs, rfl, f, rd⟩ := ra.lst
      obtain ⟨b, ys, rfl, g, re⟩ := rb.lst
      have l1 := rd.length
      have l2 := re.length
      refine .inr (.inr (.inr ⟨a, b, xs, ys, rfl, rfl, f.2, g.2, by omega, fun p hp => ?_⟩))
      split at e
      · cases e
        refine q _ (A.add p _) (.add hp _) (R.add hp ⟨_, upd_same, wrs_of (DRs.nxt (.add hp _) _ (rd.append re))⟩) ⟨p, rfl, ?_⟩
        show (A.ι ++ [p])[S.length]? = some p
        rw [← R.len]; simp
      · cases e
        exact q _ (A.put p _) (.put hp _) (R.put hp _) (DR.lst (.put R hp _) (DRs.nxt (.put hp _) _ (rd.append re)))
    · cases e
  · cases e
/-! ### in -/
def flatD : PyData → Bool
  | .none | .bool _ | .int _ | .str _ => true
  | _ => false
theorem flat_of {A : Wd} {v : V} {d : PyData} (r : DR K tb A v d) (h : flatD d = true) : flatV v = true := by
  cases r <;> first | rfl | exact absurd (show false = true from h) Bool.false_ne_true
theorem eqV_of {A : Wd} {v u : V} {d e : PyData} (r : DR K tb A v d) (g : DR K tb A u e) (hd : flatD d = true) (he : flatD e = true) : eqV v u = PyData.eqv d e := by
  cases r <;> first | exact absurd (show false = true from hd) Bool.false_ne_true | (cases g <;> first | exact absurd (show false = true from he) Bool.false_ne_true | rfl)
theorem inV_of {A : Wd} {x : V} {d : PyData} (r : DR K tb A x d) (hd : flatD d = true) : ∀ {xs : List V} {ds : List PyData}, DRs K tb A xs ds → ds.all flatD = true → inV x xs = ds.any (fun y => PyData.eqv y d) ∧ xs.all flatV = true
  | _, [], h, _ => by cases h; exact ⟨rfl, rfl⟩
  | _, e :: es, h, c => by
    rw [List.all_cons, Bool.and_eq_true] at c
    cases h with
    | cons a b =>
      obtain ⟨i1, i2⟩ := inV_of r hd b c.2
      refine ⟨?_, ?_⟩
      · show (eqV _ x || inV x _) = _
        rw [eqV_of a r c.1 hd, i1]; rfl
      · rw [List.all_cons, flat_of a c.1, i2]; rfl
def oIn (n : Bool) : F2 := fun a b S => match a with
  | .d x => (items b S).bind fun us => (dOf us).bind fun ds => if (flatD x && ds.all flatD) = true then some (.d (.bool (if n = true then !ds.any (fun y => PyData.eqv y x) else ds.any fun y => PyData.eqv y x)), S) else none
  | _ => none
theorem sr_in {n : Bool} : SR K tb (rIn K n) (oIn n) := fun A x y a b S w S' Q R ra rb e q => by
  unfold oIn at e
  split at e
  · rename_i d
    obtain ⟨us, e1, e⟩ := Option.bind_eq_some_iff.mp e
    obtain ⟨ds, e2, e⟩ := Option.bind_eq_some_iff.mp e
    split at e
    · rename_i hf
      rw [Bool.and_eq_true] at hf
      cases e
      obtain ⟨p, xs, rfl, sq, rx⟩ := items_run R rb e1
      have rd := drs_of rx e2
      obtain ⟨i1, i2⟩ := inV_of (show DR K tb A x d from ra) hf.1 rd hf.2
      refine ⟨p, xs, rfl, sq, flat_of (show DR K tb A x d from ra) hf.1, i2, ?_⟩
      rw [i1]
      exact q _ A .refl R (DR.bl _)
    · cases e
  · cases e
/-! ### chains -/
theorem se_chain {r r' : R2} {f g : F2} {ta tb' tc : TE} {a b c : ME} (hr : SR K tb r f) (hr' : SR K tb r' g) (ha : SE K tb ta a) (hb : SE K tb tb' b) (hc : SE K tb tc c) : SE K tb (tChain r r' ta tb' tc) (eChain f g a b c) := fun A σ ρ S w S' Q R E e q => by
  obtain ⟨p, e1, e⟩ := Option.bind_eq_some_iff.mp e
  obtain ⟨p2, e2, e⟩ := Option.bind_eq_some_iff.mp e
  obtain ⟨⟨z, S3⟩, e3, e⟩ := Option.bind_eq_some_iff.mp e
  refine ha A σ ρ S p.1 p.2 _ R E e1 fun x B N1 R1 r1 => ?_
  refine hb B σ ρ p.2 p2.1 p2.2 _ R1 (E.nxt N1) e2 fun y C N2 R2 r2 => ?_
  refine hr C x y p.1 p2.1 p2.2 z S3 _ R2 (r1.nxt N2) r2 e3 fun k D N3 R3 r3 => ?_
  dsimp only at e
  split at e
  · obtain ⟨u, e4, e⟩ := Option.bind_eq_some_iff.mp e
    refine ⟨true, WR.bl r3, ?_⟩
    rw [if_pos rfl]
    exact hc D σ ρ S3 u.1 u.2 _ R3 (E.nxt (N1.trans (N2.trans N3))) e4 fun v F N4 R4 r4 => hr' F y v p2.1 u.1 u.2 w S' Q R4 (r2.nxt (N3.trans N4)) r4 e (q.nxt (N1.trans (N2.trans (N3.trans N4))))
  · cases e
    refine ⟨false, WR.bl r3, ?_⟩
    rw [if_neg Bool.false_ne_true]
    exact q _ D (N1.trans (N2.trans N3)) R3 (DR.bl false)
  · cases e
/-! ### methods of lists -/
abbrev MM := W → List W → Mem → Option (W × Mem)
def SM (K : PySem.W.Frag) (tb : List Addr) (r : V → List V → Hp → VK → Prop) (f : MM) : Prop := ∀ A x vs a ws S w S' Q, Rep K tb A S → WR K tb A x a → WRs K tb A vs ws → f a ws S = some (w, S') → Pd.KE K tb A w S' Q → r x vs A.H Q
def lstAt (a : W) (S : Mem) : Option (Nat × List W) := match a with
  | .loc n => match S[n]? with
    | some (.lst ws) => some (n, ws)
    | _ => none
  | _ => none
def eBm (f : MM) (o : ME) (a : MA) : ME := fun ρ S => (o ρ S).bind fun p => (itemsL p.1 p.2).bind fun _ => (a ρ p.2).bind fun q => f p.1 q.1 q.2
theorem se_bm {r : V → List V → Hp → VK → Prop} {f : MM} {to : TE} {t : TA} {o : ME} {a : MA} (hf : SM K tb r f) (ho : SE K tb to o) (ha : SA K tb t a) : SE K tb (tBM K "list" r to t) (eBm f o a) := fun A σ ρ S w S' Q R E e q => by
  obtain ⟨p, e1, e⟩ := Option.bind_eq_some_iff.mp e
  obtain ⟨us, e0, e⟩ := Option.bind_eq_some_iff.mp e
  obtain ⟨z, e2, e⟩ := Option.bind_eq_some_iff.mp e
  refine ho A σ ρ S p.1 p.2 _ R E e1 fun x B N R1 r1 => ?_
  obtain ⟨a, xs, rfl, sq, _⟩ := itemsL_run R1 r1 e0
  exact ⟨.inl ⟨rfl, xs, sq⟩, ha B σ ρ p.2 z.1 z.2 _ R1 (E.nxt N) e2 fun vs C N2 R2 r2 => hf C _ vs p.1 z.1 z.2 w S' Q R2 (r1.nxt N2) r2 e (q.nxt (N.trans N2))⟩
theorem se_bm0 {r : V → List V → Hp → VK → Prop} {f : MM} {to : TE} {o : ME} (hf : SM K tb r f) (ho : SE K tb to o) : SE K tb (tBM0 K "list" r to) (eBm f o aNil) := fun A σ ρ S w S' Q R E e q => by
  obtain ⟨p, e1, e⟩ := Option.bind_eq_some_iff.mp e
  obtain ⟨us, e0, e⟩ := Option.bind_eq_some_iff.mp e
  obtain ⟨z, e2, e⟩ := Option.bind_eq_some_iff.mp e
  cases e2
  refine ho A σ ρ S p.1 p.2 _ R E e1 fun x B N R1 r1 => ?_
  obtain ⟨a, xs, rfl, sq, _⟩ := itemsL_run R1 r1 e0
  exact ⟨.inl ⟨rfl, xs, sq⟩, hf B _ [] p.1 [] p.2 w S' Q R1 r1 .nil e (q.nxt N)⟩
theorem lstAt_run {A : Wd} {S : Mem} {v : V} {w : W} {n : Nat} {ws : List W} (R : Rep K tb A S) (r : WR K tb A v w) (h : lstAt w S = some (n, ws)) : w = .loc n ∧ S[n]? = some (.lst ws) ∧ ∃ a xs, v = .ref a ∧ A.ι[n]? = some a ∧ A.H a = some (.lst xs) ∧ WRs K tb A xs ws := by
  unfold lstAt at h
  split at h
  · split at h
    · rename_i m ws' e
      cases h
      obtain ⟨a, rfl, i⟩ := r
      obtain ⟨vs, ev, rr⟩ := R.at_ _ a _ i e
      exact ⟨rfl, e, a, vs, rfl, i, ev, rr⟩
    · cases h
  · cases h
/-- the list with number n becomes ws -/
theorem lset_run {A : Wd} {S : Mem} {n : Nat} {a : Addr} {ws : List W} {vs : List V} {w : W} {v : V} {Q : VK} (R : Rep K tb A S) (ia : A.ι[n]? = some a) (r : WRs K tb A vs ws) (rv : WR K tb A v w) (q : Pd.KE K tb A w (S.set n (.lst ws)) Q) : Q v (upd A.H a (.lst vs)) :=
  q v (A.put a (.lst vs)) (.set ia) (R.set ia ⟨vs, upd_same, r.nxt (.set ia)⟩) (rv.nxt (.set ia))
theorem WRs.append {A : Wd} {vs us : List V} {ws zs : List W} (r : WRs K tb A vs ws) (g : WRs K tb A us zs) : WRs K tb A (vs ++ us) (ws ++ zs) := by
  induction r with
  | nil => exact g
  | cons a b ih => exact .cons a ih
def mAppend : MM := fun a ws S => match ws with
  | [w] => (lstAt a S).bind fun p => if p.2.length < sizeLine then some (.d .none, S.set p.1 (.lst (p.2 ++ [w]))) else none
  | _ => none
theorem sm_append : SM K tb rAppend mAppend := fun A x vs a ws S w S' Q R ra rs e q => by
  unfold mAppend at e
  split at e
  · obtain ⟨⟨n, us⟩, e1, e⟩ := Option.bind_eq_some_iff.mp e
    dsimp only at e
    split at e
    · rename_i hl
      cases e
      obtain ⟨rfl, _, p, xs, rfl, ia, ep, rx⟩ := lstAt_run R ra e1
      obtain ⟨v, rfl, rv⟩ := wrs1 rs
      exact ⟨p, xs, v, rfl, rfl, ep, by rw [WRs.length rx]; exact hl, lset_run (v := .non) (w := .d .none) R ia (rx.append (.cons rv .nil)) DR.non q⟩
    · cases e
  · cases e
/-- extend by a list -/
def rExtendL : V → List V → Hp → VK → Prop := fun x vs H Q => ∃ l b xs zs, x = .ref l ∧ vs = [.ref b] ∧ H l = some (.lst xs) ∧ Rd H b (.lst zs) ∧ xs.length + zs.length ≤ sizeLine ∧ Q .non (upd H l (.lst (xs ++ zs)))
theorem mt_extendL {X : Cx} : MtM X "list.extend" rExtendL := by
  intro pins s σ H x vs v us Q I rx rv h
  obtain ⟨l, b, xs, zs, rfl, rfl, hH, hB, hz, q⟩ := h
  cases rx
  obtain ⟨u, rfl, ru⟩ := rv.one
  cases ru
  obtain ⟨z, its, n, r, hl, e⟩ := I.lstM hH
  obtain ⟨z2, its2, n2, r2, e2⟩ := hB.ok I.hok
  have hl2 := r2.length
  have hsz : its.toArray.size + its2.toArray.size ≤ sizeLine := by rw [List.size_toArray, List.size_toArray]; omega
  have hlong : ¬ (!its.toArray.isEmpty && Builtin.List.listTooLong (its.toArray.size + its2.toArray.size)) = true := by
    rw [notLongL hsz, Bool.and_false]
    exact Bool.false_ne_true
  refine call_meets F.slot_list_extend ⟨_, e, rfl⟩ F.entry_list_extend (F.args_list_extend_2 _ _)
    (AutoSeq1.list_extend_list_list_0 l its.toArray n b its2.toArray n2 hlong (by simp only [List.size_toArray]; omega) (by simp only [List.size_toArray]; omega)) ⟨e, e2, ?_⟩
  refine ⟨.non, _, I.lset (its' := its ++ its2) hH e (by simp) (r.append r2) ?_, rfl, q⟩
  rw [List.length_append]
  omega
def mExtend : MM := fun a ws S => match ws with
  | [.d (.list ds)] => (lstAt a S).bind fun p => if p.2.length + ds.length ≤ sizeLine then some (.d .none, S.set p.1 (.lst (p.2 ++ ds.map .d))) else none
  | _ => none
theorem sm_extend : SM K tb rExtendL mExtend := fun A x vs a ws S w S' Q R ra rs e q => by
  unfold mExtend at e
  split at e
  · rename_i ds
    obtain ⟨⟨n, us⟩, e1, e⟩ := Option.bind_eq_some_iff.mp e
    dsimp only at e
    split at e
    · rename_i hl
      cases e
      obtain ⟨rfl, _, p, xs, rfl, ia, ep, rx⟩ := lstAt_run R ra e1
      obtain ⟨v, rfl, rv⟩ := wrs1 rs
      obtain ⟨b, zs, rfl, f, rd⟩ := WR.lst rv
      have l1 := rd.length
      exact ⟨p, b, xs, zs, rfl, rfl, ep, f.2, by rw [WRs.length rx]; omega, lset_run (v := .non) (w := .d .none) R ia (rx.append (wrs_of rd)) DR.non q⟩
    · cases e
  · cases e
def mPop : MM := fun a ws S => match ws with
  | [] => (lstAt a S).bind fun p => (p.2[p.2.length - 1]?).bind fun w => some (w, S.set p.1 (.lst p.2.dropLast))
  | _ => none
theorem WRs.dropLast {A : Wd} {vs : List V} {ws : List W} (r : WRs K tb A vs ws) : WRs K tb A vs.dropLast ws.dropLast := by
  induction r with
  | nil => exact .nil
  | cons a b ih =>
    cases b with
    | nil => exact .nil
    | cons c d => exact .cons a ih
theorem sm_pop : SM K tb rPop mPop := fun A x vs a ws S w S' Q R ra rs e q => by
  unfold mPop at e
  split at e
  · obtain ⟨⟨n, us⟩, e1, e⟩ := Option.bind_eq_some_iff.mp e
    obtain ⟨w1, e2, e⟩ := Option.bind_eq_some_iff.mp e
    cases e
    obtain ⟨rfl, _, p, xs, rfl, ia, ep, rx⟩ := lstAt_run R ra e1
    cases rs
    obtain ⟨v, e3, rv⟩ := WRs.get' rx e2
    exact ⟨p, xs, v, rfl, rfl, ep, by rw [WRs.length rx]; exact e3, lset_run R ia rx.dropLast rv q⟩
  · cases e
def mReverse : MM := fun a ws S => match ws with
  | [] => (lstAt a S).bind fun p => some (.d .none, S.set p.1 (.lst p.2.reverse))
  | _ => none
theorem WRs.reverse {A : Wd} {vs : List V} {ws : List W} (r : WRs K tb A vs ws) : WRs K tb A vs.reverse ws.reverse := by
  induction r with
  | nil => exact .nil
  | cons a b ih => rw [List.reverse_cons, List.reverse_cons]; exact ih.append (.cons a .nil)
theorem sm_reverse : SM K tb rReverse mReverse := fun A x vs a ws S w S' Q R ra rs e q => by
  unfold mReverse at e
  split at e
  · obtain ⟨⟨n, us⟩, e1, e⟩ := Option.bind_eq_some_iff.mp e
    cases e
    obtain ⟨rfl, _, p, xs, rfl, ia, ep, rx⟩ := lstAt_run R ra e1
    cases rs
    exact ⟨p, xs, rfl, rfl, ep, lset_run (v := .non) (w := .d .none) R ia rx.reverse DR.non q⟩
  · cases e
/-! ### a[i] = v -/
def gIx (o i : ME) : MG := fun w ρ S => (o ρ S).bind fun p => (i ρ p.2).bind fun z => match z.1 with
  | .d (.int k) => (lstAt p.1 z.2).bind fun l => (ixN l.2.length k).bind fun j => some (ρ, z.2.set l.1 (.lst (l.2.set j w)))
  | _ => none
theorem WRs.set {A : Wd} {vs : List V} {ws : List W} {v : V} {w : W} (r : WRs K tb A vs ws) (rv : WR K tb A v w) : ∀ j, WRs K tb A (vs.set j v) (ws.set j w) := by
  induction r with
  | nil => intro j; exact .nil
  | cons a b ih =>
    intro j
    cases j with
    | zero => exact .cons rv b
    | succ j => exact .cons a (ih j)
theorem sg_ix {to ti : TE} {o i : ME} (ho : SE K tb to o) (hi : SE K tb ti i) : SG K tb [] (gSub to ti rSetL) (gIx o i) := fun A v w σ ρ S ρ' S' Q R E r e q => by
  obtain ⟨p, e1, e⟩ := Option.bind_eq_some_iff.mp e
  obtain ⟨z, e2, e⟩ := Option.bind_eq_some_iff.mp e
  obtain ⟨z1, S2⟩ := z
  dsimp only at e
  split at e
  · rename_i k
    obtain ⟨⟨n, us⟩, e3, e⟩ := Option.bind_eq_some_iff.mp e
    obtain ⟨j, e4, e⟩ := Option.bind_eq_some_iff.mp e
    cases e
    refine ho A σ ρ S p.1 p.2 _ R E e1 fun x B N R1 r1 => ?_
    refine hi B σ ρ p.2 _ S2 _ R1 (E.nxt N) e2 fun y C N2 R2 r2 => ?_
    obtain rfl := WR.int r2
    obtain ⟨_, _, a, xs, rfl, ia, ea, rx⟩ := lstAt_run R2 (r1.nxt N2) e3
    have NN := N.trans N2
    exact ⟨a, xs, k, j, rfl, rfl, ea, by rw [WRs.length rx]; exact e4, q (C.put a _) σ (NN.trans (.set ia)) (R2.set ia ⟨_, upd_same, (rx.set (r.nxt NN) j).nxt (.set ia)⟩) (E.nxt (NN.trans (.set ia))) rfl fun _ _ => rfl⟩
  · cases e
/-! ### isinstance of a written class, by the kind of the data -/
def tyD : W → Option String
  | .d (.tuple _) => some "tuple"
  | .d (.int _) => some "int"
  | .d (.bool _) => some "bool"
  | .d (.str _) => some "str"
  | .d .none => some "NoneType"
  | _ => none
end
end Pd
/-! ### enumerate of a tuple -/
namespace PySem
open Sem (wp)
open AutoSeq1 (wpAny_loadPart')
theorem own_enum_new {v : Value} {o : Obj} {H : Heap → Prop} (B : Begins v o H) :
    Meets (Builtin.«enumerate.__new__» ⟨[.type "enumerate", v], []⟩) (fun _ R s => H s.heap ∧
      R (.ok (.ret (.ref (s.heap.push o).objs.size))) { s with heap := (s.heap.push o).push { cls := .type "enumerate", data := .fields #[.none, .bool false, .ref s.heap.objs.size, rawInt 0, .none, .none] } }) :=
  .of_wp fun prog w A R s h => by
    obtain ⟨hp, g, d, tk, os⟩ := s; obtain ⟨h1, h⟩ := h
    have hsub := sub_enumerate
    have it1 : ∀ {A' : Around} {E : Value → Shared → Prop} {Q : Value → Shared → Prop}, Q (.ref hp.objs.size) ⟨hp.push o, g, d, tk, os⟩ → wpAny (model prog w) A' (pyIter v) Q E ⟨hp, g, d, tk, os⟩ :=
      fun q => B.iter prog w _ _ ⟨hp, g, d, tk, os⟩ _ h1 q
    wp_walk using it1
    refine wpAny_stack_any fun st => wpAny_pure ?_
    split
    · rename_i c _ _ _ _ _
      cases (c == Value.type "enumerate")
      · wp_walk using it1
        exact ⟨_, rfl, h⟩
      · wp_walk using it1
        exact ⟨_, rfl, h⟩
    · wp_walk using it1
      exact ⟨_, rfl, h⟩
section
variable {prog : Program} {w : World} {A : Around} {E : Value → Shared → Prop} {s : Shared}
theorem own_enum_call {v : Value} {o : Obj} {H : Heap → Prop} {Q : Value → Shared → Prop} (B : Begins v o H) (h1 : H s.heap)
    (h : ∀ h', IsEnum h' (s.heap.objs.size + 1) s.heap.objs.size 0 .none → h'.get? s.heap.objs.size = some o → h'.objs.size = s.heap.objs.size + 2 →
      (∀ b o, s.heap.get? b = some o → h'.get? b = some o) → Q (.ref (s.heap.objs.size + 1)) { s with heap := h' }) :
    wpAny (model prog w) A (call (.type "enumerate") [v]) Q E s := by
  refine callType_new F.called_enumerate (by decide) (F.typeCall_enumerate_1 _) (F.newCall_enumerate_1 _) (fun obj => F.args_object_init_2 obj _) F.entry_enumerate_new (own_enum_new B) ⟨h1, ?_⟩
  have hz : (s.heap.push o).objs.size = s.heap.objs.size + 1 := Heap.size_push ..
  show _ ∧ _
  rw [hz]
  have he : IsEnum ((s.heap.push o).push { cls := .type "enumerate", data := .fields #[.none, .bool false, .ref s.heap.objs.size, rawInt 0, .none, .none] }) (s.heap.objs.size + 1) s.heap.objs.size 0 .none := by
    have := Heap.get?_push_size (s.heap.push o) (o := { cls := .type "enumerate", data := .fields #[.none, .bool false, .ref s.heap.objs.size, rawInt 0, .none, .none] }) rfl
    rw [hz] at this; exact this
  exact ⟨⟨_, he, rfl⟩, h _ he (Heap.get?_push_of_some _ (Heap.get?_push_size _ B.free)) (by rw [Heap.size_push, hz]) fun b o x => Heap.get?_push_of_some _ (Heap.get?_push_of_some _ x)⟩
theorem own_enum_end {e it t : Addr} {i : Nat} {k : Int} {items : Array Value} {old : Value} {Q : Option Value → Shared → Prop} (hd : A.in1.handled = none) (he : IsEnum s.heap e it k old) (hit : s.heap.IsTupleIter it t i) (ht : s.heap.IsTuple t items) (hx : items[i]? = none)
    (hQ : ∀ h', Heap.ExtBut it s.heap h' → Q none { s with heap := h' }) : wpAny (model prog w) A (pyNext (.ref e)) Q E s := by
  have ty : s.TypeIs (.ref e) "enumerate" := ⟨_, he, rfl⟩
  unfold pyNext
  refine wpAny_bind (wpAny_attempt (wpAny_callSpecial?_slot (name := Str.ofString "__next__") ty F.slot_enumerate_next (wpAny_call_entry F.slot_enumerate_next ty F.entry_enumerate_next ?_ (F.args_enumerate_next_1 _))))
  show wpAny _ _ (field (.ref e) 2 >>= _) _ _ _
  refine wpAny_bind (wpAny_field he rfl (x := .ref it) rfl (wpAny_bind (wpAny_nextOf_tuple_end hd hit ht hx fun h' x he' ⟨o, ho, hc⟩ => ?_)))
  exact wpAny_bind (wpAny_isInstance (T := "StopIteration") (b := true) ⟨o, ho, hc⟩ isSubtype_stop (wpAny_pure (hQ _ he')))
end
end PySem
namespace L2
open PySem PySem.Spec PyProof.Rows
def Iet (K : PySem.W.Frag) (a : Addr) : It :=
  ⟨fun i H => ∃ (xs : List V) (x : V), SqT K H a xs ∧ xs[i]? = some x, fun i H v H' => ∃ T x, v = .ref T ∧ H T = none ∧ H' = upd H T (.tup [.int (i : Nat), x]) ∧ ∀ xs, SqT K H a xs → xs[i]? = some x, fun i H => ∃ xs : List V, SqT K H a xs ∧ xs.length ≤ i⟩
theorem turn_enumT {P : Program} {w : World} {K : PySem.W.Frag} {elts : List Expr} {kk : Nat} {tpos : Pos} (a e it : Addr) :
    Turn P w K (.Tuple elts kk tpos) (Iet K a) [e, it] e (fun i h => (∃ old, IsEnum h e it ((i : Nat) : Int) old) ∧ h.IsTupleIter it a i ∧ e ≠ it ∧ e ≠ a ∧ a ≠ it) where
  mem := by simp
  obj := fun i h st b hb => by
    obtain ⟨⟨old, he⟩, ⟨o, ho, hc, hd⟩, _⟩ := st
    have e' : b = e ∨ b = it := by simpa using hb
    rcases e' with z | z
    · rw [z]; exact ⟨_, he, fun v q => nomatch q⟩
    · rw [z]; exact ⟨o, ho, fun v q => by rw [hd] at q; cases q⟩
  keep := fun i h h' st k => let ⟨⟨old, he⟩, hi, hne⟩ := st; ⟨⟨old, k e (by simp) _ he⟩, hi.at fun o q => k it (by simp) o q, hne⟩
  item := by
    intro X hP hw hK hc i pins s σ H E I hf st hg
    subst hP hw hK
    obtain ⟨⟨old, he⟩, hit, hne, hea, hai⟩ := st
    obtain ⟨xs, x, hq, hx⟩ := hg
    obtain ⟨its, rv, p, hz⟩ := I.tuple hq
    obtain ⟨u, hu, ru⟩ := rv.get hx
    have hel : e < s.heap.objs.size := Heap.lt_size he
    have hil : it < s.heap.objs.size := by obtain ⟨_, q, _⟩ := hit; exact Heap.lt_size q
    have hd : X.A.in1.handled = none := I.ok.hd hc
    have pt : s.heap.IsTuple a its.toArray := p
    have hi : i < its.toArray.size := by
      have := (List.getElem?_eq_some_iff.mp hu).1
      simpa using this
    refine wpAny_pyNext_enum_itemD (Draws.tuple hd it a hai its.toArray) he ⟨hit, pt⟩ hi hne (by simp [hne, hea]) fun y h' tk hy ho st' hT hsz hk => ?_
    have ey : y = u := by
      have : its.toArray[i]? = some u := by simpa using hu
      rw [this] at hy
      exact (Option.some.inj hy).symm
    subst ey
    refine ⟨_, rfl, wpAny_letOwnedTupleGo_enum (s := { s with heap := h', toks := tk + 1 }) ho fun h'' he' sb => ?_⟩
    have hT2 : h''.get? s.heap.objs.size = some { cls := .type "tuple", data := .seq #[.int i tk, y] } := (sb.2 _ (Nat.ne_of_gt hel)).trans hT
    have new : ObjOk X.prog X.w (upd H s.heap.objs.size (.tup [.int (i : Nat), x])) h'' s.heap.objs.size (.tup [.int (i : Nat), x]) :=
      ⟨by show 2 ≤ sizeLine; decide, [.int i tk, y], .cons ⟨_, rfl⟩ (.cons ru .nil), ⟨_, hT2, rfl, _, rfl⟩⟩
    have I1 : Inv X pins σ (upd H s.heap.objs.size (.tup [.int (i : Nat), x])) { s with heap := h'', toks := tk + 1 } :=
      I.turnedNew (ch := [e, it]) (fun b ob hb q => (sb.2 b (fun z => hb (by simp [z]))).trans (hk b ob (fun z => hb (by simp [z])) (fun z => hb (by simp [z])) q)) hf (Nat.le_refl _) new
    refine ⟨.ref s.heap.objs.size, _, I1, rfl, ⟨_, x, rfl, I.hok.fresh (Nat.le_refl _), rfl, fun ys hy => by rw [I.tuple_inj hy hq]; exact hx⟩, ⟨⟨y, ?_⟩, st'.1.at fun o q => (sb.2 it (Ne.symm hne)).trans q, hne, hea, hai⟩, fun b hb => ?_⟩
    · have e1 : ((i + 1 : Nat) : Int) = (i : Int) + 1 := by omega
      rw [e1]; exact he'
    · have hb' : b < s.heap.objs.size := by
        have e' : b = e ∨ b = it := by simpa using hb
        rcases e' with z | z
        · rw [z]; exact hel
        · rw [z]; exact hil
      rw [upd_ne (Nat.ne_of_lt hb')]
      exact (hf b hb).1
  done := by
    intro X hP hw hK hc i pins s σ H E I hf st hg
    subst hP hw hK
    obtain ⟨⟨old, he⟩, hit, hne, hea, hai⟩ := st
    obtain ⟨xs, hq, hx⟩ := hg
    obtain ⟨its, rv, p, hz⟩ := I.tuple hq
    obtain ⟨f0, f1, f2, f3, f4, f5⟩ := hf it (by simp)
    have hl := rv.length
    have hd : X.A.in1.handled = none := I.ok.hd hc
    have pt : s.heap.IsTuple a its.toArray := p
    refine own_enum_end hd he hit pt (by simp; omega) fun h' eb => ⟨rfl, I.turned (t' := s.toks) (fun b o hb q => eb b o hb q) f0 f1 f3 f4 f5⟩
  self := fun A i s Q E st h => let ⟨⟨_, he⟩, _⟩ := st; wpAny_pyIter_enum he h
def iEnumT (K : PySem.W.Frag) (ta : TA) : TI := fun σ H R => ta σ H fun vs H1 => ∃ a xs, vs = [.ref a] ∧ SqT K H1 a xs ∧ R (Iet K a) H1
theorem pi_enumT {X : Cx} {e : Expr} {ta : TA} {p pos tpos : Pos} {elts : List Expr} {kk : Nat} (hg : Gl X "enumerate") (hm : X.mg "enumerate" = none) (ha : PA X [e] ta) (hs : starEach [e] X.env = [(false, eval e X.env)] := by rfl) :
    PI X (.Tuple elts kk tpos) (.Call (.Name "enumerate" p) [e] [] pos) (iEnumT X.K ta) := by
  refine ⟨fun pins s σ H R I h => ?_⟩
  refine Call_ (ld_blt I hg hm boot_enumerate (PyProof.Rows.callWith_type1 (thn (ha.run pos pins s σ H _ I h) fun us s1 ⟨vs, H1, I1, r1, q1⟩ => ?_) hs rfl))
  obtain ⟨a, xs, rfl, hq, q⟩ := q1
  cases r1 with
  | cons r rr =>
    cases rr
    cases r
    obtain ⟨its, rv, p', hz⟩ := I1.tuple hq
    have pt : s1.heap.IsTuple a its.toArray := p'
    have hal : a < s1.heap.objs.size := by obtain ⟨o, q, _⟩ := pt; exact Heap.lt_size q
    refine own_enum_call (begins_tuple a its.toArray) pt fun h' he hit hsz hk => wpAny_pyIter_enum he ?_
    have I2 : Inv X pins σ H1 { s1 with heap := h' } := I1.kept (t' := s1.toks) hk
    refine ⟨s1.heap.objs.size + 1, [s1.heap.objs.size + 1, s1.heap.objs.size], _, _, H1, rfl, I2, turn_enumT a (s1.heap.objs.size + 1) s1.heap.objs.size, ⟨⟨.none, he⟩, ⟨_, hit, rfl, rfl⟩, Nat.succ_ne_self _, Nat.ne_of_gt (Nat.lt_succ_of_lt hal), Nat.ne_of_lt hal⟩, fun b hb => ?_, q⟩
    have e' : b = s1.heap.objs.size + 1 ∨ b = s1.heap.objs.size := by simpa using hb
    have hle : s1.heap.objs.size ≤ b := by
      rcases e' with z | z
      · rw [z]; exact Nat.le_add_right _ _
      · rw [z]; exact Nat.le_refl _
    exact I1.fpOk hle (I1.hok.fresh hle)
end L2
namespace Pd
open PySem PySem.Spec PyProof.Rows L2 GxR Gx
section
variable {K : PySem.W.Frag} {tb : List Addr}
/-! ### enumerate -/
def numW (us : List PyData) : List W := us.zipIdx.map fun p => W.d (.tuple [.int (p.2 : Int), p.1])
theorem numW_get {us : List PyData} {i : Nat} {w : W} (h : (numW us)[i]? = some w) : ∃ d, us[i]? = some d ∧ w = .d (.tuple [.int (i : Int), d]) := by
  unfold numW at h
  rw [List.getElem?_map] at h
  obtain ⟨p, e1, e2⟩ := Option.map_eq_some_iff.mp h
  rw [List.getElem?_zipIdx] at e1
  obtain ⟨d, e3, e4⟩ := Option.map_eq_some_iff.mp e1
  subst e4 e2
  refine ⟨d, e3, ?_⟩
  simp
theorem numW_length {us : List PyData} : (numW us).length = us.length := by unfold numW; simp
def iEnumM (a : MA) : MI := fun ρ S => (a ρ S).bind fun p => match p.1 with
  | [.d (.tuple ds)] => some (.vals (numW ds), p.2)
  | _ => none
def iEnumLM (a : MA) : MI := fun ρ S => (a ρ S).bind fun p => match p.1 with
  | [.d (.list ds)] => some (.vals (numW ds), p.2)
  | _ => none
theorem iet_ok {A : Wd} {a : Addr} {xs : List V} {ds : List PyData} (f : FzT K tb A a xs) (r : DRs K tb A xs ds) : ItOk K tb A (Iet K a) (.vals (numW ds)) := fun B S ws N R e => by
  cases (show numW ds = ws from e)
  have f' := (f.nxw N).sq
  have rl := r.length
  refine ⟨fun i w hw => ?_, fun i hi => ⟨xs, f', by rw [numW_length] at hi; omega⟩⟩
  obtain ⟨d, e1, rfl⟩ := numW_get hw
  obtain ⟨v, e2, r2⟩ := r.get' e1
  refine ⟨⟨xs, v, f', e2⟩, fun x H2 y => ?_⟩
  obtain ⟨T, x', rfl, hT, rfl, y⟩ := y
  have := y xs f'
  rw [e2] at this; cases this
  exact ⟨B.put T _, rfl, .put hT _, R.put hT _, DR.tup (.inl (.put R hT _)) (.cons (.int _) (.cons (DR.nxt (.put hT _) d (DR.nxw N d r2)) .nil))⟩
theorem ite_ok {A : Wd} {a : Addr} {xs : List V} {ds : List PyData} (f : Fz tb A a (.lst xs)) (r : DRs K tb A xs ds) : ItOk K tb A (Ite K a) (.vals (numW ds)) := fun B S ws N R e => by
  cases (show numW ds = ws from e)
  have f' : SqL K B.H a xs := (f.nxw N).sq
  have rl := r.length
  refine ⟨fun i w hw => ?_, fun i hi => ⟨xs, f', by rw [numW_length] at hi; omega⟩⟩
  obtain ⟨d, e1, rfl⟩ := numW_get hw
  obtain ⟨v, e2, r2⟩ := r.get' e1
  refine ⟨⟨xs, v, f', e2⟩, fun x H2 y => ?_⟩
  obtain ⟨T, x', rfl, hT, rfl, y⟩ := y
  have := y xs f'
  rw [e2] at this; cases this
  exact ⟨B.put T _, rfl, .put hT _, R.put hT _, DR.tup (.inl (.put R hT _)) (.cons (.int _) (.cons (DR.nxt (.put hT _) d (DR.nxw N d r2)) .nil))⟩
theorem si_enumT {t : TA} {a : MA} (ha : SA K tb t a) : SI K tb (iEnumT K t) (iEnumM a) := fun A σ ρ S im S' R' R E e q => by
  obtain ⟨⟨ws, S1⟩, e1, e⟩ := Option.bind_eq_some_iff.mp e
  refine ha A σ ρ S ws S1 _ R E e1 fun vs B N R1 r => ?_
  dsimp only at e
  split at e
  · cases e
    obtain ⟨v, rfl, r1⟩ := wrs1 r
    obtain ⟨a, xs, rfl, f, rd⟩ := r1.tup
    exact ⟨a, xs, rfl, f.sq, q _ B N R1 (iet_ok f rd)⟩
  · cases e
theorem si_enum {t : TA} {a : MA} (ha : SA K tb t a) : SI K tb (iEnum K t) (iEnumLM a) := fun A σ ρ S im S' R' R E e q => by
  obtain ⟨⟨ws, S1⟩, e1, e⟩ := Option.bind_eq_some_iff.mp e
  refine ha A σ ρ S ws S1 _ R E e1 fun vs B N R1 r => ?_
  dsimp only at e
  split at e
  · cases e
    obtain ⟨v, rfl, r1⟩ := wrs1 r
    obtain ⟨a, xs, rfl, f, rd⟩ := r1.lst
    exact ⟨a, xs, rfl, f.sq, q _ B N R1 (ite_ok f rd)⟩
  · cases e
/-! ### a comprehension with two sources -/
def lc2M (im : Itm) (g : MG) (t : MT) (mi1 : MI) (vs1 : List Nat) (g1 : MG) (t1 : MT) (e : ME) : Nat → Nat → Env' → Mem → Option (List W × Mem)
  | f, i, ρ, S => match im.at_ S i with
    | none => none
    | some none => some ([], S)
    | some (some w) => match f with
      | 0 => none
      | f + 1 => (g w ρ S).bind fun p => (t p.1 p.2).bind fun q => if q.1 = true then (mi1 p.1 q.2).bind fun m => (lcM m.1 g1 t1 e (m.1.len m.2) 0 (wipeE p.1 vs1) m.2).bind fun r => (lc2M im g t mi1 vs1 g1 t1 e f (i + 1) ρ r.2).bind fun z => some (r.1 ++ z.1, z.2)
        else lc2M im g t mi1 vs1 g1 t1 e f (i + 1) ρ q.2
def eLc2 (mi : MI) (vs : List Nat) (g : MG) (t : MT) (mi1 : MI) (vs1 : List Nat) (g1 : MG) (t1 : MT) (e : ME) (mk : List W → Mem → Option (W × Mem)) : ME := fun ρ S => (mi ρ S).bind fun p => (lc2M p.1 g t mi1 vs1 g1 t1 e (p.1.len p.2) 0 (wipeE ρ vs) p.2).bind fun q => mk q.1 q.2
theorem se_lc2 {wi wi1 : TI} {mg' mg1' : TG} {tt tt1 : TT} {te : TE} {vs vs1 us us1 : List Nat} {mi mi1 : MI} {mg mg1 : MG} {mt mt1 : MT} {me : ME} {mk : List W → Mem → Option (W × Mem)} (hk : SMk K tb mk) (hi : SI K tb wi mi) (hg : SG K tb us mg' mg) (hsub : ∀ j, j ∈ us → j ∈ vs) (ht : ST K tb tt mt)
    (hi1 : SI K tb wi1 mi1) (hg1 : SG K tb us1 mg1' mg1) (hsub1 : ∀ j, j ∈ us1 → j ∈ vs1) (ht1 : ST K tb tt1 mt1) (he : SE K tb te me) :
    SE K tb (tLc2 wi mg' tt wi1 mg1' tt1 te vs vs1) (eLc2 mi vs mg mt mi1 vs1 mg1 mt1 me mk) := fun A σ ρ S w S' Q R E e q => by
  obtain ⟨⟨im, S1⟩, e1, e⟩ := Option.bind_eq_some_iff.mp e
  obtain ⟨⟨zs, S2⟩, e2, e3⟩ := Option.bind_eq_some_iff.mp e
  refine hi A σ ρ S im S1 _ R E e1 fun J B N R1 ok D hD => ?_
  have hlen := hk.1 _ _ _ e3
  let B1 : Wd := { H := upd B.H D (.lst []), ι := B.ι, hid := D :: B.hid }
  have nD := R1.fresh hD
  have N1 : Nxt tb B B1 := ⟨fun b z => List.mem_cons_of_mem _ z, fun b z => (List.mem_cons.mp z).elim (fun z => .inr (by rw [z]; exact hD)) .inl, fun b z => upd_none z, ⟨[], by show B.ι = _; simp⟩, fun b o n t e => ⟨by show upd B.H D _ b = _; rw [upd_ne (ne_of_none e hD)]; exact e, n⟩⟩
  have RB : Rep K tb B1 S1 := by
    have R2 := R1.put hD (.lst [])
    refine ⟨R2.len, R2.nd, R2.tabs, fun b hb => ?_, fun n a ob z1 z2 => ?_⟩
    · rcases List.mem_cons.mp hb with z | z
      · subst z; exact ⟨⟨_, upd_same⟩, fun z => nD (.inl z), fun z => nD (.inr (.inl z))⟩
      · exact R2.hd b z
    · have o := R1.at_ n a ob z1 z2
      obtain ⟨oo, eo, _⟩ := o.some
      exact o.nxt N1 (by show upd B.H D _ a = _; rw [upd_ne (ne_of_none eo hD)])
  have EB := wipeE_er (E.nxt N) vs
  refine ⟨fun i m H => ∃ C acc ws S3 zs', C.H = H ∧ Nxt tb B C ∧ D ∈ C.hid ∧ C.H D = some (.lst acc) ∧ Rep K tb C S3 ∧ WRs K tb C acc ws ∧ lc2M im mg mt mi1 vs1 mg1 mt1 me m i (wipeE ρ vs) S3 = some (zs', S2) ∧ ws ++ zs' = zs,
    ⟨_, B1, [], [], S1, zs, rfl, N1, List.mem_cons_self, upd_same, RB, .nil, e2, rfl⟩, ?_⟩
  rintro i m _ ⟨C, acc, ws, S3, zs', rfl, N3, hDC, eD, R3, racc, e4, hz⟩
  unfold lc2M at e4
  split at e4
  · cases e4
  · rename_i ha
    cases e4
    obtain ⟨us', hu, hz'⟩ := Itm.at_now ha
    rw [List.append_nil] at hz
    subst hz
    exact .inl ⟨(ok C _ us' N3.w R3 hu).2 i (List.getElem?_eq_none_iff.mp hz'.symm), hk.2 B C D acc ws S1 _ w S' Q R1 hD N3 hDC eD R3 racc e3 (q.nxt N)⟩
  · rename_i w1 ha
    obtain ⟨us', hu, hz'⟩ := Itm.at_now ha
    obtain ⟨go, yl⟩ := (ok C S3 us' N3.w R3 hu).1 i w1 hz'.symm
    cases m with
    | zero => cases e4
    | succ m =>
      obtain ⟨⟨ρ5, S5⟩, e5, e4⟩ := Option.bind_eq_some_iff.mp e4
      obtain ⟨⟨k6, S6⟩, e6, e4⟩ := Option.bind_eq_some_iff.mp e4
      refine .inr ⟨go, fun H' => ∃ C acc ws S3 zs', C.H = H' ∧ Nxt tb B C ∧ D ∈ C.hid ∧ C.H D = some (.lst acc) ∧ Rep K tb C S3 ∧ WRs K tb C acc ws ∧ lc2M im mg mt mi1 vs1 mg1 mt1 me m (i + 1) (wipeE ρ vs) S3 = some (zs', S2) ∧ ws ++ zs' = zs, fun H' h => ⟨m, Nat.lt_succ_self m, h⟩, fun x H2 y => ?_⟩
      obtain ⟨C2, rfl, N4, R4, r4⟩ := yl x H2 y
      have EC : ER K tb C2 (wipe σ vs) (wipeE ρ vs) := EB.nxt (N3.trans N4)
      refine hg C2 x w1 _ _ S3 ρ5 S5 _ R4 EC r4 e5 fun C3 σ3 N5 R5 E5 hl5 hj5 => ⟨wipe_wipe hl5 fun j hj => hj5 j fun z => hj (hsub j z), ?_⟩
      refine ht C3 σ3 ρ5 S5 k6 S6 _ R5 E5 e6 fun C4 N6 R6 => ?_
      have NC := N4.trans (N5.trans N6)
      cases k6 with
      | false =>
        simp only [Bool.false_eq_true, if_false] at e4 ⊢
        exact ⟨C4, acc, ws, S6, zs', rfl, N3.trans NC, NC.hid D hDC, NC.hidden R3 hDC eD, R6, WRs.nxt NC racc, e4, hz⟩
      | true =>
        simp only [if_true] at e4 ⊢
        obtain ⟨⟨im1, S7⟩, e7, e4⟩ := Option.bind_eq_some_iff.mp e4
        obtain ⟨⟨ys8, S8⟩, e8, e4⟩ := Option.bind_eq_some_iff.mp e4
        obtain ⟨⟨zs9, S9⟩, e9, e4⟩ := Option.bind_eq_some_iff.mp e4
        cases e4
        refine hi1 C4 σ3 ρ5 S6 im1 S7 _ R6 (E5.nxt N6) e7 fun J1 C5 N7 R7 ok1 => ?_
        have NC5 := NC.trans N7
        have EI := wipeE_er (E5.nxt (N6.trans N7)) vs1
        refine ⟨fun j k H => ∃ F acc' us2 S3' ys', F.H = H ∧ NxW tb C5 F ∧ D ∈ F.hid ∧ F.H D = some (.lst acc') ∧ Rep K tb F S3' ∧ WRs K tb F acc' us2 ∧ lcM im1 mg1 mt1 me k j (wipeE ρ5 vs1) S3' = some (ys', S8) ∧ us2 ++ ys' = ws ++ ys8 ∧ Nxt tb B F,
          ⟨_, C5, acc, ws, S7, ys8, rfl, Nxt.refl.w, NC5.hid D hDC, NC5.hidden R3 hDC eD, R7, WRs.nxt NC5 racc, e8, rfl, N3.trans NC5⟩, ?_⟩
        rintro j k _ ⟨F, acc', us2, S3', ys', rfl, NF, hDF, eDF, RF, raF, eF, hzF, NBF⟩
        unfold lcM at eF
        split at eF
        · cases eF
        · rename_i haF
          cases eF
          obtain ⟨vs', hv, hzv⟩ := Itm.at_now haF
          rw [List.append_nil] at hzF
          subst hzF
          exact .inl ⟨(ok1 F _ vs' NF RF hv).2 j (List.getElem?_eq_none_iff.mp hzv.symm), F, acc', ws ++ ys8, S8, zs9, rfl, NBF, hDF, eDF, RF, raF, e9, by rw [List.append_assoc]; exact hz⟩
        · rename_i wF haF
          obtain ⟨vs', hv, hzv⟩ := Itm.at_now haF
          obtain ⟨goF, ylF⟩ := (ok1 F S3' vs' NF RF hv).1 j wF hzv.symm
          cases k with
          | zero => cases eF
          | succ k =>
            obtain ⟨⟨ρ10, S10⟩, e10, eF⟩ := Option.bind_eq_some_iff.mp eF
            obtain ⟨⟨k11, S11⟩, e11, eF⟩ := Option.bind_eq_some_iff.mp eF
            refine .inr ⟨goF, fun H' => ∃ F acc' us2 S3' ys', F.H = H' ∧ NxW tb C5 F ∧ D ∈ F.hid ∧ F.H D = some (.lst acc') ∧ Rep K tb F S3' ∧ WRs K tb F acc' us2 ∧ lcM im1 mg1 mt1 me k (j + 1) (wipeE ρ5 vs1) S3' = some (ys', S8) ∧ us2 ++ ys' = ws ++ ys8 ∧ Nxt tb B F, fun H' h => ⟨k, Nat.lt_succ_self k, h⟩, fun x1 H3 y1 => ?_⟩
            obtain ⟨F2, rfl, M4, Q4, s4⟩ := ylF x1 H3 y1
            have EF : ER K tb F2 (wipe σ3 vs1) (wipeE ρ5 vs1) := (EI.nxw NF).nxt M4
            refine hg1 F2 x1 wF _ _ S3' ρ10 S10 _ Q4 EF s4 e10 fun F3 σ10 M5 Q5 E10 hl10 hj10 => ⟨wipe_wipe hl10 fun j hj => hj10 j fun z => hj (hsub1 j z), ?_⟩
            refine ht1 F3 σ10 ρ10 S10 k11 S11 _ Q5 E10 e11 fun F4 M6 Q6 => ?_
            have MC := M4.trans (M5.trans M6)
            cases k11 with
            | false =>
              simp only [Bool.false_eq_true, if_false] at eF ⊢
              exact ⟨F4, acc', us2, S11, ys', rfl, NF.trans MC.w, MC.hid D hDF, MC.hidden RF hDF eDF, Q6, WRs.nxt MC raF, eF, hzF, NBF.trans MC⟩
            | true =>
              simp only [if_true] at eF ⊢
              obtain ⟨⟨y12, S12⟩, e12, eF⟩ := Option.bind_eq_some_iff.mp eF
              obtain ⟨⟨zs13, S13⟩, e13, eF⟩ := Option.bind_eq_some_iff.mp eF
              cases eF
              refine he F4 σ10 ρ10 S11 y12 S12 _ Q6 (E10.nxt M6) e12 fun v F5 M7 Q7 r7 => ?_
              have MC5 := MC.trans M7
              have hD5 := MC5.hid D hDF
              have eD5 := MC5.hidden RF hDF eDF
              have hac := WRs.length raF
              refine ⟨acc', eD5, ?_, F5.hset D (.lst (acc' ++ [v])), acc' ++ [v], us2 ++ [y12], S12, zs13, rfl, nxw_hset (NF.trans MC5.w) (NC5.hid D hDC), hD5, upd_same, Q7.hset hD5, ?_, e13, by rw [List.append_assoc]; exact hzF, nxt_hset (NBF.trans MC5) hD⟩
              · have h1 := congrArg List.length hzF
                have h2 : ws.length + (ys8.length + zs9.length) = zs.length := by have := congrArg List.length hz; simpa using this
                have h3 : zs.length ≤ sizeLine := hlen
                have h4 : us2.length + (zs13.length + 1) = ws.length + ys8.length := by simpa using h1
                omega
              · exact Paired.snoc (Paired.mapP (WRs.nxt MC5 raF) fun _ _ z => wr_key (hset_key hD5) (fun _ _ z => z) z) (wr_key (hset_key hD5) (fun _ _ z => z) r7)
end
end Pd
/-! max(l, default=d) of a list of ints: by the library's max over data -/
namespace Pd
open PySem PySem.Spec PyProof.Rows L2 GxR Gx
section
variable {K : PySem.W.Frag} {tb : List Addr}
/-! ### max(.., default=..) -/
def rMaxD (K : PySem.W.Frag) : List V → List V → Hp → VK → Prop := fun vs zs H Q => ∃ (a : Addr) (ns : List Int) (d : V), vs = [V.ref a] ∧ zs = [d] ∧ SqL K H a (ns.map V.int) ∧ (ns = [] → Q d H) ∧ ∀ m, m ∈ ns → (∀ y, y ∈ ns → y ≤ m) → Q (.int m) H
theorem ints_alike (ns : List Int) : PySem.W.AlikeAll (ns.map PyData.int) := by
  constructor
  · intro x hx y hy
    obtain ⟨i, _, rfl⟩ := List.mem_map.mp hx
    obtain ⟨j, _, rfl⟩ := List.mem_map.mp hy
    rfl
  · intro x hx
    obtain ⟨i, _, rfl⟩ := List.mem_map.mp hx
    exact PyData.noConfusion
theorem ints_flat : ∀ ns : List Int, PyData.depthAll (ns.map PyData.int) = 0
  | [] => rfl
  | n :: ns => by
    show max 0 (PyData.depthAll (ns.map PyData.int)) = 0
    rw [ints_flat ns]; rfl
theorem fold_max (n : Int) : ∀ ns : List Int, ns.foldl max n ∈ n :: ns ∧ ∀ y ∈ n :: ns, y ≤ ns.foldl max n := by
  intro ns
  induction ns generalizing n with
  | nil => exact ⟨List.mem_singleton.mpr rfl, fun y hy => by rw [List.mem_singleton.mp hy]; exact Int.le_refl _⟩
  | cons k r ih =>
    obtain ⟨h1, h2⟩ := ih (max n k)
    rw [List.foldl_cons]
    constructor
    · rcases List.mem_cons.mp h1 with h | h
      · rw [h]
        rcases Int.le_total n k with g | g
        · rw [Int.max_eq_right g]; exact List.mem_cons_of_mem _ List.mem_cons_self
        · rw [Int.max_eq_left g]; exact List.mem_cons_self
      · exact List.mem_cons_of_mem _ (List.mem_cons_of_mem _ h)
    · intro y hy
      have hm := h2 _ List.mem_cons_self
      rcases List.mem_cons.mp hy with rfl | hy
      · exact Int.le_trans (Int.le_max_left _ _) hm
      · rcases List.mem_cons.mp hy with rfl | hy
        · exact Int.le_trans (Int.le_max_right _ _) hm
        · exact h2 y (List.mem_cons_of_mem _ hy)
theorem ck_maxD {X : Cx} (hc : X.calm = true) (hu : X.A.units + 1 < cLine) : CallRK X (.builtin "max") ["default"] (rMaxD X.K) := by
  intro pins s σ H xs zs us ws Q I r1 r2 h
  obtain ⟨a, ns, d, rfl, rfl, hs, q0, q⟩ := h
  obtain ⟨its, rv, hl, _⟩ := I.list hs
  rw [Vals.ref1 r1]
  obtain ⟨u, rfl, ru⟩ := vals1 r2
  refine PySem.W.max_list_default (xs := ns.map .int) (as := []) (I.ok.hd hc) hl.isList (IntsAre.reads _ rv.ints) (ints_alike ns) (by rw [ints_flat]; exact hu) (fun e h' tk hk => ?_) fun y ys i v h' tk bs e _ rd hk => ?_
  · exact ⟨d, H, I.kept hk, ru, q0 (List.map_eq_nil_iff.mp e)⟩
  · obtain ⟨n, rest, rfl, rfl, rfl⟩ := List.map_eq_cons_iff.mp e
    rw [PySem.W.maxD_ints] at rd
    cases rd
    obtain ⟨h1, h2⟩ := fold_max n rest
    exact ⟨.int _, H, I.kept hk, ⟨_, rfl⟩, q _ h1 h2⟩
abbrev MK := List W → List W → Mem → Option (W × Mem)
def SCK (K : PySem.W.Frag) (tb : List Addr) (r : List V → List V → Hp → VK → Prop) (f : MK) : Prop := ∀ A vs zs ws us S w S' Q, Rep K tb A S → WRs K tb A vs ws → WRs K tb A zs us → f ws us S = some (w, S') → Pd.KE K tb A w S' Q → r vs zs A.H Q
def eCallK (f : MK) (a k : MA) : ME := fun ρ S => (a ρ S).bind fun p => (k ρ p.2).bind fun q => f p.1 q.1 q.2
theorem se_cbk {r : List V → List V → Hp → VK → Prop} {f : MK} {t tk : TA} {a k : MA} (hr : SCK K tb r f) (ha : SA K tb t a) (hk : SA K tb tk k) : SE K tb (tCKw r t tk) (eCallK f a k) := fun A σ ρ S w S' Q R E e q => by
  obtain ⟨p, e1, e⟩ := Option.bind_eq_some_iff.mp e
  obtain ⟨z, e2, e⟩ := Option.bind_eq_some_iff.mp e
  exact ha A σ ρ S p.1 p.2 _ R E e1 fun vs B N R1 r1 => hk B σ ρ p.2 z.1 z.2 _ R1 (E.nxt N) e2 fun zs C N2 R2 r2 => hr C vs zs p.1 z.1 z.2 w S' Q R2 (WRs.nxt N2 r1) r2 e (q.nxt (N.trans N2))
def bMaxD : MK := fun ws us S => match ws, us with
  | [w], [d] => (itemsL w S).bind fun us => (intsOf us).bind fun ns => some (if ns.isEmpty = true then d else .d (.int (maxI ns)), S)
  | _, _ => none
theorem sk_maxD : SCK K tb (rMaxD K) bMaxD := fun A vs zs ws us S w S' Q R r1 r2 e q => by
  unfold bMaxD at e
  split at e
  · obtain ⟨us', e1, e2⟩ := Option.bind_eq_some_iff.mp e
    obtain ⟨ns, e3, e4⟩ := Option.bind_eq_some_iff.mp e2
    cases e4
    obtain ⟨v, rfl, q1⟩ := wrs1 r1
    obtain ⟨d, rfl, q2⟩ := wrs1 r2
    obtain ⟨a, xs, rfl, sq, rx⟩ := itemsL_run R q1 e1
    rw [ints_run rx e3] at sq
    refine ⟨a, ns, d, rfl, rfl, sq, fun hz => ?_, fun m hm hall => ?_⟩
    · subst hz
      exact q _ A .refl R q2
    · have hne : ns ≠ [] := by rintro rfl; cases hm
      have hm' : m = maxI ns := Int.le_antisymm (maxI_le hm) (hall _ (maxI_mem hne))
      have he : ns.isEmpty = false := by cases ns with | nil => exact absurd rfl hne | cons a b => rfl
      rw [he] at q
      rw [hm']
      exact q _ A .refl R (DR.int _)
  · cases e
/-! ### is of bools -/
def oIsBl : F2 := fun a b S => match a, b with
  | .d (.bool x), .d (.bool y) => some (.d (.bool (decide (x = y))), S)
  | _, _ => none
theorem sr_isBl : SR K tb rIsB oIsBl := fun A x y a b S w S' Q R ra rb e q => by
  unfold oIsBl at e
  split at e
  · cases e
    exact ⟨_, _, ra.bl, rb.bl, q _ A .refl R (DR.bl _)⟩
  · cases e
theorem op_isBool {X : Cx} : OpR X (compareOp .Is) rIsB := op_isBl
/-! ### unary minus -/
def oNeg : F1 := fun a S => match a with
  | .d (.int i) => some (.d (.int (-i)), S)
  | _ => none
theorem su_neg : SU K tb (rU fun i => .int (-i)) oNeg := fun A x a S w S' Q R ra e q => by
  unfold oNeg at e
  split at e
  · cases e
    exact ⟨_, ra.int, q _ A .refl R (DR.int _)⟩
  · cases e
end
/-! ### the top -/
structure DfC (K : PySem.W.Frag) (mg : Str → Option Value) (x : Str) (st : Stmt) (ps : List Str) where
  f : Addr
  fd : FuncData
  c : Addr
  F : FunC K x x st f fd c
  g : mg x = some (.ref f)
  b : Binds K fd ps []
theorem bt_sum : bootBuiltins "sum" = some (.builtin "sum") := by decide +kernel
theorem bt_max : bootBuiltins "max" = some (.builtin "max") := by decide +kernel
theorem bt_all : bootBuiltins "all" = some (.builtin "all") := by decide +kernel
section
variable {X : Cx} {K : PySem.W.Frag}
theorem pi_tupK {tg l : Expr} {tl : TE} (hK : X.K = K) (hl : PE X l tl) : PI X tg l (iTup K tl) := by subst hK; exact pi_tup hl
theorem pi_lstK {tg l : Expr} {tl : TE} (hK : X.K = K) (hl : PE X l tl) : PI X tg l (iList K tl) := by subst hK; exact pi_list hl
theorem pi_enumTK {e : Expr} {ta : TA} {p pos tpos : Pos} {elts : List Expr} {kk : Nat} (hK : X.K = K) (hg : Gl X "enumerate") (hm : X.mg "enumerate" = none) (ha : PA X [e] ta) (hs : starEach [e] X.env = [(false, eval e X.env)] := by rfl) :
    PI X (.Tuple elts kk tpos) (.Call (.Name "enumerate" p) [e] [] pos) (iEnumT K ta) := by subst hK; exact pi_enumT hg hm ha hs
theorem pi_enumLK {e : Expr} {ta : TA} {p pos tpos : Pos} {elts : List Expr} {kk : Nat} (hK : X.K = K) (hg : Gl X "enumerate") (hm : X.mg "enumerate" = none) (ha : PA X [e] ta) (hs : starEach [e] X.env = [(false, eval e X.env)] := by rfl) :
    PI X (.Tuple elts kk tpos) (.Call (.Name "enumerate" p) [e] [] pos) (iEnum K ta) := by subst hK; exact pi_enum hg hm ha hs
theorem ix_seqK (hK : X.K = K) : IxR X (rIx K) := by subst hK; exact ix_seq
theorem sl_allK (hK : X.K = K) : SlR X (rSlAll K) := by subst hK; exact sl_all
theorem op_plusK (hK : X.K = K) : OpR X (binaryOp .Add) (rPlus K) := by subst hK; exact op_plus
theorem op_eqAK (hK : X.K = K) (hu : X.A.units + 64 < cLine) : OpR X (compareOp .Eq) (rEqA K) := by subst hK; exact op_eqA hu
theorem op_neAK (hK : X.K = K) (hu : X.A.units + 64 < cLine) : OpR X (compareOp .NotEq) (rNeA K) := by subst hK; exact op_neA hu
theorem op_inK (hK : X.K = K) : OpR X (compareOp .In) (rIn K false) := by subst hK; exact op_in_seq
theorem op_ninK (hK : X.K = K) : OpR X (compareOp .NotIn) (rIn K true) := by subst hK; exact op_notIn_seq
theorem cr_lenK (hK : X.K = K) : CallR X (.builtin "len") (fun xs H Q => ∃ p ys, xs = [.ref p] ∧ (SqL K H p ys ∨ SqT K H p ys) ∧ Q (.int ys.length) H) := by subst hK; exact call_len_seq
theorem cr_tupK (hK : X.K = K) : CallR X (.type "tuple") (fun xs H Q => ∃ p ys, xs = [.ref p] ∧ ((SqL K H p ys ∧ ∀ l, H l = none → Q (.ref l) (upd H l (.tup ys))) ∨ (SqT K H p ys ∧ Q (.ref p) H))) := by subst hK; exact call_tuple_of
theorem cr_lstK (hK : X.K = K) : CallR X (.type "list") (rLstOf K) := by subst hK; exact call_list_of
theorem cr_sumK (hK : X.K = K) (hc : X.calm = true) : CallR X (.builtin "sum") (rSum K) := by subst hK; exact cr_sum hc
theorem cr_maxK (hK : X.K = K) (hc : X.calm = true) : CallR X (.builtin "max") (rMax K) := by subst hK; exact cr_max hc
theorem ck_maxDK (hK : X.K = K) (hc : X.calm = true) (hu : X.A.units + 64 < cLine) : CallRK X (.builtin "max") ["default"] (rMaxD K) := by subst hK; exact ck_maxD hc (by omega)
theorem pg_tupK {es : List Expr} {kk : Nat} {pos : Pos} {t : TGs} (h : ∀ K', X.K = K' → PG X (.Tuple es kk pos) (gTup K' es.length t)) (hK : X.K = K) : PG X (.Tuple es kk pos) (gTup K es.length t) := h K hK
end
theorem nodot (N : List Str) (h : (".0" : Str) ∉ N) : ∀ i : Nat, N[i]? ≠ some (".0" : Str) := fun i e => h (List.mem_of_getElem? e)
theorem dr_con {K : PySem.W.Frag} {tb : List Addr} {a : Addr} {xs : List V} {ds : List PyData} (h : SqT K H0 a xs) (r : ∀ A, DRs K tb A xs ds) : ∀ A, DR K tb A (.ref a) (.tuple ds) := fun A => .tup (.inr h) (r A)
end Pd
namespace Pd
open PySem PySem.Spec PyProof.Rows L2 GxR Gx
theorem eqP_str (x y : Str) : eqP (.str x) (.str y) = some (decide (x = y)) := rfl
theorem eqP_int (x y : Int) : eqP (.int x) (.int y) = some (decide (x = y)) := rfl
theorem eqP_bool (x y : Bool) : eqP (.bool x) (.bool y) = some (decide (x = y)) := rfl
theorem atI_0 {α : Type} {v : α} {us : List α} : atI (v :: us) 0 = some v := atI_nat (j := 0) rfl
theorem atI_1 {α : Type} {v x : α} {us : List α} : atI (v :: x :: us) 1 = some x := atI_nat (j := 1) rfl
theorem atI_2 {α : Type} {v x y : α} {us : List α} : atI (v :: x :: y :: us) 2 = some y := atI_nat (j := 2) rfl
theorem atI_3 {α : Type} {v x y z : α} {us : List α} : atI (v :: x :: y :: z :: us) 3 = some z := atI_nat (j := 3) rfl
theorem atI_4 {α : Type} {v x y z u : α} {us : List α} : atI (v :: x :: y :: z :: u :: us) 4 = some u := atI_nat (j := 4) rfl
theorem atI_at {α : Type} {xs : List α} {i : Nat} {x : α} (h : xs[i]? = some x) : atI xs (i : Int) = some x := atI_nat (j := i) h
theorem atI_ok {α : Type} {xs : List α} {i : Int} (h0 : 0 ≤ i) (h1 : i < (xs.length : Int)) : ∃ x, xs[i.toNat]? = some x ∧ atI xs i = some x := by
  have hk : i.toNat < xs.length := by omega
  refine ⟨xs[i.toNat], List.getElem?_eq_getElem hk, ?_⟩
  have q := atI_at (xs := xs) (i := i.toNat) (List.getElem?_eq_getElem hk)
  rwa [show ((i.toNat : Nat) : Int) = i by omega] at q
theorem oIx_tup {ds : List PyData} {i : Int} {S : Mem} : oIx (.d (.tuple ds)) (.d (.int i)) S = (atI ds i).map fun d => (.d d, S) := rfl
theorem oIx_list {ds : List PyData} {i : Int} {S : Mem} : oIx (.d (.list ds)) (.d (.int i)) S = (atI (ds.map W.d) i).map fun d => (d, S) := rfl
theorem oIx_loc {n : Nat} {ws : List W} {i : Int} {S : Mem} (h : S[n]? = some (.lst ws)) : oIx (.loc n) (.d (.int i)) S = (atI ws i).map fun d => (d, S) := by
  show (itemsL (.loc n) S).bind _ = _
  simp only [itemsL, h]
  rfl
theorem itemsL_loc {n : Nat} {ws : List W} {S : Mem} (h : S[n]? = some (.lst ws)) : itemsL (.loc n) S = some ws := by
  simp only [itemsL, h]
theorem items_loc {n : Nat} {ws : List W} {S : Mem} (h : S[n]? = some (.lst ws)) : items (.loc n) S = some ws := by
  simp only [items, h]
theorem lstAt_loc {n : Nat} {ws : List W} {S : Mem} (h : S[n]? = some (.lst ws)) : lstAt (.loc n) S = some (n, ws) := by
  simp only [lstAt, h]
theorem oEq_d {n : Bool} {x y : PyData} {S : Mem} {b : Bool} (h : eqP x y = some b) : oEq n (.d x) (.d y) S = some (.d (.bool (if n then !b else b)), S) := by
  show (eqP x y).map _ = _
  rw [h]; rfl
/-- a for over values: each turn carries the state on -/
theorem forM_vals {g : MG} {b : MS} {ws : List W} (Inv : Nat → Env' → Mem → Prop)
    (step : ∀ i w ρ S, ws[i]? = some w → Inv i ρ S → ∃ ρ1 S1 ρ2 S2, g w ρ S = some (ρ1, S1) ∧ b ρ1 S1 = some (.nx, ρ2, S2) ∧ Inv (i + 1) ρ2 S2) :
    ∀ (k i : Nat) ρ S, ws.length - i = k → i ≤ ws.length → Inv i ρ S → ∃ ρ' S', forM (.vals ws) g b k i ρ S = some (.nx, ρ', S') ∧ Inv ws.length ρ' S' := by
  intro k
  induction k with
  | zero =>
    intro i ρ S hk hi h
    have e : i = ws.length := by omega
    subst e
    refine ⟨ρ, S, ?_, h⟩
    unfold forM
    have : (Itm.vals ws).at_ S ws.length = some none := by show some ws[ws.length]? = _; simp
    rw [this]
  | succ k ih =>
    intro i ρ S hk hi h
    have hlt : i < ws.length := by omega
    obtain ⟨ρ1, S1, ρ2, S2, e1, e2, h2⟩ := step i ws[i] ρ S (List.getElem?_eq_getElem hlt) h
    obtain ⟨ρ', S', e3, h3⟩ := ih (i + 1) ρ2 S2 (by omega) hlt h2
    refine ⟨ρ', S', ?_, h3⟩
    unfold forM
    have : (Itm.vals ws).at_ S i = some (some ws[i]) := by show some ws[i]? = _; simp [hlt]
    rw [this]
    simp only [e1, e2, Option.bind_some]
    exact e3
/-- .. or hands out a result -/
theorem forM_ret {g : MG} {b : MS} {ws : List W} (Inv : Nat → Env' → Mem → Prop) (Rt : W → Mem → Prop)
    (step : ∀ i w ρ S, ws[i]? = some w → Inv i ρ S → ∃ ρ1 S1, g w ρ S = some (ρ1, S1) ∧ ((∃ ρ2 S2, b ρ1 S1 = some (.nx, ρ2, S2) ∧ Inv (i + 1) ρ2 S2) ∨ ∃ r ρ2 S2, b ρ1 S1 = some (.rt r, ρ2, S2) ∧ Rt r S2)) :
    ∀ (k i : Nat) ρ S, ws.length - i = k → i ≤ ws.length → Inv i ρ S → (∃ ρ' S', forM (.vals ws) g b k i ρ S = some (.nx, ρ', S') ∧ Inv ws.length ρ' S') ∨ ∃ r ρ' S', forM (.vals ws) g b k i ρ S = some (.rt r, ρ', S') ∧ Rt r S' := by
  intro k
  induction k with
  | zero =>
    intro i ρ S hk hi h
    have e : i = ws.length := by omega
    subst e
    refine .inl ⟨ρ, S, ?_, h⟩
    unfold forM
    have : (Itm.vals ws).at_ S ws.length = some none := by show some ws[ws.length]? = _; simp
    rw [this]
  | succ k ih =>
    intro i ρ S hk hi h
    have hlt : i < ws.length := by omega
    have ha : (Itm.vals ws).at_ S i = some (some ws[i]) := by show some ws[i]? = _; simp [hlt]
    obtain ⟨ρ1, S1, e1, h1⟩ := step i ws[i] ρ S (List.getElem?_eq_getElem hlt) h
    rcases h1 with ⟨ρ2, S2, e2, h2⟩ | ⟨r, ρ2, S2, e2, h2⟩
    · rcases ih (i + 1) ρ2 S2 (by omega) hlt h2 with ⟨ρ', S', e3, h3⟩ | ⟨r, ρ', S', e3, h3⟩
      · refine .inl ⟨ρ', S', ?_, h3⟩
        unfold forM
        rw [ha]
        simp only [e1, e2, Option.bind_some]
        exact e3
      · refine .inr ⟨r, ρ', S', ?_, h3⟩
        unfold forM
        rw [ha]
        simp only [e1, e2, Option.bind_some]
        exact e3
    · refine .inr ⟨r, ρ2, S2, ?_, h2⟩
      unfold forM
      rw [ha]
      simp only [e1, e2, Option.bind_some]
/-- a comprehension over values, the element a function of the item that leaves the state alone -/
theorem lcM_vals {g : MG} {e : ME} {ws us : List W} {ρ : Env'} {S : Mem} (hl : us.length = ws.length) (step : ∀ (i : Nat) w u, ws[i]? = some w → us[i]? = some u → ∃ ρ1, g w ρ S = some (ρ1, S) ∧ e ρ1 S = some (u, S)) :
    ∀ (k i : Nat), ws.length - i = k → i ≤ ws.length → lcM (.vals ws) g tYesM e k i ρ S = some (us.drop i, S) := by
  intro k
  induction k with
  | zero =>
    intro i hk hi
    have e : i = ws.length := by omega
    subst e
    unfold lcM
    have : (Itm.vals ws).at_ S ws.length = some none := by show some ws[ws.length]? = _; simp
    rw [this, List.drop_of_length_le (by omega)]
  | succ k ih =>
    intro i hk hi
    have hlt : i < ws.length := by omega
    have hlu : i < us.length := by omega
    obtain ⟨ρ1, e1, e2⟩ := step i ws[i] us[i] (List.getElem?_eq_getElem hlt) (List.getElem?_eq_getElem hlu)
    have h3 := ih (i + 1) (by omega) hlt
    unfold lcM
    have ha : (Itm.vals ws).at_ S i = some (some ws[i]) := by show some ws[i]? = _; simp [hlt]
    rw [ha]
    simp only [e1, e2, tYesM, Option.bind_some, if_true, h3]
    rw [List.drop_eq_getElem_cons hlu]
/-- .. the state goes on -/
theorem lcM_st {g : MG} {e : ME} {ws : List W} {ρ : Env'} (Inv : Nat → List W → Mem → Prop) (step : ∀ (i : Nat) w acc S, ws[i]? = some w → Inv i acc S → ∃ ρ1 u S', g w ρ S = some (ρ1, S) ∧ e ρ1 S = some (u, S') ∧ Inv (i + 1) (acc ++ [u]) S') :
    ∀ (k i : Nat) acc S, ws.length - i = k → i ≤ ws.length → Inv i acc S → ∃ us S', lcM (.vals ws) g tYesM e k i ρ S = some (us, S') ∧ Inv ws.length (acc ++ us) S' := by
  intro k
  induction k with
  | zero =>
    intro i acc S hk hi h
    have e : i = ws.length := by omega
    subst e
    refine ⟨[], S, ?_, by rw [List.append_nil]; exact h⟩
    unfold lcM
    have : (Itm.vals ws).at_ S ws.length = some none := by show some ws[ws.length]? = _; simp
    rw [this]
  | succ k ih =>
    intro i acc S hk hi h
    have hlt : i < ws.length := by omega
    obtain ⟨ρ1, u, S', e1, e2, h2⟩ := step i ws[i] acc S (List.getElem?_eq_getElem hlt) h
    obtain ⟨us, S2, e3, h3⟩ := ih (i + 1) _ S' (by omega) hlt h2
    refine ⟨u :: us, S2, ?_, by rw [List.append_assoc] at h3; exact h3⟩
    unfold lcM
    have ha : (Itm.vals ws).at_ S i = some (some ws[i]) := by show some ws[i]? = _; simp [hlt]
    rw [ha]
    simp only [e1, e2, tYesM, Option.bind_some, if_true, e3]
/-- .. with a test -/
theorem lcM_if {g : MG} {t : MT} {e : ME} {ws : List W} {ρ : Env'} {S : Mem} (p : W → Bool) (step : ∀ (i : Nat) w, ws[i]? = some w → ∃ ρ1, g w ρ S = some (ρ1, S) ∧ t ρ1 S = some (p w, S) ∧ e ρ1 S = some (w, S)) :
    ∀ (k i : Nat), ws.length - i = k → i ≤ ws.length → lcM (.vals ws) g t e k i ρ S = some ((ws.drop i).filter p, S) := by
  intro k
  induction k with
  | zero =>
    intro i hk hi
    have e : i = ws.length := by omega
    subst e
    unfold lcM
    have : (Itm.vals ws).at_ S ws.length = some none := by show some ws[ws.length]? = _; simp
    rw [this, List.drop_of_length_le (by omega)]
    rfl
  | succ k ih =>
    intro i hk hi
    have hlt : i < ws.length := by omega
    obtain ⟨ρ1, e1, e2, e3⟩ := step i ws[i] (List.getElem?_eq_getElem hlt)
    have h3 := ih (i + 1) (by omega) hlt
    unfold lcM
    have ha : (Itm.vals ws).at_ S i = some (some ws[i]) := by show some ws[i]? = _; simp [hlt]
    rw [ha, List.drop_eq_getElem_cons hlt]
    cases hp : p ws[i] with
    | true => simp only [e1, e2, e3, hp, Option.bind_some, if_true, h3, List.filter_cons]
    | false => simp only [e1, e2, hp, Option.bind_some, Bool.false_eq_true, if_false, h3, List.filter_cons]
/-- all(..) over values -/
theorem allL_vals {g : MG} {e : ME} {ρ : Env'} {S : Mem} (p : W → Bool) : ∀ {ws : List W}, (∀ w ∈ ws, ∃ ρ1, g w ρ S = some (ρ1, S) ∧ e ρ1 S = some (.d (.bool (p w)), S)) → allL g e ws ρ S = some (ws.all p, S)
  | [], _ => rfl
  | w :: ws, h => by
    obtain ⟨ρ1, e1, e2⟩ := h w List.mem_cons_self
    have ih := allL_vals p (ws := ws) fun x hx => h x (List.mem_cons_of_mem _ hx)
    unfold allL
    have e3 : eB e ρ1 S = some (p w, S) := by unfold eB; rw [e2]; rfl
    rw [e1]
    simp only [Option.bind_some, e3]
    cases hp : p w with
    | true => simp only [if_true, ih, List.all_cons, hp, Bool.true_and]
    | false => simp only [Bool.false_eq_true, if_false, List.all_cons, hp, Bool.false_and]
end Pd
namespace Pd
open PySem PySem.Spec PyProof.Rows L2 GxR Gx
section
variable {ρ ρ1 ρ2 : Env'} {S S1 S2 S3 : Mem} {w x y z : W} {a b c : MS} {e e1 e2 e3 : ME} {t u : MT} {m n : MA} {f : F2} {g : MG} {r : Option (Out × Env' × Mem)} {k : Bool} {ws us : List W}
theorem v_nx (h : a ρ S = some (.nx, ρ1, S1)) (q : b ρ1 S1 = r) : sSeq a b ρ S = r := by unfold sSeq; rw [h]; exact q
theorem v_rt (h : a ρ S = some (.rt w, ρ1, S1)) : sSeq a b ρ S = some (.rt w, ρ1, S1) := by unfold sSeq; rw [h]; rfl
theorem v_bk (h : a ρ S = some (.bk, ρ1, S1)) : sSeq a b ρ S = some (.bk, ρ1, S1) := by unfold sSeq; rw [h]; rfl
theorem v_ifT (h : t ρ S = some (true, S1)) (q : a ρ S1 = r) : sIf t a b ρ S = r := by unfold sIf; rw [h]; exact q
theorem v_ifF (h : t ρ S = some (false, S1)) (q : b ρ S1 = r) : sIf t a b ρ S = r := by unfold sIf; rw [h]; exact q
theorem v_ret (h : e ρ S = some (w, S1)) : sRet e ρ S = some (.rt w, ρ, S1) := by unfold sRet; rw [h]; rfl
theorem v_drop (h : e ρ S = some (w, S1)) : sDrop e ρ S = some (.nx, ρ, S1) := by unfold sDrop; rw [h]; rfl
theorem v_asg (h : e ρ S = some (w, S1)) (q : g w ρ S1 = some (ρ2, S2)) : sAsg e g ρ S = some (.nx, ρ2, S2) := by unfold sAsg; rw [h]; simp only [Option.bind_some, q]
theorem v_op {o : Option (W × Mem)} (h1 : e1 ρ S = some (x, S1)) (h2 : e2 ρ S1 = some (y, S2)) (h3 : f x y S2 = o) : eOp f e1 e2 ρ S = o := by unfold eOp; rw [h1]; simp only [Option.bind_some, h2, h3]
theorem v_call {q : MF} {o : Option (W × Mem)} (h1 : m ρ S = some (ws, S1)) (h2 : q ws S1 = o) : eCall q m ρ S = o := by unfold eCall; rw [h1]; simp only [Option.bind_some, h2]
theorem v_cons (h1 : e ρ S = some (x, S1)) (h2 : m ρ S1 = some (ws, S2)) : aCons e m ρ S = some (x :: ws, S2) := by unfold aCons; rw [h1]; simp only [Option.bind_some, h2]
theorem v_tup {o : Option (W × Mem)} (h : m ρ S = some (ws, S1)) (q : mkT ws S1 = o) : eTup m ρ S = o := by unfold eTup; rw [h]; exact q
theorem v_lstF {o : Option (W × Mem)} (h : m ρ S = some (ws, S1)) (q : mkF ws S1 = o) : eLstF m ρ S = o := by unfold eLstF; rw [h]; exact q
theorem v_lstL {o : Option (W × Mem)} (h : m ρ S = some (ws, S1)) (q : mkL ws S1 = o) : eLstL m ρ S = o := by unfold eLstL; rw [h]; exact q
theorem v_b (h : e ρ S = some (.d (.bool k), S1)) : eB e ρ S = some (k, S1) := by unfold eB; rw [h]; rfl
theorem v_orT (h : t ρ S = some (true, S1)) : eOr t u ρ S = some (true, S1) := by unfold eOr; rw [h]; rfl
theorem v_orF {o : Option (Bool × Mem)} (h : t ρ S = some (false, S1)) (q : u ρ S1 = o) : eOr t u ρ S = o := by unfold eOr; rw [h]; exact q
theorem v_andF (h : t ρ S = some (false, S1)) : eAnd t u ρ S = some (false, S1) := by unfold eAnd; rw [h]; rfl
theorem v_andT {o : Option (Bool × Mem)} (h : t ρ S = some (true, S1)) (q : u ρ S1 = o) : eAnd t u ρ S = o := by unfold eAnd; rw [h]; exact q
theorem v_not (h : t ρ S = some (k, S1)) : eNot t ρ S = some (!k, S1) := by unfold eNot; rw [h]; rfl
theorem v_ieT {o : Option (W × Mem)} (h : t ρ S = some (true, S1)) (q : e1 ρ S1 = o) : eIf t e1 e2 ρ S = o := by unfold eIf; rw [h]; exact q
theorem v_ieF {o : Option (W × Mem)} (h : t ρ S = some (false, S1)) (q : e2 ρ S1 = o) : eIf t e1 e2 ρ S = o := by unfold eIf; rw [h]; exact q
theorem v_all {mi : MI} {vs : List Nat} (h : mi ρ S = some (.vals ws, S1)) (q : allL g e ws (wipeE ρ vs) S1 = some (k, S2)) : eAll mi vs g e ρ S = some (.d (.bool k), S2) := by unfold eAll; rw [h]; simp only [Option.bind_some, q]
theorem v_itup {ds : List PyData} (h : e ρ S = some (.d (.tuple ds), S1)) : iTupM e ρ S = some (.vals (ds.map .d), S1) := by unfold iTupM; rw [h]; rfl
theorem v_ilst {ds : List PyData} (h : e ρ S = some (.d (.list ds), S1)) : iLstM e ρ S = some (.vals (ds.map .d), S1) := by unfold iLstM; rw [h]; rfl
theorem v_rng1 {i : Int} (h : m ρ S = some ([.d (.int i)], S1)) (h1 : -(2 ^ 62) ≤ i) (h2 : i < 2 ^ 62) : iRng1M m ρ S = some (.vals ((List.range i.toNat).map fun (j : Nat) => W.d (.int (0 + (j : Int)))), S1) := by
  unfold iRng1M; rw [h]
  show iRngM (.d (.int 0)) (.d (.int i)) S1 = _
  unfold iRngM
  simp only []
  rw [if_pos (decide_eq_true ⟨by decide, by decide, h1, h2⟩), Int.sub_zero]
theorem v_lc {mi : MI} {vs : List Nat} {im : Itm} {mk : List W → Mem → Option (W × Mem)} {o : Option (W × Mem)} (h : mi ρ S = some (im, S1)) (q : lcM im g t e (im.len S1) 0 (wipeE ρ vs) S1 = some (us, S2)) (p : mk us S2 = o) : eLc mi vs g t e mk ρ S = o := by
  unfold eLc; rw [h]; simp only [Option.bind_some, q, p]
theorem v_for {mi : MI} {im : Itm} (h : mi ρ S = some (im, S1)) (q : forM im g a (im.len S1) 0 ρ S1 = r) : sFor mi g a ρ S = r := by unfold sFor; rw [h]; exact q
theorem v_def {np k : Nat} {body : MS} {o : Option (W × Mem)} {ws : List W} {fz : Bool} (hl : ws.length = np) (h : body (ws.map some ++ List.replicate k none) S = some (.rt w, ρ1, S1)) (q : fin fz S.length w S1 = o) : dfn np k fz body ws S = o := by
  unfold dfn; rw [if_pos hl, h]; exact q
theorem v_defN {np k : Nat} {body : MS} {o : Option (W × Mem)} {ws : List W} {fz : Bool} (hl : ws.length = np) (h : body (ws.map some ++ List.replicate k none) S = some (.nx, ρ1, S1)) (q : fin fz S.length (.d .none) S1 = o) : dfn np k fz body ws S = o := by
  unfold dfn; rw [if_pos hl, h]; exact q
theorem fin_f {n : Nat} : fin false n w S = some (w, S) := rfl
theorem v_bm {q : MM} {o : Option (W × Mem)} {us : List W} (h1 : e ρ S = some (x, S1)) (h0 : itemsL x S1 = some us) (h2 : m ρ S1 = some (ws, S2)) (h3 : q x ws S2 = o) : eBm q e m ρ S = o := by unfold eBm; rw [h1]; simp only [Option.bind_some, h0, h2, h3]
theorem dOf_cons {d : PyData} {ds : List PyData} (h : dOf ws = some ds) : dOf (.d d :: ws) = some (d :: ds) := by show (dOf ws).map _ = _; rw [h]; rfl
theorem mkT_d {ds : List PyData} (h : ds.length ≤ sizeLine) : mkT (ds.map .d) S = some (.d (.tuple ds), S) := by unfold mkT; rw [dOf_map]; simp only [Option.bind_some]; rw [if_pos h]
theorem mkF_d {ds : List PyData} (h : ds.length ≤ sizeLine) : mkF (ds.map .d) S = some (.d (.list ds), S) := by unfold mkF; rw [dOf_map]; simp only [Option.bind_some]; rw [if_pos h]
theorem allL_map {α : Type} {h : α → W} {p : α → Bool} : ∀ {xs : List α}, (∀ a ∈ xs, ∃ ρ1, g (h a) ρ S = some (ρ1, S) ∧ e ρ1 S = some (.d (.bool (p a)), S)) → allL g e (xs.map h) ρ S = some (xs.all p, S)
  | [], _ => rfl
  | a :: xs, hx => by
    obtain ⟨ρ1, q1, q2⟩ := hx a List.mem_cons_self
    have ih := allL_map (xs := xs) fun x hm => hx x (List.mem_cons_of_mem _ hm)
    show (g (h a) ρ S).bind _ = _
    rw [q1]
    simp only [Option.bind_some, v_b q2]
    cases hp : p a with
    | true => simp only [if_true, ih, List.all_cons, hp, Bool.true_and]
    | false => simp only [Bool.false_eq_true, if_false, List.all_cons, hp, Bool.false_and]
/-- a comprehension over the images of xs whose element leaves the state alone -/
theorem lcM_map {α : Type} {h u : α → W} {xs : List α} (hx : ∀ a ∈ xs, ∃ ρ1, g (h a) ρ S = some (ρ1, S) ∧ e ρ1 S = some (u a, S)) : lcM (.vals (xs.map h)) g tYesM e (Itm.len (.vals (xs.map h)) S) 0 ρ S = some (xs.map u, S) := by
  have := lcM_vals (g := g) (e := e) (ws := xs.map h) (us := xs.map u) (ρ := ρ) (S := S) (by simp) (fun i w v e1 e2 => by
    rw [List.getElem?_map] at e1 e2
    obtain ⟨a, q1, rfl⟩ := Option.map_eq_some_iff.mp e1
    rw [q1] at e2
    cases e2
    exact hx a (List.mem_of_getElem? q1)) (xs.map h).length 0 (by simp) (Nat.zero_le _)
  rw [List.drop_zero] at this
  exact this
theorem lcM_mapIf {α : Type} {h : α → W} {p : α → Bool} {xs : List α} (hx : ∀ a ∈ xs, ∃ ρ1, g (h a) ρ S = some (ρ1, S) ∧ t ρ1 S = some (p a, S) ∧ e ρ1 S = some (h a, S)) : lcM (.vals (xs.map h)) g t e (Itm.len (.vals (xs.map h)) S) 0 ρ S = some ((xs.filter p).map h, S) := by
  have gen : ∀ (ys : List α) (i : Nat), i + ys.length = xs.length → xs.drop i = ys → lcM (.vals (xs.map h)) g t e ys.length i ρ S = some ((ys.filter p).map h, S) := by
    intro ys
    induction ys with
    | nil =>
      intro i hi hd
      unfold lcM
      have : (Itm.vals (xs.map h)).at_ S i = some none := by show some (xs.map h)[i]? = _; simp at hi ⊢; omega
      simp only [this]
      rfl
    | cons y ys ih =>
      intro i hi hd
      have hlt : i < xs.length := by simp at hi; omega
      have hy : xs[i] = y := by
        have := List.drop_eq_getElem_cons hlt
        rw [hd] at this
        exact (List.cons.inj this).1.symm
      have hd' : xs.drop (i + 1) = ys := by
        have := List.drop_eq_getElem_cons hlt
        rw [hd] at this
        exact (List.cons.inj this).2.symm
      obtain ⟨ρ1, q1, q2, q3⟩ := hx y (by rw [← hy]; exact List.getElem_mem hlt)
      have ih' := ih (i + 1) (by simp at hi ⊢; omega) hd'
      have ha : (Itm.vals (xs.map h)).at_ S i = some (some (h y)) := by show some (xs.map h)[i]? = _; rw [List.getElem?_map, List.getElem?_eq_getElem hlt, hy]; rfl
      show lcM _ _ _ _ (ys.length + 1) _ _ _ = _
      unfold lcM
      simp only [ha, q1, q2, q3, Option.bind_some]
      cases hp : p y with
      | true => simp only [if_true, ih', Option.bind_some, List.filter_cons, hp, List.map_cons]
      | false => simp only [Bool.false_eq_true, if_false, ih', List.filter_cons, hp]
  have := gen xs 0 (by simp) (by simp)
  show lcM _ _ _ _ (xs.map h).length _ _ _ = _
  rw [List.length_map]
  exact this
theorem v_callK {q : List W → List W → Mem → Option (W × Mem)} {vs : List W} {o : Option (W × Mem)} (h1 : m ρ S = some (ws, S1)) (h2 : n ρ S1 = some (vs, S2)) (h3 : q ws vs S2 = o) : eCallK q m n ρ S = o := by unfold eCallK; rw [h1]; simp only [Option.bind_some, h2, h3]
theorem mkF_1 {d : PyData} : mkF [.d d] S = some (.d (.list [d]), S) := rfl
theorem mkT_1 {d : PyData} : mkT [.d d] S = some (.d (.tuple [d]), S) := rfl
theorem lcM_one {u : W} {h : W} (hx : ∃ ρ1, g h ρ S = some (ρ1, S) ∧ e ρ1 S = some (u, S)) : lcM (.vals [h]) g tYesM e (Itm.len (.vals [h]) S) 0 ρ S = some ([u], S) := lcM_map (xs := [()]) (h := fun _ => h) (u := fun _ => u) fun _ _ => hx
end
end Pd
namespace k01
open PySem PySem.Spec PyProof.Rows L2 GxR Gx Pd
def b_kinds_inside  : MS :=
    (sSeq (sIf (eB (eOp (oIn false) (eOp oIx (eVar 0) (eC (.int (0)))) (eC (.tuple [.str "int", .str "bool", .str "unit", .str "record"])))) (sRet (eTup aNil)) sNx)
    (sSeq (sIf (eB (eOp (oEq false) (eOp oIx (eVar 0) (eC (.int (0)))) (eC (.str "tuple")))) (sRet (eOp oIx (eVar 0) (eC (.int (1))))) sNx)
    (sRet (eTup (aCons (eOp oIx (eVar 0) (eC (.int (1)))) aNil)))))
def m_kinds_inside : MF := dfn 1 0 false b_kinds_inside
theorem ar_kinds_inside : Ar 1 m_kinds_inside := ar_dfn
def b_is_plain (r_is_plain : MF) : MS :=
    (sSeq (sIf (eB (eOp (oIn false) (eOp oIx (eVar 0) (eC (.int (0)))) (eC (.tuple [.str "shared", .str "exclusive", .str "task"])))) (sRet (eC (.bool false))) sNx)
    (sRet (eAll (iTupM (eCall m_kinds_inside (aCons (eVar 0) aNil))) [1] (gN 1) (eCall r_is_plain (aCons (eVar 1) aNil)))))
def m_is_plain : Nat → MF
  | 0 => mNone
  | n + 1 => dfn 1 1 false (b_is_plain (m_is_plain n))
theorem ar_is_plain : ∀ n, Ar 1 (m_is_plain n)
  | 0 => ar_none
  | _ + 1 => by unfold m_is_plain; exact ar_dfn
def b_is_copy (r_is_copy : MF) : MS :=
    (sSeq (sIf (eB (eOp (oIn false) (eOp oIx (eVar 0) (eC (.int (0)))) (eTup (aCons (eC (.str "maybe")) (aCons (eC (.str "tuple")) aNil))))) (sRet (eAll (iTupM (eCall m_kinds_inside (aCons (eVar 0) aNil))) [1] (gN 1) (eCall r_is_copy (aCons (eVar 1) aNil)))) sNx)
    (sRet (eOp (oIn false) (eOp oIx (eVar 0) (eC (.int (0)))) (eTup (aCons (eC (.str "int")) (aCons (eC (.str "bool")) (aCons (eC (.str "unit")) (aCons (eC (.str "shared")) aNil))))))))
def m_is_copy : Nat → MF
  | 0 => mNone
  | n + 1 => dfn 1 1 false (b_is_copy (m_is_copy n))
theorem ar_is_copy : ∀ n, Ar 1 (m_is_copy n)
  | 0 => ar_none
  | _ + 1 => by unfold m_is_copy; exact ar_dfn
def b_levels (r_levels : MF) : MS :=
    (sRet (eOp (oPlus false) (eC (.int (1))) (eCallK bMaxD (aCons (eLc (iTupM (eCall m_kinds_inside (aCons (eVar 0) aNil))) [1] (gN 1) tYesM (eCall r_levels (aCons (eVar 1) aNil)) mkF) aNil) (aCons (eC (.int (0))) aNil))))
def m_levels : Nat → MF
  | 0 => mNone
  | n + 1 => dfn 1 1 false (b_levels (m_levels n))
theorem ar_levels : ∀ n, Ar 1 (m_levels n)
  | 0 => ar_none
  | _ + 1 => by unfold m_levels; exact ar_dfn
def b_leaves (r_leaves : MF) : MS :=
    (sSeq (sIf (eB (eOp (oIn false) (eOp oIx (eVar 0) (eC (.int (0)))) (eC (.tuple [.str "shared", .str "exclusive", .str "task"])))) (sRet (eTup (aCons (eTup aNil) aNil))) sNx)
    (sSeq (sIf (eB (eOp (oEq false) (eOp oIx (eVar 0) (eC (.int (0)))) (eC (.str "maybe")))) (sRet (eCall bTuple (aCons (eLc (iTupM (eCall r_leaves (aCons (eOp oIx (eVar 0) (eC (.int (1)))) aNil))) [1] (gN 1) tYesM (eOp (oPlus false) (eTup (aCons (eC (.str "?")) aNil)) (eVar 1)) mkF) aNil))) sNx)
    (sSeq (sIf (eB (eOp (oEq false) (eOp oIx (eVar 0) (eC (.int (0)))) (eC (.str "tuple")))) (sRet (eCall bTuple (aCons (eLc2 (iEnumM (aCons (eOp oIx (eVar 0) (eC (.int (1)))) aNil)) [2, 3, 1] (gTup' (gsCons (gN 2) (gsCons (gN 3) gsNil))) tYesM (iTupM (eCall r_leaves (aCons (eVar 3) aNil))) [1] (gN 1) tYesM (eOp (oPlus false) (eTup (aCons (eVar 2) aNil)) (eVar 1)) mkF) aNil))) sNx)
    (sRet (eTup aNil)))))
def m_leaves : Nat → MF
  | 0 => mNone
  | n + 1 => dfn 1 3 false (b_leaves (m_leaves n))
theorem ar_leaves : ∀ n, Ar 1 (m_leaves n)
  | 0 => ar_none
  | _ + 1 => by unfold m_leaves; exact ar_dfn
def b_law_tape  : MS :=
    (sSeq (sAsg (eLstL aNil) (gN 1))
    (sSeq (sAsg (eC (.int (1))) (gN 2))
    (sSeq (sFor (iLstM (eSl false (eVar 0) pNone (pSome (eC (.int (63)))))) (gN 3) (sSeq (sAsg (eCall bAbs (aCons (eCall bInt (aCons (eVar 3) aNil)) aNil)) (gN 4))
    (sSeq (sAsg (eOp (oPlus false) (eVar 2) (eVar 4)) (gN 2))
    (sFor (iRng1M (aCons (eC (.int (24))) aNil)) (gN 5) (sSeq (sDrop (eBm mAppend (eVar 1) (aCons (eOp oMod (eCall bInt (aCons (eVar 4) aNil)) (eC (.int (60)))) aNil)))
    (sSeq (sAsg (eOp oDiv (eVar 4) (eC (.int (60)))) (gN 4))
    (sIf (eB (eOp (oEq false) (eVar 4) (eC (.int (0))))) sBrk sNx)))))))
    (sRet (eLstL (aCons (eC (.int (0))) (aCons (eVar 1) (aCons (eOp oMod (eCall bInt (aCons (eVar 2) aNil)) (eC (.int (1000003)))) aNil))))))))
def m_law_tape : MF := dfn 1 5 false b_law_tape
theorem ar_law_tape : Ar 1 m_law_tape := ar_dfn
def b_law_next  : MS :=
    (sSeq (sAsg (eOp oIx (eVar 0) (eC (.int (0)))) (gN 2))
    (sSeq (sAsg (eOp (oPlus false) (eVar 2) (eC (.int (1)))) (gIx (eVar 0) (eC (.int (0)))))
    (sSeq (sIf (eB (eOp oLt (eVar 2) (eCall bLen (aCons (eOp oIx (eVar 0) (eC (.int (1)))) aNil)))) (sRet (eOp oMod (eCall bInt (aCons (eOp oIx (eOp oIx (eVar 0) (eC (.int (1)))) (eVar 2)) aNil)) (eVar 1))) sNx)
    (sRet (eOp oMod (eOp oDiv (eOp oMod (eCall bInt (aCons (eOp (oPlus false) (eOp oMul (eOp (oPlus false) (eVar 2) (eC (.int (1)))) (eC (.int (48271)))) (eOp oMul (eOp oIx (eVar 0) (eC (.int (2)))) (eC (.int (69621))))) aNil)) (eC (.int (2147483647)))) (eC (.int (11)))) (eVar 1))))))
def m_law_next : MF := dfn 2 1 false b_law_next
theorem ar_law_next : Ar 2 m_law_next := ar_dfn
def b_law_cells (r_law_cells : MF) : MS :=
    (sSeq (sIf (eB (eOp (oEq false) (eOp oIx (eVar 0) (eC (.int (0)))) (eC (.str "maybe")))) (sRet (eOp (oPlus false) (eC (.int (1))) (eCall r_law_cells (aCons (eOp oIx (eVar 0) (eC (.int (1)))) aNil)))) sNx)
    (sSeq (sIf (eB (eOp (oEq false) (eOp oIx (eVar 0) (eC (.int (0)))) (eC (.str "tuple")))) (sRet (eCall bSum (aCons (eLc (iTupM (eOp oIx (eVar 0) (eC (.int (1))))) [1] (gN 1) tYesM (eCall r_law_cells (aCons (eVar 1) aNil)) mkF) aNil))) sNx)
    (sRet (eIf (eB (eOp (oEq false) (eOp oIx (eVar 0) (eC (.int (0)))) (eC (.str "record")))) (eC (.int (3))) (eC (.int (1)))))))
def m_law_cells : Nat → MF
  | 0 => mNone
  | n + 1 => dfn 1 1 false (b_law_cells (m_law_cells n))
theorem ar_law_cells : ∀ n, Ar 1 (m_law_cells n)
  | 0 => ar_none
  | _ + 1 => by unfold m_law_cells; exact ar_dfn
def b_law_fitting  : MS :=
    (sSeq (sAsg (eLstL aNil) (gN 2))
    (sSeq (sAsg (eC (.int (0))) (gN 3))
    (sSeq (sFor (iRng1M (aCons (eCall bLen (aCons (eVar 0) aNil)) aNil)) (gN 4) (sSeq (sAsg (eOp oIx (eVar 0) (eVar 4)) (gN 5))
    (sSeq (sIf (eB (eOp oGt (eOp oSub (eOp oSub (eOp (oPlus false) (eOp (oPlus false) (eVar 3) (eCall (m_law_cells 8) (aCons (eVar 5) aNil))) (eCall bLen (aCons (eVar 0) aNil))) (eC (.int (1)))) (eVar 4)) (eVar 1))) (sAsg (eTup (aCons (eC (.str "int")) aNil)) (gN 5)) sNx)
    (sSeq (sAsg (eOp (oPlus false) (eVar 3) (eCall (m_law_cells 8) (aCons (eVar 5) aNil))) (gN 3))
    (sDrop (eBm mAppend (eVar 2) (aCons (eVar 5) aNil)))))))
    (sRet (eCall bTuple (aCons (eVar 2) aNil))))))
def m_law_fitting : MF := dfn 2 4 true b_law_fitting
theorem ar_law_fitting : Ar 2 m_law_fitting := ar_dfn
def b_law_kind (r_law_kind : MF) : MS :=
    (sSeq (sAsg (eCall m_law_next (aCons (eVar 0) (aCons (eC (.int (11))) aNil))) (gN 3))
    (sSeq (sIf (eOr (eB (eOp oLe (eVar 1) (eC (.int (1))))) (eB (eOp oLt (eVar 3) (eC (.int (3)))))) (sRet (eOp oIx (eLstF (aCons (eTup (aCons (eC (.str "int")) aNil)) (aCons (eTup (aCons (eC (.str "bool")) aNil)) (aCons (eTup (aCons (eC (.str "unit")) aNil)) (aCons (eTup (aCons (eC (.str "record")) (aCons (eC (.str "Node")) aNil))) aNil))))) (eCall m_law_next (aCons (eVar 0) (aCons (eC (.int (4))) aNil))))) sNx)
    (sSeq (sIf (eB (eOp (oEq false) (eVar 3) (eC (.int (3))))) (sRet (eTup (aCons (eC (.str "box")) (aCons (eCall r_law_kind (aCons (eVar 0) (aCons (eOp oSub (eVar 1) (eC (.int (1)))) (aCons (eC (.bool true)) aNil)))) aNil)))) sNx)
    (sSeq (sIf (eB (eOp (oEq false) (eVar 3) (eC (.int (4))))) (sRet (eOp (oPlus false) (eTup (aCons (eC (.str "maybe")) aNil)) (eCall m_law_fitting (aCons (eLstF (aCons (eCall r_law_kind (aCons (eVar 0) (aCons (eOp oSub (eVar 1) (eC (.int (1)))) (aCons (eVar 2) aNil)))) aNil)) (aCons (eC (.int (59))) aNil))))) sNx)
    (sSeq (sIf (eOr (eB (eOp oLt (eVar 3) (eC (.int (8))))) (eB (eVar 2))) (sSeq (sAsg (eOp (oPlus false) (eC (.int (2))) (eCall m_law_next (aCons (eVar 0) (aCons (eC (.int (5))) aNil)))) (gN 4))
    (sRet (eTup (aCons (eC (.str "tuple")) (aCons (eCall m_law_fitting (aCons (eLc (iRng1M (aCons (eVar 4) aNil)) [5] (gN 5) tYesM (eCall r_law_kind (aCons (eVar 0) (aCons (eOp oSub (eVar 1) (eC (.int (1)))) (aCons (eVar 2) aNil)))) mkF) (aCons (eC (.int (60))) aNil))) aNil))))) sNx)
    (sRet (eTup (aCons (eOp oIx (eLstF (aCons (eC (.str "shared")) (aCons (eC (.str "exclusive")) (aCons (eC (.str "task")) aNil)))) (eOp oSub (eVar 3) (eC (.int (8))))) (aCons (eCall r_law_kind (aCons (eVar 0) (aCons (eOp oSub (eVar 1) (eC (.int (1)))) (aCons (eC (.bool true)) aNil)))) aNil)))))))))
def m_law_kind : Nat → MF
  | 0 => mNone
  | n + 1 => dfn 3 3 false (b_law_kind (m_law_kind n))
theorem ar_law_kind : ∀ n, Ar 3 (m_law_kind n)
  | 0 => ar_none
  | _ + 1 => by unfold m_law_kind; exact ar_dfn
def b_law_plain (r_law_plain : MF) : MS :=
    (sSeq (sIf (eB (eOp (oIn false) (eOp oIx (eVar 0) (eC (.int (0)))) (eLstF (aCons (eC (.str "shared")) (aCons (eC (.str "exclusive")) (aCons (eC (.str "task")) aNil)))))) (sRet (eC (.bool false))) sNx)
    (sSeq (sIf (eB (eOp (oIn false) (eOp oIx (eVar 0) (eC (.int (0)))) (eLstF (aCons (eC (.str "box")) (aCons (eC (.str "maybe")) aNil))))) (sRet (eCall r_law_plain (aCons (eOp oIx (eVar 0) (eC (.int (1)))) aNil))) sNx)
    (sSeq (sIf (eB (eOp (oEq false) (eOp oIx (eVar 0) (eC (.int (0)))) (eC (.str "tuple")))) (sRet (eOp (oEq false) (eCall bLen (aCons (eLc (iTupM (eOp oIx (eVar 0) (eC (.int (1))))) [1] (gN 1) (eNot (eB (eCall r_law_plain (aCons (eVar 1) aNil)))) (eVar 1) mkF) aNil)) (eC (.int (0))))) sNx)
    (sRet (eC (.bool true))))))
def m_law_plain : Nat → MF
  | 0 => mNone
  | n + 1 => dfn 1 1 false (b_law_plain (m_law_plain n))
theorem ar_law_plain : ∀ n, Ar 1 (m_law_plain n)
  | 0 => ar_none
  | _ + 1 => by unfold m_law_plain; exact ar_dfn
def b_law_copy (r_law_copy : MF) : MS :=
    (sSeq (sIf (eB (eOp (oEq false) (eOp oIx (eVar 0) (eC (.int (0)))) (eC (.str "maybe")))) (sRet (eCall r_law_copy (aCons (eOp oIx (eVar 0) (eC (.int (1)))) aNil))) sNx)
    (sSeq (sIf (eB (eOp (oEq false) (eOp oIx (eVar 0) (eC (.int (0)))) (eC (.str "tuple")))) (sRet (eOp (oEq false) (eCall bLen (aCons (eLc (iTupM (eOp oIx (eVar 0) (eC (.int (1))))) [1] (gN 1) (eNot (eB (eCall r_law_copy (aCons (eVar 1) aNil)))) (eVar 1) mkF) aNil)) (eC (.int (0))))) sNx)
    (sRet (eOp (oIn false) (eOp oIx (eVar 0) (eC (.int (0)))) (eLstF (aCons (eC (.str "int")) (aCons (eC (.str "bool")) (aCons (eC (.str "unit")) (aCons (eC (.str "shared")) aNil)))))))))
def m_law_copy : Nat → MF
  | 0 => mNone
  | n + 1 => dfn 1 1 false (b_law_copy (m_law_copy n))
theorem ar_law_copy : ∀ n, Ar 1 (m_law_copy n)
  | 0 => ar_none
  | _ + 1 => by unfold m_law_copy; exact ar_dfn
def b_law_levels (r_law_levels : MF) : MS :=
    (sSeq (sIf (eB (eOp (oEq false) (eOp oIx (eVar 0) (eC (.int (0)))) (eC (.str "tuple")))) (sRet (eOp (oPlus false) (eC (.int (1))) (eCall bMax (aCons (eLc (iTupM (eOp oIx (eVar 0) (eC (.int (1))))) [1] (gN 1) tYesM (eCall r_law_levels (aCons (eVar 1) aNil)) mkF) aNil)))) sNx)
    (sSeq (sIf (eB (eOp (oIn false) (eOp oIx (eVar 0) (eC (.int (0)))) (eLstF (aCons (eC (.str "box")) (aCons (eC (.str "maybe")) (aCons (eC (.str "shared")) (aCons (eC (.str "exclusive")) (aCons (eC (.str "task")) aNil)))))))) (sRet (eOp (oPlus false) (eC (.int (1))) (eCall r_law_levels (aCons (eOp oIx (eVar 0) (eC (.int (1)))) aNil)))) sNx)
    (sRet (eC (.int (1))))))
def m_law_levels : Nat → MF
  | 0 => mNone
  | n + 1 => dfn 1 1 false (b_law_levels (m_law_levels n))
theorem ar_law_levels : ∀ n, Ar 1 (m_law_levels n)
  | 0 => ar_none
  | _ + 1 => by unfold m_law_levels; exact ar_dfn
def b_law_leaves (r_law_leaves : MF) : MS :=
    (sSeq (sIf (eB (eOp (oIn false) (eOp oIx (eVar 0) (eC (.int (0)))) (eLstF (aCons (eC (.str "shared")) (aCons (eC (.str "exclusive")) (aCons (eC (.str "task")) aNil)))))) (sRet (eLstF (aCons (eTup aNil) aNil))) sNx)
    (sSeq (sAsg (eLstF aNil) (gN 1))
    (sSeq (sIf (eB (eOp (oEq false) (eOp oIx (eVar 0) (eC (.int (0)))) (eC (.str "maybe")))) (sAsg (eLc (iLstM (eCall r_law_leaves (aCons (eOp oIx (eVar 0) (eC (.int (1)))) aNil))) [3] (gN 3) tYesM (eOp (oPlus false) (eTup (aCons (eC (.str "?")) aNil)) (eVar 3)) mkF) (gN 1)) sNx)
    (sSeq (sIf (eB (eOp (oEq false) (eOp oIx (eVar 0) (eC (.int (0)))) (eC (.str "tuple")))) (sFor (iRng1M (aCons (eCall bLen (aCons (eOp oIx (eVar 0) (eC (.int (1)))) aNil)) aNil)) (gN 2) (sAsg (eOp (oPlus false) (eVar 1) (eLc (iLstM (eCall r_law_leaves (aCons (eOp oIx (eOp oIx (eVar 0) (eC (.int (1)))) (eVar 2)) aNil))) [3] (gN 3) tYesM (eOp (oPlus false) (eTup (aCons (eVar 2) aNil)) (eVar 3)) mkF)) (gN 1))) sNx)
    (sRet (eVar 1))))))
def m_law_leaves : Nat → MF
  | 0 => mNone
  | n + 1 => dfn 1 3 false (b_law_leaves (m_law_leaves n))
theorem ar_law_leaves : ∀ n, Ar 1 (m_law_leaves n)
  | 0 => ar_none
  | _ + 1 => by unfold m_law_leaves; exact ar_dfn
def b_law_is  : MS :=
    (sRet (eIf (eB (eVar 1)) (eOp oIsBl (eVar 0) (eC (.bool true))) (eOp oIsBl (eVar 0) (eC (.bool false)))))
def m_law_is : MF := dfn 2 0 false b_law_is
theorem ar_law_is : Ar 2 m_law_is := ar_dfn
def b_law  : MS :=
    (sSeq (sAsg (eCall m_law_tape (aCons (eVar 0) aNil)) (gN 1))
    (sSeq (sFor (iRng1M (aCons (eC (.int (3))) aNil)) (gN 2) (sSeq (sAsg (eCall (m_law_kind 8) (aCons (eVar 1) (aCons (eC (.int (6))) (aCons (eC (.bool false)) aNil)))) (gN 3))
    (sSeq (sIf (eOr (eNot (eB (eCall m_law_is (aCons (eCall (m_is_plain 8) (aCons (eVar 3) aNil)) (aCons (eCall (m_law_plain 8) (aCons (eVar 3) aNil)) aNil))))) (eNot (eB (eCall m_law_is (aCons (eCall (m_is_copy 8) (aCons (eVar 3) aNil)) (aCons (eCall (m_law_copy 8) (aCons (eVar 3) aNil)) aNil)))))) (sRet (eC (.bool false))) sNx)
    (sIf (eOr (eB (eOp (oEq true) (eCall (m_levels 8) (aCons (eVar 3) aNil)) (eCall (m_law_levels 8) (aCons (eVar 3) aNil)))) (eB (eOp (oEq true) (eCall (m_leaves 8) (aCons (eVar 3) aNil)) (eCall bTuple (aCons (eCall (m_law_leaves 8) (aCons (eVar 3) aNil)) aNil))))) (sRet (eC (.bool false))) sNx))))
    (sRet (eC (.bool true)))))
def m_law : MF := dfn 1 3 false b_law
theorem ar_law : Ar 1 m_law := ar_dfn
end k01
namespace k01
open PySem PySem.Spec PyProof.Rows L2 GxR Gx Pd
def topS (i : Nat) : Stmt := PySem.Challenge.pw_forklent_k01_kinds.main.body.getD i (.Pass ⟨0, 0, 0, 0⟩)
abbrev s_kinds_inside : Stmt := topS 3
theorem sc_kinds_inside : FnScope ["kind"] ["kind"] (defScope s_kinds_inside) := ⟨rfl, rfl, rfl, by decide +kernel, rfl, by decide +kernel, by decide +kernel⟩
abbrev s_is_plain : Stmt := topS 4
theorem sc_is_plain : FnScope ["kind", "part"] ["kind"] (defScope s_is_plain) := ⟨rfl, rfl, rfl, by decide +kernel, rfl, by decide +kernel, by decide +kernel⟩
abbrev s_is_copy : Stmt := topS 5
theorem sc_is_copy : FnScope ["kind", "part"] ["kind"] (defScope s_is_copy) := ⟨rfl, rfl, rfl, by decide +kernel, rfl, by decide +kernel, by decide +kernel⟩
abbrev s_levels : Stmt := topS 6
theorem sc_levels : FnScope ["kind", "part"] ["kind"] (defScope s_levels) := ⟨rfl, rfl, rfl, by decide +kernel, rfl, by decide +kernel, by decide +kernel⟩
abbrev s_leaves : Stmt := topS 7
theorem sc_leaves : FnScope ["kind", "path", "at", "part"] ["kind"] (defScope s_leaves) := ⟨rfl, rfl, rfl, by decide +kernel, rfl, by decide +kernel, by decide +kernel⟩
abbrev s__law_tape : Stmt := topS 9
theorem sc__law_tape : FnScope ["script", "numbers", "total", "cell", "rest", "k"] ["script"] (defScope s__law_tape) := ⟨rfl, rfl, rfl, by decide +kernel, rfl, by decide +kernel, by decide +kernel⟩
abbrev s__law_next : Stmt := topS 10
theorem sc__law_next : FnScope ["tape", "many", "at"] ["tape", "many"] (defScope s__law_next) := ⟨rfl, rfl, rfl, by decide +kernel, rfl, by decide +kernel, by decide +kernel⟩
abbrev s__law_cells : Stmt := topS 11
theorem sc__law_cells : FnScope ["kind", "item"] ["kind"] (defScope s__law_cells) := ⟨rfl, rfl, rfl, by decide +kernel, rfl, by decide +kernel, by decide +kernel⟩
abbrev s__law_fitting : Stmt := topS 12
theorem sc__law_fitting : FnScope ["items", "most", "found", "cells", "k", "item"] ["items", "most"] (defScope s__law_fitting) := ⟨rfl, rfl, rfl, by decide +kernel, rfl, by decide +kernel, by decide +kernel⟩
abbrev s__law_kind : Stmt := topS 13
theorem sc__law_kind : FnScope ["tape", "depth", "plain", "choice", "many", "k"] ["tape", "depth", "plain"] (defScope s__law_kind) := ⟨rfl, rfl, rfl, by decide +kernel, rfl, by decide +kernel, by decide +kernel⟩
abbrev s__law_plain : Stmt := topS 14
theorem sc__law_plain : FnScope ["kind", "item"] ["kind"] (defScope s__law_plain) := ⟨rfl, rfl, rfl, by decide +kernel, rfl, by decide +kernel, by decide +kernel⟩
abbrev s__law_copy : Stmt := topS 15
theorem sc__law_copy : FnScope ["kind", "item"] ["kind"] (defScope s__law_copy) := ⟨rfl, rfl, rfl, by decide +kernel, rfl, by decide +kernel, by decide +kernel⟩
abbrev s__law_levels : Stmt := topS 16
theorem sc__law_levels : FnScope ["kind", "item"] ["kind"] (defScope s__law_levels) := ⟨rfl, rfl, rfl, by decide +kernel, rfl, by decide +kernel, by decide +kernel⟩
abbrev s__law_leaves : Stmt := topS 17
theorem sc__law_leaves : FnScope ["kind", "found", "k", "path"] ["kind"] (defScope s__law_leaves) := ⟨rfl, rfl, rfl, by decide +kernel, rfl, by decide +kernel, by decide +kernel⟩
abbrev s__law_is : Stmt := topS 18
theorem sc__law_is : FnScope ["answer", "due"] ["answer", "due"] (defScope s__law_is) := ⟨rfl, rfl, rfl, by decide +kernel, rfl, by decide +kernel, by decide +kernel⟩
abbrev s_law : Stmt := topS 19
theorem sc_law : FnScope ["script", "tape", "k", "kind"] ["script"] (defScope s_law) := ⟨rfl, rfl, rfl, by decide +kernel, rfl, by decide +kernel, by decide +kernel⟩
structure Txt (K : PySem.W.Frag) (mg : Str → Option Value) where
  tb : List Addr
  z_len : mg "len" = none
  z_int : mg "int" = none
  z_abs : mg "abs" = none
  z_range : mg "range" = none
  z_tuple : mg "tuple" = none
  z_sum : mg "sum" = none
  z_max : mg "max" = none
  z_all : mg "all" = none
  z_enumerate : mg "enumerate" = none
  z_list : mg "list" = none
  z_str : mg "str" = none
  a_LEAF_WORDS : Addr
  g_LEAF_WORDS : mg "LEAF_WORDS" = some (.ref a_LEAF_WORDS)
  d_LEAF_WORDS : ∀ A, DR K tb A (.ref a_LEAF_WORDS) (.tuple [.str "shared", .str "exclusive", .str "task"])
  a_SINGLE_WORDS : Addr
  g_SINGLE_WORDS : mg "SINGLE_WORDS" = some (.ref a_SINGLE_WORDS)
  d_SINGLE_WORDS : ∀ A, DR K tb A (.ref a_SINGLE_WORDS) (.tuple [.str "int", .str "bool", .str "unit", .str "record"])
  kinds_inside : DfC K mg "kinds_inside" s_kinds_inside ["kind"]
  is_plain : DfC K mg "is_plain" s_is_plain ["kind"]
  P_is_plain : Addr
  hP_is_plain : P_is_plain ∈ tb
  is_copy : DfC K mg "is_copy" s_is_copy ["kind"]
  P_is_copy : Addr
  hP_is_copy : P_is_copy ∈ tb
  levels : DfC K mg "levels" s_levels ["kind"]
  leaves : DfC K mg "leaves" s_leaves ["kind"]
  _law_tape : DfC K mg "_law_tape" s__law_tape ["script"]
  _law_next : DfC K mg "_law_next" s__law_next ["tape", "many"]
  _law_cells : DfC K mg "_law_cells" s__law_cells ["kind"]
  _law_fitting : DfC K mg "_law_fitting" s__law_fitting ["items", "most"]
  _law_kind : DfC K mg "_law_kind" s__law_kind ["tape", "depth", "plain"]
  _law_plain : DfC K mg "_law_plain" s__law_plain ["kind"]
  _law_copy : DfC K mg "_law_copy" s__law_copy ["kind"]
  _law_levels : DfC K mg "_law_levels" s__law_levels ["kind"]
  _law_leaves : DfC K mg "_law_leaves" s__law_leaves ["kind"]
  _law_is : DfC K mg "_law_is" s__law_is ["answer", "due"]
  law : DfC K mg "law" s_law ["script"]
structure Tbs {K : PySem.W.Frag} {mg : Str → Option Value} (T : Txt K mg) (base : Heap) : Prop where
  any : True
  is_plain : TabB base mg T.is_plain.c T.P_is_plain
  is_copy : TabB base mg T.is_copy.c T.P_is_copy
end k01
namespace k01
open PySem PySem.Spec PyProof.Rows L2 GxR Gx Pd
section
variable {P : Program} {w : World} {K : PySem.W.Frag} {mg : Str → Option Value} {base : Heap}
theorem ok_kinds_inside (T : Txt K mg) (hT : Tbs T base) : FnOk P w K mg base CX0 1 T.kinds_inside.f T.kinds_inside.fd ["kind"] (spD K T.tb 1 m_kinds_inside) :=
  def_ok (k := 0) T.kinds_inside.F sc_kinds_inside fun A outer s H E hr => ⟨_, (pss_cons (ps_if (pt_cmpR (op_inK (K := K) rfl) (pe_ix (ix_seqK (K := K) rfl) (pv 0) pe_int (fun _ _ => rfl)) (pe_glob (v := .ref T.a_SINGLE_WORDS) rfl T.g_SINGLE_WORDS rfl) (by rfl)) (pss_one (ps_ret (pe_tup pa_nil))) pss_nil)
    (pss_cons (ps_if (pt_cmpR (op_eqAK (K := K) rfl hr.units) (pe_ix (ix_seqK (K := K) rfl) (pv 0) pe_int (fun _ _ => rfl)) pe_str (nomark _)) (pss_one (ps_ret (pe_ix (ix_seqK (K := K) rfl) (pv 0) pe_int (fun _ _ => rfl)))) pss_nil)
    (pss_one (ps_ret (pe_tup (pa_cons (pe_ix (ix_seqK (K := K) rfl) (pv 0) pe_int (fun _ _ => rfl)) pa_nil)))))),
    (ss_seq (ss_if (st_test (se_op (sr_in (n := false)) (se_op sr_ix (se_var 0) se_int) (se_const (T.d_SINGLE_WORDS)))) (ss_ret (se_tup sa_nil)) ss_nil)
    (ss_seq (ss_if (st_test (se_op sr_eq (se_op sr_ix (se_var 0) se_int) se_str)) (ss_ret (se_op sr_ix (se_var 0) se_int)) ss_nil)
    (ss_ret (se_tup (sa_cons (se_op sr_ix (se_var 0) se_int) sa_nil)))))⟩
theorem ok_is_plain (T : Txt K mg) (hT : Tbs T base) : ∀ n : Nat, FnOk P w K mg base CX0 (2 + 2 * n) T.is_plain.f T.is_plain.fd ["kind"] (spD K T.tb 1 (m_is_plain n))
  | 0 => fn_none
  | n + 1 => (def_ok (k := 3 + 2 * n) (body := b_is_plain (m_is_plain n)) (fz := false) T.is_plain.F sc_is_plain fun A outer s H E hr => ⟨_, (pss_cons (ps_if (pt_cmpR (op_inK (K := K) rfl) (pe_ix (ix_seqK (K := K) rfl) (pv 0) pe_int (fun _ _ => rfl)) (pe_glob (v := .ref T.a_LEAF_WORDS) rfl T.g_LEAF_WORDS rfl) (by rfl)) (pss_one (ps_ret pe_bl)) pss_nil)
    (pss_one (ps_ret (pe_allG (own := [("part", 1)]) (k := 2 + 2 * n) (hr.mono (by omega)) rfl rfl T.z_all bt_all (hT.is_plain) rfl sc_is_plain.nd (pi_tupK (K := K) rfl (pe_call (ok_kinds_inside T hT) (hr.mono (by omega)) rfl T.kinds_inside.g T.kinds_inside.F.kp T.kinds_inside.b .nil pass0 (pa_cons (pv 0) pa_nil))) (blkOk_by (N := ["kind", "part"]) (sc := defScope s_is_plain) (by decide +kernel)) rfl (by decide +kernel) rfl (nodot ["kind", "part"] (by decide +kernel)) (fun _ _ _ _ _ _ _ _ _ => (pg_name (i := 1) sc_is_plain.nd rfl (Or.inl rfl))) (fun _ _ _ _ _ _ _ _ _ hr => (pe_call (ok_is_plain T hT n) (hr.mono (by omega)) rfl T.is_plain.g T.is_plain.F.kp T.is_plain.b .nil pass0 (pa_cons (pv 1) pa_nil))))))),
    (ss_seq (ss_if (st_test (se_op (sr_in (n := false)) (se_op sr_ix (se_var 0) se_int) (se_const (T.d_LEAF_WORDS)))) (ss_ret se_bl) ss_nil)
    (ss_ret (se_all T.hP_is_plain (si_tup (se_call ar_kinds_inside (sa_cons (se_var 0) sa_nil))) (sg_name 1) (by decide) (se_call (ar_is_plain n) (sa_cons (se_var 1) sa_nil)))))⟩).mono (by omega)
theorem ok_is_copy (T : Txt K mg) (hT : Tbs T base) : ∀ n : Nat, FnOk P w K mg base CX0 (2 + 2 * n) T.is_copy.f T.is_copy.fd ["kind"] (spD K T.tb 1 (m_is_copy n))
  | 0 => fn_none
  | n + 1 => (def_ok (k := 3 + 2 * n) (body := b_is_copy (m_is_copy n)) (fz := false) T.is_copy.F sc_is_copy fun A outer s H E hr => ⟨_, (pss_cons (ps_if (pt_cmpR (op_inK (K := K) rfl) (pe_ix (ix_seqK (K := K) rfl) (pv 0) pe_int (fun _ _ => rfl)) (pe_tup (pa_cons pe_str (pa_cons pe_str pa_nil))) (by rfl)) (pss_one (ps_ret (pe_allG (own := [("part", 1)]) (k := 2 + 2 * n) (hr.mono (by omega)) rfl rfl T.z_all bt_all (hT.is_copy) rfl sc_is_copy.nd (pi_tupK (K := K) rfl (pe_call (ok_kinds_inside T hT) (hr.mono (by omega)) rfl T.kinds_inside.g T.kinds_inside.F.kp T.kinds_inside.b .nil pass0 (pa_cons (pv 0) pa_nil))) (blkOk_by (N := ["kind", "part"]) (sc := defScope s_is_copy) (by decide +kernel)) rfl (by decide +kernel) rfl (nodot ["kind", "part"] (by decide +kernel)) (fun _ _ _ _ _ _ _ _ _ => (pg_name (i := 1) sc_is_copy.nd rfl (Or.inl rfl))) (fun _ _ _ _ _ _ _ _ _ hr => (pe_call (ok_is_copy T hT n) (hr.mono (by omega)) rfl T.is_copy.g T.is_copy.F.kp T.is_copy.b .nil pass0 (pa_cons (pv 1) pa_nil)))))) pss_nil)
    (pss_one (ps_ret (pe_cmpR (op_inK (K := K) rfl) (pe_ix (ix_seqK (K := K) rfl) (pv 0) pe_int (fun _ _ => rfl)) (pe_tup (pa_cons pe_str (pa_cons pe_str (pa_cons pe_str (pa_cons pe_str pa_nil))))) (by rfl))))),
    (ss_seq (ss_if (st_test (se_op (sr_in (n := false)) (se_op sr_ix (se_var 0) se_int) (se_tup (sa_cons se_str (sa_cons se_str sa_nil))))) (ss_ret (se_all T.hP_is_copy (si_tup (se_call ar_kinds_inside (sa_cons (se_var 0) sa_nil))) (sg_name 1) (by decide) (se_call (ar_is_copy n) (sa_cons (se_var 1) sa_nil)))) ss_nil)
    (ss_ret (se_op (sr_in (n := false)) (se_op sr_ix (se_var 0) se_int) (se_tup (sa_cons se_str (sa_cons se_str (sa_cons se_str (sa_cons se_str sa_nil))))))))⟩).mono (by omega)
theorem ok_levels (T : Txt K mg) (hT : Tbs T base) : ∀ n : Nat, FnOk P w K mg base CX0 (2 + 1 * n) T.levels.f T.levels.fd ["kind"] (spD K T.tb 1 (m_levels n))
  | 0 => fn_none
  | n + 1 => (def_ok (k := 2 + 1 * n) (body := b_levels (m_levels n)) (fz := false) T.levels.F sc_levels fun A outer s H E hr => ⟨_, (pss_one (ps_ret (pe_op (op_plusK (K := K) rfl) pe_int (pe_callBK (ck_maxDK (K := K) rfl rfl hr.units) rfl T.z_max bt_max (pa_cons (pe_lc (own := [("part", 1)]) (tt := tYes) rfl sc_levels.nd (pi_tupK (K := K) rfl (pe_call (ok_kinds_inside T hT) (hr.mono (by omega)) rfl T.kinds_inside.g T.kinds_inside.F.kp T.kinds_inside.b .nil pass0 (pa_cons (pv 0) pa_nil))) (blkOk_by (N := ["kind", "part"]) (sc := defScope s_levels) (by decide +kernel)) (fun _ _ _ _ _ => (pg_name (i := 1) sc_levels.nd rfl (Or.inl rfl))) (fun _ _ _ _ _ => pts_nil) (fun _ _ _ _ _ => (pe_call (ok_levels T hT n) (hr.mono (by omega)) rfl T.levels.g T.levels.F.kp T.levels.b .nil pass0 (pa_cons (pv 1) pa_nil)))) pa_nil) (pk_cons pe_int pk_nil))))),
    (ss_ret (se_op (sr_plus (L := false)) se_int (se_cbk sk_maxD (sa_cons (se_lc smk_F (si_tup (se_call ar_kinds_inside (sa_cons (se_var 0) sa_nil))) (sg_name 1) (by decide) st_yes (se_call (ar_levels n) (sa_cons (se_var 1) sa_nil))) sa_nil) (sa_cons se_int sa_nil))))⟩).mono (by omega)
theorem ok_leaves (T : Txt K mg) (hT : Tbs T base) : ∀ n : Nat, FnOk P w K mg base CX0 (1 + 1 * n) T.leaves.f T.leaves.fd ["kind"] (spD K T.tb 1 (m_leaves n))
  | 0 => fn_none
  | n + 1 => (def_ok (k := 1 + 1 * n) (body := b_leaves (m_leaves n)) (fz := false) T.leaves.F sc_leaves fun A outer s H E hr => ⟨_, (pss_cons (ps_if (pt_cmpR (op_inK (K := K) rfl) (pe_ix (ix_seqK (K := K) rfl) (pv 0) pe_int (fun _ _ => rfl)) (pe_glob (v := .ref T.a_LEAF_WORDS) rfl T.g_LEAF_WORDS rfl) (by rfl)) (pss_one (ps_ret (pe_tup (pa_cons (pe_tup pa_nil) pa_nil)))) pss_nil)
    (pss_cons (ps_if (pt_cmpR (op_eqAK (K := K) rfl hr.units) (pe_ix (ix_seqK (K := K) rfl) (pv 0) pe_int (fun _ _ => rfl)) pe_str (nomark _)) (pss_one (ps_ret (pe_callTy (cr_tupK (K := K) rfl) rfl T.z_tuple PyProof.Rows.boot_tuple (pa_cons (pe_lc (own := [("path", 1)]) (tt := tYes) rfl sc_leaves.nd (pi_tupK (K := K) rfl (pe_call (ok_leaves T hT n) (hr.mono (by omega)) rfl T.leaves.g T.leaves.F.kp T.leaves.b .nil pass0 (pa_cons (pe_ix (ix_seqK (K := K) rfl) (pv 0) pe_int (fun _ _ => rfl)) pa_nil))) (blkOk_by (N := ["kind", "path", "at", "part"]) (sc := defScope s_leaves) (by decide +kernel)) (fun _ _ _ _ _ => (pg_name (i := 1) sc_leaves.nd rfl (Or.inl rfl))) (fun _ _ _ _ _ => pts_nil) (fun _ _ _ _ _ => (pe_op (op_plusK (K := K) rfl) (pe_tup (pa_cons pe_str pa_nil)) (pv 1)))) pa_nil)))) pss_nil)
    (pss_cons (ps_if (pt_cmpR (op_eqAK (K := K) rfl hr.units) (pe_ix (ix_seqK (K := K) rfl) (pv 0) pe_int (fun _ _ => rfl)) pe_str (nomark _)) (pss_one (ps_ret (pe_callTy (cr_tupK (K := K) rfl) rfl T.z_tuple PyProof.Rows.boot_tuple (pa_cons (pe_lc2 (own := [("at", 2), ("part", 3), ("path", 1)]) (vs1 := [1]) (tt := tYes) (tt1 := tYes) rfl sc_leaves.nd (pi_enumTK (K := K) rfl (by rfl) T.z_enumerate (pa_cons (pe_ix (ix_seqK (K := K) rfl) (pv 0) pe_int (fun _ _ => rfl)) pa_nil)) (blkOk_by (N := ["kind", "path", "at", "part"]) (sc := defScope s_leaves) (by decide +kernel)) (by decide) (fun _ _ _ _ _ => (pg_tup rfl (pgs_cons (pg_name (i := 2) sc_leaves.nd rfl (Or.inl rfl)) (pgs_cons (pg_name (i := 3) sc_leaves.nd rfl (Or.inl rfl)) pgs_nil)))) (fun _ _ _ _ _ => pts_nil) (fun _ _ _ _ _ => (pi_tupK (K := K) rfl (pe_call (ok_leaves T hT n) (hr.mono (by omega)) rfl T.leaves.g T.leaves.F.kp T.leaves.b .nil pass0 (pa_cons (pv 3) pa_nil)))) (fun _ _ _ _ _ => (pg_name (i := 1) sc_leaves.nd rfl (Or.inl rfl))) (fun _ _ _ _ _ => pts_nil) (fun _ _ _ _ _ => (pe_op (op_plusK (K := K) rfl) (pe_tup (pa_cons (pv 2) pa_nil)) (pv 1)))) pa_nil)))) pss_nil)
    (pss_one (ps_ret (pe_tup pa_nil)))))),
    (ss_seq (ss_if (st_test (se_op (sr_in (n := false)) (se_op sr_ix (se_var 0) se_int) (se_const (T.d_LEAF_WORDS)))) (ss_ret (se_tup (sa_cons (se_tup sa_nil) sa_nil))) ss_nil)
    (ss_seq (ss_if (st_test (se_op sr_eq (se_op sr_ix (se_var 0) se_int) se_str)) (ss_ret (se_cb sc_tuple (sa_cons (se_lc smk_F (si_tup (se_call (ar_leaves n) (sa_cons (se_op sr_ix (se_var 0) se_int) sa_nil))) (sg_name 1) (by decide) st_yes (se_op (sr_plus (L := false)) (se_tup (sa_cons se_str sa_nil)) (se_var 1))) sa_nil))) ss_nil)
    (ss_seq (ss_if (st_test (se_op sr_eq (se_op sr_ix (se_var 0) se_int) se_str)) (ss_ret (se_cb sc_tuple (sa_cons (se_lc2 smk_F (si_enumT (sa_cons (se_op sr_ix (se_var 0) se_int) sa_nil)) (sg_tup (glen_cons (glen_cons glen_nil)) (sgs_cons (sg_name 2) (sgs_cons (sg_name 3) sgs_nil))) (by decide) st_yes (si_tup (se_call (ar_leaves n) (sa_cons (se_var 3) sa_nil))) (sg_name 1) (by decide) st_yes (se_op (sr_plus (L := false)) (se_tup (sa_cons (se_var 2) sa_nil)) (se_var 1))) sa_nil))) ss_nil)
    (ss_ret (se_tup sa_nil)))))⟩).mono (by omega)
theorem ok_law_tape (T : Txt K mg) (hT : Tbs T base) : FnOk P w K mg base CX0 1 T._law_tape.f T._law_tape.fd ["script"] (spD K T.tb 1 m_law_tape) :=
  def_ok (k := 0) T._law_tape.F sc__law_tape fun A outer s H E hr => ⟨_, (pss_cons (ps_set (i := 1) sc__law_tape.nd rfl (Or.inl rfl) (pe_lst pa_nil))
    (pss_cons (ps_set (i := 2) sc__law_tape.nd rfl (Or.inl rfl) pe_int)
    (pss_cons (ps_for PassesOwn.never rfl (pi_lstK (K := K) rfl (pe_slice (sl_allK (K := K) rfl) (pv 0) po_none (po_some pe_int))) (pg_name (i := 3) sc__law_tape.nd rfl (Or.inl rfl)) (pss_cons (ps_set (i := 4) sc__law_tape.nd rfl (Or.inl rfl) (pe_callB call_abs rfl T.z_abs PyProof.Rows.boot_abs (pa_cons (pe_callTy call_int1 rfl T.z_int PyProof.Rows.boot_int (pa_cons (pv 3) pa_nil)) pa_nil)))
    (pss_cons (ps_set (i := 2) sc__law_tape.nd rfl (Or.inl rfl) (pe_op (op_plusK (K := K) rfl) (pv 2) (pv 4)))
    (pss_one (ps_for PassesOwn.never rfl (pi_range1 (by rfl) T.z_range (pa_cons pe_int pa_nil)) (pg_name (i := 5) sc__law_tape.nd rfl (Or.inl rfl)) (pss_cons (ps_expr (pe_bm PySem.F.plainAttrs_list PySem.F.slot_list_append PySem.F.type_list_append mt_append (pv 1) (pa_cons (pe_op op_mod (pe_callTy call_int1 rfl T.z_int PyProof.Rows.boot_int (pa_cons (pv 4) pa_nil)) pe_int) pa_nil)))
    (pss_cons (ps_set (i := 4) sc__law_tape.nd rfl (Or.inl rfl) (pe_op op_fdivW (pv 4) pe_int))
    (pss_one (ps_if (pt_cmpR (op_eqAK (K := K) rfl hr.units) (pv 4) pe_int (nomark _)) (pss_one ps_break) pss_nil)))))))))
    (pss_one (ps_ret (pe_lst (pa_cons pe_int (pa_cons (pv 1) (pa_cons (pe_op op_mod (pe_callTy call_int1 rfl T.z_int PyProof.Rows.boot_int (pa_cons (pv 2) pa_nil)) pe_int) pa_nil))))))))),
    (ss_seq (ss_asg (se_lstL sa_nil) (sg_name 1))
    (ss_seq (ss_asg se_int (sg_name 2))
    (ss_seq (ss_for (si_lst (se_sl (L := false) (se_var 0) so_none (so_some se_int))) (sg_name 3) (ss_seq (ss_asg (se_cb sc_abs (sa_cons (se_cb sc_int (sa_cons (se_var 3) sa_nil)) sa_nil)) (sg_name 4))
    (ss_seq (ss_asg (se_op (sr_plus (L := false)) (se_var 2) (se_var 4)) (sg_name 2))
    (ss_for (si_rng1 (sa_cons se_int sa_nil)) (sg_name 5) (ss_seq (ss_drop (se_bm sm_append (se_var 1) (sa_cons (se_op sr_mod (se_cb sc_int (sa_cons (se_var 4) sa_nil)) se_int) sa_nil)))
    (ss_seq (ss_asg (se_op sr_div (se_var 4) se_int) (sg_name 4))
    (ss_if (st_test (se_op sr_eq (se_var 4) se_int)) ss_brk ss_nil)))))))
    (ss_ret (se_lstL (sa_cons se_int (sa_cons (se_var 1) (sa_cons (se_op sr_mod (se_cb sc_int (sa_cons (se_var 2) sa_nil)) se_int) sa_nil))))))))⟩
end
end k01
namespace k01
open PySem PySem.Spec PyProof.Rows L2 GxR Gx Pd
section
variable {P : Program} {w : World} {K : PySem.W.Frag} {mg : Str → Option Value} {base : Heap}
theorem ok_law_next (T : Txt K mg) (hT : Tbs T base) : FnOk P w K mg base CX0 1 T._law_next.f T._law_next.fd ["tape", "many"] (spD K T.tb 2 m_law_next) :=
  def_ok (k := 0) T._law_next.F sc__law_next fun A outer s H E hr => ⟨_, (pss_cons (ps_set (i := 2) sc__law_next.nd rfl (Or.inl rfl) (pe_ix (ix_seqK (K := K) rfl) (pv 0) pe_int (fun _ _ => rfl)))
    (pss_cons (ps_asg (pe_op (op_plusK (K := K) rfl) (pv 2) pe_int) (pg_sub (pv 0) pe_int set_list))
    (pss_cons (ps_if (pt_cmpR op_lt (pv 2) (pe_callB (cr_lenK (K := K) rfl) rfl T.z_len PySem.boot_len (pa_cons (pe_ix (ix_seqK (K := K) rfl) (pv 0) pe_int (fun _ _ => rfl)) pa_nil)) (nomark _)) (pss_one (ps_ret (pe_op op_mod (pe_callTy call_int1 rfl T.z_int PyProof.Rows.boot_int (pa_cons (pe_ix (ix_seqK (K := K) rfl) (pe_ix (ix_seqK (K := K) rfl) (pv 0) pe_int (fun _ _ => rfl)) (pv 2) (fun _ _ => rfl)) pa_nil)) (pv 1)))) pss_nil)
    (pss_one (ps_ret (pe_op op_mod (pe_op op_fdivW (pe_op op_mod (pe_callTy call_int1 rfl T.z_int PyProof.Rows.boot_int (pa_cons (pe_op (op_plusK (K := K) rfl) (pe_op op_mulA (pe_op (op_plusK (K := K) rfl) (pv 2) pe_int) pe_int) (pe_op op_mulA (pe_ix (ix_seqK (K := K) rfl) (pv 0) pe_int (fun _ _ => rfl)) pe_int)) pa_nil)) pe_int) pe_int) (pv 1))))))),
    (ss_seq (ss_asg (se_op sr_ix (se_var 0) se_int) (sg_name 2))
    (ss_seq (ss_asg (se_op (sr_plus (L := false)) (se_var 2) se_int) (sg_ix (se_var 0) se_int))
    (ss_seq (ss_if (st_test (se_op sr_lt (se_var 2) (se_cb sc_len (sa_cons (se_op sr_ix (se_var 0) se_int) sa_nil)))) (ss_ret (se_op sr_mod (se_cb sc_int (sa_cons (se_op sr_ix (se_op sr_ix (se_var 0) se_int) (se_var 2)) sa_nil)) (se_var 1))) ss_nil)
    (ss_ret (se_op sr_mod (se_op sr_div (se_op sr_mod (se_cb sc_int (sa_cons (se_op (sr_plus (L := false)) (se_op sr_mul (se_op (sr_plus (L := false)) (se_var 2) se_int) se_int) (se_op sr_mul (se_op sr_ix (se_var 0) se_int) se_int)) sa_nil)) se_int) se_int) (se_var 1))))))⟩
theorem ok_law_cells (T : Txt K mg) (hT : Tbs T base) : ∀ n : Nat, FnOk P w K mg base CX0 (1 + 1 * n) T._law_cells.f T._law_cells.fd ["kind"] (spD K T.tb 1 (m_law_cells n))
  | 0 => fn_none
  | n + 1 => (def_ok (k := 1 + 1 * n) (body := b_law_cells (m_law_cells n)) (fz := false) T._law_cells.F sc__law_cells fun A outer s H E hr => ⟨_, (pss_cons (ps_if (pt_cmpR (op_eqAK (K := K) rfl hr.units) (pe_ix (ix_seqK (K := K) rfl) (pv 0) pe_int (fun _ _ => rfl)) pe_str (nomark _)) (pss_one (ps_ret (pe_op (op_plusK (K := K) rfl) pe_int (pe_call (ok_law_cells T hT n) (hr.mono (by omega)) rfl T._law_cells.g T._law_cells.F.kp T._law_cells.b .nil pass0 (pa_cons (pe_ix (ix_seqK (K := K) rfl) (pv 0) pe_int (fun _ _ => rfl)) pa_nil))))) pss_nil)
    (pss_cons (ps_if (pt_cmpR (op_eqAK (K := K) rfl hr.units) (pe_ix (ix_seqK (K := K) rfl) (pv 0) pe_int (fun _ _ => rfl)) pe_str (nomark _)) (pss_one (ps_ret (pe_callB (cr_sumK (K := K) rfl rfl) rfl T.z_sum bt_sum (pa_cons (pe_lc (own := [("item", 1)]) (tt := tYes) rfl sc__law_cells.nd (pi_tupK (K := K) rfl (pe_ix (ix_seqK (K := K) rfl) (pv 0) pe_int (fun _ _ => rfl))) (blkOk_by (N := ["kind", "item"]) (sc := defScope s__law_cells) (by decide +kernel)) (fun _ _ _ _ _ => (pg_name (i := 1) sc__law_cells.nd rfl (Or.inl rfl))) (fun _ _ _ _ _ => pts_nil) (fun _ _ _ _ _ => (pe_call (ok_law_cells T hT n) (hr.mono (by omega)) rfl T._law_cells.g T._law_cells.F.kp T._law_cells.b .nil pass0 (pa_cons (pv 1) pa_nil)))) pa_nil)))) pss_nil)
    (pss_one (ps_ret (pe_ifExp (pt_cmpR (op_eqAK (K := K) rfl hr.units) (pe_ix (ix_seqK (K := K) rfl) (pv 0) pe_int (fun _ _ => rfl)) pe_str (nomark _)) pe_int pe_int))))),
    (ss_seq (ss_if (st_test (se_op sr_eq (se_op sr_ix (se_var 0) se_int) se_str)) (ss_ret (se_op (sr_plus (L := false)) se_int (se_call (ar_law_cells n) (sa_cons (se_op sr_ix (se_var 0) se_int) sa_nil)))) ss_nil)
    (ss_seq (ss_if (st_test (se_op sr_eq (se_op sr_ix (se_var 0) se_int) se_str)) (ss_ret (se_cb sc_sum (sa_cons (se_lc smk_F (si_tup (se_op sr_ix (se_var 0) se_int)) (sg_name 1) (by decide) st_yes (se_call (ar_law_cells n) (sa_cons (se_var 1) sa_nil))) sa_nil))) ss_nil)
    (ss_ret (se_if (st_test (se_op sr_eq (se_op sr_ix (se_var 0) se_int) se_str)) se_int se_int))))⟩).mono (by omega)
theorem ok_law_fitting (T : Txt K mg) (hT : Tbs T base) : FnOk P w K mg base CX0 10 T._law_fitting.f T._law_fitting.fd ["items", "most"] (spD K T.tb 2 m_law_fitting) :=
  def_ok (k := 9) T._law_fitting.F sc__law_fitting fun A outer s H E hr => ⟨_, (pss_cons (ps_set (i := 2) sc__law_fitting.nd rfl (Or.inl rfl) (pe_lst pa_nil))
    (pss_cons (ps_set (i := 3) sc__law_fitting.nd rfl (Or.inl rfl) pe_int)
    (pss_cons (ps_for PassesOwn.never rfl (pi_range1 (by rfl) T.z_range (pa_cons (pe_callB (cr_lenK (K := K) rfl) rfl T.z_len PySem.boot_len (pa_cons (pv 0) pa_nil)) pa_nil)) (pg_name (i := 4) sc__law_fitting.nd rfl (Or.inl rfl)) (pss_cons (ps_set (i := 5) sc__law_fitting.nd rfl (Or.inl rfl) (pe_ix (ix_seqK (K := K) rfl) (pv 0) (pv 4) (fun _ _ => rfl)))
    (pss_cons (ps_if (pt_cmpR op_gt (pe_op op_sub (pe_op op_sub (pe_op (op_plusK (K := K) rfl) (pe_op (op_plusK (K := K) rfl) (pv 3) (pe_call (ok_law_cells T hT 8) (hr.mono (by omega)) rfl T._law_cells.g T._law_cells.F.kp T._law_cells.b .nil pass0 (pa_cons (pv 5) pa_nil))) (pe_callB (cr_lenK (K := K) rfl) rfl T.z_len PySem.boot_len (pa_cons (pv 0) pa_nil))) pe_int) (pv 4)) (pv 1) (nomark _)) (pss_one (ps_set (i := 5) sc__law_fitting.nd rfl (Or.inl rfl) (pe_tup (pa_cons pe_str pa_nil)))) pss_nil)
    (pss_cons (ps_set (i := 3) sc__law_fitting.nd rfl (Or.inl rfl) (pe_op (op_plusK (K := K) rfl) (pv 3) (pe_call (ok_law_cells T hT 8) (hr.mono (by omega)) rfl T._law_cells.g T._law_cells.F.kp T._law_cells.b .nil pass0 (pa_cons (pv 5) pa_nil))))
    (pss_one (ps_expr (pe_bm PySem.F.plainAttrs_list PySem.F.slot_list_append PySem.F.type_list_append mt_append (pv 2) (pa_cons (pv 5) pa_nil))))))))
    (pss_one (ps_ret (pe_callTy (cr_tupK (K := K) rfl) rfl T.z_tuple PyProof.Rows.boot_tuple (pa_cons (pv 2) pa_nil))))))),
    (ss_seq (ss_asg (se_lstL sa_nil) (sg_name 2))
    (ss_seq (ss_asg se_int (sg_name 3))
    (ss_seq (ss_for (si_rng1 (sa_cons (se_cb sc_len (sa_cons (se_var 0) sa_nil)) sa_nil)) (sg_name 4) (ss_seq (ss_asg (se_op sr_ix (se_var 0) (se_var 4)) (sg_name 5))
    (ss_seq (ss_if (st_test (se_op sr_gt (se_op sr_sub (se_op sr_sub (se_op (sr_plus (L := false)) (se_op (sr_plus (L := false)) (se_var 3) (se_call (ar_law_cells 8) (sa_cons (se_var 5) sa_nil))) (se_cb sc_len (sa_cons (se_var 0) sa_nil))) se_int) (se_var 4)) (se_var 1))) (ss_asg (se_tup (sa_cons se_str sa_nil)) (sg_name 5)) ss_nil)
    (ss_seq (ss_asg (se_op (sr_plus (L := false)) (se_var 3) (se_call (ar_law_cells 8) (sa_cons (se_var 5) sa_nil))) (sg_name 3))
    (ss_drop (se_bm sm_append (se_var 2) (sa_cons (se_var 5) sa_nil)))))))
    (ss_ret (se_cb sc_tuple (sa_cons (se_var 2) sa_nil))))))⟩
theorem ok_law_kind (T : Txt K mg) (hT : Tbs T base) : ∀ n : Nat, FnOk P w K mg base CX0 (11 + 1 * n) T._law_kind.f T._law_kind.fd ["tape", "depth", "plain"] (spD K T.tb 3 (m_law_kind n))
  | 0 => fn_none
  | n + 1 => (def_ok (k := 11 + 1 * n) (body := b_law_kind (m_law_kind n)) (fz := false) T._law_kind.F sc__law_kind fun A outer s H E hr => ⟨_, (pss_cons (ps_set (i := 3) sc__law_kind.nd rfl (Or.inl rfl) (pe_call (ok_law_next T hT) (hr.mono (by omega)) rfl T._law_next.g T._law_next.F.kp T._law_next.b .nil pass0 (pa_cons (pv 0) (pa_cons pe_int pa_nil))))
    (pss_cons (ps_if (PW.pt (pw_or (pt_cmpR op_le (pv 1) pe_int (nomark _)) (pw_or1 (pt_cmpR op_lt (pv 3) pe_int (nomark _))))) (pss_one (ps_ret (pe_ix (ix_seqK (K := K) rfl) (pe_lst (pa_cons (pe_tup (pa_cons pe_str pa_nil)) (pa_cons (pe_tup (pa_cons pe_str pa_nil)) (pa_cons (pe_tup (pa_cons pe_str pa_nil)) (pa_cons (pe_tup (pa_cons pe_str (pa_cons pe_str pa_nil))) pa_nil))))) (pe_call (ok_law_next T hT) (hr.mono (by omega)) rfl T._law_next.g T._law_next.F.kp T._law_next.b .nil pass0 (pa_cons (pv 0) (pa_cons pe_int pa_nil))) (fun _ _ => rfl)))) pss_nil)
    (pss_cons (ps_if (pt_cmpR (op_eqAK (K := K) rfl hr.units) (pv 3) pe_int (nomark _)) (pss_one (ps_ret (pe_tup (pa_cons pe_str (pa_cons (pe_call (ok_law_kind T hT n) (hr.mono (by omega)) rfl T._law_kind.g T._law_kind.F.kp T._law_kind.b .nil pass0 (pa_cons (pv 0) (pa_cons (pe_op op_sub (pv 1) pe_int) (pa_cons pe_bl pa_nil)))) pa_nil))))) pss_nil)
    (pss_cons (ps_if (pt_cmpR (op_eqAK (K := K) rfl hr.units) (pv 3) pe_int (nomark _)) (pss_one (ps_ret (pe_op (op_plusK (K := K) rfl) (pe_tup (pa_cons pe_str pa_nil)) (pe_call (ok_law_fitting T hT) (hr.mono (by omega)) rfl T._law_fitting.g T._law_fitting.F.kp T._law_fitting.b .nil pass0 (pa_cons (pe_lst (pa_cons (pe_call (ok_law_kind T hT n) (hr.mono (by omega)) rfl T._law_kind.g T._law_kind.F.kp T._law_kind.b .nil pass0 (pa_cons (pv 0) (pa_cons (pe_op op_sub (pv 1) pe_int) (pa_cons (pv 2) pa_nil)))) pa_nil)) (pa_cons pe_int pa_nil)))))) pss_nil)
    (pss_cons (ps_if (PW.pt (pw_or (pt_cmpR op_lt (pv 3) pe_int (nomark _)) (pw_or1 (pt_val (pv 2))))) (pss_cons (ps_set (i := 4) sc__law_kind.nd rfl (Or.inl rfl) (pe_op (op_plusK (K := K) rfl) pe_int (pe_call (ok_law_next T hT) (hr.mono (by omega)) rfl T._law_next.g T._law_next.F.kp T._law_next.b .nil pass0 (pa_cons (pv 0) (pa_cons pe_int pa_nil)))))
    (pss_one (ps_ret (pe_tup (pa_cons pe_str (pa_cons (pe_call (ok_law_fitting T hT) (hr.mono (by omega)) rfl T._law_fitting.g T._law_fitting.F.kp T._law_fitting.b .nil pass0 (pa_cons (pe_lc (own := [("k", 5)]) (tt := tYes) rfl sc__law_kind.nd (pi_range1 (by rfl) T.z_range (pa_cons (pv 4) pa_nil)) (blkOk_by (N := ["tape", "depth", "plain", "choice", "many", "k"]) (sc := defScope s__law_kind) (by decide +kernel)) (fun _ _ _ _ _ => (pg_name (i := 5) sc__law_kind.nd rfl (Or.inl rfl))) (fun _ _ _ _ _ => pts_nil) (fun _ _ _ _ _ => (pe_call (ok_law_kind T hT n) (hr.mono (by omega)) rfl T._law_kind.g T._law_kind.F.kp T._law_kind.b .nil pass0 (pa_cons (pv 0) (pa_cons (pe_op op_sub (pv 1) pe_int) (pa_cons (pv 2) pa_nil)))))) (pa_cons pe_int pa_nil))) pa_nil)))))) pss_nil)
    (pss_one (ps_ret (pe_tup (pa_cons (pe_ix (ix_seqK (K := K) rfl) (pe_lst (pa_cons pe_str (pa_cons pe_str (pa_cons pe_str pa_nil)))) (pe_op op_sub (pv 3) pe_int) (fun _ _ => rfl)) (pa_cons (pe_call (ok_law_kind T hT n) (hr.mono (by omega)) rfl T._law_kind.g T._law_kind.F.kp T._law_kind.b .nil pass0 (pa_cons (pv 0) (pa_cons (pe_op op_sub (pv 1) pe_int) (pa_cons pe_bl pa_nil)))) pa_nil)))))))))),
    (ss_seq (ss_asg (se_call ar_law_next (sa_cons (se_var 0) (sa_cons se_int sa_nil))) (sg_name 3))
    (ss_seq (ss_if (st_or (st_test (se_op sr_le (se_var 1) se_int)) (st_test (se_op sr_lt (se_var 3) se_int))) (ss_ret (se_op sr_ix (se_lstF (sa_cons (se_tup (sa_cons se_str sa_nil)) (sa_cons (se_tup (sa_cons se_str sa_nil)) (sa_cons (se_tup (sa_cons se_str sa_nil)) (sa_cons (se_tup (sa_cons se_str (sa_cons se_str sa_nil))) sa_nil))))) (se_call ar_law_next (sa_cons (se_var 0) (sa_cons se_int sa_nil))))) ss_nil)
    (ss_seq (ss_if (st_test (se_op sr_eq (se_var 3) se_int)) (ss_ret (se_tup (sa_cons se_str (sa_cons (se_call (ar_law_kind n) (sa_cons (se_var 0) (sa_cons (se_op sr_sub (se_var 1) se_int) (sa_cons se_bl sa_nil)))) sa_nil)))) ss_nil)
    (ss_seq (ss_if (st_test (se_op sr_eq (se_var 3) se_int)) (ss_ret (se_op (sr_plus (L := false)) (se_tup (sa_cons se_str sa_nil)) (se_call ar_law_fitting (sa_cons (se_lstF (sa_cons (se_call (ar_law_kind n) (sa_cons (se_var 0) (sa_cons (se_op sr_sub (se_var 1) se_int) (sa_cons (se_var 2) sa_nil)))) sa_nil)) (sa_cons se_int sa_nil))))) ss_nil)
    (ss_seq (ss_if (st_or (st_test (se_op sr_lt (se_var 3) se_int)) (st_val (se_var 2))) (ss_seq (ss_asg (se_op (sr_plus (L := false)) se_int (se_call ar_law_next (sa_cons (se_var 0) (sa_cons se_int sa_nil)))) (sg_name 4))
    (ss_ret (se_tup (sa_cons se_str (sa_cons (se_call ar_law_fitting (sa_cons (se_lc smk_F (si_rng1 (sa_cons (se_var 4) sa_nil)) (sg_name 5) (by decide) st_yes (se_call (ar_law_kind n) (sa_cons (se_var 0) (sa_cons (se_op sr_sub (se_var 1) se_int) (sa_cons (se_var 2) sa_nil))))) (sa_cons se_int sa_nil))) sa_nil))))) ss_nil)
    (ss_ret (se_tup (sa_cons (se_op sr_ix (se_lstF (sa_cons se_str (sa_cons se_str (sa_cons se_str sa_nil)))) (se_op sr_sub (se_var 3) se_int)) (sa_cons (se_call (ar_law_kind n) (sa_cons (se_var 0) (sa_cons (se_op sr_sub (se_var 1) se_int) (sa_cons se_bl sa_nil)))) sa_nil)))))))))⟩).mono (by omega)
theorem ok_law_plain (T : Txt K mg) (hT : Tbs T base) : ∀ n : Nat, FnOk P w K mg base CX0 (1 + 1 * n) T._law_plain.f T._law_plain.fd ["kind"] (spD K T.tb 1 (m_law_plain n))
  | 0 => fn_none
  | n + 1 => (def_ok (k := 1 + 1 * n) (body := b_law_plain (m_law_plain n)) (fz := false) T._law_plain.F sc__law_plain fun A outer s H E hr => ⟨_, (pss_cons (ps_if (pt_cmpR (op_inK (K := K) rfl) (pe_ix (ix_seqK (K := K) rfl) (pv 0) pe_int (fun _ _ => rfl)) (pe_lst (pa_cons pe_str (pa_cons pe_str (pa_cons pe_str pa_nil)))) (by rfl)) (pss_one (ps_ret pe_bl)) pss_nil)
    (pss_cons (ps_if (pt_cmpR (op_inK (K := K) rfl) (pe_ix (ix_seqK (K := K) rfl) (pv 0) pe_int (fun _ _ => rfl)) (pe_lst (pa_cons pe_str (pa_cons pe_str pa_nil))) (by rfl)) (pss_one (ps_ret (pe_call (ok_law_plain T hT n) (hr.mono (by omega)) rfl T._law_plain.g T._law_plain.F.kp T._law_plain.b .nil pass0 (pa_cons (pe_ix (ix_seqK (K := K) rfl) (pv 0) pe_int (fun _ _ => rfl)) pa_nil)))) pss_nil)
    (pss_cons (ps_if (pt_cmpR (op_eqAK (K := K) rfl hr.units) (pe_ix (ix_seqK (K := K) rfl) (pv 0) pe_int (fun _ _ => rfl)) pe_str (nomark _)) (pss_one (ps_ret (pe_cmpR (op_eqAK (K := K) rfl hr.units) (pe_callB (cr_lenK (K := K) rfl) rfl T.z_len PySem.boot_len (pa_cons (pe_lc (own := [("item", 1)]) rfl sc__law_plain.nd (pi_tupK (K := K) rfl (pe_ix (ix_seqK (K := K) rfl) (pv 0) pe_int (fun _ _ => rfl))) (blkOk_by (N := ["kind", "item"]) (sc := defScope s__law_plain) (by decide +kernel)) (fun _ _ _ _ _ => (pg_name (i := 1) sc__law_plain.nd rfl (Or.inl rfl))) (fun _ _ _ _ _ => pts_one (pt_not (pt_val (pe_call (ok_law_plain T hT n) (hr.mono (by omega)) rfl T._law_plain.g T._law_plain.F.kp T._law_plain.b .nil pass0 (pa_cons (pv 1) pa_nil))))) (fun _ _ _ _ _ => (pv 1))) pa_nil)) pe_int (nomark _)))) pss_nil)
    (pss_one (ps_ret pe_bl))))),
    (ss_seq (ss_if (st_test (se_op (sr_in (n := false)) (se_op sr_ix (se_var 0) se_int) (se_lstF (sa_cons se_str (sa_cons se_str (sa_cons se_str sa_nil)))))) (ss_ret se_bl) ss_nil)
    (ss_seq (ss_if (st_test (se_op (sr_in (n := false)) (se_op sr_ix (se_var 0) se_int) (se_lstF (sa_cons se_str (sa_cons se_str sa_nil))))) (ss_ret (se_call (ar_law_plain n) (sa_cons (se_op sr_ix (se_var 0) se_int) sa_nil))) ss_nil)
    (ss_seq (ss_if (st_test (se_op sr_eq (se_op sr_ix (se_var 0) se_int) se_str)) (ss_ret (se_op sr_eq (se_cb sc_len (sa_cons (se_lc smk_F (si_tup (se_op sr_ix (se_var 0) se_int)) (sg_name 1) (by decide) (st_not (st_val (se_call (ar_law_plain n) (sa_cons (se_var 1) sa_nil)))) (se_var 1)) sa_nil)) se_int)) ss_nil)
    (ss_ret se_bl))))⟩).mono (by omega)
theorem ok_law_copy (T : Txt K mg) (hT : Tbs T base) : ∀ n : Nat, FnOk P w K mg base CX0 (1 + 1 * n) T._law_copy.f T._law_copy.fd ["kind"] (spD K T.tb 1 (m_law_copy n))
  | 0 => fn_none
  | n + 1 => (def_ok (k := 1 + 1 * n) (body := b_law_copy (m_law_copy n)) (fz := false) T._law_copy.F sc__law_copy fun A outer s H E hr => ⟨_, (pss_cons (ps_if (pt_cmpR (op_eqAK (K := K) rfl hr.units) (pe_ix (ix_seqK (K := K) rfl) (pv 0) pe_int (fun _ _ => rfl)) pe_str (nomark _)) (pss_one (ps_ret (pe_call (ok_law_copy T hT n) (hr.mono (by omega)) rfl T._law_copy.g T._law_copy.F.kp T._law_copy.b .nil pass0 (pa_cons (pe_ix (ix_seqK (K := K) rfl) (pv 0) pe_int (fun _ _ => rfl)) pa_nil)))) pss_nil)
    (pss_cons (ps_if (pt_cmpR (op_eqAK (K := K) rfl hr.units) (pe_ix (ix_seqK (K := K) rfl) (pv 0) pe_int (fun _ _ => rfl)) pe_str (nomark _)) (pss_one (ps_ret (pe_cmpR (op_eqAK (K := K) rfl hr.units) (pe_callB (cr_lenK (K := K) rfl) rfl T.z_len PySem.boot_len (pa_cons (pe_lc (own := [("item", 1)]) rfl sc__law_copy.nd (pi_tupK (K := K) rfl (pe_ix (ix_seqK (K := K) rfl) (pv 0) pe_int (fun _ _ => rfl))) (blkOk_by (N := ["kind", "item"]) (sc := defScope s__law_copy) (by decide +kernel)) (fun _ _ _ _ _ => (pg_name (i := 1) sc__law_copy.nd rfl (Or.inl rfl))) (fun _ _ _ _ _ => pts_one (pt_not (pt_val (pe_call (ok_law_copy T hT n) (hr.mono (by omega)) rfl T._law_copy.g T._law_copy.F.kp T._law_copy.b .nil pass0 (pa_cons (pv 1) pa_nil))))) (fun _ _ _ _ _ => (pv 1))) pa_nil)) pe_int (nomark _)))) pss_nil)
    (pss_one (ps_ret (pe_cmpR (op_inK (K := K) rfl) (pe_ix (ix_seqK (K := K) rfl) (pv 0) pe_int (fun _ _ => rfl)) (pe_lst (pa_cons pe_str (pa_cons pe_str (pa_cons pe_str (pa_cons pe_str pa_nil))))) (by rfl)))))),
    (ss_seq (ss_if (st_test (se_op sr_eq (se_op sr_ix (se_var 0) se_int) se_str)) (ss_ret (se_call (ar_law_copy n) (sa_cons (se_op sr_ix (se_var 0) se_int) sa_nil))) ss_nil)
    (ss_seq (ss_if (st_test (se_op sr_eq (se_op sr_ix (se_var 0) se_int) se_str)) (ss_ret (se_op sr_eq (se_cb sc_len (sa_cons (se_lc smk_F (si_tup (se_op sr_ix (se_var 0) se_int)) (sg_name 1) (by decide) (st_not (st_val (se_call (ar_law_copy n) (sa_cons (se_var 1) sa_nil)))) (se_var 1)) sa_nil)) se_int)) ss_nil)
    (ss_ret (se_op (sr_in (n := false)) (se_op sr_ix (se_var 0) se_int) (se_lstF (sa_cons se_str (sa_cons se_str (sa_cons se_str (sa_cons se_str sa_nil)))))))))⟩).mono (by omega)
end
end k01
namespace k01
open PySem PySem.Spec PyProof.Rows L2 GxR Gx Pd
section
variable {P : Program} {w : World} {K : PySem.W.Frag} {mg : Str → Option Value} {base : Heap}
theorem ok_law_levels (T : Txt K mg) (hT : Tbs T base) : ∀ n : Nat, FnOk P w K mg base CX0 (1 + 1 * n) T._law_levels.f T._law_levels.fd ["kind"] (spD K T.tb 1 (m_law_levels n))
  | 0 => fn_none
  | n + 1 => (def_ok (k := 1 + 1 * n) (body := b_law_levels (m_law_levels n)) (fz := false) T._law_levels.F sc__law_levels fun A outer s H E hr => ⟨_, (pss_cons (ps_if (pt_cmpR (op_eqAK (K := K) rfl hr.units) (pe_ix (ix_seqK (K := K) rfl) (pv 0) pe_int (fun _ _ => rfl)) pe_str (nomark _)) (pss_one (ps_ret (pe_op (op_plusK (K := K) rfl) pe_int (pe_callB (cr_maxK (K := K) rfl rfl) rfl T.z_max bt_max (pa_cons (pe_lc (own := [("item", 1)]) (tt := tYes) rfl sc__law_levels.nd (pi_tupK (K := K) rfl (pe_ix (ix_seqK (K := K) rfl) (pv 0) pe_int (fun _ _ => rfl))) (blkOk_by (N := ["kind", "item"]) (sc := defScope s__law_levels) (by decide +kernel)) (fun _ _ _ _ _ => (pg_name (i := 1) sc__law_levels.nd rfl (Or.inl rfl))) (fun _ _ _ _ _ => pts_nil) (fun _ _ _ _ _ => (pe_call (ok_law_levels T hT n) (hr.mono (by omega)) rfl T._law_levels.g T._law_levels.F.kp T._law_levels.b .nil pass0 (pa_cons (pv 1) pa_nil)))) pa_nil))))) pss_nil)
    (pss_cons (ps_if (pt_cmpR (op_inK (K := K) rfl) (pe_ix (ix_seqK (K := K) rfl) (pv 0) pe_int (fun _ _ => rfl)) (pe_lst (pa_cons pe_str (pa_cons pe_str (pa_cons pe_str (pa_cons pe_str (pa_cons pe_str pa_nil)))))) (by rfl)) (pss_one (ps_ret (pe_op (op_plusK (K := K) rfl) pe_int (pe_call (ok_law_levels T hT n) (hr.mono (by omega)) rfl T._law_levels.g T._law_levels.F.kp T._law_levels.b .nil pass0 (pa_cons (pe_ix (ix_seqK (K := K) rfl) (pv 0) pe_int (fun _ _ => rfl)) pa_nil))))) pss_nil)
    (pss_one (ps_ret pe_int)))),
    (ss_seq (ss_if (st_test (se_op sr_eq (se_op sr_ix (se_var 0) se_int) se_str)) (ss_ret (se_op (sr_plus (L := false)) se_int (se_cb sc_max (sa_cons (se_lc smk_F (si_tup (se_op sr_ix (se_var 0) se_int)) (sg_name 1) (by decide) st_yes (se_call (ar_law_levels n) (sa_cons (se_var 1) sa_nil))) sa_nil)))) ss_nil)
    (ss_seq (ss_if (st_test (se_op (sr_in (n := false)) (se_op sr_ix (se_var 0) se_int) (se_lstF (sa_cons se_str (sa_cons se_str (sa_cons se_str (sa_cons se_str (sa_cons se_str sa_nil)))))))) (ss_ret (se_op (sr_plus (L := false)) se_int (se_call (ar_law_levels n) (sa_cons (se_op sr_ix (se_var 0) se_int) sa_nil)))) ss_nil)
    (ss_ret se_int)))⟩).mono (by omega)
theorem ok_law_leaves (T : Txt K mg) (hT : Tbs T base) : ∀ n : Nat, FnOk P w K mg base CX0 (1 + 1 * n) T._law_leaves.f T._law_leaves.fd ["kind"] (spD K T.tb 1 (m_law_leaves n))
  | 0 => fn_none
  | n + 1 => (def_ok (k := 1 + 1 * n) (body := b_law_leaves (m_law_leaves n)) (fz := false) T._law_leaves.F sc__law_leaves fun A outer s H E hr => ⟨_, (pss_cons (ps_if (pt_cmpR (op_inK (K := K) rfl) (pe_ix (ix_seqK (K := K) rfl) (pv 0) pe_int (fun _ _ => rfl)) (pe_lst (pa_cons pe_str (pa_cons pe_str (pa_cons pe_str pa_nil)))) (by rfl)) (pss_one (ps_ret (pe_lst (pa_cons (pe_tup pa_nil) pa_nil)))) pss_nil)
    (pss_cons (ps_set (i := 1) sc__law_leaves.nd rfl (Or.inl rfl) (pe_lst pa_nil))
    (pss_cons (ps_if (pt_cmpR (op_eqAK (K := K) rfl hr.units) (pe_ix (ix_seqK (K := K) rfl) (pv 0) pe_int (fun _ _ => rfl)) pe_str (nomark _)) (pss_one (ps_setLc (i := 1) (own := [("path", 3)]) (tt := tYes) rfl sc__law_leaves.nd rfl rfl (sw_true rfl rfl rfl (by decide +kernel)) (pi_lstK (K := K) rfl (pe_call (ok_law_leaves T hT n) (hr.mono (by omega)) rfl T._law_leaves.g T._law_leaves.F.kp T._law_leaves.b .nil pass0 (pa_cons (pe_ix (ix_seqK (K := K) rfl) (pv 0) pe_int (fun _ _ => rfl)) pa_nil))) (blkOk_by (N := ["kind", "found", "k", "path"]) (sc := defScope s__law_leaves) (by decide +kernel)) (fun _ _ _ _ _ => (pg_name (i := 3) sc__law_leaves.nd rfl (Or.inl rfl))) (fun _ _ _ _ _ => pts_nil) (fun _ _ _ _ _ => (pe_op (op_plusK (K := K) rfl) (pe_tup (pa_cons pe_str pa_nil)) (pv 3))))) pss_nil)
    (pss_cons (ps_if (pt_cmpR (op_eqAK (K := K) rfl hr.units) (pe_ix (ix_seqK (K := K) rfl) (pv 0) pe_int (fun _ _ => rfl)) pe_str (nomark _)) (pss_one (ps_for PassesOwn.never rfl (pi_range1 (by rfl) T.z_range (pa_cons (pe_callB (cr_lenK (K := K) rfl) rfl T.z_len PySem.boot_len (pa_cons (pe_ix (ix_seqK (K := K) rfl) (pv 0) pe_int (fun _ _ => rfl)) pa_nil)) pa_nil)) (pg_name (i := 2) sc__law_leaves.nd rfl (Or.inr rfl)) (pss_one (ps_set (i := 1) sc__law_leaves.nd rfl (Or.inl rfl) (pe_op (op_plusK (K := K) rfl) (pv 1) (pe_lc (own := [("path", 3)]) (tt := tYes) rfl sc__law_leaves.nd (pi_lstK (K := K) rfl (pe_call (ok_law_leaves T hT n) (hr.mono (by omega)) rfl T._law_leaves.g T._law_leaves.F.kp T._law_leaves.b .nil pass0 (pa_cons (pe_ix (ix_seqK (K := K) rfl) (pe_ix (ix_seqK (K := K) rfl) (pv 0) pe_int (fun _ _ => rfl)) (pv 2) (fun _ _ => rfl)) pa_nil))) (blkOk_by (N := ["kind", "found", "k", "path"]) (sc := defScope s__law_leaves) (by decide +kernel)) (fun _ _ _ _ _ => (pg_name (i := 3) sc__law_leaves.nd rfl (Or.inl rfl))) (fun _ _ _ _ _ => pts_nil) (fun _ _ _ _ _ => (pe_op (op_plusK (K := K) rfl) (pe_tup (pa_cons (pv 2) pa_nil)) (pv 3))))))))) pss_nil)
    (pss_one (ps_ret (pv 1))))))),
    (ss_seq (ss_if (st_test (se_op (sr_in (n := false)) (se_op sr_ix (se_var 0) se_int) (se_lstF (sa_cons se_str (sa_cons se_str (sa_cons se_str sa_nil)))))) (ss_ret (se_lstF (sa_cons (se_tup sa_nil) sa_nil))) ss_nil)
    (ss_seq (ss_asg (se_lstF sa_nil) (sg_name 1))
    (ss_seq (ss_if (st_test (se_op sr_eq (se_op sr_ix (se_var 0) se_int) se_str)) (ss_asg (se_lc smk_F (si_lst (se_call (ar_law_leaves n) (sa_cons (se_op sr_ix (se_var 0) se_int) sa_nil))) (sg_name 3) (by decide) st_yes (se_op (sr_plus (L := false)) (se_tup (sa_cons se_str sa_nil)) (se_var 3))) (sg_name 1)) ss_nil)
    (ss_seq (ss_if (st_test (se_op sr_eq (se_op sr_ix (se_var 0) se_int) se_str)) (ss_for (si_rng1 (sa_cons (se_cb sc_len (sa_cons (se_op sr_ix (se_var 0) se_int) sa_nil)) sa_nil)) (sg_name 2) (ss_asg (se_op (sr_plus (L := false)) (se_var 1) (se_lc smk_F (si_lst (se_call (ar_law_leaves n) (sa_cons (se_op sr_ix (se_op sr_ix (se_var 0) se_int) (se_var 2)) sa_nil))) (sg_name 3) (by decide) st_yes (se_op (sr_plus (L := false)) (se_tup (sa_cons (se_var 2) sa_nil)) (se_var 3)))) (sg_name 1))) ss_nil)
    (ss_ret (se_var 1))))))⟩).mono (by omega)
theorem ok_law_is (T : Txt K mg) (hT : Tbs T base) : FnOk P w K mg base CX0 1 T._law_is.f T._law_is.fd ["answer", "due"] (spD K T.tb 2 m_law_is) :=
  def_ok (k := 0) T._law_is.F sc__law_is fun A outer s H E hr => ⟨_, (pss_one (ps_ret (pe_ifExp (pt_val (pv 1)) (pe_cmpR op_isBool (pv 0) pe_bl (nomark _)) (pe_cmpR op_isBool (pv 0) pe_bl (nomark _))))),
    (ss_ret (se_if (st_val (se_var 1)) (se_op sr_isBl (se_var 0) se_bl) (se_op sr_isBl (se_var 0) se_bl)))⟩
theorem ok_law (T : Txt K mg) (hT : Tbs T base) : FnOk P w K mg base CX0 20 T.law.f T.law.fd ["script"] (spD K T.tb 1 m_law) :=
  def_ok (k := 19) T.law.F sc_law fun A outer s H E hr => ⟨_, (pss_cons (ps_set (i := 1) sc_law.nd rfl (Or.inl rfl) (pe_call (ok_law_tape T hT) (hr.mono (by omega)) rfl T._law_tape.g T._law_tape.F.kp T._law_tape.b .nil pass0 (pa_cons (pv 0) pa_nil)))
    (pss_cons (ps_for PassesOwn.never rfl (pi_range1 (by rfl) T.z_range (pa_cons pe_int pa_nil)) (pg_name (i := 2) sc_law.nd rfl (Or.inl rfl)) (pss_cons (ps_set (i := 3) sc_law.nd rfl (Or.inl rfl) (pe_call (ok_law_kind T hT 8) (hr.mono (by omega)) rfl T._law_kind.g T._law_kind.F.kp T._law_kind.b .nil pass0 (pa_cons (pv 1) (pa_cons pe_int (pa_cons pe_bl pa_nil)))))
    (pss_cons (ps_if (PW.pt (pw_or (pt_not (pt_val (pe_call (ok_law_is T hT) (hr.mono (by omega)) rfl T._law_is.g T._law_is.F.kp T._law_is.b .nil pass0 (pa_cons (pe_call (ok_is_plain T hT 8) (hr.mono (by omega)) rfl T.is_plain.g T.is_plain.F.kp T.is_plain.b .nil pass0 (pa_cons (pv 3) pa_nil)) (pa_cons (pe_call (ok_law_plain T hT 8) (hr.mono (by omega)) rfl T._law_plain.g T._law_plain.F.kp T._law_plain.b .nil pass0 (pa_cons (pv 3) pa_nil)) pa_nil))))) (pw_or1 (pt_not (pt_val (pe_call (ok_law_is T hT) (hr.mono (by omega)) rfl T._law_is.g T._law_is.F.kp T._law_is.b .nil pass0 (pa_cons (pe_call (ok_is_copy T hT 8) (hr.mono (by omega)) rfl T.is_copy.g T.is_copy.F.kp T.is_copy.b .nil pass0 (pa_cons (pv 3) pa_nil)) (pa_cons (pe_call (ok_law_copy T hT 8) (hr.mono (by omega)) rfl T._law_copy.g T._law_copy.F.kp T._law_copy.b .nil pass0 (pa_cons (pv 3) pa_nil)) pa_nil)))))))) (pss_one (ps_ret pe_bl)) pss_nil)
    (pss_one (ps_if (PW.pt (pw_or (pt_cmpR (op_neAK (K := K) rfl hr.units) (pe_call (ok_levels T hT 8) (hr.mono (by omega)) rfl T.levels.g T.levels.F.kp T.levels.b .nil pass0 (pa_cons (pv 3) pa_nil)) (pe_call (ok_law_levels T hT 8) (hr.mono (by omega)) rfl T._law_levels.g T._law_levels.F.kp T._law_levels.b .nil pass0 (pa_cons (pv 3) pa_nil)) (nomark _)) (pw_or1 (pt_cmpR (op_neAK (K := K) rfl hr.units) (pe_call (ok_leaves T hT 8) (hr.mono (by omega)) rfl T.leaves.g T.leaves.F.kp T.leaves.b .nil pass0 (pa_cons (pv 3) pa_nil)) (pe_callTy (cr_tupK (K := K) rfl) rfl T.z_tuple PyProof.Rows.boot_tuple (pa_cons (pe_call (ok_law_leaves T hT 8) (hr.mono (by omega)) rfl T._law_leaves.g T._law_leaves.F.kp T._law_leaves.b .nil pass0 (pa_cons (pv 3) pa_nil)) pa_nil)) (nomark _))))) (pss_one (ps_ret pe_bl)) pss_nil)))))
    (pss_one (ps_ret pe_bl)))),
    (ss_seq (ss_asg (se_call ar_law_tape (sa_cons (se_var 0) sa_nil)) (sg_name 1))
    (ss_seq (ss_for (si_rng1 (sa_cons se_int sa_nil)) (sg_name 2) (ss_seq (ss_asg (se_call (ar_law_kind 8) (sa_cons (se_var 1) (sa_cons se_int (sa_cons se_bl sa_nil)))) (sg_name 3))
    (ss_seq (ss_if (st_or (st_not (st_val (se_call ar_law_is (sa_cons (se_call (ar_is_plain 8) (sa_cons (se_var 3) sa_nil)) (sa_cons (se_call (ar_law_plain 8) (sa_cons (se_var 3) sa_nil)) sa_nil))))) (st_not (st_val (se_call ar_law_is (sa_cons (se_call (ar_is_copy 8) (sa_cons (se_var 3) sa_nil)) (sa_cons (se_call (ar_law_copy 8) (sa_cons (se_var 3) sa_nil)) sa_nil)))))) (ss_ret se_bl) ss_nil)
    (ss_if (st_or (st_test (se_op sr_ne (se_call (ar_levels 8) (sa_cons (se_var 3) sa_nil)) (se_call (ar_law_levels 8) (sa_cons (se_var 3) sa_nil)))) (st_test (se_op sr_ne (se_call (ar_leaves 8) (sa_cons (se_var 3) sa_nil)) (se_cb sc_tuple (sa_cons (se_call (ar_law_leaves 8) (sa_cons (se_var 3) sa_nil)) sa_nil))))) (ss_ret se_bl) ss_nil))))
    (ss_ret se_bl)))⟩
end
end k01
namespace k01
open PySem L2 Pd
/-! ### kinds -/
inductive Kd where
  | base (x : Fin 3)
  | node
  | box (k : Kd) | maybe (k : Kd) | sh (k : Kd) | ex (k : Kd) | task (k : Kd)
  | tup (ks : List Kd)
mutual
def Kd.d : Kd → PyData
  | .base x => .tuple [.str (match x with | 0 => "int" | 1 => "bool" | 2 => "unit")]
  | .node => .tuple [.str "record", .str "Node"]
  | .box k => .tuple [.str "box", k.d]
  | .maybe k => .tuple [.str "maybe", k.d]
  | .sh k => .tuple [.str "shared", k.d]
  | .ex k => .tuple [.str "exclusive", k.d]
  | .task k => .tuple [.str "task", k.d]
  | .tup ks => .tuple [.str "tuple", .tuple (Kd.ds ks)]
def Kd.ds : List Kd → List PyData
  | [] => []
  | k :: ks => k.d :: Kd.ds ks
end
mutual
def Kd.dep : Kd → Nat
  | .base _ => 1
  | .node => 1
  | .box k | .maybe k | .sh k | .ex k | .task k => k.dep + 1
  | .tup ks => Kd.deps ks + 1
def Kd.deps : List Kd → Nat
  | [] => 0
  | k :: ks => max k.dep (Kd.deps ks)
end
mutual
def Kd.wf : Kd → Prop
  | .base _ => True
  | .node => True
  | .box k | .maybe k | .sh k | .ex k | .task k => k.wf
  | .tup ks => (1 ≤ ks.length ∧ ks.length ≤ 6) ∧ Kd.wfs ks
def Kd.wfs : List Kd → Prop
  | [] => True
  | k :: ks => k.wf ∧ Kd.wfs ks
end
mutual
def Kd.plain : Kd → Bool
  | .base _ => true
  | .node => true
  | .box k | .maybe k => k.plain
  | .sh _ | .ex _ | .task _ => false
  | .tup ks => Kd.plains ks
def Kd.plains : List Kd → Bool
  | [] => true
  | k :: ks => k.plain && Kd.plains ks
end
mutual
def Kd.copy : Kd → Bool
  | .base _ => true
  | .node => false
  | .maybe k => k.copy
  | .sh _ => true
  | .box _ | .ex _ | .task _ => false
  | .tup ks => Kd.copys ks
def Kd.copys : List Kd → Bool
  | [] => true
  | k :: ks => k.copy && Kd.copys ks
end
mutual
def Kd.cells : Kd → Int
  | .base _ => 1
  | .node => 3
  | .maybe k => 1 + k.cells
  | .box _ | .sh _ | .ex _ | .task _ => 1
  | .tup ks => (Kd.cellss ks).sum
def Kd.cellss : List Kd → List Int
  | [] => []
  | k :: ks => k.cells :: Kd.cellss ks
end
mutual
/-- the paths to the leaves -/
def Kd.lvs : Kd → List (List PyData)
  | .base _ => []
  | .node => []
  | .box _ => []
  | .maybe k => k.lvs.map fun p => .str "?" :: p
  | .sh _ | .ex _ | .task _ => [[]]
  | .tup ks => Kd.lvss 0 ks
def Kd.lvss (i : Nat) : List Kd → List (List PyData)
  | [] => []
  | k :: ks => (k.lvs.map fun p => .int (i : Int) :: p) ++ Kd.lvss (i + 1) ks
end
theorem ds_map : ∀ ks : List Kd, Kd.ds ks = ks.map Kd.d
  | [] => by simp [Kd.ds]
  | k :: ks => by simp [Kd.ds, ds_map ks]
theorem cellss_map : ∀ ks : List Kd, Kd.cellss ks = ks.map Kd.cells
  | [] => by simp [Kd.cellss]
  | k :: ks => by simp [Kd.cellss, cellss_map ks]
theorem plains_all : ∀ ks : List Kd, Kd.plains ks = ks.all Kd.plain
  | [] => by simp [Kd.plains]
  | k :: ks => by simp [Kd.plains, plains_all ks]
theorem copys_all : ∀ ks : List Kd, Kd.copys ks = ks.all Kd.copy
  | [] => by simp [Kd.copys]
  | k :: ks => by simp [Kd.copys, copys_all ks]
theorem dep_mem : ∀ {ks : List Kd} {k : Kd}, k ∈ ks → k.dep ≤ Kd.deps ks
  | [], _, h => by cases h
  | k' :: ks, k, h => by
    rcases List.mem_cons.mp h with rfl | h
    · simp only [Kd.deps]; exact Nat.le_max_left _ _
    · simp only [Kd.deps]; exact Nat.le_trans (dep_mem h) (Nat.le_max_right _ _)
theorem wf_mem : ∀ {ks : List Kd}, Kd.wfs ks → ∀ {k : Kd}, k ∈ ks → k.wf
  | [], _, _, h => by cases h
  | k' :: ks, hw, k, h => by
    simp only [Kd.wfs] at hw
    rcases List.mem_cons.mp h with rfl | h
    · exact hw.1
    · exact wf_mem hw.2 h
theorem wfs_of : ∀ {ks : List Kd}, (∀ k ∈ ks, k.wf) → Kd.wfs ks
  | [], _ => by simp [Kd.wfs]
  | k :: ks, h => by
    simp only [Kd.wfs]
    exact ⟨h k List.mem_cons_self, wfs_of fun x hx => h x (List.mem_cons_of_mem _ hx)⟩
theorem deps_le {n : Nat} : ∀ {ks : List Kd}, (∀ k ∈ ks, k.dep ≤ n) → Kd.deps ks ≤ n
  | [], _ => by simp [Kd.deps]
  | k :: ks, h => by
    simp only [Kd.deps]
    exact Nat.max_le.mpr ⟨h k List.mem_cons_self, deps_le fun x hx => h x (List.mem_cons_of_mem _ hx)⟩
theorem dep_pos (k : Kd) : 1 ≤ k.dep := by cases k <;> simp [Kd.dep]
theorem small6 {n : Nat} (h : n ≤ 6) : n ≤ sizeLine := Nat.le_trans h (by decide)
theorem dle {k : Kd} {n : Nat} (h : k.dep + 1 ≤ n + 1) : k.dep ≤ n := Nat.le_of_succ_le_succ h
section
variable {S : Mem}
theorem all_one {f : MF} {d : PyData} {b : Bool} {x : W} (h : f [.d d] S = some (.d (.bool b), S)) : allL (gN 1) (eCall f (aCons (eVar 1) aNil)) [.d d] [some x, none] S = some (b, S) := by
  rw [allL_vals (fun _ => b) (fun w hw => ?_)]
  · cases b <;> rfl
  · rw [List.mem_singleton.mp hw]
    exact ⟨_, rfl, h⟩
theorem is_plain_ok : ∀ (n : Nat) (k : Kd), k.dep ≤ n → m_is_plain n [.d k.d] S = some (.d (.bool k.plain), S)
  | 0, k, h => absurd (Nat.le_trans (dep_pos k) h) (by decide)
  | n + 1, .base x, h => by
    match x with
    | 0 => rfl
    | 1 => rfl
    | 2 => rfl
  | n + 1, .node, h => by rfl
  | n + 1, .sh k, h => by rfl
  | n + 1, .ex k, h => by rfl
  | n + 1, .task k, h => by rfl
  | n + 1, .box k, h => by
    refine v_def rfl (v_nx (v_ifF (by rfl) (by rfl)) (v_ret (v_all (v_itup (ds := [k.d]) (by rfl)) (k := k.plain) ?_))) rfl
    exact all_one (is_plain_ok n k (dle h))
  | n + 1, .maybe k, h => by
    refine v_def rfl (v_nx (v_ifF (by rfl) (by rfl)) (v_ret (v_all (v_itup (ds := [k.d]) (by rfl)) (k := k.plain) ?_))) rfl
    exact all_one (is_plain_ok n k (dle h))
  | n + 1, .tup ks, h => by
    refine v_def rfl (v_nx (v_ifF (by rfl) (by rfl)) (v_ret (v_all (v_itup (ds := Kd.ds ks) (by rfl)) (k := Kd.plains ks) ?_))) rfl
    rw [ds_map, plains_all, List.map_map]
    exact allL_map fun k hk => ⟨_, rfl, is_plain_ok n k (Nat.le_trans (dep_mem hk) (Nat.le_of_succ_le_succ h))⟩
theorem is_copy_ok : ∀ (n : Nat) (k : Kd), k.dep ≤ n → m_is_copy n [.d k.d] S = some (.d (.bool k.copy), S)
  | 0, k, h => absurd (Nat.le_trans (dep_pos k) h) (by decide)
  | n + 1, .base x, h => by
    match x with
    | 0 => rfl
    | 1 => rfl
    | 2 => rfl
  | n + 1, .node, h => by rfl
  | n + 1, .sh k, h => by rfl
  | n + 1, .ex k, h => by rfl
  | n + 1, .task k, h => by rfl
  | n + 1, .box k, h => by rfl
  | n + 1, .maybe k, h => by
    refine v_def rfl (v_rt (v_ifT (by rfl) (v_ret (v_all (v_itup (ds := [k.d]) (by rfl)) (k := k.copy) ?_)))) rfl
    exact all_one (is_copy_ok n k (dle h))
  | n + 1, .tup ks, h => by
    refine v_def rfl (v_rt (v_ifT (by rfl) (v_ret (v_all (v_itup (ds := Kd.ds ks) (by rfl)) (k := Kd.copys ks) ?_)))) rfl
    rw [ds_map, copys_all, List.map_map]
    exact allL_map fun k hk => ⟨_, rfl, is_copy_ok n k (Nat.le_trans (dep_mem hk) (Nat.le_of_succ_le_succ h))⟩
theorem filt_none {ks : List Kd} {p : Kd → Bool} : decide (((ks.filter fun k => !p k).length : Int) = 0) = ks.all p := by
  rw [Bool.eq_iff_iff, decide_eq_true_iff, List.all_eq_true]
  constructor
  · intro h k hk
    have h0 : (ks.filter fun k => !p k) = [] := List.length_eq_zero_iff.mp (by omega)
    have := List.filter_eq_nil_iff.mp h0 k hk
    simpa using this
  · intro h
    have : (ks.filter fun k => !p k) = [] := List.filter_eq_nil_iff.mpr fun k hk => by simp [h k hk]
    rw [this]; rfl
theorem none_of {f : MF} {ks : List Kd} {p : Kd → Bool} (h6 : ks.length ≤ 6) {x : W} (hx : x = .d (.tuple [.str "tuple", .tuple (ks.map Kd.d)])) (h : ∀ k ∈ ks, f [.d k.d] S = some (.d (.bool (p k)), S)) :
    eOp (oEq false) (eCall bLen (aCons (eLc (iTupM (eOp oIx (eVar 0) (eC (.int (1))))) [1] (gN 1) (eNot (eB (eCall f (aCons (eVar 1) aNil)))) (eVar 1) mkF) aNil)) (eC (.int (0))) [some x, none] S = some (.d (.bool (ks.all p)), S) := by
  subst hx
  have e1 : eLc (iTupM (eOp oIx (eVar 0) (eC (.int (1))))) [1] (gN 1) (eNot (eB (eCall f (aCons (eVar 1) aNil)))) (eVar 1) mkF [some (.d (.tuple [.str "tuple", .tuple (ks.map Kd.d)])), none] S = some (.d (.list ((ks.filter fun k => !p k).map Kd.d)), S) := by
    refine v_lc (v_itup (ds := ks.map Kd.d) (by rfl)) (S2 := S) (us := (ks.filter fun k => !p k).map fun k => W.d k.d) ?_ ?_
    · rw [List.map_map]
      exact lcM_mapIf fun k hk => ⟨_, rfl, v_not (v_b (h k hk)), rfl⟩
    · rw [show ((ks.filter fun k => !p k).map fun k => W.d k.d) = ((ks.filter fun k => !p k).map Kd.d).map W.d by rw [List.map_map]; rfl]
      exact mkF_d (small6 (by rw [List.length_map]; exact Nat.le_trans (List.length_filter_le _ _) h6))
  refine v_op (v_call (v_cons e1 rfl) (by rfl)) (by rfl) ?_
  rw [← filt_none, List.length_map, List.length_map]
  exact oEq_d (n := false) (eqP_int _ _)
theorem lplain_ok : ∀ (n : Nat) (k : Kd), k.wf → k.dep ≤ n → m_law_plain n [.d k.d] S = some (.d (.bool k.plain), S)
  | 0, k, _, h => absurd (Nat.le_trans (dep_pos k) h) (by decide)
  | n + 1, .base x, _, h => by
    match x with
    | 0 => rfl
    | 1 => rfl
    | 2 => rfl
  | n + 1, .node, _, h => by rfl
  | n + 1, .sh k, _, h => by rfl
  | n + 1, .ex k, _, h => by rfl
  | n + 1, .task k, _, h => by rfl
  | n + 1, .box k, w, h => by
    refine v_def rfl (v_nx (v_ifF (by rfl) (by rfl)) (v_rt (v_ifT (by rfl) (v_ret (v_call (v_cons (by rfl) rfl) (lplain_ok n k ?_ (dle h))))))) rfl
    simpa [Kd.wf] using w
  | n + 1, .maybe k, w, h => by
    refine v_def rfl (v_nx (v_ifF (by rfl) (by rfl)) (v_rt (v_ifT (by rfl) (v_ret (v_call (v_cons (by rfl) rfl) (lplain_ok n k ?_ (dle h))))))) rfl
    simpa [Kd.wf] using w
  | n + 1, .tup ks, w, h => by
    simp only [Kd.wf] at w
    refine v_def rfl (v_nx (v_ifF (by rfl) (by rfl)) (v_nx (v_ifF (by rfl) (by rfl)) (v_rt (v_ifT (by rfl) (v_ret (w := .d (.bool (Kd.plains ks))) (S1 := S) ?_))))) rfl
    rw [plains_all]
    exact none_of w.1.2 (by simp only [Kd.d, ds_map]) fun k hk => lplain_ok n k (wf_mem w.2 hk) (Nat.le_trans (dep_mem hk) (Nat.le_of_succ_le_succ h))
theorem lcopy_ok : ∀ (n : Nat) (k : Kd), k.wf → k.dep ≤ n → m_law_copy n [.d k.d] S = some (.d (.bool k.copy), S)
  | 0, k, _, h => absurd (Nat.le_trans (dep_pos k) h) (by decide)
  | n + 1, .base x, _, h => by
    match x with
    | 0 => rfl
    | 1 => rfl
    | 2 => rfl
  | n + 1, .node, _, h => by rfl
  | n + 1, .sh k, _, h => by rfl
  | n + 1, .ex k, _, h => by rfl
  | n + 1, .task k, _, h => by rfl
  | n + 1, .box k, w, h => by rfl
  | n + 1, .maybe k, w, h => by
    refine v_def rfl (v_rt (v_ifT (by rfl) (v_ret (v_call (v_cons (by rfl) rfl) (lcopy_ok n k ?_ (dle h)))))) rfl
    simpa [Kd.wf] using w
  | n + 1, .tup ks, w, h => by
    simp only [Kd.wf] at w
    refine v_def rfl (v_nx (v_ifF (by rfl) (by rfl)) (v_rt (v_ifT (by rfl) (v_ret (w := .d (.bool (Kd.copys ks))) (S1 := S) ?_)))) rfl
    rw [copys_all]
    exact none_of w.1.2 (by simp only [Kd.d, ds_map]) fun k hk => lcopy_ok n k (wf_mem w.2 hk) (Nat.le_trans (dep_mem hk) (Nat.le_of_succ_le_succ h))
/-! ### levels -/
theorem maxI_deps : ∀ {ks : List Kd}, ks ≠ [] → maxI (ks.map fun k => (k.dep : Int)) = (Kd.deps ks : Int)
  | [], h => absurd rfl h
  | [k], _ => by simp [maxI, Kd.deps]
  | k :: j :: r, _ => by
    have ih := maxI_deps (ks := j :: r) (by simp)
    show max (k.dep : Int) (maxI ((j :: r).map fun k => (k.dep : Int))) = _
    rw [ih]
    show max (k.dep : Int) _ = ((max k.dep (Kd.deps (j :: r)) : Nat) : Int)
    omega
theorem intsOf_map : ∀ ns : List Int, intsOf (ns.map fun i => W.d (.int i)) = some ns
  | [] => rfl
  | n :: ns => by
    show (intsOf (ns.map fun i => W.d (.int i))).map _ = _
    rw [intsOf_map ns]; rfl
theorem mapd (ks : List Kd) (f : Kd → PyData) : (ks.map fun k => W.d (f k)) = (ks.map f).map W.d := by rw [List.map_map]; rfl
theorem iS {i j : Int} (h : i = j) : some (W.d (.int i), S) = some (W.d (.int j), S) := by rw [h]
theorem levels_ok : ∀ (n : Nat) (k : Kd), k.wf → k.dep ≤ n → m_levels n [.d k.d] S = some (.d (.int (k.dep : Int)), S)
  | 0, k, _, h => absurd (Nat.le_trans (dep_pos k) h) (by decide)
  | n + 1, .base x, _, h => by
    match x with
    | 0 => rfl
    | 1 => rfl
    | 2 => rfl
  | n + 1, .node, _, h => by rfl
  | n + 1, .sh k, w, h => lev1 n k (by rfl) (by rfl) (levels_ok n k (by simpa [Kd.wf] using w) (dle h))
  | n + 1, .ex k, w, h => lev1 n k (by rfl) (by rfl) (levels_ok n k (by simpa [Kd.wf] using w) (dle h))
  | n + 1, .task k, w, h => lev1 n k (by rfl) (by rfl) (levels_ok n k (by simpa [Kd.wf] using w) (dle h))
  | n + 1, .box k, w, h => lev1 n k (by rfl) (by rfl) (levels_ok n k (by simpa [Kd.wf] using w) (dle h))
  | n + 1, .maybe k, w, h => lev1 n k (by rfl) (by rfl) (levels_ok n k (by simpa [Kd.wf] using w) (dle h))
  | n + 1, .tup ks, w, h => by
    simp only [Kd.wf] at w
    have hne : ks ≠ [] := by rintro rfl; simp at w
    have e1 : eLc (iTupM (eCall m_kinds_inside (aCons (eVar 0) aNil))) [1] (gN 1) tYesM (eCall (m_levels n) (aCons (eVar 1) aNil)) mkF [some (.d (Kd.tup ks).d), none] S = some (.d (.list (ks.map fun k => .int (k.dep : Int))), S) := by
      refine v_lc (v_itup (ds := Kd.ds ks) (by rfl)) (S2 := S) (us := ks.map fun k => W.d (.int (k.dep : Int))) ?_ ?_
      · rw [ds_map, List.map_map]
        exact lcM_map fun k hk => ⟨_, rfl, levels_ok n k (wf_mem w.2 hk) (Nat.le_trans (dep_mem hk) (Nat.le_of_succ_le_succ h))⟩
      · rw [mapd ks fun k => .int (k.dep : Int)]
        exact mkF_d (small6 (by rw [List.length_map]; exact w.1.2))
    refine v_def rfl (v_ret (w := .d (.int ((Kd.tup ks).dep : Int))) (S1 := S) (v_op (by rfl) (y := .d (.int (Kd.deps ks : Int))) (S2 := S) ?_ ?_)) rfl
    · refine v_callK (v_cons e1 rfl) (v_cons rfl rfl) ?_
      show (intsOf ((ks.map fun k => PyData.int (k.dep : Int)).map W.d)).bind _ = _
      rw [show ((ks.map fun k => PyData.int (k.dep : Int)).map W.d) = ((ks.map fun k => (k.dep : Int)).map fun i => W.d (.int i)) by rw [List.map_map, List.map_map]; rfl, intsOf_map]
      simp only [Option.bind_some]
      rw [if_neg (by cases ks with | nil => exact absurd rfl hne | cons a b => simp), maxI_deps hne]
    · exact iS (by simp only [Kd.dep]; omega)
where
  lev1 (n : Nat) (k : Kd) {k2 : Kd} (h1 : m_kinds_inside [.d k2.d] S = some (.d (.tuple [k.d]), S)) (h2 : k2.dep = k.dep + 1) (ih : m_levels n [.d k.d] S = some (.d (.int (k.dep : Int)), S)) : m_levels (n + 1) [.d k2.d] S = some (.d (.int (k2.dep : Int)), S) := by
    have e1 : eLc (iTupM (eCall m_kinds_inside (aCons (eVar 0) aNil))) [1] (gN 1) tYesM (eCall (m_levels n) (aCons (eVar 1) aNil)) mkF [some (.d k2.d), none] S = some (.d (.list [.int (k.dep : Int)]), S) := by
      refine v_lc (v_itup (ds := [k.d]) (v_call (v_cons (by rfl) rfl) h1)) (S2 := S) (us := [W.d (.int (k.dep : Int))]) ?_ mkF_1
      exact lcM_one (g := gN 1) (e := eCall (m_levels n) (aCons (eVar 1) aNil)) ⟨_, rfl, ih⟩
    refine v_def rfl (v_ret (w := .d (.int (k2.dep : Int))) (S1 := S) (v_op (by rfl) (y := .d (.int (k.dep : Int))) (S2 := S) ?_ ?_)) rfl
    · exact v_callK (v_cons e1 rfl) (v_cons rfl rfl) (by rfl)
    · exact iS (by rw [h2]; omega)
theorem llev_ok : ∀ (n : Nat) (k : Kd), k.wf → k.dep ≤ n → m_law_levels n [.d k.d] S = some (.d (.int (k.dep : Int)), S)
  | 0, k, _, h => absurd (Nat.le_trans (dep_pos k) h) (by decide)
  | n + 1, .base x, _, h => by
    match x with
    | 0 => rfl
    | 1 => rfl
    | 2 => rfl
  | n + 1, .node, _, h => by rfl
  | n + 1, .sh k, w, h => by
    refine v_def rfl (v_nx (v_ifF (by rfl) (by rfl)) (v_rt (v_ifT (by rfl) (v_ret (v_op (by rfl) (v_call (v_cons (by rfl) rfl) (llev_ok n k (by simpa [Kd.wf] using w) (dle h))) (by rfl)))))) ?_
    exact iS (by simp only [Kd.dep]; omega)
  | n + 1, .ex k, w, h => by
    refine v_def rfl (v_nx (v_ifF (by rfl) (by rfl)) (v_rt (v_ifT (by rfl) (v_ret (v_op (by rfl) (v_call (v_cons (by rfl) rfl) (llev_ok n k (by simpa [Kd.wf] using w) (dle h))) (by rfl)))))) ?_
    exact iS (by simp only [Kd.dep]; omega)
  | n + 1, .task k, w, h => by
    refine v_def rfl (v_nx (v_ifF (by rfl) (by rfl)) (v_rt (v_ifT (by rfl) (v_ret (v_op (by rfl) (v_call (v_cons (by rfl) rfl) (llev_ok n k (by simpa [Kd.wf] using w) (dle h))) (by rfl)))))) ?_
    exact iS (by simp only [Kd.dep]; omega)
  | n + 1, .box k, w, h => by
    refine v_def rfl (v_nx (v_ifF (by rfl) (by rfl)) (v_rt (v_ifT (by rfl) (v_ret (v_op (by rfl) (v_call (v_cons (by rfl) rfl) (llev_ok n k (by simpa [Kd.wf] using w) (dle h))) (by rfl)))))) ?_
    exact iS (by simp only [Kd.dep]; omega)
  | n + 1, .maybe k, w, h => by
    refine v_def rfl (v_nx (v_ifF (by rfl) (by rfl)) (v_rt (v_ifT (by rfl) (v_ret (v_op (by rfl) (v_call (v_cons (by rfl) rfl) (llev_ok n k (by simpa [Kd.wf] using w) (dle h))) (by rfl)))))) ?_
    exact iS (by simp only [Kd.dep]; omega)
  | n + 1, .tup ks, w, h => by
    simp only [Kd.wf] at w
    have hne : ks ≠ [] := by rintro rfl; simp at w
    have e1 : eLc (iTupM (eOp oIx (eVar 0) (eC (.int (1))))) [1] (gN 1) tYesM (eCall (m_law_levels n) (aCons (eVar 1) aNil)) mkF [some (.d (Kd.tup ks).d), none] S = some (.d (.list (ks.map fun k => .int (k.dep : Int))), S) := by
      refine v_lc (v_itup (ds := Kd.ds ks) (by rfl)) (S2 := S) (us := ks.map fun k => W.d (.int (k.dep : Int))) ?_ ?_
      · rw [ds_map, List.map_map]
        exact lcM_map fun k hk => ⟨_, rfl, llev_ok n k (wf_mem w.2 hk) (Nat.le_trans (dep_mem hk) (Nat.le_of_succ_le_succ h))⟩
      · rw [mapd ks fun k => .int (k.dep : Int)]
        exact mkF_d (small6 (by rw [List.length_map]; exact w.1.2))
    refine v_def rfl (v_rt (v_ifT (by rfl) (v_ret (w := .d (.int ((Kd.tup ks).dep : Int))) (S1 := S) (v_op (by rfl) (y := .d (.int (Kd.deps ks : Int))) (S2 := S) (v_call (v_cons e1 rfl) ?_) ?_)))) rfl
    · show (intsOf ((ks.map fun k => PyData.int (k.dep : Int)).map W.d)).bind _ = _
      rw [show ((ks.map fun k => PyData.int (k.dep : Int)).map W.d) = ((ks.map fun k => (k.dep : Int)).map fun i => W.d (.int i)) by rw [List.map_map, List.map_map]; rfl, intsOf_map]
      simp only [Option.bind_some]
      rw [if_neg (by cases ks with | nil => exact absurd rfl hne | cons a b => simp), maxI_deps hne]
    · exact iS (by simp only [Kd.dep]; omega)
end
end k01
namespace k01
open PySem L2 Pd
/-! ### leaves -/
theorem lvss_app : ∀ (i : Nat) (a b : List Kd), Kd.lvss i (a ++ b) = Kd.lvss i a ++ Kd.lvss (i + a.length) b
  | i, [], b => by simp [Kd.lvss]
  | i, k :: a, b => by
    simp only [List.cons_append, Kd.lvss, lvss_app (i + 1) a b, List.append_assoc, List.length_cons]
    rw [show i + 1 + a.length = i + (a.length + 1) by omega]
theorem pow_le {a b : Nat} (h : a ≤ b) : 6 ^ a ≤ 6 ^ b := Nat.pow_le_pow_right (by decide) h
mutual
theorem lvs_len : ∀ (k : Kd), k.wf → k.lvs.length ≤ 6 ^ k.dep
  | .base _, _ => by simp [Kd.lvs]
  | .node, _ => by simp [Kd.lvs]
  | .box _, _ => by simp [Kd.lvs]
  | .maybe k, w => by
    have := lvs_len k (by simpa [Kd.wf] using w)
    simp only [Kd.lvs, List.length_map, Kd.dep]
    exact Nat.le_trans this (pow_le (Nat.le_succ _))
  | .sh k, _ => by simp only [Kd.lvs, List.length_cons, List.length_nil]; exact Nat.one_le_pow _ _ (by decide)
  | .ex k, _ => by simp only [Kd.lvs, List.length_cons, List.length_nil]; exact Nat.one_le_pow _ _ (by decide)
  | .task k, _ => by simp only [Kd.lvs, List.length_cons, List.length_nil]; exact Nat.one_le_pow _ _ (by decide)
  | .tup ks, w => by
    simp only [Kd.wf] at w
    have := lvss_len 0 ks w.2
    simp only [Kd.lvs, Kd.dep, Nat.pow_succ]
    rw [Nat.mul_comm]
    exact Nat.le_trans this (Nat.mul_le_mul_right _ w.1.2)
theorem lvss_len : ∀ (i : Nat) (ks : List Kd), Kd.wfs ks → (Kd.lvss i ks).length ≤ ks.length * 6 ^ Kd.deps ks
  | i, [], _ => by simp [Kd.lvss]
  | i, k :: ks, w => by
    simp only [Kd.wfs] at w
    have h1 := lvs_len k w.1
    have h2 := lvss_len (i + 1) ks w.2
    simp only [Kd.lvss, List.length_append, List.length_map, List.length_cons, Kd.deps]
    have h3 : 6 ^ k.dep ≤ 6 ^ max k.dep (Kd.deps ks) := pow_le (Nat.le_max_left _ _)
    have h4 : ks.length * 6 ^ Kd.deps ks ≤ ks.length * 6 ^ max k.dep (Kd.deps ks) := Nat.mul_le_mul_left _ (pow_le (Nat.le_max_right _ _))
    rw [Nat.add_mul, Nat.one_mul]
    omega
end
mutual
theorem lvs_dep : ∀ (k : Kd) (p : List PyData), p ∈ k.lvs → p.length ≤ k.dep ∧ ∀ x ∈ p, x = .str "?" ∨ ∃ i : Int, x = .int i
  | .base _, p, h => by simp [Kd.lvs] at h
  | .node, p, h => by simp [Kd.lvs] at h
  | .box _, p, h => by simp [Kd.lvs] at h
  | .maybe k, p, h => by
    simp only [Kd.lvs, List.mem_map] at h
    obtain ⟨q, hq, rfl⟩ := h
    have ⟨h1, h2⟩ := lvs_dep k q hq
    refine ⟨by simp only [List.length_cons, Kd.dep]; omega, fun x hx => ?_⟩
    rcases List.mem_cons.mp hx with rfl | hx
    · exact .inl rfl
    · exact h2 x hx
  | .sh k, p, h => by simp [Kd.lvs] at h; subst h; exact ⟨Nat.zero_le _, fun x hx => by cases hx⟩
  | .ex k, p, h => by simp [Kd.lvs] at h; subst h; exact ⟨Nat.zero_le _, fun x hx => by cases hx⟩
  | .task k, p, h => by simp [Kd.lvs] at h; subst h; exact ⟨Nat.zero_le _, fun x hx => by cases hx⟩
  | .tup ks, p, h => by
    simp only [Kd.lvs] at h
    have ⟨h1, h2⟩ := lvss_dep 0 ks p h
    exact ⟨by simp only [Kd.dep]; exact h1, h2⟩
theorem lvss_dep : ∀ (i : Nat) (ks : List Kd) (p : List PyData), p ∈ Kd.lvss i ks → p.length ≤ Kd.deps ks + 1 ∧ ∀ x ∈ p, x = .str "?" ∨ ∃ i : Int, x = .int i
  | i, [], p, h => by simp [Kd.lvss] at h
  | i, k :: ks, p, h => by
    simp only [Kd.lvss, List.mem_append, List.mem_map] at h
    rcases h with ⟨q, hq, rfl⟩ | h
    · have ⟨h1, h2⟩ := lvs_dep k q hq
      refine ⟨by simp only [List.length_cons, Kd.deps]; omega, fun x hx => ?_⟩
      rcases List.mem_cons.mp hx with rfl | hx
      · exact .inr ⟨_, rfl⟩
      · exact h2 x hx
    · have ⟨h1, h2⟩ := lvss_dep (i + 1) ks p h
      exact ⟨by simp only [Kd.deps]; omega, h2⟩
end
def tupD (ps : List (List PyData)) : List PyData := ps.map PyData.tuple
theorem tupD_w (ps : List (List PyData)) : (tupD ps).map W.d = ps.map fun p => W.d (.tuple p) := by unfold tupD; rw [List.map_map]; rfl
theorem lvs_small {k : Kd} (w : k.wf) (h : k.dep ≤ 6) : k.lvs.length ≤ sizeLine :=
  Nat.le_trans (lvs_len k w) (Nat.le_trans (pow_le h) (by decide))
theorem tupD_small {k : Kd} (w : k.wf) (h : k.dep ≤ 6) : (tupD k.lvs).length ≤ sizeLine := by unfold tupD; rw [List.length_map]; exact lvs_small w h
theorem bTuple_l {S : Mem} {ds : List PyData} : bTuple [.d (.list ds)] S = some (.d (.tuple ds), S) := by
  show (dOf (ds.map W.d)).bind _ = _
  rw [dOf_map]; rfl
theorem plusT {S : Mem} {x : PyData} {p : List PyData} (h : p.length ≤ 6) : oPlus false (.d (.tuple [x])) (.d (.tuple p)) S = some (.d (.tuple (x :: p)), S) := by
  show (if [x].length + p.length ≤ sizeLine then _ else _) = _
  rw [if_pos (show [x].length + p.length ≤ sizeLine from small6' h)]; rfl
where small6' {n : Nat} (h : n ≤ 6) : 1 + n ≤ sizeLine := Nat.le_trans (Nat.add_le_add_left h 1) (by decide)
theorem lc2_gen {S : Mem} {ks : List Kd} {g : MG} {mi1 : MI} {vs1 : List Nat} {g1 : MG} {e : ME} {ρ : Env'}
    (hx : ∀ (i : Nat) (k : Kd), ks[i]? = some k → ∃ ρ1, g (.d (.tuple [.int (i : Int), k.d])) ρ S = some (ρ1, S) ∧ mi1 ρ1 S = some (.vals (k.lvs.map fun p => W.d (.tuple p)), S) ∧ ∀ p ∈ k.lvs, ∃ ρ2, g1 (.d (.tuple p)) (wipeE ρ1 vs1) S = some (ρ2, S) ∧ e ρ2 S = some (.d (.tuple (.int (i : Int) :: p)), S)) :
    ∀ (rest : List Kd) (i : Nat), i + rest.length = ks.length → ks.drop i = rest → lc2M (.vals (numW (Kd.ds ks))) g tYesM mi1 vs1 g1 tYesM e rest.length i ρ S = some ((Kd.lvss i rest).map fun p => W.d (.tuple p), S) := by
  intro rest
  have hlen : (numW (Kd.ds ks)).length = ks.length := by rw [numW_length, ds_map, List.length_map]
  induction rest with
  | nil =>
    intro i hi hd
    unfold lc2M
    have : (Itm.vals (numW (Kd.ds ks))).at_ S i = some none := by show some (numW (Kd.ds ks))[i]? = _; rw [List.getElem?_eq_none_iff.mpr (by rw [hlen]; simp at hi; omega)]
    simp only [this, Kd.lvss, List.map_nil]
  | cons k rest ih =>
    intro i hi hd
    have hlt : i < ks.length := by simp at hi; omega
    have hk : ks[i]? = some k := by
      have := List.drop_eq_getElem_cons hlt
      rw [hd] at this
      rw [List.getElem?_eq_getElem hlt, (List.cons.inj this).1]
    have hd' : ks.drop (i + 1) = rest := by
      have := List.drop_eq_getElem_cons hlt
      rw [hd] at this
      exact (List.cons.inj this).2.symm
    have ih' := ih (i + 1) (by simp at hi ⊢; omega) hd'
    obtain ⟨ρ1, q1, q2, q3⟩ := hx i k hk
    have ha : (Itm.vals (numW (Kd.ds ks))).at_ S i = some (some (.d (.tuple [.int (i : Int), k.d]))) := by
      show some (numW (Kd.ds ks))[i]? = _
      have hlt' : i < (numW (Kd.ds ks)).length := by rw [hlen]; exact hlt
      obtain ⟨d, e1, e2⟩ := numW_get (List.getElem?_eq_getElem hlt')
      rw [List.getElem?_eq_getElem hlt', e2]
      rw [ds_map, List.getElem?_map, hk] at e1
      cases e1
      rfl
    show lc2M _ _ _ _ _ _ _ _ (rest.length + 1) _ _ _ = _
    unfold lc2M
    have h4 := lcM_map (g := g1) (e := e) (ρ := wipeE ρ1 vs1) (S := S) (xs := k.lvs) (h := fun p => W.d (.tuple p)) (u := fun p => W.d (.tuple (.int (i : Int) :: p))) q3
    have ty : tYesM ρ1 S = some (true, S) := rfl
    simp only [ha, q1, ty, q2, Option.bind_some, if_true]
    rw [h4]
    simp only [Option.bind_some, ih', Kd.lvss, List.map_append, List.map_map]
    rfl
section
variable {S : Mem}
theorem leaves_ok : ∀ (n : Nat) (k : Kd), k.wf → k.dep ≤ n → k.dep ≤ 6 → m_leaves n [.d k.d] S = some (.d (.tuple (tupD k.lvs)), S)
  | 0, k, _, h, _ => absurd (Nat.le_trans (dep_pos k) h) (by decide)
  | n + 1, .base x, _, h, _ => by
    match x with
    | 0 => rfl
    | 1 => rfl
    | 2 => rfl
  | n + 1, .node, _, h, _ => by rfl
  | n + 1, .sh k, _, h, _ => by rfl
  | n + 1, .ex k, _, h, _ => by rfl
  | n + 1, .task k, _, h, _ => by rfl
  | n + 1, .box k, _, h, _ => by rfl
  | n + 1, .maybe k, w, h, h6 => by
    have w' : k.wf := by simpa [Kd.wf] using w
    have ih := leaves_ok n k w' (dle h) (Nat.le_trans (Nat.le_succ _) h6)
    have e1 : eLc (iTupM (eCall (m_leaves n) (aCons (eOp oIx (eVar 0) (eC (.int (1)))) aNil))) [1] (gN 1) tYesM (eOp (oPlus false) (eTup (aCons (eC (.str "?")) aNil)) (eVar 1)) mkF [some (.d (Kd.maybe k).d), none, none, none] S = some (.d (.list (tupD (Kd.maybe k).lvs)), S) := by
      refine v_lc (v_itup (v_call (v_cons (by rfl) rfl) ih)) (S2 := S) (us := k.lvs.map fun p => W.d (.tuple (.str "?" :: p))) ?_ ?_
      · rw [tupD_w]
        exact lcM_map fun p hp => ⟨_, rfl, v_op (v_tup (v_cons (by rfl) rfl) mkT_1) (by rfl) (plusT (Nat.le_trans (lvs_dep k p hp).1 (Nat.le_trans (Nat.le_succ _) h6)))⟩
      · rw [show (k.lvs.map fun p => W.d (.tuple (.str "?" :: p))) = (tupD (Kd.maybe k).lvs).map W.d by rw [tupD_w]; simp only [Kd.lvs, List.map_map]; rfl]
        exact mkF_d (tupD_small w h6)
    refine v_def rfl (v_nx (v_ifF (by rfl) (by rfl)) (v_rt (v_ifT (by rfl) (v_ret (v_call (v_cons e1 rfl) bTuple_l))))) rfl
  | n + 1, .tup ks, w, h, h6 => by
    have w0 := w
    simp only [Kd.wf] at w
    have e1 : eLc2 (iEnumM (aCons (eOp oIx (eVar 0) (eC (.int (1)))) aNil)) [2, 3, 1] (gTup' (gsCons (gN 2) (gsCons (gN 3) gsNil))) tYesM (iTupM (eCall (m_leaves n) (aCons (eVar 3) aNil))) [1] (gN 1) tYesM (eOp (oPlus false) (eTup (aCons (eVar 2) aNil)) (eVar 1)) mkF [some (.d (Kd.tup ks).d), none, none, none] S = some (.d (.list (tupD (Kd.tup ks).lvs)), S) := by
      have q := lc2_gen (S := S) (ks := ks) (g := gTup' (gsCons (gN 2) (gsCons (gN 3) gsNil))) (mi1 := iTupM (eCall (m_leaves n) (aCons (eVar 3) aNil))) (vs1 := [1]) (g1 := gN 1) (e := eOp (oPlus false) (eTup (aCons (eVar 2) aNil)) (eVar 1)) (ρ := [some (.d (Kd.tup ks).d), none, none, none]) (fun i k hk => by
        have hm := List.mem_of_getElem? hk
        have hd := Nat.le_trans (dep_mem hm) (Nat.le_of_succ_le_succ h)
        have hd6 : k.dep + 1 ≤ 6 := Nat.le_trans (Nat.succ_le_succ (dep_mem hm)) h6
        refine ⟨_, rfl, ?_, fun p hp => ⟨_, rfl, v_op (v_tup (v_cons (by rfl) rfl) mkT_1) (by rfl) (plusT (Nat.le_trans (lvs_dep k p hp).1 (Nat.le_trans (Nat.le_succ _) hd6)))⟩⟩
        rw [← tupD_w]
        exact v_itup (v_call (v_cons (by rfl) rfl) (leaves_ok n k (wf_mem w.2 hm) hd (Nat.le_trans (Nat.le_succ _) hd6)))) ks 0 (by simp) (by simp)
      unfold eLc2
      rw [show iEnumM (aCons (eOp oIx (eVar 0) (eC (.int (1)))) aNil) [some (.d (Kd.tup ks).d), none, none, none] S = some (.vals (numW (Kd.ds ks)), S) by rfl]
      simp only [Option.bind_some]
      rw [show (Itm.vals (numW (Kd.ds ks))).len S = ks.length by show (numW (Kd.ds ks)).length = _; rw [numW_length, ds_map, List.length_map]]
      rw [show wipeE [some (W.d (Kd.tup ks).d), none, none, none] [2, 3, 1] = [some (.d (Kd.tup ks).d), none, none, none] from rfl, q]
      simp only [Option.bind_some]
      rw [show ((Kd.lvss 0 ks).map fun p => W.d (.tuple p)) = (tupD (Kd.tup ks).lvs).map W.d by rw [tupD_w]; simp only [Kd.lvs]]
      exact mkF_d (tupD_small w0 h6)
    refine v_def rfl (v_nx (v_ifF (by rfl) (by rfl)) (v_nx (v_ifF (by rfl) (by rfl)) (v_rt (v_ifT (by rfl) (v_ret (v_call (v_cons e1 rfl) bTuple_l)))))) rfl
theorem appL {xs ys : List PyData} (h : xs.length + ys.length ≤ sizeLine) : oPlus false (.d (.list xs)) (.d (.list ys)) S = some (.d (.list (xs ++ ys)), S) := by
  show (if xs.length + ys.length ≤ sizeLine then _ else _) = _
  rw [if_pos h]; rfl
theorem lleaves_ok : ∀ (n : Nat) (k : Kd), k.wf → k.dep ≤ n → k.dep ≤ 6 → m_law_leaves n [.d k.d] S = some (.d (.list (tupD k.lvs)), S)
  | 0, k, _, h, _ => absurd (Nat.le_trans (dep_pos k) h) (by decide)
  | n + 1, .base x, _, h, _ => by
    match x with
    | 0 => rfl
    | 1 => rfl
    | 2 => rfl
  | n + 1, .node, _, h, _ => by rfl
  | n + 1, .sh k, _, h, _ => by rfl
  | n + 1, .ex k, _, h, _ => by rfl
  | n + 1, .task k, _, h, _ => by rfl
  | n + 1, .box k, _, h, _ => by rfl
  | n + 1, .maybe k, w, h, h6 => by
    have w' : k.wf := by simpa [Kd.wf] using w
    have ih := lleaves_ok n k w' (dle h) (Nat.le_trans (Nat.le_succ _) h6)
    have e1 : eLc (iLstM (eCall (m_law_leaves n) (aCons (eOp oIx (eVar 0) (eC (.int (1)))) aNil))) [3] (gN 3) tYesM (eOp (oPlus false) (eTup (aCons (eC (.str "?")) aNil)) (eVar 3)) mkF [some (.d (Kd.maybe k).d), some (.d (.list [])), none, none] S = some (.d (.list (tupD (Kd.maybe k).lvs)), S) := by
      refine v_lc (v_ilst (v_call (v_cons (by rfl) rfl) ih)) (S2 := S) (us := k.lvs.map fun p => W.d (.tuple (.str "?" :: p))) ?_ ?_
      · rw [tupD_w]
        exact lcM_map fun p hp => ⟨_, rfl, v_op (v_tup (v_cons (by rfl) rfl) mkT_1) (by rfl) (plusT (Nat.le_trans (lvs_dep k p hp).1 (Nat.le_trans (Nat.le_succ _) h6)))⟩
      · rw [show (k.lvs.map fun p => W.d (.tuple (.str "?" :: p))) = (tupD (Kd.maybe k).lvs).map W.d by rw [tupD_w]; simp only [Kd.lvs, List.map_map]; rfl]
        exact mkF_d (tupD_small w h6)
    refine v_def rfl (v_nx (v_ifF (by rfl) (by rfl)) (v_nx (v_asg (by rfl) (by rfl)) (v_nx (v_ifT (by rfl) (v_asg e1 (by rfl))) (v_nx (v_ifF (by rfl) (by rfl)) (v_ret (by rfl)))))) rfl
  | n + 1, .tup ks, w, h, h6 => by
    have w0 := w
    simp only [Kd.wf] at w
    let D : W := .d (Kd.tup ks).d
    let acc (i : Nat) : W := .d (.list (tupD (Kd.lvss 0 (ks.take i))))
    let body : MS := sAsg (eOp (oPlus false) (eVar 1) (eLc (iLstM (eCall (m_law_leaves n) (aCons (eOp oIx (eOp oIx (eVar 0) (eC (.int (1)))) (eVar 2)) aNil))) [3] (gN 3) tYesM (eOp (oPlus false) (eTup (aCons (eVar 2) aNil)) (eVar 3)) mkF)) (gN 1)
    let ws : List W := (List.range ks.length).map fun (j : Nat) => W.d (.int (0 + (j : Int)))
    have hws : ws.length = ks.length := by simp [ws]
    have key := forM_vals (g := gN 2) (b := body) (ws := ws) (fun i ρ S' => S = S' ∧ ∃ x2, ρ = [some D, some (acc i), x2, none]) (fun i v ρ S' hv hI => by
      obtain ⟨rfl, x2, rfl⟩ := hI
      have hlt : i < ks.length := by
        have := (List.getElem?_eq_some_iff.mp hv).1
        omega
      have hv' : v = .d (.int (i : Int)) := by
        simp only [ws] at hv
        rw [List.getElem?_map, List.getElem?_range hlt] at hv
        cases hv
        simp
      subst hv'
      have hk : ks[i]? = some ks[i] := List.getElem?_eq_getElem hlt
      have hm : ks[i] ∈ ks := List.getElem_mem hlt
      have hd := Nat.le_trans (dep_mem hm) (Nat.le_of_succ_le_succ h)
      have hd6 : ks[i].dep + 1 ≤ 6 := Nat.le_trans (Nat.succ_le_succ (dep_mem hm)) h6
      have ih := lleaves_ok n ks[i] (wf_mem w.2 hm) hd (Nat.le_trans (Nat.le_succ _) hd6)
      have eix : eOp oIx (eOp oIx (eVar 0) (eC (.int (1)))) (eVar 2) [some D, some (acc i), some (.d (.int (i : Int))), none] S = some (.d ks[i].d, S) := by
        refine v_op (x := .d (.tuple (Kd.ds ks))) (by rfl) (y := .d (.int (i : Int))) (by rfl) ?_
        rw [oIx_tup, atI_at (x := ks[i].d) (by rw [ds_map, List.getElem?_map, hk]; rfl)]
        rfl
      have e1 : eLc (iLstM (eCall (m_law_leaves n) (aCons (eOp oIx (eOp oIx (eVar 0) (eC (.int (1)))) (eVar 2)) aNil))) [3] (gN 3) tYesM (eOp (oPlus false) (eTup (aCons (eVar 2) aNil)) (eVar 3)) mkF [some D, some (acc i), some (.d (.int (i : Int))), none] S = some (.d (.list (tupD (ks[i].lvs.map fun p => .int (i : Int) :: p))), S) := by
        refine v_lc (v_ilst (v_call (v_cons eix rfl) ih)) (S2 := S) (us := ks[i].lvs.map fun p => W.d (.tuple (.int (i : Int) :: p))) ?_ ?_
        · rw [tupD_w]
          exact lcM_map fun p hp => ⟨_, rfl, v_op (v_tup (v_cons (by rfl) rfl) mkT_1) (by rfl) (plusT (Nat.le_trans (lvs_dep ks[i] p hp).1 (Nat.le_trans (Nat.le_succ _) hd6)))⟩
        · rw [show (ks[i].lvs.map fun p => W.d (.tuple (.int (i : Int) :: p))) = (tupD (ks[i].lvs.map fun p => .int (i : Int) :: p)).map W.d by rw [tupD_w, List.map_map]; rfl]
          exact mkF_d (by unfold tupD; rw [List.length_map, List.length_map]; exact lvs_small (wf_mem w.2 hm) (Nat.le_trans (Nat.le_succ _) hd6))
      have hsum : Kd.lvss 0 (ks.take (i + 1)) = Kd.lvss 0 (ks.take i) ++ ks[i].lvs.map fun p => .int (i : Int) :: p := by
        rw [List.take_succ_eq_append_getElem hlt, lvss_app]
        simp only [Kd.lvss, List.append_nil, Nat.zero_add]
        rw [List.length_take_of_le (Nat.le_of_lt hlt)]
      have hle : (tupD (Kd.lvss 0 (ks.take i))).length + (tupD (ks[i].lvs.map fun p => .int (i : Int) :: p)).length ≤ sizeLine := by
        have hq : (Kd.lvss 0 ks).length ≤ sizeLine := by
          have := lvs_small w0 h6
          simpa only [Kd.lvs] using this
        have hr := lvss_app 0 (ks.take (i + 1)) (ks.drop (i + 1))
        rw [List.take_append_drop] at hr
        have hr' := congrArg List.length hr
        rw [List.length_append, hsum, List.length_append] at hr'
        unfold tupD
        rw [List.length_map, List.length_map]
        omega
      refine ⟨_, S, _, S, rfl, v_asg (v_op (by rfl) e1 (appL hle)) (by rfl), rfl, ?_, ?_⟩
      · exact some (.d (.int (i : Int)))
      · show [some D, some (W.d (.list (tupD (Kd.lvss 0 (ks.take i)) ++ tupD (ks[i].lvs.map fun p => .int (i : Int) :: p)))), _, _] = _
        simp only [acc, hsum]
        unfold tupD
        rw [List.map_append]) ws.length 0 [some D, some (acc 0), none, none] S (by omega) (Nat.zero_le _) ⟨rfl, none, by simp [acc, Kd.lvss]⟩
    obtain ⟨ρ', S', e2, rfl, x2, rfl⟩ := key
    have efor : sFor (iRng1M (aCons (eCall bLen (aCons (eOp oIx (eVar 0) (eC (.int (1)))) aNil)) aNil)) (gN 2) body [some D, some (acc 0), none, none] S = some (.nx, [some D, some (acc ws.length), x2, none], S) := by
      have el : eCall bLen (aCons (eOp oIx (eVar 0) (eC (.int (1)))) aNil) [some D, some (acc 0), none, none] S = some (.d (.int (ks.length : Int)), S) := by
        refine v_call (ws := [.d (.tuple (Kd.ds ks))]) (S1 := S) (v_cons (by rfl) rfl) ?_
        show some (W.d (.int (((Kd.ds ks).map W.d).length : Int)), S) = _
        rw [ds_map, List.length_map, List.length_map]
      refine v_for (v_rng1 (S1 := S) (i := (ks.length : Int)) (v_cons el rfl) (by omega) (by have := w.1.2; omega)) ?_
      · exact e2
    rw [hws] at efor
    have hacc : acc ks.length = .d (.list (tupD (Kd.tup ks).lvs)) := by simp only [acc, Kd.lvs, List.take_length]
    rw [hacc] at efor
    refine v_def rfl (v_nx (v_ifF (by rfl) (by rfl)) (v_nx (v_asg (by rfl) (by rfl)) (v_nx (v_ifF (by rfl) (by rfl)) (v_nx (v_ifT (by rfl) efor) (v_ret (by rfl)))))) rfl
end
theorem canAll {xs : List PyData} (h : ∀ x ∈ xs, x.canLay0 = true) : PyData.canLayAll0 xs = true := by
  induction xs with
  | nil => rfl
  | cons x xs ih => rw [PyData.canLayAll0, h x List.mem_cons_self, ih fun y hy => h y (List.mem_cons_of_mem _ hy)]; rfl
theorem depAll {n : Nat} {xs : List PyData} (h : ∀ x ∈ xs, x.depth ≤ n) : PyData.depthAll xs ≤ n := by
  induction xs with
  | nil => exact Nat.zero_le _
  | cons x xs ih => rw [PyData.depthAll]; exact Nat.max_le.mpr ⟨h x List.mem_cons_self, ih fun y hy => h y (List.mem_cons_of_mem _ hy)⟩
theorem lvs_eq (k : Kd) : eqP (.tuple (tupD k.lvs)) (.tuple (tupD k.lvs)) = some true := by
  have hc : (PyData.tuple (tupD k.lvs)).canLay0 = true := by
    rw [PyData.canLay0]
    refine canAll fun x hx => ?_
    obtain ⟨p, hp, rfl⟩ := List.mem_map.mp hx
    rw [PyData.canLay0]
    refine canAll fun y hy => ?_
    rcases (lvs_dep k p hp).2 y hy with rfl | ⟨i, rfl⟩
    · rw [PyData.canLay0]; decide +kernel
    · rfl
  have hd : (PyData.tuple (tupD k.lvs)).depth ≤ 64 := by
    rw [PyData.depth]
    refine Nat.le_trans (Nat.succ_le_succ (depAll (n := 1) fun x hx => ?_)) (by decide)
    obtain ⟨p, hp, rfl⟩ := List.mem_map.mp hx
    rw [PyData.depth]
    refine Nat.succ_le_succ (depAll (n := 0) fun y hy => ?_)
    rcases (lvs_dep k p hp).2 y hy with rfl | ⟨i, rfl⟩
    · exact Nat.le_refl _
    · exact Nat.le_refl _
  have hs : SeqAt.shaped (PyData.tuple (tupD k.lvs)) = true := by
    unfold SeqAt.shaped
    rw [hc, decide_eq_true hd]; rfl
  show (if false = true then _ else if _ ∧ _ then _ else _) = _
  rw [if_neg Bool.false_ne_true, if_pos ⟨hs, hs⟩, SeqAt.eqv_refl _ hc]
end k01
namespace k01
open PySem L2 Pd
section
variable {S : Mem}
theorem oMod_p {i j : Int} (h : 0 < j) : oMod (.d (.int i)) (.d (.int j)) S = some (.d (.int (i % j)), S) := by
  show ((if decide (0 < j) = true then some (PyData.int (i % j)) else none).map _) = _
  rw [if_pos (decide_eq_true h)]; rfl
theorem oDiv_p {i j : Int} (h : 0 < j ∧ j.natAbs.log2 < 9000) : oDiv (.d (.int i)) (.d (.int j)) S = some (.d (.int (i / j)), S) := by
  show ((if decide (0 < j ∧ j.natAbs.log2 < 9000) = true then some (PyData.int (i / j)) else none).map _) = _
  rw [if_pos (decide_eq_true h)]; rfl
theorem oMul_p {i j : Int} (h : -(2 ^ 64) < j ∧ j < 2 ^ 64) : oMul (.d (.int i)) (.d (.int j)) S = some (.d (.int (i * j)), S) := by
  show ((if decide _ = true then some (PyData.int (i * j)) else none).map _) = _
  rw [if_pos (decide_eq_true (.inl (.inr h)))]; rfl
end
/-! ### the tape -/
def iW (i : Int) : W := .d (.int i)
def TS (nums : List Int) (at_ tot : Int) : Mem := [.lst (nums.map iW), .lst [.d (.int at_), .loc 0, .d (.int tot)]]
theorem ts_lt (nums : List Int) (a t : Int) : (TS nums a t).all (obLt (TS nums a t).length) = true := by
  show (((nums.map iW).all (wLt 2)) && _) = true
  rw [show (nums.map iW).all (wLt 2) = true by rw [List.all_map]; exact List.all_eq_true.mpr fun _ _ => rfl]
  rfl
theorem next_ok (nums : List Int) (a t m : Int) (h0 : 0 ≤ a) (hm : 0 < m) : ∃ v, 0 ≤ v ∧ v < m ∧ m_law_next [.loc 1, .d (.int m)] (TS nums a t) = some (.d (.int v), TS nums (a + 1) t) := by
  have e0 : sAsg (eOp oIx (eVar 0) (eC (.int (0)))) (gN 2) [some (.loc 1), some (.d (.int m)), none] (TS nums a t) = some (.nx, [some (.loc 1), some (.d (.int m)), some (.d (.int a))], TS nums a t) := by rfl
  have e1 : sAsg (eOp (oPlus false) (eVar 2) (eC (.int (1)))) (gIx (eVar 0) (eC (.int (0)))) [some (.loc 1), some (.d (.int m)), some (.d (.int a))] (TS nums a t) = some (.nx, [some (.loc 1), some (.d (.int m)), some (.d (.int a))], TS nums (a + 1) t) := by rfl
  have e2 : eB (eOp oLt (eVar 2) (eCall bLen (aCons (eOp oIx (eVar 0) (eC (.int (1)))) aNil))) [some (.loc 1), some (.d (.int m)), some (.d (.int a))] (TS nums (a + 1) t) = some (decide (a < ((nums.map iW).length : Int)), TS nums (a + 1) t) := by rfl
  by_cases hlt : a < ((nums.map iW).length : Int)
  · rw [decide_eq_true hlt] at e2
    obtain ⟨x, q1, q2⟩ := atI_ok h0 hlt
    rw [List.getElem?_map] at q1
    obtain ⟨q, q3, rfl⟩ := Option.map_eq_some_iff.mp q1
    refine ⟨q % m, Int.emod_nonneg _ (by omega), Int.emod_lt_of_pos _ hm, ?_⟩
    have e3 : eOp oIx (eOp oIx (eVar 0) (eC (.int (1)))) (eVar 2) [some (.loc 1), some (.d (.int m)), some (.d (.int a))] (TS nums (a + 1) t) = some (.d (.int q), TS nums (a + 1) t) := by
      refine v_op (x := .loc 0) (S1 := TS nums (a + 1) t) (by rfl) (y := .d (.int a)) (S2 := TS nums (a + 1) t) (by rfl) ?_
      rw [oIx_loc (ws := nums.map iW) (by rfl), q2]
      rfl
    exact v_def rfl (v_nx e0 (v_nx e1 (v_rt (v_ifT e2 (v_ret (v_op (v_call (v_cons e3 rfl) (by rfl)) (by rfl) (oMod_p hm))))))) rfl
  · rw [decide_eq_false hlt] at e2
    refine ⟨((a + 1) * 48271 + t * 69621) % 2147483647 / 11 % m, Int.emod_nonneg _ (by omega), Int.emod_lt_of_pos _ hm, ?_⟩
    refine v_def rfl (v_nx e0 (v_nx e1 (v_nx (v_ifF e2 (by rfl)) (v_ret (v_op (v_op (v_op (v_call (ws := [.d (.int ((a + 1) * 48271 + t * 69621))]) (v_cons (v_op (v_op (by rfl) (by rfl) (oMul_p (by decide))) (v_op (x := .d (.int t)) (by rfl) (by rfl) (oMul_p (by decide))) (by rfl)) rfl) (by rfl)) (by rfl) (oMod_p (by decide))) (by rfl) (oDiv_p (by decide))) (by rfl) (oMod_p hm)))))) rfl
/-! ### cells -/
theorem cells_ok {S : Mem} : ∀ (n : Nat) (k : Kd), k.wf → k.dep ≤ n → m_law_cells n [.d k.d] S = some (.d (.int k.cells), S)
  | 0, k, _, h => absurd (Nat.le_trans (dep_pos k) h) (by decide)
  | n + 1, .base x, _, h => by
    match x with
    | 0 => rfl
    | 1 => rfl
    | 2 => rfl
  | n + 1, .node, _, h => by rfl
  | n + 1, .sh k, _, h => by rfl
  | n + 1, .ex k, _, h => by rfl
  | n + 1, .task k, _, h => by rfl
  | n + 1, .box k, w, h => by rfl
  | n + 1, .maybe k, w, h => by
    refine v_def rfl (v_rt (v_ifT (by rfl) (v_ret (v_op (by rfl) (v_call (v_cons (by rfl) rfl) (cells_ok n k (by simpa [Kd.wf] using w) (dle h))) (by rfl))))) rfl
  | n + 1, .tup ks, w, h => by
    simp only [Kd.wf] at w
    have e1 : eLc (iTupM (eOp oIx (eVar 0) (eC (.int (1))))) [1] (gN 1) tYesM (eCall (m_law_cells n) (aCons (eVar 1) aNil)) mkF [some (.d (Kd.tup ks).d), none] S = some (.d (.list (ks.map fun k => .int k.cells)), S) := by
      refine v_lc (v_itup (ds := Kd.ds ks) (by rfl)) (S2 := S) (us := ks.map fun k => W.d (.int k.cells)) ?_ ?_
      · rw [ds_map, List.map_map]
        exact lcM_map fun k hk => ⟨_, rfl, cells_ok n k (wf_mem w.2 hk) (Nat.le_trans (dep_mem hk) (Nat.le_of_succ_le_succ h))⟩
      · rw [mapd ks fun k => .int k.cells]
        exact mkF_d (small6 (by rw [List.length_map]; exact w.1.2))
    refine v_def rfl (v_nx (v_ifF (by rfl) (by rfl)) (v_rt (v_ifT (by rfl) (v_ret (w := .d (.int (Kd.tup ks).cells)) (S1 := S) (v_call (v_cons e1 rfl) ?_))))) rfl
    show (intsOf ((ks.map fun k => PyData.int k.cells).map W.d)).bind _ = _
    rw [show ((ks.map fun k => PyData.int k.cells).map W.d) = ((ks.map fun k => k.cells).map fun i => W.d (.int i)) by rw [List.map_map, List.map_map]; rfl, intsOf_map]
    simp only [Option.bind_some, Kd.cells, cellss_map]
/-! ### fitting -/
def Fit (D : Nat) (k : Kd) : Prop := k.wf ∧ k.dep ≤ D
theorem fit_ok {S : Mem} (hS : S.all (obLt S.length) = true) {ks : List Kd} {D : Nat} {room : Int} (h6 : ks.length ≤ 6) (hD1 : 1 ≤ D) (hD : D ≤ 8) (hf : ∀ k ∈ ks, Fit D k) :
    ∃ ks' : List Kd, ks'.length = ks.length ∧ (∀ k ∈ ks', Fit D k) ∧ m_law_fitting [.d (.list (Kd.ds ks)), .d (.int room)] S = some (.d (.tuple (Kd.ds ks')), S) := by
  let M (fs : List Kd) : Mem := S ++ [.lst ((Kd.ds fs).map W.d)]
  let En (u : Int) (x4 x5 : Option W) : Env' := [some (.d (.list (Kd.ds ks))), some (.d (.int room)), some (.loc S.length), some (.d (.int u)), x4, x5]
  have hM : ∀ fs, (M fs)[S.length]? = some (.lst ((Kd.ds fs).map W.d)) := fun fs => by simp [M]
  let body : MS := (sSeq (sAsg (eOp oIx (eVar 0) (eVar 4)) (gN 5))
    (sSeq (sIf (eB (eOp oGt (eOp oSub (eOp oSub (eOp (oPlus false) (eOp (oPlus false) (eVar 3) (eCall (m_law_cells 8) (aCons (eVar 5) aNil))) (eCall bLen (aCons (eVar 0) aNil))) (eC (.int (1)))) (eVar 4)) (eVar 1))) (sAsg (eTup (aCons (eC (.str "int")) aNil)) (gN 5)) sNx)
    (sSeq (sAsg (eOp (oPlus false) (eVar 3) (eCall (m_law_cells 8) (aCons (eVar 5) aNil))) (gN 3))
    (sDrop (eBm mAppend (eVar 2) (aCons (eVar 5) aNil))))))
  let ws : List W := (List.range ks.length).map fun (j : Nat) => W.d (.int (0 + (j : Int)))
  have hws : ws.length = ks.length := by simp [ws]
  have key := forM_vals (g := gN 4) (b := body) (ws := ws) (fun i ρ S' => ∃ fs u x4 x5, S' = M fs ∧ ρ = En u x4 x5 ∧ fs.length = i ∧ ∀ k ∈ fs, Fit D k) (fun i v ρ S' hv hI => by
    obtain ⟨fs, u, x4, x5, rfl, rfl, hfl, hff⟩ := hI
    have hlt : i < ks.length := by
      have := (List.getElem?_eq_some_iff.mp hv).1
      omega
    have hv' : v = .d (.int (i : Int)) := by
      simp only [ws] at hv
      rw [List.getElem?_map, List.getElem?_range hlt] at hv
      cases hv
      simp
    subst hv'
    have hk : ks[i]? = some ks[i] := List.getElem?_eq_getElem hlt
    have hm : ks[i] ∈ ks := List.getElem_mem hlt
    have hfi := hf _ hm
    have e1 : sAsg (eOp oIx (eVar 0) (eVar 4)) (gN 5) (En u (some (.d (.int (i : Int)))) x5) (M fs) = some (.nx, En u (some (.d (.int (i : Int)))) (some (.d ks[i].d)), M fs) := by
      refine v_asg (w := .d ks[i].d) (S1 := M fs) (v_op (x := .d (.list (Kd.ds ks))) (S1 := M fs) (by rfl) (y := .d (.int (i : Int))) (S2 := M fs) (by rfl) ?_) (by rfl)
      rw [oIx_list, atI_at (x := W.d ks[i].d) (by rw [ds_map, List.map_map, List.getElem?_map, hk]; rfl)]
      rfl
    have hc : ∀ k : Kd, Fit D k → ∀ x4 u, eCall (m_law_cells 8) (aCons (eVar 5) aNil) (En u x4 (some (.d k.d))) (M fs) = some (.d (.int k.cells), M fs) := fun k hk x4 u =>
      v_call (ws := [.d k.d]) (S1 := M fs) (v_cons (by rfl) rfl) (cells_ok 8 k hk.1 (Nat.le_trans hk.2 hD))
    have e2 : ∃ k, Fit D k ∧ sIf (eB (eOp oGt (eOp oSub (eOp oSub (eOp (oPlus false) (eOp (oPlus false) (eVar 3) (eCall (m_law_cells 8) (aCons (eVar 5) aNil))) (eCall bLen (aCons (eVar 0) aNil))) (eC (.int (1)))) (eVar 4)) (eVar 1))) (sAsg (eTup (aCons (eC (.str "int")) aNil)) (gN 5)) sNx (En u (some (.d (.int (i : Int)))) (some (.d ks[i].d))) (M fs) = some (.nx, En u (some (.d (.int (i : Int)))) (some (.d k.d)), M fs) := by
      have et : ∃ b, eB (eOp oGt (eOp oSub (eOp oSub (eOp (oPlus false) (eOp (oPlus false) (eVar 3) (eCall (m_law_cells 8) (aCons (eVar 5) aNil))) (eCall bLen (aCons (eVar 0) aNil))) (eC (.int (1)))) (eVar 4)) (eVar 1)) (En u (some (.d (.int (i : Int)))) (some (.d ks[i].d))) (M fs) = some (b, M fs) := by
        exact ⟨_, v_b (v_op (v_op (v_op (v_op (v_op (x := .d (.int u)) (S1 := M fs) (by rfl) (hc _ hfi _ _) (by rfl)) (y := .d (.int (((Kd.ds ks).map W.d).length : Int))) (S2 := M fs) (by rfl) (by rfl)) (y := .d (.int 1)) (S2 := M fs) (by rfl) (by rfl)) (y := .d (.int (i : Int))) (S2 := M fs) (by rfl) (by rfl)) (y := .d (.int room)) (S2 := M fs) (by rfl) (by rfl))⟩
      obtain ⟨b, et⟩ := et
      cases b with
      | true => exact ⟨.base 0, ⟨trivial, hD1⟩, v_ifT et (by rfl)⟩
      | false => exact ⟨ks[i], hfi, v_ifF et (by rfl)⟩
    obtain ⟨k, hfk, e2⟩ := e2
    have e3 : sAsg (eOp (oPlus false) (eVar 3) (eCall (m_law_cells 8) (aCons (eVar 5) aNil))) (gN 3) (En u (some (.d (.int (i : Int)))) (some (.d k.d))) (M fs) = some (.nx, En (u + k.cells) (some (.d (.int (i : Int)))) (some (.d k.d)), M fs) :=
      v_asg (w := .d (.int (u + k.cells))) (S1 := M fs) (v_op (x := .d (.int u)) (S1 := M fs) (by rfl) (hc _ hfk _ _) (by rfl)) (by rfl)
    have hset : (M fs).set S.length (.lst ((Kd.ds fs).map W.d ++ [W.d k.d])) = M (fs ++ [k]) := by
      simp [M, ds_map]
    have e4 : sDrop (eBm mAppend (eVar 2) (aCons (eVar 5) aNil)) (En (u + k.cells) (some (.d (.int (i : Int)))) (some (.d k.d))) (M fs) = some (.nx, En (u + k.cells) (some (.d (.int (i : Int)))) (some (.d k.d)), M (fs ++ [k])) := by
      refine v_drop (w := .d .none) (v_bm (x := .loc S.length) (S1 := M fs) (by rfl) (itemsL_loc (hM fs)) (ws := [.d k.d]) (S2 := M fs) (by rfl) ?_)
      show (lstAt (.loc S.length) (M fs)).bind _ = _
      rw [lstAt_loc (hM fs)]
      simp only [Option.bind_some]
      rw [if_pos (by rw [ds_map, List.length_map, List.length_map]; have : fs.length < 6 := by omega
                     exact Nat.lt_trans this (by decide)), hset]
    refine ⟨_, M fs, _, M (fs ++ [k]), rfl, v_nx e1 (v_nx e2 (v_nx e3 e4)), fs ++ [k], u + k.cells, _, _, rfl, rfl, by simp [hfl], fun k' hk' => ?_⟩
    rcases List.mem_append.mp hk' with z | z
    · exact hff _ z
    · rw [List.mem_singleton.mp z]; exact hfk) ws.length 0 (En 0 none none) (M []) (by omega) (Nat.zero_le _) ⟨[], 0, none, none, rfl, rfl, rfl, fun k h => by cases h⟩
  obtain ⟨ρ', S', e2, fs, u, x4, x5, rfl, rfl, hfl, hff⟩ := key
  refine ⟨fs, by omega, hff, ?_⟩
  have e0 : eLstL aNil [some (.d (.list (Kd.ds ks))), some (.d (.int room)), none, none, none, none] S = some (.loc S.length, M []) := by rfl
  have el : eCall bLen (aCons (eVar 0) aNil) (En 0 none none) (M []) = some (.d (.int (ks.length : Int)), M []) := by
    refine v_call (ws := [.d (.list (Kd.ds ks))]) (S1 := M []) (v_cons (by rfl) rfl) ?_
    show some (W.d (.int (((Kd.ds ks).map W.d).length : Int)), M []) = _
    rw [ds_map, List.length_map, List.length_map]
  have efor : sFor (iRng1M (aCons (eCall bLen (aCons (eVar 0) aNil)) aNil)) (gN 4) body (En 0 none none) (M []) = some (.nx, En u x4 x5, M fs) :=
    v_for (v_rng1 (S1 := M []) (i := (ks.length : Int)) (v_cons el rfl) (by omega) (by omega)) e2
  have er : eCall bTuple (aCons (eVar 2) aNil) (En u x4 x5) (M fs) = some (.d (.tuple (Kd.ds fs)), M fs) := by
    refine v_call (ws := [.loc S.length]) (S1 := M fs) (v_cons (by rfl) rfl) ?_
    show (itemsL (.loc S.length) (M fs)).bind _ = _
    rw [itemsL_loc (hM fs)]
    simp only [Option.bind_some, dOf_map]
  refine v_def rfl (v_nx (v_asg e0 (by rfl)) (v_nx (v_asg (w := .d (.int 0)) (S1 := M []) (by rfl) (by rfl)) (v_nx efor (v_ret er)))) ?_
  show (if true = false then _ else if ((M fs).take S.length).all (obLt S.length) = true then some (W.d (.tuple (Kd.ds fs)), (M fs).take S.length) else none) = _
  rw [show (M fs).take S.length = S by simp [M], if_neg (by decide), if_pos hS]
end k01
namespace k01
open PySem L2 Pd
/-! ### a kind drawn from the tape -/
theorem ds_small {ks : List Kd} (h : ks.length ≤ 6) : (Kd.ds ks).length ≤ sizeLine := small6 (by rw [ds_map, List.length_map]; exact h)
theorem mkT_2 {S : Mem} {x y : PyData} : mkT [.d x, .d y] S = some (.d (.tuple [x, y]), S) := rfl
theorem kind_ok : ∀ (n : Nat) (nums : List Int) (a t d : Int) (b : Bool), n ≤ 7 → 0 ≤ a → d ≤ (n : Int) + 1 → ∃ (k : Kd) (a' : Int), 0 ≤ a' ∧ k.wf ∧ (k.dep : Int) ≤ max 1 d ∧ m_law_kind (n + 1) [.loc 1, .d (.int d), .d (.bool b)] (TS nums a t) = some (.d k.d, TS nums a' t) := by
  intro n
  induction n with
  | zero => 
    intro nums a t d b _ h0 hd
    obtain ⟨v, hv0, hv1, ev⟩ := next_ok nums a t 11 h0 (by decide)
    exact base 0 nums a t d b v h0 ev (.inl (by omega))
  | succ n ih =>
    intro nums a t d b hn h0 hd
    obtain ⟨v, hv0, hv1, ev⟩ := next_ok nums a t 11 h0 (by decide)
    by_cases hb : d ≤ 1 ∨ v < 3
    · exact base (n + 1) nums a t d b v h0 ev hb
    have hd1 : ¬ d ≤ 1 := fun z => hb (.inl z)
    have hv3 : ¬ v < 3 := fun z => hb (.inr z)
    have ha1 : 0 ≤ a + 1 := by omega
    let E : Env' := [some (.loc 1), some (.d (.int d)), some (.d (.bool b)), some (.d (.int v)), none, none]
    have e0 : sAsg (eCall m_law_next (aCons (eVar 0) (aCons (eC (.int (11))) aNil))) (gN 3) [some (.loc 1), some (.d (.int d)), some (.d (.bool b)), none, none, none] (TS nums a t) = some (.nx, E, TS nums (a + 1) t) := v_asg (v_call (ws := [.loc 1, .d (.int 11)]) (S1 := TS nums a t) (by rfl) ev) (by rfl)
    have t1 : (eOr (eB (eOp oLe (eVar 1) (eC (.int (1))))) (eB (eOp oLt (eVar 3) (eC (.int (3)))))) E (TS nums (a + 1) t) = some (false, TS nums (a + 1) t) := by
      refine v_orF (S1 := TS nums (a + 1) t) ?_ ?_
      · rw [← decide_eq_false hd1]; rfl
      · rw [← decide_eq_false hv3]; rfl
    have te : ∀ j : Int, eB (eOp (oEq false) (eVar 3) (eC (.int j))) E (TS nums (a + 1) t) = some (decide (v = j), TS nums (a + 1) t) := fun j => by rfl
    by_cases h3 : v = 3
    · have t2 := te 3
      rw [decide_eq_true h3] at t2
      obtain ⟨k, a', ha', hw, hdp, ek⟩ := ih nums (a + 1) t (d - 1) true (by omega) ha1 (by omega)
      refine ⟨.box k, a', ha', by simpa only [Kd.wf] using hw, ?_, ?_⟩
      · simp only [Kd.dep]; omega
      · refine v_def rfl (v_nx e0 (v_nx (v_ifF t1 (by rfl)) (v_rt (v_ifT t2 (v_ret (v_tup (v_cons (x := .d (.str "box")) (S1 := TS nums (a + 1) t) (by rfl) (v_cons (v_call (ws := [.loc 1, .d (.int (d - 1)), .d (.bool true)]) (S1 := TS nums (a + 1) t) (by rfl) ek) rfl)) mkT_2)))))) rfl
    have t2 := te 3
    rw [decide_eq_false h3] at t2
    by_cases h4 : v = 4
    · have t3 := te 4
      rw [decide_eq_true h4] at t3
      obtain ⟨k, a', ha', hw, hdp, ek⟩ := ih nums (a + 1) t (d - 1) b (by omega) ha1 (by omega)
      have hk8 : k.dep ≤ 8 := by omega
      obtain ⟨ks', hl, hff, ef⟩ := fit_ok (S := TS nums a' t) (ts_lt _ _ _) (ks := [k]) (D := k.dep) (room := 59) (by simp) (dep_pos k) hk8 (fun k' hk' => by rw [List.mem_singleton.mp hk']; exact ⟨hw, Nat.le_refl _⟩)
      match ks', hl, hff, ef with
      | [k'], _, hff, ef =>
        have hk' := hff k' List.mem_cons_self
        refine ⟨.maybe k', a', ha', by simpa only [Kd.wf] using hk'.1, ?_, ?_⟩
        · simp only [Kd.dep]; have := hk'.2; omega
        · have el : eLstF (aCons (eCall (m_law_kind (n + 1)) (aCons (eVar 0) (aCons (eOp oSub (eVar 1) (eC (.int (1)))) (aCons (eVar 2) aNil)))) aNil) E (TS nums (a + 1) t) = some (.d (.list [k.d]), TS nums a' t) :=
            v_lstF (v_cons (v_call (ws := [.loc 1, .d (.int (d - 1)), .d (.bool b)]) (S1 := TS nums (a + 1) t) (by rfl) ek) rfl) (by rfl)
          refine v_def rfl (v_nx e0 (v_nx (v_ifF t1 (by rfl)) (v_nx (v_ifF t2 (by rfl)) (v_rt (v_ifT t3 (v_ret (v_op (x := .d (.tuple [.str "maybe"])) (S1 := TS nums (a + 1) t) (by rfl) (v_call (v_cons el (v_cons (x := .d (.int 59)) (S1 := TS nums a' t) (by rfl) rfl)) ef) (by rfl)))))))) rfl
    have t3 := te 4
    rw [decide_eq_false h4] at t3
    by_cases h8 : v < 8 ∨ b = true
    · have t4 : (eOr (eB (eOp oLt (eVar 3) (eC (.int (8))))) (eB (eVar 2))) E (TS nums (a + 1) t) = some (true, TS nums (a + 1) t) := by
        have q : eB (eOp oLt (eVar 3) (eC (.int (8)))) E (TS nums (a + 1) t) = some (decide (v < 8), TS nums (a + 1) t) := by rfl
        by_cases hv8 : v < 8
        · rw [decide_eq_true hv8] at q
          exact v_orT q
        · rw [decide_eq_false hv8] at q
          have hb' : b = true := h8.resolve_left hv8
          refine v_orF q ?_
          rw [← hb']; rfl
      obtain ⟨c, hc0, hc1, ec⟩ := next_ok nums (a + 1) t 5 ha1 (by decide)
      let E2 : Env' := [some (.loc 1), some (.d (.int d)), some (.d (.bool b)), some (.d (.int v)), some (.d (.int (2 + c))), none]
      have e5 : sAsg (eOp (oPlus false) (eC (.int (2))) (eCall m_law_next (aCons (eVar 0) (aCons (eC (.int (5))) aNil)))) (gN 4) E (TS nums (a + 1) t) = some (.nx, E2, TS nums (a + 1 + 1) t) :=
        v_asg (v_op (x := .d (.int 2)) (S1 := TS nums (a + 1) t) (by rfl) (v_call (ws := [.loc 1, .d (.int 5)]) (S1 := TS nums (a + 1) t) (by rfl) ec) (by rfl)) (by rfl)
      let ws : List W := (List.range (2 + c).toNat).map fun (j : Nat) => W.d (.int (0 + (j : Int)))
      have hws : ws.length = (2 + c).toNat := by simp [ws]
      obtain ⟨us, S', e6, ks, a', ha', rfl, hus, hl, hff⟩ := lcM_st (g := gN 5) (e := eCall (m_law_kind (n + 1)) (aCons (eVar 0) (aCons (eOp oSub (eVar 1) (eC (.int (1)))) (aCons (eVar 2) aNil)))) (ws := ws) (ρ := E2) (fun i acc S => ∃ (ks : List Kd) (a' : Int), 0 ≤ a' ∧ S = TS nums a' t ∧ acc = ks.map (fun k => W.d k.d) ∧ ks.length = i ∧ ∀ k ∈ ks, k.wf ∧ (k.dep : Int) ≤ max 1 (d - 1)) (fun i w acc S hw hI => by
        obtain ⟨ks, a', ha', rfl, rfl, hl, hff⟩ := hI
        obtain ⟨k, a2, ha2, hw2, hdp, ek⟩ := ih nums a' t (d - 1) b (by omega) ha' (by omega)
        refine ⟨_, .d k.d, TS nums a2 t, rfl, v_call (ws := [.loc 1, .d (.int (d - 1)), .d (.bool b)]) (S1 := TS nums a' t) (by rfl) ek, ks ++ [k], a2, ha2, rfl, by rw [List.map_append]; rfl, by simp [hl], fun k' hk' => ?_⟩
        rcases List.mem_append.mp hk' with z | z
        · exact hff _ z
        · rw [List.mem_singleton.mp z]; exact ⟨hw2, hdp⟩) ws.length 0 [] (TS nums (a + 1 + 1) t) (by omega) (Nat.zero_le _) ⟨[], a + 1 + 1, by omega, rfl, rfl, rfl, fun k h => by cases h⟩
      rw [List.nil_append] at hus
      subst hus
      have hl6 : ks.length ≤ 6 := by omega
      have hl1 : 1 ≤ ks.length := by omega
      have e7 : eLc (iRng1M (aCons (eVar 4) aNil)) [5] (gN 5) tYesM (eCall (m_law_kind (n + 1)) (aCons (eVar 0) (aCons (eOp oSub (eVar 1) (eC (.int (1)))) (aCons (eVar 2) aNil)))) mkF E2 (TS nums (a + 1 + 1) t) = some (.d (.list (Kd.ds ks)), TS nums a' t) := by
        refine v_lc (v_rng1 (i := 2 + c) (S1 := TS nums (a + 1 + 1) t) (by rfl) (by omega) (by omega)) (us := ks.map fun k => W.d k.d) (S2 := TS nums a' t) e6 ?_
        rw [mapd ks Kd.d, ← ds_map]
        exact mkF_d (ds_small hl6)
      obtain ⟨ks', hl', hff', ef⟩ := fit_ok (S := TS nums a' t) (ts_lt _ _ _) (ks := ks) (D := (max 1 (d - 1)).toNat) (room := 60) hl6 (by omega) (by omega) (fun k hk => ⟨(hff k hk).1, by have := (hff k hk).2; omega⟩)
      refine ⟨.tup ks', a', ha', ?_, ?_, ?_⟩
      · simp only [Kd.wf]
        exact ⟨⟨by omega, by omega⟩, wfs_of fun k hk => (hff' k hk).1⟩
      · have := deps_le (n := (max 1 (d - 1)).toNat) fun k hk => (hff' k hk).2
        simp only [Kd.dep]
        omega
      · refine v_def rfl (v_nx e0 (v_nx (v_ifF t1 (by rfl)) (v_nx (v_ifF t2 (by rfl)) (v_nx (v_ifF t3 (by rfl)) (v_rt (v_ifT t4 (v_nx e5 (v_ret (v_tup (v_cons (x := .d (.str "tuple")) (S1 := TS nums (a + 1 + 1) t) (by rfl) (v_cons (v_call (v_cons e7 (v_cons (x := .d (.int 60)) (S1 := TS nums a' t) (by rfl) rfl)) ef) rfl)) mkT_2))))))))) rfl
    · have hv8 : ¬ v < 8 := fun z => h8 (.inl z)
      have hb' : b = false := by cases b with | true => exact absurd (.inr rfl) h8 | false => rfl
      have t4 : (eOr (eB (eOp oLt (eVar 3) (eC (.int (8))))) (eB (eVar 2))) E (TS nums (a + 1) t) = some (false, TS nums (a + 1) t) := by
        refine v_orF (S1 := TS nums (a + 1) t) ?_ ?_
        · rw [← decide_eq_false hv8]; rfl
        · rw [← hb']; rfl
      obtain ⟨k, a', ha', hw, hdp, ek⟩ := ih nums (a + 1) t (d - 1) true (by omega) ha1 (by omega)
      have fin : ∀ (nm : Str) (k2 : Kd), k2.d = .tuple [.str nm, k.d] → eOp oIx (eLstF (aCons (eC (.str "shared")) (aCons (eC (.str "exclusive")) (aCons (eC (.str "task")) aNil)))) (eOp oSub (eVar 3) (eC (.int (8)))) E (TS nums (a + 1) t) = some (.d (.str nm), TS nums (a + 1) t) →
          m_law_kind (n + 1 + 1) [.loc 1, .d (.int d), .d (.bool b)] (TS nums a t) = some (.d k2.d, TS nums a' t) := fun nm k2 hk2 en => by
        rw [hk2]
        exact v_def rfl (v_nx e0 (v_nx (v_ifF t1 (by rfl)) (v_nx (v_ifF t2 (by rfl)) (v_nx (v_ifF t3 (by rfl)) (v_nx (v_ifF t4 (by rfl)) (v_ret (v_tup (v_cons en (v_cons (v_call (ws := [.loc 1, .d (.int (d - 1)), .d (.bool true)]) (S1 := TS nums (a + 1) t) (by rfl) ek) rfl)) mkT_2))))))) rfl
      have hv : v = 8 ∨ v = 9 ∨ v = 10 := by omega
      rcases hv with rfl | rfl | rfl
      · exact ⟨.sh k, a', ha', by simpa only [Kd.wf] using hw, by simp only [Kd.dep]; omega, fin "shared" (.sh k) (by rfl) (by rfl)⟩
      · exact ⟨.ex k, a', ha', by simpa only [Kd.wf] using hw, by simp only [Kd.dep]; omega, fin "exclusive" (.ex k) (by rfl) (by rfl)⟩
      · exact ⟨.task k, a', ha', by simpa only [Kd.wf] using hw, by simp only [Kd.dep]; omega, fin "task" (.task k) (by rfl) (by rfl)⟩
where
  base (n : Nat) (nums : List Int) (a t d : Int) (b : Bool) (v : Int) (h0 : 0 ≤ a) (ev : m_law_next [.loc 1, .d (.int 11)] (TS nums a t) = some (.d (.int v), TS nums (a + 1) t)) (hb : d ≤ 1 ∨ v < 3) :
      ∃ (k : Kd) (a' : Int), 0 ≤ a' ∧ k.wf ∧ (k.dep : Int) ≤ max 1 d ∧ m_law_kind (n + 1) [.loc 1, .d (.int d), .d (.bool b)] (TS nums a t) = some (.d k.d, TS nums a' t) := by
    let E : Env' := [some (.loc 1), some (.d (.int d)), some (.d (.bool b)), some (.d (.int v)), none, none]
    have e0 : sAsg (eCall m_law_next (aCons (eVar 0) (aCons (eC (.int (11))) aNil))) (gN 3) [some (.loc 1), some (.d (.int d)), some (.d (.bool b)), none, none, none] (TS nums a t) = some (.nx, E, TS nums (a + 1) t) := v_asg (v_call (ws := [.loc 1, .d (.int 11)]) (S1 := TS nums a t) (by rfl) ev) (by rfl)
    have t1 : (eOr (eB (eOp oLe (eVar 1) (eC (.int (1))))) (eB (eOp oLt (eVar 3) (eC (.int (3)))))) E (TS nums (a + 1) t) = some (true, TS nums (a + 1) t) := by
      have q1 : eB (eOp oLe (eVar 1) (eC (.int (1)))) E (TS nums (a + 1) t) = some (decide (d ≤ 1), TS nums (a + 1) t) := by rfl
      by_cases hd : d ≤ 1
      · rw [decide_eq_true hd] at q1
        exact v_orT q1
      · rw [decide_eq_false hd] at q1
        refine v_orF q1 ?_
        rw [← decide_eq_true (hb.resolve_left hd)]; rfl
    obtain ⟨c, hc0, hc1, ec⟩ := next_ok nums (a + 1) t 4 (by omega) (by decide)
    have key : ∀ k : Kd, k.wf → k.dep = 1 → oIx (.d (.list [.tuple [.str "int"], .tuple [.str "bool"], .tuple [.str "unit"], .tuple [.str "record", .str "Node"]])) (.d (.int c)) (TS nums (a + 1 + 1) t) = some (.d k.d, TS nums (a + 1 + 1) t) →
        ∃ (k : Kd) (a' : Int), 0 ≤ a' ∧ k.wf ∧ (k.dep : Int) ≤ max 1 d ∧ m_law_kind (n + 1) [.loc 1, .d (.int d), .d (.bool b)] (TS nums a t) = some (.d k.d, TS nums a' t) := fun k hw hk e => by
      refine ⟨k, a + 1 + 1, by omega, hw, by omega, ?_⟩
      exact v_def rfl (v_nx e0 (v_rt (v_ifT t1 (v_ret (v_op (x := .d (.list [.tuple [.str "int"], .tuple [.str "bool"], .tuple [.str "unit"], .tuple [.str "record", .str "Node"]])) (S1 := TS nums (a + 1) t) (by rfl) (v_call (ws := [.loc 1, .d (.int 4)]) (S1 := TS nums (a + 1) t) (by rfl) ec) e))))) rfl
    have hc : c = 0 ∨ c = 1 ∨ c = 2 ∨ c = 3 := by omega
    rcases hc with rfl | rfl | rfl | rfl
    · exact key (.base 0) trivial rfl (by rfl)
    · exact key (.base 1) trivial rfl (by rfl)
    · exact key (.base 2) trivial rfl (by rfl)
    · exact key .node trivial rfl (by rfl)
end k01
namespace Pd
open PySem L2
theorem mAppend_ok {S : Mem} {n : Nat} {ws : List W} {w : W} (h : S[n]? = some (.lst ws)) (hl : ws.length < sizeLine) : mAppend (.loc n) [w] S = some (.d .none, S.set n (.lst (ws ++ [w]))) := by
  show (lstAt (.loc n) S).bind _ = _
  rw [lstAt_loc h]
  simp only [Option.bind_some]
  rw [if_pos hl]
/-- a for over values: each turn carries the state on, or breaks off -/
theorem forM_brk {g : MG} {b : MS} {ws : List W} (Inv : Nat → Env' → Mem → Prop) (Brk : Env' → Mem → Prop)
    (step : ∀ i w ρ S, ws[i]? = some w → Inv i ρ S → ∃ ρ1 S1, g w ρ S = some (ρ1, S1) ∧ ((∃ ρ2 S2, b ρ1 S1 = some (.nx, ρ2, S2) ∧ Inv (i + 1) ρ2 S2) ∨ ∃ ρ2 S2, b ρ1 S1 = some (.bk, ρ2, S2) ∧ Brk ρ2 S2)) :
    ∀ (k i : Nat) ρ S, ws.length - i = k → i ≤ ws.length → Inv i ρ S → ∃ ρ' S', forM (.vals ws) g b k i ρ S = some (.nx, ρ', S') ∧ (Inv ws.length ρ' S' ∨ Brk ρ' S') := by
  intro k
  induction k with
  | zero =>
    intro i ρ S hk hi h
    have e : i = ws.length := by omega
    subst e
    refine ⟨ρ, S, ?_, .inl h⟩
    unfold forM
    have : (Itm.vals ws).at_ S ws.length = some none := by show some ws[ws.length]? = _; simp
    rw [this]
  | succ k ih =>
    intro i ρ S hk hi h
    have hlt : i < ws.length := by omega
    have ha : (Itm.vals ws).at_ S i = some (some ws[i]) := by show some ws[i]? = _; simp [hlt]
    obtain ⟨ρ1, S1, e1, h1⟩ := step i ws[i] ρ S (List.getElem?_eq_getElem hlt) h
    rcases h1 with ⟨ρ2, S2, e2, h2⟩ | ⟨ρ2, S2, e2, h2⟩
    · obtain ⟨ρ', S', e3, h3⟩ := ih (i + 1) ρ2 S2 (by omega) hlt h2
      refine ⟨ρ', S', ?_, h3⟩
      unfold forM
      rw [ha]
      simp only [e1, e2, Option.bind_some]
      exact e3
    · refine ⟨ρ2, S2, ?_, .inr h2⟩
      unfold forM
      rw [ha]
      simp only [e1, e2, Option.bind_some]
end Pd
namespace k01
open PySem L2 Pd
/-! ### laying the tape -/
theorem mul24 {i : Nat} (h : i ≤ 63) : 24 * i + 24 < sizeLine := Nat.lt_of_le_of_lt (show 24 * i + 24 ≤ 1536 by omega) (by decide)
theorem cut63 {α β : Type} (f : α → β) (xs : List α) : cutL (xs.map f) none (some 63) = (xs.take 63).map f := by
  unfold cutL
  rw [HT.sIx_none, show (some (63 : Int)) = some ((63 : Nat) : Int) from rfl, HT.sIx_nat, List.drop_zero, Nat.sub_zero, List.length_map, ← List.map_take]
  congr 1
  by_cases h : xs.length ≤ 63
  · rw [Nat.min_eq_right h, List.take_of_length_le (Nat.le_refl _), List.take_of_length_le h]
  · rw [Nat.min_eq_left (by omega)]
theorem tape_ok (ns : List Int) : ∃ (nums : List Int) (t : Int), m_law_tape [.d (.dict [(.none, .list (ns.map .int))])] [] = some (.loc 1, TS nums 0 t) := by
  let D : W := .d (.dict [(.none, .list (ns.map .int))])
  let M (nums : List Int) : Mem := [.lst (nums.map iW)]
  let En (t : Int) (x3 x4 x5 : Option W) : Env' := [some D, some (.loc 0), some (.d (.int t)), x3, x4, x5]
  let ws : List W := ((ns.take 63).map PyData.int).map W.d
  have hws : ws.length ≤ 63 := by
    simp only [ws, List.length_map, List.length_take]
    exact Nat.min_le_left _ _
  let inner : MS := (sSeq (sDrop (eBm mAppend (eVar 1) (aCons (eOp oMod (eCall bInt (aCons (eVar 4) aNil)) (eC (.int (60)))) aNil)))
    (sSeq (sAsg (eOp oDiv (eVar 4) (eC (.int (60)))) (gN 4))
    (sIf (eB (eOp (oEq false) (eVar 4) (eC (.int (0))))) sBrk sNx)))
  let outer : MS := (sSeq (sAsg (eCall bAbs (aCons (eCall bInt (aCons (eVar 3) aNil)) aNil)) (gN 4))
    (sSeq (sAsg (eOp (oPlus false) (eVar 2) (eVar 4)) (gN 2))
    (sFor (iRng1M (aCons (eC (.int (24))) aNil)) (gN 5) inner)))
  let rs : List W := (List.range (24 : Int).toNat).map fun (j : Nat) => W.d (.int (0 + (j : Int)))
  have hrs : rs.length = 24 := by simp [rs]
  obtain ⟨ρ', S', e2, nums, t, x3, x4, x5, rfl, rfl, _⟩ := forM_vals (g := gN 3) (b := outer) (ws := ws) (fun i ρ S => ∃ nums t x3 x4 x5, S = M nums ∧ ρ = En t x3 x4 x5 ∧ nums.length ≤ 24 * i) (fun i v ρ S hv hI => by
    obtain ⟨nums, t, x3, x4, x5, rfl, rfl, hl⟩ := hI
    have hi : i < 63 := by
      have := (List.getElem?_eq_some_iff.mp hv).1
      omega
    obtain ⟨q, rfl⟩ : ∃ q : Int, v = .d (.int q) := by
      have hm := List.mem_of_getElem? hv
      simp only [ws, List.map_map, List.mem_map] at hm
      obtain ⟨q, _, rfl⟩ := hm
      exact ⟨q, rfl⟩
    let z0 : Int := if q < 0 then -q else q
    obtain ⟨ρ2, S2, e3, hp⟩ := forM_brk (g := gN 5) (b := inner) (ws := rs) (fun j ρ S => ∃ nums z x5, S = M nums ∧ ρ = En (t + z0) (some (.d (.int q))) (some (.d (.int z))) x5 ∧ nums.length ≤ 24 * i + j) (fun ρ S => ∃ nums z x5, S = M nums ∧ ρ = En (t + z0) (some (.d (.int q))) (some (.d (.int z))) x5 ∧ nums.length ≤ 24 * i + 24) (fun j v ρ S hv hI => by
      obtain ⟨nums, z, x5, rfl, rfl, hl⟩ := hI
      have hj : j < 24 := by
        have := (List.getElem?_eq_some_iff.mp hv).1
        omega
      have hM : (M nums)[0]? = some (.lst (nums.map iW)) := rfl
      have e4 : sDrop (eBm mAppend (eVar 1) (aCons (eOp oMod (eCall bInt (aCons (eVar 4) aNil)) (eC (.int (60)))) aNil)) (En (t + z0) (some (.d (.int q))) (some (.d (.int z))) (some v)) (M nums) = some (.nx, En (t + z0) (some (.d (.int q))) (some (.d (.int z))) (some v), M (nums ++ [z % 60])) := by
        refine v_drop (w := .d .none) (v_bm (x := .loc 0) (S1 := M nums) (by rfl) (itemsL_loc hM) (ws := [.d (.int (z % 60))]) (S2 := M nums) (v_cons (v_op (x := .d (.int z)) (S1 := M nums) (by rfl) (y := .d (.int 60)) (S2 := M nums) (by rfl) (oMod_p (by decide))) rfl) ?_)
        rw [mAppend_ok hM (by
          have : (nums.map iW).length < 24 * i + 24 := by rw [List.length_map]; omega
          exact Nat.lt_trans this (mul24 (Nat.le_of_lt hi)))]
        show some (W.d .none, [Ob.lst (nums.map iW ++ [iW (z % 60)])]) = some (W.d .none, [Ob.lst ((nums ++ [z % 60]).map iW)])
        rw [List.map_append]; rfl
      have e5 : sAsg (eOp oDiv (eVar 4) (eC (.int (60)))) (gN 4) (En (t + z0) (some (.d (.int q))) (some (.d (.int z))) (some v)) (M (nums ++ [z % 60])) = some (.nx, En (t + z0) (some (.d (.int q))) (some (.d (.int (z / 60)))) (some v), M (nums ++ [z % 60])) :=
        v_asg (v_op (x := .d (.int z)) (S1 := M (nums ++ [z % 60])) (by rfl) (y := .d (.int 60)) (S2 := M (nums ++ [z % 60])) (by rfl) (oDiv_p ⟨by decide, by decide⟩)) (by rfl)
      have e6 : eB (eOp (oEq false) (eVar 4) (eC (.int (0)))) (En (t + z0) (some (.d (.int q))) (some (.d (.int (z / 60)))) (some v)) (M (nums ++ [z % 60])) = some (decide (z / 60 = 0), M (nums ++ [z % 60])) := by rfl
      refine ⟨_, M nums, rfl, ?_⟩
      by_cases hz : z / 60 = 0
      · rw [decide_eq_true hz] at e6
        exact .inr ⟨_, _, v_nx e4 (v_nx e5 (v_ifT e6 (by rfl))), nums ++ [z % 60], z / 60, _, rfl, rfl, by rw [List.length_append]; simp; omega⟩
      · rw [decide_eq_false hz] at e6
        exact .inl ⟨_, _, v_nx e4 (v_nx e5 (v_ifF e6 (by rfl))), nums ++ [z % 60], z / 60, _, rfl, rfl, by rw [List.length_append]; simp; omega⟩) rs.length 0 (En (t + z0) (some (.d (.int q))) (some (.d (.int z0))) x5) (M nums) (by omega) (Nat.zero_le _) ⟨nums, z0, x5, rfl, rfl, by omega⟩
    have hp' : ∃ nums z x5, S2 = M nums ∧ ρ2 = En (t + z0) (some (.d (.int q))) (some (.d (.int z))) x5 ∧ nums.length ≤ 24 * i + 24 := by
      rcases hp with ⟨nums, z, x5, h1, h2, h3⟩ | h
      · exact ⟨nums, z, x5, h1, h2, by omega⟩
      · exact h
    obtain ⟨nums2, z, x5', rfl, rfl, hl2⟩ := hp'
    have e7 : sAsg (eCall bAbs (aCons (eCall bInt (aCons (eVar 3) aNil)) aNil)) (gN 4) (En t (some (.d (.int q))) x4 x5) (M nums) = some (.nx, En t (some (.d (.int q))) (some (.d (.int z0))) x5, M nums) := by rfl
    have e8 : sAsg (eOp (oPlus false) (eVar 2) (eVar 4)) (gN 2) (En t (some (.d (.int q))) (some (.d (.int z0))) x5) (M nums) = some (.nx, En (t + z0) (some (.d (.int q))) (some (.d (.int z0))) x5, M nums) := by rfl
    exact ⟨_, M nums, _, M nums2, rfl, v_nx e7 (v_nx e8 (v_for (v_rng1 (S1 := M nums) (i := 24) (by rfl) (by decide) (by decide)) e3)), nums2, t + z0, _, _, _, rfl, rfl, by omega⟩) ws.length 0 (En 1 none none none) (M []) (by omega) (Nat.zero_le _) ⟨[], 1, none, none, none, rfl, rfl, Nat.zero_le _⟩
  refine ⟨nums, t % 1000003, ?_⟩
  have es : iLstM (eSl false (eVar 0) pNone (pSome (eC (.int (63))))) (En 1 none none none) (M []) = some (.vals ws, M []) := by
    refine v_ilst (ds := (ns.take 63).map .int) ?_
    show ((dOf (cutL ((ns.map PyData.int).map W.d) none (some 63))).map fun ds => (W.d (.list ds), M [])) = _
    rw [cut63, List.map_take, ← List.map_take, ← List.map_take, dOf_map]
    rfl
  refine v_def rfl (v_nx (v_asg (w := .loc 0) (S1 := M []) (by rfl) (by rfl)) (v_nx (v_asg (w := .d (.int 1)) (S1 := M []) (by rfl) (by rfl)) (v_nx (v_for es e2) (v_ret (v_lstL (v_cons (x := .d (.int 0)) (S1 := M nums) (by rfl) (v_cons (x := .loc 0) (S1 := M nums) (by rfl) (v_cons (v_op (x := .d (.int t)) (S1 := M nums) (by rfl) (y := .d (.int 1000003)) (S2 := M nums) (by rfl) (oMod_p (by decide))) rfl))) (by rfl)))))) rfl
theorem is_ok {S : Mem} (b : Bool) : m_law_is [.d (.bool b), .d (.bool b)] S = some (.d (.bool true), S) := by
  cases b <;> rfl
theorem oEq_tt {S : Mem} {x : PyData} (h : eqP x x = some true) : oEq true (.d x) (.d x) S = some (.d (.bool false), S) := oEq_d (n := true) h
/-- the law itself -/
theorem law_ok (ns : List Int) : ∃ S', m_law [.d (.dict [(.none, .list (ns.map .int))])] [] = some (.d (.bool true), S') := by
  obtain ⟨nums, t, et⟩ := tape_ok ns
  let D : W := .d (.dict [(.none, .list (ns.map .int))])
  let En (x2 x3 : Option W) : Env' := [some D, some (.loc 1), x2, x3]
  let body : MS := (sSeq (sAsg (eCall (m_law_kind 8) (aCons (eVar 1) (aCons (eC (.int (6))) (aCons (eC (.bool false)) aNil)))) (gN 3))
    (sSeq (sIf (eOr (eNot (eB (eCall m_law_is (aCons (eCall (m_is_plain 8) (aCons (eVar 3) aNil)) (aCons (eCall (m_law_plain 8) (aCons (eVar 3) aNil)) aNil))))) (eNot (eB (eCall m_law_is (aCons (eCall (m_is_copy 8) (aCons (eVar 3) aNil)) (aCons (eCall (m_law_copy 8) (aCons (eVar 3) aNil)) aNil)))))) (sRet (eC (.bool false))) sNx)
    (sIf (eOr (eB (eOp (oEq true) (eCall (m_levels 8) (aCons (eVar 3) aNil)) (eCall (m_law_levels 8) (aCons (eVar 3) aNil)))) (eB (eOp (oEq true) (eCall (m_leaves 8) (aCons (eVar 3) aNil)) (eCall bTuple (aCons (eCall (m_law_leaves 8) (aCons (eVar 3) aNil)) aNil))))) (sRet (eC (.bool false))) sNx)))
  let ws : List W := (List.range (3 : Int).toNat).map fun (j : Nat) => W.d (.int (0 + (j : Int)))
  obtain ⟨ρ', S', e2, a, x2, x3, ha, rfl, rfl⟩ := forM_vals (g := gN 2) (b := body) (ws := ws) (fun i ρ S => ∃ a x2 x3, 0 ≤ a ∧ S = TS nums a t ∧ ρ = En x2 x3) (fun i v ρ S hv hI => by
    obtain ⟨a, x2, x3, ha, rfl, rfl⟩ := hI
    obtain ⟨k, a', ha', hw, hdp, ek⟩ := kind_ok 7 nums a t 6 false (by decide) ha (by decide)
    have h6 : k.dep ≤ 6 := by omega
    have h8 : k.dep ≤ 8 := by omega
    have one : ∀ {f : MF} {w : W}, f [.d k.d] (TS nums a' t) = some (w, TS nums a' t) → eCall f (aCons (eVar 3) aNil) (En (some v) (some (.d k.d))) (TS nums a' t) = some (w, TS nums a' t) := fun {f w} h =>
      v_call (ws := [.d k.d]) (S1 := TS nums a' t) (by rfl) h
    have e1 : sAsg (eCall (m_law_kind 8) (aCons (eVar 1) (aCons (eC (.int (6))) (aCons (eC (.bool false)) aNil)))) (gN 3) (En (some v) x3) (TS nums a t) = some (.nx, En (some v) (some (.d k.d)), TS nums a' t) :=
      v_asg (v_call (ws := [.loc 1, .d (.int 6), .d (.bool false)]) (S1 := TS nums a t) (by rfl) ek) (by rfl)
    have t1 : (eOr (eNot (eB (eCall m_law_is (aCons (eCall (m_is_plain 8) (aCons (eVar 3) aNil)) (aCons (eCall (m_law_plain 8) (aCons (eVar 3) aNil)) aNil))))) (eNot (eB (eCall m_law_is (aCons (eCall (m_is_copy 8) (aCons (eVar 3) aNil)) (aCons (eCall (m_law_copy 8) (aCons (eVar 3) aNil)) aNil)))))) (En (some v) (some (.d k.d))) (TS nums a' t) = some (false, TS nums a' t) :=
      v_orF (v_not (k := true) (v_b (v_call (v_cons (one (is_plain_ok 8 k h8)) (v_cons (one (lplain_ok 8 k hw h8)) rfl)) (is_ok _)))) (v_not (k := true) (v_b (v_call (v_cons (one (is_copy_ok 8 k h8)) (v_cons (one (lcopy_ok 8 k hw h8)) rfl)) (is_ok _))))
    have t2 : (eOr (eB (eOp (oEq true) (eCall (m_levels 8) (aCons (eVar 3) aNil)) (eCall (m_law_levels 8) (aCons (eVar 3) aNil)))) (eB (eOp (oEq true) (eCall (m_leaves 8) (aCons (eVar 3) aNil)) (eCall bTuple (aCons (eCall (m_law_leaves 8) (aCons (eVar 3) aNil)) aNil))))) (En (some v) (some (.d k.d))) (TS nums a' t) = some (false, TS nums a' t) :=
      v_orF (v_b (v_op (one (levels_ok 8 k hw h8)) (one (llev_ok 8 k hw h8)) (oEq_tt (by rw [eqP_int, decide_eq_true rfl])))) (v_b (v_op (one (leaves_ok 8 k hw h8 h6)) (v_call (v_cons (one (lleaves_ok 8 k hw h8 h6)) rfl) bTuple_l) (oEq_tt (lvs_eq k))))
    exact ⟨_, TS nums a t, _, TS nums a' t, rfl, v_nx e1 (v_nx (v_ifF t1 (by rfl)) (v_ifF t2 (by rfl))), a', _, _, ha', rfl, rfl⟩) ws.length 0 (En none none) (TS nums 0 t) (by omega) (Nat.zero_le _) ⟨0, none, none, by decide, rfl, rfl⟩
  exact ⟨_, v_def rfl (v_nx (v_asg (v_call (ws := [D]) (S1 := []) (by rfl) et) (by rfl)) (v_nx (v_for (v_rng1 (S1 := TS nums 0 t) (i := 3) (by rfl) (by decide) (by decide)) e2) (v_ret (by rfl)))) rfl⟩
end k01
/-! the end of a row whose law is a mirror -/
namespace Pd
open PySem PySem.Spec PyProof.Rows L2 GxR Gx
theorem drs_ints {K : PySem.W.Frag} {tb : List Addr} {A : Wd} : ∀ ns : List Int, DRs K tb A (ns.map V.int) (ns.map PyData.int)
  | [] => .nil
  | n :: ns => .cons (.int n) (drs_ints ns)
theorem spD_law {K : PySem.W.Frag} {tb : List Addr} {m : MF} {ns : List Int} {S' : Mem} {a : Addr} {H : Hp} {E : XK} (hm : m [.d (.dict [(.none, .list (ns.map .int))])] [] = some (.d (.bool true), S')) (ht : ∀ P ∈ tb, H P = some (.tbl #[])) (hs : SqL K H a (ns.map V.int)) :
    spD K tb 1 m [.ref a] H (fun v _ => v = .bl true) E := by
  let A : Wd := ⟨H, [], []⟩
  have R : Rep K tb A [] := by
    refine ⟨rfl, List.nodup_nil, fun P hP => ⟨#[], ht P hP, trivial⟩, ?_, ?_⟩
    · intro b hb; cases hb
    · intro n a ob h; cases h
  have D : DR K tb A (.ref a) (.dict [(.none, .list (ns.map .int))]) := DR.scr ?_ (drs_ints ns)
  · exact ⟨rfl, A, [.d (.dict [(.none, .list (ns.map .int))])], [], _, S', rfl, .cons D .nil, R, hm, fun v B _ _ r => WR.bl r⟩
  rcases hs with r | r
  · refine .inl ⟨fun z => ?_, r⟩
    have hat : a ∈ tb := z.elim (fun z => nomatch z) fun z => z.elim id fun z => nomatch z
    have ha := ht a hat
    rcases r with r | ⟨o, r⟩
    · rw [ha] at r; cases r
    · rw [ha] at r; cases r
  · exact .inr (.inr r)
theorem tab_in {K : PySem.W.Frag} {x : Str} {f c P : Addr} {oc : Value} {od : Option Addr} {fd : FuncData} {sl : Array (Option Value)} {e : Value} {dd : Option Addr} {vs : Array Value} {sm : Array (Option Value)}
    (a : PySem.W.nsIn K mainGlobals x = some (some (.ref f))) (l : K.lookup f = some ⟨oc, od, .func fd, sl⟩) (hc : fd.code = .ref c) (m : K.lookup c = some ⟨e, dd, .fields vs, sm⟩) (v : (vs[11]? : Option Value) = some (.ref P)) : PySem.W.tabIn K x = some (c, P) := by
  unfold PySem.W.tabIn
  simp only [a, l, hc, m, v]
/-- the head's heap at every def's table -/
def TabsOf (q : Program) (K : PySem.W.Frag) (h : Heap) : Prop := ∀ (x : Str) (c P : Addr), ((recsOf q).find? fun e => e.name == x).isSome = true → PySem.W.tabIn K x = some (c, P) → PySem.W.CodeHd h c P ∧ h.get? P = some { cls := .none, data := .fields #[] }
theorem walk_tabs {l : PySem.W.OpenLaw} {n k : Nat} {q : Program} {loose : List Str} {XP : (Str → Option Value) → Heap → Prop} {YP : World → Heap → Prop} {d : DefRec} {K : Params → PySem.W.Frag} {CX : World → CXT} {x : Str}
    (hn : l.most = some n) (hn2 : n ≤ sizeLine) (hdf : d.params.defaults = []) (hr : Room k callerA) (hY : ∀ (w : World) (h : Heap), YP w h → (K w.params).In h)
    (F : ∀ (w : World) (mg : Str → Option Value) (fa : Addr) (h : Heap), (K w.params).In h → h.Ns mainGlobals mg → mg d.name = some (.ref fa) → TabsOf q (K w.params) h → LamX.LawAtS l w (K w.params) (CX w) k n x mg fa h)
    (hCX : ∀ (w : World) (H : Hp) (s : Shared) (e : Value) (s' : Shared), CX w [] H s (fun _ _ _ => False) e s' → False) :
    PySem.W.WalkO q loose XP YP l.row.toRowW d [] (fun f vs => PySem.call f vs) :=
  Att.attach_callB hn hdf fun w s₀ s₁ mg mb fa o pm cd doc a vs ns G Y ho hd hcd hmg hobj hints hlen hbits hg =>
    have KX := hY w _ Y
    have tabs : TabsOf q (K w.params) s₁.heap := fun y c P hr ht => by
      obtain ⟨r, e⟩ := Option.isSome_iff_exists.mp hr
      exact PySem.W.tab_of G.T KX e ht
    let ⟨fd, cs, sp, hT, nT, C, hb, hsp, hF⟩ := F w mg fa _ KX G.T.g hmg tabs
    LamX.law_callTs KX G.T.g G.T.b G.T.builtins G.T.nolimit hg hT nT C G.T.bmain hobj hints (Nat.le_trans hlen hn2) hr hF hb (fun H hH hS => hsp H a ns hlen hbits hH hS) fun H e s' => hCX w H s₁ e s'
theorem tabG_of {base : Heap} {mg : Str → Option Value} {c P : Addr} (h : LamX.TabB base mg c P) : TabB base mg c P := ⟨h.code, h.bm, h.gP⟩
end Pd
namespace k01
open PySem PySem.Spec PyProof.Rows L2 GxR Gx Pd
theorem all_mk {l : PySem.W.OpenLaw} {q : Program} {w : World} {K : PySem.W.Frag} {h : Heap} {mg : Str → Option Value} {fa : Addr} (X : K.In h) (G : h.Ns mainGlobals mg) (hfa : mg "law" = some (.ref fa)) (TT : TabsOf q K h)
    {f0 cd0 : Addr} {od0 an0 : Option Addr} {sl0 : Array (Option Value)} {oc0 kV0 dc0 pm0 ct0 : Value}
    {f1 cd1 : Addr} {od1 an1 : Option Addr} {sl1 : Array (Option Value)} {oc1 kV1 dc1 pm1 ct1 : Value}
    {P1 : Addr} {e1 : Value} {dd1 : Option Addr} {vs1 : Array Value} {sm1 : Array (Option Value)}
    {f2 cd2 : Addr} {od2 an2 : Option Addr} {sl2 : Array (Option Value)} {oc2 kV2 dc2 pm2 ct2 : Value}
    {P2 : Addr} {e2 : Value} {dd2 : Option Addr} {vs2 : Array Value} {sm2 : Array (Option Value)}
    {f3 cd3 : Addr} {od3 an3 : Option Addr} {sl3 : Array (Option Value)} {oc3 kV3 dc3 pm3 ct3 : Value}
    {f4 cd4 : Addr} {od4 an4 : Option Addr} {sl4 : Array (Option Value)} {oc4 kV4 dc4 pm4 ct4 : Value}
    {f5 cd5 : Addr} {od5 an5 : Option Addr} {sl5 : Array (Option Value)} {oc5 kV5 dc5 pm5 ct5 : Value}
    {f6 cd6 : Addr} {od6 an6 : Option Addr} {sl6 : Array (Option Value)} {oc6 kV6 dc6 pm6 ct6 : Value}
    {f7 cd7 : Addr} {od7 an7 : Option Addr} {sl7 : Array (Option Value)} {oc7 kV7 dc7 pm7 ct7 : Value}
    {f8 cd8 : Addr} {od8 an8 : Option Addr} {sl8 : Array (Option Value)} {oc8 kV8 dc8 pm8 ct8 : Value}
    {f9 cd9 : Addr} {od9 an9 : Option Addr} {sl9 : Array (Option Value)} {oc9 kV9 dc9 pm9 ct9 : Value}
    {f10 cd10 : Addr} {od10 an10 : Option Addr} {sl10 : Array (Option Value)} {oc10 kV10 dc10 pm10 ct10 : Value}
    {f11 cd11 : Addr} {od11 an11 : Option Addr} {sl11 : Array (Option Value)} {oc11 kV11 dc11 pm11 ct11 : Value}
    {f12 cd12 : Addr} {od12 an12 : Option Addr} {sl12 : Array (Option Value)} {oc12 kV12 dc12 pm12 ct12 : Value}
    {f13 cd13 : Addr} {od13 an13 : Option Addr} {sl13 : Array (Option Value)} {oc13 kV13 dc13 pm13 ct13 : Value}
    {f14 cd14 : Addr} {od14 an14 : Option Addr} {sl14 : Array (Option Value)} {oc14 kV14 dc14 pm14 ct14 : Value}
    {f15 cd15 : Addr} {od15 an15 : Option Addr} {sl15 : Array (Option Value)} {oc15 kV15 dc15 pm15 ct15 : Value}
    {A_LEAF_WORDS : Addr} {D_LEAF_WORDS : Option Addr} {N_LEAF_WORDS : Nat} {S_LEAF_WORDS : Array (Option Value)} {t0_LEAF_WORDS t1_LEAF_WORDS t2_LEAF_WORDS : Tok}
    {A_SINGLE_WORDS : Addr} {D_SINGLE_WORDS : Option Addr} {N_SINGLE_WORDS : Nat} {S_SINGLE_WORDS : Array (Option Value)} {t0_SINGLE_WORDS t1_SINGLE_WORDS t2_SINGLE_WORDS t3_SINGLE_WORDS : Tok}
    (a0 : PySem.W.nsIn K mainGlobals "kinds_inside" = some (some (.ref f0)))
    (l0 : K.lookup f0 = some ⟨oc0, od0, .func (PySem.W.fnOf "kinds_inside" "kinds_inside" (defArgs s_kinds_inside) (defBody s_kinds_inside) (defScope s_kinds_inside) .none kV0 dc0 pm0 an0 (.ref cd0) ct0), sl0⟩)
    (c0 : PySem.W.codeIn K (.ref cd0) "kinds_inside" = true) (k0 : PySem.W.keepIn K (.ref f0) = true)
    (a1 : PySem.W.nsIn K mainGlobals "is_plain" = some (some (.ref f1)))
    (l1 : K.lookup f1 = some ⟨oc1, od1, .func (PySem.W.fnOf "is_plain" "is_plain" (defArgs s_is_plain) (defBody s_is_plain) (defScope s_is_plain) .none kV1 dc1 pm1 an1 (.ref cd1) ct1), sl1⟩)
    (c1 : PySem.W.codeIn K (.ref cd1) "is_plain" = true) (k1 : PySem.W.keepIn K (.ref f1) = true)
    (m1 : K.lookup cd1 = some ⟨e1, dd1, .fields vs1, sm1⟩) (v1 : (vs1[11]? : Option Value) = some (.ref P1)) (n1 : K.lookup P1 = none) (r1 : ((recsOf q).find? fun e => e.name == ("is_plain" : Str)).isSome = true)
    (a2 : PySem.W.nsIn K mainGlobals "is_copy" = some (some (.ref f2)))
    (l2 : K.lookup f2 = some ⟨oc2, od2, .func (PySem.W.fnOf "is_copy" "is_copy" (defArgs s_is_copy) (defBody s_is_copy) (defScope s_is_copy) .none kV2 dc2 pm2 an2 (.ref cd2) ct2), sl2⟩)
    (c2 : PySem.W.codeIn K (.ref cd2) "is_copy" = true) (k2 : PySem.W.keepIn K (.ref f2) = true)
    (m2 : K.lookup cd2 = some ⟨e2, dd2, .fields vs2, sm2⟩) (v2 : (vs2[11]? : Option Value) = some (.ref P2)) (n2 : K.lookup P2 = none) (r2 : ((recsOf q).find? fun e => e.name == ("is_copy" : Str)).isSome = true)
    (a3 : PySem.W.nsIn K mainGlobals "levels" = some (some (.ref f3)))
    (l3 : K.lookup f3 = some ⟨oc3, od3, .func (PySem.W.fnOf "levels" "levels" (defArgs s_levels) (defBody s_levels) (defScope s_levels) .none kV3 dc3 pm3 an3 (.ref cd3) ct3), sl3⟩)
    (c3 : PySem.W.codeIn K (.ref cd3) "levels" = true) (k3 : PySem.W.keepIn K (.ref f3) = true)
    (a4 : PySem.W.nsIn K mainGlobals "leaves" = some (some (.ref f4)))
    (l4 : K.lookup f4 = some ⟨oc4, od4, .func (PySem.W.fnOf "leaves" "leaves" (defArgs s_leaves) (defBody s_leaves) (defScope s_leaves) .none kV4 dc4 pm4 an4 (.ref cd4) ct4), sl4⟩)
    (c4 : PySem.W.codeIn K (.ref cd4) "leaves" = true) (k4 : PySem.W.keepIn K (.ref f4) = true)
    (a5 : PySem.W.nsIn K mainGlobals "_law_tape" = some (some (.ref f5)))
    (l5 : K.lookup f5 = some ⟨oc5, od5, .func (PySem.W.fnOf "_law_tape" "_law_tape" (defArgs s__law_tape) (defBody s__law_tape) (defScope s__law_tape) .none kV5 dc5 pm5 an5 (.ref cd5) ct5), sl5⟩)
    (c5 : PySem.W.codeIn K (.ref cd5) "_law_tape" = true) (k5 : PySem.W.keepIn K (.ref f5) = true)
    (a6 : PySem.W.nsIn K mainGlobals "_law_next" = some (some (.ref f6)))
    (l6 : K.lookup f6 = some ⟨oc6, od6, .func (PySem.W.fnOf "_law_next" "_law_next" (defArgs s__law_next) (defBody s__law_next) (defScope s__law_next) .none kV6 dc6 pm6 an6 (.ref cd6) ct6), sl6⟩)
    (c6 : PySem.W.codeIn K (.ref cd6) "_law_next" = true) (k6 : PySem.W.keepIn K (.ref f6) = true)
    (a7 : PySem.W.nsIn K mainGlobals "_law_cells" = some (some (.ref f7)))
    (l7 : K.lookup f7 = some ⟨oc7, od7, .func (PySem.W.fnOf "_law_cells" "_law_cells" (defArgs s__law_cells) (defBody s__law_cells) (defScope s__law_cells) .none kV7 dc7 pm7 an7 (.ref cd7) ct7), sl7⟩)
    (c7 : PySem.W.codeIn K (.ref cd7) "_law_cells" = true) (k7 : PySem.W.keepIn K (.ref f7) = true)
    (a8 : PySem.W.nsIn K mainGlobals "_law_fitting" = some (some (.ref f8)))
    (l8 : K.lookup f8 = some ⟨oc8, od8, .func (PySem.W.fnOf "_law_fitting" "_law_fitting" (defArgs s__law_fitting) (defBody s__law_fitting) (defScope s__law_fitting) .none kV8 dc8 pm8 an8 (.ref cd8) ct8), sl8⟩)
    (c8 : PySem.W.codeIn K (.ref cd8) "_law_fitting" = true) (k8 : PySem.W.keepIn K (.ref f8) = true)
    (a9 : PySem.W.nsIn K mainGlobals "_law_kind" = some (some (.ref f9)))
    (l9 : K.lookup f9 = some ⟨oc9, od9, .func (PySem.W.fnOf "_law_kind" "_law_kind" (defArgs s__law_kind) (defBody s__law_kind) (defScope s__law_kind) .none kV9 dc9 pm9 an9 (.ref cd9) ct9), sl9⟩)
    (c9 : PySem.W.codeIn K (.ref cd9) "_law_kind" = true) (k9 : PySem.W.keepIn K (.ref f9) = true)
    (a10 : PySem.W.nsIn K mainGlobals "_law_plain" = some (some (.ref f10)))
    (l10 : K.lookup f10 = some ⟨oc10, od10, .func (PySem.W.fnOf "_law_plain" "_law_plain" (defArgs s__law_plain) (defBody s__law_plain) (defScope s__law_plain) .none kV10 dc10 pm10 an10 (.ref cd10) ct10), sl10⟩)
    (c10 : PySem.W.codeIn K (.ref cd10) "_law_plain" = true) (k10 : PySem.W.keepIn K (.ref f10) = true)
    (a11 : PySem.W.nsIn K mainGlobals "_law_copy" = some (some (.ref f11)))
    (l11 : K.lookup f11 = some ⟨oc11, od11, .func (PySem.W.fnOf "_law_copy" "_law_copy" (defArgs s__law_copy) (defBody s__law_copy) (defScope s__law_copy) .none kV11 dc11 pm11 an11 (.ref cd11) ct11), sl11⟩)
    (c11 : PySem.W.codeIn K (.ref cd11) "_law_copy" = true) (k11 : PySem.W.keepIn K (.ref f11) = true)
    (a12 : PySem.W.nsIn K mainGlobals "_law_levels" = some (some (.ref f12)))
    (l12 : K.lookup f12 = some ⟨oc12, od12, .func (PySem.W.fnOf "_law_levels" "_law_levels" (defArgs s__law_levels) (defBody s__law_levels) (defScope s__law_levels) .none kV12 dc12 pm12 an12 (.ref cd12) ct12), sl12⟩)
    (c12 : PySem.W.codeIn K (.ref cd12) "_law_levels" = true) (k12 : PySem.W.keepIn K (.ref f12) = true)
    (a13 : PySem.W.nsIn K mainGlobals "_law_leaves" = some (some (.ref f13)))
    (l13 : K.lookup f13 = some ⟨oc13, od13, .func (PySem.W.fnOf "_law_leaves" "_law_leaves" (defArgs s__law_leaves) (defBody s__law_leaves) (defScope s__law_leaves) .none kV13 dc13 pm13 an13 (.ref cd13) ct13), sl13⟩)
    (c13 : PySem.W.codeIn K (.ref cd13) "_law_leaves" = true) (k13 : PySem.W.keepIn K (.ref f13) = true)
    (a14 : PySem.W.nsIn K mainGlobals "_law_is" = some (some (.ref f14)))
    (l14 : K.lookup f14 = some ⟨oc14, od14, .func (PySem.W.fnOf "_law_is" "_law_is" (defArgs s__law_is) (defBody s__law_is) (defScope s__law_is) .none kV14 dc14 pm14 an14 (.ref cd14) ct14), sl14⟩)
    (c14 : PySem.W.codeIn K (.ref cd14) "_law_is" = true) (k14 : PySem.W.keepIn K (.ref f14) = true)
    (a15 : PySem.W.nsIn K mainGlobals "law" = some (some (.ref f15)))
    (l15 : K.lookup f15 = some ⟨oc15, od15, .func (PySem.W.fnOf "law" "law" (defArgs s_law) (defBody s_law) (defScope s_law) .none kV15 dc15 pm15 an15 (.ref cd15) ct15), sl15⟩)
    (c15 : PySem.W.codeIn K (.ref cd15) "law" = true) (k15 : PySem.W.keepIn K (.ref f15) = true)
    (z_len : PySem.W.nsIn K mainGlobals "len" = some none)
    (z_int : PySem.W.nsIn K mainGlobals "int" = some none)
    (z_abs : PySem.W.nsIn K mainGlobals "abs" = some none)
    (z_range : PySem.W.nsIn K mainGlobals "range" = some none)
    (z_tuple : PySem.W.nsIn K mainGlobals "tuple" = some none)
    (z_sum : PySem.W.nsIn K mainGlobals "sum" = some none)
    (z_max : PySem.W.nsIn K mainGlobals "max" = some none)
    (z_all : PySem.W.nsIn K mainGlobals "all" = some none)
    (z_enumerate : PySem.W.nsIn K mainGlobals "enumerate" = some none)
    (z_list : PySem.W.nsIn K mainGlobals "list" = some none)
    (z_str : PySem.W.nsIn K mainGlobals "str" = some none)
    (b_LEAF_WORDS : PySem.W.nsIn K mainGlobals "LEAF_WORDS" = some (some (.ref A_LEAF_WORDS))) (w_LEAF_WORDS : K.lookup A_LEAF_WORDS = some ⟨.type "tuple", D_LEAF_WORDS, .seq #[.str "shared" t0_LEAF_WORDS, .str "exclusive" t1_LEAF_WORDS, .str "task" t2_LEAF_WORDS] N_LEAF_WORDS, S_LEAF_WORDS⟩)
    (b_SINGLE_WORDS : PySem.W.nsIn K mainGlobals "SINGLE_WORDS" = some (some (.ref A_SINGLE_WORDS))) (w_SINGLE_WORDS : K.lookup A_SINGLE_WORDS = some ⟨.type "tuple", D_SINGLE_WORDS, .seq #[.str "int" t0_SINGLE_WORDS, .str "bool" t1_SINGLE_WORDS, .str "unit" t2_SINGLE_WORDS, .str "record" t3_SINGLE_WORDS] N_SINGLE_WORDS, S_SINGLE_WORDS⟩) :
    LamX.LawAtS l w K CX0 20 63 "script" mg fa h := by
  have e := hfa.symm.trans (PySem.W.mg_of X G a15)
  cases e
  let T : Txt K mg := {
    tb := [P1, P2],
    kinds_inside := ⟨f0, _, cd0, ⟨⟨oc0, od0, kV0, dc0, pm0, an0, ct0, sl0, rfl, l0, c0⟩, k0⟩, PySem.W.mg_of X G a0, (fun_mk (st := s_kinds_inside) l0 c0 k0).binds (ps := ["kind"]) fun _ _ _ _ _ _ us hl => match us, hl with | [_], _ => rfl⟩,
    is_plain := ⟨f1, _, cd1, ⟨⟨oc1, od1, kV1, dc1, pm1, an1, ct1, sl1, rfl, l1, c1⟩, k1⟩, PySem.W.mg_of X G a1, (fun_mk (st := s_is_plain) l1 c1 k1).binds (ps := ["kind"]) fun _ _ _ _ _ _ us hl => match us, hl with | [_], _ => rfl⟩,
    P_is_plain := P1,
    hP_is_plain := by simp,
    is_copy := ⟨f2, _, cd2, ⟨⟨oc2, od2, kV2, dc2, pm2, an2, ct2, sl2, rfl, l2, c2⟩, k2⟩, PySem.W.mg_of X G a2, (fun_mk (st := s_is_copy) l2 c2 k2).binds (ps := ["kind"]) fun _ _ _ _ _ _ us hl => match us, hl with | [_], _ => rfl⟩,
    P_is_copy := P2,
    hP_is_copy := by simp,
    levels := ⟨f3, _, cd3, ⟨⟨oc3, od3, kV3, dc3, pm3, an3, ct3, sl3, rfl, l3, c3⟩, k3⟩, PySem.W.mg_of X G a3, (fun_mk (st := s_levels) l3 c3 k3).binds (ps := ["kind"]) fun _ _ _ _ _ _ us hl => match us, hl with | [_], _ => rfl⟩,
    leaves := ⟨f4, _, cd4, ⟨⟨oc4, od4, kV4, dc4, pm4, an4, ct4, sl4, rfl, l4, c4⟩, k4⟩, PySem.W.mg_of X G a4, (fun_mk (st := s_leaves) l4 c4 k4).binds (ps := ["kind"]) fun _ _ _ _ _ _ us hl => match us, hl with | [_], _ => rfl⟩,
    _law_tape := ⟨f5, _, cd5, ⟨⟨oc5, od5, kV5, dc5, pm5, an5, ct5, sl5, rfl, l5, c5⟩, k5⟩, PySem.W.mg_of X G a5, (fun_mk (st := s__law_tape) l5 c5 k5).binds (ps := ["script"]) fun _ _ _ _ _ _ us hl => match us, hl with | [_], _ => rfl⟩,
    _law_next := ⟨f6, _, cd6, ⟨⟨oc6, od6, kV6, dc6, pm6, an6, ct6, sl6, rfl, l6, c6⟩, k6⟩, PySem.W.mg_of X G a6, (fun_mk (st := s__law_next) l6 c6 k6).binds (ps := ["tape", "many"]) fun _ _ _ _ _ _ us hl => match us, hl with | [_, _], _ => rfl⟩,
    _law_cells := ⟨f7, _, cd7, ⟨⟨oc7, od7, kV7, dc7, pm7, an7, ct7, sl7, rfl, l7, c7⟩, k7⟩, PySem.W.mg_of X G a7, (fun_mk (st := s__law_cells) l7 c7 k7).binds (ps := ["kind"]) fun _ _ _ _ _ _ us hl => match us, hl with | [_], _ => rfl⟩,
    _law_fitting := ⟨f8, _, cd8, ⟨⟨oc8, od8, kV8, dc8, pm8, an8, ct8, sl8, rfl, l8, c8⟩, k8⟩, PySem.W.mg_of X G a8, (fun_mk (st := s__law_fitting) l8 c8 k8).binds (ps := ["items", "most"]) fun _ _ _ _ _ _ us hl => match us, hl with | [_, _], _ => rfl⟩,
    _law_kind := ⟨f9, _, cd9, ⟨⟨oc9, od9, kV9, dc9, pm9, an9, ct9, sl9, rfl, l9, c9⟩, k9⟩, PySem.W.mg_of X G a9, (fun_mk (st := s__law_kind) l9 c9 k9).binds (ps := ["tape", "depth", "plain"]) fun _ _ _ _ _ _ us hl => match us, hl with | [_, _, _], _ => rfl⟩,
    _law_plain := ⟨f10, _, cd10, ⟨⟨oc10, od10, kV10, dc10, pm10, an10, ct10, sl10, rfl, l10, c10⟩, k10⟩, PySem.W.mg_of X G a10, (fun_mk (st := s__law_plain) l10 c10 k10).binds (ps := ["kind"]) fun _ _ _ _ _ _ us hl => match us, hl with | [_], _ => rfl⟩,
    _law_copy := ⟨f11, _, cd11, ⟨⟨oc11, od11, kV11, dc11, pm11, an11, ct11, sl11, rfl, l11, c11⟩, k11⟩, PySem.W.mg_of X G a11, (fun_mk (st := s__law_copy) l11 c11 k11).binds (ps := ["kind"]) fun _ _ _ _ _ _ us hl => match us, hl with | [_], _ => rfl⟩,
    _law_levels := ⟨f12, _, cd12, ⟨⟨oc12, od12, kV12, dc12, pm12, an12, ct12, sl12, rfl, l12, c12⟩, k12⟩, PySem.W.mg_of X G a12, (fun_mk (st := s__law_levels) l12 c12 k12).binds (ps := ["kind"]) fun _ _ _ _ _ _ us hl => match us, hl with | [_], _ => rfl⟩,
    _law_leaves := ⟨f13, _, cd13, ⟨⟨oc13, od13, kV13, dc13, pm13, an13, ct13, sl13, rfl, l13, c13⟩, k13⟩, PySem.W.mg_of X G a13, (fun_mk (st := s__law_leaves) l13 c13 k13).binds (ps := ["kind"]) fun _ _ _ _ _ _ us hl => match us, hl with | [_], _ => rfl⟩,
    _law_is := ⟨f14, _, cd14, ⟨⟨oc14, od14, kV14, dc14, pm14, an14, ct14, sl14, rfl, l14, c14⟩, k14⟩, PySem.W.mg_of X G a14, (fun_mk (st := s__law_is) l14 c14 k14).binds (ps := ["answer", "due"]) fun _ _ _ _ _ _ us hl => match us, hl with | [_, _], _ => rfl⟩,
    law := ⟨fa, _, cd15, ⟨⟨oc15, od15, kV15, dc15, pm15, an15, ct15, sl15, rfl, l15, c15⟩, k15⟩, PySem.W.mg_of X G a15, (fun_mk (st := s_law) l15 c15 k15).binds (ps := ["script"]) fun _ _ _ _ _ _ us hl => match us, hl with | [_], _ => rfl⟩,
    z_len := PySem.W.mg_none_of X G z_len,
    z_int := PySem.W.mg_none_of X G z_int,
    z_abs := PySem.W.mg_none_of X G z_abs,
    z_range := PySem.W.mg_none_of X G z_range,
    z_tuple := PySem.W.mg_none_of X G z_tuple,
    z_sum := PySem.W.mg_none_of X G z_sum,
    z_max := PySem.W.mg_none_of X G z_max,
    z_all := PySem.W.mg_none_of X G z_all,
    z_enumerate := PySem.W.mg_none_of X G z_enumerate,
    z_list := PySem.W.mg_none_of X G z_list,
    z_str := PySem.W.mg_none_of X G z_str,
    a_LEAF_WORDS := A_LEAF_WORDS,
    g_LEAF_WORDS := PySem.W.mg_of X G b_LEAF_WORDS,
    d_LEAF_WORDS := dr_con (xs := [.str "shared", .str "exclusive", .str "task"]) (.inr ⟨_, _, _, w_LEAF_WORDS, rfl, rfl, by show 3 ≤ sizeLine; decide, (.cons ⟨t0_LEAF_WORDS, rfl⟩ (.cons ⟨t1_LEAF_WORDS, rfl⟩ (.cons ⟨t2_LEAF_WORDS, rfl⟩ .nil)))⟩) fun _ => (.cons (.str _) (.cons (.str _) (.cons (.str _) .nil))),
    a_SINGLE_WORDS := A_SINGLE_WORDS,
    g_SINGLE_WORDS := PySem.W.mg_of X G b_SINGLE_WORDS,
    d_SINGLE_WORDS := dr_con (xs := [.str "int", .str "bool", .str "unit", .str "record"]) (.inr ⟨_, _, _, w_SINGLE_WORDS, rfl, rfl, by show 4 ≤ sizeLine; decide, (.cons ⟨t0_SINGLE_WORDS, rfl⟩ (.cons ⟨t1_SINGLE_WORDS, rfl⟩ (.cons ⟨t2_SINGLE_WORDS, rfl⟩ (.cons ⟨t3_SINGLE_WORDS, rfl⟩ .nil))))⟩) fun _ => (.cons (.str _) (.cons (.str _) (.cons (.str _) (.cons (.str _) .nil)))) }
  have t1 := TT "is_plain" cd1 P1 r1 (tab_in a1 l1 rfl m1 v1)
  have t2 := TT "is_copy" cd2 P2 r2 (tab_in a2 l2 rfl m2 v2)
  refine ⟨T.law.fd, [(cd1, P1), (cd2, P2)], spD K T.tb 1 m_law, (List.forall_mem_cons.mpr ⟨t1.2, (List.forall_mem_cons.mpr ⟨t2.2, (fun _ z => absurd z List.not_mem_nil)⟩)⟩), (List.forall_mem_cons.mpr ⟨n1, (List.forall_mem_cons.mpr ⟨n2, (fun _ z => absurd z List.not_mem_nil)⟩)⟩), (List.forall_mem_cons.mpr ⟨t1.1, (List.forall_mem_cons.mpr ⟨t2.1, (fun _ z => absurd z List.not_mem_nil)⟩)⟩), fun s v => .of_eq rfl, fun H a ns _ _ hH hS => ?_, fun base _ _ TB => ?_⟩
  · obtain ⟨S', e⟩ := law_ok ns
    exact spD_law e (List.forall_mem_cons.mpr ⟨hH (cd1, P1) (by simp), (List.forall_mem_cons.mpr ⟨hH (cd2, P2) (by simp), (fun _ z => absurd z List.not_mem_nil)⟩)⟩) hS
  · exact ok_law T ⟨trivial, tabG_of (TB (cd1, P1) (by simp)), tabG_of (TB (cd2, P2) (by simp))⟩
end k01
open PySem PySem.W PyProof.Rows
set_option maxRecDepth 100000 in
set_option maxHeartbeats 0 in
theorem PySem.Challenge.cw_forklent_k01_kinds_holds : PySem.Challenge.rw_forklent_k01_kinds.Holds := by
  w_on; o_law; k_head; (case hw => w_witness2)
  k_fill
  refine Pd.walk_tabs (l := PySem.Challenge.rw_forklent_k01_kinds) (n := 63) (k := 20) (x := "script") (CX := fun _ => L2.CX0) rfl (by decide) rfl ⟨rfl, by decide, by decide⟩ (fun w h Y => PySem.W.kIn_of Y) ?F fun _ _ _ _ _ z => z
  case F =>
    intro w mg fa h KX G hmg TT
    refine' k01.all_mk KX G hmg TT ?a0 ?l0 ?c0 ?k0 ?a1 ?l1 ?c1 ?k1 ?m1 ?v1 ?n1 ?r1 ?a2 ?l2 ?c2 ?k2 ?m2 ?v2 ?n2 ?r2 ?a3 ?l3 ?c3 ?k3 ?a4 ?l4 ?c4 ?k4 ?a5 ?l5 ?c5 ?k5 ?a6 ?l6 ?c6 ?k6 ?a7 ?l7 ?c7 ?k7 ?a8 ?l8 ?c8 ?k8 ?a9 ?l9 ?c9 ?k9 ?a10 ?l10 ?c10 ?k10 ?a11 ?l11 ?c11 ?k11 ?a12 ?l12 ?c12 ?k12 ?a13 ?l13 ?c13 ?k13 ?a14 ?l14 ?c14 ?k14 ?a15 ?l15 ?c15 ?k15 ?z_len ?z_int ?z_abs ?z_range ?z_tuple ?z_sum ?z_max ?z_all ?z_enumerate ?z_list ?z_str ?b_LEAF_WORDS ?w_LEAF_WORDS ?b_SINGLE_WORDS ?w_SINGLE_WORDS
    (case a0 => k_is)
    (case l0 => k_is)
    (case c0 => k_is)
    (case k0 => k_is)
    (case a1 => k_is)
    (case l1 => k_is)
    (case c1 => k_is)
    (case k1 => k_is)
    (case m1 => k_is)
    (case v1 => exact rfl)
    (case n1 => kernel_rfl)
    (case r1 => decide +kernel)
    (case a2 => k_is)
    (case l2 => k_is)
    (case c2 => k_is)
    (case k2 => k_is)
    (case m2 => k_is)
    (case v2 => exact rfl)
    (case n2 => kernel_rfl)
    (case r2 => decide +kernel)
    (case a3 => k_is)
    (case l3 => k_is)
    (case c3 => k_is)
    (case k3 => k_is)
    (case a4 => k_is)
    (case l4 => k_is)
    (case c4 => k_is)
    (case k4 => k_is)
    (case a5 => k_is)
    (case l5 => k_is)
    (case c5 => k_is)
    (case k5 => k_is)
    (case a6 => k_is)
    (case l6 => k_is)
    (case c6 => k_is)
    (case k6 => k_is)
    (case a7 => k_is)
    (case l7 => k_is)
    (case c7 => k_is)
    (case k7 => k_is)
    (case a8 => k_is)
    (case l8 => k_is)
    (case c8 => k_is)
    (case k8 => k_is)
    (case a9 => k_is)
    (case l9 => k_is)
    (case c9 => k_is)
    (case k9 => k_is)
    (case a10 => k_is)
    (case l10 => k_is)
    (case c10 => k_is)
    (case k10 => k_is)
    (case a11 => k_is)
    (case l11 => k_is)
    (case c11 => k_is)
    (case k11 => k_is)
    (case a12 => k_is)
    (case l12 => k_is)
    (case c12 => k_is)
    (case k12 => k_is)
    (case a13 => k_is)
    (case l13 => k_is)
    (case c13 => k_is)
    (case k13 => k_is)
    (case a14 => k_is)
    (case l14 => k_is)
    (case c14 => k_is)
    (case k14 => k_is)
    (case a15 => k_is)
    (case l15 => k_is)
    (case c15 => k_is)
    (case k15 => k_is)
    (case z_len => k_is)
    (case z_int => k_is)
    (case z_abs => k_is)
    (case z_range => k_is)
    (case z_tuple => k_is)
    (case z_sum => k_is)
    (case z_max => k_is)
    (case z_all => k_is)
    (case z_enumerate => k_is)
    (case z_list => k_is)
    (case z_str => k_is)
    (case b_LEAF_WORDS => k_is)
    (case w_LEAF_WORDS => k_is)
    (case b_SINGLE_WORDS => k_is)
    (case w_SINGLE_WORDS => k_is)
