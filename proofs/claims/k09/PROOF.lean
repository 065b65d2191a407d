import PyProof.Rows.All
import Wide.All
import OpenK.AllK
import Wide.FinOn
import HandS.ForExc
import HandS.Comp
import HandS.AnyAll
import HandS.GenOver
import HandS.GenList
import HandS.Iter
import HandS.More
import KE.KDictKeyed
import HandS.Text
import HandS.Codes
import HandS.IsInst
import HandS.ExcIs
import HandS.FStr
import HandS.RaiseMore
import HandS.Wide
import HandS.TupAny
import KE.GoesMore
import KE.GoesEnum
import HandS.Style
import KE.DataMinMax
import HandS.SortKw
import HandS.Rev
import HandS.DictComp
import HandS.DeepEq
import HandS.RevTup
import PyProof.ListNew
import KE.DataCmp
import HandS.WordsDict
import HandS.Zip
import KE.KDictZip
import HandS.SetKeys
import HandS.Deep
import Wide.Seal
import PySem.Challenge.RW_forklent_k09_effects_of_places
import HandS.EndOwn
import KE.RegKIsAll
set_option compiler.extract_closed false
set_option Elab.async false
set_option linter.all false
set_option maxRecDepth 100000
set_option maxHeartbeats 8000000
namespace Gx
open PySem PySem.Spec PyProof.Rows L2 GxR GenW
section
variable {X : Cx} {pins : List (Addr × Obj)} {σ : L2.St} {H : Hp} {s : Shared}
theorem inv_gens {h' : Heap} {G : Array GenState} {t : Nat} (I : Inv X pins σ H s) (k : ∀ b o, s.heap.get? b = some o → h'.get? b = some o) (hG : AllBare G) :
    Inv X pins σ H { s with heap := h', gens := G, toks := t } := by
  refine I.step (g' := G) (d' := s.drawn) (ch := []) (fun b hb => absurd hb (by simp)) (fun b o _ _ _ e n => k b o e) (fun b o _ _ _ e n => ⟨o.slots, k b o e⟩)
    (fun b o _ e n => n) (fun b o _ e => ⟨o, k b o e⟩) (fun b xs e => e) (fun b o u e => e) (fun b qs e => ⟨#[], by rw [e]; simp⟩) (fun m hn => ?_) (I.hok.kept k) hG
  obtain ⟨ob, es, ep, ho, r⟩ := hn
  exact ⟨ob, es, ep, k _ ob ho, r⟩
end
noncomputable abbrev gcx (X : Cx) (s : Shared) (H : Hp) (genv : Env) (fp : List Addr) (A' : Around) (pn : List (Addr × Obj)) : Cx :=
  { X with A := A', s_0 := s, H_0 := H, env := genv, outer := X.stack, stack := genv :: X.stack, ex := fp, fn := fun _ => false, pn := pn, xe := fun _ _ => False }
section
variable {X : Cx} {pins : List (Addr × Obj)} {σ : L2.St} {H : Hp} {s : Shared}
theorem gen_start {scope : Scope} {own : List (Str × Nat)} {fp : List Addr} {A' : Around} {code : Value} {h' : Heap} {gobj : Obj} {it : Value} {G : Array GenState} {t : Nat}
    (I : Inv X pins σ H s) (ok : BlkOk X.N X.env.scope scope own) (hN : X.N.Nodup) (nocell : ∀ y ∈ scope.names, y.2 ≠ .cell) (hfp : ∀ b ∈ fp, FpOk X pins H b ∧ b < s.heap.objs.size)
    (hA : A'.handled = none) (hfr : A'.frames = some (genEnv scope (cloFrom X.env.cells scope.names []) s.heap.objs.size code builtinsNs X.env :: X.stack))
    (hns : h'.Ns s.heap.objs.size (fun y => if y = (".0" : Str) then some it else none)) (hsb : Heap.SameBut s.heap.objs.size (s.heap.push { cls := .type "frame", data := .dict #[] }) h') (hgd : ∀ v, gobj.data ≠ .cell v) (hgf : gobj.isFreed = false) (hG : AllBare G)
    (hdot : ∀ (i : Nat), X.N[i]? ≠ some (".0" : Str)) :
    Inv (gcx X s H (genEnv scope (cloFrom X.env.cells scope.names []) s.heap.objs.size code builtinsNs X.env) fp A' [(h'.objs.size, gobj)]) [] (wipe σ (own.map (·.2))) H { s with heap := h'.push gobj, gens := G, toks := t } := by
  have hfree : ∀ y ∈ scope.names, y.2 = .free → ∃ c, X.env.cells.lookup y.1 = some c := fun y hy e => by
    rcases ok.free y hy e with k | k
    · exact I.ok.has _ (.inl k)
    · exact I.ok.has _ (.inr k)
  generalize hcenv : genEnv scope (cloFrom X.env.cells scope.names []) s.heap.objs.size code builtinsNs X.env = cenv at hfr ⊢
  have sz' : h'.objs.size = s.heap.objs.size + 1 := by rw [hsb.1, Heap.size_push]
  have kp' : ∀ b o, s.heap.get? b = some o → h'.get? b = some o := fun b o e => hsb.extBut b o (Nat.ne_of_lt (Heap.lt_size e)) (Heap.get?_push_of_some _ e)
  have kp : ∀ b o, s.heap.get? b = some o → (h'.push gobj).get? b = some o := fun b o e => Heap.get?_push_of_some _ (kp' b o e)
  have hL : cenv.locals = s.heap.objs.size := by rw [← hcenv]; rfl
  have hcl : cenv.cells = cloFrom X.env.cells scope.names [] := by rw [← hcenv]; rfl
  have hsc : cenv.scope = scope := by rw [← hcenv]; rfl
  have cm : ∀ {y c}, (y, c) ∈ cloFrom X.env.cells scope.names [] → X.env.cells.lookup y = some c ∧ c < s.heap.objs.size := fun {y c} hm => by
    rcases cloFrom_mem hm with hm | ⟨h1, rfl⟩
    · cases hm
    · obtain ⟨c, hc⟩ := hfree _ h1 rfl
      rw [hc]
      obtain ⟨w, z⟩ := I.cell _ _ hc
      exact ⟨rfl, z.lt⟩
  have mem : ∀ {y c}, cenv.cells.lookup y = some c → X.env.cells.lookup y = some c ∧ c < s.heap.objs.size := fun {y c} e => by
    rw [hcl] at e
    exact cm (PySem.mem_of_lookup e)
  have look : ∀ {y}, scope.names.lookup y = some .free → ∃ c, cenv.cells.lookup y = some c ∧ X.env.cells.lookup y = some c := fun {y} hl => by
    have hy : (y, NameKind.free) ∈ scope.names := PySem.mem_of_lookup hl
    obtain ⟨c', e'⟩ := mem_lookup (cloFrom_has (cells := X.env.cells) (acc := []) hy)
    rw [← hcl] at e'
    exact ⟨c', e', (mem e').1⟩
  have nocell' : ∀ y, scope.names.lookup y ≠ some .cell := fun y e => nocell _ (PySem.mem_of_lookup e) rfl
  have okB : (gcx X s H cenv fp A' [(h'.objs.size, gobj)]).Ok := by
    refine ⟨I.ok.mod, by show cenv.scope.kind = _; rw [hsc]; exact ok.kind, by show cenv.globals = _; rw [← hcenv]; exact I.ok.glob, by show cenv.builtins = _; rw [← hcenv]; rfl, by show s.heap.objs.size ≤ cenv.locals; rw [hL]; exact Nat.le_refl _,
      fun y z c e1 e2 => ?_, fun y hy => ?_, fun y c z e => ?_, fun _ => hA, hfr, .inr ⟨rfl, by show cenv.frame = some cenv.locals; rw [← hcenv]; rfl⟩, fun b hb => ⟨?_, fun y c e z => ?_⟩, I.bs, Nat.le_trans I.ok.bsz I.sz, fun b o e hb => ?_, fun b hb z => ?_, I.stack, I.stkFree⟩
    · exact I.ok.inj y z c (mem e1).1 (mem e2).1
    · show ∃ c, cenv.cells.lookup y = some c
      have hy : cenv.scope.names.lookup y = some .cell ∨ cenv.scope.names.lookup y = some .free := hy
      rw [hsc] at hy
      rcases hy with hy | hy
      · exact absurd hy (nocell' y)
      · obtain ⟨c, h1, _⟩ := look hy
        exact ⟨c, h1⟩
    · exact absurd (show false = true from z) Bool.false_ne_true
    · show b ≠ cenv.locals
      rw [hL]; exact Nat.ne_of_lt (hfp b hb).2
    · exact (hfp b hb).1.2.2.2.2.1 y c (mem e).1 z
    · rcases (hfp b hb).1.2.2.2.1 with z | z
      · exact I.ok.noex b o e z
      · exact absurd (Nat.lt_of_lt_of_le (Heap.lt_size e) (Nat.le_trans I.ok.bsz z)) (Nat.lt_irrefl _)
    · rcases List.mem_cons.mp (I.stkSub b z) with z | z
      · exact (hfp b hb).1.2.1 z
      · exact (hfp b hb).1.2.2.1 z
  have freeL : H cenv.locals = none := by rw [hL]; exact I.hok.fresh (Nat.le_refl _)
  refine ⟨okB, rfl, hG, Un.kept kp, ⟨fun y => if y = (".0" : Str) then some it else none, ?_, fun i y av e1 e2 e3 => ?_⟩, fun y c e => ?_, freeL, fun y c e => I.freeC y c (mem e).1, fun p hp => ?_, I.hok.kept kp, by rw [wipe_length]; exact I.len⟩
  · show Heap.Ns _ cenv.locals _
    rw [hL]
    exact hns.push _
  · obtain ⟨e2, hne⟩ := wipe_some e2
    have e3 : Vis cenv.scope y := e3
    rw [hsc] at e3
    have e1' : X.N[i]? = some y := e1
    have hfr : scope.names.lookup y = some .free := by
      have no : ∀ k', scope.names.lookup y = some k' → k' ≠ .local := fun k' e hh => by
        subst hh
        rcases ok.own _ (PySem.mem_of_lookup e) (.inl rfl) with e' | e'
        · obtain ⟨p, hp, hpy⟩ := List.mem_map.mp e'
          have e3 := ok.ix p hp
          have : p.1 = y := hpy
          rw [this] at e3
          exact hne (List.mem_map.mpr ⟨p, hp, nodup_ix hN e3 e1'⟩)
        · exact e' (List.mem_of_getElem? e1')
      rcases e3 with e3 | e3 | e3
      · exact absurd rfl (no _ e3)
      · exact absurd e3 (nocell' y)
      · exact e3
    obtain ⟨m, hn, hl⟩ := I.loc
    have hvis : Vis X.env.scope y := (ok.free _ (PySem.mem_of_lookup hfr) rfl).elim (fun k => .inr (.inl k)) (fun k => .inr (.inr k))
    obtain ⟨w, r, q⟩ := hl i y av e1 e2 hvis
    refine ⟨w, r, .inr ⟨.inr (by show cenv.scope.names.lookup y = _; rw [hsc]; exact hfr), ?_⟩⟩
    obtain ⟨c, h1, h2⟩ := look hfr
    rcases q with ⟨k, _⟩ | ⟨_, c', e', z⟩
    · have k : X.env.scope.names.lookup y = some .local := k
      rcases ok.free _ (PySem.mem_of_lookup hfr) rfl with k' | k' <;> rw [show X.env.scope.names.lookup y = _ from k'] at k <;> cases k
    · rw [h2] at e'; cases e'
      exact ⟨c, h1, z.keeps kp⟩
  · obtain ⟨w, z⟩ := I.cell y c (mem e).1
    exact ⟨w, z.keeps kp⟩
  · have hp : p = (h'.objs.size, gobj) := by simpa using hp
    subst hp
    refine ⟨Heap.get?_push_size _ hgf, I.hok.fresh (by rw [sz']; exact Nat.le_succ _), ?_, fun z => ?_, hgd⟩
    · show h'.objs.size ≠ cenv.locals
      rw [hL, sz']; exact Nat.succ_ne_self _
    · have z : h'.objs.size ∈ frs X.stack := z
      have hlt : ∀ b ∈ frs X.stack, b < s.heap.objs.size := fun b hb => by
        obtain ⟨_, o, ho, _⟩ := I.stack.mem hb
        exact Heap.lt_size ho
      have := hlt _ z
      rw [sz'] at this
      exact absurd (Nat.lt_of_succ_lt this) (Nat.lt_irrefl _)
end
theorem all_loop {prog : Program} {w : World} {A : Around} {R : Result → Shared → Prop} {a : Addr} {n : Nat} (P : Nat → Shared → Prop)
    (hi : ∀ i s, P i s → wpAny (model prog w) A.in1 (pyNext (.ref a)) (fun r s' => (i = n ∧ r = none ∧ R (.ok (.ret (.bool true))) s') ∨ (∃ b, r = some (.bool b) ∧ if b = true then i < n ∧ P (i + 1) s' else R (.ok (.ret (.bool false))) s')) (fun _ _ => False) s) :
    ∀ (k i : Nat) (s : Shared), n - i = k → P i s → codeAny (model prog w) A (.builtin "all.loop" ⟨[.ref a], []⟩) R s := by
  intro k
  induction k with
  | zero =>
    intro i s hk hp
    refine codeAny_builtin F.entry_all_loop ?_
    rw [Around.under_plainId F.plain_all_loop _]
    show wpAny _ A.in1 (pyNext (.ref a) >>= _) _ _ s
    refine wpAny_bind (wpAny_mono (hi i s hp) (fun r s' h => ?_) fun _ _ z => z.elim)
    rcases h with ⟨_, rfl, hR⟩ | ⟨b, rfl, hb⟩
    · exact wpAny_bind (wpAny_rule (wpAny_pure hR))
    · refine wpAny_bind (wpAny_holding (wpAny_truthy_bool ?_))
      refine wpAny_bind (wpAny_letGo ?_)
      cases b with
      | true =>
        have := hb.1
        omega
      | false =>
        simp only [Bool.false_eq_true, if_false] at hb ⊢
        exact wpAny_bind (wpAny_rule (wpAny_pure hb))
  | succ k ih =>
    intro i s hk hp
    refine codeAny_builtin F.entry_all_loop ?_
    rw [Around.under_plainId F.plain_all_loop _]
    show wpAny _ A.in1 (pyNext (.ref a) >>= _) _ _ s
    refine wpAny_bind (wpAny_mono (hi i s hp) (fun r s' h => ?_) fun _ _ z => z.elim)
    rcases h with ⟨_, rfl, hR⟩ | ⟨b, rfl, hb⟩
    · exact wpAny_bind (wpAny_rule (wpAny_pure hR))
    · refine wpAny_bind (wpAny_holding (wpAny_truthy_bool ?_))
      refine wpAny_bind (wpAny_letGo ?_)
      cases b with
      | true =>
        simp only [if_true] at hb ⊢
        exact wpAny_pure ⟨plainId_quiet F.plain_all_loop _, ih (i + 1) _ (by have := hb.1; omega) hb.2⟩
      | false =>
        simp only [Bool.false_eq_true, if_false] at hb ⊢
        exact wpAny_bind (wpAny_rule (wpAny_pure hb))
noncomputable def TurnsAll (J : It) (g : TG) (te : TE) (σ : L2.St) (vs : List Nat) (n : Nat) (W : Nat → Hp → Prop) (Q : VK) : Prop :=
  ∀ i H, W i H → (i = n ∧ J.stop i H ∧ Q (.bl true) H) ∨ (i < n ∧ J.go i H ∧ ∀ x H', J.yld i H x H' → g x (wipe σ vs) H' fun σ2 H3 => wipe σ2 vs = wipe σ vs ∧ te σ2 H3 fun y H4 => ∃ b, y = .bl b ∧ if b = true then W (i + 1) H4 else Q (.bl false) H4)
noncomputable def YAll (X' : Cx) (gi : Nat) (Q : VK) : Protocol := fun _ _ v s kap =>
  ∃ b, v = .bool b ∧ gi < s.gens.size ∧ (∃ pins' σ' H', Inv X' pins' σ' H' s ∧ (b = false → Q (.bl false) H')) ∧ (b = true → ∀ G', AllBare G' → gi < G'.size → kap (.send .none) { s with gens := G' })
noncomputable def RAll (X' : Cx) (gi : Nat) (Q : VK) : Nat → Shared → Shared → Prop := fun m _ s₁ => m = 0 ∧ gi < s₁.gens.size ∧ ∃ pins' σ' H', Inv X' pins' σ' H' s₁ ∧ Q (.bl true) H'
theorem seg_gsz {α : Type} {M : Model} {A : Around} {R : GenEnd} {Y : Protocol} {n gi : Nat} {s₀ : Shared} {c : Code} {fs : List Frame} {s : Shared} {β : Type} {m : Sem α} {K : α → Sem β} {K' : β → Sem PySem.Fin} {H' : Value → Sem PySem.Fin} {gd lv} (hg : gi < s.gens.size)
    (h : wpAny M (A.over c fs) m (fun a s' => gi < s'.gens.size → Seg M A R Y n s₀ c ((K a).wrap K' H' gd lv) fs s') (fun _ _ => False) s) : Seg M A R Y n s₀ c ((m >>= K).wrap K' H' gd lv) fs s :=
  seg_bind_wrap (wpAny_gsz (n := gi + 1) hg (wpAny_mono h (fun _ _ z hg => z hg) fun _ _ z => z.elim))
section
variable {X : Cx} {s1 : Shared} {H1 : Hp} {genv : Env} {fp : List Addr} {A₁ : Around} {pn : List (Addr × Obj)} {elt tg iter : Expr} {scope : Scope} {pos : Pos} {it : Addr}
theorem seg_all {J : It} {g : TG} {te : TE} {σ : L2.St} {vs : List Nat} {n gi : Nat} {W : Nat → Hp → Prop} {Q : VK} {tn : Nat → Heap → Prop} {X' : Cx}
    (hX : X' = gcx X s1 H1 genv fp (A₁.over (.compLoop (.GeneratorExp elt [⟨tg, iter, [], 0⟩] scope pos) 0 (.ref it) .none genv) []) pn) (hc : X.calm = true) (T : Turn X.prog X.w X.K tg J fp it tn) (pg : PG X' tg g) (pe : PE X' elt te) (hco : genv.scope.isCoroutine = false)
    (turn : TurnsAll J g te σ vs n W Q) (hpf : ∀ b ∈ fp, ∀ p ∈ pn, p.1 ≠ b) :
    ∀ (k i : Nat) (s₀ s : Shared) (H : Hp), n - i = k → Inv X' [] (wipe σ vs) H s → tn i s.heap → (∀ b ∈ fp, H b = none) → W i H → gi < s.gens.size →
      Seg (model X.prog X.w) A₁ (fun m s₀ r s₁ => r = .ok .next ∧ RAll X' gi Q m s₀ s₁) (YAll X' gi Q) k s₀ (.compLoop (.GeneratorExp elt [⟨tg, iter, [], 0⟩] scope pos) 0 (.ref it) .none genv)
        ((model X.prog X.w).den (.compLoop (.GeneratorExp elt [⟨tg, iter, [], 0⟩] scope pos) 0 (.ref it) .none genv)) [] s := by
  have hA : X'.A = A₁.over (.compLoop (.GeneratorExp elt [⟨tg, iter, [], 0⟩] scope pos) 0 (.ref it) .none genv) [] := by rw [hX]
  have hP : X'.prog = X.prog := by rw [hX]
  have hw : X'.w = X.w := by rw [hX]
  have hK : X'.K = X.K := by rw [hX]
  have hcal : X'.calm = true := by rw [hX]; exact hc
  have hex : X'.ex = fp := by rw [hX]
  have hpn : X'.pn = pn := by rw [hX]
  have henv : X'.env = genv := by rw [hX]
  have hxe : X'.xe = fun _ _ => False := by rw [hX]
  have stat : ∀ {pins' : List (Addr × Obj)} {σ' : L2.St} {H' : Hp} {s' : Shared}, Inv X' pins' σ' H' s' → pins' = [] → (∀ b ∈ fp, H' b = none) → ∀ b ∈ fp, FpOk X' [] H' b := fun {pins' σ' H' s'} I' hp' hn b hb => by
    have hb' : b ∈ X'.ex := by rw [hex]; exact hb
    refine ⟨hn b hb, (I'.ok.exf b hb').1, I'.ok.exfs b hb', .inl hb', fun x c e => (I'.ok.exf b hb').2 x c e, fun p hp => ?_⟩
    rw [List.append_nil, hpn] at hp
    exact hpf b hb p hp
  intro k
  induction k with
  | zero =>
    intro i s₀ s H hk I st nf w0 hg
    show Seg _ A₁ _ _ _ s₀ _ ((compTurn (.GeneratorExp elt [⟨tg, iter, [], 0⟩] scope pos) 0 (.ref it) .none genv).onRaise (leaving genv)) [] s
    rw [compTurn_gen, Sem.onRaise_eq_wrap]
    refine seg_gsz hg (wpAny_standAt fun hg => ?_)
    rcases turn i H w0 with ⟨_, stop, q⟩ | ⟨hlt, _⟩
    · have td := T.done X' hP hw hK hcal i [] s _ H (fun _ _ => False) I (stat I rfl nf) st stop
      rw [hA] at td
      refine seg_gsz hg (wpAny_mono td (fun r s' ⟨hr, I'⟩ hg => ?_) fun _ _ z => z)
      subst hr
      exact seg_end (.ok .next) ⟨rfl, rfl, hg, _, _, _, I', q⟩
    · omega
  | succ k ih =>
    intro i s₀ s H hk I st nf w0 hg
    show Seg _ A₁ _ _ _ s₀ _ ((compTurn (.GeneratorExp elt [⟨tg, iter, [], 0⟩] scope pos) 0 (.ref it) .none genv).onRaise (leaving genv)) [] s
    rw [compTurn_gen, Sem.onRaise_eq_wrap]
    refine seg_gsz hg (wpAny_standAt fun hg => ?_)
    rcases turn i H w0 with ⟨e, _⟩ | ⟨hlt, go, step⟩
    · omega
    have ti := T.item X' hP hw hK hcal i [] s _ H (fun _ _ => False) I (stat I rfl nf) st go
    rw [hA] at ti
    refine seg_gsz hg (wpAny_mono ti (fun r s2 ⟨u, hr, h2⟩ hg => ?_) fun _ _ z => z)
    subst hr
    refine seg_gsz hg (wpAny_mono h2 (fun _ s3 ⟨x, H3, I3, r3, y3, st3, n3⟩ hg => ?_) fun _ _ z => z)
    have I3' := I3.pinned (stat I3 rfl n3) (T.obj _ _ st3)
    have pg' := pg.run _ s3 _ H3 x u _ I3' r3 (step x H3 y3)
    rw [hA, hP, hw, henv, hxe] at pg'
    refine seg_gsz hg (wpAny_mono pg' (fun _ s4 ⟨σ4, H4, I4, hw4, q4⟩ hg => ?_) fun _ _ z => z)
    refine seg_gsz hg ?_
    simp only [List.forIn_nil]
    refine wpAny_pure fun hg => ?_
    simp only [if_true]
    have hy : ∀ v, yieldOut genv v = yieldValue v := fun v => by simp only [yieldOut, hco, Bool.false_eq_true, if_false]
    simp only [hy]
    rw [Sem.bind_eq_wrap', Sem.bind_eq_wrap', Sem.wrap_wrap, Sem.wrap_wrap]
    have pe' := pe.run _ s4 σ4 H4 _ I4 q4
    rw [hA, hP, hw, henv, hxe] at pe'
    refine seg_wrap (wpAny_gsz (n := gi + 1) hg (wpAny_mono pe' (fun y s5 ⟨v5, H5, I5, r5, b, e5, q5⟩ hg => ?_) fun _ _ z => z.elim))
    subst e5
    obtain rfl : y = .bool b := r5
    refine seg_at (seg_yield rfl rfl rfl ⟨b, rfl, hg, ⟨_, _, _, I5, fun z => by subst z; exact q5⟩, fun z G' hG hg' => ?_⟩)
    subst z
    have q5' : W (i + 1) H5 := q5
    have pin' : ∀ b ∈ fp, ∀ o, s3.heap.get? b = some o → s5.heap.get? b = some o ∧ H5 b = none := fun b hb o e =>
      let z := I5.pin (b, o) (List.mem_append_right _ (List.mem_append_right _ (mem_pinsAt hb e)))
      ⟨z.1, z.2.1⟩
    have hl : (wipe σ vs).length = σ4.length := by rw [← hw4, wipe_length]
    have I6 : Inv X' [] (wipe σ vs) H5 s5 := (I5.unpinned (pins := [])).weak hl (fun j v e => by
      rw [← hw4] at e
      exact (wipe_some e).1)
    exact seg_again rfl (ih (i + 1) _ _ H5 (by omega) (inv_gens (t := s5.toks) I6 (fun _ _ e => e) hG) (T.keep _ _ _ st3 fun b hb o e => (pin' b hb o e).1) (fun b hb => by
      obtain ⟨o, e, _⟩ := T.obj _ _ st3 b hb
      exact (pin' b hb o e).2) q5' hg')
end
section
variable {X : Cx} {A₁ : Around} {genv : Env} {elt tg iter : Expr} {ifs : List Expr} {scope : Scope} {pos : Pos} {it : Addr}
noncomputable abbrev gA (A : Around) (elt tg iter : Expr) (scope : Scope) (pos : Pos) (it : Addr) (genv : Env) : Around := A.in1.in1.over (.compLoop (.GeneratorExp elt [⟨tg, iter, [], 0⟩] scope pos) 0 (.ref it) .none genv) []
theorem gA_frames {A : Around} {st : List Env} (h : A.frames = some st) : (gA A elt tg iter scope pos it genv).frames = some (genv :: st) := by
  show pushEnvs [genv] (pushEnvs [] A.frames) = _
  rw [h]; rfl
theorem gA_room {A : Around} {k : Nat} (r : Room (k + 1) A) : Room k (gA A elt tg iter scope pos it genv) :=
  ⟨r.hd, by have := r.dp; show A.depth + 0 + 1 + 3 * k + 5 < _; omega, by have := r.un; show A.units + 1 + 1 + 0 + 3 + 16 * k + 200 < _; omega⟩
noncomputable def tAllG (P : Addr) (wi : TI) (g : TG) (te : TE) (vs : List Nat) : TE := fun σ H Q => wi σ H fun J H1 => TabG H1 P ∧ ∀ H2, Tabbed P H1 H2 → ∃ (n : Nat) (W : Nat → Hp → Prop), W 0 H2 ∧ TurnsAll J g te σ vs n W Q
theorem pe_allG {c P : Addr} {own : List (Str × Nat)} {p cpos : Pos} {wi : TI} {g : TG} {te : TE} {k : Nat}
    (hr : Room (k + 1) X.A) (hc : X.calm = true) (hgl : Gl X "all") (hm : X.mg "all" = none) (hbo : bootBuiltins "all" = some (.builtin "all")) (TB : TabB X.base X.mg c P) (hcode : X.env.code = .ref c) (hN : X.N.Nodup)
    (hi : PI X tg iter wi) (ok : BlkOk X.N X.env.scope scope own) (hco : scope.isCoroutine = false) (nocell : ∀ y ∈ scope.names, y.2 ≠ .cell) (h0 : scope.names.lookup (".0" : Str) = some NameKind.local) (hdot : ∀ (i : Nat), X.N[i]? ≠ some (".0" : Str))
    (hg : ∀ (s : Shared) (H : Hp) (C : Addr) (cl : List (Str × Addr)) (code : Value) (bi : Addr) (fp : List Addr) (A' : Around) (pn : List (Addr × Obj)), PG (gcx X s H (genEnv scope cl C code bi X.env) fp A' pn) tg g)
    (he : ∀ (s : Shared) (H : Hp) (C : Addr) (cl : List (Str × Addr)) (code : Value) (bi : Addr) (fp : List Addr) (A' : Around) (pn : List (Addr × Obj)), Room k A' → PE (gcx X s H (genEnv scope cl C code bi X.env) fp A' pn) elt te)
    (hs : ∀ v, genFold iter X.env v = pure v := by intro _; rfl)
    (hes : starEach [.GeneratorExp elt [⟨tg, iter, [], 0⟩] scope pos] X.env = (false, eval (.GeneratorExp elt [⟨tg, iter, [], 0⟩] scope pos) X.env) :: starEach [] X.env := by rfl) :
    PE X (.Call (.Name "all" p) [.GeneratorExp elt [⟨tg, iter, [], 0⟩] scope pos] [] cpos) (tAllG P wi g te (own.map (·.2))) := by
  refine ⟨fun pins s σ H Q I h => ?_⟩
  have hfree : ∀ y ∈ scope.names, y.2 = .free → ∃ c, X.env.cells.lookup y.1 = some c := fun y hy e => by
    rcases ok.free y hy e with k | k
    · exact I.ok.has _ (.inl k)
    · exact I.ok.has _ (.inr k)
  refine wpAny_Call_Name_kw (ld_blt I hgl hm hbo ?_)
  refine PyProof.Rows.callWith_builtin1 ?_ hes (by rfl)
  rw [hes]
  show wpAny _ _ (spliced ((false, eval (.GeneratorExp elt [⟨tg, iter, [], 0⟩] scope pos) X.env) :: backTo cpos (starEach [] X.env))) _ _ s
  refine Calls.spliced_cons (wpAny_GeneratorExp_make hco (closure_ok hfree) nocell h0 ok.kind (by have := hr.dp; omega) ?_ hs)
  refine thn (hi.run pins s σ H _ I h) fun xv s1 h1 => thn h1 fun itv s2 h2 => ?_
  obtain ⟨it, fp, tn, J, H2, e, I2, T, st2, f2, ⟨ps, hP, ht⟩, q⟩ := h2
  subst e
  refine ⟨I2.nolimit, ?_⟩
  have hPs : s2.heap.get? P = some { cls := .none, data := .fields ps } := I2.hok P _ hP
  have cd : PySem.W.CodeHd s2.heap c P := TB.code.keeps fun b u e => I2.bk b u e
  have cont : ∀ (code : Value) (h3 : Heap) (tk : Nat) (ps' : Array Value), Heap.ExtBut P s2.heap h3 → s2.heap.objs.size ≤ h3.objs.size → h3.get? P = some { cls := .none, data := .fields ps' } → (∃ more, ps' = ps ++ more) → TriplesOk ps'.toList →
      wpAny (model X.prog X.w) X.A (builtinsFor X.env.globals X.env.builtins) (fun bi s₄ =>
        ∀ h', h'.Ns s₄.heap.objs.size (fun y => if y = ".0" then some (.ref it) else none) → Heap.SameBut s₄.heap.objs.size (s₄.heap.push { cls := .type "frame", data := .dict #[] }) h' →
          wpAny (model X.prog X.w) X.A (call (.builtin "all") [.ref h'.objs.size]) (EP X pins σ Q) X.xe { s₄ with
            gens := s₄.gens.push (.fresh (.compStart (.GeneratorExp elt [⟨tg, iter, [], 0⟩] scope pos) 0 (.ref it) .none (genEnv scope (cloFrom X.env.cells scope.names []) s₄.heap.objs.size code bi X.env))),
            toks := s₄.toks + 1 + 1 + 1,
            heap := h'.push { cls := .type "generator", data := .fields #[.int s₄.gens.size 0, .str "<genexpr>" (s₄.toks + 1), .str (X.env.qual ++ "<genexpr>") (s₄.toks + 1 + 1)] } }) X.xe { s2 with heap := h3, toks := tk } := by
    intro code h3 tk ps' hx hsz hP3 hmore ht3
    obtain ⟨bm, ob, e1, e2, e3, e4, e5, e6, e7, e8⟩ := TB.bm
    obtain ⟨more, em⟩ := hmore
    have keep3 : ∀ b u, b ≠ P → s2.heap.get? b = some u → h3.get? b = some u := fun b u hb e => hx b u hb e
    have nP : ∀ b, H2 b = none → b ≠ P := fun b e z => by rw [z, hP] at e; cases e
    have I3 : Inv X pins σ (upd H2 P (.tbl ps')) { s2 with heap := h3, toks := tk } := by
      have J := inv_tab (more := more) (h' := h3) (g' := s2.gens) (d' := s2.drawn) (t' := tk) I2 hP keep3 (by rw [← em]; exact hP3) I2.bare
      rw [← em] at J
      exact J
    have hTab : Tabbed P H2 (upd H2 P (.tbl ps')) := ⟨⟨ps', upd_same, ht3⟩, fun b hb => upd_ne hb⟩
    obtain ⟨n, W, w0, turn⟩ := q _ hTab
    generalize hH3 : upd H2 P (.tbl ps') = H3 at I3 hTab w0
    refine wpAny_builtinsFor (m := X.mg) (by rw [I3.ok.glob]; exact I3.ok.mod.glob.keeps I3.bk) e1 e2 (I3.bk _ _ e5) e6 e7 e8 ?_
    generalize hs3 : ({ s2 with heap := h3, toks := tk } : Shared) = s3 at I3 ⊢
    have h3e : s3.heap = h3 := by rw [← hs3]
    intro h' hns hsb
    have sz' : h'.objs.size = s3.heap.objs.size + 1 := by rw [hsb.1, Heap.size_push]
    have kp' : ∀ b o, s3.heap.get? b = some o → h'.get? b = some o := fun b o e => hsb.extBut b o (Nat.ne_of_lt (Heap.lt_size e)) (Heap.get?_push_of_some _ e)
    generalize hgo : ({ cls := .type "generator", data := .fields #[.int s3.gens.size 0, .str "<genexpr>" (s3.toks + 1), .str (X.env.qual ++ "<genexpr>") (s3.toks + 1 + 1)] } : Obj) = gobj
    have hgd : ∀ v, gobj.data ≠ .cell v := fun v z => by rw [← hgo] at z; cases z
    have hgf : gobj.isFreed = false := by rw [← hgo]; rfl
    generalize hge : genEnv scope (cloFrom X.env.cells scope.names []) s3.heap.objs.size code builtinsNs X.env = genv
    have f3 : ∀ b ∈ fp, FpOk X pins H3 b ∧ b < s3.heap.objs.size := fun b hb => by
      obtain ⟨o, e, _⟩ := T.obj _ _ st2 b hb
      have hbP := nP b (f2 b hb).1
      refine ⟨⟨?_, (f2 b hb).2⟩, ?_⟩
      · rw [hTab.2 b hbP]; exact (f2 b hb).1
      · rw [h3e]; exact Heap.lt_size (keep3 b o hbP e)
    have st3 : tn 0 s3.heap := T.keep _ _ _ st2 fun b hb o e => by rw [h3e]; exact keep3 b o (nP b (f2 b hb).1) e
    have hA' : (gA X.A elt tg iter scope pos it genv).handled = none := hr.hd
    have hF' : (gA X.A elt tg iter scope pos it genv).frames = some (genv :: X.stack) := gA_frames I3.ok.frames
    have start : ∀ (G : Array GenState) (t : Nat), AllBare G → Inv (gcx X s3 H3 genv fp (gA X.A elt tg iter scope pos it genv) [(h'.objs.size, gobj)]) [] (wipe σ (own.map (·.2))) H3 { s3 with heap := h'.push gobj, gens := G, toks := t } := fun G t hG => by
      subst hge
      exact gen_start I3 ok hN nocell f3 hA' hF' hns hsb hgd hgf hG hdot
    generalize hX' : gcx X s3 H3 genv fp (gA X.A elt tg iter scope pos it genv) [(h'.objs.size, gobj)] = X' at start
    have pg : PG X' tg g := by rw [← hX', ← hge]; exact hg _ _ _ _ _ _ _ _ _
    have pe : PE X' elt te := by rw [← hX', ← hge]; exact he _ _ _ _ _ _ _ _ _ (gA_room hr)
    have hco' : genv.scope.isCoroutine = false := by rw [← hge]; exact hco
    have hgen : ∀ {pins' : List (Addr × Obj)} {σ' : L2.St} {H' : Hp} {s' : Shared}, Inv X' pins' σ' H' s' → s'.heap.IsGen h'.objs.size s3.gens.size := fun {pins' σ' H' s'} I' => by
      have z := (I'.pin (h'.objs.size, gobj) (List.mem_append_left _ (by rw [← hX']; exact List.mem_singleton.mpr rfl))).1
      rw [← hgo] at z
      exact ⟨_, _, _, z, rfl, rfl, rfl⟩
    have back : ∀ {pins' : List (Addr × Obj)} {σ' : L2.St} {H' : Hp} {s' : Shared}, Inv X' pins' σ' H' s' → Inv X pins σ H' s' := fun {pins' σ' H' s'} I' => by
      rw [← hX'] at I'
      exact I3.call' (ch := fp) I'.os I'.base I'.hok I'.bare fun b hb => ⟨(f3 b hb).1.2.2.2.1, (f3 b hb).1.2.1, (f3 b hb).1.2.2.2.2.1, (f3 b hb).1.2.2.2.2.2⟩
    have loop := seg_all (X := X) (s1 := s3) (H1 := H3) (genv := genv) (fp := fp) (A₁ := X.A.in1.in1) (pn := [(h'.objs.size, gobj)]) (elt := elt) (tg := tg) (iter := iter) (scope := scope) (pos := pos) (it := it) (J := J) (g := g) (te := te) (σ := σ) (vs := own.map (·.2)) (n := n) (gi := s3.gens.size) (W := W) (Q := Q) (tn := tn) (X' := X')
      hX'.symm hc T pg pe hco' turn (fun b hb p hp => by
        have e : p = (h'.objs.size, gobj) := by simpa using hp
        subst e
        have := (f3 b hb).2
        show h'.objs.size ≠ b
        rw [sz']
        exact fun z => absurd (Nat.lt_of_lt_of_eq (Nat.lt_succ_of_lt this) z) (Nat.lt_irrefl _))
    refine call_function_tree F.kind_all F.plain_all F.entry_all (F.args_all1 _) ?_
    unfold Builtin.«all»
    refine wpAny_bind (m := oneArg "all" _) (wpAny_pure ?_)
    have bareP : ∀ x : GenState, x.bare = true → AllBare (s3.gens.push x) := fun x hx => I3.bare.push hx
    have I5 := start (s3.gens.push (.fresh (.compStart (.GeneratorExp elt [⟨tg, iter, [], 0⟩] scope pos) 0 (.ref it) .none genv))) (s3.toks + 1 + 1 + 1) (bareP _ rfl)
    refine wpAny_bind (wpAny_pyIter_gen (hgen I5) ?_)
    refine wpAny_pure ⟨plainId_quiet F.plain_all_loop _, ?_⟩
    refine all_loop (n := n) (fun i s' => i ≤ n ∧ s'.heap.IsGen h'.objs.size s3.gens.size ∧ s'.heap.NoLimit ∧ ∃ gs, s'.gens[s3.gens.size]? = some gs ∧
      gs.Goes (model X.prog X.w) X.A.in1.in1 (fun m s₀ r s₁ => r = .ok .next ∧ RAll X' s3.gens.size Q m s₀ s₁) (YAll X' s3.gens.size Q) (n - i) (.send .none) (s'.setGen s3.gens.size .running)) ?_ (n - 0) 0 _ rfl ?_
    · rintro i s' ⟨hin, ig, nl, gs, hgs, hgo⟩
      refine wpAny_pyNext_genexpQ hr.hd nl (by have := hr.dp; show X.A.depth < _; omega) ig hgs hgo (fun v s₁ gs' hb hv => ?_) (fun s₁ hp h'' hk => ?_)
      · obtain ⟨b, rfl, hgz, ⟨pins', σ', H', I', hf⟩, ht⟩ := hv
        refine .inr ⟨b, rfl, ?_⟩
        cases b with
        | true =>
          simp only [if_true]
          cases hn : n - i with
          | zero =>
            rw [hn] at ht
            exact (ht rfl s₁.gens I'.bare hgz).elim
          | succ m =>
            rw [hn] at ht
            refine ⟨by omega, by omega, (show s₁.heap.IsGen _ _ from hgen I'), (show s₁.heap.NoLimit from I'.nolimit), gs', setGen_at hgz, ?_⟩
            rw [show n - (i + 1) = m by omega]
            exact ht rfl _ (allBare_setGen (s := s₁.setGen s3.gens.size gs') (allBare_setGen I'.bare hb) rfl) (by show _ < ((s₁.gens.setIfInBounds _ _).setIfInBounds _ _).size; simpa using hgz)
        | false =>
          simp only [Bool.false_eq_true, if_false]
          exact ⟨.bl false, H', inv_gens (t := s₁.toks) (back I') (fun _ _ e => e) (allBare_setGen I'.bare hb), rfl, hf rfl⟩
      · obtain ⟨hz, hgz, pins', σ', H', I', hq⟩ := hp
        exact .inl ⟨by omega, rfl, .bl true, H', inv_gens (s := s₁) (t := s₁.toks) (back I') hk (allBare_setGen I'.bare rfl), rfl, hq⟩
    · refine ⟨Nat.zero_le _, hgen I5, I5.nolimit, _, Array.getElem?_push_size .., ?_⟩
      have I6 := start ((s3.gens.push (.fresh (.compStart (.GeneratorExp elt [⟨tg, iter, [], 0⟩] scope pos) 0 (.ref it) .none genv))).setIfInBounds s3.gens.size .running) (s3.toks + 1 + 1 + 1) (allBare_setGen (s := { s3 with gens := s3.gens.push (.fresh (.compStart (.GeneratorExp elt [⟨tg, iter, [], 0⟩] scope pos) 0 (.ref it) .none genv)) }) (bareP _ rfl) rfl)
      refine ⟨rfl, ?_⟩
      have hloop := fun s₀ => loop n 0 s₀ _ H3 (Nat.sub_zero n) I6 (T.keep _ _ _ st3 fun b hb o e => Heap.get?_push_of_some _ (kp' b o e)) (fun b hb => (f3 b hb).1.1) w0 (by show s3.gens.size < ((s3.gens.push _).setIfInBounds _ _).size; simp)
      show Seg _ X.A.in1.in1 _ _ _ _ _ ((compStart (.GeneratorExp elt [⟨tg, iter, [], 0⟩] scope pos) 0 (.ref it) .none genv).onRaise (leaving genv)) [] _
      unfold compStart
      rw [Sem.onRaise_eq_wrap]
      show Seg _ X.A.in1.in1 _ _ _ _ _ ((ask >>= _).wrap _ _ _ _) [] _
      refine seg_bind_wrap (wpAny_askSetting ?_)
      split
      · exact seg_again rfl (hloop _)
      · first
          | exact seg_bind_wrap (wpAny_rule (seg_bind_wrap (wpAny_standAt (seg_bind_wrap (T.self _ _ _ _ _ (T.keep _ _ _ st3 fun b hb o e => Heap.get?_push_of_some _ (kp' b o e)) (seg_again rfl (hloop _)))))))
          | (refine seg_bind_wrap (wpAny_rule ?_); show Seg _ X.A.in1.in1 _ _ _ _ _ ((standAt iter.pos >>= _).wrap _ _ _ _) [] _; exact seg_bind_wrap (wpAny_standAt (seg_bind_wrap (T.self _ _ _ _ _ (T.keep _ _ _ st3 fun b hb o e => Heap.get?_push_of_some _ (kp' b o e)) (seg_again rfl (hloop _))))))
  cases hf : codeAmong pos ps.toList with
  | none =>
    refine wpAny_genexprCodeX hcode (cd.code hPs ht) (cd.tab hPs) hf fun c' h' tk hx hge hlt hco' _ htab' _ => ?_
    obtain ⟨o1, vs, f1, tf, fl, tg, inF, tx, tt, op, _, _, _, _, _, _, _, _, _, htr, _⟩ := hco'
    exact wpAny_mono (cont (.ref c') h' tk _ hx (Nat.le_trans hge (Nat.le_of_lt hlt)) htab'.2 ⟨_, rfl⟩ htr) (fun bi s4 hh h' a b => Calls.spliced_nil (hh h' a b)) fun _ _ e => e
  | some cv =>
    refine wpAny_genexprCode_hit hcode (cd.code hPs ht) hf ?_
    exact wpAny_mono (cont cv s2.heap s2.toks ps (Heap.ExtBut.refl _ _) (Nat.le_refl _) hPs ⟨#[], by simp⟩ ht) (fun bi s4 hh h' a b => Calls.spliced_nil (hh h' a b)) fun _ _ e => e
end
end Gx
namespace Dn
open PySem PySem.Spec PyProof.Rows L2
noncomputable abbrev NK := PySem.NestedKey
section
variable {β : Type}
end
noncomputable abbrev NR : List (NK × Addr × V) → List (NK × Addr × Value) → Prop := Paired fun y x => y.1 = x.1 ∧ y.2.1 = x.2.1 ∧ RelV y.2.2 x.2.2
noncomputable def entN (w : World) (x : NK × Addr × Value) : DictEntry := ⟨x.1.hash w, .ref x.2.1, x.2.2⟩
noncomputable def DN (w : World) (a : Addr) (ys : List (NK × Addr × V)) : HO := .ext fun h => ys.length ≤ sizeLine ∧ (a == sysModules) = false ∧ ∃ xs, NR ys xs ∧ ∃ o es ep, h.get? a = some o ∧ o.ExactDict ∧ o.data = .dict es ep ∧ es.toList = xs.map (entN w) ∧ (xs.map fun x => x.1).Nodup
section
variable {X : Cx} {pins : List (Addr × Obj)} {σ : L2.St} {H : Hp} {s : Shared}
variable {A : Around} {E : Value → Shared → Prop} {a b : Addr} {ys : List (NK × Addr × V)} {k : NK} {y v d : V} {u r : Value}
end
section
variable {P : Program} {w : World} {A : Around} {E : Value → Shared → Prop} {s : Shared}
end
section
variable {X : Cx} {K : PySem.W.Frag} {w : World} {pins : List (Addr × Obj)} {σ : L2.St} {H : Hp} {s : Shared} {A : Around} {E : Value → Shared → Prop} {a : Addr} {y : V} {u : Value} {o : Bool}
end
section
variable {X : Cx} {K : PySem.W.Frag} {w : World} {o i e f value : Expr} {pos pos' apos cpos : Pos} {td ty tv tx : TE}
end
section
variable {X : Cx} {K : PySem.W.Frag} {w : World}
end
end Dn
namespace Pd
open PySem PySem.Spec PyProof.Rows L2 GxR Gx
inductive W where
  | d (x : PyData)
  | loc (n : Nat)
inductive Ob where
  | lst (ws : List W)
  | dct (kvs : List (Key × W))
  | ins (C : Addr) (fs : List (Str × W))
  | ldct (kvs : List (Key × W))
  | dcn (w : World) (kvs : List (NestedKey × W))
noncomputable abbrev Mem := List Ob
structure Wd where
  H : Hp
  ι : List Addr
  hid : List Addr
noncomputable def Mu (tb : List Addr) (A : Wd) (a : Addr) : Prop := a ∈ A.ι ∨ a ∈ tb ∨ a ∈ A.hid
noncomputable def H0 : Hp := fun _ => none
noncomputable def Fz (tb : List Addr) (A : Wd) (a : Addr) (u : HO) : Prop := ¬ Mu tb A a ∧ Rd A.H a u
noncomputable def FzL (K : PySem.W.Frag) (tb : List Addr) (A : Wd) (a : Addr) (xs : List V) : Prop := Fz tb A a (.lst xs) ∨ SqL K H0 a xs
noncomputable def FzT (K : PySem.W.Frag) (tb : List Addr) (A : Wd) (a : Addr) (xs : List V) : Prop := Fz tb A a (.tup xs) ∨ SqT K H0 a xs
mutual
inductive DR (K : PySem.W.Frag) (tb : List Addr) (A : Wd) : V → PyData → Prop
  | non : DR K tb A .non .none
  | bl (b : Bool) : DR K tb A (.bl b) (.bool b)
  | int (i : Int) : DR K tb A (.int i) (.int i)
  | str (x : Str) : DR K tb A (.str x) (.str x)
  | lst {a : Addr} {xs : List V} {ds : List PyData} : Fz tb A a (.lst xs) → DRs K tb A xs ds → DR K tb A (.ref a) (.list ds)
  | scr {a : Addr} {xs : List V} {ds : List PyData} : FzL K tb A a xs → DRs K tb A xs ds → DR K tb A (.ref a) (.dict [(.none, .list ds)])
  | tup {a : Addr} {xs : List V} {ds : List PyData} : FzT K tb A a xs → DRs K tb A xs ds → DR K tb A (.ref a) (.tuple ds)
inductive DRs (K : PySem.W.Frag) (tb : List Addr) (A : Wd) : List V → List PyData → Prop
  | nil : DRs K tb A [] []
  | cons {v : V} {vs : List V} {d : PyData} {ds : List PyData} : DR K tb A v d → DRs K tb A vs ds → DRs K tb A (v :: vs) (d :: ds)
end
noncomputable def WR (K : PySem.W.Frag) (tb : List Addr) (A : Wd) : V → W → Prop
  | v, .d x => DR K tb A v x
  | v, .loc n => ∃ a, v = .ref a ∧ A.ι[n]? = some a
noncomputable abbrev WRs (K : PySem.W.Frag) (tb : List Addr) (A : Wd) : List V → List W → Prop := Paired (WR K tb A)
structure Nxt (tb : List Addr) (A B : Wd) : Prop where
  hid : ∀ b ∈ A.hid, b ∈ B.hid
  hid2 : ∀ b ∈ B.hid, b ∈ A.hid ∨ A.H b = none
  more : ∀ b, B.H b = none → A.H b = none
  pre : ∃ more, B.ι = A.ι ++ more
  keep : ∀ b o, b ∉ A.ι → b ∉ tb → A.H b = some o → B.H b = some o ∧ b ∉ B.ι
  frz : ∀ b o u, b ∈ A.ι → A.H b = some (.frz o u) → B.H b = some (.frz o u)
section
variable {K : PySem.W.Frag} {tb : List Addr} {A B C : Wd}
theorem Nxt.refl : Nxt tb A A := ⟨fun _ z => z, fun _ z => .inl z, fun _ z => z, ⟨[], by simp⟩, fun _ _ n _ e => ⟨e, n⟩, fun _ _ _ _ e => e⟩
theorem Nxt.trans (x : Nxt tb A B) (y : Nxt tb B C) : Nxt tb A C := by
  obtain ⟨m1, e1⟩ := x.pre
  obtain ⟨m2, e2⟩ := y.pre
  refine ⟨fun b z => y.hid b (x.hid b z), fun b z => (y.hid2 b z).elim (fun z => x.hid2 b z) (fun z => .inr (x.more b z)), fun b z => x.more b (y.more b z), ⟨m1 ++ m2, by rw [e2, e1, List.append_assoc]⟩, fun b o n t e => ?_, fun b o u m e => y.frz b o u (by rw [e1]; exact List.mem_append_left _ m) (x.frz b o u m e)⟩
  obtain ⟨q, n'⟩ := x.keep b o n t e
  exact y.keep b o n' t q
theorem Nxt.ix (x : Nxt tb A B) {n : Nat} {a : Addr} (h : A.ι[n]? = some a) : B.ι[n]? = some a := by
  obtain ⟨m, e⟩ := x.pre
  rw [e, List.getElem?_append_left (List.getElem?_eq_some_iff.mp h).1]
  exact h
structure NxW (tb : List Addr) (A B : Wd) : Prop where
  hid : ∀ b ∈ A.hid, b ∈ B.hid
  hid2 : ∀ b ∈ B.hid, b ∈ A.hid ∨ A.H b = none
  more : ∀ b, B.H b = none → A.H b = none
  pre : ∃ more, B.ι = A.ι ++ more
  keep : ∀ b o, b ∉ A.ι → b ∉ tb → b ∉ A.hid → A.H b = some o → B.H b = some o ∧ b ∉ B.ι
  frz : ∀ b o u, b ∈ A.ι → A.H b = some (.frz o u) → B.H b = some (.frz o u)
theorem Nxt.w (x : Nxt tb A B) : NxW tb A B := ⟨x.hid, x.hid2, x.more, x.pre, fun b o n t _ e => x.keep b o n t e, x.frz⟩
theorem NxW.trans (x : NxW tb A B) (y : NxW tb B C) : NxW tb A C := by
  obtain ⟨m1, e1⟩ := x.pre
  obtain ⟨m2, e2⟩ := y.pre
  refine ⟨fun b z => y.hid b (x.hid b z), fun b z => (y.hid2 b z).elim (fun z => x.hid2 b z) (fun z => .inr (x.more b z)), fun b z => x.more b (y.more b z), ⟨m1 ++ m2, by rw [e2, e1, List.append_assoc]⟩, fun b o n t h e => ?_, fun b o u m e => y.frz b o u (by rw [e1]; exact List.mem_append_left _ m) (x.frz b o u m e)⟩
  obtain ⟨q, n'⟩ := x.keep b o n t h e
  exact y.keep b o n' t (fun z => (x.hid2 b z).elim h fun z => by rw [z] at e; cases e) q
theorem NxW.ix (x : NxW tb A B) {n : Nat} {a : Addr} (h : A.ι[n]? = some a) : B.ι[n]? = some a := by
  obtain ⟨m, e⟩ := x.pre
  rw [e, List.getElem?_append_left (List.getElem?_eq_some_iff.mp h).1]
  exact h
theorem Fz.nxw (x : NxW tb A B) {a : Addr} {u : HO} (h : Fz tb A a u) : Fz tb B a u := by
  obtain ⟨n, r⟩ := h
  have n1 : a ∉ A.ι := fun z => n (.inl z)
  have n2 : a ∉ tb := fun z => n (.inr (.inl z))
  have n3 : a ∉ A.hid := fun z => n (.inr (.inr z))
  rcases r with r | ⟨o, r⟩
  · obtain ⟨q, n'⟩ := x.keep a _ n1 n2 n3 r
    exact ⟨fun z => z.elim n' fun z => z.elim n2 fun z => (x.hid2 a z).elim n3 (fun z => by rw [z] at r; cases r), .inl q⟩
  · obtain ⟨q, n'⟩ := x.keep a _ n1 n2 n3 r
    exact ⟨fun z => z.elim n' fun z => z.elim n2 fun z => (x.hid2 a z).elim n3 (fun z => by rw [z] at r; cases r), .inr ⟨o, q⟩⟩
theorem FzL.nxw (x : NxW tb A B) {a : Addr} {xs : List V} (h : FzL K tb A a xs) : FzL K tb B a xs := h.imp (fun z => z.nxw x) id
theorem FzT.nxw (x : NxW tb A B) {a : Addr} {xs : List V} (h : FzT K tb A a xs) : FzT K tb B a xs := h.imp (fun z => z.nxw x) id
theorem sqL_h0 {H : Hp} {a : Addr} {xs : List V} (h : SqL K H0 a xs) : SqL K H a xs := by
  rcases h with (h | ⟨o, h⟩) | h
  · cases h
  · cases h
  · exact .inr h
theorem sqT_h0 {H : Hp} {a : Addr} {xs : List V} (h : SqT K H0 a xs) : SqT K H a xs := by
  rcases h with (h | ⟨o, h⟩) | h
  · cases h
  · cases h
  · exact .inr h
theorem Fz.sq {a : Addr} {xs : List V} (h : Fz tb A a (.lst xs)) : SqL K A.H a xs := .inl h.2
theorem FzL.sq {a : Addr} {xs : List V} (h : FzL K tb A a xs) : SqL K A.H a xs := h.elim (fun z => .inl z.2) sqL_h0
theorem FzT.sq {a : Addr} {xs : List V} (h : FzT K tb A a xs) : SqT K A.H a xs := h.elim (fun z => .inl z.2) sqT_h0
mutual
theorem DR.nxw (x : NxW tb A B) : ∀ {v : V} (d : PyData), DR K tb A v d → DR K tb B v d
  | _, .none, h => by cases h; exact .non
  | _, .bool b, h => by cases h; exact .bl b
  | _, .int i, h => by cases h; exact .int i
  | _, .str y, h => by cases h; exact .str y
  | _, .list ds, h => by cases h with | lst f r => exact .lst (f.nxw x) (DRs.nxw x ds r)
  | _, .tuple ds, h => by cases h with | tup f r => exact .tup (f.nxw x) (DRs.nxw x ds r)
  | _, .dict [(.none, .list ds)], h => by cases h with | scr f r => exact .scr (f.nxw x) (DRs.nxw x ds r)
theorem DRs.nxw (x : NxW tb A B) : ∀ {vs : List V} (ds : List PyData), DRs K tb A vs ds → DRs K tb B vs ds
  | _, [], h => by cases h; exact .nil
  | _, d :: ds, h => by cases h with | cons a b => exact .cons (DR.nxw x d a) (DRs.nxw x ds b)
end
theorem DR.nxt (x : Nxt tb A B) {v : V} (d : PyData) (h : DR K tb A v d) : DR K tb B v d := DR.nxw x.w d h
theorem DRs.nxt (x : Nxt tb A B) {vs : List V} (ds : List PyData) (h : DRs K tb A vs ds) : DRs K tb B vs ds := DRs.nxw x.w ds h
mutual
theorem DR.dp : ∀ {v : V} (d : PyData), DR K tb A v d → d.canLay0 = true → Dp K A.H v d
  | _, .none, h, _ => by cases h; exact .non
  | _, .bool b, h, _ => by cases h; exact .bl b
  | _, .int i, h, _ => by cases h; exact .int i
  | _, .str y, h, _ => by cases h; exact .str y
  | _, .list ds, h, c => by cases h with | lst f r => exact .lst f.sq (DRs.dp ds r c)
  | _, .tuple ds, h, c => by cases h with | tup f r => exact .tup f.sq (DRs.dp ds r c)
  | _, .dict _, h, c => absurd (show false = true from c) Bool.false_ne_true
theorem DRs.dp : ∀ {vs : List V} (ds : List PyData), DRs K tb A vs ds → PyData.canLayAll0 ds = true → DpAll K A.H vs ds
  | _, [], h, _ => by cases h; exact .nil
  | _, d :: ds, h, c => by
    have c : (PyData.canLay0 d && PyData.canLayAll0 ds) = true := c
    rw [Bool.and_eq_true] at c
    cases h with | cons a b => exact .cons (DR.dp d a c.1) (DRs.dp ds b c.2)
end
theorem WR.nxw (x : NxW tb A B) {v : V} {w : W} (h : WR K tb A v w) : WR K tb B v w := by
  cases w with
  | d y => exact DR.nxw x y h
  | loc n => obtain ⟨a, e, i⟩ := h; exact ⟨a, e, x.ix i⟩
theorem WR.nxt (x : Nxt tb A B) {v : V} {w : W} (h : WR K tb A v w) : WR K tb B v w := by
  cases w with
  | d y => exact DR.nxt x y h
  | loc n => obtain ⟨a, e, i⟩ := h; exact ⟨a, e, x.ix i⟩
theorem WRs.nxt (x : Nxt tb A B) {vs : List V} {ws : List W} (h : WRs K tb A vs ws) : WRs K tb B vs ws := Paired.mapP h fun _ _ r => r.nxt x
theorem DRs.length {vs : List V} {ds : List PyData} (h : DRs K tb A vs ds) : vs.length = ds.length := by
  induction ds generalizing vs with
  | nil => cases h; rfl
  | cons d ds ih => cases h with | cons a b => simp [ih b]
theorem DRs.get {vs : List V} {ds : List PyData} (h : DRs K tb A vs ds) : ∀ {i : Nat} {v : V}, vs[i]? = some v → ∃ d, ds[i]? = some d ∧ DR K tb A v d := by
  induction ds generalizing vs with
  | nil => intro i v e; cases h; simp at e
  | cons d ds ih =>
    intro i v e
    cases h with
    | cons a b =>
      cases i with
      | zero => simp at e; subst e; exact ⟨d, rfl, a⟩
      | succ i => simp at e; obtain ⟨d', q, r⟩ := ih b e; exact ⟨d', by simpa using q, r⟩
theorem DRs.get' {vs : List V} {ds : List PyData} (h : DRs K tb A vs ds) {i : Nat} {d : PyData} (e : ds[i]? = some d) : ∃ v, vs[i]? = some v ∧ DR K tb A v d := by
  have hl := h.length
  have hi : i < vs.length := by rw [hl]; exact (List.getElem?_eq_some_iff.mp e).1
  obtain ⟨d', q, r⟩ := h.get (List.getElem?_eq_getElem hi)
  rw [e] at q; cases q
  exact ⟨_, List.getElem?_eq_getElem hi, r⟩
theorem DRs.append {vs us : List V} {ds es : List PyData} (h : DRs K tb A vs ds) (g : DRs K tb A us es) : DRs K tb A (vs ++ us) (ds ++ es) := by
  induction ds generalizing vs with
  | nil => cases h; exact g
  | cons d ds ih => cases h with | cons a b => exact .cons a (ih b)
theorem DRs.take {vs : List V} {ds : List PyData} (h : DRs K tb A vs ds) : ∀ n, DRs K tb A (vs.take n) (ds.take n) := by
  induction ds generalizing vs with
  | nil => intro n; cases h; simp; exact .nil
  | cons d ds ih =>
    intro n
    cases h with
    | cons a b =>
      cases n with
      | zero => exact .nil
      | succ n => exact .cons a (ih b n)
theorem DRs.drop {vs : List V} {ds : List PyData} (h : DRs K tb A vs ds) : ∀ n, DRs K tb A (vs.drop n) (ds.drop n) := by
  induction ds generalizing vs with
  | nil => intro n; cases h; simp; exact .nil
  | cons d ds ih =>
    intro n
    cases h with
    | cons a b =>
      cases n with
      | zero => exact .cons a b
      | succ n => exact ih b n
end
noncomputable def OR (K : PySem.W.Frag) (tb : List Addr) (A : Wd) : Ob → Addr → Prop
  | .lst ws, a => ∃ vs, A.H a = some (.lst vs) ∧ WRs K tb A vs ws
  | .dct kvs, a => ∃ vs, A.H a = some (.dK vs) ∧ Paired (fun (p : Key × V) (q : Key × W) => p.1 = q.1 ∧ WR K tb A p.2 q.2) vs kvs
  | .ins C fs, a => ∃ dx vs, A.H a = some (.ins C dx vs) ∧ Paired (fun (p : Str × V) (q : Str × W) => p.1 = q.1 ∧ WR K tb A p.2 q.2) vs fs
  | .ldct kvs, a => ∃ o vs, A.H a = some (.frz o (.dK vs)) ∧ Paired (fun (p : Key × V) (q : Key × W) => p.1 = q.1 ∧ WR K tb A p.2 q.2) vs kvs
  | .dcn w kvs, a => ∃ ys, A.H a = some (Dn.DN w a ys) ∧ Paired (fun (y : NestedKey × Addr × V) (q : NestedKey × W) => y.1 = q.1 ∧ (DR K tb A (.ref y.2.1) y.1.data ∧ y.1.depth ≤ 8) ∧ WR K tb A y.2.2 q.2) ys kvs
structure Rep (K : PySem.W.Frag) (tb : List Addr) (A : Wd) (S : Mem) : Prop where
  len : A.ι.length = S.length
  nd : A.ι.Nodup
  tabs : ∀ P ∈ tb, TabG A.H P
  hd : ∀ b ∈ A.hid, (∃ o, A.H b = some o) ∧ b ∉ A.ι ∧ b ∉ tb
  at_ : ∀ (n : Nat) a ob, A.ι[n]? = some a → S[n]? = some ob → OR K tb A ob a
section
variable {K : PySem.W.Frag} {tb : List Addr} {A B : Wd} {S : Mem}
theorem OR.some {ob : Ob} {a : Addr} (h : OR K tb A ob a) : ∃ o, A.H a = some o ∧ ∀ ps, o ≠ .tbl ps := by
  cases ob with
  | lst ws => obtain ⟨vs, e, _⟩ := h; exact ⟨_, e, fun _ z => nomatch z⟩
  | dct kvs => obtain ⟨vs, e, _⟩ := h; exact ⟨_, e, fun _ z => nomatch z⟩
  | ins C fs => obtain ⟨dx, vs, e, _⟩ := h; exact ⟨_, e, fun _ z => nomatch z⟩
  | ldct kvs => obtain ⟨o, vs, e, _⟩ := h; exact ⟨_, e, fun _ z => nomatch z⟩
  | dcn w kvs => obtain ⟨ys, e, _⟩ := h; exact ⟨_, e, fun _ z => nomatch z⟩
theorem Rep.get (R : Rep K tb A S) {n : Nat} {a : Addr} (h : A.ι[n]? = some a) : ∃ ob, S[n]? = some ob ∧ OR K tb A ob a := by
  have hn : n < S.length := by rw [← R.len]; exact (List.getElem?_eq_some_iff.mp h).1
  exact ⟨S[n], List.getElem?_eq_getElem hn, R.at_ n a _ h (List.getElem?_eq_getElem hn)⟩
theorem Rep.mut (R : Rep K tb A S) {a : Addr} (h : a ∈ A.ι) : ∃ o, A.H a = some o ∧ ∀ ps, o ≠ .tbl ps := by
  obtain ⟨n, hn, e⟩ := List.getElem_of_mem h
  obtain ⟨ob, _, q⟩ := R.get (n := n) (a := a) (by rw [List.getElem?_eq_getElem hn, e])
  exact q.some
theorem Rep.fresh (R : Rep K tb A S) {p : Addr} (h : A.H p = none) : ¬ Mu tb A p := by
  rintro (z | z | z)
  · obtain ⟨o, e, _⟩ := R.mut z; rw [h] at e; cases e
  · obtain ⟨ps, e, _⟩ := R.tabs p z; rw [h] at e; cases e
  · obtain ⟨⟨o, e⟩, _⟩ := R.hd p z; rw [h] at e; cases e
theorem Rep.tab_ne (R : Rep K tb A S) {a P : Addr} (h : a ∈ A.ι) (hP : P ∈ tb) : a ≠ P := by
  rintro rfl
  obtain ⟨o, e, m⟩ := R.mut h
  obtain ⟨ps, e', _⟩ := R.tabs a hP
  rw [e] at e'; cases e'; exact m _ rfl
theorem OR.nxt {ob : Ob} {a : Addr} (x : Nxt tb A B) (e : B.H a = A.H a) (h : OR K tb A ob a) : OR K tb B ob a := by
  cases ob with
  | lst ws => obtain ⟨vs, q, r⟩ := h; exact ⟨vs, by rw [e]; exact q, r.nxt x⟩
  | dct kvs => obtain ⟨vs, q, r⟩ := h; exact ⟨vs, by rw [e]; exact q, Paired.mapP r fun _ _ z => ⟨z.1, z.2.nxt x⟩⟩
  | ins C fs => obtain ⟨dx, vs, q, r⟩ := h; exact ⟨dx, vs, by rw [e]; exact q, Paired.mapP r fun _ _ z => ⟨z.1, z.2.nxt x⟩⟩
  | ldct kvs => obtain ⟨o, vs, q, r⟩ := h; exact ⟨o, vs, by rw [e]; exact q, Paired.mapP r fun _ _ z => ⟨z.1, z.2.nxt x⟩⟩
  | dcn w kvs => obtain ⟨ys, q, r⟩ := h; exact ⟨ys, by rw [e]; exact q, Paired.mapP r fun _ _ z => ⟨z.1, ⟨DR.nxt x _ z.2.1.1, z.2.1.2⟩, z.2.2.nxt x⟩⟩
noncomputable abbrev Wd.put (A : Wd) (p : Addr) (o : HO) : Wd := { A with H := upd A.H p o }
theorem upd_none {H : Hp} {a b : Addr} {o : HO} (h : upd H a o b = none) : H b = none := by
  by_cases e : b = a
  · rw [e, upd_same] at h; cases h
  · rw [upd_ne e] at h; exact h
theorem Nxt.put {p : Addr} (hp : A.H p = none) (o : HO) : Nxt tb A (A.put p o) :=
  ⟨fun _ z => z, fun _ z => .inl z, fun _ z => upd_none z, ⟨[], by simp⟩, fun b u n _ e => ⟨by show upd A.H p o b = _; rw [upd_ne (ne_of_none e hp)]; exact e, n⟩, fun b o' u _ e => by show upd A.H p o b = _; rw [upd_ne (ne_of_none e hp)]; exact e⟩
theorem Rep.put (R : Rep K tb A S) {p : Addr} (hp : A.H p = none) (o : HO) : Rep K tb (A.put p o) S := by
  have st : ∀ {b : Addr} {u : HO}, A.H b = some u → (A.put p o).H b = some u := fun {b u} e => by show upd A.H p o b = _; rw [upd_ne (ne_of_none e hp)]; exact e
  refine ⟨R.len, R.nd, fun P hP => ?_, fun b hb => ?_, fun n a ob e1 e2 => ?_⟩
  · obtain ⟨ps, e, t⟩ := R.tabs P hP; exact ⟨ps, st e, t⟩
  · obtain ⟨⟨o', e⟩, n⟩ := R.hd b hb; exact ⟨⟨o', st e⟩, n⟩
  · have q := R.at_ n a ob e1 e2
    obtain ⟨o', e, _⟩ := q.some
    exact q.nxt (.put hp o) (by rw [st e, e])
theorem Fz.put (R : Rep K tb A S) {p : Addr} (hp : A.H p = none) (o : HO) : Fz tb (A.put p o) p o := ⟨R.fresh hp, .inl upd_same⟩
noncomputable abbrev Wd.add (A : Wd) (p : Addr) (o : HO) : Wd := { A with H := upd A.H p o, ι := A.ι ++ [p] }
theorem Nxt.add {p : Addr} (hp : A.H p = none) (o : HO) : Nxt tb A (A.add p o) :=
  ⟨fun _ z => z, fun _ z => .inl z, fun _ z => upd_none z, ⟨[p], rfl⟩, fun b u n _ e => ⟨by show upd A.H p o b = _; rw [upd_ne (ne_of_none e hp)]; exact e, fun z => (List.mem_append.mp z).elim n fun z => ne_of_none e hp (List.mem_singleton.mp z)⟩, fun b o' u _ e => by show upd A.H p o b = _; rw [upd_ne (ne_of_none e hp)]; exact e⟩
theorem Rep.add (R : Rep K tb A S) {p : Addr} (hp : A.H p = none) {o : HO} {ob : Ob} (h : OR K tb (A.add p o) ob p) : Rep K tb (A.add p o) (S ++ [ob]) := by
  have st : ∀ {b : Addr} {u : HO}, A.H b = some u → (A.add p o).H b = some u := fun {b u} e => by show upd A.H p o b = _; rw [upd_ne (ne_of_none e hp)]; exact e
  have np : p ∉ A.ι := fun z => R.fresh hp (.inl z)
  refine ⟨by simp [R.len], ?_, fun P hP => ?_, fun b hb => ?_, fun n a ob' e1 e2 => ?_⟩
  · rw [List.nodup_append]
    exact ⟨R.nd, by simp, fun a ha b hb e => np (by rw [List.mem_singleton.mp hb] at e; rw [← e]; exact ha)⟩
  · obtain ⟨ps, e, t⟩ := R.tabs P hP; exact ⟨ps, st e, t⟩
  · obtain ⟨⟨o', e⟩, n, t⟩ := R.hd b hb
    exact ⟨⟨o', st e⟩, fun z => (List.mem_append.mp z).elim n fun z => ne_of_none e hp (List.mem_singleton.mp z), t⟩
  · have e1 : (A.ι ++ [p])[n]? = some a := e1
    by_cases hn : n < A.ι.length
    · rw [List.getElem?_append_left hn] at e1
      rw [List.getElem?_append_left (by rw [← R.len]; exact hn)] at e2
      have q := R.at_ n a ob' e1 e2
      obtain ⟨o', e, _⟩ := q.some
      exact q.nxt (.add hp o) (by rw [st e, e])
    · rw [List.getElem?_append_right (by omega)] at e1
      rw [List.getElem?_append_right (by rw [← R.len]; omega)] at e2
      have hz : n - A.ι.length = 0 := by
        cases hh : n - A.ι.length with
        | zero => rfl
        | succ k => rw [hh] at e1; simp at e1
      rw [hz] at e1
      rw [← R.len, hz] at e2
      simp at e1 e2
      subst e1 e2
      exact h
theorem Nxt.set {n : Nat} {a : Addr} {o : HO} (ha : A.ι[n]? = some a) (hm : ∀ o u, A.H a ≠ some (.frz o u)) : Nxt tb A (A.put a o) :=
  ⟨fun _ z => z, fun _ z => .inl z, fun _ z => upd_none z, ⟨[], by simp⟩, fun b u nb _ e => ⟨by show upd A.H a o b = _; rw [upd_ne (fun z => nb (by rw [z]; exact List.mem_of_getElem? ha))]; exact e, nb⟩, fun b o' u _ e => by show upd A.H a o b = _; rw [upd_ne (fun z => hm o' u (by rw [← z]; exact e))]; exact e⟩
theorem Rep.set (R : Rep K tb A S) {n : Nat} {a : Addr} {o : HO} {ob : Ob} (ha : A.ι[n]? = some a) (hf : ∀ o u, A.H a ≠ some (.frz o u)) (h : OR K tb (A.put a o) ob a) : Rep K tb (A.put a o) (S.set n ob) := by
  have hin := List.mem_of_getElem? ha
  have st : ∀ {b : Addr}, b ≠ a → (A.put a o).H b = A.H b := fun {b} e => upd_ne e
  refine ⟨by rw [List.length_set]; exact R.len, R.nd, fun P hP => ?_, fun b hb => ?_, fun m b ob' e1 e2 => ?_⟩
  · obtain ⟨ps, e, t⟩ := R.tabs P hP
    exact ⟨ps, by rw [st (R.tab_ne hin hP).symm]; exact e, t⟩
  · obtain ⟨⟨o', e⟩, n', t⟩ := R.hd b hb
    exact ⟨⟨o', by rw [st (fun z => n' (by rw [z]; exact hin))]; exact e⟩, n', t⟩
  · by_cases hm : m = n
    · subst hm
      have e1 : A.ι[m]? = some b := e1
      rw [ha] at e1; cases e1
      rw [List.getElem?_set_self (by rw [← R.len]; exact (List.getElem?_eq_some_iff.mp ha).1)] at e2
      cases e2
      exact h
    · rw [List.getElem?_set_ne (Ne.symm hm)] at e2
      have hb : b ≠ a := by
        rintro rfl
        obtain ⟨h1, q1⟩ := List.getElem?_eq_some_iff.mp ha
        obtain ⟨h2, q2⟩ := List.getElem?_eq_some_iff.mp e1
        exact hm ((List.getElem_inj R.nd).mp (q2.trans q1.symm))
      exact (R.at_ m b ob' e1 e2).nxt (.set ha hf) (st hb)
theorem nxt_tab {P : Addr} {H' : Hp} (hP : P ∈ tb) (t : Tabbed P A.H H') (t0 : TabG A.H P) : Nxt tb A { A with H := H' } :=
  ⟨fun _ z => z, fun _ z => .inl z, fun b z => by
    by_cases e : b = P
    · obtain ⟨ps, q, _⟩ := t.1
      rw [e] at z
      have z : H' P = none := z
      rw [q] at z; cases z
    · have z : H' b = none := z
      rw [t.2 b e] at z; exact z, ⟨[], by simp⟩, fun b u n nt e => ⟨by show H' b = _; rw [t.2 b (fun z => nt (by rw [z]; exact hP))]; exact e, n⟩, fun b o u _ e => by show H' b = _; rw [t.2 b (fun z => by obtain ⟨ps, q, _⟩ := t0; rw [z, q] at e; cases e)]; exact e⟩
theorem Rep.tab (R : Rep K tb A S) {P : Addr} {H' : Hp} (hP : P ∈ tb) (t : Tabbed P A.H H') : Rep K tb { A with H := H' } S := by
  refine ⟨R.len, R.nd, fun Q hQ => ?_, fun b hb => ?_, fun n a ob e1 e2 => ?_⟩
  · by_cases e : Q = P
    · rw [e]; exact t.1
    · obtain ⟨ps, q, z⟩ := R.tabs Q hQ
      exact ⟨ps, by show H' Q = _; rw [t.2 Q e]; exact q, z⟩
  · obtain ⟨⟨o', e⟩, n', nt⟩ := R.hd b hb
    exact ⟨⟨o', by show H' b = _; rw [t.2 b (fun z => nt (by rw [z]; exact hP))]; exact e⟩, n', nt⟩
  · exact (R.at_ n a ob e1 e2).nxt (nxt_tab hP t (R.tabs P hP)) (t.2 a (R.tab_ne (List.mem_of_getElem? e1) hP))
end
noncomputable abbrev Env' := List (Option W)
noncomputable def ER (K : PySem.W.Frag) (tb : List Addr) (A : Wd) (σ : L2.St) (ρ : Env') : Prop := ρ.length = σ.length ∧ ∀ (i : Nat) w, ρ[i]? = some (some w) → ∃ v, σ[i]? = some (some v) ∧ WR K tb A v w
noncomputable abbrev ME := Env' → Mem → Option (W × Mem)
noncomputable abbrev MT := Env' → Mem → Option (Bool × Mem)
noncomputable abbrev MA := Env' → Mem → Option (List W × Mem)
inductive Out where
  | nx | bk | ct | rt (w : W)
noncomputable abbrev MS := Env' → Mem → Option (Out × Env' × Mem)
noncomputable abbrev MG := W → Env' → Mem → Option (Env' × Mem)
section
variable (K : PySem.W.Frag) (tb : List Addr)
noncomputable def KE (A : Wd) (w : W) (S' : Mem) (Q : VK) : Prop := ∀ v B, Nxt tb A B → Rep K tb B S' → WR K tb B v w → Q v B.H
noncomputable def SE (t : TE) (m : ME) : Prop := ∀ A σ ρ S w S' Q, Rep K tb A S → ER K tb A σ ρ → m ρ S = some (w, S') → KE K tb A w S' Q → t σ A.H Q
noncomputable def ST (t : TT) (m : MT) : Prop := ∀ A σ ρ S b S' (Q : Bool → Hp → Prop), Rep K tb A S → ER K tb A σ ρ → m ρ S = some (b, S') → (∀ B, Nxt tb A B → Rep K tb B S' → Q b B.H) → t σ A.H Q
noncomputable def SA (t : TA) (m : MA) : Prop := ∀ A σ ρ S ws S' (Q : List V → Hp → Prop), Rep K tb A S → ER K tb A σ ρ → m ρ S = some (ws, S') → (∀ vs B, Nxt tb A B → Rep K tb B S' → WRs K tb B vs ws → Q vs B.H) → t σ A.H Q
noncomputable def FinK (D : Ends) (A : Wd) (o : Out) (ρ' : Env') (S' : Mem) : Prop := match o with
  | .nx => ∀ B σ', Nxt tb A B → Rep K tb B S' → ER K tb B σ' ρ' → D.nx σ' B.H
  | .bk => ∀ B σ', Nxt tb A B → Rep K tb B S' → ER K tb B σ' ρ' → D.bk σ' B.H
  | .ct => ∀ B σ', Nxt tb A B → Rep K tb B S' → ER K tb B σ' ρ' → D.ct σ' B.H
  | .rt w => ∀ B v, Nxt tb A B → Rep K tb B S' → WR K tb B v w → D.rt v B.H
noncomputable def SS (t : TS) (m : MS) : Prop := ∀ A σ ρ S o ρ' S' (D : Ends), Rep K tb A S → ER K tb A σ ρ → m ρ S = some (o, ρ', S') → FinK K tb D A o ρ' S' → t D σ A.H
noncomputable def SG (vs : List Nat) (g : TG) (m : MG) : Prop := ∀ A v w σ ρ S ρ' S' (Q : L2.St → Hp → Prop), Rep K tb A S → ER K tb A σ ρ → WR K tb A v w → m w ρ S = some (ρ', S') →
  (∀ B σ', Nxt tb A B → Rep K tb B S' → ER K tb B σ' ρ' → σ'.length = σ.length → (∀ j, j ∉ vs → σ'[j]? = σ[j]?) → Q σ' B.H) → g v σ A.H Q
end
section
variable {K : PySem.W.Frag} {tb : List Addr} {A B : Wd}
theorem ER.nxt {σ : L2.St} {ρ : Env'} (x : Nxt tb A B) (h : ER K tb A σ ρ) : ER K tb B σ ρ := ⟨h.1, fun i w e => by obtain ⟨v, q, r⟩ := h.2 i w e; exact ⟨v, q, r.nxt x⟩⟩
theorem ER.nxw {σ : L2.St} {ρ : Env'} (x : NxW tb A B) (h : ER K tb A σ ρ) : ER K tb B σ ρ := ⟨h.1, fun i w e => by obtain ⟨v, q, r⟩ := h.2 i w e; exact ⟨v, q, r.nxw x⟩⟩
theorem ER.set {σ : L2.St} {ρ : Env'} {v : V} {w : W} (h : ER K tb A σ ρ) (r : WR K tb A v w) (i : Nat) : ER K tb A (σ.set i (some v)) (ρ.set i (some w)) := by
  refine ⟨by rw [List.length_set, List.length_set]; exact h.1, fun j w' e => ?_⟩
  by_cases hj : j = i
  · subst hj
    have hlt : j < ρ.length := by
      have := (List.getElem?_eq_some_iff.mp e).1
      rwa [List.length_set] at this
    rw [List.getElem?_set_self hlt] at e
    cases e
    exact ⟨v, by rw [List.getElem?_set_self (by rw [← h.1]; exact hlt)], r⟩
  · rw [List.getElem?_set_ne (Ne.symm hj)] at e
    obtain ⟨v', q, r'⟩ := h.2 j w' e
    exact ⟨v', by rw [List.getElem?_set_ne (Ne.symm hj)]; exact q, r'⟩
theorem KE.nxt {w : W} {S' : Mem} {Q : VK} (x : Nxt tb A B) (h : KE K tb A w S' Q) : KE K tb B w S' Q := fun v C y R r => h v C (x.trans y) R r
theorem FinK.nxt {D : Ends} {o : Out} {ρ' : Env'} {S' : Mem} (x : Nxt tb A B) (h : FinK K tb D A o ρ' S') : FinK K tb D B o ρ' S' := by
  cases o with
  | nx => exact fun C σ' y R r => h C σ' (x.trans y) R r
  | bk => exact fun C σ' y R r => h C σ' (x.trans y) R r
  | ct => exact fun C σ' y R r => h C σ' (x.trans y) R r
  | rt w => exact fun C v y R r => h C v (x.trans y) R r
end
section
variable {K : PySem.W.Frag} {tb : List Addr}
noncomputable def eVar (i : Nat) : ME := fun ρ S => match ρ[i]? with
  | some (some w) => some (w, S)
  | _ => none
noncomputable def eC (x : PyData) : ME := fun _ S => some (.d x, S)
theorem se_var (i : Nat) : SE K tb (tVar i) (eVar i) := fun A σ ρ S w S' Q R E h q => by
  unfold eVar at h
  split at h
  · rename_i w' e
    cases h
    obtain ⟨v, e1, r⟩ := E.2 i _ e
    exact ⟨v, e1, q v A .refl R r⟩
  · cases h
theorem se_const {v : V} {x : PyData} (h : ∀ A, DR K tb A v x) : SE K tb (tC v) (eC x) := fun A σ ρ S w S' Q R E e q => by
  cases e
  exact q v A .refl R (h A)
theorem se_int {i : Int} : SE K tb (tC (.int i)) (eC (.int i)) := se_const fun _ => .int i
theorem se_str {x : Str} : SE K tb (tC (.str x)) (eC (.str x)) := se_const fun _ => .str x
theorem se_bl {b : Bool} : SE K tb (tC (.bl b)) (eC (.bool b)) := se_const fun _ => .bl b
theorem se_non : SE K tb (tC .non) (eC .none) := se_const fun _ => .non
noncomputable abbrev F2 := W → W → Mem → Option (W × Mem)
noncomputable abbrev F1 := W → Mem → Option (W × Mem)
noncomputable def SR (K : PySem.W.Frag) (tb : List Addr) (r : R2) (f : F2) : Prop := ∀ A x y a b S w S' Q, Rep K tb A S → WR K tb A x a → WR K tb A y b → f a b S = some (w, S') → Pd.KE K tb A w S' Q → r x y A.H Q
noncomputable def SU (K : PySem.W.Frag) (tb : List Addr) (r : V → Hp → VK → Prop) (f : F1) : Prop := ∀ A x a S w S' Q, Rep K tb A S → WR K tb A x a → f a S = some (w, S') → Pd.KE K tb A w S' Q → r x A.H Q
noncomputable def eOp (f : F2) (a b : ME) : ME := fun ρ S => (a ρ S).bind fun p => (b ρ p.2).bind fun q => f p.1 q.1 q.2
noncomputable def eUn (f : F1) (a : ME) : ME := fun ρ S => (a ρ S).bind fun p => f p.1 p.2
theorem se_op {r : R2} {f : F2} {ta tb' : TE} {a b : ME} (hr : SR K tb r f) (ha : SE K tb ta a) (hb : SE K tb tb' b) : SE K tb (tOp r ta tb') (eOp f a b) := fun A σ ρ S w S' Q R E e q => by
  obtain ⟨p, e1, e⟩ := Option.bind_eq_some_iff.mp e
  obtain ⟨z, e2, e⟩ := Option.bind_eq_some_iff.mp e
  refine ha A σ ρ S p.1 p.2 _ R E e1 fun x B N1 R1 r1 => ?_
  exact hb B σ ρ p.2 z.1 z.2 _ R1 (E.nxt N1) e2 fun y C N2 R2 r2 => hr C x y p.1 z.1 z.2 w S' Q R2 (r1.nxt N2) r2 e (q.nxt (N1.trans N2))
theorem se_un {r : V → Hp → VK → Prop} {f : F1} {ta : TE} {a : ME} (hr : SU K tb r f) (ha : SE K tb ta a) : SE K tb (tUn r ta) (eUn f a) := fun A σ ρ S w S' Q R E e q => by
  obtain ⟨p, e1, e⟩ := Option.bind_eq_some_iff.mp e
  exact ha A σ ρ S p.1 p.2 _ R E e1 fun x B N1 R1 r1 => hr B x p.1 p.2 w S' Q R1 r1 e (q.nxt N1)
noncomputable def oI (g : Int → Int → Option PyData) : F2 := fun a b S => match a, b with
  | .d (.int i), .d (.int j) => (g i j).map fun z => (.d z, S)
  | _, _ => none
theorem WR.int {A : Wd} {x : V} {i : Int} (h : WR K tb A x (.d (.int i))) : x = .int i := by cases (show DR K tb A x _ from h); rfl
theorem WR.str {A : Wd} {x : V} {i : Str} (h : WR K tb A x (.d (.str i))) : x = .str i := by cases (show DR K tb A x _ from h); rfl
theorem WR.bl {A : Wd} {x : V} {i : Bool} (h : WR K tb A x (.d (.bool i))) : x = .bl i := by cases (show DR K tb A x _ from h); rfl
theorem WR.non {A : Wd} {x : V} (h : WR K tb A x (.d .none)) : x = .non := by cases (show DR K tb A x _ from h); rfl
theorem WR.tup {A : Wd} {x : V} {ds : List PyData} (h : WR K tb A x (.d (.tuple ds))) : ∃ a xs, x = .ref a ∧ FzT K tb A a xs ∧ DRs K tb A xs ds := by
  cases (show DR K tb A x _ from h) with | tup f r => exact ⟨_, _, rfl, f, r⟩
theorem WR.lst {A : Wd} {x : V} {ds : List PyData} (h : WR K tb A x (.d (.list ds))) : ∃ a xs, x = .ref a ∧ Fz tb A a (.lst xs) ∧ DRs K tb A xs ds := by
  cases (show DR K tb A x _ from h) with | lst f r => exact ⟨_, _, rfl, f, r⟩
theorem WR.scr {A : Wd} {x : V} {ds : List PyData} (h : WR K tb A x (.d (.dict [(.none, .list ds)]))) : ∃ a xs, x = .ref a ∧ FzL K tb A a xs ∧ DRs K tb A xs ds := by
  cases (show DR K tb A x _ from h) with | scr f r => exact ⟨_, _, rfl, f, r⟩
theorem oI_some {g : Int → Int → Option PyData} {a b : W} {S S' : Mem} {w : W} (h : oI g a b S = some (w, S')) : ∃ i j z, a = .d (.int i) ∧ b = .d (.int j) ∧ g i j = some z ∧ w = .d z ∧ S' = S := by
  unfold oI at h
  split at h
  · rename_i i j
    obtain ⟨z, e1, e2⟩ := Option.map_eq_some_iff.mp h
    cases e2
    exact ⟨i, j, z, rfl, rfl, e1, rfl, rfl⟩
  · cases h
theorem sr_rI0 {g : Int → Int → PyData} {gv : Int → Int → V} (h : ∀ i j A, DR K tb A (gv i j) (g i j)) : SR K tb (rI0 gv) (oI fun i j => some (g i j)) := fun A x y a b S w S' Q R ra rb e q => by
  obtain ⟨i, j, z, rfl, rfl, e1, rfl, rfl⟩ := oI_some e
  cases e1
  obtain rfl := ra.int
  obtain rfl := rb.int
  exact ⟨i, j, rfl, rfl, q _ A .refl R (h i j A)⟩
theorem sr_rI {C : Int → Int → Prop} {c : Int → Int → Bool} {g : Int → Int → PyData} {gv : Int → Int → V} (hc : ∀ i j, c i j = true → C i j) (h : ∀ i j A, DR K tb A (gv i j) (g i j)) :
    SR K tb (rI C gv) (oI fun i j => if c i j = true then some (g i j) else none) := fun A x y a b S w S' Q R ra rb e q => by
  obtain ⟨i, j, z, rfl, rfl, e1, rfl, rfl⟩ := oI_some e
  split at e1
  · rename_i hcc
    cases e1
    obtain rfl := ra.int
    obtain rfl := rb.int
    exact ⟨i, j, rfl, rfl, hc i j hcc, q _ A .refl R (h i j A)⟩
  · cases e1
noncomputable def oSub : F2 := oI fun i j => some (.int (i - j))
noncomputable def oLt : F2 := oI fun i j => some (.bool (decide (i < j)))
noncomputable def oLe : F2 := oI fun i j => some (.bool (decide (i ≤ j)))
noncomputable def oGt : F2 := oI fun i j => some (.bool (decide (j < i)))
noncomputable def oGe : F2 := oI fun i j => some (.bool (decide (j ≤ i)))
noncomputable def oMul : F2 := oI fun i j => if decide (((-(2 ^ 64) < i ∧ i < 2 ^ 64) ∨ (-(2 ^ 64) < j ∧ j < 2 ^ 64)) ∨ i.natAbs.log2 + j.natAbs.log2 < 1000000) = true then some (.int (i * j)) else none
noncomputable def oDiv : F2 := oI fun i j => if decide (0 < j ∧ j.natAbs.log2 < 9000) = true then some (.int (i / j)) else none
noncomputable def oMod : F2 := oI fun i j => if decide (0 < j) = true then some (.int (i % j)) else none
theorem sr_sub : SR K tb (rI0 fun i j => .int (i - j)) oSub := sr_rI0 fun _ _ _ => .int _
theorem sr_lt : SR K tb (rI0 fun i j => .bl (decide (i < j))) oLt := sr_rI0 fun _ _ _ => .bl _
theorem sr_le : SR K tb (rI0 fun i j => .bl (decide (i ≤ j))) oLe := sr_rI0 fun _ _ _ => .bl _
noncomputable abbrev rMulA : R2 := rI (fun i j => CMul i j ∨ CMulW i j) fun i j => .int (i * j)
theorem sr_mul : SR K tb rMulA oMul := sr_rI (fun i j h => show ((-(2 ^ 64) < i ∧ i < 2 ^ 64) ∨ (-(2 ^ 64) < j ∧ j < 2 ^ 64)) ∨ i.natAbs.log2 + j.natAbs.log2 < 1000000 from of_decide_eq_true h) fun _ _ _ => .int _
theorem op_mulA {X : Cx} : OpR X (binaryOp .Mult) rMulA := fun pins s σ H x y v u Q I rx ry h => by
  obtain ⟨i, j, e1, e2, h | h, q⟩ := h
  · exact op_mul pins s σ H x y v u Q I rx ry ⟨i, j, e1, e2, h, q⟩
  · exact op_mulW pins s σ H x y v u Q I rx ry ⟨i, j, e1, e2, h, q⟩
theorem sr_div : SR K tb (rI CDivW fun i j => .int (i / j)) oDiv := sr_rI (fun i j h => show 0 < j ∧ j.natAbs.log2 < 9000 from of_decide_eq_true h) fun _ _ _ => .int _
theorem sr_mod : SR K tb (rI (fun _ j => 0 < j) fun i j => .int (i % j)) oMod := sr_rI (fun _ _ h => of_decide_eq_true h) fun _ _ _ => .int _
noncomputable def scalD : PyData → PyData → Bool
  | .none, .none => true | .none, .int _ => true | .int _, .none => true | .none, .bool _ => true | .bool _, .none => true | .none, .str _ => true | .str _, .none => true
  | .int _, .int _ => true | .bool _, .bool _ => true | .str _, .str _ => true
  | .int _, .str _ => true | .str _, .int _ => true | .bool _, .str _ => true | .str _, .bool _ => true
  | _, _ => false
noncomputable def eqS : PyData → PyData → Bool
  | .none, .none => true
  | .int i, .int j => decide (i = j)
  | .bool i, .bool j => decide (i = j)
  | .str i, .str j => decide (i = j)
  | _, _ => false
noncomputable def eqP (x y : PyData) : Option Bool := if scalD x y = true then some (eqS x y) else if SeqAt.shaped x = true ∧ SeqAt.shaped y = true then some (PyData.eqv x y) else none
noncomputable def oEq (n : Bool) : F2 := fun a b S => match a, b with
  | .d x, .d y => (eqP x y).map fun z => (.d (.bool (if n then !z else z)), S)
  | _, _ => none
theorem scal_of {A : Wd} {x y : V} {a b : PyData} (ra : DR K tb A x a) (rb : DR K tb A y b) (h : scalD a b = true) : scal x y = true ∧ decide (x = y) = eqS a b := by
  cases ra <;> cases rb <;> first | exact absurd (show false = true from h) Bool.false_ne_true | exact ⟨rfl, rfl⟩ | exact ⟨rfl, decide_eq_false (fun z => nomatch z)⟩ | (refine ⟨rfl, ?_⟩; show decide _ = decide _; congr 1; simp)
noncomputable abbrev rEqA (K : PySem.W.Frag) : R2 := fun x y H Q => rEq x y H Q ∨ rEqD K x y H Q
noncomputable abbrev rNeA (K : PySem.W.Frag) : R2 := fun x y H Q => rNe x y H Q ∨ rNeD K x y H Q
theorem eqP_run {A : Wd} {x y : V} {a b : PyData} {z : Bool} (ra : DR K tb A x a) (rb : DR K tb A y b) (h : eqP a b = some z) :
    (scal x y = true ∧ decide (x = y) = z) ∨ (SeqAt.shaped a = true ∧ SeqAt.shaped b = true ∧ PyData.eqv a b = z) := by
  unfold eqP at h
  split at h
  · rename_i hs
    cases h
    exact .inl (scal_of ra rb hs)
  · split at h
    · rename_i hs
      cases h
      exact .inr ⟨hs.1, hs.2, rfl⟩
    · cases h
theorem oEq_some {n : Bool} {a b : W} {S S' : Mem} {w : W} (h : oEq n a b S = some (w, S')) : ∃ x y z, a = .d x ∧ b = .d y ∧ eqP x y = some z ∧ w = .d (.bool (if n then !z else z)) ∧ S' = S := by
  unfold oEq at h
  split at h
  · rename_i x y
    obtain ⟨z, e1, e2⟩ := Option.map_eq_some_iff.mp h
    cases e2
    exact ⟨x, y, z, rfl, rfl, e1, rfl, rfl⟩
  · cases h
theorem sr_eq : SR K tb (rEqA K) (oEq false) := fun A x y a b S w S' Q R ra rb e q => by
  obtain ⟨u, v, z, rfl, rfl, e1, rfl, rfl⟩ := oEq_some e
  rcases eqP_run (show DR K tb A x u from ra) (show DR K tb A y v from rb) e1 with ⟨h1, h2⟩ | ⟨h1, h2, h3⟩
  · exact .inl ⟨h1, by rw [h2]; exact q _ A .refl R (DR.bl z)⟩
  · exact .inr ⟨u, v, DR.dp u ra (SeqAt.canLay_of_shaped h1), DR.dp v rb (SeqAt.canLay_of_shaped h2), h1, h2, by rw [h3]; exact q _ A .refl R (DR.bl z)⟩
theorem sr_ne : SR K tb (rNeA K) (oEq true) := fun A x y a b S w S' Q R ra rb e q => by
  obtain ⟨u, v, z, rfl, rfl, e1, rfl, rfl⟩ := oEq_some e
  rcases eqP_run (show DR K tb A x u from ra) (show DR K tb A y v from rb) e1 with ⟨h1, h2⟩ | ⟨h1, h2, h3⟩
  · exact .inl ⟨h1, by rw [h2]; exact q _ A .refl R (DR.bl (!z))⟩
  · exact .inr ⟨u, v, DR.dp u ra (SeqAt.canLay_of_shaped h1), DR.dp v rb (SeqAt.canLay_of_shaped h2), h1, h2, by rw [h3]; exact q _ A .refl R (DR.bl (!z))⟩
theorem op_eqA {X : Cx} (hu : X.A.units + 64 < cLine) : OpR X (compareOp .Eq) (rEqA X.K) := fun pins s σ H x y v u Q I rx ry h => h.elim (fun h => op_eq pins s σ H x y v u Q I rx ry h) (fun h => op_eqD hu pins s σ H x y v u Q I rx ry h)
theorem op_neA {X : Cx} (hu : X.A.units + 64 < cLine) : OpR X (compareOp .NotEq) (rNeA X.K) := fun pins s σ H x y v u Q I rx ry h => h.elim (fun h => op_ne pins s σ H x y v u Q I rx ry h) (fun h => op_neD hu pins s σ H x y v u Q I rx ry h)
noncomputable def isNonW : W → Bool
  | .d .none => true
  | _ => false
noncomputable def oIsN (n : Bool) : F2 := fun a b S => match b with
  | .d .none => some (.d (.bool (if n then !isNonW a else isNonW a)), S)
  | _ => none
theorem isNon_of {A : Wd} {x : V} {a : W} (h : WR K tb A x a) : decide (x = V.non) = isNonW a := by
  cases a with
  | d y => cases (show DR K tb A x y from h) <;> first | rfl | exact decide_eq_false (fun z => nomatch z)
  | loc n => obtain ⟨a, rfl, _⟩ := h; exact decide_eq_false (fun z => nomatch z)
theorem oIsN_some {n : Bool} {a b : W} {S S' : Mem} {w : W} (h : oIsN n a b S = some (w, S')) : b = .d .none ∧ w = .d (.bool (if n then !isNonW a else isNonW a)) ∧ S' = S := by
  unfold oIsN at h
  split at h
  · cases h; exact ⟨rfl, rfl, rfl⟩
  · cases h
theorem sr_isN : SR K tb (fun x y H Q => y = .non ∧ Q (.bl (decide (x = .non))) H) (oIsN false) := fun A x y a b S w S' Q R ra rb e q => by
  obtain ⟨rfl, rfl, rfl⟩ := oIsN_some e
  exact ⟨rb.non, by rw [isNon_of ra]; exact q _ A .refl R (DR.bl _)⟩
theorem sr_notN : SR K tb (fun x y H Q => y = .non ∧ Q (.bl (!decide (x = .non))) H) (oIsN true) := fun A x y a b S w S' Q R ra rb e q => by
  obtain ⟨rfl, rfl, rfl⟩ := oIsN_some e
  exact ⟨rb.non, by rw [isNon_of ra]; exact q _ A .refl R (DR.bl _)⟩
noncomputable def eB (m : ME) : MT := fun ρ S => (m ρ S).bind fun p => match p.1 with
  | .d (.bool b) => some (b, p.2)
  | _ => none
theorem eB_some {m : ME} {ρ : Env'} {S S' : Mem} {b : Bool} (h : eB m ρ S = some (b, S')) : m ρ S = some (.d (.bool b), S') := by
  obtain ⟨p, e1, e⟩ := Option.bind_eq_some_iff.mp h
  obtain ⟨w, S1⟩ := p
  dsimp only at e
  split at e
  · cases e; exact e1
  · cases e
theorem st_of {te : TE} {m : ME} {t : TT} (h : SE K tb te m) (ht : ∀ σ H Q, te σ H (fun x H1 => ∃ k, x = .bl k ∧ Q k H1) → t σ H Q) : ST K tb t (eB m) := fun A σ ρ S b S' Q R E e q => by
  refine ht _ _ _ (h A σ ρ S _ S' _ R E (eB_some e) fun v B N R' r => ?_)
  exact ⟨b, r.bl, q B N R'⟩
theorem st_test {te : TE} {m : ME} (h : SE K tb te m) : ST K tb (tTest te) (eB m) := st_of h fun _ _ _ z => z
theorem st_val {te : TE} {m : ME} (h : SE K tb te m) : ST K tb (tB te) (eB m) := st_of h fun _ _ _ z => z
noncomputable def eAnd (a b : MT) : MT := fun ρ S => (a ρ S).bind fun p => if p.1 = true then b ρ p.2 else some (false, p.2)
noncomputable def eOr (a b : MT) : MT := fun ρ S => (a ρ S).bind fun p => if p.1 = true then some (true, p.2) else b ρ p.2
noncomputable def eNot (a : MT) : MT := fun ρ S => (a ρ S).bind fun p => some (!p.1, p.2)
theorem st_and {t u : TT} {a b : MT} (ha : ST K tb t a) (hb : ST K tb u b) : ST K tb (tAnd t u) (eAnd a b) := fun A σ ρ S c S' Q R E e q => by
  obtain ⟨⟨k, S1⟩, e1, e⟩ := Option.bind_eq_some_iff.mp e
  refine ha A σ ρ S k S1 _ R E e1 fun B N R1 => ?_
  cases k with
  | true => exact hb B σ ρ S1 c S' Q R1 (E.nxt N) e fun C N2 R2 => q C (N.trans N2) R2
  | false => cases e; exact q B N R1
theorem st_or {t u : TT} {a b : MT} (ha : ST K tb t a) (hb : ST K tb u b) : ST K tb (tOr t u) (eOr a b) := fun A σ ρ S c S' Q R E e q => by
  obtain ⟨⟨k, S1⟩, e1, e⟩ := Option.bind_eq_some_iff.mp e
  refine ha A σ ρ S k S1 _ R E e1 fun B N R1 => ?_
  cases k with
  | false => exact hb B σ ρ S1 c S' Q R1 (E.nxt N) e fun C N2 R2 => q C (N.trans N2) R2
  | true => cases e; exact q B N R1
theorem st_not {t : TT} {a : MT} (ha : ST K tb t a) : ST K tb (tNot t) (eNot a) := fun A σ ρ S c S' Q R E e q => by
  obtain ⟨⟨k, S1⟩, e1, e⟩ := Option.bind_eq_some_iff.mp e
  cases e
  exact ha A σ ρ S k _ _ R E e1 fun B N R1 => q B N R1
noncomputable def eT (a : MT) : ME := fun ρ S => (a ρ S).bind fun p => some (.d (.bool p.1), p.2)
noncomputable def eAndV (a b : ME) : ME := fun ρ S => (eB a ρ S).bind fun p => if p.1 = true then b ρ p.2 else some (.d (.bool false), p.2)
noncomputable def eOrV (a b : ME) : ME := fun ρ S => (eB a ρ S).bind fun p => if p.1 = true then some (.d (.bool true), p.2) else b ρ p.2
noncomputable def eNotV (a : ME) : ME := fun ρ S => (eB a ρ S).bind fun p => some (.d (.bool (!p.1)), p.2)
theorem se_andV {ta tb' : TE} {a b : ME} (ha : SE K tb ta a) (hb : SE K tb tb' b) : SE K tb (tAndV ta tb') (eAndV a b) := fun A σ ρ S w S' Q R E e q => by
  obtain ⟨⟨k, S1⟩, e1, e⟩ := Option.bind_eq_some_iff.mp e
  refine ha A σ ρ S _ S1 _ R E (eB_some e1) fun v B N R1 r1 => ⟨k, r1.bl, ?_⟩
  cases k with
  | true => exact hb B σ ρ S1 w S' Q R1 (E.nxt N) e (q.nxt N)
  | false => cases e; exact q _ B N R1 (DR.bl false)
theorem se_orV {ta tb' : TE} {a b : ME} (ha : SE K tb ta a) (hb : SE K tb tb' b) : SE K tb (tOrV ta tb') (eOrV a b) := fun A σ ρ S w S' Q R E e q => by
  obtain ⟨⟨k, S1⟩, e1, e⟩ := Option.bind_eq_some_iff.mp e
  refine ha A σ ρ S _ S1 _ R E (eB_some e1) fun v B N R1 r1 => ⟨k, r1.bl, ?_⟩
  cases k with
  | false => exact hb B σ ρ S1 w S' Q R1 (E.nxt N) e (q.nxt N)
  | true => cases e; exact q _ B N R1 (DR.bl true)
theorem se_notV {ta : TE} {a : ME} (ha : SE K tb ta a) : SE K tb (tNotV ta) (eNotV a) := fun A σ ρ S w S' Q R E e q => by
  obtain ⟨⟨k, S1⟩, e1, e⟩ := Option.bind_eq_some_iff.mp e
  cases e
  exact ha A σ ρ S _ _ _ R E (eB_some e1) fun v B N R1 r1 => ⟨k, r1.bl, q _ B N R1 (DR.bl _)⟩
noncomputable def eIf (c : MT) (a b : ME) : ME := fun ρ S => (c ρ S).bind fun p => if p.1 = true then a ρ p.2 else b ρ p.2
theorem se_if {t : TT} {ta tb' : TE} {c : MT} {a b : ME} (hc : ST K tb t c) (ha : SE K tb ta a) (hb : SE K tb tb' b) : SE K tb (tIf t ta tb') (eIf c a b) := fun A σ ρ S w S' Q R E e q => by
  obtain ⟨⟨k, S1⟩, e1, e⟩ := Option.bind_eq_some_iff.mp e
  refine hc A σ ρ S k S1 _ R E e1 fun B N R1 => ?_
  cases k with
  | true => exact ha B σ ρ S1 w S' Q R1 (E.nxt N) e (q.nxt N)
  | false => exact hb B σ ρ S1 w S' Q R1 (E.nxt N) e (q.nxt N)
noncomputable def eChain (f g : F2) (a b c : ME) : ME := fun ρ S => (a ρ S).bind fun p => (b ρ p.2).bind fun q => (f p.1 q.1 q.2).bind fun z => match z.1 with
  | .d (.bool true) => (c ρ z.2).bind fun u => g q.1 u.1 u.2
  | .d (.bool false) => some (.d (.bool false), z.2)
  | _ => none
noncomputable def aNil : MA := fun _ S => some ([], S)
noncomputable def aCons (a : ME) (t : MA) : MA := fun ρ S => (a ρ S).bind fun p => (t ρ p.2).bind fun q => some (p.1 :: q.1, q.2)
theorem sa_nil : SA K tb tNil aNil := fun A σ ρ S ws S' Q R E e q => by cases e; exact q [] A .refl R .nil
theorem sa_cons {ta : TE} {t : TA} {a : ME} {m : MA} (ha : SE K tb ta a) (ht : SA K tb t m) : SA K tb (tCons ta t) (aCons a m) := fun A σ ρ S ws S' Q R E e q => by
  obtain ⟨p, e1, e⟩ := Option.bind_eq_some_iff.mp e
  obtain ⟨z, e2, e⟩ := Option.bind_eq_some_iff.mp e
  cases e
  exact ha A σ ρ S p.1 p.2 _ R E e1 fun x B N R1 r1 => ht B σ ρ p.2 z.1 z.2 _ R1 (E.nxt N) e2 fun xs C N2 R2 r2 => q _ C (N.trans N2) R2 (.cons (r1.nxt N2) r2)
noncomputable def dOf : List W → Option (List PyData)
  | [] => some []
  | .d x :: ws => (dOf ws).map (x :: ·)
  | .loc _ :: _ => none
theorem drs_of {A : Wd} : ∀ {vs : List V} {ws : List W} {ds : List PyData}, WRs K tb A vs ws → dOf ws = some ds → DRs K tb A vs ds
  | _, [], _, .nil, e => by cases e; exact .nil
  | _, .d x :: ws, _, .cons r t, e => by
    obtain ⟨ds, e1, e2⟩ := Option.map_eq_some_iff.mp e
    subst e2
    exact .cons r (drs_of t e1)
  | _, .loc n :: ws, _, .cons r t, e => by cases e
theorem wrs_of {A : Wd} : ∀ {vs : List V} {ds : List PyData}, DRs K tb A vs ds → WRs K tb A vs (ds.map .d)
  | _, [], h => by cases h; exact .nil
  | _, d :: ds, h => by cases h with | cons a b => exact .cons a (wrs_of b)
theorem dOf_length : ∀ {ws : List W} {ds : List PyData}, dOf ws = some ds → ws.length = ds.length
  | [], _, e => by cases e; rfl
  | .d x :: ws, _, e => by
    obtain ⟨ds, e1, e2⟩ := Option.map_eq_some_iff.mp e
    subst e2
    simp [dOf_length e1]
  | .loc n :: ws, _, e => by cases e
theorem dOf_map : ∀ {ds : List PyData}, dOf (ds.map .d) = some ds
  | [] => rfl
  | d :: ds => by show (dOf (ds.map .d)).map _ = _; rw [dOf_map]; rfl
noncomputable def mkT (ws : List W) (S : Mem) : Option (W × Mem) := (dOf ws).bind fun ds => if ds.length ≤ sizeLine then some (.d (.tuple ds), S) else none
noncomputable def mkF (ws : List W) (S : Mem) : Option (W × Mem) := (dOf ws).bind fun ds => if ds.length ≤ sizeLine then some (.d (.list ds), S) else none
noncomputable def mkL (ws : List W) (S : Mem) : Option (W × Mem) := if ws.length ≤ sizeLine then some (.loc S.length, S ++ [.lst ws]) else none
noncomputable def eTup (a : MA) : ME := fun ρ S => (a ρ S).bind fun p => mkT p.1 p.2
noncomputable def eLstF (a : MA) : ME := fun ρ S => (a ρ S).bind fun p => mkF p.1 p.2
noncomputable def eLstL (a : MA) : ME := fun ρ S => (a ρ S).bind fun p => mkL p.1 p.2
theorem WRs.length {A : Wd} {vs : List V} {ws : List W} (h : WRs K tb A vs ws) : vs.length = ws.length := Paired.length h
theorem mkT_run {A : Wd} {vs : List V} {ws : List W} {S S' : Mem} {w : W} {Q : VK} (R : Rep K tb A S) (r : WRs K tb A vs ws) (h : mkT ws S = some (w, S')) (q : Pd.KE K tb A w S' Q) : vs.length ≤ sizeLine ∧ ∀ p, A.H p = none → Q (.ref p) (upd A.H p (.tup vs)) := by
  obtain ⟨ds, e1, e⟩ := Option.bind_eq_some_iff.mp h
  split at e
  · rename_i hl
    cases e
    have rd := drs_of r e1
    refine ⟨by rw [rd.length]; exact hl, fun p hp => ?_⟩
    exact q _ (A.put p (.tup vs)) (.put hp _) (R.put hp _) (DR.tup (.inl (.put R hp _)) (DRs.nxt (.put hp _) ds rd))
  · cases e
theorem mkF_run {A : Wd} {vs : List V} {ws : List W} {S S' : Mem} {w : W} {Q : VK} (R : Rep K tb A S) (r : WRs K tb A vs ws) (h : mkF ws S = some (w, S')) (q : Pd.KE K tb A w S' Q) : vs.length ≤ sizeLine ∧ ∀ p, A.H p = none → Q (.ref p) (upd A.H p (.lst vs)) := by
  obtain ⟨ds, e1, e⟩ := Option.bind_eq_some_iff.mp h
  split at e
  · rename_i hl
    cases e
    have rd := drs_of r e1
    refine ⟨by rw [rd.length]; exact hl, fun p hp => ?_⟩
    exact q _ (A.put p (.lst vs)) (.put hp _) (R.put hp _) (DR.lst (.put R hp _) (DRs.nxt (.put hp _) ds rd))
  · cases e
theorem mkL_run {A : Wd} {vs : List V} {ws : List W} {S S' : Mem} {w : W} {Q : VK} (R : Rep K tb A S) (r : WRs K tb A vs ws) (h : mkL ws S = some (w, S')) (q : Pd.KE K tb A w S' Q) : vs.length ≤ sizeLine ∧ ∀ p, A.H p = none → Q (.ref p) (upd A.H p (.lst vs)) := by
  unfold mkL at h
  split at h
  · rename_i hl
    cases h
    refine ⟨by rw [WRs.length r]; exact hl, fun p hp => ?_⟩
    refine q _ (A.add p (.lst vs)) (.add hp _) (R.add hp ⟨vs, upd_same, r.nxt (.add hp _)⟩) ⟨p, rfl, ?_⟩
    show (A.ι ++ [p])[S.length]? = some p
    rw [← R.len]; simp
  · cases h
theorem se_tup {t : TA} {a : MA} (ha : SA K tb t a) : SE K tb (tTup t) (eTup a) := fun A σ ρ S w S' Q R E e q => by
  obtain ⟨p, e1, e⟩ := Option.bind_eq_some_iff.mp e
  exact ha A σ ρ S p.1 p.2 _ R E e1 fun vs B N R1 r1 => mkT_run R1 r1 e (q.nxt N)
theorem se_lstF {t : TA} {a : MA} (ha : SA K tb t a) : SE K tb (tLst t) (eLstF a) := fun A σ ρ S w S' Q R E e q => by
  obtain ⟨p, e1, e⟩ := Option.bind_eq_some_iff.mp e
  exact ha A σ ρ S p.1 p.2 _ R E e1 fun vs B N R1 r1 => mkF_run R1 r1 e (q.nxt N)
theorem se_lstL {t : TA} {a : MA} (ha : SA K tb t a) : SE K tb (tLst t) (eLstL a) := fun A σ ρ S w S' Q R E e q => by
  obtain ⟨p, e1, e⟩ := Option.bind_eq_some_iff.mp e
  exact ha A σ ρ S p.1 p.2 _ R E e1 fun vs B N R1 r1 => mkL_run R1 r1 e (q.nxt N)
noncomputable def sNx : MS := fun ρ S => some (.nx, ρ, S)
noncomputable def sSeq (a b : MS) : MS := fun ρ S => (a ρ S).bind fun p => match p.1 with
  | .nx => b p.2.1 p.2.2
  | o => some (o, p.2)
noncomputable def sIf (c : MT) (a b : MS) : MS := fun ρ S => (c ρ S).bind fun p => if p.1 = true then a ρ p.2 else b ρ p.2
noncomputable def sRet (a : ME) : MS := fun ρ S => (a ρ S).bind fun p => some (.rt p.1, ρ, p.2)
noncomputable def sDrop (a : ME) : MS := fun ρ S => (a ρ S).bind fun p => some (.nx, ρ, p.2)
noncomputable def sAsg (a : ME) (g : MG) : MS := fun ρ S => (a ρ S).bind fun p => (g p.1 ρ p.2).bind fun q => some (.nx, q.1, q.2)
noncomputable def sBrk : MS := fun ρ S => some (.bk, ρ, S)
noncomputable def sCt : MS := fun ρ S => some (.ct, ρ, S)
noncomputable def sNone : MS := fun _ _ => none
theorem ss_nil : SS K tb tNext sNx := fun A σ ρ S o ρ' S' D R E e q => by cases e; exact q A σ .refl R E
theorem ss_brk : SS K tb tBreak sBrk := fun A σ ρ S o ρ' S' D R E e q => by cases e; exact q A σ .refl R E
theorem ps_none {X : Cx} {st : Stmt} : PS X st tNever := ⟨fun _ _ _ _ _ _ h => h.elim⟩
theorem ss_none : SS K tb tNever sNone := fun A σ ρ S o ρ' S' D R E e q => by cases e
theorem ss_seq {t u : TS} {a b : MS} (ha : SS K tb t a) (hb : SS K tb u b) : SS K tb (tSeq t u) (sSeq a b) := fun A σ ρ S o ρ' S' D R E e q => by
  obtain ⟨⟨o1, ρ1, S1⟩, e1, e⟩ := Option.bind_eq_some_iff.mp e
  refine ha A σ ρ S o1 ρ1 S1 _ R E e1 ?_
  cases o1 with
  | nx => exact fun B σ' N R' E' => hb B σ' ρ1 S1 o ρ' S' D R' E' e (q.nxt N)
  | bk => cases e; exact q
  | ct => cases e; exact q
  | rt w => cases e; exact q
theorem ss_if {c : TT} {t u : TS} {m : MT} {a b : MS} (hc : ST K tb c m) (ha : SS K tb t a) (hb : SS K tb u b) : SS K tb (tIfS c t u) (sIf m a b) := fun A σ ρ S o ρ' S' D R E e q => by
  obtain ⟨⟨k, S1⟩, e1, e⟩ := Option.bind_eq_some_iff.mp e
  refine hc A σ ρ S k S1 _ R E e1 fun B N R1 => ?_
  cases k with
  | true => exact ha B σ ρ S1 o ρ' S' D R1 (E.nxt N) e (q.nxt N)
  | false => exact hb B σ ρ S1 o ρ' S' D R1 (E.nxt N) e (q.nxt N)
theorem ss_ret {te : TE} {a : ME} (ha : SE K tb te a) : SS K tb (tRet te) (sRet a) := fun A σ ρ S o ρ' S' D R E e q => by
  obtain ⟨p, e1, e⟩ := Option.bind_eq_some_iff.mp e
  cases e
  exact ha A σ ρ S p.1 p.2 _ R E e1 fun v B N R1 r => q B v N R1 r
theorem ss_drop {te : TE} {a : ME} (ha : SE K tb te a) : SS K tb (tDrop te) (sDrop a) := fun A σ ρ S o ρ' S' D R E e q => by
  obtain ⟨p, e1, e⟩ := Option.bind_eq_some_iff.mp e
  cases e
  exact ha A σ ρ S p.1 p.2 _ R E e1 fun v B N R1 r => q B σ N R1 (E.nxt N)
theorem ss_asg {te : TE} {a : ME} {g : TG} {m : MG} {vs : List Nat} (ha : SE K tb te a) (hg : SG K tb vs g m) : SS K tb (tAsg te g) (sAsg a m) := fun A σ ρ S o ρ' S' D R E e q => by
  obtain ⟨p, e1, e⟩ := Option.bind_eq_some_iff.mp e
  obtain ⟨z, e2, e⟩ := Option.bind_eq_some_iff.mp e
  cases e
  exact ha A σ ρ S p.1 p.2 _ R E e1 fun v B N R1 r => hg B v p.1 σ ρ p.2 z.1 z.2 _ R1 (E.nxt N) r e2 fun C σ' N2 R2 E2 _ _ => q C σ' (N.trans N2) R2 E2
noncomputable def gN (i : Nat) : MG := fun w ρ S => some (ρ.set i (some w), S)
theorem sg_name (i : Nat) : SG K tb [i] (gName i) (gN i) := fun A v w σ ρ S ρ' S' Q R E r e q => by
  cases e
  refine q A _ .refl R (E.set r i) (by rw [List.length_set]) fun j hj => ?_
  rw [List.getElem?_set_ne (fun z => hj (by rw [z]; exact List.mem_singleton.mpr rfl))]
noncomputable abbrev MGs := List PyData → Env' → Mem → Option (Env' × Mem)
noncomputable def SGs (K : PySem.W.Frag) (tb : List Addr) (vs : List Nat) (g : TGs) (m : MGs) : Prop := ∀ A xs ds σ ρ S ρ' S' (Q : L2.St → Hp → Prop), Rep K tb A S → ER K tb A σ ρ → DRs K tb A xs ds → m ds ρ S = some (ρ', S') →
  (∀ B σ', Nxt tb A B → Rep K tb B S' → ER K tb B σ' ρ' → σ'.length = σ.length → (∀ j, j ∉ vs → σ'[j]? = σ[j]?) → Q σ' B.H) → g xs σ A.H Q
noncomputable def gsNil : MGs := fun ds ρ S => match ds with
  | [] => some (ρ, S)
  | _ => none
noncomputable def gsCons (g : MG) (m : MGs) : MGs := fun ds ρ S => match ds with
  | [] => none
  | d :: ds => (g (.d d) ρ S).bind fun p => m ds p.1 p.2
noncomputable def gTup' (m : MGs) : MG := fun w ρ S => match w with
  | .d (.tuple ds) => m ds ρ S
  | _ => none
theorem sgs_nil : SGs K tb [] gNil gsNil := fun A xs ds σ ρ S ρ' S' Q R E r e q => by
  unfold gsNil at e
  split at e
  · cases e; cases r; exact ⟨rfl, q A σ .refl R E rfl fun _ _ => rfl⟩
  · cases e
theorem sgs_cons {vs us : List Nat} {g : TG} {u : TGs} {m : MG} {n : MGs} (hg : SG K tb vs g m) (hu : SGs K tb us u n) : SGs K tb (vs ++ us) (gCons g u) (gsCons m n) := fun A xs ds σ ρ S ρ' S' Q R E r e q => by
  cases ds with
  | nil => cases e
  | cons d ds =>
    obtain ⟨p, e1, e⟩ := Option.bind_eq_some_iff.mp e
    cases r with
    | cons a b =>
      refine ⟨_, _, rfl, hg A _ (.d d) σ ρ S p.1 p.2 _ R E a e1 fun B σ' N R1 E1 hl hj => ?_⟩
      refine hu B _ ds σ' p.1 p.2 ρ' S' Q R1 E1 (DRs.nxt N ds b) e fun C σ2 N2 R2 E2 hl2 hj2 => q C σ2 (N.trans N2) R2 E2 (hl2.trans hl) fun j hn => ?_
      rw [List.mem_append, not_or] at hn
      exact (hj2 j hn.2).trans (hj j hn.1)
noncomputable def SGlen (n : Nat) (m : MGs) : Prop := ∀ ds ρ S r, m ds ρ S = some r → ds.length = n
theorem glen_nil : SGlen 0 gsNil := fun ds ρ S r e => by
  unfold gsNil at e
  split at e
  · rfl
  · cases e
theorem glen_cons {n : Nat} {g : MG} {m : MGs} (h : SGlen n m) : SGlen (n + 1) (gsCons g m) := fun ds ρ S r e => by
  cases ds with
  | nil => cases e
  | cons d ds =>
    obtain ⟨p, e1, e⟩ := Option.bind_eq_some_iff.mp e
    simp [h _ _ _ _ e]
theorem sg_tup {n : Nat} {vs : List Nat} {g : TGs} {m : MGs} (hl : SGlen n m) (h : SGs K tb vs g m) : SG K tb vs (gTup K n g) (gTup' m) := fun A v w σ ρ S ρ' S' Q R E r e q => by
  unfold gTup' at e
  split at e
  · rename_i ds
    obtain ⟨a, xs, rfl, f, rd⟩ := r.tup
    exact ⟨a, xs, rfl, f.sq, by rw [rd.length]; exact hl _ _ _ _ e, h A xs ds σ ρ S ρ' S' Q R E rd e q⟩
  · cases e
end
noncomputable abbrev MF := List W → Mem → Option (W × Mem)
section
variable {K : PySem.W.Frag} {tb : List Addr}
noncomputable def spD (K : PySem.W.Frag) (tb : List Addr) (n : Nat) (m : MF) : Sp := fun vs H Q _ => vs.length = n ∧ ∃ (A : Wd) (ws : List W) (S : Mem) (w : W) (S' : Mem), A.H = H ∧ WRs K tb A vs ws ∧ Rep K tb A S ∧ m ws S = some (w, S') ∧ Pd.KE K tb A w S' Q
noncomputable def Ar (n : Nat) (m : MF) : Prop := ∀ ws S r, m ws S = some r → ws.length = n
noncomputable def eCall (m : MF) (a : MA) : ME := fun ρ S => (a ρ S).bind fun p => m p.1 p.2
theorem se_call {n : Nat} {m : MF} {t : TA} {a : MA} {E : XK} (h : Ar n m) (ha : SA K tb t a) : SE K tb (tCall (spD K tb n m) [] E t) (eCall m a) := fun A σ ρ S w S' Q R E e q => by
  obtain ⟨p, e1, e⟩ := Option.bind_eq_some_iff.mp e
  refine ha A σ ρ S p.1 p.2 _ R E e1 fun vs B N R1 r1 => ?_
  rw [List.append_nil]
  exact ⟨by rw [WRs.length r1]; exact h _ _ _ e, B, p.1, p.2, w, S', rfl, r1, R1, e, q.nxt N⟩
noncomputable def mNone : MF := fun _ _ => none
theorem ar_none {n : Nat} : Ar n mNone := fun _ _ _ h => nomatch h
noncomputable def wLt (n : Nat) : W → Bool
  | .d _ => true
  | .loc k => decide (k < n)
noncomputable def obLt (n : Nat) : Ob → Bool
  | .lst ws => ws.all (wLt n)
  | .dct kvs => kvs.all fun p => wLt n p.2
  | .ins _ fs => fs.all fun p => wLt n p.2
  | .ldct kvs => kvs.all fun p => wLt n p.2
  | .dcn _ kvs => kvs.all fun p => wLt n p.2
noncomputable def fin (f : Bool) (n : Nat) (w : W) (S : Mem) : Option (W × Mem) := if f = false then some (w, S) else
  if (S.take n).all (obLt n) = true then match w with
    | .d x => some (.d x, S.take n)
    | .loc k => if k < n then some (.loc k, S.take n) else match S[k]? with
      | some (.lst ws) => (dOf ws).map fun ds => (.d (.list ds), S.take n)
      | _ => none
  else none
theorem wLt_wr {A : Wd} {n : Nat} {v : V} {w : W} (R : WR K tb A v w) (h : wLt n w = true) : WR K tb { A with ι := A.ι.take n } v w := by
  cases w with
  | d x =>
    have key : ∀ {a : Addr} {u : HO}, Fz tb A a u → Fz tb { A with ι := A.ι.take n } a u := fun {a u} z => ⟨fun m => z.1 (m.imp (fun y => List.mem_of_mem_take y) id), z.2⟩
    have all : (∀ (v : V) (x : PyData), DR K tb A v x → DR K tb { A with ι := A.ι.take n } v x) := by
      intro v x h
      exact DR.rec (motive_1 := fun v x _ => DR K tb { A with ι := A.ι.take n } v x) (motive_2 := fun vs xs _ => DRs K tb { A with ι := A.ι.take n } vs xs)
        .non .bl .int .str (fun f _ r => .lst (key f) r) (fun f _ r => .scr (f.imp key id) r) (fun f _ r => .tup (f.imp key id) r) .nil (fun _ _ a b => .cons a b) h
    exact all v x R
  | loc k =>
    obtain ⟨a, e, i⟩ := R
    have hk : k < n := of_decide_eq_true h
    exact ⟨a, e, by show (A.ι.take n)[k]? = some a; rw [List.getElem?_take_of_lt hk]; exact i⟩
theorem drs_map {A B : Wd} (all : ∀ (x : PyData) (v : V), DR K tb A v x → DR K tb B v x) : ∀ {vs : List V} {ds : List PyData}, DRs K tb A vs ds → DRs K tb B vs ds
  | _, [], h => by cases h; exact .nil
  | _, d :: ds, h => by cases h with | cons a b => exact .cons (all _ _ a) (drs_map all b)
theorem fin_run {A B : Wd} {S S' : Mem} {f : Bool} {v : V} {w w' : W} {S'' : Mem} {Q : VK} (R0 : Rep K tb A S) (N : Nxt tb A B) (R : Rep K tb B S') (r : WR K tb B v w) (h : fin f S.length w S' = some (w', S'')) (q : Pd.KE K tb A w' S'' Q) : Q v B.H := by
  unfold fin at h
  split at h
  · cases h; exact q v B N R r
  split at h
  · rename_i hall
    obtain ⟨more, em⟩ := N.pre
    have et : B.ι.take S.length = A.ι := by rw [em, ← R0.len, List.take_left]
    let C : Wd := { B with ι := B.ι.take S.length }
    have up : ∀ {b : Addr}, b ∈ A.ι → b ∈ B.ι := fun {b} z => by rw [em]; exact List.mem_append_left _ z
    have NC : Nxt tb A C := ⟨N.hid, N.hid2, N.more, ⟨[], by show B.ι.take S.length = _; rw [et, List.append_nil]⟩, fun b o n t e => ⟨(N.keep b o n t e).1, fun z => n (by have z' : b ∈ B.ι.take S.length := z; rwa [et] at z')⟩, N.frz⟩
    have obC : ∀ {ob : Ob} {a : Addr}, OR K tb B ob a → obLt S.length ob = true → OR K tb C ob a := fun {ob a} z hl => by
      cases ob with
      | lst ws =>
        obtain ⟨vs, e, rr⟩ := z
        refine ⟨vs, e, ?_⟩
        have hl : ws.all (wLt S.length) = true := hl
        clear e h hall
        induction rr with
        | nil => exact .nil
        | cons a b ih =>
          rw [List.all_cons, Bool.and_eq_true] at hl
          exact .cons (wLt_wr a hl.1) (ih hl.2 hl.2)
      | dct kvs =>
        obtain ⟨vs, e, rr⟩ := z
        refine ⟨vs, e, ?_⟩
        have hl : (kvs.all fun p => wLt S.length p.2) = true := hl
        clear e h hall
        induction rr with
        | nil => exact .nil
        | cons a b ih =>
          rw [List.all_cons, Bool.and_eq_true] at hl
          exact .cons ⟨a.1, wLt_wr a.2 hl.1⟩ (ih hl.2 hl.2)
      | ldct kvs =>
        obtain ⟨o, vs, e, rr⟩ := z
        refine ⟨o, vs, e, ?_⟩
        have hl : (kvs.all fun p => wLt S.length p.2) = true := hl
        clear e h hall
        induction rr with
        | nil => exact .nil
        | cons a b ih =>
          rw [List.all_cons, Bool.and_eq_true] at hl
          exact .cons ⟨a.1, wLt_wr a.2 hl.1⟩ (ih hl.2 hl.2)
      | dcn w kvs =>
        obtain ⟨ys, e, rr⟩ := z
        refine ⟨ys, e, ?_⟩
        have hl : (kvs.all fun p => wLt S.length p.2) = true := hl
        clear e h hall
        induction rr with
        | nil => exact .nil
        | cons a b ih =>
          rw [List.all_cons, Bool.and_eq_true] at hl
          exact .cons ⟨a.1, ⟨wLt_wr (w := .d _) a.2.1.1 rfl, a.2.1.2⟩, wLt_wr a.2.2 hl.1⟩ (ih hl.2 hl.2)
      | ins CC fs =>
        obtain ⟨dx, vs, e, rr⟩ := z
        refine ⟨dx, vs, e, ?_⟩
        have hl : (fs.all fun p => wLt S.length p.2) = true := hl
        clear e h hall
        induction rr with
        | nil => exact .nil
        | cons a b ih =>
          rw [List.all_cons, Bool.and_eq_true] at hl
          exact .cons ⟨a.1, wLt_wr a.2 hl.1⟩ (ih hl.2 hl.2)
    have RC : Rep K tb C (S'.take S.length) := by
      refine ⟨?_, ?_, R.tabs, fun b hb => ?_, fun n a ob e1 e2 => ?_⟩
      · show (B.ι.take S.length).length = _
        rw [List.length_take, List.length_take, R.len]
      · exact R.nd.sublist (List.take_sublist _ _)
      · obtain ⟨h1, h2, h3⟩ := R.hd b hb
        exact ⟨h1, fun z => h2 (List.mem_of_mem_take z), h3⟩
      · have e1 : (B.ι.take S.length)[n]? = some a := e1
        have hn : n < S.length := by
          have := (List.getElem?_eq_some_iff.mp e1).1
          rw [List.length_take] at this
          omega
        have e2' := e2
        rw [List.getElem?_take_of_lt hn] at e1 e2
        exact obC (R.at_ n a ob e1 e2) (List.all_eq_true.mp hall ob (List.mem_of_getElem? e2'))
    cases w with
    | d x =>
      cases h
      exact q v C NC RC (wLt_wr (w := .d x) r rfl)
    | loc k =>
      dsimp only at h
      split at h
      · rename_i hk
        cases h
        exact q v C NC RC (wLt_wr (w := .loc k) r (decide_eq_true hk))
      · rename_i hk
        split at h
        · rename_i ws ek
          obtain ⟨ds, e1, e2⟩ := Option.map_eq_some_iff.mp h
          cases e2
          obtain ⟨a, rfl, ei⟩ := r
          have o := R.at_ k a _ ei ek
          obtain ⟨vs, ev, rr⟩ := o
          refine q _ C NC RC (DR.lst ⟨?_, .inl ev⟩ ?_)
          · rintro (z | z | z)
            · have z : a ∈ B.ι.take S.length := z
              obtain ⟨j, hj, ej⟩ := List.getElem_of_mem z
              have ej' : (B.ι.take S.length)[j]? = some a := by rw [List.getElem?_eq_getElem hj, ej]
              have hjl : j < S.length := by rw [List.length_take] at hj; omega
              rw [List.getElem?_take_of_lt hjl] at ej'
              obtain ⟨h1, q1⟩ := List.getElem?_eq_some_iff.mp ej'
              obtain ⟨h2, q2⟩ := List.getElem?_eq_some_iff.mp ei
              have := (List.getElem_inj R.nd).mp (q1.trans q2.symm)
              omega
            · exact R.tab_ne (List.mem_of_getElem? ei) z rfl
            · exact (R.hd a z).2.1 (List.mem_of_getElem? ei)
          · have rd := drs_of rr e1
            have all : ∀ (x : PyData) (v : V), DR K tb B v x → DR K tb C v x := fun x v z => wLt_wr (w := .d x) z rfl
            exact drs_map all rd
        · cases h
  · cases h
noncomputable def dfn (n k : Nat) (f : Bool) (body : MS) : MF := fun ws S => if ws.length = n then (body (ws.map some ++ List.replicate k none) S).bind fun p => match p.1 with
    | .nx => fin f S.length (.d .none) p.2.2
    | .rt w => fin f S.length w p.2.2
    | _ => none
  else none
theorem ar_dfn {n k : Nat} {f : Bool} {body : MS} : Ar n (dfn n k f body) := fun ws S r h => by
  unfold dfn at h
  split at h
  · assumption
  · cases h
theorem er_start {A : Wd} {vs : List V} {ws : List W} (r : WRs K tb A vs ws) (k : Nat) : ER K tb A (vs.map some ++ List.replicate k none) (ws.map some ++ List.replicate k none) := by
  refine ⟨by simp [WRs.length r], fun i w e => ?_⟩
  have hl := WRs.length r
  by_cases hi : i < ws.length
  · rw [List.getElem?_append_left (by simpa using hi), List.getElem?_map] at e
    rw [List.getElem?_append_left (by simpa [hl] using hi), List.getElem?_map]
    obtain ⟨w', e1, e2⟩ := Option.map_eq_some_iff.mp e
    cases e2
    have : ∀ {vs : List V} {ws : List W} {i : Nat} {w : W}, WRs K tb A vs ws → ws[i]? = some w → ∃ v, vs[i]? = some v ∧ WR K tb A v w := by
      intro vs ws i w r
      induction r generalizing i with
      | nil => intro e; simp at e
      | cons a b ih =>
        intro e
        cases i with
        | zero => simp at e; subst e; exact ⟨_, rfl, a⟩
        | succ i => simp at e; obtain ⟨v, q, z⟩ := ih e; exact ⟨v, by simpa using q, z⟩
    obtain ⟨v, q, z⟩ := this r e1
    exact ⟨v, by rw [q]; rfl, z⟩
  · rw [List.getElem?_append_right (by simpa using hi), List.getElem?_replicate] at e
    split at e <;> cases e
structure FunC (K : PySem.W.Frag) (x qual : Str) (st : Stmt) (f : Addr) (fd : FuncData) (c : Addr) : Prop where
  ex : ∃ (oc : Value) (od : Option Addr) (kV doc pm : Value) (an : Option Addr) (ct : Value) (osl : Array (Option Value)),
    fd = PySem.W.fnOf x qual (defArgs st) (defBody st) (defScope st) .none kV doc pm an (.ref c) ct ∧ K.lookup f = some ⟨oc, od, .func fd, osl⟩ ∧ PySem.W.codeIn K (.ref c) qual = true
  kp : PySem.W.keepIn K (.ref f) = true
variable {P : Program} {w : World} {mg : Str → Option Value} {base : Heap}
theorem def_ok {x qual : Str} {st : Stmt} {f : Addr} {fd : FuncData} {c : Addr} {N ps : List Str} {k : Nat} {fz : Bool} {body : MS} (F : FunC K x qual st f fd c) (S : FnScope N ps (defScope st))
    (hbody : ∀ (A : Around) (outer : List Env) (s : Shared) (H : Hp) (E : XK), Room k (A.deeper (envOfC qual (defScope st) s.heap.objs.size f (.ref c))) →
      ∃ t, PSs (cxOf CX0 P w K mg base N qual (defScope st) f (.ref c) A outer s H E).nox (defBody st) t ∧ SS K tb t body) :
    FnOk P w K mg base CX0 (k + 1) f fd ps (spD K tb ps.length (dfn ps.length (N.length - ps.length) fz body)) := by
  obtain ⟨oc, od, kV, doc, pm, an, ct, osl, rfl, lk, hcd⟩ := F.ex
  refine fn_of lk hcd S (fun vs H Q E h => h.1) fun A outer s H vs Q E hr hsp => ?_
  obtain ⟨t, h, hs⟩ := hbody A outer s H E hr
  refine ⟨t, h.nox, ?_⟩
  obtain ⟨hl, B, ws, S0, w', S', rfl, r, R, e, q⟩ := hsp
  unfold dfn at e
  rw [if_pos (by rw [← WRs.length r, hl])] at e
  obtain ⟨⟨o, ρ', S1⟩, e1, e⟩ := Option.bind_eq_some_iff.mp e
  have hst : L2.start N vs = vs.map some ++ List.replicate (N.length - ps.length) none := by unfold L2.start; rw [hl]
  rw [hst]
  refine hs B _ _ S0 o ρ' S1 _ R (er_start r _) e1 ?_
  cases o with
  | nx => exact fun C σ' N1 R1 E1 => fin_run (v := .non) (w := .d .none) R N1 R1 DR.non e q
  | rt w2 => exact fun C v N1 R1 r1 => fin_run R N1 R1 r1 e q
  | bk => cases e
  | ct => cases e
theorem fn_none {f : Addr} {fd : FuncData} {ps : List Str} {k : Nat} : FnOk P w K mg base CX0 k f fd ps (spD K tb ps.length mNone) :=
  ⟨fun vs H Q E h => h.1, fun A outer s H args us vs Q E hr he hb hv ⟨_, _, _, _, _, _, _, _, _, e, _⟩ => nomatch e⟩
end
inductive Itm where
  | vals (ws : List W)
  | live (n : Nat)
  | rev (n l : Nat)
  | enl (n : Nat)
noncomputable def numW (us : List PyData) : List W := us.zipIdx.map fun p => W.d (.tuple [.int (p.2 : Int), p.1])
noncomputable abbrev MI := Env' → Mem → Option (Itm × Mem)
section
variable {K : PySem.W.Frag} {tb : List Addr}
noncomputable def Itm.now (im : Itm) (S : Mem) (ws : List W) : Prop := match im with
  | .vals us => us = ws
  | .live n => S[n]? = some (.lst ws)
  | .rev n l => ∃ us, S[n]? = some (.lst us) ∧ us.length = l ∧ ws = us.reverse
  | .enl n => ∃ us ds, S[n]? = some (.lst us) ∧ dOf us = some ds ∧ ws = numW ds
noncomputable def ItOk (K : PySem.W.Frag) (tb : List Addr) (A : Wd) (J : It) (im : Itm) : Prop := ∀ B S ws, NxW tb A B → Rep K tb B S → im.now S ws →
  (∀ i w, ws[i]? = some w → J.go i B.H ∧ ∀ x H2, J.yld i B.H x H2 → ∃ C, C.H = H2 ∧ Nxt tb B C ∧ Rep K tb C S ∧ WR K tb C x w) ∧ ∀ i, ws.length ≤ i → J.stop i B.H
noncomputable def SI (K : PySem.W.Frag) (tb : List Addr) (wi : TI) (mi : MI) : Prop := ∀ A σ ρ S im S' (R' : It → Hp → Prop), Rep K tb A S → ER K tb A σ ρ → mi ρ S = some (im, S') → (∀ J B, Nxt tb A B → Rep K tb B S' → ItOk K tb B J im → R' J B.H) → wi σ A.H R'
noncomputable def Itm.at_ (im : Itm) (S : Mem) (i : Nat) : Option (Option W) := match im with
  | .vals ws => some ws[i]?
  | .live n => match S[n]? with
    | some (.lst ws) => some ws[i]?
    | _ => none
  | .rev n l => match S[n]? with
    | some (.lst us) => if us.length = l then some us.reverse[i]? else none
    | _ => none
  | .enl n => match S[n]? with
    | some (.lst us) => (dOf us).map fun ds => (numW ds)[i]?
    | _ => none
noncomputable def Itm.len (im : Itm) (S : Mem) : Nat := match im with
  | .vals ws => ws.length
  | .live n => match S[n]? with
    | some (.lst ws) => ws.length
    | _ => 0
  | .rev _ l => l
  | .enl n => match S[n]? with
    | some (.lst ws) => ws.length
    | _ => 0
theorem Itm.at_now {im : Itm} {S : Mem} {i : Nat} {o : Option W} (h : im.at_ S i = some o) : ∃ ws, im.now S ws ∧ o = ws[i]? := by
  cases im with
  | vals ws => cases h; exact ⟨ws, rfl, rfl⟩
  | live n =>
    have h : (match S[n]? with | some (.lst ws) => some ws[i]? | _ => none) = some o := h
    split at h
    · rename_i ws e; cases h; exact ⟨ws, e, rfl⟩
    · cases h
  | rev n l =>
    have h : (match S[n]? with | some (.lst us) => if us.length = l then some us.reverse[i]? else none | _ => none) = some o := h
    split at h
    · rename_i us e
      split at h
      · rename_i hl; cases h; exact ⟨us.reverse, ⟨us, e, hl, rfl⟩, rfl⟩
      · cases h
    · cases h
  | enl n =>
    have h : (match S[n]? with | some (.lst us) => (dOf us).map fun ds => (numW ds)[i]? | _ => none) = some o := h
    split at h
    · rename_i us e
      obtain ⟨ds, h1, h2⟩ := Option.map_eq_some_iff.mp h
      exact ⟨numW ds, ⟨us, ds, e, h1, rfl⟩, h2.symm⟩
    · cases h
noncomputable def forM (im : Itm) (g : MG) (b : MS) : Nat → Nat → MS
  | f, i, ρ, S => match im.at_ S i with
    | none => none
    | some none => some (.nx, ρ, S)
    | some (some w) => match f with
      | 0 => none
      | f + 1 => (g w ρ S).bind fun p => (b p.1 p.2).bind fun q => match q.1 with
        | .bk => some (.nx, q.2)
        | .rt w => some (.rt w, q.2)
        | _ => forM im g b f (i + 1) q.2.1 q.2.2
noncomputable def sFor (mi : MI) (g : MG) (b : MS) : MS := fun ρ S => (mi ρ S).bind fun p => forM p.1 g b (p.1.len p.2) 0 ρ p.2
theorem ss_for {wi : TI} {g : TG} {tb' : TS} {mi : MI} {mg : MG} {b : MS} {vs : List Nat} (hi : SI K tb wi mi) (hg : SG K tb vs g mg) (hb : SS K tb tb' b) : SS K tb (tFor wi g tb') (sFor mi mg b) := fun A σ ρ S o ρ' S' D R E e q => by
  obtain ⟨⟨im, S1⟩, e1, e⟩ := Option.bind_eq_some_iff.mp e
  refine hi A σ ρ S im S1 _ R E e1 fun J B N R1 ok => ?_
  refine ⟨fun i m σ H => ∃ C ρ1 S2 o ρ' S', C.H = H ∧ Nxt tb B C ∧ Rep K tb C S2 ∧ ER K tb C σ ρ1 ∧ forM im mg b m i ρ1 S2 = some (o, ρ', S') ∧ FinK K tb D C o ρ' S', ⟨_, B, ρ, S1, o, ρ', S', rfl, .refl, R1, E.nxt N, e, q.nxt N⟩, ?_⟩
  rintro i m σ2 _ ⟨C, ρ1, S2, o, ρ', S', rfl, N2, R2, E2, e2, q2⟩
  unfold forM at e2
  split at e2
  · cases e2
  · rename_i ha
    cases e2
    obtain ⟨ws, hw, hz⟩ := Itm.at_now ha
    have st := (ok C S2 ws N2.w R2 hw).2 i (List.getElem?_eq_none_iff.mp hz.symm)
    exact .inl ⟨st, q2 C σ2 .refl R2 E2⟩
  · rename_i w ha
    obtain ⟨ws, hw, hz⟩ := Itm.at_now ha
    obtain ⟨go, yl⟩ := (ok C S2 ws N2.w R2 hw).1 i w hz.symm
    cases m with
    | zero => cases e2
    | succ m =>
      obtain ⟨⟨ρ3, S3⟩, e3, e2⟩ := Option.bind_eq_some_iff.mp e2
      obtain ⟨⟨o4, ρ4, S4⟩, e4, e2⟩ := Option.bind_eq_some_iff.mp e2
      refine .inr ⟨go, fun σ' H' => ∃ C ρ1 S2 o ρ' S', C.H = H' ∧ Nxt tb B C ∧ Rep K tb C S2 ∧ ER K tb C σ' ρ1 ∧ forM im mg b m (i + 1) ρ1 S2 = some (o, ρ', S') ∧ FinK K tb D C o ρ' S', fun σ' H' h => ⟨m, Nat.lt_succ_self m, h⟩, fun x H2 y => ?_⟩
      obtain ⟨C2, rfl, N3, R3, r3⟩ := yl x H2 y
      refine hg C2 x w σ2 ρ1 S2 ρ3 S3 _ R3 (E2.nxt N3) r3 e3 fun C3 σ3 N4 R4 E4 _ _ => ?_
      refine hb C3 σ3 ρ3 S3 o4 ρ4 S4 _ R4 E4 e4 ?_
      have NN := N2.trans (N3.trans N4)
      cases o4 with
      | nx => exact fun C5 σ5 N5 R5 E5 => ⟨C5, ρ4, S4, o, ρ', S', rfl, NN.trans N5, R5, E5, e2, q2.nxt ((N3.trans N4).trans N5)⟩
      | ct => exact fun C5 σ5 N5 R5 E5 => ⟨C5, ρ4, S4, o, ρ', S', rfl, NN.trans N5, R5, E5, e2, q2.nxt ((N3.trans N4).trans N5)⟩
      | bk => cases e2; exact fun C5 σ5 N5 R5 E5 => q2 C5 σ5 ((N3.trans N4).trans N5) R5 E5
      | rt w2 => cases e2; exact fun C5 v N5 R5 r5 => q2 C5 v ((N3.trans N4).trans N5) R5 r5
noncomputable def iTupM (a : ME) : MI := fun ρ S => (a ρ S).bind fun p => match p.1 with
  | .d (.tuple ds) => some (.vals (ds.map .d), p.2)
  | _ => none
noncomputable def iLstM (a : ME) : MI := fun ρ S => (a ρ S).bind fun p => match p.1 with
  | .d (.list ds) => some (.vals (ds.map .d), p.2)
  | .d (.dict [(.none, .list ds)]) => some (.vals (ds.map .d), p.2)
  | .loc n => match p.2[n]? with
    | some (.lst _) => some (.live n, p.2)
    | _ => none
  | _ => none
noncomputable def iRngM (lo n : W) (S : Mem) : Option (Itm × Mem) := match lo, n with
  | .d (.int lo), .d (.int n) => if decide (-(2 ^ 62) ≤ lo ∧ lo < 2 ^ 62 ∧ -(2 ^ 62) ≤ n ∧ n < 2 ^ 62) = true then some (.vals ((List.range (n - lo).toNat).map fun (i : Nat) => W.d (.int (lo + (i : Int)))), S) else none
  | _, _ => none
noncomputable def iRng1M (a : MA) : MI := fun ρ S => (a ρ S).bind fun p => match p.1 with
  | [n] => iRngM (.d (.int 0)) n p.2
  | _ => none
noncomputable def iRng2M (a : MA) : MI := fun ρ S => (a ρ S).bind fun p => match p.1 with
  | [lo, n] => iRngM lo n p.2
  | _ => none
theorem itt_ok {A : Wd} {a : Addr} {xs : List V} {ds : List PyData} (f : FzT K tb A a xs) (r : DRs K tb A xs ds) : ItOk K tb A (Itt K a) (.vals (ds.map .d)) := fun B S ws N R e => by
  cases (show ds.map W.d = ws from e)
  have f' := (f.nxw N).sq
  have rl := r.length
  refine ⟨fun i w hw => ?_, fun i hi => ⟨xs, f', by rw [List.length_map] at hi; omega⟩⟩
  rw [List.getElem?_map] at hw
  obtain ⟨d, e1, rfl⟩ := Option.map_eq_some_iff.mp hw
  obtain ⟨v, e2, r2⟩ := r.get' e1
  refine ⟨⟨xs, v, f', e2⟩, fun x H2 y => ?_⟩
  obtain ⟨rfl, y⟩ := y
  have := y xs f'
  rw [e2] at this; cases this
  exact ⟨B, rfl, .refl, R, DR.nxw N d r2⟩
theorem itl_ok0 {A : Wd} {a : Addr} {xs : List V} {ds : List PyData} (f : FzL K tb A a xs) (r : DRs K tb A xs ds) : ItOk K tb A (Itl K a) (.vals (ds.map .d)) := fun B S ws N R e => by
  cases (show ds.map W.d = ws from e)
  have f' := (f.nxw N).sq
  have rl := r.length
  refine ⟨fun i w hw => ?_, fun i hi => ⟨xs, f', by rw [List.length_map] at hi; omega⟩⟩
  rw [List.getElem?_map] at hw
  obtain ⟨d, e1, rfl⟩ := Option.map_eq_some_iff.mp hw
  obtain ⟨v, e2, r2⟩ := r.get' e1
  refine ⟨⟨xs, v, f', e2⟩, fun x H2 y => ?_⟩
  obtain ⟨rfl, y⟩ := y
  have := y xs f'
  rw [e2] at this; cases this
  exact ⟨B, rfl, .refl, R, DR.nxw N d r2⟩
theorem itl_ok {A : Wd} {a : Addr} {xs : List V} {ds : List PyData} (f : Fz tb A a (.lst xs)) (r : DRs K tb A xs ds) : ItOk K tb A (Itl K a) (.vals (ds.map .d)) := itl_ok0 (.inl f) r
theorem WRs.get' {A : Wd} {vs : List V} {ws : List W} {i : Nat} {w : W} (r : WRs K tb A vs ws) (e : ws[i]? = some w) : ∃ v, vs[i]? = some v ∧ WR K tb A v w := by
  induction r generalizing i with
  | nil => simp at e
  | cons a b ih =>
    cases i with
    | zero => simp at e; subst e; exact ⟨_, rfl, a⟩
    | succ i => simp at e; obtain ⟨v, q, z⟩ := ih e; exact ⟨v, by simpa using q, z⟩
theorem itl_live {A : Wd} {a : Addr} {n : Nat} (ha : A.ι[n]? = some a) : ItOk K tb A (Itl K a) (.live n) := fun B S ws N R e => by
  have e : S[n]? = some (.lst ws) := e
  obtain ⟨xs, ex, r⟩ := R.at_ n a _ (N.ix ha) e
  have sq : SqL K B.H a xs := .inl (.inl ex)
  have rl := WRs.length r
  refine ⟨fun i w hw => ?_, fun i hi => ⟨xs, sq, by omega⟩⟩
  obtain ⟨v, e2, r2⟩ := WRs.get' r hw
  refine ⟨⟨xs, v, sq, e2⟩, fun x H2 y => ?_⟩
  obtain ⟨rfl, y⟩ := y
  have := y xs sq
  rw [e2] at this; cases this
  exact ⟨B, rfl, .refl, R, r2⟩
theorem itr_ok {A : Wd} {lo : Int} {n : Nat} : ItOk K tb A (Itr lo n) (.vals ((List.range n).map fun (i : Nat) => W.d (.int (lo + (i : Int))))) := fun B S ws N R e => by
  cases (show (List.range n).map (fun (i : Nat) => W.d (.int (lo + (i : Int)))) = ws from e)
  refine ⟨fun i w hw => ?_, fun i hi => (by simpa using hi : n ≤ i)⟩
  rw [List.getElem?_map] at hw
  obtain ⟨d, e1, rfl⟩ := Option.map_eq_some_iff.mp hw
  obtain ⟨hi, e2⟩ := List.getElem?_eq_some_iff.mp e1
  rw [List.getElem_range] at e2
  subst e2
  rw [List.length_range] at hi
  refine ⟨hi, fun x H2 y => ?_⟩
  obtain ⟨rfl, rfl⟩ := y
  exact ⟨B, rfl, .refl, R, DR.int _⟩
theorem si_tup {tl : TE} {a : ME} (ha : SE K tb tl a) : SI K tb (iTup K tl) (iTupM a) := fun A σ ρ S im S' R' R E e q => by
  obtain ⟨⟨w, S1⟩, e1, e⟩ := Option.bind_eq_some_iff.mp e
  refine ha A σ ρ S w S1 _ R E e1 fun v B N R1 r => ?_
  dsimp only at e
  split at e
  · cases e
    obtain ⟨a, xs, rfl, f, rd⟩ := r.tup
    exact ⟨a, rfl, ⟨xs, f.sq⟩, q _ B N R1 (itt_ok f rd)⟩
  · cases e
theorem si_lst {tl : TE} {a : ME} (ha : SE K tb tl a) : SI K tb (iList K tl) (iLstM a) := fun A σ ρ S im S' R' R E e q => by
  obtain ⟨⟨w, S1⟩, e1, e⟩ := Option.bind_eq_some_iff.mp e
  refine ha A σ ρ S w S1 _ R E e1 fun v B N R1 r => ?_
  dsimp only at e
  split at e
  · cases e
    obtain ⟨a, xs, rfl, f, rd⟩ := r.lst
    exact ⟨a, rfl, ⟨xs, f.sq⟩, q _ B N R1 (itl_ok f rd)⟩
  · cases e
    obtain ⟨a, xs, rfl, f, rd⟩ := r.scr
    exact ⟨a, rfl, ⟨xs, f.sq⟩, q _ B N R1 (itl_ok0 f rd)⟩
  · split at e
    · rename_i ws ew
      cases e
      obtain ⟨a, rfl, i⟩ := r
      obtain ⟨vs, ev, _⟩ := R1.at_ _ a _ i ew
      exact ⟨a, rfl, ⟨vs, .inl (.inl ev)⟩, q _ B N R1 (itl_live i)⟩
    · cases e
  · cases e
theorem iRngM_some {a b : W} {S S' : Mem} {im : Itm} (h : iRngM a b S = some (im, S')) : ∃ lo n : Int, a = .d (.int lo) ∧ b = .d (.int n) ∧ (-(2 ^ 62) ≤ lo ∧ lo < 2 ^ 62 ∧ -(2 ^ 62) ≤ n ∧ n < 2 ^ 62) ∧ im = .vals ((List.range (n - lo).toNat).map fun (i : Nat) => W.d (.int (lo + (i : Int)))) ∧ S' = S := by
  unfold iRngM at h
  split at h
  · rename_i lo n
    split at h
    · rename_i hc
      cases h
      exact ⟨lo, n, rfl, rfl, of_decide_eq_true hc, rfl, rfl⟩
    · cases h
  · cases h
theorem si_rng1 {t : TA} {a : MA} (ha : SA K tb t a) : SI K tb (iRng1 t) (iRng1M a) := fun A σ ρ S im S' R' R E e q => by
  obtain ⟨⟨ws, S1⟩, e1, e⟩ := Option.bind_eq_some_iff.mp e
  refine ha A σ ρ S ws S1 _ R E e1 fun vs B N R1 r => ?_
  dsimp only at e
  split at e
  · obtain ⟨lo, n, e2, rfl, hb, rfl, rfl⟩ := iRngM_some e
    cases e2
    cases r with
    | cons r1 r2 =>
      cases r2
      obtain rfl := WR.int r1
      refine ⟨n, rfl, hb.2.2.1, hb.2.2.2, q _ B N R1 ?_⟩
      have := itr_ok (K := K) (tb := tb) (A := B) (lo := 0) (n := (n - 0).toNat)
      rw [Int.sub_zero] at this ⊢
      exact this
  · cases e
noncomputable def wipeE (ρ : Env') : List Nat → Env'
  | [] => ρ
  | v :: vs => (wipeE ρ vs).set v none
theorem wipeE_er {A : Wd} {σ : L2.St} {ρ : Env'} (h : ER K tb A σ ρ) : ∀ vs : List Nat, ER K tb A (wipe σ vs) (wipeE ρ vs)
  | [] => h
  | v :: vs => by
    have ih := wipeE_er h vs
    refine ⟨by show ((wipeE ρ vs).set v none).length = ((wipe σ vs).set v none).length; rw [List.length_set, List.length_set]; exact ih.1, fun i w e => ?_⟩
    have e : ((wipeE ρ vs).set v none)[i]? = some (some w) := e
    show ∃ u, ((wipe σ vs).set v none)[i]? = some (some u) ∧ _
    by_cases hi : v = i
    · subst hi
      have hlt : v < (wipeE ρ vs).length := by
        have := (List.getElem?_eq_some_iff.mp e).1
        rwa [List.length_set] at this
      rw [List.getElem?_set_self hlt] at e
      cases e
    · rw [List.getElem?_set_ne hi] at e ⊢
      exact ih.2 i w e
theorem wipe_get {σ : L2.St} {j : Nat} : ∀ {vs : List Nat}, (wipe σ vs)[j]? = if j ∈ vs then (if j < σ.length then some none else none) else σ[j]?
  | [] => by simp [wipe]
  | v :: vs => by
    show ((wipe σ vs).set v none)[j]? = _
    by_cases hj : v = j
    · subst hj
      by_cases hl : v < (wipe σ vs).length
      · rw [List.getElem?_set_self hl]
        rw [wipe_length] at hl
        simp [hl]
      · rw [List.getElem?_eq_none (by rw [List.length_set]; omega)]
        rw [wipe_length] at hl
        simp [hl]
    · rw [List.getElem?_set_ne hj, wipe_get (vs := vs)]
      have : j ∈ v :: vs ↔ j ∈ vs := by
        rw [List.mem_cons]
        exact ⟨fun z => z.resolve_left (fun z => hj z.symm), .inr⟩
      by_cases hm : j ∈ vs
      · rw [if_pos hm, if_pos (this.mpr hm)]
      · rw [if_neg hm, if_neg (fun z => hm (this.mp z))]
theorem wipe_wipe {σ σ2 : L2.St} {vs : List Nat} (hl : σ2.length = (wipe σ vs).length) (h : ∀ j, j ∉ vs → σ2[j]? = (wipe σ vs)[j]?) : wipe σ2 vs = wipe σ vs := by
  apply List.ext_getElem?
  intro j
  rw [wipe_length] at hl
  rw [wipe_get, wipe_get]
  by_cases hj : j ∈ vs
  · rw [if_pos hj, if_pos hj, hl]
  · rw [if_neg hj, if_neg hj, h j hj, wipe_get, if_neg hj]
noncomputable def lcM (im : Itm) (g : MG) (t : MT) (e : ME) : Nat → Nat → Env' → Mem → Option (List W × Mem)
  | f, i, ρ, S => match im.at_ S i with
    | none => none
    | some none => some ([], S)
    | some (some w) => match f with
      | 0 => none
      | f + 1 => (g w ρ S).bind fun p => (t p.1 p.2).bind fun q => if q.1 = true then (e p.1 q.2).bind fun r => (lcM im g t e f (i + 1) ρ r.2).bind fun z => some (r.1 :: z.1, z.2) else lcM im g t e f (i + 1) ρ q.2
noncomputable def eLc (mi : MI) (vs : List Nat) (g : MG) (t : MT) (e : ME) (mk : List W → Mem → Option (W × Mem)) : ME := fun ρ S => (mi ρ S).bind fun p => (lcM p.1 g t e (p.1.len p.2) 0 (wipeE ρ vs) p.2).bind fun q => mk q.1 q.2
noncomputable def tYesM : MT := fun _ S => some (true, S)
theorem st_yes : ST K tb tYes tYesM := fun A σ ρ S b S' Q R E e q => by cases e; exact q A .refl R
theorem mkF_len {ws : List W} {S S' : Mem} {w : W} (h : mkF ws S = some (w, S')) : ws.length ≤ sizeLine := by
  obtain ⟨ds, e1, e⟩ := Option.bind_eq_some_iff.mp h
  split at e
  · rename_i hl; rw [dOf_length e1]; exact hl
  · cases e
theorem dr_key {A C : Wd} (key : ∀ (a : Addr) (u : HO), Fz tb A a u → Fz tb C a u) : ∀ (x : PyData) (v : V), DR K tb A v x → DR K tb C v x := fun x v h =>
  DR.rec (motive_1 := fun v x _ => DR K tb C v x) (motive_2 := fun vs xs _ => DRs K tb C vs xs)
    .non .bl .int .str (fun f _ r => .lst (key _ _ f) r) (fun f _ r => .scr (f.imp (key _ _) id) r) (fun f _ r => .tup (f.imp (key _ _) id) r) .nil (fun _ _ a b => .cons a b) h
theorem wr_key {A C : Wd} (key : ∀ (a : Addr) (u : HO), Fz tb A a u → Fz tb C a u) (hι : ∀ (n : Nat) a, A.ι[n]? = some a → C.ι[n]? = some a) {v : V} {w : W} (h : WR K tb A v w) : WR K tb C v w := by
  cases w with
  | d x => exact dr_key key x v h
  | loc n => obtain ⟨a, e, i⟩ := h; exact ⟨a, e, hι n a i⟩
theorem or_key {A C : Wd} (key : ∀ (a : Addr) (u : HO), Fz tb A a u → Fz tb C a u) (hι : ∀ (n : Nat) a, A.ι[n]? = some a → C.ι[n]? = some a) {ob : Ob} {a : Addr} (e : C.H a = A.H a) (h : OR K tb A ob a) : OR K tb C ob a := by
  cases ob with
  | lst ws => obtain ⟨vs, q, r⟩ := h; exact ⟨vs, by rw [e]; exact q, Paired.mapP r fun _ _ z => wr_key key hι z⟩
  | dct kvs => obtain ⟨vs, q, r⟩ := h; exact ⟨vs, by rw [e]; exact q, Paired.mapP r fun _ _ z => ⟨z.1, wr_key key hι z.2⟩⟩
  | ins CC fs => obtain ⟨dx, vs, q, r⟩ := h; exact ⟨dx, vs, by rw [e]; exact q, Paired.mapP r fun _ _ z => ⟨z.1, wr_key key hι z.2⟩⟩
  | ldct kvs => obtain ⟨o, vs, q, r⟩ := h; exact ⟨o, vs, by rw [e]; exact q, Paired.mapP r fun _ _ z => ⟨z.1, wr_key key hι z.2⟩⟩
  | dcn w kvs => obtain ⟨ys, q, r⟩ := h; exact ⟨ys, by rw [e]; exact q, Paired.mapP r fun _ _ z => ⟨z.1, ⟨dr_key key _ _ z.2.1.1, z.2.1.2⟩, wr_key key hι z.2.2⟩⟩
noncomputable abbrev Wd.hset (A : Wd) (D : Addr) (o : HO) : Wd := { A with H := upd A.H D o }
theorem hset_key {A : Wd} {D : Addr} {o : HO} (hD : D ∈ A.hid) : ∀ (a : Addr) (u : HO), Fz tb A a u → Fz tb (A.hset D o) a u := fun a u h => by
  have ne : a ≠ D := fun z => h.1 (.inr (.inr (by rw [z]; exact hD)))
  refine ⟨h.1, ?_⟩
  rcases h.2 with r | ⟨ob, r⟩
  · exact .inl (by show upd A.H D o a = _; rw [upd_ne ne]; exact r)
  · exact .inr ⟨ob, by show upd A.H D o a = _; rw [upd_ne ne]; exact r⟩
theorem Rep.hset {A : Wd} {D : Addr} {o : HO} {S : Mem} (R : Rep K tb A S) (hD : D ∈ A.hid) : Rep K tb (A.hset D o) S := by
  obtain ⟨_, h2, h3⟩ := R.hd D hD
  refine ⟨R.len, R.nd, fun P hP => ?_, fun b hb => ?_, fun n a ob e1 e2 => ?_⟩
  · obtain ⟨ps, e, t⟩ := R.tabs P hP
    exact ⟨ps, by show upd A.H D o P = _; rw [upd_ne (fun z => h3 (by rw [← z]; exact hP))]; exact e, t⟩
  · obtain ⟨⟨o', e⟩, n, t⟩ := R.hd b hb
    refine ⟨?_, n, t⟩
    by_cases z : b = D
    · subst z; exact ⟨o, upd_same⟩
    · exact ⟨o', by show upd A.H D o b = _; rw [upd_ne z]; exact e⟩
  · have ne : a ≠ D := fun z => h2 (by rw [← z]; exact List.mem_of_getElem? e1)
    exact or_key (hset_key hD) (fun _ _ z => z) (upd_ne ne) (R.at_ n a ob e1 e2)
theorem nxw_hset {A B : Wd} {D : Addr} {o : HO} (N : NxW tb A B) (hD : D ∈ A.hid) (hi : D ∉ A.ι) : NxW tb A (B.hset D o) :=
  ⟨N.hid, N.hid2, fun b z => N.more b (upd_none z), N.pre, fun b u n t h e => by
    obtain ⟨q, n'⟩ := N.keep b u n t h e
    exact ⟨by show upd B.H D o b = _; rw [upd_ne (fun z => h (by rw [z]; exact hD))]; exact q, n'⟩, fun b o' u m e => by show upd B.H D o b = _; rw [upd_ne (fun z => hi (by rw [← z]; exact m))]; exact N.frz b o' u m e⟩
theorem nxt_hset {A B : Wd} {D : Addr} {o : HO} (N : Nxt tb A B) (hD : A.H D = none) : Nxt tb A (B.hset D o) :=
  ⟨N.hid, N.hid2, fun b z => N.more b (upd_none z), N.pre, fun b u n t e => by
    obtain ⟨q, n'⟩ := N.keep b u n t e
    exact ⟨by show upd B.H D o b = _; rw [upd_ne (ne_of_none e hD)]; exact q, n'⟩, fun b o' u m e => by show upd B.H D o b = _; rw [upd_ne (ne_of_none e hD)]; exact N.frz b o' u m e⟩
theorem Nxt.hidden {A B : Wd} {S : Mem} (N : Nxt tb A B) (R : Rep K tb A S) {D : Addr} {o : HO} (hD : D ∈ A.hid) (e : A.H D = some o) : B.H D = some o := (N.keep D o (R.hd D hD).2.1 (R.hd D hD).2.2 e).1
noncomputable def SMk (K : PySem.W.Frag) (tb : List Addr) (mk : List W → Mem → Option (W × Mem)) : Prop := (∀ ws S r, mk ws S = some r → ws.length ≤ sizeLine) ∧ ∀ (B C : Wd) (D : Addr) (vs : List V) (ws : List W) (S0 S : Mem) (w : W) (S' : Mem) (Q : VK),
  Rep K tb B S0 → B.H D = none → Nxt tb B C → D ∈ C.hid → C.H D = some (.lst vs) → Rep K tb C S → WRs K tb C vs ws → mk ws S = some (w, S') → Pd.KE K tb B w S' Q → Q (.ref D) C.H
theorem smk_F : SMk K tb mkF := by
  refine ⟨fun ws S r h => mkF_len h, fun B C D vs ws S0 S w S' Q R0 hn N hD e R r h q => ?_⟩
  obtain ⟨ds, e1, e2⟩ := Option.bind_eq_some_iff.mp h
  split at e2
  · cases e2
    let E : Wd := { C with hid := B.hid }
    have key : ∀ (a : Addr) (u : HO), Fz tb C a u → Fz tb E a u := fun a u z => ⟨fun m => z.1 (m.imp id fun m => m.imp id fun m => N.hid a m), z.2⟩
    refine q (.ref D) E ⟨fun _ z => z, fun _ z => .inl z, N.more, N.pre, N.keep, N.frz⟩ ⟨R.len, R.nd, R.tabs, fun b hb => R.hd b (N.hid b hb), fun n a ob z1 z2 => or_key key (fun _ _ z => z) rfl (R.at_ n a ob z1 z2)⟩ (DR.lst ⟨?_, .inl e⟩ (drs_map (dr_key key) (drs_of r e1)))
    obtain ⟨_, h2, h3⟩ := R.hd D hD
    rintro (z | z | z)
    · exact h2 z
    · exact h3 z
    · obtain ⟨⟨o, eo⟩, _⟩ := R0.hd D z
      rw [hn] at eo; cases eo
  · cases e2
theorem se_lc {wi : TI} {mg' : TG} {tt : TT} {te : TE} {vs : List Nat} {us : List Nat} {mi : MI} {mg : MG} {mt : MT} {me : ME} {mk : List W → Mem → Option (W × Mem)} (hk : SMk K tb mk) (hi : SI K tb wi mi) (hg : SG K tb us mg' mg) (hsub : ∀ j, j ∈ us → j ∈ vs) (ht : ST K tb tt mt) (he : SE K tb te me) :
    SE K tb (tLc wi mg' tt te vs) (eLc mi vs mg mt me mk) := fun A σ ρ S w S' Q R E e q => by
  obtain ⟨⟨im, S1⟩, e1, e⟩ := Option.bind_eq_some_iff.mp e
  obtain ⟨⟨zs, S2⟩, e2, e3⟩ := Option.bind_eq_some_iff.mp e
  refine hi A σ ρ S im S1 _ R E e1 fun J B N R1 ok D hD => ?_
  have hlen := hk.1 _ _ _ e3
  let B1 : Wd := { H := upd B.H D (.lst []), ι := B.ι, hid := D :: B.hid }
  have nD := R1.fresh hD
  have N1 : Nxt tb B B1 := ⟨fun b z => List.mem_cons_of_mem _ z, fun b z => (List.mem_cons.mp z).elim (fun z => .inr (by rw [z]; exact hD)) .inl, fun b z => upd_none z, ⟨[], by show B.ι = _; simp⟩, fun b o n t e => ⟨by show upd B.H D _ b = _; rw [upd_ne (ne_of_none e hD)]; exact e, n⟩, fun b o' u _ e => by show upd B.H D _ b = _; rw [upd_ne (ne_of_none e hD)]; exact e⟩
  have RB : Rep K tb B1 S1 := by
    have R2 := R1.put hD (.lst [])
    refine ⟨R2.len, R2.nd, R2.tabs, fun b hb => ?_, fun n a ob z1 z2 => ?_⟩
    · rcases List.mem_cons.mp hb with z | z
      · subst z; exact ⟨⟨_, upd_same⟩, fun z => nD (.inl z), fun z => nD (.inr (.inl z))⟩
      · exact R2.hd b z
    · have o := R1.at_ n a ob z1 z2
      obtain ⟨oo, eo, _⟩ := o.some
      exact o.nxt N1 (by show upd B.H D _ a = _; rw [upd_ne (ne_of_none eo hD)])
  have EB := wipeE_er (E.nxt N) vs
  refine ⟨fun i m H => ∃ C acc ws S3 zs', C.H = H ∧ Nxt tb B C ∧ D ∈ C.hid ∧ C.H D = some (.lst acc) ∧ Rep K tb C S3 ∧ WRs K tb C acc ws ∧ lcM im mg mt me m i (wipeE ρ vs) S3 = some (zs', S2) ∧ ws ++ zs' = zs,
    ⟨_, B1, [], [], S1, zs, rfl, N1, List.mem_cons_self, upd_same, RB, .nil, e2, rfl⟩, ?_⟩
  rintro i m _ ⟨C, acc, ws, S3, zs', rfl, N3, hDC, eD, R3, racc, e4, hz⟩
  unfold lcM at e4
  split at e4
  · cases e4
  · rename_i ha
    cases e4
    obtain ⟨us', hu, hz'⟩ := Itm.at_now ha
    rw [List.append_nil] at hz
    subst hz
    exact .inl ⟨(ok C _ us' N3.w R3 hu).2 i (List.getElem?_eq_none_iff.mp hz'.symm), hk.2 B C D acc ws S1 _ w S' Q R1 hD N3 hDC eD R3 racc e3 (q.nxt N)⟩
  · rename_i w1 ha
    obtain ⟨us', hu, hz'⟩ := Itm.at_now ha
    obtain ⟨go, yl⟩ := (ok C S3 us' N3.w R3 hu).1 i w1 hz'.symm
    cases m with
    | zero => cases e4
    | succ m =>
      obtain ⟨⟨ρ5, S5⟩, e5, e4⟩ := Option.bind_eq_some_iff.mp e4
      obtain ⟨⟨k6, S6⟩, e6, e4⟩ := Option.bind_eq_some_iff.mp e4
      refine .inr ⟨go, fun H' => ∃ C acc ws S3 zs', C.H = H' ∧ Nxt tb B C ∧ D ∈ C.hid ∧ C.H D = some (.lst acc) ∧ Rep K tb C S3 ∧ WRs K tb C acc ws ∧ lcM im mg mt me m (i + 1) (wipeE ρ vs) S3 = some (zs', S2) ∧ ws ++ zs' = zs, fun H' h => ⟨m, Nat.lt_succ_self m, h⟩, fun x H2 y => ?_⟩
      obtain ⟨C2, rfl, N4, R4, r4⟩ := yl x H2 y
      have EC : ER K tb C2 (wipe σ vs) (wipeE ρ vs) := EB.nxt (N3.trans N4)
      refine hg C2 x w1 _ _ S3 ρ5 S5 _ R4 EC r4 e5 fun C3 σ3 N5 R5 E5 hl5 hj5 => ⟨wipe_wipe hl5 fun j hj => hj5 j fun z => hj (hsub j z), ?_⟩
      refine ht C3 σ3 ρ5 S5 k6 S6 _ R5 E5 e6 fun C4 N6 R6 => ?_
      have NC := N4.trans (N5.trans N6)
      cases k6 with
      | false =>
        simp only [Bool.false_eq_true, if_false] at e4 ⊢
        exact ⟨C4, acc, ws, S6, zs', rfl, N3.trans NC, NC.hid D hDC, NC.hidden R3 hDC eD, R6, WRs.nxt NC racc, e4, hz⟩
      | true =>
        simp only [if_true] at e4 ⊢
        obtain ⟨⟨y7, S7⟩, e7, e4⟩ := Option.bind_eq_some_iff.mp e4
        obtain ⟨⟨zs8, S8⟩, e8, e4⟩ := Option.bind_eq_some_iff.mp e4
        cases e4
        refine he C4 σ3 ρ5 S6 y7 S7 _ R6 (E5.nxt N6) e7 fun v C5 N7 R7 r7 => ?_
        have NC5 := NC.trans N7
        have hD5 := NC5.hid D hDC
        have eD5 := NC5.hidden R3 hDC eD
        have hac := WRs.length racc
        refine ⟨acc, eD5, ?_, C5.hset D (.lst (acc ++ [v])), acc ++ [v], ws ++ [y7], S7, zs8, rfl, nxt_hset (N3.trans NC5) hD, hD5, upd_same, R7.hset hD5, ?_, e8, by rw [List.append_assoc]; exact hz⟩
        · rw [← hz, List.length_append, List.length_cons] at hlen
          omega
        · exact Paired.snoc (Paired.mapP (WRs.nxt NC5 racc) fun _ _ z => wr_key (hset_key hD5) (fun _ _ z => z) z) (wr_key (hset_key hD5) (fun _ _ z => z) r7)
end
section
variable {K : PySem.W.Frag} {tb : List Addr}
noncomputable def allL (g : MG) (e : ME) : List W → Env' → Mem → Option (Bool × Mem)
  | [], _, S => some (true, S)
  | w :: ws, ρ, S => (g w ρ S).bind fun p => (eB e p.1 p.2).bind fun q => if q.1 = true then allL g e ws ρ q.2 else some (false, q.2)
noncomputable def eAll (mi : MI) (vs : List Nat) (g : MG) (e : ME) : ME := fun ρ S => (mi ρ S).bind fun p => match p.1 with
  | .vals ws => (allL g e ws (wipeE ρ vs) p.2).bind fun q => some (.d (.bool q.1), q.2)
  | _ => none
theorem se_all {wi : TI} {mg' : TG} {te : TE} {vs us : List Nat} {P : Addr} {mi : MI} {mg : MG} {me : ME} (hP : P ∈ tb) (hi : SI K tb wi mi) (hg : SG K tb us mg' mg) (hsub : ∀ j, j ∈ us → j ∈ vs) (he : SE K tb te me) :
    SE K tb (tAllG P wi mg' te vs) (eAll mi vs mg me) := fun A σ ρ S w S' Q R E e q => by
  obtain ⟨⟨im, S1⟩, e1, e⟩ := Option.bind_eq_some_iff.mp e
  refine hi A σ ρ S im S1 _ R E e1 fun J B N R1 ok => ⟨R1.tabs P hP, fun H2 hT => ?_⟩
  cases im with
  | live n => cases e
  | rev n l => cases e
  | enl n => cases e
  | vals ws =>
    obtain ⟨⟨b, S2⟩, e2, e⟩ := Option.bind_eq_some_iff.mp e
    cases e
    let B1 : Wd := { B with H := H2 }
    have N1 : Nxt tb B B1 := nxt_tab hP hT (R1.tabs _ hP)
    have RB : Rep K tb B1 S1 := R1.tab hP hT
    have EB := wipeE_er (E.nxt (N.trans N1)) vs
    refine ⟨ws.length, fun i H => ∃ C S3, C.H = H ∧ Nxt tb B C ∧ Rep K tb C S3 ∧ i ≤ ws.length ∧ allL mg me (ws.drop i) (wipeE ρ vs) S3 = some (b, S2), ⟨B1, S1, rfl, N1, RB, Nat.zero_le _, e2⟩, ?_⟩
    rintro i _ ⟨C, S3, rfl, N3, R3, hi, e3⟩
    obtain ⟨k1, k2⟩ := ok C S3 ws N3.w R3 rfl
    by_cases hlt : i < ws.length
    · have hd : ws.drop i = ws[i] :: ws.drop (i + 1) := List.drop_eq_getElem_cons hlt
      rw [hd] at e3
      obtain ⟨⟨ρ5, S5⟩, e5, e3⟩ := Option.bind_eq_some_iff.mp e3
      obtain ⟨⟨k6, S6⟩, e6, e3⟩ := Option.bind_eq_some_iff.mp e3
      obtain ⟨go, yl⟩ := k1 i _ (List.getElem?_eq_getElem hlt)
      refine .inr ⟨hlt, go, fun x H' y => ?_⟩
      obtain ⟨C2, rfl, N4, R4, r4⟩ := yl x H' y
      have EC : ER K tb C2 (wipe σ vs) (wipeE ρ vs) := wipeE_er (E.nxt (N.trans (N3.trans N4))) vs
      refine hg C2 x _ _ _ S3 ρ5 S5 _ R4 EC r4 e5 fun C3 σ3 N5 R5 E5 hl5 hj5 => ⟨wipe_wipe hl5 fun j hj => hj5 j fun z => hj (hsub j z), ?_⟩
      refine he C3 σ3 ρ5 S5 _ S6 _ R5 E5 (eB_some e6) fun v C4 N6 R6 r6 => ⟨k6, r6.bl, ?_⟩
      have NC := N3.trans (N4.trans (N5.trans N6))
      cases k6 with
      | true =>
        simp only [if_true] at e3 ⊢
        exact ⟨C4, S6, rfl, NC, R6, hlt, e3⟩
      | false =>
        simp only [Bool.false_eq_true, if_false] at e3 ⊢
        cases e3
        exact q _ C4 (N.trans NC) R6 (DR.bl false)
    · have hi' : i = ws.length := by omega
      subst hi'
      rw [List.drop_of_length_le (Nat.le_refl _)] at e3
      cases e3
      exact .inl ⟨rfl, k2 _ (Nat.le_refl _), q _ C (N.trans N3) R3 (DR.bl true)⟩
noncomputable def SC (K : PySem.W.Frag) (tb : List Addr) (r : List V → Hp → VK → Prop) (f : MF) : Prop := ∀ A vs ws S w S' Q, Rep K tb A S → WRs K tb A vs ws → f ws S = some (w, S') → Pd.KE K tb A w S' Q → r vs A.H Q
theorem se_cb {r : List V → Hp → VK → Prop} {f : MF} {t : TA} {a : MA} (hr : SC K tb r f) (ha : SA K tb t a) : SE K tb (tCB r t) (eCall f a) := fun A σ ρ S w S' Q R E e q => by
  obtain ⟨p, e1, e⟩ := Option.bind_eq_some_iff.mp e
  exact ha A σ ρ S p.1 p.2 _ R E e1 fun vs B N R1 r1 => hr B vs p.1 p.2 w S' Q R1 r1 e (q.nxt N)
theorem wrs1 {A : Wd} {vs : List V} {w : W} (r : WRs K tb A vs [w]) : ∃ v, vs = [v] ∧ WR K tb A v w := by
  cases r with | cons a b => cases b; exact ⟨_, rfl, a⟩
noncomputable def items (w : W) (S : Mem) : Option (List W) := match w with
  | .d (.list ds) => some (ds.map .d)
  | .d (.dict [(.none, .list ds)]) => some (ds.map .d)
  | .d (.tuple ds) => some (ds.map .d)
  | .loc n => match S[n]? with
    | some (.lst ws) => some ws
    | _ => none
  | _ => none
theorem items_run {A : Wd} {S : Mem} {v : V} {w : W} {ws : List W} (R : Rep K tb A S) (r : WR K tb A v w) (h : items w S = some ws) : ∃ a xs, v = .ref a ∧ (SqL K A.H a xs ∨ SqT K A.H a xs) ∧ WRs K tb A xs ws := by
  unfold items at h
  split at h
  · cases h
    obtain ⟨a, xs, rfl, f, rd⟩ := r.lst
    exact ⟨a, xs, rfl, .inl f.sq, wrs_of rd⟩
  · cases h
    obtain ⟨a, xs, rfl, f, rd⟩ := r.scr
    exact ⟨a, xs, rfl, .inl f.sq, wrs_of rd⟩
  · cases h
    obtain ⟨a, xs, rfl, f, rd⟩ := r.tup
    exact ⟨a, xs, rfl, .inr f.sq, wrs_of rd⟩
  · split at h
    · rename_i n ws' e
      cases h
      obtain ⟨a, rfl, i⟩ := r
      obtain ⟨vs, ev, rr⟩ := R.at_ _ a _ i e
      exact ⟨a, vs, rfl, .inl (.inl (.inl ev)), rr⟩
    · cases h
  · cases h
noncomputable def bLen : MF := fun ws S => match ws with
  | [w] => (items w S).bind fun us => some (.d (.int us.length), S)
  | _ => none
theorem sc_len : SC K tb (fun xs H Q => ∃ p ys, xs = [.ref p] ∧ (SqL K H p ys ∨ SqT K H p ys) ∧ Q (.int ys.length) H) bLen := fun A vs ws S w S' Q R r e q => by
  unfold bLen at e
  split at e
  · obtain ⟨us, e1, e2⟩ := Option.bind_eq_some_iff.mp e
    cases e2
    obtain ⟨v, rfl, r1⟩ := wrs1 r
    obtain ⟨a, xs, rfl, sq, rx⟩ := items_run R r1 e1
    exact ⟨a, xs, rfl, sq, by rw [WRs.length rx]; exact q _ A .refl R (DR.int _)⟩
  · cases e
noncomputable def itemsL (w : W) (S : Mem) : Option (List W) := match w with
  | .d (.list ds) => some (ds.map .d)
  | .d (.dict [(.none, .list ds)]) => some (ds.map .d)
  | .loc n => match S[n]? with
    | some (.lst ws) => some ws
    | _ => none
  | _ => none
theorem itemsL_run {A : Wd} {S : Mem} {v : V} {w : W} {ws : List W} (R : Rep K tb A S) (r : WR K tb A v w) (h : itemsL w S = some ws) : ∃ a xs, v = .ref a ∧ SqL K A.H a xs ∧ WRs K tb A xs ws := by
  unfold itemsL at h
  split at h
  · cases h
    obtain ⟨a, xs, rfl, f, rd⟩ := r.lst
    exact ⟨a, xs, rfl, f.sq, wrs_of rd⟩
  · cases h
    obtain ⟨a, xs, rfl, f, rd⟩ := r.scr
    exact ⟨a, xs, rfl, f.sq, wrs_of rd⟩
  · split at h
    · rename_i n ws' e
      cases h
      obtain ⟨a, rfl, i⟩ := r
      obtain ⟨vs, ev, rr⟩ := R.at_ _ a _ i e
      exact ⟨a, vs, rfl, .inl (.inl ev), rr⟩
    · cases h
  · cases h
noncomputable def bTuple : MF := fun ws S => match ws with
  | [.d (.tuple ds)] => some (.d (.tuple ds), S)
  | [w] => (itemsL w S).bind fun us => (dOf us).bind fun ds => some (.d (.tuple ds), S)
  | _ => none
theorem sc_tuple : SC K tb (fun xs H Q => ∃ p ys, xs = [.ref p] ∧ ((SqL K H p ys ∧ ∀ l, H l = none → Q (.ref l) (upd H l (.tup ys))) ∨ (SqT K H p ys ∧ Q (.ref p) H))) bTuple := fun A vs ws S w S' Q R r e q => by
  unfold bTuple at e
  split at e
  · cases e
    obtain ⟨v, rfl, r1⟩ := wrs1 r
    obtain ⟨a, xs, rfl, f, rd⟩ := r1.tup
    exact ⟨a, xs, rfl, .inr ⟨f.sq, q _ A .refl R r1⟩⟩
  · rename_i w1 hne
    obtain ⟨us, e1, e2⟩ := Option.bind_eq_some_iff.mp e
    obtain ⟨ds, e3, e4⟩ := Option.bind_eq_some_iff.mp e2
    cases e4
    obtain ⟨v, rfl, r1⟩ := wrs1 r
    obtain ⟨a, xs, rfl, sq, rx⟩ := itemsL_run R r1 e1
    exact ⟨a, xs, rfl, .inl ⟨sq, fun l hl => q _ (A.put l (.tup xs)) (.put hl _) (R.put hl _) (DR.tup (.inl (.put R hl _)) (DRs.nxt (.put hl _) ds (drs_of rx e3)))⟩⟩
  · cases e
noncomputable def bListF : MF := fun ws S => match ws with
  | [w] => (items w S).bind fun us => (dOf us).bind fun ds => some (.d (.list ds), S)
  | _ => none
noncomputable def bListL : MF := fun ws S => match ws with
  | [w] => (items w S).bind fun us => some (.loc S.length, S ++ [.lst us])
  | _ => none
noncomputable abbrev rLstOf (K : PySem.W.Frag) : List V → Hp → VK → Prop := fun xs H Q => ∃ p ys, xs = [.ref p] ∧ (SqL K H p ys ∨ SqT K H p ys) ∧ ∀ l, H l = none → Q (.ref l) (upd H l (.lst ys))
theorem sc_listL : SC K tb (rLstOf K) bListL := fun A vs ws S w S' Q R r e q => by
  unfold bListL at e
  split at e
  · obtain ⟨us, e1, e2⟩ := Option.bind_eq_some_iff.mp e
    cases e2
    obtain ⟨v, rfl, r1⟩ := wrs1 r
    obtain ⟨a, xs, rfl, sq, rx⟩ := items_run R r1 e1
    refine ⟨a, xs, rfl, sq, fun l hl => q _ (A.add l (.lst xs)) (.add hl _) (R.add hl ⟨xs, upd_same, rx.nxt (.add hl _)⟩) ⟨l, rfl, ?_⟩⟩
    show (A.ι ++ [l])[S.length]? = some l
    rw [← R.len]; simp
  · cases e
noncomputable def bAbs : MF := fun ws S => match ws with
  | [.d (.int i)] => some (.d (.int (if i < 0 then -i else i)), S)
  | _ => none
theorem sc_abs : SC K tb (fun xs H Q => ∃ i, xs = [.int i] ∧ Q (.int (if i < 0 then -i else i)) H) bAbs := fun A vs ws S w S' Q R r e q => by
  unfold bAbs at e
  split at e
  · cases e
    obtain ⟨v, rfl, r1⟩ := wrs1 r
    obtain rfl := WR.int r1
    exact ⟨_, rfl, q _ A .refl R (DR.int _)⟩
  · cases e
noncomputable def bInt : MF := fun ws S => match ws with
  | [.d (.int i)] => some (.d (.int i), S)
  | [.d (.bool k)] => some (.d (.int (if k then 1 else 0)), S)
  | _ => none
theorem sc_int : SC K tb (fun xs H Q => (∃ i, xs = [.int i] ∧ Q (.int i) H) ∨ ∃ k, xs = [.bl k] ∧ Q (.int (if k then 1 else 0)) H) bInt := fun A vs ws S w S' Q R r e q => by
  unfold bInt at e
  split at e
  · cases e
    obtain ⟨v, rfl, r1⟩ := wrs1 r
    obtain rfl := WR.int r1
    exact .inl ⟨_, rfl, q _ A .refl R (DR.int _)⟩
  · cases e
    obtain ⟨v, rfl, r1⟩ := wrs1 r
    obtain rfl := WR.bl r1
    exact .inr ⟨_, rfl, q _ A .refl R (DR.int _)⟩
  · cases e
noncomputable def bStr : MF := fun ws S => match ws with
  | [.d (.int i)] => if decide (i.natAbs.log2 < 1920) = true then some (.d (.str (toString i)), S) else none
  | _ => none
theorem sc_str : SC K tb (fun xs H Q => ∃ i, xs = [.int i] ∧ i.natAbs.log2 < 1920 ∧ Q (.str (toString i)) H) bStr := fun A vs ws S w S' Q R r e q => by
  unfold bStr at e
  split at e
  · split at e
    · rename_i hc
      cases e
      obtain ⟨v, rfl, r1⟩ := wrs1 r
      obtain rfl := WR.int r1
      exact ⟨_, rfl, of_decide_eq_true hc, q _ A .refl R (DR.str _)⟩
    · cases e
  · cases e
noncomputable def intsOf : List W → Option (List Int)
  | [] => some []
  | .d (.int i) :: ws => (intsOf ws).map (i :: ·)
  | _ :: _ => none
noncomputable def bSum : MF := fun ws S => match ws with
  | [w] => (itemsL w S).bind fun us => (intsOf us).bind fun ns => some (.d (.int ns.sum), S)
  | _ => none
noncomputable def maxI : List Int → Int
  | [] => 0
  | [i] => i
  | i :: r => max i (maxI r)
noncomputable def bMax : MF := fun ws S => match ws with
  | [w] => (itemsL w S).bind fun us => (intsOf us).bind fun ns => if ns.isEmpty = true then none else some (.d (.int (maxI ns)), S)
  | _ => none
theorem atI_drs {A : Wd} {xs : List V} {ds : List PyData} {i : Int} {d : PyData} (r : DRs K tb A xs ds) (h : atI ds i = some d) : ∃ v, atI xs i = some v ∧ DR K tb A v d := by
  unfold atI at h ⊢
  rw [r.length]
  obtain ⟨j, e1, e2⟩ := Option.bind_eq_some_iff.mp h
  obtain ⟨v, e3, rv⟩ := r.get' e2
  exact ⟨v, by rw [e1]; exact e3, rv⟩
theorem atI_wrs {A : Wd} {xs : List V} {ds : List W} {i : Int} {d : W} (r : WRs K tb A xs ds) (h : atI ds i = some d) : ∃ v, atI xs i = some v ∧ WR K tb A v d := by
  unfold atI at h ⊢
  rw [WRs.length r]
  obtain ⟨j, e1, e2⟩ := Option.bind_eq_some_iff.mp h
  obtain ⟨v, e3, rv⟩ := WRs.get' r e2
  exact ⟨v, by rw [e1]; exact e3, rv⟩
noncomputable def oIx : F2 := fun a b S => match b with
  | .d (.int i) => (match a with
    | .d (.tuple ds) => (atI ds i).map fun d => (.d d, S)
    | .d (.str z) => if z.length ≤ sizeLine then (atI z.cps.toList i).map fun c => (.d (.str ⟨#[c]⟩), S) else none
    | a => (itemsL a S).bind fun us => (atI us i).map fun w => (w, S))
  | _ => none
theorem sr_ix : SR K tb (rIx K) oIx := fun A x y a b S w S' Q R ra rb e q => by
  unfold oIx at e
  split at e
  · rename_i i
    obtain rfl := rb.int
    split at e
    · obtain ⟨d, e1, e2⟩ := Option.map_eq_some_iff.mp e
      cases e2
      obtain ⟨p, xs, rfl, f, rd⟩ := ra.tup
      obtain ⟨v, e3, rv⟩ := atI_drs rd e1
      exact .inr (.inl ⟨p, xs, i, v, rfl, rfl, f.sq, e3, q _ A .refl R rv⟩)
    · split at e
      · rename_i hz
        obtain ⟨d, e1, e2⟩ := Option.map_eq_some_iff.mp e
        cases e2
        obtain rfl := ra.str
        exact .inr (.inr ⟨_, i, d, rfl, rfl, hz, e1, q _ A .refl R (DR.str _)⟩)
      · cases e
    · obtain ⟨us, e0, e⟩ := Option.bind_eq_some_iff.mp e
      obtain ⟨d, e1, e2⟩ := Option.map_eq_some_iff.mp e
      cases e2
      obtain ⟨p, xs, rfl, sq, rx⟩ := itemsL_run R ra e0
      obtain ⟨v, e3, rv⟩ := atI_wrs rx e1
      exact .inl ⟨p, xs, i, v, rfl, rfl, sq, e3, q _ A .refl R rv⟩
  · cases e
noncomputable abbrev MO := Env' → Mem → Option (Option Int × Mem)
noncomputable def SO (K : PySem.W.Frag) (tb : List Addr) (t : TO) (m : MO) : Prop := ∀ A σ ρ S o S' (Q : Option Int → Hp → Prop), Rep K tb A S → ER K tb A σ ρ → m ρ S = some (o, S') → (∀ B, Nxt tb A B → Rep K tb B S' → Q o B.H) → t σ A.H Q
noncomputable def pNone : MO := fun _ S => some (none, S)
noncomputable def pSome (a : ME) : MO := fun ρ S => (a ρ S).bind fun p => match p.1 with
  | .d (.int i) => some (some i, p.2)
  | _ => none
theorem so_none : SO K tb tNoPart pNone := fun A σ ρ S o S' Q R E e q => by cases e; exact q A .refl R
theorem so_some {te : TE} {a : ME} (ha : SE K tb te a) : SO K tb (tPart te) (pSome a) := fun A σ ρ S o S' Q R E e q => by
  obtain ⟨⟨w, S1⟩, e1, e⟩ := Option.bind_eq_some_iff.mp e
  refine ha A σ ρ S w S1 _ R E e1 fun v B N R1 r => ?_
  dsimp only at e
  split at e
  · cases e
    exact ⟨_, r.int, q B N R1⟩
  · cases e
noncomputable def cutL {α : Type} (xs : List α) (lo hi : Option Int) : List α := (xs.drop (HT.sIx xs.length 0 lo)).take (HT.sIx xs.length xs.length hi - HT.sIx xs.length 0 lo)
theorem drs_cut {A : Wd} {xs : List V} {ds : List PyData} (r : DRs K tb A xs ds) (lo hi : Option Int) : DRs K tb A (cutV xs lo hi) (cutL ds lo hi) := by
  unfold cutV cutL
  rw [r.length]
  exact (r.drop _).take _
theorem wrs_cut {A : Wd} {xs : List V} {ws : List W} (r : WRs K tb A xs ws) (lo hi : Option Int) : WRs K tb A (cutV xs lo hi) (cutL ws lo hi) := by
  unfold cutV cutL
  rw [WRs.length r]
  have d : ∀ {xs : List V} {ws : List W}, WRs K tb A xs ws → ∀ n, WRs K tb A (xs.drop n) (ws.drop n) := fun {xs ws} r => by
    induction r with
    | nil => intro n; simp; exact .nil
    | cons a b ih =>
      intro n
      cases n with
      | zero => exact .cons a b
      | succ n => exact ih n
  have t : ∀ {xs : List V} {ws : List W}, WRs K tb A xs ws → ∀ n, WRs K tb A (xs.take n) (ws.take n) := fun {xs ws} r => by
    induction r with
    | nil => intro n; simp; exact .nil
    | cons a b ih =>
      intro n
      cases n with
      | zero => exact .nil
      | succ n => exact .cons a (ih n)
  exact t (d r _) _
noncomputable def oSl (L : Bool) (w : W) (lo hi : Option Int) (S : Mem) : Option (W × Mem) := match w with
  | .d (.tuple ds) => some (.d (.tuple (cutL ds lo hi)), S)
  | .d (.str z) => if z.length ≤ sizeLine then some (.d (.str (Txt.slice z lo hi)), S) else none
  | w => (itemsL w S).bind fun us => if L = true then some (.loc S.length, S ++ [.lst (cutL us lo hi)]) else (dOf (cutL us lo hi)).map fun ds => (.d (.list ds), S)
noncomputable abbrev rSlAll (K : PySem.W.Frag) : V → Option Int → Option Int → Hp → VK → Prop := fun x lo hi H Q => rSlA K x lo hi H Q ∨ (rSlL K x lo hi H Q ∨ C8.rSlX x lo hi H Q)
theorem sl_all {X : Cx} : SlR X (rSlAll X.K) := sl_tupA.or (sl_list.or C8.sl_txt)
theorem whole_cut {α : Type} {xs : List α} {lo hi : Option Int} (h : HT.sIx xs.length 0 lo = 0 ∧ HT.sIx xs.length xs.length hi = xs.length) : cutL xs lo hi = xs := by
  unfold cutL
  rw [h.1, h.2]; simp
theorem oSl_run {A : Wd} {L : Bool} {x : V} {a w : W} {lo hi : Option Int} {S S' : Mem} {Q : VK} (R : Rep K tb A S) (ra : WR K tb A x a) (e : oSl L a lo hi S = some (w, S')) (q : Pd.KE K tb A w S' Q) : rSlAll K x lo hi A.H Q := by
  unfold oSl at e
  split at e
  · cases e
    obtain ⟨p, xs, rfl, f, rd⟩ := ra.tup
    refine .inl ⟨p, xs, rfl, f.sq, fun hw => ?_, fun hw p2 hp => ?_⟩
    · have hw' := hw
      rw [rd.length] at hw'
      exact q _ A .refl R (by rw [whole_cut hw']; exact DR.tup f rd)
    · exact q _ (A.put p2 _) (.put hp _) (R.put hp _) (DR.tup (.inl (.put R hp _)) (DRs.nxt (.put hp _) _ (drs_cut rd lo hi)))
  · split at e
    · rename_i hz
      cases e
      obtain rfl := ra.str
      exact .inr (.inr ⟨_, rfl, hz, q _ A .refl R (DR.str _)⟩)
    · cases e
  · obtain ⟨us, e1, e2⟩ := Option.bind_eq_some_iff.mp e
    obtain ⟨p, xs, rfl, sq, rx⟩ := itemsL_run R ra e1
    refine .inr (.inl ⟨p, xs, rfl, sq, fun l hl => ?_⟩)
    split at e2
    · cases e2
      refine q _ (A.add l _) (.add hl _) (R.add hl ⟨_, upd_same, (wrs_cut rx lo hi).nxt (.add hl _)⟩) ⟨l, rfl, ?_⟩
      show (A.ι ++ [l])[S.length]? = some l
      rw [← R.len]; simp
    · obtain ⟨ds, e3, e4⟩ := Option.map_eq_some_iff.mp e2
      cases e4
      exact q _ (A.put l _) (.put hl _) (R.put hl _) (DR.lst (.put R hl _) (DRs.nxt (.put hl _) ds (drs_of (wrs_cut rx lo hi) e3)))
noncomputable def eSl (L : Bool) (a : ME) (lo hi : MO) : ME := fun ρ S => (a ρ S).bind fun p => (lo ρ p.2).bind fun l => (hi ρ l.2).bind fun h => oSl L p.1 l.1 h.1 h.2
theorem se_sl {L : Bool} {te : TE} {tl th : TO} {a : ME} {lo hi : MO} (ha : SE K tb te a) (hl : SO K tb tl lo) (hh : SO K tb th hi) : SE K tb (tSl (rSlAll K) te tl th) (eSl L a lo hi) := fun A σ ρ S w S' Q R E e q => by
  obtain ⟨p, e1, e⟩ := Option.bind_eq_some_iff.mp e
  obtain ⟨l, e2, e⟩ := Option.bind_eq_some_iff.mp e
  obtain ⟨h, e3, e⟩ := Option.bind_eq_some_iff.mp e
  refine ha A σ ρ S p.1 p.2 _ R E e1 fun x B N R1 r => ?_
  refine hl B σ ρ p.2 l.1 l.2 _ R1 (E.nxt N) e2 fun C N2 R2 => ?_
  refine hh C σ ρ l.2 h.1 h.2 _ R2 (E.nxt (N.trans N2)) e3 fun D N3 R3 => ?_
  exact oSl_run R3 (r.nxt (N2.trans N3)) e (q.nxt (N.trans (N2.trans N3)))
end
theorem opOr {X : Cx} {f : Value → Value → Sem Value} {r r' : R2} (h : OpR X f r) (h' : OpR X f r') : OpR X f (fun x y H Q => r x y H Q ∨ r' x y H Q) := by
  intro pins s σ H x y v u Q I rx ry q
  rcases q with q | q
  · exact h pins s σ H x y v u Q I rx ry q
  · exact h' pins s σ H x y v u Q I rx ry q
noncomputable def rCatL : R2 := fun x y H Q => ∃ l b xs zs, x = .ref l ∧ y = .ref b ∧ Rd H l (.lst xs) ∧ Rd H b (.lst zs) ∧ xs.length + zs.length ≤ sizeLine ∧ ∀ p, H p = none → Q (.ref p) (upd H p (.lst (xs ++ zs)))
section
variable {X : Cx} {pins : List (Addr × Obj)} {σ : L2.St} {H : Hp} {s : Shared}
theorem op_catL : OpR X (binaryOp .Add) rCatL := by
  intro pins s σ H x y v u Q I rx ry h
  obtain ⟨l, b, xs, zs, rfl, rfl, hH, hB, hz, q⟩ := h
  cases rx
  cases ry
  obtain ⟨z, its, n, r, e⟩ := hH.ok I.hok
  obtain ⟨z2, its2, n2, r2, e2⟩ := hB.ok I.hok
  have hl := r.length
  have hl2 := r2.length
  refine PySem.P.add_list e e2 ?_ (by rw [List.size_toArray, List.size_toArray]; omega)
  have ea : its.toArray ++ its2.toArray = (its ++ its2).toArray := by simp
  rw [ea]
  refine ⟨.ref s.heap.objs.size, _, I.laid (t' := s.toks) (o := .lst (xs ++ zs)) (fun b ob q => Heap.get?_push_of_some _ q) (Nat.le_refl _) ?_, rfl, q _ (I.hok.fresh (Nat.le_refl _))⟩
  exact ⟨by rw [List.length_append]; omega, its ++ its2, 0, r.append r2, Heap.get?_push_size _ rfl⟩
end
noncomputable abbrev rAddS : R2 := fun x y H Q => ∃ i j, x = .str i ∧ y = .str j ∧ i.length + j.length ≤ sizeLine ∧ Q (.str (i ++ j)) H
noncomputable abbrev rPlus (K : PySem.W.Frag) : R2 := fun x y H Q => rI0 (fun i j => .int (i + j)) x y H Q ∨ (rAddS x y H Q ∨ (rCatA K x y H Q ∨ rCatL x y H Q))
theorem op_plus {X : Cx} : OpR X (binaryOp .Add) (rPlus X.K) := opOr op_add (opOr op_add_str (opOr op_catA op_catL))
noncomputable def oPlus (L : Bool) : F2 := fun a b S => match a, b with
  | .d (.int i), .d (.int j) => some (.d (.int (i + j)), S)
  | .d (.str i), .d (.str j) => if i.length + j.length ≤ sizeLine then some (.d (.str (i ++ j)), S) else none
  | .d (.tuple xs), .d (.tuple ys) => if xs.length + ys.length ≤ sizeLine then some (.d (.tuple (xs ++ ys)), S) else none
  | .d (.list xs), .d (.list ys) => if xs.length + ys.length ≤ sizeLine then (if L = true then some (.loc S.length, S ++ [.lst ((xs ++ ys).map .d)]) else some (.d (.list (xs ++ ys)), S)) else none
  | _, _ => none
section
variable {K : PySem.W.Frag} {tb : List Addr}
theorem sr_plus {L : Bool} : SR K tb (rPlus K) (oPlus L) := fun A x y a b S w S' Q R ra rb e q => by
  unfold oPlus at e
  split at e
  · cases e
    obtain rfl := ra.int
    obtain rfl := rb.int
    exact .inl ⟨_, _, rfl, rfl, q _ A .refl R (DR.int _)⟩
  · split at e
    · rename_i hl
      cases e
      obtain rfl := ra.str
      obtain rfl := rb.str
      exact .inr (.inl ⟨_, _, rfl, rfl, hl, q _ A .refl R (DR.str _)⟩)
    · cases e
  · split at e
    · rename_i ds es hl
      cases e
      obtain ⟨a, xs, rfl, f, rd⟩ := ra.tup
      obtain ⟨b, ys, rfl, g, re⟩ := rb.tup
      have l1 := rd.length
      have l2 := re.length
      refine .inr (.inr (.inl ⟨a, b, xs, ys, rfl, rfl, f.sq, g.sq, by omega, fun z => ?_, fun z z2 => ?_, fun z z2 p hp => ?_⟩))
      · subst z
        have : ds = [] := List.length_eq_zero_iff.mp l1.symm
        subst this
        exact q _ A .refl R rb
      · subst z2
        have : es = [] := List.length_eq_zero_iff.mp l2.symm
        subst this
        rw [List.append_nil] at q
        exact q _ A .refl R ra
      · exact q _ (A.put p _) (.put hp _) (R.put hp _) (DR.tup (.inl (.put R hp _)) (DRs.nxt (.put hp _) _ (rd.append re)))
    · cases e
  · split at e
    · rename_i ds es hl
      obtain ⟨a, xs, rfl, f, rd⟩ := ra.lst
      obtain ⟨b, ys, rfl, g, re⟩ := rb.lst
      have l1 := rd.length
      have l2 := re.length
      refine .inr (.inr (.inr ⟨a, b, xs, ys, rfl, rfl, f.2, g.2, by omega, fun p hp => ?_⟩))
      split at e
      · cases e
        refine q _ (A.add p _) (.add hp _) (R.add hp ⟨_, upd_same, wrs_of (DRs.nxt (.add hp _) _ (rd.append re))⟩) ⟨p, rfl, ?_⟩
        show (A.ι ++ [p])[S.length]? = some p
        rw [← R.len]; simp
      · cases e
        exact q _ (A.put p _) (.put hp _) (R.put hp _) (DR.lst (.put R hp _) (DRs.nxt (.put hp _) _ (rd.append re)))
    · cases e
  · cases e
noncomputable def flatD : PyData → Bool
  | .none | .bool _ | .int _ | .str _ => true
  | _ => false
theorem flat_of {A : Wd} {v : V} {d : PyData} (r : DR K tb A v d) (h : flatD d = true) : flatV v = true := by
  cases r <;> first | rfl | exact absurd (show false = true from h) Bool.false_ne_true
theorem eqV_of {A : Wd} {v u : V} {d e : PyData} (r : DR K tb A v d) (g : DR K tb A u e) (hd : flatD d = true) (he : flatD e = true) : eqV v u = PyData.eqv d e := by
  cases r <;> first | exact absurd (show false = true from hd) Bool.false_ne_true | (cases g <;> first | exact absurd (show false = true from he) Bool.false_ne_true | rfl)
theorem inV_of {A : Wd} {x : V} {d : PyData} (r : DR K tb A x d) (hd : flatD d = true) : ∀ {xs : List V} {ds : List PyData}, DRs K tb A xs ds → ds.all flatD = true → inV x xs = ds.any (fun y => PyData.eqv y d) ∧ xs.all flatV = true
  | _, [], h, _ => by cases h; exact ⟨rfl, rfl⟩
  | _, e :: es, h, c => by
    rw [List.all_cons, Bool.and_eq_true] at c
    cases h with
    | cons a b =>
      obtain ⟨i1, i2⟩ := inV_of r hd b c.2
      refine ⟨?_, ?_⟩
      · show (eqV _ x || inV x _) = _
        rw [eqV_of a r c.1 hd, i1]; rfl
      · rw [List.all_cons, flat_of a c.1, i2]; rfl
noncomputable def oIn (n : Bool) : F2 := fun a b S => match a with
  | .d x => (items b S).bind fun us => (dOf us).bind fun ds => if (flatD x && ds.all flatD) = true then some (.d (.bool (if n = true then !ds.any (fun y => PyData.eqv y x) else ds.any fun y => PyData.eqv y x)), S) else none
  | _ => none
theorem sr_in {n : Bool} : SR K tb (rIn K n) (oIn n) := fun A x y a b S w S' Q R ra rb e q => by
  unfold oIn at e
  split at e
  · rename_i d
    obtain ⟨us, e1, e⟩ := Option.bind_eq_some_iff.mp e
    obtain ⟨ds, e2, e⟩ := Option.bind_eq_some_iff.mp e
    split at e
    · rename_i hf
      rw [Bool.and_eq_true] at hf
      cases e
      obtain ⟨p, xs, rfl, sq, rx⟩ := items_run R rb e1
      have rd := drs_of rx e2
      obtain ⟨i1, i2⟩ := inV_of (show DR K tb A x d from ra) hf.1 rd hf.2
      refine ⟨p, xs, rfl, sq, flat_of (show DR K tb A x d from ra) hf.1, i2, ?_⟩
      rw [i1]
      exact q _ A .refl R (DR.bl _)
    · cases e
  · cases e
theorem se_chain {r r' : R2} {f g : F2} {ta tb' tc : TE} {a b c : ME} (hr : SR K tb r f) (hr' : SR K tb r' g) (ha : SE K tb ta a) (hb : SE K tb tb' b) (hc : SE K tb tc c) : SE K tb (tChain r r' ta tb' tc) (eChain f g a b c) := fun A σ ρ S w S' Q R E e q => by
  obtain ⟨p, e1, e⟩ := Option.bind_eq_some_iff.mp e
  obtain ⟨p2, e2, e⟩ := Option.bind_eq_some_iff.mp e
  obtain ⟨⟨z, S3⟩, e3, e⟩ := Option.bind_eq_some_iff.mp e
  refine ha A σ ρ S p.1 p.2 _ R E e1 fun x B N1 R1 r1 => ?_
  refine hb B σ ρ p.2 p2.1 p2.2 _ R1 (E.nxt N1) e2 fun y C N2 R2 r2 => ?_
  refine hr C x y p.1 p2.1 p2.2 z S3 _ R2 (r1.nxt N2) r2 e3 fun k D N3 R3 r3 => ?_
  dsimp only at e
  split at e
  · obtain ⟨u, e4, e⟩ := Option.bind_eq_some_iff.mp e
    refine ⟨true, WR.bl r3, ?_⟩
    rw [if_pos rfl]
    exact hc D σ ρ S3 u.1 u.2 _ R3 (E.nxt (N1.trans (N2.trans N3))) e4 fun v F N4 R4 r4 => hr' F y v p2.1 u.1 u.2 w S' Q R4 (r2.nxt (N3.trans N4)) r4 e (q.nxt (N1.trans (N2.trans (N3.trans N4))))
  · cases e
    refine ⟨false, WR.bl r3, ?_⟩
    rw [if_neg Bool.false_ne_true]
    exact q _ D (N1.trans (N2.trans N3)) R3 (DR.bl false)
  · cases e
noncomputable abbrev MM := W → List W → Mem → Option (W × Mem)
noncomputable def SM (K : PySem.W.Frag) (tb : List Addr) (r : V → List V → Hp → VK → Prop) (f : MM) : Prop := ∀ A x vs a ws S w S' Q, Rep K tb A S → WR K tb A x a → WRs K tb A vs ws → f a ws S = some (w, S') → Pd.KE K tb A w S' Q → r x vs A.H Q
noncomputable def lstAt (a : W) (S : Mem) : Option (Nat × List W) := match a with
  | .loc n => match S[n]? with
    | some (.lst ws) => some (n, ws)
    | _ => none
  | _ => none
noncomputable def eBm (f : MM) (o : ME) (a : MA) : ME := fun ρ S => (o ρ S).bind fun p => (itemsL p.1 p.2).bind fun _ => (a ρ p.2).bind fun q => f p.1 q.1 q.2
theorem se_bm {r : V → List V → Hp → VK → Prop} {f : MM} {to : TE} {t : TA} {o : ME} {a : MA} (hf : SM K tb r f) (ho : SE K tb to o) (ha : SA K tb t a) : SE K tb (tBM K "list" r to t) (eBm f o a) := fun A σ ρ S w S' Q R E e q => by
  obtain ⟨p, e1, e⟩ := Option.bind_eq_some_iff.mp e
  obtain ⟨us, e0, e⟩ := Option.bind_eq_some_iff.mp e
  obtain ⟨z, e2, e⟩ := Option.bind_eq_some_iff.mp e
  refine ho A σ ρ S p.1 p.2 _ R E e1 fun x B N R1 r1 => ?_
  obtain ⟨a, xs, rfl, sq, _⟩ := itemsL_run R1 r1 e0
  exact ⟨.inl ⟨rfl, xs, sq⟩, ha B σ ρ p.2 z.1 z.2 _ R1 (E.nxt N) e2 fun vs C N2 R2 r2 => hf C _ vs p.1 z.1 z.2 w S' Q R2 (r1.nxt N2) r2 e (q.nxt (N.trans N2))⟩
theorem lstAt_run {A : Wd} {S : Mem} {v : V} {w : W} {n : Nat} {ws : List W} (R : Rep K tb A S) (r : WR K tb A v w) (h : lstAt w S = some (n, ws)) : w = .loc n ∧ S[n]? = some (.lst ws) ∧ ∃ a xs, v = .ref a ∧ A.ι[n]? = some a ∧ A.H a = some (.lst xs) ∧ WRs K tb A xs ws := by
  unfold lstAt at h
  split at h
  · split at h
    · rename_i m ws' e
      cases h
      obtain ⟨a, rfl, i⟩ := r
      obtain ⟨vs, ev, rr⟩ := R.at_ _ a _ i e
      exact ⟨rfl, e, a, vs, rfl, i, ev, rr⟩
    · cases h
  · cases h
theorem lset_run {A : Wd} {S : Mem} {n : Nat} {a : Addr} {ws : List W} {vs v0 : List V} {w : W} {v : V} {Q : VK} (R : Rep K tb A S) (ia : A.ι[n]? = some a) (e0 : A.H a = some (.lst v0)) (r : WRs K tb A vs ws) (rv : WR K tb A v w) (q : Pd.KE K tb A w (S.set n (.lst ws)) Q) : Q v (upd A.H a (.lst vs)) :=
  have hm : ∀ o u, A.H a ≠ some (.frz o u) := fun o u z => by rw [e0] at z; cases z
  q v (A.put a (.lst vs)) (.set ia hm) (R.set ia hm ⟨vs, upd_same, r.nxt (.set ia hm)⟩) (rv.nxt (.set ia hm))
theorem WRs.append {A : Wd} {vs us : List V} {ws zs : List W} (r : WRs K tb A vs ws) (g : WRs K tb A us zs) : WRs K tb A (vs ++ us) (ws ++ zs) := by
  induction r with
  | nil => exact g
  | cons a b ih => exact .cons a ih
noncomputable def mAppend : MM := fun a ws S => match ws with
  | [w] => (lstAt a S).bind fun p => if p.2.length < sizeLine then some (.d .none, S.set p.1 (.lst (p.2 ++ [w]))) else none
  | _ => none
theorem sm_append : SM K tb rAppend mAppend := fun A x vs a ws S w S' Q R ra rs e q => by
  unfold mAppend at e
  split at e
  · obtain ⟨⟨n, us⟩, e1, e⟩ := Option.bind_eq_some_iff.mp e
    dsimp only at e
    split at e
    · rename_i hl
      cases e
      obtain ⟨rfl, _, p, xs, rfl, ia, ep, rx⟩ := lstAt_run R ra e1
      obtain ⟨v, rfl, rv⟩ := wrs1 rs
      exact ⟨p, xs, v, rfl, rfl, ep, by rw [WRs.length rx]; exact hl, lset_run (v := .non) (w := .d .none) R ia ep (rx.append (.cons rv .nil)) DR.non q⟩
    · cases e
  · cases e
noncomputable def mExtend : MM := fun a ws S => match ws with
  | [.d (.list ds)] => (lstAt a S).bind fun p => if p.2.length + ds.length ≤ sizeLine then some (.d .none, S.set p.1 (.lst (p.2 ++ ds.map .d))) else none
  | _ => none
noncomputable def mPop : MM := fun a ws S => match ws with
  | [] => (lstAt a S).bind fun p => (p.2[p.2.length - 1]?).bind fun w => some (w, S.set p.1 (.lst p.2.dropLast))
  | _ => none
noncomputable def mReverse : MM := fun a ws S => match ws with
  | [] => (lstAt a S).bind fun p => some (.d .none, S.set p.1 (.lst p.2.reverse))
  | _ => none
noncomputable def gIx (o i : ME) : MG := fun w ρ S => (o ρ S).bind fun p => (i ρ p.2).bind fun z => match z.1 with
  | .d (.int k) => (lstAt p.1 z.2).bind fun l => (ixN l.2.length k).bind fun j => some (ρ, z.2.set l.1 (.lst (l.2.set j w)))
  | _ => none
theorem WRs.set {A : Wd} {vs : List V} {ws : List W} {v : V} {w : W} (r : WRs K tb A vs ws) (rv : WR K tb A v w) : ∀ j, WRs K tb A (vs.set j v) (ws.set j w) := by
  induction r with
  | nil => intro j; exact .nil
  | cons a b ih =>
    intro j
    cases j with
    | zero => exact .cons rv b
    | succ j => exact .cons a (ih j)
theorem sg_ix {to ti : TE} {o i : ME} (ho : SE K tb to o) (hi : SE K tb ti i) : SG K tb [] (gSub to ti rSetL) (gIx o i) := fun A v w σ ρ S ρ' S' Q R E r e q => by
  obtain ⟨p, e1, e⟩ := Option.bind_eq_some_iff.mp e
  obtain ⟨z, e2, e⟩ := Option.bind_eq_some_iff.mp e
  obtain ⟨z1, S2⟩ := z
  dsimp only at e
  split at e
  · rename_i k
    obtain ⟨⟨n, us⟩, e3, e⟩ := Option.bind_eq_some_iff.mp e
    obtain ⟨j, e4, e⟩ := Option.bind_eq_some_iff.mp e
    cases e
    refine ho A σ ρ S p.1 p.2 _ R E e1 fun x B N R1 r1 => ?_
    refine hi B σ ρ p.2 _ S2 _ R1 (E.nxt N) e2 fun y C N2 R2 r2 => ?_
    obtain rfl := WR.int r2
    obtain ⟨_, _, a, xs, rfl, ia, ea, rx⟩ := lstAt_run R2 (r1.nxt N2) e3
    have NN := N.trans N2
    have hm : ∀ o u, C.H a ≠ some (.frz o u) := fun o u z => by rw [ea] at z; cases z
    exact ⟨a, xs, k, j, rfl, rfl, ea, by rw [WRs.length rx]; exact e4, q (C.put a _) σ (NN.trans (.set ia hm)) (R2.set ia hm ⟨_, upd_same, (rx.set (r.nxt NN) j).nxt (.set ia hm)⟩) (E.nxt (NN.trans (.set ia hm))) rfl fun _ _ => rfl⟩
  · cases e
end
end Pd
namespace PySem
open Sem (wp)
open AutoSeq1 (wpAny_loadPart')
theorem own_enum_new {v : Value} {o : Obj} {H : Heap → Prop} (B : Begins v o H) :
    Meets (Builtin.«enumerate.__new__» ⟨[.type "enumerate", v], []⟩) (fun _ R s => H s.heap ∧
      R (.ok (.ret (.ref (s.heap.push o).objs.size))) { s with heap := (s.heap.push o).push { cls := .type "enumerate", data := .fields #[.none, .bool false, .ref s.heap.objs.size, rawInt 0, .none, .none] } }) :=
  .of_wp fun prog w A R s h => by
    obtain ⟨hp, g, d, tk, os⟩ := s; obtain ⟨h1, h⟩ := h
    have hsub := sub_enumerate
    have it1 : ∀ {A' : Around} {E : Value → Shared → Prop} {Q : Value → Shared → Prop}, Q (.ref hp.objs.size) ⟨hp.push o, g, d, tk, os⟩ → wpAny (model prog w) A' (pyIter v) Q E ⟨hp, g, d, tk, os⟩ :=
      fun q => B.iter prog w _ _ ⟨hp, g, d, tk, os⟩ _ h1 q
    wp_walk using it1
    refine wpAny_stack_any fun st => wpAny_pure ?_
    split
    · rename_i c _ _ _ _ _
      cases (c == Value.type "enumerate")
      · wp_walk using it1
        exact ⟨_, rfl, h⟩
      · wp_walk using it1
        exact ⟨_, rfl, h⟩
    · wp_walk using it1
      exact ⟨_, rfl, h⟩
section
variable {prog : Program} {w : World} {A : Around} {E : Value → Shared → Prop} {s : Shared}
theorem own_enum_call {v : Value} {o : Obj} {H : Heap → Prop} {Q : Value → Shared → Prop} (B : Begins v o H) (h1 : H s.heap)
    (h : ∀ h', IsEnum h' (s.heap.objs.size + 1) s.heap.objs.size 0 .none → h'.get? s.heap.objs.size = some o → h'.objs.size = s.heap.objs.size + 2 →
      (∀ b o, s.heap.get? b = some o → h'.get? b = some o) → Q (.ref (s.heap.objs.size + 1)) { s with heap := h' }) :
    wpAny (model prog w) A (call (.type "enumerate") [v]) Q E s := by
  refine callType_new F.called_enumerate (by decide) (F.typeCall_enumerate_1 _) (F.newCall_enumerate_1 _) (fun obj => F.args_object_init_2 obj _) F.entry_enumerate_new (own_enum_new B) ⟨h1, ?_⟩
  have hz : (s.heap.push o).objs.size = s.heap.objs.size + 1 := Heap.size_push ..
  show _ ∧ _
  rw [hz]
  have he : IsEnum ((s.heap.push o).push { cls := .type "enumerate", data := .fields #[.none, .bool false, .ref s.heap.objs.size, rawInt 0, .none, .none] }) (s.heap.objs.size + 1) s.heap.objs.size 0 .none := by
    have := Heap.get?_push_size (s.heap.push o) (o := { cls := .type "enumerate", data := .fields #[.none, .bool false, .ref s.heap.objs.size, rawInt 0, .none, .none] }) rfl
    rw [hz] at this; exact this
  exact ⟨⟨_, he, rfl⟩, h _ he (Heap.get?_push_of_some _ (Heap.get?_push_size _ B.free)) (by rw [Heap.size_push, hz]) fun b o x => Heap.get?_push_of_some _ (Heap.get?_push_of_some _ x)⟩
theorem own_enum_end {e it t : Addr} {i : Nat} {k : Int} {items : Array Value} {old : Value} {Q : Option Value → Shared → Prop} (hd : A.in1.handled = none) (he : IsEnum s.heap e it k old) (hit : s.heap.IsTupleIter it t i) (ht : s.heap.IsTuple t items) (hx : items[i]? = none)
    (hQ : ∀ h', Heap.ExtBut it s.heap h' → Q none { s with heap := h' }) : wpAny (model prog w) A (pyNext (.ref e)) Q E s := by
  have ty : s.TypeIs (.ref e) "enumerate" := ⟨_, he, rfl⟩
  unfold pyNext
  refine wpAny_bind (wpAny_attempt (wpAny_callSpecial?_slot (name := Str.ofString "__next__") ty F.slot_enumerate_next (wpAny_call_entry F.slot_enumerate_next ty F.entry_enumerate_next ?_ (F.args_enumerate_next_1 _))))
  show wpAny _ _ (field (.ref e) 2 >>= _) _ _ _
  refine wpAny_bind (wpAny_field he rfl (x := .ref it) rfl (wpAny_bind (wpAny_nextOf_tuple_end hd hit ht hx fun h' x he' ⟨o, ho, hc⟩ => ?_)))
  exact wpAny_bind (wpAny_isInstance (T := "StopIteration") (b := true) ⟨o, ho, hc⟩ isSubtype_stop (wpAny_pure (hQ _ he')))
end
end PySem
namespace L2
open PySem PySem.Spec PyProof.Rows
noncomputable def Iet (K : PySem.W.Frag) (a : Addr) : It :=
  ⟨fun i H => ∃ (xs : List V) (x : V), SqT K H a xs ∧ xs[i]? = some x, fun i H v H' => ∃ T x, v = .ref T ∧ H T = none ∧ H' = upd H T (.tup [.int (i : Nat), x]) ∧ ∀ xs, SqT K H a xs → xs[i]? = some x, fun i H => ∃ xs : List V, SqT K H a xs ∧ xs.length ≤ i⟩
theorem turn_enumT {P : Program} {w : World} {K : PySem.W.Frag} {elts : List Expr} {kk : Nat} {tpos : Pos} (a e it : Addr) :
    Turn P w K (.Tuple elts kk tpos) (Iet K a) [e, it] e (fun i h => (∃ old, IsEnum h e it ((i : Nat) : Int) old) ∧ h.IsTupleIter it a i ∧ e ≠ it ∧ e ≠ a ∧ a ≠ it) where
  mem := by simp
  obj := fun i h st b hb => by
    obtain ⟨⟨old, he⟩, ⟨o, ho, hc, hd⟩, _⟩ := st
    have e' : b = e ∨ b = it := by simpa using hb
    rcases e' with z | z
    · rw [z]; exact ⟨_, he, fun v q => nomatch q⟩
    · rw [z]; exact ⟨o, ho, fun v q => by rw [hd] at q; cases q⟩
  keep := fun i h h' st k => let ⟨⟨old, he⟩, hi, hne⟩ := st; ⟨⟨old, k e (by simp) _ he⟩, hi.at fun o q => k it (by simp) o q, hne⟩
  item := by
    intro X hP hw hK hc i pins s σ H E I hf st hg
    subst hP hw hK
    obtain ⟨⟨old, he⟩, hit, hne, hea, hai⟩ := st
    obtain ⟨xs, x, hq, hx⟩ := hg
    obtain ⟨its, rv, p, hz⟩ := I.tuple hq
    obtain ⟨u, hu, ru⟩ := rv.get hx
    have hel : e < s.heap.objs.size := Heap.lt_size he
    have hil : it < s.heap.objs.size := by obtain ⟨_, q, _⟩ := hit; exact Heap.lt_size q
    have hd : X.A.in1.handled = none := I.ok.hd hc
    have pt : s.heap.IsTuple a its.toArray := p
    have hi : i < its.toArray.size := by
      have := (List.getElem?_eq_some_iff.mp hu).1
      simpa using this
    refine wpAny_pyNext_enum_itemD (Draws.tuple hd it a hai its.toArray) he ⟨hit, pt⟩ hi hne (by simp [hne, hea]) fun y h' tk hy ho st' hT hsz hk => ?_
    have ey : y = u := by
      have : its.toArray[i]? = some u := by simpa using hu
      rw [this] at hy
      exact (Option.some.inj hy).symm
    subst ey
    refine ⟨_, rfl, wpAny_letOwnedTupleGo_enum (s := { s with heap := h', toks := tk + 1 }) ho fun h'' he' sb => ?_⟩
    have hT2 : h''.get? s.heap.objs.size = some { cls := .type "tuple", data := .seq #[.int i tk, y] } := (sb.2 _ (Nat.ne_of_gt hel)).trans hT
    have new : ObjOk X.prog X.w (upd H s.heap.objs.size (.tup [.int (i : Nat), x])) h'' s.heap.objs.size (.tup [.int (i : Nat), x]) :=
      ⟨by show 2 ≤ sizeLine; decide, [.int i tk, y], .cons ⟨_, rfl⟩ (.cons ru .nil), ⟨_, hT2, rfl, _, rfl⟩⟩
    have I1 : Inv X pins σ (upd H s.heap.objs.size (.tup [.int (i : Nat), x])) { s with heap := h'', toks := tk + 1 } :=
      I.turnedNew (ch := [e, it]) (fun b ob hb q => (sb.2 b (fun z => hb (by simp [z]))).trans (hk b ob (fun z => hb (by simp [z])) (fun z => hb (by simp [z])) q)) hf (Nat.le_refl _) new
    refine ⟨.ref s.heap.objs.size, _, I1, rfl, ⟨_, x, rfl, I.hok.fresh (Nat.le_refl _), rfl, fun ys hy => by rw [I.tuple_inj hy hq]; exact hx⟩, ⟨⟨y, ?_⟩, st'.1.at fun o q => (sb.2 it (Ne.symm hne)).trans q, hne, hea, hai⟩, fun b hb => ?_⟩
    · have e1 : ((i + 1 : Nat) : Int) = (i : Int) + 1 := by omega
      rw [e1]; exact he'
    · have hb' : b < s.heap.objs.size := by
        have e' : b = e ∨ b = it := by simpa using hb
        rcases e' with z | z
        · rw [z]; exact hel
        · rw [z]; exact hil
      rw [upd_ne (Nat.ne_of_lt hb')]
      exact (hf b hb).1
  done := by
    intro X hP hw hK hc i pins s σ H E I hf st hg
    subst hP hw hK
    obtain ⟨⟨old, he⟩, hit, hne, hea, hai⟩ := st
    obtain ⟨xs, hq, hx⟩ := hg
    obtain ⟨its, rv, p, hz⟩ := I.tuple hq
    obtain ⟨f0, f1, f2, f3, f4, f5⟩ := hf it (by simp)
    have hl := rv.length
    have hd : X.A.in1.handled = none := I.ok.hd hc
    have pt : s.heap.IsTuple a its.toArray := p
    refine own_enum_end hd he hit pt (by simp; omega) fun h' eb => ⟨rfl, I.turned (t' := s.toks) (fun b o hb q => eb b o hb q) f0 f1 f3 f4 f5⟩
  self := fun A i s Q E st h => let ⟨⟨_, he⟩, _⟩ := st; wpAny_pyIter_enum he h
noncomputable def iEnumT (K : PySem.W.Frag) (ta : TA) : TI := fun σ H R => ta σ H fun vs H1 => ∃ a xs, vs = [.ref a] ∧ SqT K H1 a xs ∧ R (Iet K a) H1
theorem pi_enumT {X : Cx} {e : Expr} {ta : TA} {p pos tpos : Pos} {elts : List Expr} {kk : Nat} (hg : Gl X "enumerate") (hm : X.mg "enumerate" = none) (ha : PA X [e] ta) (hs : starEach [e] X.env = [(false, eval e X.env)] := by rfl) :
    PI X (.Tuple elts kk tpos) (.Call (.Name "enumerate" p) [e] [] pos) (iEnumT X.K ta) := by
  refine ⟨fun pins s σ H R I h => ?_⟩
  refine Call_ (ld_blt I hg hm boot_enumerate (PyProof.Rows.callWith_type1 (thn (ha.run pos pins s σ H _ I h) fun us s1 ⟨vs, H1, I1, r1, q1⟩ => ?_) hs rfl))
  obtain ⟨a, xs, rfl, hq, q⟩ := q1
  cases r1 with
  | cons r rr =>
    cases rr
    cases r
    obtain ⟨its, rv, p', hz⟩ := I1.tuple hq
    have pt : s1.heap.IsTuple a its.toArray := p'
    have hal : a < s1.heap.objs.size := by obtain ⟨o, q, _⟩ := pt; exact Heap.lt_size q
    refine own_enum_call (begins_tuple a its.toArray) pt fun h' he hit hsz hk => wpAny_pyIter_enum he ?_
    have I2 : Inv X pins σ H1 { s1 with heap := h' } := I1.kept (t' := s1.toks) hk
    refine ⟨s1.heap.objs.size + 1, [s1.heap.objs.size + 1, s1.heap.objs.size], _, _, H1, rfl, I2, turn_enumT a (s1.heap.objs.size + 1) s1.heap.objs.size, ⟨⟨.none, he⟩, ⟨_, hit, rfl, rfl⟩, Nat.succ_ne_self _, Nat.ne_of_gt (Nat.lt_succ_of_lt hal), Nat.ne_of_lt hal⟩, fun b hb => ?_, q⟩
    have e' : b = s1.heap.objs.size + 1 ∨ b = s1.heap.objs.size := by simpa using hb
    have hle : s1.heap.objs.size ≤ b := by
      rcases e' with z | z
      · rw [z]; exact Nat.le_add_right _ _
      · rw [z]; exact Nat.le_refl _
    exact I1.fpOk hle (I1.hok.fresh hle)
end L2
namespace Pd
open PySem PySem.Spec PyProof.Rows L2 GxR Gx
section
variable {K : PySem.W.Frag} {tb : List Addr}
theorem numW_get {us : List PyData} {i : Nat} {w : W} (h : (numW us)[i]? = some w) : ∃ d, us[i]? = some d ∧ w = .d (.tuple [.int (i : Int), d]) := by
  unfold numW at h
  rw [List.getElem?_map] at h
  obtain ⟨p, e1, e2⟩ := Option.map_eq_some_iff.mp h
  rw [List.getElem?_zipIdx] at e1
  obtain ⟨d, e3, e4⟩ := Option.map_eq_some_iff.mp e1
  subst e4 e2
  refine ⟨d, e3, ?_⟩
  simp
theorem numW_length {us : List PyData} : (numW us).length = us.length := by unfold numW; simp
noncomputable def iEnumM (a : MA) : MI := fun ρ S => (a ρ S).bind fun p => match p.1 with
  | [.d (.tuple ds)] => some (.vals (numW ds), p.2)
  | _ => none
noncomputable def iEnumLM (a : MA) : MI := fun ρ S => (a ρ S).bind fun p => match p.1 with
  | [.d (.list ds)] => some (.vals (numW ds), p.2)
  | [.loc n] => match p.2[n]? with
    | some (.lst _) => some (.enl n, p.2)
    | _ => none
  | _ => none
theorem iet_ok {A : Wd} {a : Addr} {xs : List V} {ds : List PyData} (f : FzT K tb A a xs) (r : DRs K tb A xs ds) : ItOk K tb A (Iet K a) (.vals (numW ds)) := fun B S ws N R e => by
  cases (show numW ds = ws from e)
  have f' := (f.nxw N).sq
  have rl := r.length
  refine ⟨fun i w hw => ?_, fun i hi => ⟨xs, f', by rw [numW_length] at hi; omega⟩⟩
  obtain ⟨d, e1, rfl⟩ := numW_get hw
  obtain ⟨v, e2, r2⟩ := r.get' e1
  refine ⟨⟨xs, v, f', e2⟩, fun x H2 y => ?_⟩
  obtain ⟨T, x', rfl, hT, rfl, y⟩ := y
  have := y xs f'
  rw [e2] at this; cases this
  exact ⟨B.put T _, rfl, .put hT _, R.put hT _, DR.tup (.inl (.put R hT _)) (.cons (.int _) (.cons (DR.nxt (.put hT _) d (DR.nxw N d r2)) .nil))⟩
theorem ite_ok {A : Wd} {a : Addr} {xs : List V} {ds : List PyData} (f : Fz tb A a (.lst xs)) (r : DRs K tb A xs ds) : ItOk K tb A (Ite K a) (.vals (numW ds)) := fun B S ws N R e => by
  cases (show numW ds = ws from e)
  have f' : SqL K B.H a xs := (f.nxw N).sq
  have rl := r.length
  refine ⟨fun i w hw => ?_, fun i hi => ⟨xs, f', by rw [numW_length] at hi; omega⟩⟩
  obtain ⟨d, e1, rfl⟩ := numW_get hw
  obtain ⟨v, e2, r2⟩ := r.get' e1
  refine ⟨⟨xs, v, f', e2⟩, fun x H2 y => ?_⟩
  obtain ⟨T, x', rfl, hT, rfl, y⟩ := y
  have := y xs f'
  rw [e2] at this; cases this
  exact ⟨B.put T _, rfl, .put hT _, R.put hT _, DR.tup (.inl (.put R hT _)) (.cons (.int _) (.cons (DR.nxt (.put hT _) d (DR.nxw N d r2)) .nil))⟩
theorem ite_live {A : Wd} {a : Addr} {n : Nat} (ha : A.ι[n]? = some a) : ItOk K tb A (Ite K a) (.enl n) := fun B S ws N R e => by
  obtain ⟨us, ds, e1, e2, rfl⟩ := e
  obtain ⟨xs, ex, r⟩ := R.at_ n a _ (N.ix ha) e1
  have sq : SqL K B.H a xs := .inl (.inl ex)
  have r : DRs K tb B xs ds := drs_of r e2
  have rl := r.length
  refine ⟨fun i w hw => ?_, fun i hi => ⟨xs, sq, by rw [numW_length] at hi; omega⟩⟩
  obtain ⟨d, e3, rfl⟩ := numW_get hw
  obtain ⟨v, e4, r4⟩ := r.get' e3
  refine ⟨⟨xs, v, sq, e4⟩, fun x H2 y => ?_⟩
  obtain ⟨T, x', rfl, hT, rfl, y⟩ := y
  have := y xs sq
  rw [e4] at this; cases this
  exact ⟨B.put T _, rfl, .put hT _, R.put hT _, DR.tup (.inl (.put R hT _)) (.cons (.int _) (.cons (DR.nxt (.put hT _) d r4) .nil))⟩
theorem si_enumT {t : TA} {a : MA} (ha : SA K tb t a) : SI K tb (iEnumT K t) (iEnumM a) := fun A σ ρ S im S' R' R E e q => by
  obtain ⟨⟨ws, S1⟩, e1, e⟩ := Option.bind_eq_some_iff.mp e
  refine ha A σ ρ S ws S1 _ R E e1 fun vs B N R1 r => ?_
  dsimp only at e
  split at e
  · cases e
    obtain ⟨v, rfl, r1⟩ := wrs1 r
    obtain ⟨a, xs, rfl, f, rd⟩ := r1.tup
    exact ⟨a, xs, rfl, f.sq, q _ B N R1 (iet_ok f rd)⟩
  · cases e
theorem si_enum {t : TA} {a : MA} (ha : SA K tb t a) : SI K tb (iEnum K t) (iEnumLM a) := fun A σ ρ S im S' R' R E e q => by
  obtain ⟨⟨ws, S1⟩, e1, e⟩ := Option.bind_eq_some_iff.mp e
  refine ha A σ ρ S ws S1 _ R E e1 fun vs B N R1 r => ?_
  dsimp only at e
  split at e
  · cases e
    obtain ⟨v, rfl, r1⟩ := wrs1 r
    obtain ⟨a, xs, rfl, f, rd⟩ := r1.lst
    exact ⟨a, xs, rfl, f.sq, q _ B N R1 (ite_ok f rd)⟩
  · split at e
    · rename_i n ws' ew
      cases e
      obtain ⟨v, rfl, r1⟩ := wrs1 r
      obtain ⟨a, rfl, i⟩ := r1
      obtain ⟨vs, ev, _⟩ := R1.at_ _ a _ i ew
      exact ⟨a, vs, rfl, .inl (.inl ev), q _ B N R1 (ite_live i)⟩
    · cases e
  · cases e
noncomputable def lc2M (im : Itm) (g : MG) (t : MT) (mi1 : MI) (vs1 : List Nat) (g1 : MG) (t1 : MT) (e : ME) : Nat → Nat → Env' → Mem → Option (List W × Mem)
  | f, i, ρ, S => match im.at_ S i with
    | none => none
    | some none => some ([], S)
    | some (some w) => match f with
      | 0 => none
      | f + 1 => (g w ρ S).bind fun p => (t p.1 p.2).bind fun q => if q.1 = true then (mi1 p.1 q.2).bind fun m => (lcM m.1 g1 t1 e (m.1.len m.2) 0 (wipeE p.1 vs1) m.2).bind fun r => (lc2M im g t mi1 vs1 g1 t1 e f (i + 1) ρ r.2).bind fun z => some (r.1 ++ z.1, z.2)
        else lc2M im g t mi1 vs1 g1 t1 e f (i + 1) ρ q.2
noncomputable def eLc2 (mi : MI) (vs : List Nat) (g : MG) (t : MT) (mi1 : MI) (vs1 : List Nat) (g1 : MG) (t1 : MT) (e : ME) (mk : List W → Mem → Option (W × Mem)) : ME := fun ρ S => (mi ρ S).bind fun p => (lc2M p.1 g t mi1 vs1 g1 t1 e (p.1.len p.2) 0 (wipeE ρ vs) p.2).bind fun q => mk q.1 q.2
theorem se_lc2 {wi wi1 : TI} {mg' mg1' : TG} {tt tt1 : TT} {te : TE} {vs vs1 us us1 : List Nat} {mi mi1 : MI} {mg mg1 : MG} {mt mt1 : MT} {me : ME} {mk : List W → Mem → Option (W × Mem)} (hk : SMk K tb mk) (hi : SI K tb wi mi) (hg : SG K tb us mg' mg) (hsub : ∀ j, j ∈ us → j ∈ vs) (ht : ST K tb tt mt)
    (hi1 : SI K tb wi1 mi1) (hg1 : SG K tb us1 mg1' mg1) (hsub1 : ∀ j, j ∈ us1 → j ∈ vs1) (ht1 : ST K tb tt1 mt1) (he : SE K tb te me) :
    SE K tb (tLc2 wi mg' tt wi1 mg1' tt1 te vs vs1) (eLc2 mi vs mg mt mi1 vs1 mg1 mt1 me mk) := fun A σ ρ S w S' Q R E e q => by
  obtain ⟨⟨im, S1⟩, e1, e⟩ := Option.bind_eq_some_iff.mp e
  obtain ⟨⟨zs, S2⟩, e2, e3⟩ := Option.bind_eq_some_iff.mp e
  refine hi A σ ρ S im S1 _ R E e1 fun J B N R1 ok D hD => ?_
  have hlen := hk.1 _ _ _ e3
  let B1 : Wd := { H := upd B.H D (.lst []), ι := B.ι, hid := D :: B.hid }
  have nD := R1.fresh hD
  have N1 : Nxt tb B B1 := ⟨fun b z => List.mem_cons_of_mem _ z, fun b z => (List.mem_cons.mp z).elim (fun z => .inr (by rw [z]; exact hD)) .inl, fun b z => upd_none z, ⟨[], by show B.ι = _; simp⟩, fun b o n t e => ⟨by show upd B.H D _ b = _; rw [upd_ne (ne_of_none e hD)]; exact e, n⟩, fun b o' u _ e => by show upd B.H D _ b = _; rw [upd_ne (ne_of_none e hD)]; exact e⟩
  have RB : Rep K tb B1 S1 := by
    have R2 := R1.put hD (.lst [])
    refine ⟨R2.len, R2.nd, R2.tabs, fun b hb => ?_, fun n a ob z1 z2 => ?_⟩
    · rcases List.mem_cons.mp hb with z | z
      · subst z; exact ⟨⟨_, upd_same⟩, fun z => nD (.inl z), fun z => nD (.inr (.inl z))⟩
      · exact R2.hd b z
    · have o := R1.at_ n a ob z1 z2
      obtain ⟨oo, eo, _⟩ := o.some
      exact o.nxt N1 (by show upd B.H D _ a = _; rw [upd_ne (ne_of_none eo hD)])
  have EB := wipeE_er (E.nxt N) vs
  refine ⟨fun i m H => ∃ C acc ws S3 zs', C.H = H ∧ Nxt tb B C ∧ D ∈ C.hid ∧ C.H D = some (.lst acc) ∧ Rep K tb C S3 ∧ WRs K tb C acc ws ∧ lc2M im mg mt mi1 vs1 mg1 mt1 me m i (wipeE ρ vs) S3 = some (zs', S2) ∧ ws ++ zs' = zs,
    ⟨_, B1, [], [], S1, zs, rfl, N1, List.mem_cons_self, upd_same, RB, .nil, e2, rfl⟩, ?_⟩
  rintro i m _ ⟨C, acc, ws, S3, zs', rfl, N3, hDC, eD, R3, racc, e4, hz⟩
  unfold lc2M at e4
  split at e4
  · cases e4
  · rename_i ha
    cases e4
    obtain ⟨us', hu, hz'⟩ := Itm.at_now ha
    rw [List.append_nil] at hz
    subst hz
    exact .inl ⟨(ok C _ us' N3.w R3 hu).2 i (List.getElem?_eq_none_iff.mp hz'.symm), hk.2 B C D acc ws S1 _ w S' Q R1 hD N3 hDC eD R3 racc e3 (q.nxt N)⟩
  · rename_i w1 ha
    obtain ⟨us', hu, hz'⟩ := Itm.at_now ha
    obtain ⟨go, yl⟩ := (ok C S3 us' N3.w R3 hu).1 i w1 hz'.symm
    cases m with
    | zero => cases e4
    | succ m =>
      obtain ⟨⟨ρ5, S5⟩, e5, e4⟩ := Option.bind_eq_some_iff.mp e4
      obtain ⟨⟨k6, S6⟩, e6, e4⟩ := Option.bind_eq_some_iff.mp e4
      refine .inr ⟨go, fun H' => ∃ C acc ws S3 zs', C.H = H' ∧ Nxt tb B C ∧ D ∈ C.hid ∧ C.H D = some (.lst acc) ∧ Rep K tb C S3 ∧ WRs K tb C acc ws ∧ lc2M im mg mt mi1 vs1 mg1 mt1 me m (i + 1) (wipeE ρ vs) S3 = some (zs', S2) ∧ ws ++ zs' = zs, fun H' h => ⟨m, Nat.lt_succ_self m, h⟩, fun x H2 y => ?_⟩
      obtain ⟨C2, rfl, N4, R4, r4⟩ := yl x H2 y
      have EC : ER K tb C2 (wipe σ vs) (wipeE ρ vs) := EB.nxt (N3.trans N4)
      refine hg C2 x w1 _ _ S3 ρ5 S5 _ R4 EC r4 e5 fun C3 σ3 N5 R5 E5 hl5 hj5 => ⟨wipe_wipe hl5 fun j hj => hj5 j fun z => hj (hsub j z), ?_⟩
      refine ht C3 σ3 ρ5 S5 k6 S6 _ R5 E5 e6 fun C4 N6 R6 => ?_
      have NC := N4.trans (N5.trans N6)
      cases k6 with
      | false =>
        simp only [Bool.false_eq_true, if_false] at e4 ⊢
        exact ⟨C4, acc, ws, S6, zs', rfl, N3.trans NC, NC.hid D hDC, NC.hidden R3 hDC eD, R6, WRs.nxt NC racc, e4, hz⟩
      | true =>
        simp only [if_true] at e4 ⊢
        obtain ⟨⟨im1, S7⟩, e7, e4⟩ := Option.bind_eq_some_iff.mp e4
        obtain ⟨⟨ys8, S8⟩, e8, e4⟩ := Option.bind_eq_some_iff.mp e4
        obtain ⟨⟨zs9, S9⟩, e9, e4⟩ := Option.bind_eq_some_iff.mp e4
        cases e4
        refine hi1 C4 σ3 ρ5 S6 im1 S7 _ R6 (E5.nxt N6) e7 fun J1 C5 N7 R7 ok1 => ?_
        have NC5 := NC.trans N7
        have EI := wipeE_er (E5.nxt (N6.trans N7)) vs1
        refine ⟨fun j k H => ∃ F acc' us2 S3' ys', F.H = H ∧ NxW tb C5 F ∧ D ∈ F.hid ∧ F.H D = some (.lst acc') ∧ Rep K tb F S3' ∧ WRs K tb F acc' us2 ∧ lcM im1 mg1 mt1 me k j (wipeE ρ5 vs1) S3' = some (ys', S8) ∧ us2 ++ ys' = ws ++ ys8 ∧ Nxt tb B F,
          ⟨_, C5, acc, ws, S7, ys8, rfl, Nxt.refl.w, NC5.hid D hDC, NC5.hidden R3 hDC eD, R7, WRs.nxt NC5 racc, e8, rfl, N3.trans NC5⟩, ?_⟩
        rintro j k _ ⟨F, acc', us2, S3', ys', rfl, NF, hDF, eDF, RF, raF, eF, hzF, NBF⟩
        unfold lcM at eF
        split at eF
        · cases eF
        · rename_i haF
          cases eF
          obtain ⟨vs', hv, hzv⟩ := Itm.at_now haF
          rw [List.append_nil] at hzF
          subst hzF
          exact .inl ⟨(ok1 F _ vs' NF RF hv).2 j (List.getElem?_eq_none_iff.mp hzv.symm), F, acc', ws ++ ys8, S8, zs9, rfl, NBF, hDF, eDF, RF, raF, e9, by rw [List.append_assoc]; exact hz⟩
        · rename_i wF haF
          obtain ⟨vs', hv, hzv⟩ := Itm.at_now haF
          obtain ⟨goF, ylF⟩ := (ok1 F S3' vs' NF RF hv).1 j wF hzv.symm
          cases k with
          | zero => cases eF
          | succ k =>
            obtain ⟨⟨ρ10, S10⟩, e10, eF⟩ := Option.bind_eq_some_iff.mp eF
            obtain ⟨⟨k11, S11⟩, e11, eF⟩ := Option.bind_eq_some_iff.mp eF
            refine .inr ⟨goF, fun H' => ∃ F acc' us2 S3' ys', F.H = H' ∧ NxW tb C5 F ∧ D ∈ F.hid ∧ F.H D = some (.lst acc') ∧ Rep K tb F S3' ∧ WRs K tb F acc' us2 ∧ lcM im1 mg1 mt1 me k (j + 1) (wipeE ρ5 vs1) S3' = some (ys', S8) ∧ us2 ++ ys' = ws ++ ys8 ∧ Nxt tb B F, fun H' h => ⟨k, Nat.lt_succ_self k, h⟩, fun x1 H3 y1 => ?_⟩
            obtain ⟨F2, rfl, M4, Q4, s4⟩ := ylF x1 H3 y1
            have EF : ER K tb F2 (wipe σ3 vs1) (wipeE ρ5 vs1) := (EI.nxw NF).nxt M4
            refine hg1 F2 x1 wF _ _ S3' ρ10 S10 _ Q4 EF s4 e10 fun F3 σ10 M5 Q5 E10 hl10 hj10 => ⟨wipe_wipe hl10 fun j hj => hj10 j fun z => hj (hsub1 j z), ?_⟩
            refine ht1 F3 σ10 ρ10 S10 k11 S11 _ Q5 E10 e11 fun F4 M6 Q6 => ?_
            have MC := M4.trans (M5.trans M6)
            cases k11 with
            | false =>
              simp only [Bool.false_eq_true, if_false] at eF ⊢
              exact ⟨F4, acc', us2, S11, ys', rfl, NF.trans MC.w, MC.hid D hDF, MC.hidden RF hDF eDF, Q6, WRs.nxt MC raF, eF, hzF, NBF.trans MC⟩
            | true =>
              simp only [if_true] at eF ⊢
              obtain ⟨⟨y12, S12⟩, e12, eF⟩ := Option.bind_eq_some_iff.mp eF
              obtain ⟨⟨zs13, S13⟩, e13, eF⟩ := Option.bind_eq_some_iff.mp eF
              cases eF
              refine he F4 σ10 ρ10 S11 y12 S12 _ Q6 (E10.nxt M6) e12 fun v F5 M7 Q7 r7 => ?_
              have MC5 := MC.trans M7
              have hD5 := MC5.hid D hDF
              have eD5 := MC5.hidden RF hDF eDF
              have hac := WRs.length raF
              refine ⟨acc', eD5, ?_, F5.hset D (.lst (acc' ++ [v])), acc' ++ [v], us2 ++ [y12], S12, zs13, rfl, nxw_hset (NF.trans MC5.w) (NC5.hid D hDC) (R7.hd D (NC5.hid D hDC)).2.1, hD5, upd_same, Q7.hset hD5, ?_, e13, by rw [List.append_assoc]; exact hzF, nxt_hset (NBF.trans MC5) hD⟩
              · have h1 := congrArg List.length hzF
                have h2 : ws.length + (ys8.length + zs9.length) = zs.length := by have := congrArg List.length hz; simpa using this
                have h3 : zs.length ≤ sizeLine := hlen
                have h4 : us2.length + (zs13.length + 1) = ws.length + ys8.length := by simpa using h1
                omega
              · exact Paired.snoc (Paired.mapP (WRs.nxt MC5 raF) fun _ _ z => wr_key (hset_key hD5) (fun _ _ z => z) z) (wr_key (hset_key hD5) (fun _ _ z => z) r7)
end
end Pd
namespace Pd
open PySem PySem.Spec PyProof.Rows L2 GxR Gx
section
variable {K : PySem.W.Frag} {tb : List Addr}
noncomputable abbrev MK := List W → List W → Mem → Option (W × Mem)
noncomputable def eCallK (f : MK) (a k : MA) : ME := fun ρ S => (a ρ S).bind fun p => (k ρ p.2).bind fun q => f p.1 q.1 q.2
noncomputable def oIsBl : F2 := fun a b S => match a, b with
  | .d (.bool x), .d (.bool y) => some (.d (.bool (decide (x = y))), S)
  | _, _ => none
noncomputable def oNeg : F1 := fun a S => match a with
  | .d (.int i) => some (.d (.int (-i)), S)
  | _ => none
theorem su_neg : SU K tb (rU fun i => .int (-i)) oNeg := fun A x a S w S' Q R ra e q => by
  unfold oNeg at e
  split at e
  · cases e
    exact ⟨_, ra.int, q _ A .refl R (DR.int _)⟩
  · cases e
end
structure DfC (K : PySem.W.Frag) (mg : Str → Option Value) (x : Str) (st : Stmt) (ps : List Str) where
  f : Addr
  fd : FuncData
  c : Addr
  F : FunC K x x st f fd c
  g : mg x = some (.ref f)
  b : Binds K fd ps []
theorem bt_all : bootBuiltins "all" = some (.builtin "all") := by decide +kernel
section
variable {X : Cx} {K : PySem.W.Frag}
theorem pi_tupK {tg l : Expr} {tl : TE} (hK : X.K = K) (hl : PE X l tl) : PI X tg l (iTup K tl) := by subst hK; exact pi_tup hl
theorem pi_lstK {tg l : Expr} {tl : TE} (hK : X.K = K) (hl : PE X l tl) : PI X tg l (iList K tl) := by subst hK; exact pi_list hl
theorem pi_enumTK {e : Expr} {ta : TA} {p pos tpos : Pos} {elts : List Expr} {kk : Nat} (hK : X.K = K) (hg : Gl X "enumerate") (hm : X.mg "enumerate" = none) (ha : PA X [e] ta) (hs : starEach [e] X.env = [(false, eval e X.env)] := by rfl) :
    PI X (.Tuple elts kk tpos) (.Call (.Name "enumerate" p) [e] [] pos) (iEnumT K ta) := by subst hK; exact pi_enumT hg hm ha hs
theorem pi_enumLK {e : Expr} {ta : TA} {p pos tpos : Pos} {elts : List Expr} {kk : Nat} (hK : X.K = K) (hg : Gl X "enumerate") (hm : X.mg "enumerate" = none) (ha : PA X [e] ta) (hs : starEach [e] X.env = [(false, eval e X.env)] := by rfl) :
    PI X (.Tuple elts kk tpos) (.Call (.Name "enumerate" p) [e] [] pos) (iEnum K ta) := by subst hK; exact pi_enum hg hm ha hs
theorem ix_seqK (hK : X.K = K) : IxR X (rIx K) := by subst hK; exact ix_seq
theorem sl_allK (hK : X.K = K) : SlR X (rSlAll K) := by subst hK; exact sl_all
theorem op_plusK (hK : X.K = K) : OpR X (binaryOp .Add) (rPlus K) := by subst hK; exact op_plus
theorem op_eqAK (hK : X.K = K) (hu : X.A.units + 64 < cLine) : OpR X (compareOp .Eq) (rEqA K) := by subst hK; exact op_eqA hu
theorem op_neAK (hK : X.K = K) (hu : X.A.units + 64 < cLine) : OpR X (compareOp .NotEq) (rNeA K) := by subst hK; exact op_neA hu
theorem op_inK (hK : X.K = K) : OpR X (compareOp .In) (rIn K false) := by subst hK; exact op_in_seq
theorem op_ninK (hK : X.K = K) : OpR X (compareOp .NotIn) (rIn K true) := by subst hK; exact op_notIn_seq
theorem cr_lenK (hK : X.K = K) : CallR X (.builtin "len") (fun xs H Q => ∃ p ys, xs = [.ref p] ∧ (SqL K H p ys ∨ SqT K H p ys) ∧ Q (.int ys.length) H) := by subst hK; exact call_len_seq
theorem cr_tupK (hK : X.K = K) : CallR X (.type "tuple") (fun xs H Q => ∃ p ys, xs = [.ref p] ∧ ((SqL K H p ys ∧ ∀ l, H l = none → Q (.ref l) (upd H l (.tup ys))) ∨ (SqT K H p ys ∧ Q (.ref p) H))) := by subst hK; exact call_tuple_of
theorem cr_lstK (hK : X.K = K) : CallR X (.type "list") (rLstOf K) := by subst hK; exact call_list_of
end
theorem nodot (N : List Str) (h : (".0" : Str) ∉ N) : ∀ i : Nat, N[i]? ≠ some (".0" : Str) := fun i e => h (List.mem_of_getElem? e)
theorem dr_con {K : PySem.W.Frag} {tb : List Addr} {a : Addr} {xs : List V} {ds : List PyData} (h : SqT K H0 a xs) (r : ∀ A, DRs K tb A xs ds) : ∀ A, DR K tb A (.ref a) (.tuple ds) := fun A => .tup (.inr h) (r A)
theorem atI_0 {α : Type} {v : α} {us : List α} : atI (v :: us) 0 = some v := atI_nat (j := 0) rfl
theorem atI_1 {α : Type} {v x : α} {us : List α} : atI (v :: x :: us) 1 = some x := atI_nat (j := 1) rfl
theorem atI_2 {α : Type} {v x y : α} {us : List α} : atI (v :: x :: y :: us) 2 = some y := atI_nat (j := 2) rfl
theorem atI_3 {α : Type} {v x y z : α} {us : List α} : atI (v :: x :: y :: z :: us) 3 = some z := atI_nat (j := 3) rfl
theorem atI_4 {α : Type} {v x y z u : α} {us : List α} : atI (v :: x :: y :: z :: u :: us) 4 = some u := atI_nat (j := 4) rfl
theorem atI_at {α : Type} {xs : List α} {i : Nat} {x : α} (h : xs[i]? = some x) : atI xs (i : Int) = some x := atI_nat (j := i) h
theorem oIx_tup {ds : List PyData} {i : Int} {S : Mem} : oIx (.d (.tuple ds)) (.d (.int i)) S = (atI ds i).map fun d => (.d d, S) := rfl
theorem oIx_list {ds : List PyData} {i : Int} {S : Mem} : oIx (.d (.list ds)) (.d (.int i)) S = (atI (ds.map W.d) i).map fun d => (d, S) := rfl
section
variable {ρ ρ1 ρ2 : Env'} {S S1 S2 S3 : Mem} {w x y z : W} {a b c : MS} {e e1 e2 e3 : ME} {t u : MT} {m n : MA} {f : F2} {g : MG} {r : Option (Out × Env' × Mem)} {k : Bool} {ws us : List W}
end
section
variable {K : PySem.W.Frag} {tb : List Addr}
noncomputable abbrev FW := List (Str × W)
noncomputable def insAt (w : W) (S : Mem) : Option (Nat × Addr × FW) := match w with
  | .loc n => match S[n]? with
    | some (.ins C fs) => some (n, C, fs)
    | _ => none
  | _ => none
noncomputable abbrev PF (K : PySem.W.Frag) (tb : List Addr) (A : Wd) : List (Str × V) → FW → Prop := Paired fun p q => p.1 = q.1 ∧ WR K tb A p.2 q.2
theorem insAt_run {A : Wd} {S : Mem} {v : V} {w : W} {n : Nat} {C : Addr} {fs : FW} (R : Rep K tb A S) (r : WR K tb A v w) (h : insAt w S = some (n, C, fs)) :
    ∃ a dx vs, v = .ref a ∧ w = .loc n ∧ A.ι[n]? = some a ∧ A.H a = some (.ins C dx vs) ∧ PF K tb A vs fs := by
  unfold insAt at h
  split at h
  · rename_i m
    split at h
    · rename_i e
      cases h
      obtain ⟨a, rfl, ia⟩ := r
      obtain ⟨ob, e2, q⟩ := R.get ia
      rw [e] at e2; cases e2
      obtain ⟨dx, vs, ea, p⟩ := q
      exact ⟨a, dx, vs, rfl, rfl, ia, ea, p⟩
    · cases h
  · cases h
theorem PF.some {A : Wd} {vs : List (Str × V)} {fs : FW} (p : PF K tb A vs fs) {f : Str} {w : W} (h : fs.lookup f = some w) : ∃ v, vs.lookup f = some v ∧ WR K tb A v w := by
  induction p with
  | nil => cases h
  | @cons a b as bs r _ ih =>
    obtain ⟨x, v⟩ := a
    obtain ⟨y, u⟩ := b
    obtain ⟨rfl, r⟩ := r
    rw [List.lookup_cons] at h ⊢
    split at h
    · rename_i e; cases h; rw [e]; exact ⟨v, rfl, r⟩
    · rename_i e; rw [e]; exact ih h
theorem PF.none {A : Wd} {vs : List (Str × V)} {fs : FW} (p : PF K tb A vs fs) {f : Str} (h : fs.lookup f = none) : vs.lookup f = none := by
  induction p with
  | nil => rfl
  | @cons a b as bs r _ ih =>
    obtain ⟨x, v⟩ := a
    obtain ⟨y, u⟩ := b
    obtain ⟨rfl, r⟩ := r
    rw [List.lookup_cons] at h ⊢
    split at h
    · cases h
    · rename_i e; rw [e]; exact ih h
noncomputable def putW (f : Str) (w : W) : FW → FW
  | [] => [(f, w)]
  | (g, x) :: r => if g = f then (g, w) :: r else (g, x) :: putW f w r
theorem PF.put {A : Wd} {vs : List (Str × V)} {fs : FW} (p : PF K tb A vs fs) {f : Str} {v : V} {w : W} (r : WR K tb A v w) : PF K tb A (putF f v vs) (putW f w fs) := by
  induction p with
  | nil => exact .cons ⟨rfl, r⟩ .nil
  | @cons a b as bs q t ih =>
    obtain ⟨x, v'⟩ := a
    obtain ⟨y, u⟩ := b
    obtain ⟨rfl, q⟩ := q
    show Paired _ (if x = f then _ else _) (if x = f then _ else _)
    by_cases e : x = f
    · rw [if_pos e, if_pos e]; exact .cons ⟨rfl, r⟩ t
    · rw [if_neg e, if_neg e]; exact .cons ⟨rfl, q⟩ ih
theorem PF.nxt {A B : Wd} {vs : List (Str × V)} {fs : FW} (x : Nxt tb A B) (p : PF K tb A vs fs) : PF K tb B vs fs := Paired.mapP p fun _ _ z => ⟨z.1, z.2.nxt x⟩
theorem PF.length {A : Wd} {vs : List (Str × V)} {fs : FW} (p : PF K tb A vs fs) : vs.length = fs.length := Paired.length p
noncomputable def eFld (C : Addr) (o : ME) (f : Str) : ME := fun ρ S => (o ρ S).bind fun p => (insAt p.1 p.2).bind fun q => if q.2.1 = C then (q.2.2.lookup f).map fun w => (w, p.2) else none
theorem se_fld {C : Addr} {ta : TE} {o : ME} {f : Str} (c : Cls K C) (hn : NoAttr K C f) (ho : SE K tb ta o) : SE K tb (tFld K ta f) (eFld C o f) := fun A σ ρ S w S' Q R E e q => by
  obtain ⟨p, e1, g1⟩ := Option.bind_eq_some_iff.mp e
  obtain ⟨⟨n, C', fs⟩, e2, g2⟩ := Option.bind_eq_some_iff.mp g1
  dsimp only at g2
  split at g2
  · rename_i hC
    subst hC
    obtain ⟨u, e3, e4⟩ := Option.map_eq_some_iff.mp g2
    cases e4
    refine ho A σ ρ S p.1 p.2 _ R E e1 fun x B N R1 r1 => ?_
    obtain ⟨a, dx, vs, rfl, _, ia, ea, pf⟩ := insAt_run R1 r1 e2
    obtain ⟨v, hv, rv⟩ := pf.some e3
    exact ⟨a, C', dx, vs, v, rfl, ea, c, hn, hv, q v B N R1 rv⟩
  · cases g2
noncomputable def sFldW (C : Addr) (o : ME) (f : Str) (x : ME) : MS := fun ρ S => (x ρ S).bind fun p => (o ρ p.2).bind fun z => (insAt z.1 z.2).bind fun q => if q.2.1 = C ∧ q.2.2.length < 1000 then some (.nx, ρ, z.2.set q.1 (.ins C (putW f p.1 q.2.2))) else none
theorem ss_fld {C : Addr} {ta tv : TE} {o x : ME} {f : Str} (c : Cls K C) (hn : NoAttr K C f) (ho : SE K tb ta o) (hx : SE K tb tv x) : SS K tb (sFld K ta tv f) (sFldW C o f x) := fun A σ ρ S ou ρ' S' D R E e q => by
  obtain ⟨p, e1, g1⟩ := Option.bind_eq_some_iff.mp e
  obtain ⟨z, e2, g2⟩ := Option.bind_eq_some_iff.mp g1
  obtain ⟨⟨n, C', fs⟩, e3, g3⟩ := Option.bind_eq_some_iff.mp g2
  dsimp only at g3
  split at g3
  · rename_i hC
    obtain ⟨hC, hl⟩ := hC
    subst hC
    cases g3
    refine hx A σ ρ S p.1 p.2 _ R E e1 fun y B N R1 r1 => ?_
    refine ho B σ ρ p.2 z.1 z.2 _ R1 (E.nxt N) e2 fun ov B2 N2 R2 r2 => ?_
    obtain ⟨a, dx, vs, rfl, _, ia, ea, pf⟩ := insAt_run R2 r2 e3
    refine ⟨a, C', dx, vs, rfl, ea, c, hn, by rw [pf.length]; exact hl, ?_⟩
    have hm : ∀ o u, B2.H a ≠ some (.frz o u) := fun o u z => by rw [ea] at z; cases z
    have NN := N.trans (N2.trans (Nxt.set (o := .ins C' dx (putF f y vs)) ia hm))
    exact q (B2.put a _) σ NN (R2.set ia hm ⟨dx, _, upd_same, ((pf.put (r1.nxt N2)).nxt (.set ia hm))⟩) (E.nxt NN)
  · cases g3
noncomputable def sFldAugW (C : Addr) (o : ME) (f : Str) (x : ME) : MS := fun ρ S => (o ρ S).bind fun z => (insAt z.1 z.2).bind fun q => match q.2.2.lookup f with
  | some (.d (.int i)) => (x ρ z.2).bind fun p => (insAt z.1 p.2).bind fun q2 => match p.1 with
    | .d (.int j) => if q.2.1 = C ∧ q2.2.1 = C ∧ q2.2.2.length < 1000 then some (.nx, ρ, p.2.set q2.1 (.ins C (putW f (.d (.int (i + j))) q2.2.2))) else none
    | _ => none
  | _ => none
theorem ss_fldaug {C : Addr} {ta tv : TE} {o x : ME} {f : Str} (c : Cls K C) (hn : NoAttr K C f) (ho : SE K tb ta o) (hx : SE K tb tv x) : SS K tb (sFldAug K ta tv rAdd f) (sFldAugW C o f x) := fun A σ ρ S ou ρ' S' D R E e q => by
  obtain ⟨z, e1, g1⟩ := Option.bind_eq_some_iff.mp e
  obtain ⟨⟨n, C', fs⟩, e2, g2⟩ := Option.bind_eq_some_iff.mp g1
  dsimp only at g2
  split at g2
  · rename_i i hi
    obtain ⟨⟨p, S1⟩, e3, g3⟩ := Option.bind_eq_some_iff.mp g2
    obtain ⟨⟨n2, C2, fs2⟩, e4, g4⟩ := Option.bind_eq_some_iff.mp g3
    dsimp only at g4 e4
    split at g4
    · rename_i j
      split at g4
      · rename_i hC
        obtain ⟨h1, h2, h3⟩ := hC
        subst h1
        cases g4
        refine ho A σ ρ S z.1 z.2 _ R E e1 fun ov B N R1 r1 => ?_
        obtain ⟨a, dx, vs, rfl, hw, ia, ea, pf⟩ := insAt_run R1 r1 e2
        obtain ⟨v, hv, rv⟩ := pf.some hi
        obtain rfl := WR.int rv
        refine ⟨a, C', dx, vs, _, rfl, ea, c, hn, hv, ?_⟩
        refine hx B σ ρ z.2 _ S1 _ R1 (E.nxt N) e3 fun y B2 N2 R2 r2 => ?_
        obtain rfl := WR.int r2
        refine ⟨i, j, rfl, rfl, ?_⟩
        obtain ⟨a2, dx2, vs2, h5, _, ia2, ea2, pf2⟩ := insAt_run R2 (r1.nxt N2) e4
        cases h5
        subst h2
        refine ⟨dx2, vs2, ea2, by rw [pf2.length]; exact h3, ?_⟩
        have hm : ∀ o u, B2.H a ≠ some (.frz o u) := fun o u z => by rw [ea2] at z; cases z
        have NN := N.trans (N2.trans (Nxt.set (o := .ins C2 dx2 (putF f (.int (i + j)) vs2)) ia2 hm))
        exact q (B2.put a _) σ NN (R2.set ia2 hm ⟨dx2, _, upd_same, ((pf2.put (show WR K tb B2 (.int (i + j)) (.d (.int (i + j))) from DR.int _)).nxt (.set ia2 hm))⟩) (E.nxt NN)
      · cases g4
    · cases g4
  · cases g2
noncomputable def eMeth (C : Addr) (m : Str) (f : MF) (o : ME) (a : MA) : ME := fun ρ S => (o ρ S).bind fun p => (insAt p.1 p.2).bind fun q => if q.2.1 = C ∧ q.2.2.lookup m = none then (a ρ p.2).bind fun z => f (p.1 :: z.1) z.2 else none
theorem se_meth {n : Nat} {C : Addr} {m : Str} {f : MF} {ta : TE} {t : TA} {o : ME} {a : MA} {E : XK} (h : Ar n f) (ho : SE K tb ta o) (ha : SA K tb t a) : SE K tb (tMeth C m (spD K tb n f) [] E ta t) (eMeth C m f o a) := fun A σ ρ S w S' Q R Er e q => by
  obtain ⟨p, e1, g1⟩ := Option.bind_eq_some_iff.mp e
  obtain ⟨⟨k, C', fs⟩, e2, g2⟩ := Option.bind_eq_some_iff.mp g1
  dsimp only at g2
  split at g2
  · rename_i hC
    obtain ⟨h1, h2⟩ := hC
    subst h1
    obtain ⟨z, e3, g3⟩ := Option.bind_eq_some_iff.mp g2
    refine ho A σ ρ S p.1 p.2 _ R Er e1 fun x B N R1 r1 => ?_
    obtain ⟨a', dx, vs, rfl, _, ia, ea, pf⟩ := insAt_run R1 r1 e2
    refine ⟨a', dx, vs, rfl, ea, pf.none h2, ?_⟩
    refine ha B σ ρ p.2 z.1 z.2 _ R1 (Er.nxt N) e3 fun us B2 N2 R2 r2 => ?_
    rw [List.append_nil]
    have rr : WRs K tb B2 (.ref a' :: us) (p.1 :: z.1) := .cons (r1.nxt N2) r2
    exact ⟨by rw [WRs.length rr]; exact h _ _ _ g3, B2, _, _, w, S', rfl, rr, R2, g3, q.nxt (N.trans N2)⟩
  · cases g2
noncomputable def eMake (C : Addr) (f : MF) (a : MA) : ME := fun ρ S => (a ρ S).bind fun z => (f (.loc z.2.length :: z.1) (z.2 ++ [.ins C []])).bind fun r => match r.1 with
  | .d .none => some (.loc z.2.length, r.2)
  | _ => none
theorem se_make {n : Nat} {C : Addr} {f : MF} {t : TA} {a : MA} {E : XK} (h : Ar n f) (ha : SA K tb t a) : SE K tb (tMake C (spD K tb n f) [] E t) (eMake C f a) := fun A σ ρ S w S' Q R Er e q => by
  obtain ⟨z, e1, g1⟩ := Option.bind_eq_some_iff.mp e
  obtain ⟨⟨r, S2⟩, e2, g2⟩ := Option.bind_eq_some_iff.mp g1
  dsimp only at g2
  split at g2
  · cases g2
    refine ha A σ ρ S z.1 z.2 _ R Er e1 fun us B N R1 r1 x dx hx hdx hne => ?_
    rw [List.append_nil]
    let B1 := B.put dx (.own x)
    have hx1 : B1.H x = none := by show upd B.H dx _ x = none; rw [upd_ne (Ne.symm hne)]; exact hx
    let B2 := B1.add x (.ins C dx [])
    have N2 : Nxt tb B B2 := (Nxt.put hdx _).trans (.add hx1 _)
    have R2 : Rep K tb B2 (z.2 ++ [.ins C []]) := (R1.put hdx _).add hx1 ⟨dx, [], upd_same, .nil⟩
    have ix : B2.ι[z.2.length]? = some x := by show (B.ι ++ [x])[z.2.length]? = _; rw [← R1.len]; simp
    have rr : WRs K tb B2 (.ref x :: us) (.loc z.2.length :: z.1) := .cons ⟨x, rfl, ix⟩ (r1.nxt N2)
    refine ⟨by rw [WRs.length rr]; exact h _ _ _ e2, B2, _, _, _, _, rfl, rr, R2, e2, fun v B3 N3 R3 r3 => ⟨WR.non r3, ?_⟩⟩
    exact q (.ref x) B3 (N.trans (N2.trans N3)) R3 ⟨x, rfl, N3.ix ix⟩
  · cases g2
noncomputable abbrev KW := List (Key × W)
noncomputable def keyW : W → Option Key
  | .d (.int i) => some (.inl i)
  | .d (.str s) => some (.inr s)
  | _ => none
theorem keyW_run {A : Wd} {v : V} {w : W} {k : Key} (r : WR K tb A v w) (h : keyW w = some k) : v = kV k := by
  unfold keyW at h
  split at h
  · cases h; exact WR.int r
  · cases h; exact WR.str r
  · cases h
noncomputable def dctAt (w : W) (S : Mem) : Option (Nat × KW) := match w with
  | .loc n => match S[n]? with
    | some (.dct kvs) => some (n, kvs)
    | _ => none
  | _ => none
noncomputable abbrev PK' (K : PySem.W.Frag) (tb : List Addr) (A : Wd) : List (Key × V) → KW → Prop := Paired fun p q => p.1 = q.1 ∧ WR K tb A p.2 q.2
theorem dctAt_run {A : Wd} {S : Mem} {v : V} {w : W} {n : Nat} {kvs : KW} (R : Rep K tb A S) (r : WR K tb A v w) (h : dctAt w S = some (n, kvs)) : ∃ a vs, v = .ref a ∧ w = .loc n ∧ A.ι[n]? = some a ∧ A.H a = some (.dK vs) ∧ PK' K tb A vs kvs := by
  unfold dctAt at h
  split at h
  · rename_i m
    split at h
    · rename_i e
      cases h
      obtain ⟨a, rfl, ia⟩ := r
      obtain ⟨ob, e2, q⟩ := R.get ia
      rw [e] at e2; cases e2
      obtain ⟨vs, ea, p⟩ := q
      exact ⟨a, vs, rfl, rfl, ia, ea, p⟩
    · cases h
  · cases h
noncomputable def valW (kvs : KW) (k : Key) : Option W := (kvs.find? fun kv => decide (kv.1 = k)).map (·.2)
noncomputable def putD (kvs : KW) (k : Key) (w : W) : KW := if (kvs.any fun kv => decide (kv.1 = k)) = true then kvs.map (fun kv => if kv.1 = k then (kv.1, w) else kv) else kvs ++ [(k, w)]
theorem PK'.nxt {A B : Wd} {vs : List (Key × V)} {kvs : KW} (x : Nxt tb A B) (p : PK' K tb A vs kvs) : PK' K tb B vs kvs := Paired.mapP p fun _ _ z => ⟨z.1, z.2.nxt x⟩
theorem PK'.val {A : Wd} {vs : List (Key × V)} {kvs : KW} (p : PK' K tb A vs kvs) (k : Key) : (∀ w, valW kvs k = some w → ∃ v, valV vs k = some v ∧ WR K tb A v w) ∧ (valW kvs k = none → valV vs k = none) := by
  induction p with
  | nil => exact ⟨(fun w h => nomatch h), fun _ => rfl⟩
  | @cons a b as bs r _ ih =>
    obtain ⟨x, v⟩ := a
    obtain ⟨y, u⟩ := b
    obtain ⟨e, r⟩ := r
    cases (show x = y from e)
    unfold valW valV at ih ⊢
    rw [List.find?_cons, List.find?_cons]
    by_cases hk : x = k
    · simp only [hk, decide_true]
      exact ⟨fun w h => by cases h; exact ⟨v, rfl, r⟩, fun h => nomatch h⟩
    · simp only [hk, decide_false]
      exact ih
theorem PK'.any {A : Wd} {vs : List (Key × V)} {kvs : KW} (p : PK' K tb A vs kvs) (k : Key) : (vs.any fun kv => decide (kv.1 = k)) = kvs.any fun kv => decide (kv.1 = k) := by
  induction p with
  | nil => rfl
  | @cons a b as bs r _ ih => rw [List.any_cons, List.any_cons, ih, r.1]
theorem PK'.put {A : Wd} {vs : List (Key × V)} {kvs : KW} (p : PK' K tb A vs kvs) {k : Key} {v : V} {w : W} (r : WR K tb A v w) : PK' K tb A (putK vs k v) (putD kvs k w) := by
  unfold putK putD
  rw [p.any k]
  split
  · induction p with
    | nil => exact .nil
    | @cons a b as bs q t ih =>
      rw [List.map_cons, List.map_cons]
      refine .cons ?_ (by
        by_cases ht : (bs.any fun kv => decide (kv.1 = k)) = true
        · exact ih ht
        · have h1 : ∀ (l : List (Key × V)) (m : KW), PK' K tb A l m → (m.any fun kv => decide (kv.1 = k)) = false → PK' K tb A (l.map fun kv => if kv.1 = k then (kv.1, v) else kv) (m.map fun kv => if kv.1 = k then (kv.1, w) else kv) := by
            intro l m z
            induction z with
            | nil => intro _; exact .nil
            | @cons a b as bs q t ih =>
              intro h
              rw [List.any_cons, Bool.or_eq_false_iff] at h
              rw [List.map_cons, List.map_cons]
              refine .cons ?_ (ih h.2)
              have hb : ¬ b.1 = k := of_decide_eq_false h.1
              rw [if_neg (by rw [q.1]; exact hb), if_neg hb]
              exact q
          exact h1 _ _ t (Bool.eq_false_iff.mpr ht))
      by_cases hk : b.1 = k
      · rw [if_pos (by rw [q.1]; exact hk), if_pos hk]; exact ⟨q.1, r⟩
      · rw [if_neg (by rw [q.1]; exact hk), if_neg hk]; exact q
  · exact Paired.snoc p ⟨rfl, r⟩
theorem PK'.length {A : Wd} {vs : List (Key × V)} {kvs : KW} (p : PK' K tb A vs kvs) : vs.length = kvs.length := Paired.length p
noncomputable def eDNew : ME := fun _ S => some (.loc S.length, S ++ [.dct []])
theorem se_dnew : SE K tb tDNewK eDNew := fun A σ ρ S w S' Q R E e q => by
  cases e
  intro p hp
  refine q _ (A.add p (.dK [])) (.add hp _) (R.add hp ⟨[], upd_same, .nil⟩) ⟨p, rfl, ?_⟩
  show (A.ι ++ [p])[S.length]? = some p
  rw [← R.len]; simp
noncomputable def eDGet (o i : ME) : ME := fun ρ S => (o ρ S).bind fun p => (i ρ p.2).bind fun z => (dctAt p.1 z.2).bind fun d => (keyW z.1).bind fun k => (valW d.2 k).map fun w => (w, z.2)
theorem se_dget {td ty : TE} {o i : ME} (ho : SE K tb td o) (hi : SE K tb ty i) : SE K tb (tDGet td ty) (eDGet o i) := fun A σ ρ S w S' Q R E e q => by
  obtain ⟨p, e1, g1⟩ := Option.bind_eq_some_iff.mp e
  obtain ⟨z, e2, g2⟩ := Option.bind_eq_some_iff.mp g1
  obtain ⟨⟨n, kvs⟩, e3, g3⟩ := Option.bind_eq_some_iff.mp g2
  obtain ⟨k, e4, g4⟩ := Option.bind_eq_some_iff.mp g3
  obtain ⟨u, e5, e6⟩ := Option.map_eq_some_iff.mp g4
  cases e6
  refine ho A σ ρ S p.1 p.2 _ R E e1 fun x B N R1 r1 => ?_
  refine hi B σ ρ p.2 z.1 z.2 _ R1 (E.nxt N) e2 fun y B2 N2 R2 r2 => ?_
  obtain ⟨a, vs, rfl, _, ia, ea, pk⟩ := dctAt_run R2 (r1.nxt N2) e3
  obtain rfl := keyW_run r2 e4
  obtain ⟨v, hv, rv⟩ := (pk.val k).1 _ e5
  exact ⟨a, v, rfl, by rw [← hv]; exact DGet.k ea, q v B2 (N.trans N2) R2 rv⟩
noncomputable def eDIn (n : Bool) (i o : ME) : ME := fun ρ S => (i ρ S).bind fun z => (o ρ z.2).bind fun p => (dctAt p.1 p.2).bind fun d => (keyW z.1).bind fun k => some (.d (.bool (if n then !(valW d.2 k).isSome else (valW d.2 k).isSome)), p.2)
theorem isS {A : Wd} {vs : List (Key × V)} {kvs : KW} (pk : PK' K tb A vs kvs) (k : Key) : (valV vs k).isSome = (valW kvs k).isSome := by
  cases h : valW kvs k with
  | none => rw [(pk.val k).2 h]; rfl
  | some w => obtain ⟨v, hv, _⟩ := (pk.val k).1 w h; rw [hv]; rfl
theorem se_dnin {td ty : TE} {o i : ME} (hi : SE K tb ty i) (ho : SE K tb td o) : SE K tb (tDNotIn ty td) (eDIn true i o) := fun A σ ρ S w S' Q R E e q => by
  obtain ⟨z, e1, g1⟩ := Option.bind_eq_some_iff.mp e
  obtain ⟨p, e2, g2⟩ := Option.bind_eq_some_iff.mp g1
  obtain ⟨⟨n, kvs⟩, e3, g3⟩ := Option.bind_eq_some_iff.mp g2
  obtain ⟨k, e4, g4⟩ := Option.bind_eq_some_iff.mp g3
  cases g4
  refine hi A σ ρ S z.1 z.2 _ R E e1 fun y B N R1 r1 => ?_
  refine ho B σ ρ z.2 p.1 p.2 _ R1 (E.nxt N) e2 fun x B2 N2 R2 r2 => ?_
  obtain ⟨a, vs, rfl, _, ia, ea, pk⟩ := dctAt_run R2 r2 e3
  obtain rfl := keyW_run (r1.nxt N2) e4
  exact ⟨a, _, rfl, DGet.k ea, by rw [isS pk k]; exact q _ B2 (N.trans N2) R2 (DR.bl _)⟩
noncomputable def sDPutW (o i x : ME) : MS := fun ρ S => (x ρ S).bind fun v => (o ρ v.2).bind fun p => (i ρ p.2).bind fun z => (dctAt p.1 z.2).bind fun d => (keyW z.1).bind fun k => if d.2.length < sizeLine then some (.nx, ρ, z.2.set d.1 (.dct (putD d.2 k v.1))) else none
theorem ss_dput {td ty tv : TE} {o i x : ME} (ho : SE K tb td o) (hi : SE K tb ty i) (hx : SE K tb tv x) : SS K tb (sDPut td ty tv) (sDPutW o i x) := fun A σ ρ S ou ρ' S' D R E e q => by
  obtain ⟨v, e0, g1⟩ := Option.bind_eq_some_iff.mp e
  obtain ⟨p, e1, g2⟩ := Option.bind_eq_some_iff.mp g1
  obtain ⟨z, e2, g3⟩ := Option.bind_eq_some_iff.mp g2
  obtain ⟨⟨n, kvs⟩, e3, g4⟩ := Option.bind_eq_some_iff.mp g3
  obtain ⟨k, e4, g5⟩ := Option.bind_eq_some_iff.mp g4
  dsimp only at g5
  split at g5
  · rename_i hl
    cases g5
    refine hx A σ ρ S v.1 v.2 _ R E e0 fun y B0 N0 R0 r0 => ?_
    refine ho B0 σ ρ v.2 p.1 p.2 _ R0 (E.nxt N0) e1 fun d B N R1 r1 => ?_
    refine hi B σ ρ p.2 z.1 z.2 _ R1 (E.nxt (N0.trans N)) e2 fun kv B2 N2 R2 r2 => ?_
    obtain ⟨a, vs, rfl, _, ia, ea, pk⟩ := dctAt_run R2 (r1.nxt N2) e3
    obtain rfl := keyW_run r2 e4
    have hm : ∀ o u, B2.H a ≠ some (.frz o u) := fun o u z => by rw [ea] at z; cases z
    have NN := (N0.trans (N.trans N2)).trans (Nxt.set (o := .dK (putK vs k y)) ia hm)
    exact ⟨a, _, rfl, DPut.k ea (by rw [pk.length]; exact hl), q (B2.put a _) σ NN (R2.set ia hm ⟨_, upd_same, (pk.put (r0.nxt (N.trans N2))).nxt (.set ia hm)⟩) (E.nxt NN)⟩
  · cases g5
end
section
variable {K : PySem.W.Frag} {tb : List Addr}
theorem hide {B : Wd} {D : Addr} {S : Mem} (R : Rep K tb B S) (hD : B.H D = none) (o : HO) : Nxt tb B { H := upd B.H D o, ι := B.ι, hid := D :: B.hid } ∧ Rep K tb { H := upd B.H D o, ι := B.ι, hid := D :: B.hid } S := by
  have nD := R.fresh hD
  have N1 : Nxt tb B { H := upd B.H D o, ι := B.ι, hid := D :: B.hid } :=
    ⟨fun b z => List.mem_cons_of_mem _ z, fun b z => (List.mem_cons.mp z).elim (fun z => .inr (by rw [z]; exact hD)) .inl, fun b z => upd_none z, ⟨[], by show B.ι = _; simp⟩, fun b u n t e => ⟨by show upd B.H D o b = _; rw [upd_ne (ne_of_none e hD)]; exact e, n⟩, fun b o' u _ e => by show upd B.H D o b = _; rw [upd_ne (ne_of_none e hD)]; exact e⟩
  have R2 := R.put hD o
  refine ⟨N1, R2.len, R2.nd, R2.tabs, fun b hb => ?_, fun n a ob z1 z2 => ?_⟩
  · rcases List.mem_cons.mp hb with z | z
    · subst z; exact ⟨⟨_, upd_same⟩, fun z => nD (.inl z), fun z => nD (.inr (.inl z))⟩
    · exact R2.hd b z
  · have q := R.at_ n a ob z1 z2
    obtain ⟨oo, eo, _⟩ := q.some
    exact q.nxt N1 (by show upd B.H D o a = _; rw [upd_ne (ne_of_none eo hD)])
theorem unhide {B C : Wd} {D : Addr} {S0 S : Mem} {ob : Ob} (R0 : Rep K tb B S0) (hn : B.H D = none) (N : Nxt tb B C) (hD : D ∈ C.hid) (R : Rep K tb C S) (hob : OR K tb C ob D) :
    Nxt tb B { H := C.H, ι := C.ι ++ [D], hid := B.hid } ∧ Rep K tb { H := C.H, ι := C.ι ++ [D], hid := B.hid } (S ++ [ob]) ∧ (C.ι ++ [D])[S.length]? = some D := by
  obtain ⟨_, h2, h3⟩ := R.hd D hD
  have key : ∀ (a : Addr) (u : HO), Fz tb C a u → Fz tb { H := C.H, ι := C.ι ++ [D], hid := B.hid } a u := fun a u z => ⟨fun m => z.1 (by
    rcases m with m | m | m
    · rcases List.mem_append.mp m with m | m
      · exact .inl m
      · rw [List.mem_singleton.mp m]; exact .inr (.inr hD)
    · exact .inr (.inl m)
    · exact .inr (.inr (N.hid a m))), z.2⟩
  have hι : ∀ (n : Nat) a, C.ι[n]? = some a → (C.ι ++ [D])[n]? = some a := fun n a z => by
    rw [List.getElem?_append_left (List.getElem?_eq_some_iff.mp z).1]; exact z
  refine ⟨⟨fun _ z => z, fun _ z => .inl z, N.more, ?_, fun b o n t eb => ?_, N.frz⟩, ⟨by show (C.ι ++ [D]).length = _; simp [R.len], ?_, R.tabs, fun b hb => ?_, fun n a ob' z1 z2 => ?_⟩, by rw [← R.len]; simp⟩
  · obtain ⟨m, em⟩ := N.pre
    exact ⟨m ++ [D], by show C.ι ++ [D] = _; rw [em, List.append_assoc]⟩
  · obtain ⟨q1, q2⟩ := N.keep b o n t eb
    exact ⟨q1, fun z => (List.mem_append.mp z).elim q2 fun z => ne_of_none eb hn (List.mem_singleton.mp z)⟩
  · show (C.ι ++ [D]).Nodup
    rw [List.nodup_append]
    exact ⟨R.nd, by simp, fun a ha b hb eab => h2 (by rw [List.mem_singleton.mp hb] at eab; rw [← eab]; exact ha)⟩
  · obtain ⟨k1, k2, k3⟩ := R.hd b (N.hid b hb)
    refine ⟨k1, fun z => (List.mem_append.mp z).elim k2 fun z => ?_, k3⟩
    obtain ⟨⟨o, eo⟩, _⟩ := R0.hd b hb
    rw [List.mem_singleton.mp z, hn] at eo; cases eo
  · have z1 : (C.ι ++ [D])[n]? = some a := z1
    by_cases hl : n < C.ι.length
    · rw [List.getElem?_append_left hl] at z1
      rw [List.getElem?_append_left (by rw [← R.len]; exact hl)] at z2
      exact or_key key hι rfl (R.at_ n a ob' z1 z2)
    · rw [List.getElem?_append_right (by omega)] at z1
      rw [List.getElem?_append_right (by rw [← R.len]; omega)] at z2
      have hz : n - C.ι.length = 0 := by
        cases hh : n - C.ι.length with
        | zero => rfl
        | succ k => rw [hh] at z1; simp at z1
      rw [hz] at z1
      rw [← R.len, hz] at z2
      simp at z1 z2
      subst z1 z2
      exact or_key key hι rfl hob
noncomputable abbrev MPs := Env' → Mem → Option (KW × Mem)
noncomputable def pNil : MPs := fun _ S => some ([], S)
noncomputable def pCons (k v : ME) (r : MPs) : MPs := fun ρ S => (k ρ S).bind fun p => (keyW p.1).bind fun key => (v ρ p.2).bind fun z => (r ρ z.2).bind fun t => some ((key, z.1) :: t.1, t.2)
noncomputable def mergeD (kvs more : KW) : KW := more.foldl (fun acc kv => putD acc kv.1 kv.2) kvs
noncomputable def eDisp (mp : MPs) : ME := fun ρ S => (mp ρ S).bind fun r => if r.1.length ≤ 15 then some (.loc r.2.length, r.2 ++ [.dct (mergeD [] r.1)]) else none
noncomputable def dcM (im : Itm) (g : MG) (t : MT) (k v : ME) : Nat → Nat → Env' → KW → Mem → Option (KW × Mem)
  | f, i, ρ, acc, S => match im.at_ S i with
    | none => none
    | some none => some (acc, S)
    | some (some w) => match f with
      | 0 => none
      | f + 1 => (g w ρ S).bind fun p => (t p.1 p.2).bind fun q => if q.1 = true then (k p.1 q.2).bind fun r => (keyW r.1).bind fun key => (v p.1 r.2).bind fun z => if acc.length < sizeLine then dcM im g t k v f (i + 1) ρ (putD acc key z.1) z.2 else none
        else dcM im g t k v f (i + 1) ρ acc q.2
noncomputable def eDc (mi : MI) (vs : List Nat) (g : MG) (t : MT) (k v : ME) : ME := fun ρ S => (mi ρ S).bind fun p => (dcM p.1 g t k v (p.1.len p.2) 0 (wipeE ρ vs) [] p.2).bind fun q => some (.loc q.2.length, q.2 ++ [.dct q.1])
theorem se_dc {wi : TI} {mg' : TG} {tt : TT} {tk tv : TE} {vs us : List Nat} {mi : MI} {mg : MG} {mt : MT} {mk mv : ME} (hi : SI K tb wi mi) (hg : SG K tb us mg' mg) (hsub : ∀ j, j ∈ us → j ∈ vs) (ht : ST K tb tt mt) (hk : SE K tb tk mk) (hv : SE K tb tv mv) :
    SE K tb (tDc wi mg' tt tk tv vs) (eDc mi vs mg mt mk mv) := fun A σ ρ S w S' Q R E e q => by
  obtain ⟨⟨im, S1⟩, e1, g1⟩ := Option.bind_eq_some_iff.mp e
  obtain ⟨⟨zs, S2⟩, e2, g2⟩ := Option.bind_eq_some_iff.mp g1
  cases g2
  refine hi A σ ρ S im S1 _ R E e1 fun J B N R1 ok D hD => ?_
  obtain ⟨N1, RB⟩ := hide R1 hD (.dK [])
  have EB := wipeE_er (E.nxt N) vs
  refine ⟨fun i m H => ∃ C acc ws S3, C.H = H ∧ Nxt tb B C ∧ D ∈ C.hid ∧ C.H D = some (.dK acc) ∧ Rep K tb C S3 ∧ PK' K tb C acc ws ∧ dcM im mg mt mk mv m i (wipeE ρ vs) ws S3 = some (zs, S2),
    ⟨_, _, [], [], S1, rfl, N1, List.mem_cons_self, upd_same, RB, .nil, e2⟩, ?_⟩
  rintro i m _ ⟨C, acc, ws, S3, rfl, N3, hDC, eD, R3, racc, e4⟩
  unfold dcM at e4
  split at e4
  · cases e4
  · rename_i ha
    cases e4
    obtain ⟨us', hu, hz'⟩ := Itm.at_now ha
    obtain ⟨N4, R4, i4⟩ := unhide (ob := .dct zs) R1 hD N3 hDC R3 ⟨_, eD, racc⟩
    exact .inl ⟨(ok C _ us' N3.w R3 hu).2 i (List.getElem?_eq_none_iff.mp hz'.symm), q (.ref D) { H := C.H, ι := C.ι ++ [D], hid := B.hid } (N.trans N4) R4 ⟨D, rfl, i4⟩⟩
  · rename_i w1 ha
    obtain ⟨us', hu, hz'⟩ := Itm.at_now ha
    obtain ⟨go, yl⟩ := (ok C S3 us' N3.w R3 hu).1 i w1 hz'.symm
    cases m with
    | zero => cases e4
    | succ m =>
      obtain ⟨⟨ρ5, S5⟩, e5, e4⟩ := Option.bind_eq_some_iff.mp e4
      obtain ⟨⟨k6, S6⟩, e6, e4⟩ := Option.bind_eq_some_iff.mp e4
      refine .inr ⟨go, fun H' => ∃ C acc ws S3, C.H = H' ∧ Nxt tb B C ∧ D ∈ C.hid ∧ C.H D = some (.dK acc) ∧ Rep K tb C S3 ∧ PK' K tb C acc ws ∧ dcM im mg mt mk mv m (i + 1) (wipeE ρ vs) ws S3 = some (zs, S2), fun H' h => ⟨m, Nat.lt_succ_self m, h⟩, fun x H2 y => ?_⟩
      obtain ⟨C2, rfl, N4, R4, r4⟩ := yl x H2 y
      have EC : ER K tb C2 (wipe σ vs) (wipeE ρ vs) := EB.nxt (N3.trans N4)
      refine hg C2 x w1 _ _ S3 ρ5 S5 _ R4 EC r4 e5 fun C3 σ3 N5 R5 E5 hl5 hj5 => ⟨wipe_wipe hl5 fun j hj => hj5 j fun z => hj (hsub j z), ?_⟩
      refine ht C3 σ3 ρ5 S5 k6 S6 _ R5 E5 e6 fun C4 N6 R6 => ?_
      have NC := N4.trans (N5.trans N6)
      cases k6 with
      | false =>
        simp only [Bool.false_eq_true, if_false] at e4 ⊢
        exact ⟨C4, acc, ws, S6, rfl, N3.trans NC, NC.hid D hDC, NC.hidden R3 hDC eD, R6, racc.nxt NC, e4⟩
      | true =>
        simp only [if_true] at e4 ⊢
        obtain ⟨⟨r7, S7⟩, e7, e4⟩ := Option.bind_eq_some_iff.mp e4
        obtain ⟨key, e8, e4⟩ := Option.bind_eq_some_iff.mp e4
        obtain ⟨⟨r9, S9⟩, e9, e4⟩ := Option.bind_eq_some_iff.mp e4
        dsimp only at e4 e8 e9
        split at e4
        · rename_i hsz
          refine hk C4 σ3 ρ5 S6 r7 S7 _ R6 (E5.nxt N6) e7 fun ky C5 N7 R7 rk => ?_
          obtain rfl := keyW_run rk e8
          refine hv C5 σ3 ρ5 S7 r9 S9 _ R7 (E5.nxt (N6.trans N7)) e9 fun z C6 N8 R8 rz => ?_
          have NC2 := NC.trans (N7.trans N8)
          have eD6 := NC2.hidden R3 hDC eD
          have hD6 := NC2.hid D hDC
          have pk6 := racc.nxt NC2
          refine ⟨acc, key, rfl, eD6, by rw [racc.length]; exact hsz, C6.hset D _, _, _, S9, rfl, nxt_hset (N3.trans NC2) hD, hD6, upd_same, R8.hset hD6, ?_, e4⟩
          exact Paired.mapP (pk6.put rz) fun _ _ z => ⟨z.1, wr_key (hset_key hD6) (fun _ _ z => z) z.2⟩
        · cases e4
noncomputable def iRevM (e : ME) : MI := fun ρ S => (e ρ S).bind fun p => match p.1 with
  | .d (.list ds) => some (.vals (ds.reverse.map .d), p.2)
  | .d (.tuple ds) => some (.vals (ds.reverse.map .d), p.2)
  | .loc n => match p.2[n]? with
    | some (.lst ws) => some (.rev n ws.length, p.2)
    | _ => none
  | _ => none
theorem rev_at {α : Type} {xs : List α} {i : Nat} : xs.reverse[i]? = if i < xs.length then xs[xs.length - 1 - i]? else none := by
  by_cases h : i < xs.length
  · rw [if_pos h, List.getElem?_reverse h]
  · rw [if_neg h, List.getElem?_eq_none_iff.mpr (by simp; omega)]
theorem WRs.get2 {A : Wd} {vs : List V} {ws : List W} {i : Nat} {v : V} (r : WRs K tb A vs ws) (e : vs[i]? = some v) : ∃ w, ws[i]? = some w ∧ WR K tb A v w := by
  have hl := WRs.length r
  have hi : i < ws.length := by rw [← hl]; exact (List.getElem?_eq_some_iff.mp e).1
  obtain ⟨v', e2, r2⟩ := WRs.get' r (List.getElem?_eq_getElem hi)
  rw [e] at e2; cases e2
  exact ⟨_, List.getElem?_eq_getElem hi, r2⟩
theorem si_rev {te : TE} {e : ME} (he : SE K tb te e) : SI K tb (RT.iRevA K te) (iRevM e) := fun A σ ρ S im S' R' R E h q => by
  obtain ⟨⟨w, S1⟩, e1, g1⟩ := Option.bind_eq_some_iff.mp h
  refine he A σ ρ S w S1 _ R E e1 fun v B N R1 r => ?_
  dsimp only at g1
  split at g1
  · cases g1
    obtain ⟨a, xs, rfl, f, rd⟩ := r.lst
    refine ⟨a, xs, rfl, .inl ⟨f.sq, q _ B N R1 fun C S2 ws NC RC e => ?_⟩⟩
    cases e
    have f' : SqL K C.H a xs := (f.nxw NC).sq
    have hl := rd.length
    refine ⟨fun i w hw => ?_, fun i hi => by simp at hi; show xs.length ≤ i; omega⟩
    rw [List.getElem?_map, rev_at] at hw
    split at hw
    · rename_i hi
      obtain ⟨d, e2, rfl⟩ := Option.map_eq_some_iff.mp hw
      obtain ⟨x, e3, r3⟩ := rd.get' e2
      rw [← hl] at e3
      refine ⟨⟨by omega, xs, x, f', e3⟩, fun y H2 ⟨eH, z⟩ => ?_⟩
      have := z xs f'
      rw [e3] at this; cases this
      subst eH
      exact ⟨C, rfl, .refl, RC, DR.nxw NC d r3⟩
    · cases hw
  · cases g1
    obtain ⟨a, xs, rfl, f, rd⟩ := r.tup
    refine ⟨a, xs, rfl, .inr ⟨f.sq, q _ B N R1 fun C S2 ws NC RC e => ?_⟩⟩
    cases e
    have f' := (f.nxw NC).sq
    have hl := rd.length
    refine ⟨fun i w hw => ?_, fun i hi => by simp at hi; show xs.length ≤ i; omega⟩
    rw [List.getElem?_map, rev_at] at hw
    split at hw
    · rename_i hi
      obtain ⟨d, e2, rfl⟩ := Option.map_eq_some_iff.mp hw
      obtain ⟨x, e3, r3⟩ := rd.get' e2
      rw [← hl] at e3
      refine ⟨⟨by omega, xs, x, f', e3⟩, fun y H2 ⟨eH, z⟩ => ?_⟩
      have := z xs f'
      rw [e3] at this; cases this
      subst eH
      exact ⟨C, rfl, .refl, RC, DR.nxw NC d r3⟩
    · cases hw
  · rename_i n
    split at g1
    · rename_i us0 eS
      cases g1
      obtain ⟨a, rfl, ia⟩ := r
      obtain ⟨ob, eo, oR⟩ := R1.get ia
      rw [eS] at eo; cases eo
      obtain ⟨vs, ea, rv⟩ := oR
      refine ⟨a, vs, rfl, .inl ⟨.inl (.inl ea), q _ B N R1 fun C S2 ws NC RC e => ?_⟩⟩
      obtain ⟨us, e5, hl5, rfl⟩ := e
      obtain ⟨ob2, eo2, oR2⟩ := RC.get (NC.ix ia)
      rw [e5] at eo2; cases eo2
      obtain ⟨vs2, ea2, rv2⟩ := oR2
      have l1 := WRs.length rv
      have l2 := WRs.length rv2
      have sq2 : SqL K C.H a vs2 := .inl (.inl ea2)
      refine ⟨fun i w hw => ?_, fun i hi => by simp at hi; show vs.length ≤ i; omega⟩
      rw [rev_at] at hw
      split at hw
      · rename_i hi
        have hx : us.length - 1 - i < vs2.length := by omega
        have e3 := List.getElem?_eq_getElem hx
        obtain ⟨w', e6, r6⟩ := WRs.get2 rv2 e3
        rw [hw] at e6; cases e6
        have e7 : vs2[vs.length - 1 - i]? = some vs2[us.length - 1 - i] := by rw [show vs.length - 1 - i = us.length - 1 - i by omega]; exact e3
        refine ⟨⟨by omega, vs2, _, sq2, e7⟩, fun y H2 ⟨eH, z⟩ => ?_⟩
        have := z vs2 sq2
        rw [e7] at this; cases this
        subst eH
        exact ⟨C, rfl, .refl, RC, r6⟩
      · cases hw
    · cases g1
  · cases g1
noncomputable def eCallKw (f : MF) (pm : List W → List W → List W) (a k : MA) : ME := fun ρ S => (a ρ S).bind fun p => (k ρ p.2).bind fun z => f (pm p.1 z.1) z.2
theorem se_callkw {n : Nat} {f : MF} {t tk : TA} {a k : MA} {E : XK} {gV : List V → List V → List V} {pm : List W → List W → List W} (h : Ar n f) (hp : ∀ (A : Wd) vs us zs ws, WRs K tb A vs us → WRs K tb A zs ws → WRs K tb A (gV vs zs) (pm us ws)) (ha : SA K tb t a) (hk : SA K tb tk k) :
    SE K tb (tCallK (spD K tb n f) gV E t tk) (eCallKw f pm a k) := fun A σ ρ S w S' Q R Er e q => by
  obtain ⟨p, e1, g1⟩ := Option.bind_eq_some_iff.mp e
  obtain ⟨z, e2, g2⟩ := Option.bind_eq_some_iff.mp g1
  refine ha A σ ρ S p.1 p.2 _ R Er e1 fun vs B N R1 r1 => ?_
  refine hk B σ ρ p.2 z.1 z.2 _ R1 (Er.nxt N) e2 fun zs B2 N2 R2 r2 => ?_
  have rr := hp B2 _ _ _ _ (r1.nxt N2) r2
  exact ⟨by rw [WRs.length rr]; exact h _ _ _ g2, B2, _, _, w, S', rfl, rr, R2, g2, q.nxt (N.trans N2)⟩
noncomputable def isK : W → Bool → Option Bool
  | .d (.int _), false => some true
  | .d (.int _), true => some false
  | .d (.bool _), false => some true
  | .d (.bool _), true => some true
  | .d (.str _), _ => some false
  | _, _ => none
noncomputable def tyN : Bool → String
  | false => "int"
  | true => "bool"
noncomputable def eIs (T : Bool) (o : ME) : ME := fun ρ S => (o ρ S).bind fun p => (isK p.1 T).map fun b => (.d (.bool b), p.2)
theorem kit1 : kitB "int" "int" = some true := by decide +kernel
theorem kit2 : kitB "int" "bool" = some false := by decide +kernel
theorem kit3 : kitB "bool" "int" = some true := by decide +kernel
theorem kit4 : kitB "bool" "bool" = some true := by decide +kernel
theorem kit5 : kitB "str" "int" = some false := by decide +kernel
theorem kit6 : kitB "str" "bool" = some false := by decide +kernel
theorem isK_run {A : Wd} {v : V} {w : W} {T b : Bool} (r : WR K tb A v w) (h : isK w T = some b) : ∃ t, TyX K A.H v t ∧ PySem.W.kitOne K t (.type (tyN T)) = some b := by
  unfold isK at h
  split at h
  · cases h; obtain rfl := WR.int r; exact ⟨_, .base (.int _), kit_ty kit1⟩
  · cases h; obtain rfl := WR.int r; exact ⟨_, .base (.int _), kit_ty kit2⟩
  · cases h; obtain rfl := WR.bl r; exact ⟨_, .base (.bl _), kit_ty kit3⟩
  · cases h; obtain rfl := WR.bl r; exact ⟨_, .base (.bl _), kit_ty kit4⟩
  · cases h
    obtain rfl := WR.str r
    cases T
    · exact ⟨_, .base (.str _), kit_ty kit5⟩
    · exact ⟨_, .base (.str _), kit_ty kit6⟩
  · cases h
theorem se_is {T : Bool} {te : TE} {o : ME} (ho : SE K tb te o) : SE K tb (tCB (rIsi K) (tCons te (tCons (tC (.ty (tyN T))) tNil))) (eIs T o) := fun A σ ρ S w S' Q R E e q => by
  obtain ⟨p, e1, g1⟩ := Option.bind_eq_some_iff.mp e
  obtain ⟨b, e2, e3⟩ := Option.map_eq_some_iff.mp g1
  cases e3
  refine ho A σ ρ S p.1 p.2 _ R E e1 fun x B N R1 r1 => ?_
  obtain ⟨t, ht, hk⟩ := isK_run r1 e2
  exact ⟨x, _, t, _, b, rfl, .ty _, ht, hk, q _ B N R1 (DR.bl b)⟩
end
section
variable {X : Cx} {K : PySem.W.Frag}
theorem pe_fldK {e : Expr} {f : Str} {pos : Pos} {ta : TE} (hK : X.K = K) (he : PE X e ta) (hb : attributeBase e f X.env (eval e X.env) = eval e X.env) : PE X (.Attribute e f pos) (tFld K ta f) := by subst hK; exact pe_fld he hb
theorem ps_fldK {o value : Expr} {f : Str} {pos pos' : Pos} {ta tv : TE} (hK : X.K = K) (ha : PE X o ta) (hv : PE X value tv) (hs : swapsWith value (some (.Attribute o f pos')) pos.line X.env = pure false) : PS X (.Assign [.Attribute o f pos'] value pos) (sFld K ta tv f) := by subst hK; exact ps_fld ha hv hs
theorem ps_fldaugK {o value : Expr} {f : Str} {pos tpos : Pos} {ta tv : TE} (hK : X.K = K) (ha : PE X o ta) (hv : PE X value tv) : PS X (.AugAssign (.Attribute o f tpos) .Add value pos) (sFldAug K ta tv rAdd f) := by subst hK; exact ps_fldaug ha hv in_add
theorem pi_revK {tg e : Expr} {te : TE} {p pos : Pos} (hK : X.K = K) (hg : Gl X "reversed") (hm : X.mg "reversed" = none) (he : PE X e te) (hs : starEach [e] X.env = (false, eval e X.env) :: starEach [] X.env := by rfl) : PI X tg (.Call (.Name "reversed" p) [e] [] pos) (RT.iRevA K te) := by
  subst hK; exact RT.pi_revA hg hm he hs
theorem cr_isiK (hK : X.K = K) : CallR X (.builtin "isinstance") (rIsi K) := by subst hK; exact call_isi
noncomputable def EqDa (K : PySem.W.Frag) (H : Hp) (x y : V) : Prop := ∃ d, Dp K H x d ∧ Dp K H y d ∧ d.canLay0 = true ∧ d.depth ≤ 30
noncomputable abbrev rEqDct (K : PySem.W.Frag) : R2 := fun x y H Q => EqR K H (EqDa K H) x y ∧ Q (.bl true) H
theorem op_eqDct (hK : X.K = K) (hu : X.A.units + 64 < cLine) : OpR X (compareOp .Eq) (rEqDct K) := by
  subst hK
  rintro pins s σ H x y v u Q I rx ry ⟨h, q⟩
  refine eqR_run I (A := X.A) (Nat.lt_of_le_of_lt (Nat.le_add_right _ _) hu) (fun a b v' u' ⟨d, hx, hy, hl, hd⟩ ra rb E Q' q' => ?_) h rx ry _ _ ⟨.bl true, H, I, rfl, q⟩
  obtain ⟨as, r1⟩ := Dp.reads I d a v' hx ra
  obtain ⟨bs, r2⟩ := Dp.reads I d b u' hy rb
  refine SeqAt.eqBoolOverData X.prog X.w X.A.in1 E s v' u' d d as bs Q' r1 r2 hl hl ?_ (by rw [SeqAt.eqv_refl d hl]; exact q')
  show X.A.units + 1 + min d.depth d.depth < cLine
  rw [Nat.min_self]
  omega
end
section
variable {K : PySem.W.Frag} {tb : List Addr}
noncomputable def SameD (ks ls : KW) : Prop := ks.length = ls.length ∧ ∀ p ∈ ks, ∃ x, p.2 = .d x ∧ valW ls p.1 = some (.d x) ∧ x.canLay0 = true ∧ x.depth ≤ 30
open Classical in
noncomputable def oEqDct : F2 := fun a b S => (dctAt a S).bind fun p => (dctAt b S).bind fun q => if SameD p.2 q.2 then some (.d (.bool true), S) else none
theorem sr_eqDct : SR K tb (rEqDct K) oEqDct := fun A x y a b S w S' Q R ra rb e q => by
  obtain ⟨⟨n, ks⟩, e1, g1⟩ := Option.bind_eq_some_iff.mp e
  obtain ⟨⟨m, ls⟩, e2, g2⟩ := Option.bind_eq_some_iff.mp g1
  dsimp only at g2
  split at g2
  · rename_i hs
    cases g2
    obtain ⟨a1, vs, rfl, _, ia, ea, pk⟩ := dctAt_run R ra e1
    obtain ⟨b1, us, rfl, _, ib, eb, pl⟩ := dctAt_run R rb e2
    obtain ⟨hl, hs⟩ := hs
    refine ⟨.inr ⟨a1, b1, vs, us, rfl, rfl, ea, eb, by rw [pk.length, pl.length]; exact hl, fun p hp => ?_⟩, q _ A .refl R (DR.bl true)⟩
    have mem : ∀ {l : List (Key × V)} {m : KW}, PK' K tb A l m → ∀ p ∈ l, ∃ p' ∈ m, p.1 = p'.1 ∧ WR K tb A p.2 p'.2 := by
      intro l m z
      induction z with
      | nil => intro p hp; cases hp
      | cons h _ ih =>
        intro p hp
        rcases List.mem_cons.mp hp with rfl | hp
        · exact ⟨_, List.mem_cons_self, h⟩
        · obtain ⟨p', hm, r⟩ := ih p hp
          exact ⟨p', List.mem_cons_of_mem _ hm, r⟩
    obtain ⟨p', hm, h1, h2⟩ := mem pk p hp
    obtain ⟨d, hd, hv, hc, hdp⟩ := hs p' hm
    obtain ⟨v, hv2, rv⟩ := (pl.val p'.1).1 _ hv
    rw [hd] at h2
    exact ⟨v, by rw [h1]; exact hv2, d, DR.dp d h2 hc, DR.dp d rv hc, hc, hdp⟩
  · cases g2
end
noncomputable def g12 {α : Type} : List α → List α → List α
  | [u], [v, w] => [u, v, w]
  | _, _ => []
theorem g12_len {α : Type} {us ws : List α} (h : (g12 us ws).length = 3) : ∃ u v w, us = [u] ∧ ws = [v, w] := by
  unfold g12 at h
  split at h
  · exact ⟨_, _, _, rfl, rfl⟩
  · cases h
theorem g12_rel {α β : Type} {R : α → β → Prop} {vs zs : List α} {us ws : List β} (h : Paired R vs us) (g : Paired R zs ws) : Paired R (g12 vs zs) (g12 us ws) := by
  cases h with
  | nil => exact .nil
  | cons a t =>
    cases t with
    | cons _ _ => exact .nil
    | nil =>
      cases g with
      | nil => exact .nil
      | cons b t =>
        cases t with
        | nil => exact .nil
        | cons c t =>
          cases t with
          | nil => exact .cons a (.cons b (.cons c .nil))
          | cons _ _ => exact .nil
structure DfM (K : PySem.W.Frag) (C : Addr) (x qual : Str) (st : Stmt) (ps : List Str) where
  f : Addr
  fd : FuncData
  c : Addr
  F : FunC K x qual st f fd c
  m : Meth K C x f
  b : Binds K fd ps []
structure DfK (K : PySem.W.Frag) (mg : Str → Option Value) (x : Str) (st : Stmt) (ps ks : List Str) where
  f : Addr
  fd : FuncData
  c : Addr
  F : FunC K x x st f fd c
  g : mg x = some (.ref f)
  b : KBinds K fd ps ks g12 g12
section
variable {K : PySem.W.Frag} {tb : List Addr}
noncomputable def mInsert : MM := fun a ws S => match ws with
  | [.d (.int i), w] => (lstAt a S).bind fun p => if decide (p.2.length < sizeLine ∧ 0 ≤ i ∧ i < 2 ^ 63) = true then some (.d .none, S.set p.1 (.lst (p.2.take i.toNat ++ [w] ++ p.2.drop i.toNat))) else none
  | _ => none
noncomputable def eIxC (tbl : List (Str × PyData)) (i : ME) : ME := fun ρ S => (i ρ S).bind fun p => match p.1 with
  | .d (.str z) => (tbl.lookup z).map fun d => (.d d, p.2)
  | _ => none
theorem se_ixC {w : World} {a : Addr} {tbl : List (Str × PyData)} {ti : TE} {i : ME} (h : ∀ z d, tbl.lookup z = some d → ∃ v, KDct K w a z v ∧ ∀ A, DR K tb A v d) (hi : SE K tb ti i) : SE K tb (tOp (rIxD K w) (tC (.ref a)) ti) (eIxC tbl i) := fun A σ ρ S wv S' Q R E e q => by
  obtain ⟨⟨x, S1⟩, e1, g1⟩ := Option.bind_eq_some_iff.mp e
  dsimp only at g1
  split at g1
  · rename_i z
    obtain ⟨d, e2, e3⟩ := Option.map_eq_some_iff.mp g1
    cases e3
    refine hi A σ ρ S _ _ _ R E e1 fun y B N R1 r1 => ?_
    obtain rfl := WR.str r1
    obtain ⟨v, hk, hd⟩ := h z d e2
    exact ⟨a, z, v, rfl, rfl, hk, q v B N R1 (hd B)⟩
  · cases g1
end
noncomputable def isT : W → Option Bool
  | .d (.tuple _) => some true
  | .d (.int _) => some false
  | .d (.bool _) => some false
  | .d (.str _) => some false
  | .d .none => some false
  | _ => none
theorem kitT1 : kitB "tuple" "tuple" = some true := by decide +kernel
theorem kitT2 : kitB "int" "tuple" = some false := by decide +kernel
theorem kitT3 : kitB "bool" "tuple" = some false := by decide +kernel
theorem kitT4 : kitB "str" "tuple" = some false := by decide +kernel
theorem kitT5 : kitB "NoneType" "tuple" = some false := by decide +kernel
theorem isT_run {K : PySem.W.Frag} {tb : List Addr} {A : Wd} {v : V} {w : W} {b : Bool} (r : WR K tb A v w) (h : isT w = some b) : ∃ t, TyX K A.H v t ∧ PySem.W.kitOne K t (.type "tuple") = some b := by
  unfold isT at h
  split at h
  · cases h
    obtain ⟨a, xs, rfl, f, _⟩ := WR.tup r
    rcases f.sq with (e | ⟨o, e⟩) | ⟨o, its, n, hl, hc, _⟩
    · exact ⟨_, .base (.tup e), kit_ty kitT1⟩
    · exact ⟨_, .fTuple e, kit_ty kitT1⟩
    · exact ⟨_, .kTuple hl hc, kit_ty kitT1⟩
  · cases h; obtain rfl := WR.int r; exact ⟨_, .base (.int _), kit_ty kitT2⟩
  · cases h; obtain rfl := WR.bl r; exact ⟨_, .base (.bl _), kit_ty kitT3⟩
  · cases h; obtain rfl := WR.str r; exact ⟨_, .base (.str _), kit_ty kitT4⟩
  · cases h; obtain rfl := WR.non r; exact ⟨_, .base .non, kit_ty kitT5⟩
  · cases h
noncomputable def eIsT (o : ME) : ME := fun ρ S => (o ρ S).bind fun p => (isT p.1).map fun b => (.d (.bool b), p.2)
theorem se_isT {K : PySem.W.Frag} {tb : List Addr} {te : TE} {o : ME} (ho : SE K tb te o) : SE K tb (tCB (rIsi K) (tCons te (tCons (tC (.ty "tuple")) tNil))) (eIsT o) := fun A σ ρ S w S' Q R E e q => by
  obtain ⟨p, e1, g1⟩ := Option.bind_eq_some_iff.mp e
  obtain ⟨b, e2, e3⟩ := Option.map_eq_some_iff.mp g1
  cases e3
  refine ho A σ ρ S p.1 p.2 _ R E e1 fun x B N R1 r1 => ?_
  obtain ⟨t, ht, hk⟩ := isT_run r1 e2
  exact ⟨x, _, t, _, b, rfl, .ty _, ht, hk, q _ B N R1 (DR.bl b)⟩
noncomputable def isSt : W → Option Bool
  | .d (.str _) => some true
  | .d (.int _) => some false
  | .d (.bool _) => some false
  | .d (.tuple _) => some false
  | _ => none
noncomputable def eIsS (o : ME) : ME := fun ρ S => (o ρ S).bind fun p => (isSt p.1).map fun b => (.d (.bool b), p.2)
noncomputable def eIsL (o : ME) : ME := fun ρ S => (o ρ S).bind fun p => (lstAt p.1 p.2).map fun _ => (.d (.bool true), p.2)
noncomputable def oPow : F2 := oI fun i j => if decide (0 ≤ j ∧ j ≤ 1000000 ∧ i.natAbs < 2 ^ 64) = true then some (.int (i ^ j.toNat)) else none
theorem ix_kdictK {X : Cx} {K : PySem.W.Frag} {w : World} (hK : X.K = K) (hw : X.w = w) : IxR X (rIxD K w) := by subst hK; subst hw; exact ix_kdict
noncomputable def Ok {α : Type} (o : Option α) (Q : α → Prop) : Prop := ∃ x, o = some x ∧ Q x
theorem Ok.mono {α : Type} {o : Option α} {Q R : α → Prop} (h : Ok o Q) (q : ∀ x, Q x → R x) : Ok o R := by
  obtain ⟨x, e, hx⟩ := h
  exact ⟨x, e, q x hx⟩
theorem k_some {α : Type} {x : α} {Q : α → Prop} : Ok (some x) Q ↔ Q x := ⟨fun ⟨_, e, h⟩ => by cases e; exact h, fun h => ⟨x, rfl, h⟩⟩
theorem k_none {α : Type} {Q : α → Prop} : Ok none Q ↔ False := ⟨fun h => (by obtain ⟨_, e, _⟩ := h; cases e), False.elim⟩
theorem k_bind {α β : Type} {o : Option α} {f : α → Option β} {Q : β → Prop} : Ok (o.bind f) Q ↔ Ok o fun x => Ok (f x) Q :=
  ⟨fun ⟨y, e, h⟩ => by obtain ⟨x, e1, e2⟩ := Option.bind_eq_some_iff.mp e; exact ⟨x, e1, y, e2, h⟩, fun ⟨x, e1, y, e2, h⟩ => ⟨y, by rw [e1]; exact e2, h⟩⟩
theorem k_map {α β : Type} {o : Option α} {f : α → β} {Q : β → Prop} : Ok (o.map f) Q ↔ Ok o fun x => Q (f x) :=
  ⟨fun ⟨y, e, h⟩ => by obtain ⟨x, e1, e2⟩ := Option.map_eq_some_iff.mp e; cases e2; exact ⟨x, e1, h⟩, fun ⟨x, e1, h⟩ => ⟨f x, by rw [e1]; rfl, h⟩⟩
theorem k_if {α : Type} {c : Prop} [Decidable c] {o : Option α} {Q : α → Prop} : Ok (if c then o else none) Q ↔ c ∧ Ok o Q := by
  by_cases h : c
  · simp [h]
  · simp [h, k_none]
theorem bind_fr {α β : Type} {o : Option α} {f : α → Option β} {Q : β → Prop} {R : α → Prop} (h : ∀ x, R x ↔ Ok (f x) Q) : Ok (o.bind f) Q ↔ Ok o R := by
  rw [k_bind]
  exact ⟨fun z => z.mono fun x y => (h x).mpr y, fun z => z.mono fun x y => (h x).mp y⟩
theorem bind2 {α β : Type} {o : Option α} {f : α → Option β} {Q : β → Prop} {p : Prop} (R : α → Prop) (hp : p = Ok o R) (h : ∀ x, R x ↔ Ok (f x) Q) : p ↔ Ok (o.bind f) Q := by
  rw [hp]
  exact (bind_fr h).symm
theorem some2 {α : Type} (x : α) (Q : α → Prop) {p : Prop} (h : p = Q x) : p ↔ Ok (some x) Q := by rw [h]; exact k_some.symm
theorem none2 {α : Type} {Q : α → Prop} {p : Prop} (h : p = False) : p ↔ Ok none Q := by rw [h]; exact k_none.symm
noncomputable abbrev WM := W × Mem
noncomputable abbrev OR' := Out × Env' × Mem
section
variable {ρ : Env'} {S : Mem} {a b c e e1 e2 : ME} {s t u : MS} {m n : MA} {f : F2} {g : MG} {p q : MT} {Q : WM → Prop} {P : OR' → Prop} {B : Bool × Mem → Prop} {L : List W × Mem → Prop} {G : Env' × Mem → Prop}
noncomputable def Kseq (b : MS) (Q : OR' → Prop) (p : OR') : Prop := match p.1 with
  | .nx => Ok (b p.2.1 p.2.2) Q
  | _ => Q p
theorem k_seq : Ok (sSeq s t ρ S) P ↔ Ok (s ρ S) (Kseq t P) := bind_fr fun x => by
  obtain ⟨o, r⟩ := x
  cases o with
  | nx => exact Iff.rfl
  | bk => exact some2 _ _ rfl
  | ct => exact some2 _ _ rfl
  | rt w => exact some2 _ _ rfl
theorem k_seq_nx : Kseq t P (.nx, ρ, S) ↔ Ok (t ρ S) P := .rfl
theorem k_seq_rt {w : W} : Kseq t P (.rt w, ρ, S) ↔ P (.rt w, ρ, S) := .rfl
theorem k_seq_bk : Kseq t P (.bk, ρ, S) ↔ P (.bk, ρ, S) := .rfl
theorem k_seq_ct : Kseq t P (.ct, ρ, S) ↔ P (.ct, ρ, S) := .rfl
noncomputable def Kif (s t : MS) (ρ : Env') (P : OR' → Prop) (p : Bool × Mem) : Prop := match p.1 with
  | true => Ok (s ρ p.2) P
  | false => Ok (t ρ p.2) P
theorem k_sif : Ok (sIf p s t ρ S) P ↔ Ok (p ρ S) (Kif s t ρ P) := bind_fr fun x => by obtain ⟨k, S⟩ := x; cases k <;> exact Iff.rfl
theorem k_if_t : Kif s t ρ P (true, S) ↔ Ok (s ρ S) P := .rfl
theorem k_if_f : Kif s t ρ P (false, S) ↔ Ok (t ρ S) P := .rfl
noncomputable def Kret (ρ : Env') (P : OR' → Prop) (p : WM) : Prop := P (.rt p.1, ρ, p.2)
theorem k_ret : Ok (sRet a ρ S) P ↔ Ok (a ρ S) (Kret ρ P) := bind_fr fun x => some2 _ _ rfl
theorem k_ret_ {w : W} : Kret ρ P (w, S) ↔ P (.rt w, ρ, S) := .rfl
noncomputable def Kdrop (ρ : Env') (P : OR' → Prop) (p : WM) : Prop := P (.nx, ρ, p.2)
theorem k_drop : Ok (sDrop a ρ S) P ↔ Ok (a ρ S) (Kdrop ρ P) := bind_fr fun x => some2 _ _ rfl
theorem k_drop_ {w : W} : Kdrop ρ P (w, S) ↔ P (.nx, ρ, S) := .rfl
noncomputable def Kst (P : OR' → Prop) (p : Env' × Mem) : Prop := P (.nx, p.1, p.2)
noncomputable def Kasg (g : MG) (ρ : Env') (P : OR' → Prop) (p : WM) : Prop := Ok (g p.1 ρ p.2) (Kst P)
theorem k_asg : Ok (sAsg a g ρ S) P ↔ Ok (a ρ S) (Kasg g ρ P) := bind_fr fun x => by
  exact bind2 (Kst P) rfl fun y => some2 _ _ rfl
theorem k_asg_ {w : W} : Kasg g ρ P (w, S) ↔ Ok (g w ρ S) (Kst P) := .rfl
theorem k_st_ : Kst P (ρ, S) ↔ P (.nx, ρ, S) := .rfl
theorem k_nx : Ok (sNx ρ S) P ↔ P (.nx, ρ, S) := k_some
theorem k_brk : Ok (sBrk ρ S) P ↔ P (.bk, ρ, S) := k_some
theorem k_ct : Ok (sCt ρ S) P ↔ P (.ct, ρ, S) := k_some
noncomputable def Kfor (g : MG) (s : MS) (ρ : Env') (P : OR' → Prop) (p : Itm × Mem) : Prop := Ok (forM p.1 g s (p.1.len p.2) 0 ρ p.2) P
theorem k_for {mi : MI} : Ok (sFor mi g s ρ S) P ↔ Ok (mi ρ S) (Kfor g s ρ P) := bind_fr fun x => Iff.rfl
theorem k_for_ {im : Itm} : Kfor g s ρ P (im, S) ↔ Ok (forM im g s (im.len S) 0 ρ S) P := .rfl
theorem k_gN {i : Nat} {w : W} : Ok (gN i w ρ S) G ↔ G (ρ.set i (some w), S) := k_some
theorem k_gTup {ms : MGs} {ds : List PyData} : Ok (gTup' ms (.d (.tuple ds)) ρ S) G ↔ Ok (ms ds ρ S) G := .rfl
noncomputable def Kgs (ms : MGs) (ds : List PyData) (G : Env' × Mem → Prop) (p : Env' × Mem) : Prop := Ok (ms ds p.1 p.2) G
theorem k_gsC {ms : MGs} {d : PyData} {ds : List PyData} : Ok (gsCons g ms (d :: ds) ρ S) G ↔ Ok (g (.d d) ρ S) (Kgs ms ds G) := bind_fr fun x => Iff.rfl
theorem k_gs_ {ms : MGs} {ds : List PyData} : Kgs ms ds G (ρ, S) ↔ Ok (ms ds ρ S) G := .rfl
theorem k_gsN : Ok (gsNil [] ρ S) G ↔ G (ρ, S) := k_some
noncomputable def Kgi2 (w o : W) (ρ : Env') (G : Env' × Mem → Prop) (p : WM) : Prop := Ok (match p.1 with
  | .d (.int k) => (lstAt o p.2).bind fun l => (ixN l.2.length k).bind fun j => some (ρ, p.2.set l.1 (.lst (l.2.set j w)))
  | _ => none) G
noncomputable def Kgi1 (w : W) (i : ME) (ρ : Env') (G : Env' × Mem → Prop) (p : WM) : Prop := Ok (i ρ p.2) (Kgi2 w p.1 ρ G)
theorem k_gIx {w : W} : Ok (gIx a b w ρ S) G ↔ Ok (a ρ S) (Kgi1 w b ρ G) := bind_fr fun x => bind2 _ rfl fun y => Iff.rfl
theorem k_gi1_ {w x : W} : Kgi1 w b ρ G (x, S) ↔ Ok (b ρ S) (Kgi2 w x ρ G) := .rfl
noncomputable def Kg4 (n : Nat) (ws : List W) (w : W) (S : Mem) (ρ : Env') (G : Env' × Mem → Prop) : Option Nat → Prop
  | some j => G (ρ, S.set n (.lst (ws.set j w)))
  | none => False
noncomputable def Kg3 (n : Nat) (k : Int) (w : W) (S : Mem) (ρ : Env') (G : Env' × Mem → Prop) : Option Ob → Prop
  | some (.lst ws) => Kg4 n ws w S ρ G (ixN ws.length k)
  | _ => False
theorem k_gi2_ {w : W} {k : Int} {l : Nat} : Kgi2 w (.loc l) ρ G (.d (.int k), S) ↔ Kg3 l k w S ρ G S[l]? := by
  unfold Kgi2 lstAt
  cases h : S[l]? with
  | none => simp only [h, Option.bind_none, k_none, Kg3]
  | some o => cases o with
    | lst ws =>
      simp only [h, Option.bind_some, Kg3]
      cases hj : ixN ws.length k with
      | none => simp only [hj, Option.bind_none, k_none, Kg4]
      | some j => simp only [hj, Option.bind_some, k_some, Kg4]
    | dct _ => simp only [h, Option.bind_none, k_none, Kg3]
    | ldct _ => simp only [h, Option.bind_none, k_none, Kg3]
    | dcn _ _ => simp only [h, Option.bind_none, k_none, Kg3]
    | ins _ _ => simp only [h, Option.bind_none, k_none, Kg3]
theorem k_g3_ {n : Nat} {k : Int} {w : W} {ws : List W} : Kg3 n k w S ρ G (some (.lst ws)) ↔ Kg4 n ws w S ρ G (ixN ws.length k) := .rfl
theorem k_g4_ {n j : Nat} {w : W} {ws : List W} : Kg4 n ws w S ρ G (some j) ↔ G (ρ, S.set n (.lst (ws.set j w))) := .rfl
noncomputable def KV (Q : WM → Prop) (S : Mem) : Option (Option W) → Prop
  | some (some w) => Q (w, S)
  | _ => False
theorem k_var {i : Nat} : Ok (eVar i ρ S) Q ↔ KV Q S ρ[i]? := by
  unfold eVar
  cases h : ρ[i]? with
  | none => exact k_none
  | some o => cases o with
    | none => exact k_none
    | some w => exact k_some
theorem k_V_ {w : W} : KV Q S (some (some w)) ↔ Q (w, S) := .rfl
theorem k_c {x : PyData} : Ok (eC x ρ S) Q ↔ Q (.d x, S) := k_some
noncomputable def Kop2 (f : F2) (x : W) (Q : WM → Prop) (p : WM) : Prop := Ok (f x p.1 p.2) Q
noncomputable def Kop1 (f : F2) (b : ME) (ρ : Env') (Q : WM → Prop) (p : WM) : Prop := Ok (b ρ p.2) (Kop2 f p.1 Q)
theorem k_op : Ok (eOp f a b ρ S) Q ↔ Ok (a ρ S) (Kop1 f b ρ Q) := bind_fr fun x => bind2 _ rfl fun y => Iff.rfl
theorem k_op1_ {x : W} : Kop1 f b ρ Q (x, S) ↔ Ok (b ρ S) (Kop2 f x Q) := .rfl
theorem k_op2_ {x y : W} : Kop2 f x Q (y, S) ↔ Ok (f x y S) Q := .rfl
noncomputable def Kun (f : F1) (Q : WM → Prop) (p : WM) : Prop := Ok (f p.1 p.2) Q
theorem k_un {f : F1} : Ok (eUn f a ρ S) Q ↔ Ok (a ρ S) (Kun f Q) := bind_fr fun x => Iff.rfl
theorem k_un_ {f : F1} {x : W} : Kun f Q (x, S) ↔ Ok (f x S) Q := .rfl
noncomputable def KB (B : Bool × Mem → Prop) (p : WM) : Prop := Ok (match p.1 with
  | .d (.bool b) => some (b, p.2)
  | _ => none) B
theorem k_eB : Ok (eB a ρ S) B ↔ Ok (a ρ S) (KB B) := bind_fr fun x => Iff.rfl
theorem k_B_ {k : Bool} : KB B (.d (.bool k), S) ↔ B (k, S) := k_some
noncomputable def Kand (q : MT) (ρ : Env') (B : Bool × Mem → Prop) (p : Bool × Mem) : Prop := match p.1 with
  | true => Ok (q ρ p.2) B
  | false => B (false, p.2)
theorem k_and : Ok (eAnd p q ρ S) B ↔ Ok (p ρ S) (Kand q ρ B) := bind_fr fun x => by obtain ⟨k, S⟩ := x; cases k; exact some2 _ _ rfl; exact Iff.rfl
theorem k_and_t : Kand q ρ B (true, S) ↔ Ok (q ρ S) B := .rfl
theorem k_and_f : Kand q ρ B (false, S) ↔ B (false, S) := .rfl
noncomputable def Kor (q : MT) (ρ : Env') (B : Bool × Mem → Prop) (p : Bool × Mem) : Prop := match p.1 with
  | true => B (true, p.2)
  | false => Ok (q ρ p.2) B
theorem k_or : Ok (eOr p q ρ S) B ↔ Ok (p ρ S) (Kor q ρ B) := bind_fr fun x => by obtain ⟨k, S⟩ := x; cases k; exact Iff.rfl; exact some2 _ _ rfl
theorem k_or_t : Kor q ρ B (true, S) ↔ B (true, S) := .rfl
theorem k_or_f : Kor q ρ B (false, S) ↔ Ok (q ρ S) B := .rfl
noncomputable def Knot (B : Bool × Mem → Prop) (p : Bool × Mem) : Prop := B (!p.1, p.2)
theorem k_not : Ok (eNot p ρ S) B ↔ Ok (p ρ S) (Knot B) := bind_fr fun x => some2 _ _ rfl
theorem k_not_ {k : Bool} : Knot B (k, S) ↔ B (!k, S) := .rfl
noncomputable def KT (Q : WM → Prop) (p : Bool × Mem) : Prop := Q (.d (.bool p.1), p.2)
theorem k_eT : Ok (eT p ρ S) Q ↔ Ok (p ρ S) (KT Q) := bind_fr fun x => some2 _ _ rfl
theorem k_T_ {k : Bool} : KT Q (k, S) ↔ Q (.d (.bool k), S) := .rfl
noncomputable def KandV (b : ME) (ρ : Env') (Q : WM → Prop) (p : Bool × Mem) : Prop := match p.1 with
  | true => Ok (b ρ p.2) Q
  | false => Q (.d (.bool false), p.2)
theorem k_andV : Ok (eAndV a b ρ S) Q ↔ Ok (eB a ρ S) (KandV b ρ Q) := bind_fr fun x => by obtain ⟨k, S⟩ := x; cases k; exact some2 _ _ rfl; exact Iff.rfl
theorem k_andV_t : KandV b ρ Q (true, S) ↔ Ok (b ρ S) Q := .rfl
theorem k_andV_f : KandV b ρ Q (false, S) ↔ Q (.d (.bool false), S) := .rfl
noncomputable def KorV (b : ME) (ρ : Env') (Q : WM → Prop) (p : Bool × Mem) : Prop := match p.1 with
  | true => Q (.d (.bool true), p.2)
  | false => Ok (b ρ p.2) Q
theorem k_orV : Ok (eOrV a b ρ S) Q ↔ Ok (eB a ρ S) (KorV b ρ Q) := bind_fr fun x => by obtain ⟨k, S⟩ := x; cases k; exact Iff.rfl; exact some2 _ _ rfl
theorem k_orV_t : KorV b ρ Q (true, S) ↔ Q (.d (.bool true), S) := .rfl
theorem k_orV_f : KorV b ρ Q (false, S) ↔ Ok (b ρ S) Q := .rfl
noncomputable def KnotV (Q : WM → Prop) (p : Bool × Mem) : Prop := Q (.d (.bool (!p.1)), p.2)
theorem k_notV : Ok (eNotV a ρ S) Q ↔ Ok (eB a ρ S) (KnotV Q) := bind_fr fun x => some2 _ _ rfl
theorem k_notV_ {k : Bool} : KnotV Q (k, S) ↔ Q (.d (.bool (!k)), S) := .rfl
noncomputable def KeIf (a b : ME) (ρ : Env') (Q : WM → Prop) (p : Bool × Mem) : Prop := match p.1 with
  | true => Ok (a ρ p.2) Q
  | false => Ok (b ρ p.2) Q
theorem k_eIf : Ok (eIf p a b ρ S) Q ↔ Ok (p ρ S) (KeIf a b ρ Q) := bind_fr fun x => by obtain ⟨k, S⟩ := x; cases k <;> exact Iff.rfl
theorem k_eIf_t : KeIf a b ρ Q (true, S) ↔ Ok (a ρ S) Q := .rfl
theorem k_eIf_f : KeIf a b ρ Q (false, S) ↔ Ok (b ρ S) Q := .rfl
theorem k_aN : Ok (aNil ρ S) L ↔ L ([], S) := k_some
noncomputable def Kcs2 (w : W) (L : List W × Mem → Prop) (p : List W × Mem) : Prop := L (w :: p.1, p.2)
noncomputable def Kcs1 (m : MA) (ρ : Env') (L : List W × Mem → Prop) (p : WM) : Prop := Ok (m ρ p.2) (Kcs2 p.1 L)
theorem k_aC : Ok (aCons a m ρ S) L ↔ Ok (a ρ S) (Kcs1 m ρ L) := bind_fr fun x => bind2 _ rfl fun y => some2 _ _ rfl
theorem k_cs1_ {w : W} : Kcs1 m ρ L (w, S) ↔ Ok (m ρ S) (Kcs2 w L) := .rfl
theorem k_cs2_ {w : W} {ws : List W} : Kcs2 w L (ws, S) ↔ L (w :: ws, S) := .rfl
noncomputable def Kcall (f : MF) (Q : WM → Prop) (p : List W × Mem) : Prop := Ok (f p.1 p.2) Q
theorem k_call {f : MF} : Ok (eCall f m ρ S) Q ↔ Ok (m ρ S) (Kcall f Q) := bind_fr fun x => Iff.rfl
theorem k_call_ {f : MF} {ws : List W} : Kcall f Q (ws, S) ↔ Ok (f ws S) Q := .rfl
theorem k_tup : Ok (eTup m ρ S) Q ↔ Ok (m ρ S) (Kcall mkT Q) := bind_fr fun x => Iff.rfl
theorem k_lstF : Ok (eLstF m ρ S) Q ↔ Ok (m ρ S) (Kcall mkF Q) := bind_fr fun x => Iff.rfl
theorem k_lstL : Ok (eLstL m ρ S) Q ↔ Ok (m ρ S) (Kcall mkL Q) := bind_fr fun x => Iff.rfl
noncomputable def Kkw2 (f : List W → List W → Mem → Option (W × Mem)) (ws : List W) (Q : WM → Prop) (p : List W × Mem) : Prop := Ok (f ws p.1 p.2) Q
noncomputable def Kkw1 (f : List W → List W → Mem → Option (W × Mem)) (n : MA) (ρ : Env') (Q : WM → Prop) (p : List W × Mem) : Prop := Ok (n ρ p.2) (Kkw2 f p.1 Q)
theorem k_callK {f : MK} : Ok (eCallK f m n ρ S) Q ↔ Ok (m ρ S) (Kkw1 f n ρ Q) := bind_fr fun x => bind2 _ rfl fun y => Iff.rfl
theorem k_callKw {f : MF} {pm : List W → List W → List W} : Ok (eCallKw f pm m n ρ S) Q ↔ Ok (m ρ S) (Kkw1 (fun a b => f (pm a b)) n ρ Q) := bind_fr fun x => bind2 _ rfl fun y => Iff.rfl
theorem k_kw1_ {f : List W → List W → Mem → Option (W × Mem)} {ws : List W} : Kkw1 f n ρ Q (ws, S) ↔ Ok (n ρ S) (Kkw2 f ws Q) := .rfl
theorem k_kw2_ {f : List W → List W → Mem → Option (W × Mem)} {ws us : List W} : Kkw2 f ws Q (us, S) ↔ Ok (f ws us S) Q := .rfl
noncomputable def Kdef (fz : Bool) (n : Nat) (Q : WM → Prop) (p : OR') : Prop := match p.1 with
  | .nx => Ok (fin fz n (.d .none) p.2.2) Q
  | .rt w => Ok (fin fz n w p.2.2) Q
  | _ => False
theorem k_dfn {np k : Nat} {fz : Bool} {ws : List W} : Ok (dfn np k fz s ws S) Q ↔ ws.length = np ∧ Ok (s (ws.map some ++ List.replicate k none) S) (Kdef fz S.length Q) := by
  unfold dfn
  rw [k_if]
  refine and_congr_right fun _ => bind_fr fun x => ?_
  obtain ⟨o, r⟩ := x
  cases o with
  | nx => exact Iff.rfl
  | bk => exact none2 rfl
  | ct => exact none2 rfl
  | rt w => exact Iff.rfl
theorem k_def_nx {k : Nat} {fz : Bool} : Kdef fz k Q (.nx, ρ, S) ↔ Ok (fin fz k (.d .none) S) Q := .rfl
theorem k_def_rt {k : Nat} {fz : Bool} {w : W} : Kdef fz k Q (.rt w, ρ, S) ↔ Ok (fin fz k w S) Q := .rfl
theorem k_finF {k : Nat} {w : W} : Ok (fin false k w S) Q ↔ Q (w, S) := k_some
theorem k_finT {k : Nat} {x : PyData} : Ok (fin true k (.d x) S) Q ↔ (S.take k).all (obLt k) = true ∧ Q (.d x, S.take k) := by
  unfold fin
  rw [if_neg (by decide)]
  by_cases h : (S.take k).all (obLt k) = true
  · rw [if_pos h]; exact ⟨fun z => ⟨h, k_some.mp z⟩, fun z => k_some.mpr z.2⟩
  · rw [if_neg h]; exact ⟨fun z => (k_none.mp z).elim, fun z => (h z.1).elim⟩
noncomputable def Kix3 (L : Bool) (w : W) (lo : Option Int) (Q : WM → Prop) (p : Option Int × Mem) : Prop := Ok (oSl L w lo p.1 p.2) Q
noncomputable def Kix2 (L : Bool) (w : W) (hi : MO) (ρ : Env') (Q : WM → Prop) (p : Option Int × Mem) : Prop := Ok (hi ρ p.2) (Kix3 L w p.1 Q)
noncomputable def Kix1 (L : Bool) (lo hi : MO) (ρ : Env') (Q : WM → Prop) (p : WM) : Prop := Ok (lo ρ p.2) (Kix2 L p.1 hi ρ Q)
theorem k_sl {k : Bool} {lo hi : MO} : Ok (eSl k a lo hi ρ S) Q ↔ Ok (a ρ S) (Kix1 k lo hi ρ Q) := bind_fr fun x => bind2 _ rfl fun y => bind2 _ rfl fun z => Iff.rfl
theorem k_ix1_ {k : Bool} {w : W} {lo hi : MO} : Kix1 k lo hi ρ Q (w, S) ↔ Ok (lo ρ S) (Kix2 k w hi ρ Q) := .rfl
theorem k_ix2_ {k : Bool} {w : W} {lo : Option Int} {hi : MO} : Kix2 k w hi ρ Q (lo, S) ↔ Ok (hi ρ S) (Kix3 k w lo Q) := .rfl
theorem k_ix3_ {k : Bool} {w : W} {lo hi : Option Int} : Kix3 k w lo Q (hi, S) ↔ Ok (oSl k w lo hi S) Q := .rfl
theorem k_pN {R : Option Int × Mem → Prop} : Ok (pNone ρ S) R ↔ R (none, S) := k_some
noncomputable def KpS (R : Option Int × Mem → Prop) (p : WM) : Prop := Ok (match p.1 with
  | .d (.int i) => some (some i, p.2)
  | _ => none) R
theorem k_pS {R : Option Int × Mem → Prop} : Ok (pSome a ρ S) R ↔ Ok (a ρ S) (KpS R) := bind_fr fun x => Iff.rfl
theorem k_pS_ {R : Option Int × Mem → Prop} {i : Int} : KpS R (.d (.int i), S) ↔ R (some i, S) := k_some
section
variable {I : Itm × Mem → Prop}
noncomputable def Kit (h : W → Mem → Option (Itm × Mem)) (I : Itm × Mem → Prop) (p : WM) : Prop := Ok (h p.1 p.2) I
noncomputable def itT : W → Mem → Option (Itm × Mem) := fun w S => match w with
  | .d (.tuple ds) => some (.vals (ds.map .d), S)
  | _ => none
noncomputable def itL : W → Mem → Option (Itm × Mem) := fun w S => match w with
  | .d (.list ds) => some (.vals (ds.map .d), S)
  | .d (.dict [(.none, .list ds)]) => some (.vals (ds.map .d), S)
  | .loc n => match S[n]? with
    | some (.lst _) => some (.live n, S)
    | _ => none
  | _ => none
noncomputable def itR : W → Mem → Option (Itm × Mem) := fun w S => match w with
  | .d (.list ds) => some (.vals (ds.reverse.map .d), S)
  | .d (.tuple ds) => some (.vals (ds.reverse.map .d), S)
  | .loc n => match S[n]? with
    | some (.lst ws) => some (.rev n ws.length, S)
    | _ => none
  | _ => none
theorem k_iT : Ok (iTupM a ρ S) I ↔ Ok (a ρ S) (Kit itT I) := bind_fr fun x => Iff.rfl
theorem k_iL : Ok (iLstM a ρ S) I ↔ Ok (a ρ S) (Kit itL I) := bind_fr fun x => Iff.rfl
theorem k_iR : Ok (iRevM a ρ S) I ↔ Ok (a ρ S) (Kit itR I) := bind_fr fun x => Iff.rfl
theorem k_it_T {ds : List PyData} : Kit itT I (.d (.tuple ds), S) ↔ I (.vals (ds.map .d), S) := k_some
theorem k_it_L {ds : List PyData} : Kit itL I (.d (.list ds), S) ↔ I (.vals (ds.map .d), S) := k_some
theorem k_it_Ls {ds : List PyData} : Kit itL I (.d (.dict [(.none, .list ds)]), S) ↔ I (.vals (ds.map .d), S) := k_some
noncomputable def Kil (n : Nat) (S : Mem) (I : Itm × Mem → Prop) : Option Ob → Prop
  | some (.lst _) => I (.live n, S)
  | _ => False
theorem k_it_Ll {n : Nat} : Kit itL I (.loc n, S) ↔ Kil n S I S[n]? := by
  unfold Kit itL
  cases h : S[n]? with
  | none => simp only [h, k_none, Kil]
  | some o => cases o <;> simp only [h, k_none, k_some, Kil]
theorem k_il_ {n : Nat} {ws : List W} : Kil n S I (some (.lst ws)) ↔ I (.live n, S) := .rfl
theorem k_it_R {ds : List PyData} : Kit itR I (.d (.list ds), S) ↔ I (.vals (ds.reverse.map .d), S) := k_some
theorem k_it_Rt {ds : List PyData} : Kit itR I (.d (.tuple ds), S) ↔ I (.vals (ds.reverse.map .d), S) := k_some
noncomputable def Kir (n : Nat) (S : Mem) (I : Itm × Mem → Prop) : Option Ob → Prop
  | some (.lst ws) => I (.rev n ws.length, S)
  | _ => False
theorem k_it_Rl {n : Nat} : Kit itR I (.loc n, S) ↔ Kir n S I S[n]? := by
  unfold Kit itR
  cases h : S[n]? with
  | none => simp only [h, k_none, Kir]
  | some o => cases o <;> simp only [h, k_none, k_some, Kir]
theorem k_ir_ {n : Nat} {ws : List W} : Kir n S I (some (.lst ws)) ↔ I (.rev n ws.length, S) := .rfl
noncomputable def Kr1 (I : Itm × Mem → Prop) (p : List W × Mem) : Prop := Ok (match p.1 with
  | [n] => iRngM (.d (.int 0)) n p.2
  | _ => none) I
noncomputable def Kr2 (I : Itm × Mem → Prop) (p : List W × Mem) : Prop := Ok (match p.1 with
  | [lo, n] => iRngM lo n p.2
  | _ => none) I
theorem k_r1 : Ok (iRng1M m ρ S) I ↔ Ok (m ρ S) (Kr1 I) := bind_fr fun x => Iff.rfl
theorem k_r2 : Ok (iRng2M m ρ S) I ↔ Ok (m ρ S) (Kr2 I) := bind_fr fun x => Iff.rfl
noncomputable def rngW (lo n : Int) : List W := (List.range (n - lo).toNat).map fun (i : Nat) => W.d (.int (lo + (i : Int)))
theorem k_rng {lo n : Int} : Ok (iRngM (.d (.int lo)) (.d (.int n)) S) I ↔ (-(2 ^ 62) ≤ lo ∧ lo < 2 ^ 62 ∧ -(2 ^ 62) ≤ n ∧ n < 2 ^ 62) ∧ I (.vals (rngW lo n), S) := by
  unfold iRngM
  simp only [k_if, k_some, decide_eq_true_eq]
  exact Iff.rfl
theorem k_r1_ {n : Int} : Kr1 I ([.d (.int n)], S) ↔ (-(2 ^ 62) ≤ n ∧ n < 2 ^ 62) ∧ I (.vals (rngW 0 n), S) := by
  show Ok (iRngM (.d (.int 0)) (.d (.int n)) S) I ↔ _
  rw [k_rng]
  exact and_congr_left fun _ => ⟨fun h => h.2.2, fun h => ⟨by decide, by decide, h⟩⟩
theorem k_r2_ {lo n : Int} : Kr2 I ([.d (.int lo), .d (.int n)], S) ↔ (-(2 ^ 62) ≤ lo ∧ lo < 2 ^ 62 ∧ -(2 ^ 62) ≤ n ∧ n < 2 ^ 62) ∧ I (.vals (rngW lo n), S) := k_rng
noncomputable def Ke (I : Itm × Mem → Prop) (p : List W × Mem) : Prop := Ok (match p.1 with
  | [.d (.tuple ds)] => some (.vals (numW ds), p.2)
  | _ => none) I
theorem k_e : Ok (iEnumM m ρ S) I ↔ Ok (m ρ S) (Ke I) := bind_fr fun x => Iff.rfl
theorem k_e_ {ds : List PyData} : Ke I ([.d (.tuple ds)], S) ↔ I (.vals (numW ds), S) := k_some
end
noncomputable def Klc2 (mk : List W → Mem → Option (W × Mem)) (Q : WM → Prop) (p : List W × Mem) : Prop := Ok (mk p.1 p.2) Q
noncomputable def Klc1 (g : MG) (t : MT) (e : ME) (mk : List W → Mem → Option (W × Mem)) (ρ : Env') (Q : WM → Prop) (p : Itm × Mem) : Prop := Ok (lcM p.1 g t e (p.1.len p.2) 0 ρ p.2) (Klc2 mk Q)
theorem k_lc {mi : MI} {vs : List Nat} {mk : List W → Mem → Option (W × Mem)} : Ok (eLc mi vs g p e mk ρ S) Q ↔ Ok (mi ρ S) (Klc1 g p e mk (wipeE ρ vs) Q) := bind_fr fun x => bind2 _ rfl fun y => Iff.rfl
theorem k_lc1_ {mk : List W → Mem → Option (W × Mem)} {im : Itm} : Klc1 g p e mk ρ Q (im, S) ↔ Ok (lcM im g p e (im.len S) 0 ρ S) (Klc2 mk Q) := .rfl
theorem k_lc2_ {mk : List W → Mem → Option (W × Mem)} {ws : List W} : Klc2 mk Q (ws, S) ↔ Ok (mk ws S) Q := .rfl
theorem k_yes : Ok (tYesM ρ S) B ↔ B (true, S) := k_some
noncomputable def Kall2 (Q : WM → Prop) (p : Bool × Mem) : Prop := Q (.d (.bool p.1), p.2)
noncomputable def Kall1 (g : MG) (e : ME) (ρ : Env') (Q : WM → Prop) (p : Itm × Mem) : Prop := Ok (match p.1 with
  | .vals ws => (allL g e ws ρ p.2).bind fun q => some (.d (.bool q.1), q.2)
  | _ => none) Q
theorem k_all {mi : MI} {vs : List Nat} : Ok (eAll mi vs g e ρ S) Q ↔ Ok (mi ρ S) (Kall1 g e (wipeE ρ vs) Q) := bind_fr fun x => Iff.rfl
theorem k_all1_ {ws : List W} : Kall1 g e ρ Q (.vals ws, S) ↔ Ok (allL g e ws ρ S) (Kall2 Q) := bind_fr fun x => some2 _ _ rfl
theorem k_all2_ {k : Bool} : Kall2 Q (k, S) ↔ Q (.d (.bool k), S) := .rfl
noncomputable def Kbm2 (f : MM) (x : W) (Q : WM → Prop) (p : List W × Mem) : Prop := Ok (f x p.1 p.2) Q
noncomputable def Kbm1 (f : MM) (m : MA) (ρ : Env') (Q : WM → Prop) (p : WM) : Prop := Ok ((itemsL p.1 p.2).bind fun _ => (m ρ p.2).bind fun q => f p.1 q.1 q.2) Q
theorem k_bm {f : MM} : Ok (eBm f a m ρ S) Q ↔ Ok (a ρ S) (Kbm1 f m ρ Q) := bind_fr fun x => Iff.rfl
noncomputable def Kbml (f : MM) (n : Nat) (m : MA) (ρ : Env') (S : Mem) (Q : WM → Prop) : Option Ob → Prop
  | some (.lst _) => Ok (m ρ S) (Kbm2 f (.loc n) Q)
  | _ => False
theorem k_bm1l {f : MM} {n : Nat} : Kbm1 f m ρ Q (.loc n, S) ↔ Kbml f n m ρ S Q S[n]? := by
  unfold Kbm1 itemsL
  cases h : S[n]? with
  | none => simp only [h, Option.bind_none, k_none, Kbml]
  | some o => cases o with
    | lst ws => simp only [h, Option.bind_some, Kbml]; exact bind_fr fun y => Iff.rfl
    | dct _ => simp only [h, Option.bind_none, k_none, Kbml]
    | ldct _ => simp only [h, Option.bind_none, k_none, Kbml]
    | dcn _ _ => simp only [h, Option.bind_none, k_none, Kbml]
    | ins _ _ => simp only [h, Option.bind_none, k_none, Kbml]
theorem k_bml_ {f : MM} {n : Nat} {ws : List W} : Kbml f n m ρ S Q (some (.lst ws)) ↔ Ok (m ρ S) (Kbm2 f (.loc n) Q) := .rfl
theorem k_bm2_ {f : MM} {x : W} {ws : List W} : Kbm2 f x Q (ws, S) ↔ Ok (f x ws S) Q := .rfl
noncomputable def Kat (F : List W → Option WM) (Q : WM → Prop) : Option Ob → Prop
  | some (.lst ws) => Ok (F ws) Q
  | _ => False
noncomputable def FApp (n : Nat) (w : W) (S : Mem) (ws : List W) : Option WM := if ws.length < sizeLine then some (.d .none, S.set n (.lst (ws ++ [w]))) else none
theorem k_at2 {n : Nat} {F : Nat → List W → Option WM} : Ok ((lstAt (.loc n) S).bind fun p => F p.1 p.2) Q ↔ Kat (F n) Q S[n]? := by
  unfold lstAt
  cases h : S[n]? with
  | none => simp only [h, Option.bind_none, k_none, Kat]
  | some o => cases o <;> simp only [h, Option.bind_none, Option.bind_some, k_none, Kat]
theorem k_app {n : Nat} {w : W} : Ok (mAppend (.loc n) [w] S) Q ↔ Kat (FApp n w S) Q S[n]? := k_at2 (F := fun k ws => FApp k w S ws)
theorem k_app_ {n : Nat} {w : W} {ws : List W} : Kat (FApp n w S) Q (some (.lst ws)) ↔ ws.length < sizeLine ∧ Q (.d .none, S.set n (.lst (ws ++ [w]))) := by
  show Ok (if _ then _ else _) Q ↔ _
  rw [k_if, k_some]
noncomputable def FExt (n : Nat) (ds : List PyData) (S : Mem) (ws : List W) : Option WM := if ws.length + ds.length ≤ sizeLine then some (.d .none, S.set n (.lst (ws ++ ds.map .d))) else none
theorem k_ext {n : Nat} {ds : List PyData} : Ok (mExtend (.loc n) [.d (.list ds)] S) Q ↔ Kat (FExt n ds S) Q S[n]? := k_at2 (F := fun k ws => FExt k ds S ws)
theorem k_ext_ {n : Nat} {ds : List PyData} {ws : List W} : Kat (FExt n ds S) Q (some (.lst ws)) ↔ ws.length + ds.length ≤ sizeLine ∧ Q (.d .none, S.set n (.lst (ws ++ ds.map .d))) := by
  show Ok (if _ then _ else _) Q ↔ _
  rw [k_if, k_some]
noncomputable def FPop (n : Nat) (S : Mem) (ws : List W) : Option WM := (ws[ws.length - 1]?).bind fun w => some (w, S.set n (.lst ws.dropLast))
theorem k_pop {n : Nat} : Ok (mPop (.loc n) [] S) Q ↔ Kat (FPop n S) Q S[n]? := k_at2 (F := fun k ws => FPop k S ws)
theorem k_pop_ {n : Nat} {ws : List W} {w : W} : Kat (FPop n S) Q (some (.lst (ws ++ [w]))) ↔ Q (w, S.set n (.lst ws)) := by
  show Ok (Option.bind _ _) Q ↔ _
  have e : (ws ++ [w])[(ws ++ [w]).length - 1]? = some w := by simp
  rw [e, List.dropLast_concat]
  exact k_some
noncomputable def FRev (n : Nat) (S : Mem) (ws : List W) : Option WM := some (.d .none, S.set n (.lst ws.reverse))
theorem k_rev {n : Nat} : Ok (mReverse (.loc n) [] S) Q ↔ Kat (FRev n S) Q S[n]? := k_at2 (F := fun k ws => FRev k S ws)
theorem k_rev_ {n : Nat} {ws : List W} : Kat (FRev n S) Q (some (.lst ws)) ↔ Q (.d .none, S.set n (.lst ws.reverse)) := k_some
noncomputable def FIns (n : Nat) (i : Int) (w : W) (S : Mem) (ws : List W) : Option WM := if decide (ws.length < sizeLine ∧ 0 ≤ i ∧ i < 2 ^ 63) = true then some (.d .none, S.set n (.lst (ws.take i.toNat ++ [w] ++ ws.drop i.toNat))) else none
theorem k_ins {n : Nat} {i : Int} {w : W} : Ok (mInsert (.loc n) [.d (.int i), w] S) Q ↔ Kat (FIns n i w S) Q S[n]? := k_at2 (F := fun k ws => FIns k i w S ws)
theorem k_ins_ {n : Nat} {i : Int} {w : W} {ws : List W} : Kat (FIns n i w S) Q (some (.lst ws)) ↔ (ws.length < sizeLine ∧ 0 ≤ i ∧ i < 2 ^ 63) ∧ Q (.d .none, S.set n (.lst (ws.take i.toNat ++ [w] ++ ws.drop i.toNat))) := by
  show Ok (if _ then _ else _) Q ↔ _
  rw [k_if, k_some, decide_eq_true_eq]
noncomputable def KmkT (Q : WM → Prop) (S : Mem) : Option (List PyData) → Prop
  | some ds => ds.length ≤ sizeLine ∧ Q (.d (.tuple ds), S)
  | none => False
theorem k_mkT {ws : List W} : Ok (mkT ws S) Q ↔ KmkT Q S (dOf ws) := by
  unfold mkT
  cases h : dOf ws with
  | none => simp only [Option.bind_none, k_none, KmkT]
  | some ds => simp only [Option.bind_some, k_if, k_some, KmkT]
theorem k_mkT_ {ds : List PyData} : KmkT Q S (some ds) ↔ ds.length ≤ sizeLine ∧ Q (.d (.tuple ds), S) := .rfl
noncomputable def KmkF (Q : WM → Prop) (S : Mem) : Option (List PyData) → Prop
  | some ds => ds.length ≤ sizeLine ∧ Q (.d (.list ds), S)
  | none => False
theorem k_mkF {ws : List W} : Ok (mkF ws S) Q ↔ KmkF Q S (dOf ws) := by
  unfold mkF
  cases h : dOf ws with
  | none => simp only [Option.bind_none, k_none, KmkF]
  | some ds => simp only [Option.bind_some, k_if, k_some, KmkF]
theorem k_mkF_ {ds : List PyData} : KmkF Q S (some ds) ↔ ds.length ≤ sizeLine ∧ Q (.d (.list ds), S) := .rfl
theorem k_mkL {ws : List W} : Ok (mkL ws S) Q ↔ ws.length ≤ sizeLine ∧ Q (.loc S.length, S ++ [.lst ws]) := by
  unfold mkL; rw [k_if, k_some]
theorem dOf_nil : dOf [] = some [] := rfl
theorem dOf_c {x : PyData} {ws : List W} : dOf (.d x :: ws) = (dOf ws).map (x :: ·) := rfl
theorem k_add {L : Bool} {i j : Int} : Ok (oPlus L (.d (.int i)) (.d (.int j)) S) Q ↔ Q (.d (.int (i + j)), S) := k_some
theorem k_addS {L : Bool} {i j : Str} : Ok (oPlus L (.d (.str i)) (.d (.str j)) S) Q ↔ i.length + j.length ≤ sizeLine ∧ Q (.d (.str (i ++ j)), S) := by
  show Ok (if _ then _ else _) Q ↔ _
  rw [k_if, k_some]
theorem k_addT {L : Bool} {i j : List PyData} : Ok (oPlus L (.d (.tuple i)) (.d (.tuple j)) S) Q ↔ i.length + j.length ≤ sizeLine ∧ Q (.d (.tuple (i ++ j)), S) := by
  show Ok (if _ then _ else _) Q ↔ _
  rw [k_if, k_some]
theorem k_addL {i j : List PyData} : Ok (oPlus false (.d (.list i)) (.d (.list j)) S) Q ↔ i.length + j.length ≤ sizeLine ∧ Q (.d (.list (i ++ j)), S) := by
  show Ok (if _ then _ else _) Q ↔ _
  rw [k_if]
  simp only [Bool.false_eq_true, if_false, k_some]
theorem k_addLL {i j : List PyData} : Ok (oPlus true (.d (.list i)) (.d (.list j)) S) Q ↔ i.length + j.length ≤ sizeLine ∧ Q (.loc S.length, S ++ [.lst ((i ++ j).map .d)]) := by
  show Ok (if _ then _ else _) Q ↔ _
  rw [k_if]
  simp only [if_true, k_some]
theorem k_sub {i j : Int} : Ok (oSub (.d (.int i)) (.d (.int j)) S) Q ↔ Q (.d (.int (i - j)), S) := k_some
theorem k_lt {i j : Int} : Ok (oLt (.d (.int i)) (.d (.int j)) S) Q ↔ Q (.d (.bool (decide (i < j))), S) := k_some
theorem k_le {i j : Int} : Ok (oLe (.d (.int i)) (.d (.int j)) S) Q ↔ Q (.d (.bool (decide (i ≤ j))), S) := k_some
theorem k_gt {i j : Int} : Ok (oGt (.d (.int i)) (.d (.int j)) S) Q ↔ Q (.d (.bool (decide (j < i))), S) := k_some
theorem k_ge {i j : Int} : Ok (oGe (.d (.int i)) (.d (.int j)) S) Q ↔ Q (.d (.bool (decide (j ≤ i))), S) := k_some
theorem k_mul {i j : Int} : Ok (oMul (.d (.int i)) (.d (.int j)) S) Q ↔ (((-(2 ^ 64) < i ∧ i < 2 ^ 64) ∨ (-(2 ^ 64) < j ∧ j < 2 ^ 64)) ∨ i.natAbs.log2 + j.natAbs.log2 < 1000000) ∧ Q (.d (.int (i * j)), S) := by
  show Ok ((if _ then _ else _ : Option PyData).map _) Q ↔ _
  rw [k_map, k_if, k_some, decide_eq_true_eq]
theorem k_div {i j : Int} : Ok (oDiv (.d (.int i)) (.d (.int j)) S) Q ↔ (0 < j ∧ j.natAbs.log2 < 9000) ∧ Q (.d (.int (i / j)), S) := by
  show Ok ((if _ then _ else _ : Option PyData).map _) Q ↔ _
  rw [k_map, k_if, k_some, decide_eq_true_eq]
theorem k_mod {i j : Int} : Ok (oMod (.d (.int i)) (.d (.int j)) S) Q ↔ 0 < j ∧ Q (.d (.int (i % j)), S) := by
  show Ok ((if _ then _ else _ : Option PyData).map _) Q ↔ _
  rw [k_map, k_if, k_some, decide_eq_true_eq]
theorem k_pow {i j : Int} : Ok (oPow (.d (.int i)) (.d (.int j)) S) Q ↔ (0 ≤ j ∧ j ≤ 1000000 ∧ i.natAbs < 2 ^ 64) ∧ Q (.d (.int (i ^ j.toNat)), S) := by
  show Ok ((if _ then _ else _ : Option PyData).map _) Q ↔ _
  rw [k_map, k_if, k_some, decide_eq_true_eq]
theorem k_neg {i : Int} : Ok (oNeg (.d (.int i)) S) Q ↔ Q (.d (.int (-i)), S) := k_some
theorem k_eqI {n : Bool} {i j : Int} : Ok (oEq n (.d (.int i)) (.d (.int j)) S) Q ↔ Q (.d (.bool (if n then !decide (i = j) else decide (i = j))), S) := k_some
theorem k_eqS {n : Bool} {i j : Str} : Ok (oEq n (.d (.str i)) (.d (.str j)) S) Q ↔ Q (.d (.bool (if n then !decide (i = j) else decide (i = j))), S) := k_some
theorem k_eqB {n : Bool} {i j : Bool} : Ok (oEq n (.d (.bool i)) (.d (.bool j)) S) Q ↔ Q (.d (.bool (if n then !decide (i = j) else decide (i = j))), S) := k_some
theorem k_eqIS {n : Bool} {i : Int} {j : Str} : Ok (oEq n (.d (.int i)) (.d (.str j)) S) Q ↔ Q (.d (.bool (if n then true else false)), S) := k_some
theorem k_eqSI {n : Bool} {i : Int} {j : Str} : Ok (oEq n (.d (.str j)) (.d (.int i)) S) Q ↔ Q (.d (.bool (if n then true else false)), S) := k_some
theorem k_eqT {n : Bool} {i j : List PyData} : Ok (oEq n (.d (.tuple i)) (.d (.tuple j)) S) Q ↔ (SeqAt.shaped (.tuple i) = true ∧ SeqAt.shaped (.tuple j) = true) ∧ Q (.d (.bool (if n then !PyData.eqv (.tuple i) (.tuple j) else PyData.eqv (.tuple i) (.tuple j))), S) := by
  show Ok ((eqP _ _).map _) Q ↔ _
  rw [k_map]
  unfold eqP
  rw [if_neg (show ¬ (scalD (.tuple i) (.tuple j) = true) from fun z => nomatch z), k_if, k_some]
theorem k_isN {n : Bool} {x : W} : Ok (oIsN n x (.d .none) S) Q ↔ Q (.d (.bool (if n then !isNonW x else isNonW x)), S) := k_some
theorem k_isBl {x y : Bool} : Ok (oIsBl (.d (.bool x)) (.d (.bool y)) S) Q ↔ Q (.d (.bool (decide (x = y))), S) := k_some
noncomputable def Kix (Q : WM → Prop) (S : Mem) : Option PyData → Prop
  | some d => Q (.d d, S)
  | none => False
noncomputable def KiW (Q : WM → Prop) (S : Mem) : Option W → Prop
  | some d => Q (d, S)
  | none => False
noncomputable def KiL (Q : WM → Prop) (S : Mem) (i : Int) : Option Ob → Prop
  | some (.lst ws) => KiW Q S (atI ws i)
  | _ => False
theorem k_ixT {ds : List PyData} {i : Int} : Ok (oIx (.d (.tuple ds)) (.d (.int i)) S) Q ↔ Kix Q S (atI ds i) := by
  rw [oIx_tup]
  cases atI ds i with
  | none => exact k_none
  | some d => exact k_some
theorem k_ixL {ds : List PyData} {i : Int} : Ok (oIx (.d (.list ds)) (.d (.int i)) S) Q ↔ KiW Q S (atI (ds.map W.d) i) := by
  rw [oIx_list]
  cases atI (ds.map W.d) i with
  | none => exact k_none
  | some d => exact k_some
theorem k_ixl {n : Nat} {i : Int} : Ok (oIx (.loc n) (.d (.int i)) S) Q ↔ KiL Q S i S[n]? := by
  show Ok ((itemsL (.loc n) S).bind _) Q ↔ _
  unfold itemsL
  cases h : S[n]? with
  | none => simp only [h, Option.bind_none, k_none, KiL]
  | some o => cases o with
    | lst ws =>
      simp only [h, Option.bind_some, KiL]
      cases hj : atI ws i with
      | none => simp only [hj, Option.map_none, k_none, KiW]
      | some j => simp only [hj, Option.map_some, k_some, KiW]
    | dct _ => simp only [h, Option.bind_none, k_none, KiL]
    | ldct _ => simp only [h, Option.bind_none, k_none, KiL]
    | dcn _ _ => simp only [h, Option.bind_none, k_none, KiL]
    | ins _ _ => simp only [h, Option.bind_none, k_none, KiL]
theorem k_ix_ {d : PyData} : Kix Q S (some d) ↔ Q (.d d, S) := .rfl
theorem k_iW_ {d : W} : KiW Q S (some d) ↔ Q (d, S) := .rfl
theorem k_iL_ {i : Int} {ws : List W} : KiL Q S i (some (.lst ws)) ↔ KiW Q S (atI ws i) := .rfl
theorem k_lenT {ds : List PyData} : Ok (bLen [.d (.tuple ds)] S) Q ↔ Q (.d (.int ds.length), S) := by
  unfold bLen items
  simp only [Option.bind_some, k_some, List.length_map]
theorem k_lenL {ds : List PyData} : Ok (bLen [.d (.list ds)] S) Q ↔ Q (.d (.int ds.length), S) := by
  unfold bLen items
  simp only [Option.bind_some, k_some, List.length_map]
noncomputable def Kl (Q : List W → Prop) : Option Ob → Prop
  | some (.lst ws) => Q ws
  | _ => False
noncomputable def Qlen (Q : WM → Prop) (S : Mem) (ws : List W) : Prop := Q (.d (.int ws.length), S)
theorem k_lenl {n : Nat} : Ok (bLen [.loc n] S) Q ↔ Kl (Qlen Q S) S[n]? := by
  unfold bLen items
  cases h : S[n]? with
  | none => simp only [h, Option.bind_none, k_none, Kl]
  | some o => cases o <;> simp only [h, Option.bind_none, Option.bind_some, k_none, k_some, Kl, Qlen]
theorem k_lenl_ {ws : List W} : Kl (Qlen Q S) (some (.lst ws)) ↔ Q (.d (.int ws.length), S) := .rfl
noncomputable def Qtup (Q : WM → Prop) (S : Mem) (ws : List W) : Prop := Kix (fun p => Q p) S ((dOf ws).map .tuple)
theorem k_tupl {n : Nat} : Ok (bTuple [.loc n] S) Q ↔ Kl (Qtup Q S) S[n]? := by
  unfold bTuple itemsL
  cases h : S[n]? with
  | none => simp only [h, Option.bind_none, k_none, Kl]
  | some o => cases o with
    | lst ws =>
      simp only [h, Option.bind_some, Kl, Qtup]
      cases dOf ws with
      | none => exact k_none
      | some ds => exact k_some
    | dct _ => simp only [h, Option.bind_none, k_none, Kl]
    | ldct _ => simp only [h, Option.bind_none, k_none, Kl]
    | dcn _ _ => simp only [h, Option.bind_none, k_none, Kl]
    | ins _ _ => simp only [h, Option.bind_none, k_none, Kl]
theorem k_tupl_ {ds : List PyData} : Kl (Qtup Q S) (some (.lst (ds.map .d))) ↔ Q (.d (.tuple ds), S) := by
  show Kix _ _ ((dOf (ds.map .d)).map _) ↔ _
  rw [dOf_map]; exact Iff.rfl
theorem k_tupl0 : Kl (Qtup Q S) (some (.lst [])) ↔ Q (.d (.tuple []), S) := .rfl
noncomputable def Qlst (Q : WM → Prop) (S : Mem) (ws : List W) : Prop := Kix (fun p => Q p) S ((dOf ws).map .list)
theorem k_lstFl {n : Nat} : Ok (bListF [.loc n] S) Q ↔ Kl (Qlst Q S) S[n]? := by
  unfold bListF items
  cases h : S[n]? with
  | none => simp only [h, Option.bind_none, k_none, Kl]
  | some o => cases o with
    | lst ws =>
      simp only [h, Option.bind_some, Kl, Qlst]
      cases dOf ws with
      | none => exact k_none
      | some ds => exact k_some
    | dct _ => simp only [h, Option.bind_none, k_none, Kl]
    | ldct _ => simp only [h, Option.bind_none, k_none, Kl]
    | dcn _ _ => simp only [h, Option.bind_none, k_none, Kl]
    | ins _ _ => simp only [h, Option.bind_none, k_none, Kl]
theorem k_lstFl_ {ds : List PyData} : Kl (Qlst Q S) (some (.lst (ds.map .d))) ↔ Q (.d (.list ds), S) := by
  show Kix _ _ ((dOf (ds.map .d)).map _) ↔ _
  rw [dOf_map]; exact Iff.rfl
noncomputable def QlsL (Q : WM → Prop) (S : Mem) (ws : List W) : Prop := Q (.loc S.length, S ++ [.lst ws])
theorem k_lstLl {n : Nat} : Ok (bListL [.loc n] S) Q ↔ Kl (QlsL Q S) S[n]? := by
  unfold bListL items
  cases h : S[n]? with
  | none => simp only [h, Option.bind_none, k_none, Kl]
  | some o => cases o <;> simp only [h, Option.bind_none, Option.bind_some, k_none, k_some, Kl, QlsL]
theorem k_lstLl_ {ws : List W} : Kl (QlsL Q S) (some (.lst ws)) ↔ Q (.loc S.length, S ++ [.lst ws]) := .rfl
noncomputable def QslL (Q : WM → Prop) (S : Mem) (lo hi : Option Int) (ws : List W) : Prop := Q (.loc S.length, S ++ [.lst (cutL ws lo hi)])
theorem k_slLl {n : Nat} {lo hi : Option Int} : Ok (oSl true (.loc n) lo hi S) Q ↔ Kl (QslL Q S lo hi) S[n]? := by
  unfold oSl itemsL
  cases h : S[n]? with
  | none => simp only [h, Option.bind_none, k_none, Kl]
  | some o => cases o <;> simp only [h, Option.bind_none, Option.bind_some, if_true, k_none, k_some, Kl, QslL]
theorem k_slLl_ {lo hi : Option Int} {ws : List W} : Kl (QslL Q S lo hi) (some (.lst ws)) ↔ Q (.loc S.length, S ++ [.lst (cutL ws lo hi)]) := .rfl
noncomputable def QslF (Q : WM → Prop) (S : Mem) (lo hi : Option Int) (ws : List W) : Prop := Kix (fun p => Q p) S ((dOf (cutL ws lo hi)).map .list)
theorem k_slFl {n : Nat} {lo hi : Option Int} : Ok (oSl false (.loc n) lo hi S) Q ↔ Kl (QslF Q S lo hi) S[n]? := by
  unfold oSl itemsL
  cases h : S[n]? with
  | none => simp only [h, Option.bind_none, k_none, Kl]
  | some o => cases o with
    | lst ws =>
      simp only [h, Option.bind_some, Kl, QslF, Bool.false_eq_true, if_false]
      cases dOf (cutL ws lo hi) with
      | none => exact k_none
      | some ds => exact k_some
    | dct _ => simp only [h, Option.bind_none, k_none, Kl]
    | ldct _ => simp only [h, Option.bind_none, k_none, Kl]
    | dcn _ _ => simp only [h, Option.bind_none, k_none, Kl]
    | ins _ _ => simp only [h, Option.bind_none, k_none, Kl]
theorem k_tupT {ds : List PyData} : Ok (bTuple [.d (.tuple ds)] S) Q ↔ Q (.d (.tuple ds), S) := k_some
theorem k_tupL {ds : List PyData} : Ok (bTuple [.d (.list ds)] S) Q ↔ Q (.d (.tuple ds), S) := by
  unfold bTuple itemsL
  simp only [Option.bind_some, dOf_map, k_some]
theorem k_lstFT {ds : List PyData} : Ok (bListF [.d (.tuple ds)] S) Q ↔ Q (.d (.list ds), S) := by
  unfold bListF items
  simp only [Option.bind_some, dOf_map, k_some]
theorem k_lstFL {ds : List PyData} : Ok (bListF [.d (.list ds)] S) Q ↔ Q (.d (.list ds), S) := by
  unfold bListF items
  simp only [Option.bind_some, dOf_map, k_some]
theorem k_lstLT {ds : List PyData} : Ok (bListL [.d (.tuple ds)] S) Q ↔ Q (.loc S.length, S ++ [.lst (ds.map .d)]) := by
  unfold bListL items
  simp only [Option.bind_some, k_some]
theorem k_lstLL {ds : List PyData} : Ok (bListL [.d (.list ds)] S) Q ↔ Q (.loc S.length, S ++ [.lst (ds.map .d)]) := by
  unfold bListL items
  simp only [Option.bind_some, k_some]
theorem k_lstLs {ds : List PyData} : Ok (bListL [.d (.dict [(.none, .list ds)])] S) Q ↔ Q (.loc S.length, S ++ [.lst (ds.map .d)]) := by
  unfold bListL items
  simp only [Option.bind_some, k_some]
theorem k_abs {i : Int} : Ok (bAbs [.d (.int i)] S) Q ↔ Q (.d (.int (if i < 0 then -i else i)), S) := k_some
theorem k_int {i : Int} : Ok (bInt [.d (.int i)] S) Q ↔ Q (.d (.int i), S) := k_some
theorem k_intB {k : Bool} : Ok (bInt [.d (.bool k)] S) Q ↔ Q (.d (.int (if k then 1 else 0)), S) := k_some
theorem k_str {i : Int} : Ok (bStr [.d (.int i)] S) Q ↔ i.natAbs.log2 < 1920 ∧ Q (.d (.str (toString i)), S) := by
  show Ok (if _ then _ else _) Q ↔ _
  rw [k_if, k_some, decide_eq_true_eq]
theorem k_slT {L : Bool} {ds : List PyData} {lo hi : Option Int} : Ok (oSl L (.d (.tuple ds)) lo hi S) Q ↔ Q (.d (.tuple (cutL ds lo hi)), S) := k_some
theorem k_slLs {ds : List PyData} {lo hi : Option Int} : Ok (oSl false (.d (.dict [(.none, .list ds)])) lo hi S) Q ↔ Q (.d (.list (cutL ds lo hi)), S) := by
  unfold oSl itemsL
  simp only [Option.bind_some, Bool.false_eq_true, if_false]
  rw [show cutL (ds.map W.d) lo hi = (cutL ds lo hi).map W.d by unfold cutL; rw [List.length_map, ← List.map_drop, ← List.map_take], dOf_map]
  exact k_some
theorem k_slL {ds : List PyData} {lo hi : Option Int} : Ok (oSl false (.d (.list ds)) lo hi S) Q ↔ Q (.d (.list (cutL ds lo hi)), S) := by
  unfold oSl itemsL
  simp only [Option.bind_some, Bool.false_eq_true, if_false]
  rw [show cutL (ds.map W.d) lo hi = (cutL ds lo hi).map W.d by unfold cutL; rw [List.length_map, ← List.map_drop, ← List.map_take], dOf_map]
  exact k_some
noncomputable def KisB (T : Bool) (Q : WM → Prop) (p : WM) : Prop := Ok ((isK p.1 T).map fun b => ((.d (.bool b) : W), p.2)) Q
theorem k_is {T : Bool} : Ok (eIs T a ρ S) Q ↔ Ok (a ρ S) (KisB T Q) := bind_fr fun x => Iff.rfl
theorem k_is_iT {i : Int} : KisB false Q (.d (.int i), S) ↔ Q (.d (.bool true), S) := k_some
theorem k_is_iB {i : Int} : KisB true Q (.d (.int i), S) ↔ Q (.d (.bool false), S) := k_some
theorem k_is_b {i T : Bool} : KisB T Q (.d (.bool i), S) ↔ Q (.d (.bool true), S) := by cases T <;> exact k_some
theorem k_is_s {i : Str} {T : Bool} : KisB T Q (.d (.str i), S) ↔ Q (.d (.bool false), S) := by cases T <;> exact k_some
noncomputable def KisT (h : W → Option Bool) (Q : WM → Prop) (p : WM) : Prop := Ok ((h p.1).map fun b => ((.d (.bool b) : W), p.2)) Q
theorem k_isT : Ok (eIsT a ρ S) Q ↔ Ok (a ρ S) (KisT isT Q) := bind_fr fun x => Iff.rfl
theorem k_isS : Ok (eIsS a ρ S) Q ↔ Ok (a ρ S) (KisT isSt Q) := bind_fr fun x => Iff.rfl
theorem k_isT_t {ds : List PyData} : KisT isT Q (.d (.tuple ds), S) ↔ Q (.d (.bool true), S) := k_some
theorem k_isT_i {i : Int} : KisT isT Q (.d (.int i), S) ↔ Q (.d (.bool false), S) := k_some
theorem k_isT_b {i : Bool} : KisT isT Q (.d (.bool i), S) ↔ Q (.d (.bool false), S) := k_some
theorem k_isT_s {i : Str} : KisT isT Q (.d (.str i), S) ↔ Q (.d (.bool false), S) := k_some
theorem k_isT_n : KisT isT Q (.d .none, S) ↔ Q (.d (.bool false), S) := k_some
theorem k_isS_s {i : Str} : KisT isSt Q (.d (.str i), S) ↔ Q (.d (.bool true), S) := k_some
theorem k_isS_i {i : Int} : KisT isSt Q (.d (.int i), S) ↔ Q (.d (.bool false), S) := k_some
theorem k_isS_b {i : Bool} : KisT isSt Q (.d (.bool i), S) ↔ Q (.d (.bool false), S) := k_some
theorem k_isS_t {ds : List PyData} : KisT isSt Q (.d (.tuple ds), S) ↔ Q (.d (.bool false), S) := k_some
noncomputable def KisL (Q : WM → Prop) (p : WM) : Prop := Ok ((lstAt p.1 p.2).map fun _ => ((.d (.bool true) : W), p.2)) Q
theorem k_isL : Ok (eIsL a ρ S) Q ↔ Ok (a ρ S) (KisL Q) := bind_fr fun x => Iff.rfl
noncomputable def QisL (Q : WM → Prop) (S : Mem) (_ : List W) : Prop := Q (.d (.bool true), S)
theorem k_isL_ {n : Nat} : KisL Q (.loc n, S) ↔ Kl (QisL Q S) S[n]? := by
  unfold KisL lstAt
  cases h : S[n]? with
  | none => simp only [h, Option.map_none, k_none, Kl]
  | some o => cases o <;> simp only [h, Option.map_none, Option.map_some, k_none, k_some, Kl, QisL]
theorem k_isL2 {ws : List W} : Kl (QisL Q S) (some (.lst ws)) ↔ Q (.d (.bool true), S) := .rfl
end
noncomputable def Kturn (g : MG) (b : MS) (Nx : Env' → Mem → Prop) (P : OR' → Prop) (q : OR') : Prop := match q.1 with
  | .bk => P (.nx, q.2)
  | .rt w => P (.rt w, q.2)
  | _ => Nx q.2.1 q.2.2
section
variable {ρ : Env'} {S : Mem} {g : MG} {b : MS} {P : OR' → Prop} {Nx : Env' → Mem → Prop}
theorem k_turn_nx : Kturn g b Nx P (.nx, ρ, S) ↔ Nx ρ S := .rfl
theorem k_turn_ct : Kturn g b Nx P (.ct, ρ, S) ↔ Nx ρ S := .rfl
theorem k_turn_bk : Kturn g b Nx P (.bk, ρ, S) ↔ P (.nx, ρ, S) := .rfl
theorem k_turn_rt {w : W} : Kturn g b Nx P (.rt w, ρ, S) ↔ P (.rt w, ρ, S) := .rfl
noncomputable def Kg (b : MS) (P : OR' → Prop) (p : Env' × Mem) : Prop := Ok (b p.1 p.2) P
theorem k_g_ {P : OR' → Prop} : Kg b P (ρ, S) ↔ Ok (b ρ S) P := .rfl
theorem for_it {im : Itm} {n : Nat} (Inv : Nat → Env' → Mem → Prop)
    (step : ∀ i ρ S, i < n → Inv i ρ S → ∃ w, im.at_ S i = some (some w) ∧ Ok (g w ρ S) (Kg b (Kturn g b (Inv (i + 1)) P)))
    (stop : ∀ ρ S, Inv n ρ S → im.at_ S n = some none ∧ P (.nx, ρ, S)) : ∀ (k i : Nat) ρ S, i + k = n → Inv i ρ S → Ok (forM im g b k i ρ S) P := by
  intro k
  induction k with
  | zero =>
    intro i ρ S hi h
    have e : i = n := by omega
    subst e
    obtain ⟨h1, h2⟩ := stop ρ S h
    unfold forM
    rw [h1]
    exact k_some.mpr h2
  | succ k ih =>
    intro i ρ S hi h
    obtain ⟨w, h1, x, e1, y, e2, h2⟩ := step i ρ S (by omega) h
    obtain ⟨ρ1, S1⟩ := x
    obtain ⟨o, ρ2, S2⟩ := y
    unfold forM
    rw [h1]
    simp only [e1, Option.bind_some, e2]
    cases o with
    | nx => exact ih (i + 1) ρ2 S2 (by omega) h2
    | ct => exact ih (i + 1) ρ2 S2 (by omega) h2
    | bk => exact k_some.mpr h2
    | rt w => exact k_some.mpr h2
theorem for_vals {ws : List W} (Inv : Nat → Env' → Mem → Prop) (h0 : Inv 0 ρ S)
    (step : ∀ i w ρ S, ws[i]? = some w → Inv i ρ S → Ok (g w ρ S) (Kg b (Kturn g b (Inv (i + 1)) P)))
    (stop : ∀ ρ S, Inv ws.length ρ S → P (.nx, ρ, S)) : Ok (forM (.vals ws) g b (Itm.len (.vals ws) S) 0 ρ S) P :=
  for_it (im := .vals ws) (n := ws.length) Inv (fun i ρ S hi h => ⟨ws[i], by show some ws[i]? = _; rw [List.getElem?_eq_getElem hi], step i ws[i] ρ S (List.getElem?_eq_getElem hi) h⟩)
    (fun ρ S h => ⟨by show some ws[ws.length]? = _; rw [List.getElem?_eq_none (Nat.le_refl _)], stop ρ S h⟩) ws.length 0 ρ S (by omega) h0
theorem for_rest : ∀ (ws : List W) (Inv : List W → Env' → Mem → Prop) (ρ : Env') (S : Mem), Inv ws ρ S →
    (∀ w rest ρ S, Inv (w :: rest) ρ S → Ok (g w ρ S) (Kg b (Kturn g b (Inv rest) P))) →
    (∀ ρ S, Inv [] ρ S → P (.nx, ρ, S)) → Ok (forM (.vals ws) g b (Itm.len (.vals ws) S) 0 ρ S) P := by
  intro ws Inv ρ S h0 step stop
  refine for_vals (fun i => Inv (ws.drop i)) (by rw [List.drop_zero]; exact h0) (fun i w ρ S hw h => ?_) (fun ρ S h => stop ρ S (by rwa [List.drop_length] at h))
  have hlt : i < ws.length := (List.getElem?_eq_some_iff.mp hw).1
  have e : ws[i] = w := (List.getElem?_eq_some_iff.mp hw).2
  rw [List.drop_eq_getElem_cons hlt, e] at h
  exact step w _ ρ S h
noncomputable def Klt (e : ME) (ρ : Env') (Y : W → Mem → Prop) (N : Mem → Prop) (q : Bool × Mem) : Prop := match q.1 with
  | true => Ok (e ρ q.2) fun r => Y r.1 r.2
  | false => N q.2
noncomputable def Klg (t : MT) (e : ME) (Y : W → Mem → Prop) (N : Mem → Prop) (p : Env' × Mem) : Prop := Ok (t p.1 p.2) (Klt e p.1 Y N)
variable {t : MT} {e : ME} {Y : W → Mem → Prop} {N : Mem → Prop}
theorem k_lg_ : Klg t e Y N (ρ, S) ↔ Ok (t ρ S) (Klt e ρ Y N) := .rfl
noncomputable def KY (Y : W → Mem → Prop) (p : WM) : Prop := Y p.1 p.2
theorem k_lt_t : Klt e ρ Y N (true, S) ↔ Ok (e ρ S) (KY Y) := .rfl
theorem k_lt_f : Klt e ρ Y N (false, S) ↔ N S := .rfl
theorem k_Y_ {w : W} : KY Y (w, S) ↔ Y w S := .rfl
theorem lc_it {im : Itm} {n : Nat} {L : List W × Mem → Prop} (Inv : Nat → List W → Mem → Prop)
    (step : ∀ i us S, i < n → Inv i us S → ∃ w, im.at_ S i = some (some w) ∧ Ok (g w ρ S) (Klg t e (fun v S' => Inv (i + 1) (us ++ [v]) S') (fun S' => Inv (i + 1) us S')))
    (stop : ∀ us S, Inv n us S → im.at_ S n = some none ∧ L (us, S)) : ∀ (k i : Nat) us S, i + k = n → Inv i us S → ∃ vs S', lcM im g t e k i ρ S = some (vs, S') ∧ L (us ++ vs, S') := by
  intro k
  induction k with
  | zero =>
    intro i us S hi h
    have e : i = n := by omega
    subst e
    obtain ⟨h1, h2⟩ := stop us S h
    unfold lcM
    rw [h1]
    exact ⟨[], S, rfl, by rw [List.append_nil]; exact h2⟩
  | succ k ih =>
    intro i us S hi h
    obtain ⟨w, h1, x, e1, y, e2, h2⟩ := step i us S (by omega) h
    obtain ⟨ρ1, S1⟩ := x
    obtain ⟨c, S2⟩ := y
    unfold lcM
    rw [h1]
    have e2 : t ρ1 S1 = some (c, S2) := e2
    simp only [e1, Option.bind_some, e2]
    cases c with
    | true =>
      obtain ⟨⟨v, S3⟩, e3, h3⟩ := h2
      have e3 : e ρ1 S2 = some (v, S3) := e3
      simp only [e3, Option.bind_some, if_true]
      obtain ⟨vs, S4, e4, h4⟩ := ih (i + 1) _ S3 (by omega) h3
      rw [e4]
      exact ⟨v :: vs, S4, rfl, by rwa [List.append_assoc] at h4⟩
    | false =>
      simp only [Bool.false_eq_true, if_false]
      exact ih (i + 1) us S2 (by omega) h2
theorem lc_vals {ws : List W} {L : List W × Mem → Prop} (Inv : Nat → List W → Mem → Prop) (h0 : Inv 0 [] S)
    (step : ∀ i w us S, ws[i]? = some w → Inv i us S → Ok (g w ρ S) (Klg t e (fun v S' => Inv (i + 1) (us ++ [v]) S') (fun S' => Inv (i + 1) us S')))
    (stop : ∀ us S, Inv ws.length us S → L (us, S)) : Ok (lcM (.vals ws) g t e (Itm.len (.vals ws) S) 0 ρ S) L := by
  obtain ⟨vs, S', e1, h⟩ := lc_it (im := .vals ws) (n := ws.length) (L := L) (ρ := ρ) Inv (fun i us S hi h => ⟨ws[i], by show some ws[i]? = _; rw [List.getElem?_eq_getElem hi], step i ws[i] us S (List.getElem?_eq_getElem hi) h⟩)
    (fun us S h => ⟨by show some ws[ws.length]? = _; rw [List.getElem?_eq_none (Nat.le_refl _)], stop us S h⟩) ws.length 0 [] S (by omega) h0
  exact ⟨_, e1, h⟩
end
theorem sz_le {n : Nat} (h : n ≤ 16777216) : n ≤ sizeLine := h
theorem sz_lt {n : Nat} (h : n < 16777216) : n < sizeLine := h
theorem drs_ints {K : PySem.W.Frag} {tb : List Addr} {A : Wd} : ∀ ns : List Int, DRs K tb A (ns.map V.int) (ns.map PyData.int)
  | [] => .nil
  | n :: ns => .cons (.int n) (drs_ints ns)
theorem spD_law {K : PySem.W.Frag} {tb : List Addr} {m : MF} {ns : List Int} {S' : Mem} {a : Addr} {H : Hp} {E : XK} (hm : m [.d (.dict [(.none, .list (ns.map .int))])] [] = some (.d (.bool true), S')) (ht : ∀ P ∈ tb, H P = some (.tbl #[])) (hs : SqL K H a (ns.map V.int)) :
    spD K tb 1 m [.ref a] H (fun v _ => v = .bl true) E := by
  let A : Wd := ⟨H, [], []⟩
  have R : Rep K tb A [] := by
    refine ⟨rfl, List.nodup_nil, fun P hP => ⟨#[], ht P hP, trivial⟩, ?_, ?_⟩
    · intro b hb; cases hb
    · intro n a ob h; cases h
  have D : DR K tb A (.ref a) (.dict [(.none, .list (ns.map .int))]) := DR.scr ?_ (drs_ints ns)
  · exact ⟨rfl, A, [.d (.dict [(.none, .list (ns.map .int))])], [], _, S', rfl, .cons D .nil, R, hm, fun v B _ _ r => WR.bl r⟩
  rcases hs with r | r
  · refine .inl ⟨fun z => ?_, r⟩
    have hat : a ∈ tb := z.elim (fun z => nomatch z) fun z => z.elim id fun z => nomatch z
    have ha := ht a hat
    rcases r with r | ⟨o, r⟩
    · rw [ha] at r; cases r
    · rw [ha] at r; cases r
  · exact .inr (.inr r)
theorem tab_in {K : PySem.W.Frag} {x : Str} {f c P : Addr} {oc : Value} {od : Option Addr} {fd : FuncData} {sl : Array (Option Value)} {e : Value} {dd : Option Addr} {vs : Array Value} {sm : Array (Option Value)}
    (a : PySem.W.nsIn K mainGlobals x = some (some (.ref f))) (l : K.lookup f = some ⟨oc, od, .func fd, sl⟩) (hc : fd.code = .ref c) (m : K.lookup c = some ⟨e, dd, .fields vs, sm⟩) (v : (vs[11]? : Option Value) = some (.ref P)) : PySem.W.tabIn K x = some (c, P) := by
  unfold PySem.W.tabIn
  simp only [a, l, hc, m, v]
noncomputable def TabsOf (q : Program) (K : PySem.W.Frag) (h : Heap) : Prop := ∀ (x : Str) (c P : Addr), ((recsOf q).find? fun e => e.name == x).isSome = true → PySem.W.tabIn K x = some (c, P) → PySem.W.CodeHd h c P ∧ h.get? P = some { cls := .none, data := .fields #[] }
theorem walk_tabs {l : PySem.W.OpenLaw} {n k : Nat} {q : Program} {loose : List Str} {XP : (Str → Option Value) → Heap → Prop} {YP : World → Heap → Prop} {d : DefRec} {K : Params → PySem.W.Frag} {CX : World → CXT} {x : Str}
    (hn : l.most = some n) (hn2 : n ≤ sizeLine) (hdf : d.params.defaults = []) (hr : Room k callerA) (hY : ∀ (w : World) (h : Heap), YP w h → (K w.params).In h)
    (F : ∀ (w : World) (mg : Str → Option Value) (fa : Addr) (h : Heap), (K w.params).In h → h.Ns mainGlobals mg → mg d.name = some (.ref fa) → TabsOf q (K w.params) h → LamX.LawAtS l w (K w.params) (CX w) k n x mg fa h)
    (hCX : ∀ (w : World) (H : Hp) (s : Shared) (e : Value) (s' : Shared), CX w [] H s (fun _ _ _ => False) e s' → False) :
    PySem.W.WalkO q loose XP YP l.row.toRowW d [] (fun f vs => PySem.call f vs) :=
  Att.attach_callB hn hdf fun w s₀ s₁ mg mb fa o pm cd doc a vs ns G Y ho hd hcd hmg hobj hints hlen hbits hg =>
    have KX := hY w _ Y
    have tabs : TabsOf q (K w.params) s₁.heap := fun y c P hr ht => by
      obtain ⟨r, e⟩ := Option.isSome_iff_exists.mp hr
      exact PySem.W.tab_of G.T KX e ht
    let ⟨fd, cs, sp, hT, nT, C, hb, hsp, hF⟩ := F w mg fa _ KX G.T.g hmg tabs
    LamX.law_callTs KX G.T.g G.T.b G.T.builtins G.T.nolimit hg hT nT C G.T.bmain hobj hints (Nat.le_trans hlen hn2) hr hF hb (fun H hH hS => hsp H a ns hlen hbits hH hS) fun H e s' => hCX w H s₁ e s'
theorem tabG_of {base : Heap} {mg : Str → Option Value} {c P : Addr} (h : LamX.TabB base mg c P) : TabB base mg c P := ⟨h.code, h.bm, h.gP⟩
end Pd
namespace Pd
open PySem
theorem ofStr_eq {s t : String} : ((Str.ofString s) = (Str.ofString t)) = (s = t) := by
  refine propext ⟨fun h => ?_, fun h => by rw [h]⟩
  rw [Str.ofString_eq_toList, Str.ofString_eq_toList] at h
  have h1 : s.toList.map Char.toNat = t.toList.map Char.toNat := by
    have := congrArg (fun z : Str => z.cps.toList) h
    simpa using this
  have h2 : s.toList = t.toList := by
    have inj : ∀ (a b : List Char), a.map Char.toNat = b.map Char.toNat → a = b := by
      intro a
      induction a with
      | nil => intro b e; cases b with | nil => rfl | cons _ _ => cases e
      | cons x xs ih =>
        intro b e
        cases b with
        | nil => cases e
        | cons y ys =>
          rw [List.map_cons, List.map_cons] at e
          obtain ⟨e1, e2⟩ := List.cons.inj e
          have : x = y := Char.ext (UInt32.toNat_inj.mp e1)
          rw [this, ih ys e2]
    exact inj _ _ h1
  exact String.toList_inj.mp h2
open L2 in
theorem ixN_0 {n : Nat} : ixN (n + 1) 0 = some 0 := by unfold ixN; rw [if_pos (by decide), if_pos (by omega)]; rfl
open L2 in
theorem ixN_1 {n : Nat} : ixN (n + 2) 1 = some 1 := by unfold ixN; rw [if_pos (by decide), if_pos (by omega)]; rfl
open L2 in
theorem ixN_2 {n : Nat} : ixN (n + 3) 2 = some 2 := by unfold ixN; rw [if_pos (by decide), if_pos (by omega)]; rfl
open L2 in
theorem ixN_3 {n : Nat} : ixN (n + 4) 3 = some 3 := by unfold ixN; rw [if_pos (by decide), if_pos (by omega)]; rfl
open L2 in
theorem ixN_4 {n : Nat} : ixN (n + 5) 4 = some 4 := by unfold ixN; rw [if_pos (by decide), if_pos (by omega)]; rfl
open L2 in
theorem ixN_5 {n : Nat} : ixN (n + 6) 5 = some 5 := by unfold ixN; rw [if_pos (by decide), if_pos (by omega)]; rfl
open L2 in
theorem ixN_6 {n : Nat} : ixN (n + 7) 6 = some 6 := by unfold ixN; rw [if_pos (by decide), if_pos (by omega)]; rfl
open L2 in
theorem ixN_ok {n : Nat} {i : Int} (h0 : 0 ≤ i) (h1 : i < n) : ixN n i = some i.toNat := by
  unfold ixN
  rw [if_pos h0, if_pos h1]
theorem cut63 {α β : Type} (f : α → β) (xs : List α) : cutL (xs.map f) none (some 63) = (xs.take 63).map f := by
  unfold cutL
  rw [HT.sIx_none, show (some (63 : Int)) = some ((63 : Nat) : Int) from rfl, HT.sIx_nat, List.drop_zero, Nat.sub_zero, List.length_map, ← List.map_take]
  congr 1
  by_cases h : xs.length ≤ 63
  · rw [Nat.min_eq_right h, List.take_of_length_le (Nat.le_refl _), List.take_of_length_le h]
  · rw [Nat.min_eq_left (by omega)]
theorem cutT {α : Type} {u : List α} {n : Nat} : cutL u none (some (n : Int)) = u.take n := by
  unfold cutL
  rw [HT.sIx_none, HT.sIx_nat, List.drop_zero, Nat.sub_zero]
  by_cases h : u.length ≤ n
  · rw [Nat.min_eq_right h, List.take_of_length_le (Nat.le_refl _), List.take_of_length_le h]
  · rw [Nat.min_eq_left (by omega)]
theorem rng_get {lo n : Int} {i : Nat} {w : W} (h : (rngW lo n)[i]? = some w) : w = .d (.int (lo + (i : Int))) ∧ (i : Int) < n - lo := by
  unfold rngW at h
  rw [List.getElem?_map] at h
  obtain ⟨j, e1, rfl⟩ := Option.map_eq_some_iff.mp h
  obtain ⟨hi, e2⟩ := List.getElem?_eq_some_iff.mp e1
  rw [List.getElem_range] at e2
  subst e2
  rw [List.length_range] at hi
  exact ⟨rfl, by omega⟩
theorem rng_len {lo n : Int} : (rngW lo n).length = (n - lo).toNat := by unfold rngW; rw [List.length_map, List.length_range]
theorem lc_filter {α : Type} {ρ : Env'} {S : Mem} {g : MG} {t : MT} {e : ME} {L : List W × Mem → Prop} {xs : List α} (f u : α → W) (p : α → Bool)
    (step : ∀ a ∈ xs, ∀ (R : W → Mem → Prop) (N : Mem → Prop), (p a = true → R (u a) S) → (p a = false → N S) → Ok (g (f a) ρ S) (Klg t e R N)) (q : L ((xs.filter p).map u, S)) : Ok (lcM (.vals (xs.map f)) g t e (Itm.len (.vals (xs.map f)) S) 0 ρ S) L := by
  refine lc_vals (fun i us S' => S' = S ∧ us = ((xs.take i).filter p).map u) ⟨rfl, by simp⟩ ?_ ?_
  · rintro i w us S' hw ⟨rfl, rfl⟩
    rw [List.getElem?_map] at hw
    obtain ⟨a, ha, rfl⟩ := Option.map_eq_some_iff.mp hw
    have ht : xs.take (i + 1) = xs.take i ++ [a] := by rw [List.take_add_one, ha]; rfl
    refine step a (List.mem_of_getElem? ha) _ _ (fun hp => ⟨rfl, ?_⟩) (fun hp => ⟨rfl, ?_⟩)
    · rw [ht, List.filter_append, List.map_append]
      simp [hp]
    · rw [ht, List.filter_append, List.map_append]
      simp [hp]
  · rintro us S' ⟨rfl, rfl⟩
    rw [List.length_map, List.take_length]
    exact q
theorem lc_map {α : Type} {ρ : Env'} {S : Mem} {g : MG} {e : ME} {L : List W × Mem → Prop} {xs : List α} (f u : α → W)
    (step : ∀ a ∈ xs, ∀ (R : W → Mem → Prop) (N : Mem → Prop), R (u a) S → Ok (g (f a) ρ S) (Klg tYesM e R N)) (q : L (xs.map u, S)) : Ok (lcM (.vals (xs.map f)) g tYesM e (Itm.len (.vals (xs.map f)) S) 0 ρ S) L := by
  refine lc_filter f u (fun _ => true) (fun a ha R N h _ => step a ha R N (h rfl)) ?_
  rw [List.filter_eq_self.mpr fun _ _ => rfl]
  exact q
theorem sz_l0 : 0 ≤ sizeLine ↔ True := iff_true_intro (sz_le (by decide))
theorem sz_l1 : 1 ≤ sizeLine ↔ True := iff_true_intro (sz_le (by decide))
theorem sz_l2 : 2 ≤ sizeLine ↔ True := iff_true_intro (sz_le (by decide))
theorem sz_l3 : 3 ≤ sizeLine ↔ True := iff_true_intro (sz_le (by decide))
theorem sz_l4 : 4 ≤ sizeLine ↔ True := iff_true_intro (sz_le (by decide))
theorem sz_l5 : 5 ≤ sizeLine ↔ True := iff_true_intro (sz_le (by decide))
theorem sz_l6 : 6 ≤ sizeLine ↔ True := iff_true_intro (sz_le (by decide))
theorem sz_l7 : 7 ≤ sizeLine ↔ True := iff_true_intro (sz_le (by decide))
theorem sz_l8 : 8 ≤ sizeLine ↔ True := iff_true_intro (sz_le (by decide))
theorem sz_l9 : 9 ≤ sizeLine ↔ True := iff_true_intro (sz_le (by decide))
theorem sz_l10 : 10 ≤ sizeLine ↔ True := iff_true_intro (sz_le (by decide))
theorem sz_l11 : 11 ≤ sizeLine ↔ True := iff_true_intro (sz_le (by decide))
theorem sz_l12 : 12 ≤ sizeLine ↔ True := iff_true_intro (sz_le (by decide))
theorem sz_l13 : 13 ≤ sizeLine ↔ True := iff_true_intro (sz_le (by decide))
theorem sz_k0 : 0 < sizeLine ↔ True := iff_true_intro (sz_lt (by decide))
theorem sz_k1 : 1 < sizeLine ↔ True := iff_true_intro (sz_lt (by decide))
theorem sz_k2 : 2 < sizeLine ↔ True := iff_true_intro (sz_lt (by decide))
theorem sz_k3 : 3 < sizeLine ↔ True := iff_true_intro (sz_lt (by decide))
theorem sz_k4 : 4 < sizeLine ↔ True := iff_true_intro (sz_lt (by decide))
theorem sz_k5 : 5 < sizeLine ↔ True := iff_true_intro (sz_lt (by decide))
theorem sz_k6 : 6 < sizeLine ↔ True := iff_true_intro (sz_lt (by decide))
theorem sz_k7 : 7 < sizeLine ↔ True := iff_true_intro (sz_lt (by decide))
theorem sz_k8 : 8 < sizeLine ↔ True := iff_true_intro (sz_lt (by decide))
theorem sz_k9 : 9 < sizeLine ↔ True := iff_true_intro (sz_lt (by decide))
theorem sz_k10 : 10 < sizeLine ↔ True := iff_true_intro (sz_lt (by decide))
theorem sz_k11 : 11 < sizeLine ↔ True := iff_true_intro (sz_lt (by decide))
theorem sz_k12 : 12 < sizeLine ↔ True := iff_true_intro (sz_lt (by decide))
theorem sz_k13 : 13 < sizeLine ↔ True := iff_true_intro (sz_lt (by decide))
theorem get_e0 {α : Type} {S r : List α} {x : α} : (S ++ x :: r)[S.length]? = some x := by rw [List.getElem?_append_right (Nat.le_refl _), Nat.sub_self]; rfl
theorem get_e1 {α : Type} {S r : List α} {x y : α} : (S ++ x :: y :: r)[S.length + 1]? = some y := by rw [List.getElem?_append_right (Nat.le_add_right _ _), Nat.add_sub_cancel_left]; rfl
theorem get_e2 {α : Type} {S r : List α} {x y z : α} : (S ++ x :: y :: z :: r)[S.length + 2]? = some z := by rw [List.getElem?_append_right (Nat.le_add_right _ _), Nat.add_sub_cancel_left]; rfl
theorem set_e0 {α : Type} {S r : List α} {x y : α} : (S ++ x :: r).set S.length y = S ++ y :: r := by rw [List.set_append_right _ _ (Nat.le_refl _), Nat.sub_self]; rfl
theorem set_e1 {α : Type} {S r : List α} {x y z : α} : (S ++ x :: y :: r).set (S.length + 1) z = S ++ x :: z :: r := by rw [List.set_append_right _ _ (Nat.le_add_right _ _), Nat.add_sub_cancel_left]; rfl
theorem set_e2 {α : Type} {S r : List α} {x y z u : α} : (S ++ x :: y :: z :: r).set (S.length + 2) u = S ++ x :: y :: u :: r := by rw [List.set_append_right _ _ (Nat.le_add_right _ _), Nat.add_sub_cancel_left]; rfl
theorem take_e {α : Type} {S r : List α} : (S ++ r).take S.length = S := List.take_left
noncomputable def Cl (S : Mem) : Prop := S.all (obLt S.length) = true
theorem wLt_mono {m n : Nat} (h : m ≤ n) {w : W} (g : wLt m w = true) : wLt n w = true := by
  cases w with
  | d _ => rfl
  | loc k => exact decide_eq_true (Nat.lt_of_lt_of_le (of_decide_eq_true g) h)
theorem obLt_mono {m n : Nat} (h : m ≤ n) {o : Ob} (g : obLt m o = true) : obLt n o = true := by
  cases o with
  | lst ws => exact List.all_eq_true.mpr fun w hw => wLt_mono h (List.all_eq_true.mp g w hw)
  | dct kvs => exact List.all_eq_true.mpr fun w hw => wLt_mono h (List.all_eq_true.mp g w hw)
  | ins _ fs => exact List.all_eq_true.mpr fun w hw => wLt_mono h (List.all_eq_true.mp g w hw)
  | ldct kvs => exact List.all_eq_true.mpr fun w hw => wLt_mono h (List.all_eq_true.mp g w hw)
  | dcn _ kvs => exact List.all_eq_true.mpr fun w hw => wLt_mono h (List.all_eq_true.mp g w hw)
theorem lt_lst {n : Nat} {ds : List PyData} : obLt n (.lst (ds.map .d)) = true := List.all_eq_true.mpr fun w hw => by
  obtain ⟨d, _, rfl⟩ := List.mem_map.mp hw
  rfl
theorem fin_lst {k n : Nat} {S : Mem} {ds : List PyData} {Q : WM → Prop} (hk : n ≤ k) (hS : S[k]? = some (.lst (ds.map .d))) (hc : (S.take n).all (obLt n) = true) (q : Q (.d (.list ds), S.take n)) : Ok (fin true n (.loc k) S) Q := by
  unfold fin
  rw [if_neg (by decide), if_pos hc]
  dsimp only
  rw [if_neg (by omega), hS]
  show Ok ((dOf (ds.map W.d)).map _) Q
  rw [dOf_map]
  exact k_some.mpr q
open L2 in
theorem atI_5 {α : Type} {a b c d e f : α} {us : List α} : atI (a :: b :: c :: d :: e :: f :: us) 5 = some f := atI_nat (j := 5) rfl
open L2 in
theorem atI_6 {α : Type} {a b c d e f g : α} {us : List α} : atI (a :: b :: c :: d :: e :: f :: g :: us) 6 = some g := atI_nat (j := 6) rfl
end Pd
namespace Lv
open PySem PySem.Spec PyProof.Rows RT
section
variable {prog : Program} {w : World} {A : Around} {E : Value → Shared → Prop} {s : Shared}
end
end Lv
namespace Lv
open PySem PySem.Spec PyProof.Rows L2 RT
section
variable {X : Cx}
theorem pi_seqK {K : PySem.W.Frag} {tg l : Expr} {tl : TE} (hK : X.K = K) (hl : PE X l tl) : PI X tg l (fun σ H R => iList K tl σ H R ∨ iTup K tl σ H R) := by
  subst hK
  exact ⟨fun pins s σ H R I q => q.elim ((pi_list hl).run pins s σ H R I) ((pi_tup hl).run pins s σ H R I)⟩
end
end Lv
namespace Pd
open PySem PySem.Spec PyProof.Rows L2 GxR Gx
section
variable {K : PySem.W.Frag} {tb : List Addr}
noncomputable def iSeqM (a : ME) : MI := fun ρ S => (a ρ S).bind fun p => match p.1 with
  | .d (.tuple ds) => some (.vals (ds.map .d), p.2)
  | .d (.list ds) => some (.vals (ds.map .d), p.2)
  | .loc n => match p.2[n]? with
    | some (.lst _) => some (.live n, p.2)
    | _ => none
  | _ => none
theorem si_seq {tl : TE} {a : ME} (ha : SE K tb tl a) : SI K tb (fun σ H R => iList K tl σ H R ∨ iTup K tl σ H R) (iSeqM a) := fun A σ ρ S im S' R' R E e q => by
  obtain ⟨⟨w, S1⟩, e1, e⟩ := Option.bind_eq_some_iff.mp e
  dsimp only at e
  split at e
  · exact .inr (si_tup ha A σ ρ S im S' R' R E (by show (a ρ S).bind _ = _; rw [e1]; exact e) q)
  · exact .inl (si_lst ha A σ ρ S im S' R' R E (by show (a ρ S).bind _ = _; rw [e1]; exact e) q)
  · exact .inl (si_lst ha A σ ρ S im S' R' R E (by show (a ρ S).bind _ = _; rw [e1]; exact e) q)
  · cases e
noncomputable def eLstRev (a : ME) : ME := fun ρ S => (a ρ S).bind fun p => (itemsL p.1 p.2).bind fun us => (dOf us).bind fun ds => some (.d (.list ds.reverse), p.2)
noncomputable def bLenX : MF := fun ws S => match ws with
  | [.d (.str z)] => if z.length ≤ sizeLine then some (.d (.int z.length), S) else none
  | ws => bLen ws S
end
end Pd
namespace Pd
open PySem PySem.Spec PyProof.Rows L2 GxR Gx
section
variable {ρ : Env'} {S : Mem} {a b c e o i : ME} {s t : MS} {m n : MA} {f : MF} {g : MG} {Q : WM → Prop} {P : OR' → Prop} {C : Addr} {x : Str}
theorem k_inT {ng : Bool} {x : PyData} {ds : List PyData} : Ok (oIn ng (.d x) (.d (.tuple ds)) S) Q ↔ (flatD x && ds.all flatD) = true ∧ Q (.d (.bool (if ng = true then !ds.any (fun y => PyData.eqv y x) else ds.any fun y => PyData.eqv y x)), S) := by
  unfold oIn items
  simp only [Option.bind_some, dOf_map, k_if, k_some]
theorem k_inL {ng : Bool} {x : PyData} {ds : List PyData} : Ok (oIn ng (.d x) (.d (.list ds)) S) Q ↔ (flatD x && ds.all flatD) = true ∧ Q (.d (.bool (if ng = true then !ds.any (fun y => PyData.eqv y x) else ds.any fun y => PyData.eqv y x)), S) := by
  unfold oIn items
  simp only [Option.bind_some, dOf_map, k_if, k_some]
theorem eqv_str {a b : Str} : PyData.eqv (.str a) (.str b) = decide (a = b) := by
  show (a == b) = _
  by_cases h : a = b
  · subst h; simp
  · rw [decide_eq_false h]; exact beq_eq_false_iff_ne.mpr h
theorem eqv_int {a b : Int} : PyData.eqv (.int a) (.int b) = decide (a = b) := by
  show (a == b) = _
  by_cases h : a = b
  · subst h; simp
  · rw [decide_eq_false h]; exact beq_eq_false_iff_ne.mpr h
theorem eqv_is {a : Int} {b : Str} : PyData.eqv (.int a) (.str b) = false := rfl
theorem eqv_si {a : Int} {b : Str} : PyData.eqv (.str b) (.int a) = false := rfl
theorem flat_s {x : Str} : flatD (.str x) = true := rfl
theorem flat_i {x : Int} : flatD (.int x) = true := rfl
noncomputable def Kfl2 (C : Addr) (x : Str) (S : Mem) (Q : WM → Prop) : Option Ob → Prop
  | some (.ins C' fs) => C' = C ∧ KiW Q S (fs.lookup x)
  | _ => False
noncomputable def Kfl (C : Addr) (x : Str) (Q : WM → Prop) (p : WM) : Prop := Ok ((insAt p.1 p.2).bind fun q => if q.2.1 = C then (q.2.2.lookup x).map fun w => (w, p.2) else none) Q
theorem k_fld : Ok (eFld C o x ρ S) Q ↔ Ok (o ρ S) (Kfl C x Q) := bind_fr fun y => Iff.rfl
theorem k_fl_ {k : Nat} : Kfl C x Q (.loc k, S) ↔ Kfl2 C x S Q S[k]? := by
  unfold Kfl insAt
  cases h : S[k]? with
  | none => simp only [h, Option.bind_none, k_none, Kfl2]
  | some ob => cases ob with
    | lst _ => simp only [h, Option.bind_none, k_none, Kfl2]
    | dct _ => simp only [h, Option.bind_none, k_none, Kfl2]
    | ldct _ => simp only [h, Option.bind_none, k_none, Kfl2]
    | dcn _ _ => simp only [h, Option.bind_none, k_none, Kfl2]
    | ins C' fs =>
      simp only [h, Option.bind_some, k_if, Kfl2]
      refine and_congr_right fun _ => ?_
      cases fs.lookup x with
      | none => exact k_none
      | some w => exact k_some
theorem k_fl2 {fs : FW} : Kfl2 C x S Q (some (.ins C fs)) ↔ KiW Q S (fs.lookup x) := ⟨fun h => h.2, fun h => ⟨rfl, h⟩⟩
noncomputable def KfpO (C : Addr) (x : Str) (v : W) (k : Nat) (S : Mem) (ρ : Env') (P : OR' → Prop) : Option Ob → Prop
  | some (.ins C' fs) => C' = C ∧ fs.length < 1000 ∧ P (.nx, ρ, S.set k (.ins C (putW x v fs)))
  | _ => False
noncomputable def Kfp2 (C : Addr) (x : Str) (v : W) (ρ : Env') (P : OR' → Prop) (z : WM) : Prop := Ok ((insAt z.1 z.2).bind fun q => if q.2.1 = C ∧ q.2.2.length < 1000 then some (.nx, ρ, z.2.set q.1 (.ins C (putW x v q.2.2))) else none) P
noncomputable def Kfp1 (C : Addr) (o : ME) (x : Str) (ρ : Env') (P : OR' → Prop) (p : WM) : Prop := Ok (o ρ p.2) (Kfp2 C x p.1 ρ P)
theorem k_fldput : Ok (sFldW C o x e ρ S) P ↔ Ok (e ρ S) (Kfp1 C o x ρ P) := bind_fr fun y => bind2 _ rfl fun z => Iff.rfl
theorem k_fp1_ {v : W} : Kfp1 C o x ρ P (v, S) ↔ Ok (o ρ S) (Kfp2 C x v ρ P) := .rfl
theorem k_fp2_ {v : W} {k : Nat} : Kfp2 C x v ρ P (.loc k, S) ↔ KfpO C x v k S ρ P S[k]? := by
  unfold Kfp2 insAt
  cases h : S[k]? with
  | none => simp only [h, Option.bind_none, k_none, KfpO]
  | some ob => cases ob with
    | lst _ => simp only [h, Option.bind_none, k_none, KfpO]
    | dct _ => simp only [h, Option.bind_none, k_none, KfpO]
    | ldct _ => simp only [h, Option.bind_none, k_none, KfpO]
    | dcn _ _ => simp only [h, Option.bind_none, k_none, KfpO]
    | ins C' fs => simp only [h, Option.bind_some, k_if, k_some, KfpO, and_assoc]
theorem k_fpO {v : W} {k : Nat} {fs : FW} : KfpO C x v k S ρ P (some (.ins C fs)) ↔ fs.length < 1000 ∧ P (.nx, ρ, S.set k (.ins C (putW x v fs))) := ⟨fun h => h.2, fun h => ⟨rfl, h⟩⟩
noncomputable def KfaO (C : Addr) (x : Str) (i j : Int) (k : Nat) (S : Mem) (ρ : Env') (P : OR' → Prop) : Option Ob → Prop
  | some (.ins C' fs) => C' = C ∧ fs.length < 1000 ∧ P (.nx, ρ, S.set k (.ins C (putW x (.d (.int (i + j))) fs)))
  | _ => False
noncomputable def Kfa2 (C : Addr) (x : Str) (i : Int) (k : Nat) (ρ : Env') (P : OR' → Prop) (p : WM) : Prop := match p.1 with
  | .d (.int j) => KfaO C x i j k p.2 ρ P p.2[k]?
  | _ => False
theorem k_fldaug_ {k : Nat} {fs : FW} {i : Int} (h : S[k]? = some (.ins C fs)) (hi : fs.lookup x = some (.d (.int i))) (g : Ok (e ρ S) (Kfa2 C x i k ρ P)) (ho : o ρ S = some (.loc k, S)) : Ok (sFldAugW C o x e ρ S) P := by
  obtain ⟨⟨w, S1⟩, e1, g1⟩ := g
  unfold Kfa2 at g1
  dsimp only at g1
  split at g1
  · rename_i j
    cases h2 : S1[k]? with
    | none => rw [h2] at g1; exact g1.elim
    | some ob =>
      rw [h2] at g1
      cases ob with
      | lst _ => exact g1.elim
      | dct _ => exact g1.elim
      | ldct _ => exact g1.elim
      | dcn _ _ => exact g1.elim
      | ins C2 fs2 =>
        obtain ⟨rfl, hl, hp⟩ := g1
        refine ⟨_, ?_, hp⟩
        unfold sFldAugW
        rw [ho]
        simp only [Option.bind_some, insAt, h, hi, e1, h2]
        rw [if_pos ⟨trivial, trivial, hl⟩]
  · exact g1.elim
theorem k_fa2_ {i j : Int} {k : Nat} : Kfa2 C x i k ρ P (.d (.int j), S) ↔ KfaO C x i j k S ρ P S[k]? := .rfl
theorem k_faO {i j : Int} {k : Nat} {fs : FW} : KfaO C x i j k S ρ P (some (.ins C fs)) ↔ fs.length < 1000 ∧ P (.nx, ρ, S.set k (.ins C (putW x (.d (.int (i + j))) fs))) := ⟨fun h => h.2, fun h => ⟨rfl, h⟩⟩
noncomputable def Kms (f : MF) (v : W) (Q : WM → Prop) (p : List W × Mem) : Prop := Ok (f (v :: p.1) p.2) Q
noncomputable def KmO (C : Addr) (x : Str) (f : MF) (m : MA) (k : Nat) (ρ : Env') (S : Mem) (Q : WM → Prop) : Option Ob → Prop
  | some (.ins C' fs) => C' = C ∧ fs.lookup x = none ∧ Ok (m ρ S) (Kms f (.loc k) Q)
  | _ => False
noncomputable def Km (C : Addr) (x : Str) (f : MF) (m : MA) (ρ : Env') (Q : WM → Prop) (p : WM) : Prop := Ok ((insAt p.1 p.2).bind fun q => if q.2.1 = C ∧ q.2.2.lookup x = none then (m ρ p.2).bind fun z => f (p.1 :: z.1) z.2 else none) Q
theorem k_meth : Ok (eMeth C x f o m ρ S) Q ↔ Ok (o ρ S) (Km C x f m ρ Q) := bind_fr fun y => Iff.rfl
theorem k_m_ {k : Nat} : Km C x f m ρ Q (.loc k, S) ↔ KmO C x f m k ρ S Q S[k]? := by
  unfold Km insAt
  cases h : S[k]? with
  | none => simp only [h, Option.bind_none, k_none, KmO]
  | some ob => cases ob with
    | lst _ => simp only [h, Option.bind_none, k_none, KmO]
    | dct _ => simp only [h, Option.bind_none, k_none, KmO]
    | ldct _ => simp only [h, Option.bind_none, k_none, KmO]
    | dcn _ _ => simp only [h, Option.bind_none, k_none, KmO]
    | ins C' fs =>
      simp only [h, Option.bind_some, KmO, k_if, and_assoc]
      refine and_congr_right fun _ => and_congr_right fun _ => bind_fr fun y => Iff.rfl
theorem k_mO {k : Nat} {fs : FW} : KmO C x f m k ρ S Q (some (.ins C fs)) ↔ fs.lookup x = none ∧ Ok (m ρ S) (Kms f (.loc k) Q) := ⟨fun h => h.2, fun h => ⟨rfl, h⟩⟩
theorem k_ms_ {v : W} {ws : List W} : Kms f v Q (ws, S) ↔ Ok (f (v :: ws) S) Q := .rfl
noncomputable def Kmk2 (k : Nat) (Q : WM → Prop) (p : WM) : Prop := p.1 = .d .none ∧ Q (.loc k, p.2)
noncomputable def Kmk (C : Addr) (f : MF) (Q : WM → Prop) (p : List W × Mem) : Prop := Ok (f (.loc p.2.length :: p.1) (p.2 ++ [.ins C []])) (Kmk2 p.2.length Q)
theorem k_make : Ok (eMake C f m ρ S) Q ↔ Ok (m ρ S) (Kmk C f Q) := bind_fr fun z => bind2 _ rfl fun r => by
  obtain ⟨w, S1⟩ := r
  unfold Kmk2
  dsimp only
  split
  · exact ⟨fun h => k_some.mpr h.2, fun h => ⟨rfl, k_some.mp h⟩⟩
  · rename_i h
    exact ⟨fun z => (h z.1).elim, fun z => (k_none.mp z).elim⟩
theorem k_mk_ {ws : List W} : Kmk C f Q (ws, S) ↔ Ok (f (.loc S.length :: ws) (S ++ [.ins C []])) (Kmk2 S.length Q) := .rfl
theorem k_mk2_ {k : Nat} : Kmk2 k Q (.d .none, S) ↔ Q (.loc k, S) := ⟨fun h => h.2, fun h => ⟨rfl, h⟩⟩
theorem k_dnew : Ok (eDNew ρ S) Q ↔ Q (.loc S.length, S ++ [.dct []]) := k_some
noncomputable def Kdg2 (z : W) (S : Mem) (Q : WM → Prop) : Option Ob → Prop
  | some (.dct kvs) => match keyW z with
    | some k => KiW Q S (valW kvs k)
    | none => False
  | _ => False
noncomputable def Kdg1 (p : W) (Q : WM → Prop) (z : WM) : Prop := Ok ((dctAt p z.2).bind fun d => (keyW z.1).bind fun k => (valW d.2 k).map fun w => (w, z.2)) Q
noncomputable def Kdg (i : ME) (ρ : Env') (Q : WM → Prop) (p : WM) : Prop := Ok (i ρ p.2) (Kdg1 p.1 Q)
theorem k_dget : Ok (eDGet o i ρ S) Q ↔ Ok (o ρ S) (Kdg i ρ Q) := bind_fr fun y => bind2 _ rfl fun z => Iff.rfl
theorem k_dg_ {p : W} : Kdg i ρ Q (p, S) ↔ Ok (i ρ S) (Kdg1 p Q) := .rfl
theorem k_dg1_ {k : Nat} {z : W} : Kdg1 (.loc k) Q (z, S) ↔ Kdg2 z S Q S[k]? := by
  unfold Kdg1 dctAt
  cases h : S[k]? with
  | none => simp only [h, Option.bind_none, k_none, Kdg2]
  | some ob => cases ob with
    | lst _ => simp only [h, Option.bind_none, k_none, Kdg2]
    | ins _ _ => simp only [h, Option.bind_none, k_none, Kdg2]
    | ldct _ => simp only [h, Option.bind_none, k_none, Kdg2]
    | dcn _ _ => simp only [h, Option.bind_none, k_none, Kdg2]
    | dct kvs =>
      simp only [h, Option.bind_some, Kdg2]
      cases keyW z with
      | none => exact k_none
      | some key =>
        simp only [Option.bind_some]
        cases valW kvs key with
        | none => exact k_none
        | some w => exact k_some
theorem k_dg2s {z : Str} {kvs : KW} : Kdg2 (.d (.str z)) S Q (some (.dct kvs)) ↔ KiW Q S (valW kvs (.inr z)) := .rfl
theorem k_dg2i {z : Int} {kvs : KW} : Kdg2 (.d (.int z)) S Q (some (.dct kvs)) ↔ KiW Q S (valW kvs (.inl z)) := .rfl
noncomputable def Kdi2 (ng : Bool) (z : W) (S : Mem) (Q : WM → Prop) : Option Ob → Prop
  | some (.dct kvs) => match keyW z with
    | some k => Q (.d (.bool (if ng then !(valW kvs k).isSome else (valW kvs k).isSome)), S)
    | none => False
  | _ => False
noncomputable def Kdi1 (ng : Bool) (z : W) (Q : WM → Prop) (p : WM) : Prop := Ok ((dctAt p.1 p.2).bind fun d => (keyW z).bind fun k => some (.d (.bool (if ng then !(valW d.2 k).isSome else (valW d.2 k).isSome)), p.2)) Q
noncomputable def Kdi (ng : Bool) (o : ME) (ρ : Env') (Q : WM → Prop) (z : WM) : Prop := Ok (o ρ z.2) (Kdi1 ng z.1 Q)
theorem k_din {ng : Bool} : Ok (eDIn ng i o ρ S) Q ↔ Ok (i ρ S) (Kdi ng o ρ Q) := bind_fr fun y => bind2 _ rfl fun z => Iff.rfl
theorem k_di_ {ng : Bool} {z : W} : Kdi ng o ρ Q (z, S) ↔ Ok (o ρ S) (Kdi1 ng z Q) := .rfl
theorem k_di1_ {ng : Bool} {k : Nat} {z : W} : Kdi1 ng z Q (.loc k, S) ↔ Kdi2 ng z S Q S[k]? := by
  unfold Kdi1 dctAt
  cases h : S[k]? with
  | none => simp only [h, Option.bind_none, k_none, Kdi2]
  | some ob => cases ob with
    | lst _ => simp only [h, Option.bind_none, k_none, Kdi2]
    | ins _ _ => simp only [h, Option.bind_none, k_none, Kdi2]
    | ldct _ => simp only [h, Option.bind_none, k_none, Kdi2]
    | dcn _ _ => simp only [h, Option.bind_none, k_none, Kdi2]
    | dct kvs =>
      simp only [h, Option.bind_some, Kdi2]
      cases keyW z with
      | none => exact k_none
      | some key => exact k_some
theorem k_di2s {ng : Bool} {z : Str} {kvs : KW} : Kdi2 ng (.d (.str z)) S Q (some (.dct kvs)) ↔ Q (.d (.bool (if ng then !(valW kvs (.inr z)).isSome else (valW kvs (.inr z)).isSome)), S) := .rfl
noncomputable def KdpO (v z : W) (k : Nat) (S : Mem) (ρ : Env') (P : OR' → Prop) : Option Ob → Prop
  | some (.dct kvs) => match keyW z with
    | some key => kvs.length < sizeLine ∧ P (.nx, ρ, S.set k (.dct (putD kvs key v)))
    | none => False
  | _ => False
noncomputable def Kdp3 (v p : W) (ρ : Env') (P : OR' → Prop) (z : WM) : Prop := Ok ((dctAt p z.2).bind fun d => (keyW z.1).bind fun k => if d.2.length < sizeLine then some (.nx, ρ, z.2.set d.1 (.dct (putD d.2 k v))) else none) P
noncomputable def Kdp2 (v : W) (i : ME) (ρ : Env') (P : OR' → Prop) (p : WM) : Prop := Ok (i ρ p.2) (Kdp3 v p.1 ρ P)
noncomputable def Kdp1 (o i : ME) (ρ : Env') (P : OR' → Prop) (v : WM) : Prop := Ok (o ρ v.2) (Kdp2 v.1 i ρ P)
theorem k_dput : Ok (sDPutW o i e ρ S) P ↔ Ok (e ρ S) (Kdp1 o i ρ P) := bind_fr fun v => bind2 _ rfl fun p => bind2 _ rfl fun z => Iff.rfl
theorem k_dp1_ {v : W} : Kdp1 o i ρ P (v, S) ↔ Ok (o ρ S) (Kdp2 v i ρ P) := .rfl
theorem k_dp2_ {v p : W} : Kdp2 v i ρ P (p, S) ↔ Ok (i ρ S) (Kdp3 v p ρ P) := .rfl
theorem k_dp3_ {v z : W} {k : Nat} : Kdp3 v (.loc k) ρ P (z, S) ↔ KdpO v z k S ρ P S[k]? := by
  unfold Kdp3 dctAt
  cases h : S[k]? with
  | none => simp only [h, Option.bind_none, k_none, KdpO]
  | some ob => cases ob with
    | lst _ => simp only [h, Option.bind_none, k_none, KdpO]
    | ins _ _ => simp only [h, Option.bind_none, k_none, KdpO]
    | ldct _ => simp only [h, Option.bind_none, k_none, KdpO]
    | dcn _ _ => simp only [h, Option.bind_none, k_none, KdpO]
    | dct kvs =>
      simp only [h, Option.bind_some, KdpO]
      cases keyW z with
      | none => exact k_none
      | some key => simp only [Option.bind_some, k_if, k_some]
theorem k_dpOs {v : W} {z : Str} {k : Nat} {kvs : KW} : KdpO v (.d (.str z)) k S ρ P (some (.dct kvs)) ↔ kvs.length < sizeLine ∧ P (.nx, ρ, S.set k (.dct (putD kvs (.inr z) v))) := .rfl
theorem k_dpOi {v : W} {z : Int} {k : Nat} {kvs : KW} : KdpO v (.d (.int z)) k S ρ P (some (.dct kvs)) ↔ kvs.length < sizeLine ∧ P (.nx, ρ, S.set k (.dct (putD kvs (.inl z) v))) := .rfl
noncomputable def Kps (Q : WM → Prop) (r : KW × Mem) : Prop := r.1.length ≤ 15 ∧ Q (.loc r.2.length, r.2 ++ [.dct (mergeD [] r.1)])
theorem k_disp {mp : MPs} : Ok (eDisp mp ρ S) Q ↔ Ok (mp ρ S) (Kps Q) := bind_fr fun r => by
  unfold Kps
  rw [k_if, k_some]
theorem k_ps_ {kvs : KW} : Kps Q (kvs, S) ↔ kvs.length ≤ 15 ∧ Q (.loc S.length, S ++ [.dct (mergeD [] kvs)]) := .rfl
section
variable {R : KW × Mem → Prop}
theorem k_psN : Ok (pNil ρ S) R ↔ R ([], S) := k_some
noncomputable def Kpc3 (key : Key) (v : W) (R : KW × Mem → Prop) (t : KW × Mem) : Prop := R ((key, v) :: t.1, t.2)
noncomputable def Kpc2 (key : Key) (r : MPs) (ρ : Env') (R : KW × Mem → Prop) (z : WM) : Prop := Ok (r ρ z.2) (Kpc3 key z.1 R)
noncomputable def Kpc1 (v : ME) (r : MPs) (ρ : Env') (R : KW × Mem → Prop) (p : WM) : Prop := match keyW p.1 with
  | some key => Ok (v ρ p.2) (Kpc2 key r ρ R)
  | none => False
theorem k_pC {k v : ME} {r : MPs} : Ok (pCons k v r ρ S) R ↔ Ok (k ρ S) (Kpc1 v r ρ R) := bind_fr fun p => by
  unfold Kpc1
  cases keyW p.1 with
  | none => exact k_none.symm
  | some key =>
    show Ok (v ρ p.2) (Kpc2 key r ρ R) ↔ Ok ((v ρ p.2).bind fun z => (r ρ z.2).bind fun t => some ((key, z.1) :: t.1, t.2)) R
    exact (bind_fr (R := Kpc2 key r ρ R) fun z => bind2 (Kpc3 key z.1 R) rfl fun t => some2 ((key, z.1) :: t.1, t.2) R rfl).symm
theorem k_pc1s {v : ME} {r : MPs} {z : Str} : Kpc1 v r ρ R (.d (.str z), S) ↔ Ok (v ρ S) (Kpc2 (.inr z) r ρ R) := .rfl
theorem k_pc2_ {key : Key} {r : MPs} {v : W} : Kpc2 key r ρ R (v, S) ↔ Ok (r ρ S) (Kpc3 key v R) := .rfl
theorem k_pc3_ {key : Key} {v : W} {kvs : KW} : Kpc3 key v R (kvs, S) ↔ R ((key, v) :: kvs, S) := .rfl
end
noncomputable def Kixc (tbl : List (Str × PyData)) (Q : WM → Prop) (p : WM) : Prop := Ok (match p.1 with
  | .d (.str z) => (tbl.lookup z).map fun d => (.d d, p.2)
  | _ => none) Q
theorem k_ixc {tbl : List (Str × PyData)} : Ok (eIxC tbl i ρ S) Q ↔ Ok (i ρ S) (Kixc tbl Q) := bind_fr fun y => Iff.rfl
theorem k_ixc_ {tbl : List (Str × PyData)} {z : Str} : Kixc tbl Q (.d (.str z), S) ↔ Kix Q S (tbl.lookup z) := by
  unfold Kixc
  dsimp only
  cases tbl.lookup z with
  | none => exact k_none
  | some d => exact k_some
noncomputable def Klr (Q : WM → Prop) (p : WM) : Prop := Ok ((itemsL p.1 p.2).bind fun us => (dOf us).bind fun ds => some (.d (.list ds.reverse), p.2)) Q
theorem k_lstRev : Ok (eLstRev a ρ S) Q ↔ Ok (a ρ S) (Klr Q) := bind_fr fun y => Iff.rfl
theorem k_lr_ {ds : List PyData} : Klr Q (.d (.list ds), S) ↔ Q (.d (.list ds.reverse), S) := by
  unfold Klr itemsL
  simp only [Option.bind_some, dOf_map, k_some]
theorem intsOf_map : ∀ ns : List Int, intsOf (ns.map fun i => W.d (.int i)) = some ns
  | [] => rfl
  | n :: ns => by show (intsOf (ns.map fun i => W.d (.int i))).map _ = _; rw [intsOf_map ns]; rfl
theorem k_sum {ns : List Int} : Ok (bSum [.d (.list (ns.map .int))] S) Q ↔ Q (.d (.int ns.sum), S) := by
  unfold bSum itemsL
  simp only [Option.bind_some, List.map_map]
  rw [show (W.d ∘ PyData.int) = fun i => W.d (.int i) from rfl, intsOf_map]
  exact k_some
theorem k_max {ns : List Int} (h : ns ≠ []) : Ok (bMax [.d (.list (ns.map .int))] S) Q ↔ Q (.d (.int (maxI ns)), S) := by
  unfold bMax itemsL
  simp only [Option.bind_some, List.map_map]
  rw [show (W.d ∘ PyData.int) = fun i => W.d (.int i) from rfl, intsOf_map]
  simp only [Option.bind_some]
  rw [if_neg (by simpa using h)]
  exact k_some
noncomputable def KiS (Q : WM → Prop) (S : Mem) : Option Nat → Prop
  | some c => Q (.d (.str ⟨#[c]⟩), S)
  | none => False
theorem k_ixS {z : Str} {i : Int} : Ok (oIx (.d (.str z)) (.d (.int i)) S) Q ↔ z.length ≤ sizeLine ∧ KiS Q S (atI z.cps.toList i) := by
  show Ok (if z.length ≤ sizeLine then (atI z.cps.toList i).map fun c => (W.d (.str ⟨#[c]⟩), S) else none) Q ↔ _
  rw [k_if]
  refine and_congr_right fun _ => ?_
  cases atI z.cps.toList i with
  | none => exact k_none
  | some c => exact k_some
theorem k_iS_ {c : Nat} : KiS Q S (some c) ↔ Q (.d (.str ⟨#[c]⟩), S) := .rfl
noncomputable def itS : W → Mem → Option (Itm × Mem) := fun w S => match w with
  | .d (.tuple ds) => some (.vals (ds.map .d), S)
  | .d (.list ds) => some (.vals (ds.map .d), S)
  | .loc n => match S[n]? with
    | some (.lst _) => some (.live n, S)
    | _ => none
  | _ => none
section
variable {a : ME} {I : Itm × Mem → Prop}
theorem k_iS : Ok (iSeqM a ρ S) I ↔ Ok (a ρ S) (Kit itS I) := bind_fr fun x => Iff.rfl
theorem k_it_ST {ds : List PyData} : Kit itS I (.d (.tuple ds), S) ↔ I (.vals (ds.map .d), S) := k_some
theorem k_it_SL {ds : List PyData} : Kit itS I (.d (.list ds), S) ↔ I (.vals (ds.map .d), S) := k_some
theorem k_it_Sl {n : Nat} : Kit itS I (.loc n, S) ↔ Kil n S I S[n]? := by
  unfold Kit itS
  cases h : S[n]? with
  | none => simp only [h, k_none, Kil]
  | some o => cases o <;> simp only [h, k_none, k_some, Kil]
end
noncomputable def Kch4 (h : F2) (y : W) (Q : WM → Prop) (u : WM) : Prop := Ok (h y u.1 u.2) Q
noncomputable def Kch3 (h : F2) (c : ME) (y : W) (ρ : Env') (Q : WM → Prop) (z : WM) : Prop := Ok (match z.1 with
  | .d (.bool true) => (c ρ z.2).bind fun u => h y u.1 u.2
  | .d (.bool false) => some (.d (.bool false), z.2)
  | _ => none) Q
noncomputable def Kch2 (k h : F2) (c : ME) (x : W) (ρ : Env') (Q : WM → Prop) (q : WM) : Prop := Ok (k x q.1 q.2) (Kch3 h c q.1 ρ Q)
noncomputable def Kch1 (k h : F2) (b c : ME) (ρ : Env') (Q : WM → Prop) (p : WM) : Prop := Ok (b ρ p.2) (Kch2 k h c p.1 ρ Q)
theorem k_chain {k h : F2} : Ok (eChain k h a b c ρ S) Q ↔ Ok (a ρ S) (Kch1 k h b c ρ Q) := bind_fr fun p => bind2 _ rfl fun q => bind2 _ rfl fun z => Iff.rfl
theorem k_ch1_ {k h : F2} {x : W} : Kch1 k h b c ρ Q (x, S) ↔ Ok (b ρ S) (Kch2 k h c x ρ Q) := .rfl
theorem k_ch2_ {k h : F2} {x y : W} : Kch2 k h c x ρ Q (y, S) ↔ Ok (k x y S) (Kch3 h c y ρ Q) := .rfl
theorem k_ch3t {h : F2} {y : W} : Kch3 h c y ρ Q (.d (.bool true), S) ↔ Ok (c ρ S) (Kch4 h y Q) := bind_fr fun u => Iff.rfl
theorem k_ch3f {h : F2} {y : W} : Kch3 h c y ρ Q (.d (.bool false), S) ↔ Q (.d (.bool false), S) := k_some
theorem k_ch4_ {h : F2} {y u : W} : Kch4 h y Q (u, S) ↔ Ok (h y u S) Q := .rfl
theorem k_lenXL {ds : List PyData} : Ok (bLenX [.d (.list ds)] S) Q ↔ Q (.d (.int ds.length), S) := k_lenL
theorem k_lenXT {ds : List PyData} : Ok (bLenX [.d (.tuple ds)] S) Q ↔ Q (.d (.int ds.length), S) := k_lenT
theorem k_lenXl {n : Nat} : Ok (bLenX [.loc n] S) Q ↔ Kl (Qlen Q S) S[n]? := k_lenl
theorem k_lenXS {z : Str} : Ok (bLenX [.d (.str z)] S) Q ↔ z.length ≤ sizeLine ∧ Q (.d (.int z.length), S) := by
  show Ok (if z.length ≤ sizeLine then some _ else none) Q ↔ _
  rw [k_if, k_some]
end
noncomputable def rInD (K : PySem.W.Frag) (d : Addr) : R2 := fun x y H Q => ∃ (z : Str) (r : Option Value), x = .str z ∧ y = .ref d ∧ PySem.W.nsIn K d z = some r ∧ Q (.bl r.isSome) H
theorem op_inCK {X : Cx} {K : PySem.W.Frag} {w : World} {d : Addr} {es : Array DictEntry} {n : Nat} (hK : X.K = K) (hw : X.w = w) (D : KDict K w d es n) : OpR X (compareOp .In) (rInD K d) := by subst hK; subst hw; exact op_in_kd D
noncomputable def inC (S : Mem) : Bool → Bool → Option (W × Mem)
  | true, _ => some (.d (.bool true), S)
  | false, true => some (.d (.bool false), S)
  | false, false => none
noncomputable def eInC (ks os : List Str) (i : ME) : ME := fun ρ S => (i ρ S).bind fun p => match p.1 with
  | .d (.str z) => inC p.2 (ks.any fun k => decide (k = z)) (os.any fun k => decide (k = z))
  | _ => none
theorem any_mem {ks : List Str} {z : Str} (h : (ks.any fun k => decide (k = z)) = true) : z ∈ ks := by
  obtain ⟨k, hk, e⟩ := List.any_eq_true.mp h
  rw [← of_decide_eq_true e]; exact hk
section
variable {K : PySem.W.Frag} {tb : List Addr}
theorem se_inC {a : Addr} {ks os : List Str} {ti : TE} {i : ME} (h : ∀ z ∈ ks, ∃ u, PySem.W.nsIn K a z = some (some u)) (g : ∀ z ∈ os, PySem.W.nsIn K a z = some none) (hi : SE K tb ti i) : SE K tb (tOp (rInD K a) ti (tC (.ref a))) (eInC ks os i) := fun A σ ρ S wv S' Q R E e q => by
  obtain ⟨⟨x, S1⟩, e1, g1⟩ := Option.bind_eq_some_iff.mp e
  dsimp only at g1
  split at g1
  · rename_i z
    cases hk : ks.any (fun k => decide (k = z)) with
    | true =>
      rw [hk] at g1
      cases g1
      refine hi A σ ρ S _ _ _ R E e1 fun y B N R1 r1 => ?_
      obtain rfl := WR.str r1
      obtain ⟨u, hu⟩ := h z (any_mem hk)
      exact ⟨z, some u, rfl, rfl, hu, q _ B N R1 (DR.bl true)⟩
    | false =>
      cases ho : os.any (fun k => decide (k = z)) with
      | true =>
        rw [hk, ho] at g1
        cases g1
        refine hi A σ ρ S _ _ _ R E e1 fun y B N R1 r1 => ?_
        obtain rfl := WR.str r1
        exact ⟨z, none, rfl, rfl, g z (any_mem ho), q _ B N R1 (DR.bl false)⟩
      | false => rw [hk, ho] at g1; cases g1
  · cases g1
end
theorem dct_tab {K : PySem.W.Frag} {w : World} {tb : List Addr} {a : Addr} {es : Array DictEntry} {n : Nat} (hl : K.lookup a = some ⟨.type "dict", none, .dict es n, #[]⟩) (hk : PySem.W.KeysLit w.params es.toList) {tbl : List (Str × PyData)}
    (h : ∀ p ∈ tbl, ∃ u v, PySem.W.nsIn K a p.1 = some (some u) ∧ RelV v u ∧ ∀ A, DR K tb A v p.2) (z : Str) (d : PyData) (e : tbl.lookup z = some d) : ∃ v, KDct K w a z v ∧ ∀ A, DR K tb A v d := by
  have hm : (z, d) ∈ tbl := by
    clear h hk hl
    induction tbl with
    | nil => cases e
    | cons p t ih =>
      obtain ⟨x, y⟩ := p
      rw [List.lookup_cons] at e
      split at e
      · rename_i hb
        cases e
        rw [eq_of_beq hb]; exact List.mem_cons_self
      · exact List.mem_cons_of_mem _ (ih e)
  obtain ⟨u, v, h1, h2, h3⟩ := h _ hm
  exact ⟨v, ⟨es, n, u, hl, hk, h1, h2⟩, h3⟩
section
variable {ρ : Env'} {S : Mem} {i : ME} {Q : WM → Prop} {ks os : List Str} {z : Str} {b : Bool}
noncomputable def Kic2 (Q : WM → Prop) (S : Mem) (b1 b2 : Bool) : Prop := Ok (inC S b1 b2) Q
noncomputable def Kic (ks os : List Str) (Q : WM → Prop) (p : WM) : Prop := Ok (match p.1 with
  | .d (.str z) => inC p.2 (ks.any fun k => decide (k = z)) (os.any fun k => decide (k = z))
  | _ => none) Q
theorem k_inC : Ok (eInC ks os i ρ S) Q ↔ Ok (i ρ S) (Kic ks os Q) := bind_fr fun x => Iff.rfl
theorem k_ic_ : Kic ks os Q (.d (.str z), S) ↔ Kic2 Q S (ks.any fun k => decide (k = z)) (os.any fun k => decide (k = z)) := .rfl
theorem k_ic_t : Kic2 Q S true b ↔ Q (.d (.bool true), S) := k_some
theorem k_ic_f : Kic2 Q S false true ↔ Q (.d (.bool false), S) := k_some
end
noncomputable def bDict : MF := fun ws S => match ws with
  | [w] => (dctAt w S).bind fun d => some (.loc S.length, S ++ [.dct d.2])
  | _ => none
noncomputable def bLenD : MF := fun ws S => match ws with
  | [w] => (dctAt w S).map fun d => (.d (.int d.2.length), S)
  | _ => none
section
variable {K : PySem.W.Frag} {tb : List Addr}
noncomputable def eIsD (o : ME) : ME := fun ρ S => (o ρ S).bind fun p => (dctAt p.1 p.2).map fun _ => (.d (.bool true), p.2)
noncomputable def rNInD (K : PySem.W.Frag) (d : Addr) : R2 := fun x y H Q => ∃ (z : Str) (r : Option Value), x = .str z ∧ y = .ref d ∧ PySem.W.nsIn K d z = some r ∧ Q (.bl (!r.isSome)) H
theorem op_ninCK {X : Cx} {w : World} {d : Addr} {es : Array DictEntry} {n : Nat} (hK : X.K = K) (hw : X.w = w) (D : KDict K w d es n) : OpR X (compareOp .NotIn) (rNInD K d) := by subst hK; subst hw; exact op_notIn_kd D
noncomputable def ninC (S : Mem) : Bool → Bool → Option (W × Mem)
  | true, _ => some (.d (.bool false), S)
  | false, true => some (.d (.bool true), S)
  | false, false => none
noncomputable def eNInC (ks os : List Str) (i : ME) : ME := fun ρ S => (i ρ S).bind fun p => match p.1 with
  | .d (.str z) => ninC p.2 (ks.any fun k => decide (k = z)) (os.any fun k => decide (k = z))
  | _ => none
theorem se_ninC {a : Addr} {ks os : List Str} {ti : TE} {i : ME} (h : ∀ z ∈ ks, ∃ u, PySem.W.nsIn K a z = some (some u)) (g : ∀ z ∈ os, PySem.W.nsIn K a z = some none) (hi : SE K tb ti i) : SE K tb (tOp (rNInD K a) ti (tC (.ref a))) (eNInC ks os i) := fun A σ ρ S wv S' Q R E e q => by
  obtain ⟨⟨x, S1⟩, e1, g1⟩ := Option.bind_eq_some_iff.mp e
  dsimp only at g1
  split at g1
  · rename_i z
    cases hk : ks.any (fun k => decide (k = z)) with
    | true =>
      rw [hk] at g1
      cases g1
      refine hi A σ ρ S _ _ _ R E e1 fun y B N R1 r1 => ?_
      obtain rfl := WR.str r1
      obtain ⟨u, hu⟩ := h z (any_mem hk)
      exact ⟨z, some u, rfl, rfl, hu, q _ B N R1 (DR.bl false)⟩
    | false =>
      cases ho : os.any (fun k => decide (k = z)) with
      | true =>
        rw [hk, ho] at g1
        cases g1
        refine hi A σ ρ S _ _ _ R E e1 fun y B N R1 r1 => ?_
        obtain rfl := WR.str r1
        exact ⟨z, none, rfl, rfl, g z (any_mem ho), q _ B N R1 (DR.bl true)⟩
      | false => rw [hk, ho] at g1; cases g1
  · cases g1
end
section
variable {ρ : Env'} {S : Mem} {i a : ME} {Q : WM → Prop} {ks os : List Str} {z : Str} {b : Bool} {n : Nat} {kvs : KW}
noncomputable def KbD (Q : WM → Prop) (S : Mem) : Option Ob → Prop
  | some (.dct kvs) => Q (.loc S.length, S ++ [.dct kvs])
  | _ => False
theorem k_bDict : Ok (bDict [.loc n] S) Q ↔ KbD Q S S[n]? := by
  unfold bDict dctAt
  cases h : S[n]? with
  | none => simp only [h, Option.bind_none, k_none, KbD]
  | some o => cases o <;> simp only [h, Option.bind_none, Option.bind_some, k_none, k_some, KbD]
theorem k_bDict_ : KbD Q S (some (.dct kvs)) ↔ Q (.loc S.length, S ++ [.dct kvs]) := .rfl
noncomputable def KbL (Q : WM → Prop) (S : Mem) : Option Ob → Prop
  | some (.dct kvs) => Q (.d (.int kvs.length), S)
  | _ => False
theorem k_bLenD : Ok (bLenD [.loc n] S) Q ↔ KbL Q S S[n]? := by
  unfold bLenD dctAt
  cases h : S[n]? with
  | none => simp only [h, Option.map_none, k_none, KbL]
  | some o => cases o <;> simp only [h, Option.map_none, Option.map_some, k_none, k_some, KbL]
theorem k_bLenD_ : KbL Q S (some (.dct kvs)) ↔ Q (.d (.int kvs.length), S) := .rfl
noncomputable def KisD (Q : WM → Prop) (p : WM) : Prop := Ok ((dctAt p.1 p.2).map fun _ => ((.d (.bool true) : W), p.2)) Q
theorem k_isD : Ok (eIsD a ρ S) Q ↔ Ok (a ρ S) (KisD Q) := bind_fr fun x => Iff.rfl
noncomputable def KisDo (Q : WM → Prop) (S : Mem) : Option Ob → Prop
  | some (.dct _) => Q (.d (.bool true), S)
  | _ => False
theorem k_isD_ : KisD Q (.loc n, S) ↔ KisDo Q S S[n]? := by
  unfold KisD dctAt
  cases h : S[n]? with
  | none => simp only [h, Option.map_none, k_none, KisDo]
  | some o => cases o <;> simp only [h, Option.map_none, Option.map_some, k_none, k_some, KisDo]
theorem k_isD2 : KisDo Q S (some (.dct kvs)) ↔ Q (.d (.bool true), S) := .rfl
noncomputable def Kni2 (Q : WM → Prop) (S : Mem) (b1 b2 : Bool) : Prop := Ok (ninC S b1 b2) Q
noncomputable def Kni (ks os : List Str) (Q : WM → Prop) (p : WM) : Prop := Ok (match p.1 with
  | .d (.str z) => ninC p.2 (ks.any fun k => decide (k = z)) (os.any fun k => decide (k = z))
  | _ => none) Q
theorem k_ninC : Ok (eNInC ks os i ρ S) Q ↔ Ok (i ρ S) (Kni ks os Q) := bind_fr fun x => Iff.rfl
theorem k_ni_ : Kni ks os Q (.d (.str z), S) ↔ Kni2 Q S (ks.any fun k => decide (k = z)) (os.any fun k => decide (k = z)) := .rfl
theorem k_ni_t : Kni2 Q S true b ↔ Q (.d (.bool false), S) := k_some
theorem k_ni_f : Kni2 Q S false true ↔ Q (.d (.bool true), S) := k_some
end
section
variable {ρ : Env'} {S : Mem} {g g1 : MG} {t t1 : MT} {mi mi1 : MI} {vs vs1 : List Nat} {e : ME} {mk : List W → Mem → Option (W × Mem)} {Q : WM → Prop} {R : List W → Mem → Prop} {im : Itm} {L : List W × Mem → Prop}
noncomputable def Klc21 (g : MG) (t : MT) (mi1 : MI) (vs1 : List Nat) (g1 : MG) (t1 : MT) (e : ME) (mk : List W → Mem → Option (W × Mem)) (ρ : Env') (Q : WM → Prop) (p : Itm × Mem) : Prop := Ok (lc2M p.1 g t mi1 vs1 g1 t1 e (p.1.len p.2) 0 ρ p.2) (Klc2 mk Q)
theorem k_lcc : Ok (eLc2 mi vs g t mi1 vs1 g1 t1 e mk ρ S) Q ↔ Ok (mi ρ S) (Klc21 g t mi1 vs1 g1 t1 e mk (wipeE ρ vs) Q) := bind_fr fun x => bind2 _ rfl fun y => Iff.rfl
theorem k_lcc_ : Klc21 g t mi1 vs1 g1 t1 e mk ρ Q (im, S) ↔ Ok (lc2M im g t mi1 vs1 g1 t1 e (im.len S) 0 ρ S) (Klc2 mk Q) := .rfl
noncomputable def Kl2r (R : List W → Mem → Prop) (p : List W × Mem) : Prop := R p.1 p.2
theorem k_l2r_ {ws : List W} : Kl2r R (ws, S) ↔ R ws S := .rfl
noncomputable def Kl2m (vs1 : List Nat) (g1 : MG) (t1 : MT) (e : ME) (ρ : Env') (R : List W → Mem → Prop) (p : Itm × Mem) : Prop := Ok (lcM p.1 g1 t1 e (p.1.len p.2) 0 (wipeE ρ vs1) p.2) (Kl2r R)
theorem k_l2m_ : Kl2m vs1 g1 t1 e ρ R (im, S) ↔ Ok (lcM im g1 t1 e (im.len S) 0 (wipeE ρ vs1) S) (Kl2r R) := .rfl
noncomputable def Kl2t (mi1 : MI) (vs1 : List Nat) (g1 : MG) (t1 : MT) (e : ME) (ρ : Env') (R : List W → Mem → Prop) (q : Bool × Mem) : Prop := match q.1 with
  | true => Ok (mi1 ρ q.2) (Kl2m vs1 g1 t1 e ρ R)
  | false => R [] q.2
theorem k_l2t_t : Kl2t mi1 vs1 g1 t1 e ρ R (true, S) ↔ Ok (mi1 ρ S) (Kl2m vs1 g1 t1 e ρ R) := .rfl
theorem k_l2t_f : Kl2t mi1 vs1 g1 t1 e ρ R (false, S) ↔ R [] S := .rfl
noncomputable def Kl2 (t : MT) (mi1 : MI) (vs1 : List Nat) (g1 : MG) (t1 : MT) (e : ME) (R : List W → Mem → Prop) (p : Env' × Mem) : Prop := Ok (t p.1 p.2) (Kl2t mi1 vs1 g1 t1 e p.1 R)
theorem k_l2_ : Kl2 t mi1 vs1 g1 t1 e R (ρ, S) ↔ Ok (t ρ S) (Kl2t mi1 vs1 g1 t1 e ρ R) := .rfl
theorem lc2_vals {ws : List W} (Inv : Nat → List W → Mem → Prop) (h0 : Inv 0 [] S)
    (step : ∀ i w us S, ws[i]? = some w → Inv i us S → Ok (g w ρ S) (Kl2 t mi1 vs1 g1 t1 e fun xs S' => Inv (i + 1) (us ++ xs) S'))
    (stop : ∀ us S, Inv ws.length us S → L (us, S)) : Ok (lc2M (.vals ws) g t mi1 vs1 g1 t1 e (Itm.len (.vals ws) S) 0 ρ S) L := by
  have key : ∀ (k i : Nat) us S, i + k = ws.length → Inv i us S → ∃ xs S', lc2M (.vals ws) g t mi1 vs1 g1 t1 e k i ρ S = some (xs, S') ∧ L (us ++ xs, S') := by
    intro k
    induction k with
    | zero =>
      intro i us S hi h
      have e0 : i = ws.length := by omega
      subst e0
      have h1 : Itm.at_ (.vals ws) S ws.length = some none := by show some ws[ws.length]? = _; rw [List.getElem?_eq_none (Nat.le_refl _)]
      unfold lc2M
      rw [h1]
      exact ⟨[], S, rfl, by rw [List.append_nil]; exact stop us S h⟩
    | succ k ih =>
      intro i us S hi h
      have hlt : i < ws.length := by omega
      have h1 : Itm.at_ (.vals ws) S i = some (some ws[i]) := by show some ws[i]? = _; rw [List.getElem?_eq_getElem hlt]
      obtain ⟨⟨ρ1, S1⟩, e1, ⟨c, S2⟩, e2, h2⟩ := step i ws[i] us S (List.getElem?_eq_getElem hlt) h
      unfold lc2M
      rw [h1]
      have e2 : t ρ1 S1 = some (c, S2) := e2
      simp only [e1, Option.bind_some, e2]
      cases c with
      | true =>
        obtain ⟨⟨im, S3⟩, e3, ⟨xs, S4⟩, e4, h4⟩ := h2
        have e3 : mi1 ρ1 S2 = some (im, S3) := e3
        have e4 : lcM im g1 t1 e (im.len S3) 0 (wipeE ρ1 vs1) S3 = some (xs, S4) := e4
        simp only [e3, Option.bind_some, e4, if_true]
        obtain ⟨ys, S5, e5, h5⟩ := ih (i + 1) (us ++ xs) S4 (by omega) h4
        rw [e5]
        exact ⟨xs ++ ys, S5, rfl, by rwa [List.append_assoc] at h5⟩
      | false =>
        simp only [Bool.false_eq_true, if_false]
        have h2 : Inv (i + 1) (us ++ []) S2 := h2
        rw [List.append_nil] at h2
        exact ih (i + 1) us S2 (by omega) h2
  obtain ⟨xs, S', e1, h⟩ := key ws.length 0 [] S (by omega) h0
  exact ⟨_, e1, h⟩
theorem lc2_map {α : Type} {xs : List α} (f : α → W) (u : α → List W)
    (step : ∀ (j : Nat) (a : α), xs[j]? = some a → ∀ (R : List W → Mem → Prop), R (u a) S → Ok (g (f a) ρ S) (Kl2 t mi1 vs1 g1 t1 e R)) (q : L ((xs.map u).flatten, S)) : Ok (lc2M (.vals (xs.map f)) g t mi1 vs1 g1 t1 e (Itm.len (.vals (xs.map f)) S) 0 ρ S) L := by
  refine lc2_vals (fun i us S' => S' = S ∧ us = ((xs.take i).map u).flatten) ⟨rfl, by simp⟩ ?_ ?_
  · rintro i w us S' hw ⟨rfl, rfl⟩
    rw [List.getElem?_map] at hw
    obtain ⟨a, ha, rfl⟩ := Option.map_eq_some_iff.mp hw
    have ht : xs.take (i + 1) = xs.take i ++ [a] := by rw [List.take_add_one, ha]; rfl
    refine step i a ha _ ⟨rfl, ?_⟩
    rw [ht, List.map_append, List.flatten_append]
    simp
  · rintro us S' ⟨rfl, rfl⟩
    rw [List.length_map, List.take_length]
    exact q
end
noncomputable def isLd : W → Option Bool
  | .d (.list _) => some true
  | _ => none
noncomputable def eIsLd (o : ME) : ME := fun ρ S => (o ρ S).bind fun p => (isLd p.1).map fun b => (.d (.bool b), p.2)
section
variable {K : PySem.W.Frag} {tb : List Addr}
end
section
variable {ρ : Env'} {S : Mem} {a : ME} {Q : WM → Prop} {ds : List PyData}
noncomputable def KisLd (Q : WM → Prop) (p : WM) : Prop := Ok ((isLd p.1).map fun b => (.d (.bool b), p.2)) Q
theorem k_isLd : Ok (eIsLd a ρ S) Q ↔ Ok (a ρ S) (KisLd Q) := bind_fr fun x => Iff.rfl
theorem k_isLd_ : KisLd Q (.d (.list ds), S) ↔ Q (.d (.bool true), S) := k_some
end
section
variable {ρ : Env'} {S : Mem} {m : MA} {g : MG} {b : MS} {I : Itm × Mem → Prop} {P : OR' → Prop} {Q : WM → Prop}
noncomputable def Kel (I : Itm × Mem → Prop) (p : List W × Mem) : Prop := Ok (match p.1 with
  | [.d (.list ds)] => some (.vals (numW ds), p.2)
  | [.loc n] => match p.2[n]? with
    | some (.lst _) => some (.enl n, p.2)
    | _ => none
  | _ => none) I
theorem k_enl : Ok (iEnumLM m ρ S) I ↔ Ok (m ρ S) (Kel I) := bind_fr fun x => Iff.rfl
noncomputable def Ken (n : Nat) (S : Mem) (I : Itm × Mem → Prop) : Option Ob → Prop
  | some (.lst _) => I (.enl n, S)
  | _ => False
theorem k_el_ {n : Nat} : Kel I ([.loc n], S) ↔ Ken n S I S[n]? := by
  unfold Kel
  cases h : S[n]? with
  | none => simp only [h, k_none, Ken]
  | some o => cases o <;> simp only [h, k_none, k_some, Ken]
theorem k_en_ {n : Nat} {ws : List W} : Ken n S I (some (.lst ws)) ↔ I (.enl n, S) := .rfl
theorem k_di2i {ng : Bool} {z : Int} {kvs : KW} : Kdi2 ng (.d (.int z)) S Q (some (.dct kvs)) ↔ Q (.d (.bool (if ng then !(valW kvs (.inl z)).isSome else (valW kvs (.inl z)).isSome)), S) := .rfl
theorem dOf_map' : ∀ {ds : List PyData}, dOf (ds.map W.d) = some ds
  | [] => rfl
  | d :: ds => by
    show ((dOf (ds.map W.d)).map fun l => d :: l) = _
    rw [dOf_map']; rfl
theorem numW_at {ds : List PyData} {i : Nat} : (numW ds)[i]? = ds[i]?.map fun d => W.d (.tuple [.int (i : Int), d]) := by
  unfold numW
  rw [List.getElem?_map, List.getElem?_zipIdx]
  cases ds[i]? with
  | none => rfl
  | some d => simp
theorem for_enl {ds : List PyData} {n : Nat} (Inv : Nat → Env' → Mem → Prop) (h0 : Inv 0 ρ S) (hl : S[n]? = some (.lst (ds.map .d)))
    (at_ : ∀ i ρ S, Inv i ρ S → S[n]? = some (.lst (ds.map .d)))
    (step : ∀ i d ρ S, ds[i]? = some d → Inv i ρ S → Ok (g (.d (.tuple [.int (i : Int), d])) ρ S) (Kg b (Kturn g b (Inv (i + 1)) P)))
    (stop : ∀ ρ S, Inv ds.length ρ S → P (.nx, ρ, S)) : Ok (forM (.enl n) g b (Itm.len (.enl n) S) 0 ρ S) P := by
  have e : Itm.len (.enl n) S = ds.length := by show (match S[n]? with | some (.lst ws) => ws.length | _ => 0) = _; rw [hl]; exact List.length_map _
  rw [e]
  have key : ∀ i ρ S, Inv i ρ S → Itm.at_ (.enl n) S i = some (ds[i]?.map fun d => W.d (.tuple [.int (i : Int), d])) := fun i ρ S h => by
    show (match S[n]? with | some (.lst us) => (dOf us).map fun ds => (numW ds)[i]? | _ => none) = _
    rw [at_ i ρ S h]
    show (dOf (ds.map W.d)).map _ = _
    rw [dOf_map']
    show some ((numW ds)[i]?) = _
    rw [numW_at]
  refine for_it (im := .enl n) (n := ds.length) Inv (fun i ρ S hi h => ⟨_, ?_, step i ds[i] ρ S (List.getElem?_eq_getElem hi) h⟩) (fun ρ S h => ⟨?_, stop ρ S h⟩) ds.length 0 ρ S (by omega) h0
  · rw [key i ρ S h, List.getElem?_eq_getElem hi]; rfl
  · rw [key _ ρ S h, List.getElem?_eq_none (Nat.le_refl _)]; rfl
end
section
variable {K : PySem.W.Frag} {tb : List Addr}
end
end Pd
namespace fam
open PySem PySem.Spec PyProof.Rows L2 GxR Gx Pd
noncomputable def b_kinds_inside  : MS :=
    (sSeq (sIf (eB (eOp (oIn false) (eOp oIx (eVar 0) (eC (.int (0)))) (eC (.tuple [.str "int", .str "bool", .str "unit", .str "record"])))) (sRet (eTup aNil)) sNx)
    (sSeq (sIf (eB (eOp (oEq false) (eOp oIx (eVar 0) (eC (.int (0)))) (eC (.str "tuple")))) (sRet (eOp oIx (eVar 0) (eC (.int (1))))) sNx)
    (sRet (eTup (aCons (eOp oIx (eVar 0) (eC (.int (1)))) aNil)))))
noncomputable def m_kinds_inside : MF := dfn 1 0 false (b_kinds_inside)
theorem ar_kinds_inside : Ar 1 (m_kinds_inside) := ar_dfn
noncomputable def b_is_copy (r_is_copy : MF) : MS :=
    (sSeq (sIf (eB (eOp (oIn false) (eOp oIx (eVar 0) (eC (.int (0)))) (eTup (aCons (eC (.str "maybe")) (aCons (eC (.str "tuple")) aNil))))) (sRet (eAll (iTupM (eCall m_kinds_inside (aCons (eVar 0) aNil))) [1] (gN 1) (eCall r_is_copy (aCons (eVar 1) aNil)))) sNx)
    (sRet (eOp (oIn false) (eOp oIx (eVar 0) (eC (.int (0)))) (eTup (aCons (eC (.str "int")) (aCons (eC (.str "bool")) (aCons (eC (.str "unit")) (aCons (eC (.str "shared")) aNil))))))))
noncomputable def m_is_copy : Nat → MF
  | 0 => mNone
  | n + 1 => dfn 1 1 false (b_is_copy (m_is_copy n))
theorem ar_is_copy : ∀ n, Ar 1 (m_is_copy n)
  | 0 => ar_none
  | _ + 1 => by unfold m_is_copy; exact ar_dfn
noncomputable def b_is_item  : MS :=
    (sRet (eAndV (eIs false (eVar 1)) (eAndV (eNotV (eIs true (eVar 1))) (eChain oLe oLt (eC (.int (0))) (eVar 1) (eCall bLen (aCons (eVar 0) aNil))))))
noncomputable def m_is_item : MF := dfn 2 0 false (b_is_item)
theorem ar_is_item : Ar 2 (m_is_item) := ar_dfn
noncomputable def b_fields_of  : MS :=
    (sSeq (sFor (iTupM (eVar 0)) (gTup' (gsCons (gN 2) (gsCons (gN 3) gsNil))) (sIf (eB (eOp (oEq false) (eVar 2) (eVar 1))) (sRet (eVar 3)) sNx))
    (sRet (eTup aNil)))
noncomputable def m_fields_of : MF := dfn 2 2 false (b_fields_of)
theorem ar_fields_of : Ar 2 (m_fields_of) := ar_dfn
noncomputable def b_kind_after  : MS :=
    (sSeq (sIf (eAnd (eB (eOp (oEq false) (eOp oIx (eVar 1) (eC (.int (0)))) (eC (.str "tuple")))) (eB (eCall m_is_item (aCons (eOp oIx (eVar 1) (eC (.int (1)))) (aCons (eVar 2) aNil))))) (sRet (eOp oIx (eOp oIx (eVar 1) (eC (.int (1)))) (eVar 2))) sNx)
    (sSeq (sIf (eB (eOp (oEq false) (eOp oIx (eVar 1) (eC (.int (0)))) (eC (.str "record")))) (sFor (iTupM (eCall m_fields_of (aCons (eVar 0) (aCons (eOp oIx (eVar 1) (eC (.int (1)))) aNil)))) (gTup' (gsCons (gN 3) (gsCons (gN 4) gsNil))) (sIf (eB (eOp (oEq false) (eVar 3) (eVar 2))) (sRet (eVar 4)) sNx)) sNx)
    (sSeq (sIf (eAnd (eB (eOp (oEq false) (eOp oIx (eVar 1) (eC (.int (0)))) (eC (.str "maybe")))) (eB (eOp (oEq false) (eVar 2) (eC (.str "?"))))) (sRet (eOp oIx (eVar 1) (eC (.int (1))))) sNx)
    (sSeq (sIf (eAnd (eOr (eB (eOp (oEq false) (eOp oIx (eVar 1) (eC (.int (0)))) (eC (.str "box")))) (eB (eOp (oIn false) (eOp oIx (eVar 1) (eC (.int (0)))) (eC (.tuple [.str "shared", .str "exclusive"]))))) (eB (eOp (oEq false) (eVar 2) (eC (.str "^"))))) (sRet (eOp oIx (eVar 1) (eC (.int (1))))) sNx)
    sNone))))
noncomputable def m_kind_after : MF := dfn 3 2 false (b_kind_after)
theorem ar_kind_after : Ar 3 (m_kind_after) := ar_dfn
noncomputable def b_kinds_along  : MS :=
    (sSeq (sAsg (eVar 0) (gTup' (gsCons (gN 3) (gsCons (gN 4) gsNil))))
    (sSeq (sIf (eB (eDIn true (eVar 3) (eVar 2))) sNone sNx)
    (sSeq (sAsg (eLstL (aCons (eDGet (eVar 2) (eVar 3)) aNil)) (gN 5))
    (sSeq (sFor (iTupM (eVar 4)) (gN 6) (sDrop (eBm mAppend (eVar 5) (aCons (eCall m_kind_after (aCons (eVar 1) (aCons (eOp oIx (eVar 5) (eUn oNeg (eC (.int (1))))) (aCons (eVar 6) aNil)))) aNil))))
    (sRet (eVar 5))))))
noncomputable def m_kinds_along : MF := dfn 3 4 true (b_kinds_along)
theorem ar_kinds_along : Ar 3 (m_kinds_along) := ar_dfn
noncomputable def b_kind_at  : MS :=
    (sRet (eOp oIx (eCall m_kinds_along (aCons (eVar 0) (aCons (eVar 1) (aCons (eVar 2) aNil)))) (eUn oNeg (eC (.int (1))))))
noncomputable def m_kind_at : MF := dfn 3 0 false (b_kind_at)
theorem ar_kind_at : Ar 3 (m_kind_at) := ar_dfn
noncomputable def b_function_named  : MS :=
    (sSeq (sFor (iTupM (eOp oIx (eVar 0) (eC (.int (1))))) (gN 2) (sIf (eB (eOp (oEq false) (eOp oIx (eVar 2) (eC (.int (0)))) (eVar 1))) (sRet (eVar 2)) sNx))
    (sRet (eC .none)))
noncomputable def m_function_named : MF := dfn 2 1 false (b_function_named)
theorem ar_function_named : Ar 2 (m_function_named) := ar_dfn
noncomputable def b_parts_of  : MS :=
    (sSeq (sAsg (eOp oIx (eVar 0) (eC (.int (0)))) (gN 1))
    (sSeq (sIf (eB (eOp (oIn false) (eVar 1) (eTup (aCons (eC (.str "some")) (aCons (eC (.str "box")) (aCons (eC (.str "unbox")) (aCons (eC (.str "not")) (aCons (eC (.str "join")) aNil)))))))) (sRet (eTup (aCons (eOp oIx (eVar 0) (eC (.int (1)))) aNil))) sNx)
    (sSeq (sIf (eB (eOp (oEq false) (eVar 1) (eC (.str "tuple")))) (sRet (eOp oIx (eVar 0) (eC (.int (1))))) sNx)
    (sSeq (sIf (eB (eOp (oIn false) (eVar 1) (eTup (aCons (eC (.str "record")) (aCons (eC (.str "call")) (aCons (eC (.str "spawn")) aNil)))))) (sRet (eOp oIx (eVar 0) (eC (.int (2))))) sNx)
    (sSeq (sIf (eB (eOp (oEq false) (eVar 1) (eC (.str "swap")))) (sRet (eTup (aCons (eOp oIx (eVar 0) (eC (.int (2)))) aNil))) sNx)
    (sSeq (sIf (eB (eOp (oEq false) (eVar 1) (eC (.str "op")))) (sRet (eTup (aCons (eOp oIx (eVar 0) (eC (.int (2)))) (aCons (eOp oIx (eVar 0) (eC (.int (3)))) aNil)))) sNx)
    (sRet (eTup aNil))))))))
noncomputable def m_parts_of : MF := dfn 1 1 false (b_parts_of)
theorem ar_parts_of : Ar 1 (m_parts_of) := ar_dfn
noncomputable def b_place_in  : MS :=
    (sSeq (sIf (eB (eOp (oEq false) (eOp oIx (eVar 0) (eC (.int (0)))) (eC (.str "borrow")))) (sRet (eOp oIx (eVar 0) (eC (.int (2))))) sNx)
    (sRet (eOp oIx (eVar 0) (eC (.int (1))))))
noncomputable def m_place_in : MF := dfn 1 0 false (b_place_in)
theorem ar_place_in : Ar 1 (m_place_in) := ar_dfn
noncomputable def b_kind_fetched  : MS :=
    (sSeq (sAsg (eOp oIx (eVar 2) (eC (.int (0)))) (gN 3))
    (sSeq (sIf (eB (eOp (oEq false) (eVar 3) (eC (.str "record")))) (sRet (eTup (aCons (eC (.str "record")) (aCons (eOp oIx (eVar 2) (eC (.int (1)))) aNil)))) sNx)
    (sSeq (sIf (eB (eOp (oEq false) (eVar 3) (eC (.str "call")))) (sRet (eOp oIx (eCall m_function_named (aCons (eVar 0) (aCons (eOp oIx (eVar 2) (eC (.int (1)))) aNil))) (eC (.int (2))))) sNx)
    (sSeq (sIf (eB (eOp (oEq false) (eVar 3) (eC (.str "spawn")))) (sRet (eTup (aCons (eC (.str "task")) (aCons (eOp oIx (eCall m_function_named (aCons (eVar 0) (aCons (eOp oIx (eVar 2) (eC (.int (1)))) aNil))) (eC (.int (2)))) aNil)))) sNx)
    (sSeq (sAsg (eCallKw m_kind_at g12 (aCons (eCall m_place_in (aCons (eVar 2) aNil)) aNil) (aCons (eOp oIx (eVar 0) (eC (.int (0)))) (aCons (eVar 1) aNil))) (gN 4))
    (sSeq (sIf (eB (eOp (oEq false) (eVar 3) (eC (.str "borrow")))) (sRet (eTup (aCons (eOp oIx (eVar 2) (eC (.int (1)))) (aCons (eVar 4) aNil)))) sNx)
    (sRet (eVar 4))))))))
noncomputable def m_kind_fetched : MF := dfn 3 2 false (b_kind_fetched)
theorem ar_kind_fetched : Ar 3 (m_kind_fetched) := ar_dfn
noncomputable def b_kind_made  : MS :=
    (sSeq (sAsg (eOp oIx (eVar 2) (eC (.int (0)))) (gN 4))
    (sSeq (sIf (eB (eOp (oIn false) (eVar 4) (eTup (aCons (eC (.str "int")) (aCons (eC (.str "bool")) (aCons (eC (.str "unit")) aNil)))))) (sRet (eTup (aCons (eVar 4) aNil))) sNx)
    (sSeq (sIf (eB (eOp (oIn false) (eVar 4) (eTup (aCons (eC (.str "is")) (aCons (eC (.str "not")) aNil))))) (sRet (eTup (aCons (eC (.str "bool")) aNil))) sNx)
    (sSeq (sIf (eB (eOp (oEq false) (eVar 4) (eC (.str "op")))) (sRet (eIxC [("+", .tuple [.str "int"]), ("-", .tuple [.str "int"]), ("*", .tuple [.str "int"]), ("<", .tuple [.str "bool"]), ("==", .tuple [.str "bool"]), ("and", .tuple [.str "bool"]), ("or", .tuple [.str "bool"])] (eOp oIx (eVar 2) (eC (.int (1)))))) sNx)
    (sSeq (sIf (eB (eOp (oEq false) (eVar 4) (eC (.str "none")))) (sRet (eTup (aCons (eC (.str "maybe")) (aCons (eOp oIx (eVar 2) (eC (.int (1)))) aNil)))) sNx)
    (sSeq (sIf (eB (eOp (oEq false) (eVar 4) (eC (.str "some")))) (sRet (eTup (aCons (eC (.str "maybe")) (aCons (eOp oIx (eVar 3) (eC (.int (0)))) aNil)))) sNx)
    (sSeq (sIf (eB (eOp (oEq false) (eVar 4) (eC (.str "box")))) (sRet (eTup (aCons (eC (.str "box")) (aCons (eOp oIx (eVar 3) (eC (.int (0)))) aNil)))) sNx)
    (sSeq (sIf (eB (eOp (oEq false) (eVar 4) (eC (.str "tuple")))) (sRet (eTup (aCons (eC (.str "tuple")) (aCons (eCall bTuple (aCons (eVar 3) aNil)) aNil)))) sNx)
    (sSeq (sIf (eB (eOp (oIn false) (eVar 4) (eTup (aCons (eC (.str "unbox")) (aCons (eC (.str "join")) aNil))))) (sRet (eOp oIx (eOp oIx (eVar 3) (eC (.int (0)))) (eC (.int (1))))) sNx)
    (sRet (eCall m_kind_fetched (aCons (eVar 0) (aCons (eVar 1) (aCons (eVar 2) aNil))))))))))))))
noncomputable def m_kind_made : MF := dfn 4 1 false (b_kind_made)
theorem ar_kind_made : Ar 4 (m_kind_made) := ar_dfn
noncomputable def b_Graph_init (C_Graph C_Lowering : Addr)  : MS :=
    (sSeq (sAsg (eVar 1) (gTup' (gsCons (gN 2) (gsCons (gN 3) (gsCons (gN 4) (gsCons (gN 5) (gsCons (gN 6) gsNil)))))))
    (sSeq (sFldW C_Graph (eVar 0) "name" (eVar 2))
    (sSeq (sFldW C_Graph (eVar 0) "parameters" (eCall bTuple (aCons (eLc (iTupM (eVar 3)) [7, 6] (gTup' (gsCons (gN 7) (gsCons (gN 6) gsNil))) tYesM (eVar 7) mkF) aNil)))
    (sSeq (sFldW C_Graph (eVar 0) "sources" (eVar 5))
    (sSeq (sFldW C_Graph (eVar 0) "result" (eVar 4))
    (sSeq (sFldW C_Graph (eVar 0) "kinds" (eDc (iTupM (eVar 3)) [7, 8] (gTup' (gsCons (gN 7) (gsCons (gN 8) gsNil))) tYesM (eVar 7) (eVar 8)))
    (sSeq (sFldW C_Graph (eVar 0) "points" (eLstL aNil))
    (sFldW C_Graph (eVar 0) "successors" (eLstL aNil)))))))))
noncomputable def m_Graph_init (C_Graph C_Lowering : Addr) : MF := dfn 2 7 false (b_Graph_init C_Graph C_Lowering)
theorem ar_Graph_init {C_Graph C_Lowering : Addr} : Ar 2 (m_Graph_init C_Graph C_Lowering) := ar_dfn
noncomputable def b_Lowering_init (C_Graph C_Lowering : Addr)  : MS :=
    (sSeq (sFldW C_Lowering (eVar 0) "program" (eVar 1))
    (sSeq (sFldW C_Lowering (eVar 0) "graph" (eMake C_Graph (m_Graph_init C_Graph C_Lowering) (aCons (eVar 2) aNil)))
    (sSeq (sFldW C_Lowering (eVar 0) "scope" (eCall bListL (aCons (eFld C_Graph (eFld C_Lowering (eVar 0) "graph") "parameters") aNil)))
    (sFldW C_Lowering (eVar 0) "temporaries" (eC (.int (0)))))))
noncomputable def m_Lowering_init (C_Graph C_Lowering : Addr) : MF := dfn 3 0 false (b_Lowering_init C_Graph C_Lowering)
theorem ar_Lowering_init {C_Graph C_Lowering : Addr} : Ar 3 (m_Lowering_init C_Graph C_Lowering) := ar_dfn
noncomputable def b_Lowering_add_end (C_Graph C_Lowering : Addr)  : MS :=
    (sSeq (sDrop (eBm mAppend (eFld C_Graph (eFld C_Lowering (eVar 0) "graph") "points") (aCons (eVar 1) aNil)))
    (sDrop (eBm mAppend (eFld C_Graph (eFld C_Lowering (eVar 0) "graph") "successors") (aCons (eTup aNil) aNil))))
noncomputable def m_Lowering_add_end (C_Graph C_Lowering : Addr) : MF := dfn 2 0 false (b_Lowering_add_end C_Graph C_Lowering)
theorem ar_Lowering_add_end {C_Graph C_Lowering : Addr} : Ar 2 (m_Lowering_add_end C_Graph C_Lowering) := ar_dfn
noncomputable def b_Lowering_add_point (C_Graph C_Lowering : Addr)  : MS :=
    (sSeq (sDrop (eBm mAppend (eFld C_Graph (eFld C_Lowering (eVar 0) "graph") "points") (aCons (eVar 1) aNil)))
    (sSeq (sDrop (eBm mAppend (eFld C_Graph (eFld C_Lowering (eVar 0) "graph") "successors") (aCons (eTup (aCons (eCall bLen (aCons (eFld C_Graph (eFld C_Lowering (eVar 0) "graph") "points") aNil)) aNil)) aNil)))
    (sRet (eOp oSub (eCall bLen (aCons (eFld C_Graph (eFld C_Lowering (eVar 0) "graph") "points") aNil)) (eC (.int (1)))))))
noncomputable def m_Lowering_add_point (C_Graph C_Lowering : Addr) : MF := dfn 2 0 false (b_Lowering_add_point C_Graph C_Lowering)
theorem ar_Lowering_add_point {C_Graph C_Lowering : Addr} : Ar 2 (m_Lowering_add_point C_Graph C_Lowering) := ar_dfn
noncomputable def b_Lowering_add_drops (C_Graph C_Lowering : Addr)  : MS :=
    (sFor (iRevM (eVar 1)) (gN 2) (sDrop (eMeth C_Lowering "add_point" (m_Lowering_add_point C_Graph C_Lowering) (eVar 0) (aCons (eTup (aCons (eC (.str "drop")) (aCons (eVar 2) aNil))) aNil))))
noncomputable def m_Lowering_add_drops (C_Graph C_Lowering : Addr) : MF := dfn 2 1 false (b_Lowering_add_drops C_Graph C_Lowering)
theorem ar_Lowering_add_drops {C_Graph C_Lowering : Addr} : Ar 2 (m_Lowering_add_drops C_Graph C_Lowering) := ar_dfn
noncomputable def b_Lowering_add_leave (C_Graph C_Lowering : Addr)  : MS :=
    (sSeq (sDrop (eMeth C_Lowering "add_drops" (m_Lowering_add_drops C_Graph C_Lowering) (eVar 0) (aCons (eFld C_Lowering (eVar 0) "scope") aNil)))
    (sDrop (eMeth C_Lowering "add_end" (m_Lowering_add_end C_Graph C_Lowering) (eVar 0) (aCons (eTup (aCons (eC (.str "leave")) (aCons (eVar 1) aNil))) aNil))))
noncomputable def m_Lowering_add_leave (C_Graph C_Lowering : Addr) : MF := dfn 2 0 false (b_Lowering_add_leave C_Graph C_Lowering)
theorem ar_Lowering_add_leave {C_Graph C_Lowering : Addr} : Ar 2 (m_Lowering_add_leave C_Graph C_Lowering) := ar_dfn
noncomputable def b_instruction_for  : MS :=
    (sSeq (sAsg (eOp oIx (eVar 0) (eC (.int (0)))) (gN 4))
    (sSeq (sIf (eB (eOp (oIn false) (eVar 4) (eTup (aCons (eC (.str "int")) (aCons (eC (.str "bool")) (aCons (eC (.str "unit")) (aCons (eC (.str "none")) aNil))))))) (sRet (eTup (aCons (eC (.str "set")) (aCons (eVar 2) (aCons (eVar 0) aNil))))) sNx)
    (sSeq (sIf (eB (eOp (oIn false) (eVar 4) (eTup (aCons (eC (.str "some")) (aCons (eC (.str "box")) (aCons (eC (.str "tuple")) aNil)))))) (sRet (eTup (aCons (eC (.str "make")) (aCons (eVar 2) (aCons (eVar 4) (aCons (eVar 3) aNil)))))) sNx)
    (sSeq (sIf (eB (eOp (oEq false) (eVar 4) (eC (.str "record")))) (sRet (eTup (aCons (eC (.str "make")) (aCons (eVar 2) (aCons (eOp oIx (eVar 0) (eC (.int (1)))) (aCons (eVar 3) aNil)))))) sNx)
    (sSeq (sIf (eB (eOp (oEq false) (eVar 4) (eC (.str "use")))) (sRet (eTup (aCons (eIf (eB (eCall (m_is_copy 14) (aCons (eVar 1) aNil))) (eC (.str "copy")) (eC (.str "move"))) (aCons (eVar 2) (aCons (eCall m_place_in (aCons (eVar 0) aNil)) aNil))))) sNx)
    (sSeq (sIf (eB (eOp (oEq false) (eVar 4) (eC (.str "borrow")))) (sRet (eTup (aCons (eC (.str "borrow")) (aCons (eVar 2) (aCons (eOp oIx (eVar 0) (eC (.int (1)))) (aCons (eCall m_place_in (aCons (eVar 0) aNil)) aNil)))))) sNx)
    (sSeq (sIf (eB (eOp (oEq false) (eVar 4) (eC (.str "is")))) (sRet (eTup (aCons (eC (.str "is")) (aCons (eVar 2) (aCons (eCall m_place_in (aCons (eVar 0) aNil)) aNil))))) sNx)
    (sSeq (sIf (eB (eOp (oEq false) (eVar 4) (eC (.str "swap")))) (sRet (eTup (aCons (eC (.str "swap")) (aCons (eVar 2) (aCons (eCall m_place_in (aCons (eVar 0) aNil)) (aCons (eOp oIx (eVar 3) (eC (.int (0)))) aNil)))))) sNx)
    (sSeq (sIf (eB (eOp (oEq false) (eVar 4) (eC (.str "op")))) (sRet (eTup (aCons (eC (.str "op")) (aCons (eVar 2) (aCons (eOp oIx (eVar 0) (eC (.int (1)))) (aCons (eOp oIx (eVar 3) (eC (.int (0)))) (aCons (eOp oIx (eVar 3) (eC (.int (1)))) aNil))))))) sNx)
    (sSeq (sIf (eB (eOp (oIn false) (eVar 4) (eTup (aCons (eC (.str "call")) (aCons (eC (.str "spawn")) aNil))))) (sRet (eTup (aCons (eVar 4) (aCons (eVar 2) (aCons (eOp oIx (eVar 0) (eC (.int (1)))) (aCons (eVar 3) aNil)))))) sNx)
    (sRet (eTup (aCons (eVar 4) (aCons (eVar 2) (aCons (eOp oIx (eVar 3) (eC (.int (0)))) aNil)))))))))))))))
noncomputable def m_instruction_for : MF := dfn 4 1 false (b_instruction_for)
theorem ar_instruction_for : Ar 4 (m_instruction_for) := ar_dfn
noncomputable def b_Lowering_lower_expression (C_Graph C_Lowering : Addr) (r_Lowering_lower_expression : MF) : MS :=
    (sSeq (sAsg (eCall bTuple (aCons (eLc (iTupM (eCall m_parts_of (aCons (eVar 1) aNil))) [6] (gN 6) tYesM (eMeth C_Lowering "lower_expression" r_Lowering_lower_expression (eVar 0) (aCons (eVar 6) aNil)) mkF) aNil)) (gN 2))
    (sSeq (sAsg (eFld C_Graph (eFld C_Lowering (eVar 0) "graph") "kinds") (gN 3))
    (sSeq (sAsg (eCall m_kind_made (aCons (eFld C_Lowering (eVar 0) "program") (aCons (eVar 3) (aCons (eVar 1) (aCons (eLc (iTupM (eVar 2)) [6] (gN 6) tYesM (eDGet (eVar 3) (eVar 6)) mkF) aNil))))) (gN 4))
    (sSeq (sAsg (eOp (oPlus false) (eC (.str "#")) (eCall bStr (aCons (eFld C_Lowering (eVar 0) "temporaries") aNil))) (gN 5))
    (sSeq (sFldAugW C_Lowering (eVar 0) "temporaries" (eC (.int (1))))
    (sSeq (sDPutW (eVar 3) (eVar 5) (eVar 4))
    (sSeq (sDrop (eMeth C_Lowering "add_point" (m_Lowering_add_point C_Graph C_Lowering) (eVar 0) (aCons (eCall m_instruction_for (aCons (eVar 1) (aCons (eVar 4) (aCons (eVar 5) (aCons (eVar 2) aNil))))) aNil)))
    (sRet (eVar 5)))))))))
noncomputable def m_Lowering_lower_expression (C_Graph C_Lowering : Addr) : Nat → MF
  | 0 => mNone
  | n + 1 => dfn 2 5 false (b_Lowering_lower_expression C_Graph C_Lowering (m_Lowering_lower_expression C_Graph C_Lowering n))
theorem ar_Lowering_lower_expression {C_Graph C_Lowering : Addr} : ∀ n, Ar 2 (m_Lowering_lower_expression C_Graph C_Lowering n)
  | 0 => ar_none
  | _ + 1 => by unfold m_Lowering_lower_expression; exact ar_dfn
noncomputable def b_Lowering_lower_let (C_Graph C_Lowering : Addr)  : MS :=
    (sSeq (sAsg (eVar 1) (gTup' (gsCons (gN 2) (gsCons (gN 3) (gsCons (gN 4) gsNil)))))
    (sSeq (sAsg (eMeth C_Lowering "lower_expression" (m_Lowering_lower_expression C_Graph C_Lowering 30) (eVar 0) (aCons (eVar 4) aNil)) (gN 5))
    (sSeq (sDPutW (eFld C_Graph (eFld C_Lowering (eVar 0) "graph") "kinds") (eVar 3) (eDGet (eFld C_Graph (eFld C_Lowering (eVar 0) "graph") "kinds") (eVar 5)))
    (sSeq (sDrop (eBm mAppend (eFld C_Lowering (eVar 0) "scope") (aCons (eVar 3) aNil)))
    (sDrop (eMeth C_Lowering "add_point" (m_Lowering_add_point C_Graph C_Lowering) (eVar 0) (aCons (eTup (aCons (eC (.str "let")) (aCons (eVar 3) (aCons (eVar 5) aNil)))) aNil)))))))
noncomputable def m_Lowering_lower_let (C_Graph C_Lowering : Addr) : MF := dfn 2 4 false (b_Lowering_lower_let C_Graph C_Lowering)
theorem ar_Lowering_lower_let {C_Graph C_Lowering : Addr} : Ar 2 (m_Lowering_lower_let C_Graph C_Lowering) := ar_dfn
noncomputable def b_Lowering_lower_block (C_Graph C_Lowering : Addr) (r_Lowering_lower_block : MF) (r_Lowering_lower_statement : MF) (r_Lowering_lower_if : MF) (r_Lowering_lower_while : MF) : MS :=
    (sSeq (sAsg (eCall bLen (aCons (eFld C_Lowering (eVar 0) "scope") aNil)) (gN 2))
    (sSeq (sFor (iTupM (eVar 1)) (gN 3) (sDrop (eMeth C_Lowering "lower_statement" r_Lowering_lower_statement (eVar 0) (aCons (eVar 3) aNil))))
    (sSeq (sDrop (eMeth C_Lowering "add_drops" (m_Lowering_add_drops C_Graph C_Lowering) (eVar 0) (aCons (eSl false (eFld C_Lowering (eVar 0) "scope") (pSome (eVar 2)) pNone) aNil)))
    (sFldW C_Lowering (eVar 0) "scope" (eSl true (eFld C_Lowering (eVar 0) "scope") pNone (pSome (eVar 2)))))))
noncomputable def b_Lowering_lower_statement (C_Graph C_Lowering : Addr) (r_Lowering_lower_block : MF) (r_Lowering_lower_statement : MF) (r_Lowering_lower_if : MF) (r_Lowering_lower_while : MF) : MS :=
    (sSeq (sAsg (eOp oIx (eVar 1) (eC (.int (0)))) (gN 2))
    (sIf (eB (eOp (oEq false) (eVar 2) (eC (.str "if")))) (sDrop (eMeth C_Lowering "lower_if" r_Lowering_lower_if (eVar 0) (aCons (eVar 1) aNil))) (sIf (eB (eOp (oEq false) (eVar 2) (eC (.str "while")))) (sDrop (eMeth C_Lowering "lower_while" r_Lowering_lower_while (eVar 0) (aCons (eVar 1) aNil))) (sIf (eB (eOp (oEq false) (eVar 2) (eC (.str "let")))) (sDrop (eMeth C_Lowering "lower_let" (m_Lowering_lower_let C_Graph C_Lowering) (eVar 0) (aCons (eVar 1) aNil))) (sIf (eB (eOp (oEq false) (eVar 2) (eC (.str "store")))) (sSeq (sAsg (eVar 1) (gTup' (gsCons (gN 3) (gsCons (gN 4) (gsCons (gN 5) gsNil)))))
    (sDrop (eMeth C_Lowering "add_point" (m_Lowering_add_point C_Graph C_Lowering) (eVar 0) (aCons (eTup (aCons (eC (.str "store")) (aCons (eVar 4) (aCons (eMeth C_Lowering "lower_expression" (m_Lowering_lower_expression C_Graph C_Lowering 30) (eVar 0) (aCons (eVar 5) aNil)) aNil)))) aNil)))) (sIf (eB (eOp (oEq false) (eVar 2) (eC (.str "return")))) (sDrop (eMeth C_Lowering "add_leave" (m_Lowering_add_leave C_Graph C_Lowering) (eVar 0) (aCons (eMeth C_Lowering "lower_expression" (m_Lowering_lower_expression C_Graph C_Lowering 30) (eVar 0) (aCons (eOp oIx (eVar 1) (eC (.int (1)))) aNil)) aNil))) (sIf (eB (eOp (oEq false) (eVar 2) (eC (.str "do")))) (sDrop (eMeth C_Lowering "add_point" (m_Lowering_add_point C_Graph C_Lowering) (eVar 0) (aCons (eTup (aCons (eC (.str "drop")) (aCons (eMeth C_Lowering "lower_expression" (m_Lowering_lower_expression C_Graph C_Lowering 30) (eVar 0) (aCons (eOp oIx (eVar 1) (eC (.int (1)))) aNil)) aNil))) aNil))) (sDrop (eMeth C_Lowering "add_point" (m_Lowering_add_point C_Graph C_Lowering) (eVar 0) (aCons (eTup (aCons (eC (.str "print")) (aCons (eMeth C_Lowering "lower_expression" (m_Lowering_lower_expression C_Graph C_Lowering 30) (eVar 0) (aCons (eOp oIx (eVar 1) (eC (.int (1)))) aNil)) aNil))) aNil))))))))))
noncomputable def b_Lowering_lower_if (C_Graph C_Lowering : Addr) (r_Lowering_lower_block : MF) (r_Lowering_lower_statement : MF) (r_Lowering_lower_if : MF) (r_Lowering_lower_while : MF) : MS :=
    (sSeq (sAsg (eVar 1) (gTup' (gsCons (gN 2) (gsCons (gN 3) (gsCons (gN 4) (gsCons (gN 5) gsNil))))))
    (sSeq (sAsg (eMeth C_Lowering "add_point" (m_Lowering_add_point C_Graph C_Lowering) (eVar 0) (aCons (eTup (aCons (eC (.str "test")) (aCons (eMeth C_Lowering "lower_expression" (m_Lowering_lower_expression C_Graph C_Lowering 30) (eVar 0) (aCons (eVar 3) aNil)) aNil))) aNil)) (gN 6))
    (sSeq (sDrop (eMeth C_Lowering "lower_block" r_Lowering_lower_block (eVar 0) (aCons (eVar 4) aNil)))
    (sSeq (sAsg (eMeth C_Lowering "add_point" (m_Lowering_add_point C_Graph C_Lowering) (eVar 0) (aCons (eTup (aCons (eC (.str "jump")) aNil)) aNil)) (gN 7))
    (sSeq (sDrop (eMeth C_Lowering "lower_block" r_Lowering_lower_block (eVar 0) (aCons (eVar 5) aNil)))
    (sSeq (sAsg (eTup (aCons (eOp (oPlus false) (eVar 6) (eC (.int (1)))) (aCons (eOp (oPlus false) (eVar 7) (eC (.int (1)))) aNil))) (gIx (eFld C_Graph (eFld C_Lowering (eVar 0) "graph") "successors") (eVar 6)))
    (sAsg (eTup (aCons (eCall bLen (aCons (eFld C_Graph (eFld C_Lowering (eVar 0) "graph") "points") aNil)) aNil)) (gIx (eFld C_Graph (eFld C_Lowering (eVar 0) "graph") "successors") (eVar 7)))))))))
noncomputable def b_Lowering_lower_while (C_Graph C_Lowering : Addr) (r_Lowering_lower_block : MF) (r_Lowering_lower_statement : MF) (r_Lowering_lower_if : MF) (r_Lowering_lower_while : MF) : MS :=
    (sSeq (sAsg (eVar 1) (gTup' (gsCons (gN 2) (gsCons (gN 3) (gsCons (gN 4) gsNil)))))
    (sSeq (sAsg (eCall bLen (aCons (eFld C_Graph (eFld C_Lowering (eVar 0) "graph") "points") aNil)) (gN 5))
    (sSeq (sAsg (eMeth C_Lowering "add_point" (m_Lowering_add_point C_Graph C_Lowering) (eVar 0) (aCons (eTup (aCons (eC (.str "test")) (aCons (eMeth C_Lowering "lower_expression" (m_Lowering_lower_expression C_Graph C_Lowering 30) (eVar 0) (aCons (eVar 3) aNil)) aNil))) aNil)) (gN 6))
    (sSeq (sDrop (eMeth C_Lowering "lower_block" r_Lowering_lower_block (eVar 0) (aCons (eVar 4) aNil)))
    (sSeq (sAsg (eMeth C_Lowering "add_point" (m_Lowering_add_point C_Graph C_Lowering) (eVar 0) (aCons (eTup (aCons (eC (.str "jump")) aNil)) aNil)) (gN 7))
    (sSeq (sAsg (eTup (aCons (eOp (oPlus false) (eVar 6) (eC (.int (1)))) (aCons (eOp (oPlus false) (eVar 7) (eC (.int (1)))) aNil))) (gIx (eFld C_Graph (eFld C_Lowering (eVar 0) "graph") "successors") (eVar 6)))
    (sAsg (eTup (aCons (eVar 5) aNil)) (gIx (eFld C_Graph (eFld C_Lowering (eVar 0) "graph") "successors") (eVar 7)))))))))
mutual
noncomputable def m_Lowering_lower_block (C_Graph C_Lowering : Addr) : Nat → MF
  | 0 => mNone
  | n + 1 => dfn 2 2 false (b_Lowering_lower_block C_Graph C_Lowering (m_Lowering_lower_block C_Graph C_Lowering n) (m_Lowering_lower_statement C_Graph C_Lowering n) (m_Lowering_lower_if C_Graph C_Lowering n) (m_Lowering_lower_while C_Graph C_Lowering n))
noncomputable def m_Lowering_lower_statement (C_Graph C_Lowering : Addr) : Nat → MF
  | 0 => mNone
  | n + 1 => dfn 2 4 false (b_Lowering_lower_statement C_Graph C_Lowering (m_Lowering_lower_block C_Graph C_Lowering n) (m_Lowering_lower_statement C_Graph C_Lowering n) (m_Lowering_lower_if C_Graph C_Lowering n) (m_Lowering_lower_while C_Graph C_Lowering n))
noncomputable def m_Lowering_lower_if (C_Graph C_Lowering : Addr) : Nat → MF
  | 0 => mNone
  | n + 1 => dfn 2 6 false (b_Lowering_lower_if C_Graph C_Lowering (m_Lowering_lower_block C_Graph C_Lowering n) (m_Lowering_lower_statement C_Graph C_Lowering n) (m_Lowering_lower_if C_Graph C_Lowering n) (m_Lowering_lower_while C_Graph C_Lowering n))
noncomputable def m_Lowering_lower_while (C_Graph C_Lowering : Addr) : Nat → MF
  | 0 => mNone
  | n + 1 => dfn 2 6 false (b_Lowering_lower_while C_Graph C_Lowering (m_Lowering_lower_block C_Graph C_Lowering n) (m_Lowering_lower_statement C_Graph C_Lowering n) (m_Lowering_lower_if C_Graph C_Lowering n) (m_Lowering_lower_while C_Graph C_Lowering n))
end
theorem ar_Lowering_lower_block {C_Graph C_Lowering : Addr} : ∀ n, Ar 2 (m_Lowering_lower_block C_Graph C_Lowering n)
  | 0 => ar_none
  | _ + 1 => by unfold m_Lowering_lower_block; exact ar_dfn
theorem ar_Lowering_lower_statement {C_Graph C_Lowering : Addr} : ∀ n, Ar 2 (m_Lowering_lower_statement C_Graph C_Lowering n)
  | 0 => ar_none
  | _ + 1 => by unfold m_Lowering_lower_statement; exact ar_dfn
theorem ar_Lowering_lower_if {C_Graph C_Lowering : Addr} : ∀ n, Ar 2 (m_Lowering_lower_if C_Graph C_Lowering n)
  | 0 => ar_none
  | _ + 1 => by unfold m_Lowering_lower_if; exact ar_dfn
theorem ar_Lowering_lower_while {C_Graph C_Lowering : Addr} : ∀ n, Ar 2 (m_Lowering_lower_while C_Graph C_Lowering n)
  | 0 => ar_none
  | _ + 1 => by unfold m_Lowering_lower_while; exact ar_dfn
noncomputable def b_Lowering_lower_function (C_Graph C_Lowering : Addr)  : MS :=
    (sSeq (sDrop (eMeth C_Lowering "lower_block" (m_Lowering_lower_block C_Graph C_Lowering 16) (eVar 0) (aCons (eVar 1) aNil)))
    (sIf (eB (eOp (oEq false) (eFld C_Graph (eFld C_Lowering (eVar 0) "graph") "result") (eTup (aCons (eC (.str "unit")) aNil)))) (sDrop (eMeth C_Lowering "add_leave" (m_Lowering_add_leave C_Graph C_Lowering) (eVar 0) (aCons (eMeth C_Lowering "lower_expression" (m_Lowering_lower_expression C_Graph C_Lowering 30) (eVar 0) (aCons (eTup (aCons (eC (.str "unit")) aNil)) aNil)) aNil))) (sDrop (eMeth C_Lowering "add_end" (m_Lowering_add_end C_Graph C_Lowering) (eVar 0) (aCons (eTup (aCons (eC (.str "stop")) aNil)) aNil)))))
noncomputable def m_Lowering_lower_function (C_Graph C_Lowering : Addr) : MF := dfn 2 0 false (b_Lowering_lower_function C_Graph C_Lowering)
theorem ar_Lowering_lower_function {C_Graph C_Lowering : Addr} : Ar 2 (m_Lowering_lower_function C_Graph C_Lowering) := ar_dfn
noncomputable def b_build_graph (C_Graph C_Lowering : Addr)  : MS :=
    (sSeq (sAsg (eCall m_function_named (aCons (eVar 0) (aCons (eVar 1) aNil))) (gN 2))
    (sSeq (sIf (eB (eOp (oIsN false) (eVar 2) (eC .none))) sNone sNx)
    (sSeq (sAsg (eMake C_Lowering (m_Lowering_init C_Graph C_Lowering) (aCons (eVar 0) (aCons (eVar 2) aNil))) (gN 3))
    (sSeq (sDrop (eMeth C_Lowering "lower_function" (m_Lowering_lower_function C_Graph C_Lowering) (eVar 3) (aCons (eOp oIx (eVar 2) (eC (.int (4)))) aNil)))
    (sRet (eFld C_Lowering (eVar 3) "graph"))))))
noncomputable def m_build_graph (C_Graph C_Lowering : Addr) : MF := dfn 2 2 false (b_build_graph C_Graph C_Lowering)
theorem ar_build_graph {C_Graph C_Lowering : Addr} : Ar 2 (m_build_graph C_Graph C_Lowering) := ar_dfn
noncomputable def b_leaves (r_leaves : MF) : MS :=
    (sSeq (sIf (eB (eOp (oIn false) (eOp oIx (eVar 0) (eC (.int (0)))) (eC (.tuple [.str "shared", .str "exclusive", .str "task"])))) (sRet (eTup (aCons (eTup aNil) aNil))) sNx)
    (sSeq (sIf (eB (eOp (oEq false) (eOp oIx (eVar 0) (eC (.int (0)))) (eC (.str "maybe")))) (sRet (eCall bTuple (aCons (eLc (iTupM (eCall r_leaves (aCons (eOp oIx (eVar 0) (eC (.int (1)))) aNil))) [1] (gN 1) tYesM (eOp (oPlus false) (eTup (aCons (eC (.str "?")) aNil)) (eVar 1)) mkF) aNil))) sNx)
    (sSeq (sIf (eB (eOp (oEq false) (eOp oIx (eVar 0) (eC (.int (0)))) (eC (.str "tuple")))) (sRet (eCall bTuple (aCons (eLc2 (iEnumM (aCons (eOp oIx (eVar 0) (eC (.int (1)))) aNil)) [2, 3, 1] (gTup' (gsCons (gN 2) (gsCons (gN 3) gsNil))) tYesM (iTupM (eCall r_leaves (aCons (eVar 3) aNil))) [1] (gN 1) tYesM (eOp (oPlus false) (eTup (aCons (eVar 2) aNil)) (eVar 1)) mkF) aNil))) sNx)
    (sRet (eTup aNil)))))
noncomputable def m_leaves : Nat → MF
  | 0 => mNone
  | n + 1 => dfn 1 3 false (b_leaves (m_leaves n))
theorem ar_leaves : ∀ n, Ar 1 (m_leaves n)
  | 0 => ar_none
  | _ + 1 => by unfold m_leaves; exact ar_dfn
noncomputable def b_crossed  : MS :=
    (sSeq (sAsg (eVar 0) (gTup' (gsCons (gN 3) (gsCons (gN 4) gsNil))))
    (sSeq (sAsg (eCall m_kinds_along (aCons (eVar 0) (aCons (eVar 1) (aCons (eVar 2) aNil)))) (gN 5))
    (sSeq (sFor (iEnumM (aCons (eVar 4) aNil)) (gTup' (gsCons (gN 6) (gsCons (gN 7) gsNil))) (sIf (eAnd (eB (eOp (oEq false) (eVar 7) (eC (.str "^")))) (eB (eOp (oIn false) (eOp oIx (eOp oIx (eVar 5) (eVar 6)) (eC (.int (0)))) (eC (.tuple [.str "shared", .str "exclusive"]))))) (sRet (eTup (aCons (eVar 3) (aCons (eSl false (eVar 4) pNone (pSome (eVar 6))) aNil)))) sNx))
    (sRet (eC .none)))))
noncomputable def m_crossed : MF := dfn 3 5 false (b_crossed)
theorem ar_crossed : Ar 3 (m_crossed) := ar_dfn
noncomputable def b_taken  : MS :=
    (sSeq (sAsg (eOp oIx (eVar 0) (eC (.int (0)))) (gN 1))
    (sSeq (sIf (eB (eOp (oIn false) (eVar 1) (eTup (aCons (eC (.str "make")) (aCons (eC (.str "call")) (aCons (eC (.str "spawn")) aNil)))))) (sRet (eOp oIx (eVar 0) (eC (.int (3))))) sNx)
    (sSeq (sIf (eB (eOp (oIn false) (eVar 1) (eTup (aCons (eC (.str "let")) (aCons (eC (.str "store")) (aCons (eC (.str "join")) aNil)))))) (sRet (eTup (aCons (eOp oIx (eVar 0) (eC (.int (2)))) aNil))) sNx)
    (sSeq (sIf (eB (eOp (oEq false) (eVar 1) (eC (.str "leave")))) (sRet (eTup (aCons (eOp oIx (eVar 0) (eC (.int (1)))) aNil))) sNx)
    (sRet (eTup aNil))))))
noncomputable def m_taken : MF := dfn 1 1 false (b_taken)
theorem ar_taken : Ar 1 (m_taken) := ar_dfn
noncomputable def b_place_of  : MS :=
    (sSeq (sAsg (eOp oIx (eVar 0) (eC (.int (0)))) (gN 1))
    (sSeq (sIf (eB (eInC ["copy", "move", "borrow", "is", "store", "swap"] ["set", "make", "unbox", "op", "not", "call", "test", "jump", "print", "drop", "let", "leave", "stop"] (eVar 1))) (sRet (eOp oIx (eVar 0) (eIxC [("copy", .int (2)), ("move", .int (2)), ("borrow", .int (3)), ("is", .int (2)), ("store", .int (1)), ("swap", .int (2))] (eVar 1)))) sNx)
    (sRet (eTup (aCons (eOp oIx (eVar 0) (eC (.int (1)))) (aCons (eTup aNil) aNil))))))
noncomputable def m_place_of : MF := dfn 1 1 false (b_place_of)
theorem ar_place_of : Ar 1 (m_place_of) := ar_dfn
noncomputable def b_leaves_of (C_Graph C_Lowering : Addr)  : MS :=
    (sSeq (sAsg (eVar 2) (gTup' (gsCons (gN 3) (gsCons (gN 4) gsNil))))
    (sSeq (sAsg (eCallKw m_kind_at g12 (aCons (eVar 2) aNil) (aCons (eOp oIx (eVar 0) (eC (.int (0)))) (aCons (eFld C_Graph (eVar 1) "kinds") aNil))) (gN 5))
    (sRet (eCall bTuple (aCons (eLc (iTupM (eCall (m_leaves 14) (aCons (eVar 5) aNil))) [6] (gN 6) tYesM (eTup (aCons (eVar 3) (aCons (eOp (oPlus false) (eVar 4) (eVar 6)) aNil))) mkF) aNil)))))
noncomputable def m_leaves_of (C_Graph C_Lowering : Addr) : MF := dfn 3 4 false (b_leaves_of C_Graph C_Lowering)
theorem ar_leaves_of {C_Graph C_Lowering : Addr} : Ar 3 (m_leaves_of C_Graph C_Lowering) := ar_dfn
noncomputable def b_leaves_of_temporaries (C_Graph C_Lowering : Addr)  : MS :=
    (sRet (eCall bTuple (aCons (eLc2 (iSeqM (eVar 2)) [3, 4] (gN 3) tYesM (iTupM (eCall (m_leaves_of C_Graph C_Lowering) (aCons (eVar 0) (aCons (eVar 1) (aCons (eTup (aCons (eVar 3) (aCons (eTup aNil) aNil))) aNil))))) [4] (gN 4) tYesM (eVar 4) mkF) aNil)))
noncomputable def m_leaves_of_temporaries (C_Graph C_Lowering : Addr) : MF := dfn 3 2 false (b_leaves_of_temporaries C_Graph C_Lowering)
theorem ar_leaves_of_temporaries {C_Graph C_Lowering : Addr} : Ar 3 (m_leaves_of_temporaries C_Graph C_Lowering) := ar_dfn
noncomputable def b_crossed_by (C_Graph C_Lowering : Addr)  : MS :=
    (sSeq (sIf (eB (eNInC ["copy", "move", "borrow", "is", "store", "swap"] ["set", "make", "unbox", "op", "not", "call", "test", "jump", "print", "drop", "let", "leave", "stop"] (eOp oIx (eVar 2) (eC (.int (0)))))) (sRet (eTup aNil)) sNx)
    (sSeq (sAsg (eCallKw m_crossed g12 (aCons (eCall m_place_of (aCons (eVar 2) aNil)) aNil) (aCons (eOp oIx (eVar 0) (eC (.int (0)))) (aCons (eFld C_Graph (eVar 1) "kinds") aNil))) (gN 3))
    (sRet (eIf (eB (eOp (oIsN false) (eVar 3) (eC .none))) (eTup aNil) (eTup (aCons (eVar 3) aNil))))))
noncomputable def m_crossed_by (C_Graph C_Lowering : Addr) : MF := dfn 3 1 false (b_crossed_by C_Graph C_Lowering)
theorem ar_crossed_by {C_Graph C_Lowering : Addr} : Ar 3 (m_crossed_by C_Graph C_Lowering) := ar_dfn
noncomputable def b_makes_loan (C_Graph C_Lowering : Addr)  : MS :=
    (sSeq (sIf (eB (eOp (oEq true) (eOp oIx (eVar 2) (eC (.int (0)))) (eC (.str "borrow")))) (sRet (eC (.bool false))) sNx)
    (sSeq (sAsg (eCallKw m_crossed g12 (aCons (eOp oIx (eVar 2) (eC (.int (3)))) aNil) (aCons (eOp oIx (eVar 0) (eC (.int (0)))) (aCons (eFld C_Graph (eVar 1) "kinds") aNil))) (gN 3))
    (sRet (eOrV (eOp (oIsN false) (eVar 3) (eC .none)) (eOp (oEq false) (eOp oIx (eCallKw m_kind_at g12 (aCons (eVar 3) aNil) (aCons (eOp oIx (eVar 0) (eC (.int (0)))) (aCons (eFld C_Graph (eVar 1) "kinds") aNil))) (eC (.int (0)))) (eC (.str "exclusive")))))))
noncomputable def m_makes_loan (C_Graph C_Lowering : Addr) : MF := dfn 3 1 false (b_makes_loan C_Graph C_Lowering)
theorem ar_makes_loan {C_Graph C_Lowering : Addr} : Ar 3 (m_makes_loan C_Graph C_Lowering) := ar_dfn
end fam
namespace Lv
open PySem PySem.Spec PyProof.Rows L2 RT
section
variable {prog : Program} {w : World} {A : Around} {E : Value → Shared → Prop} {s : Shared} {z TI TO T i1 i2 l1 l2 : Addr} {f : Bool} {oT : Obj} {k : Nat} {xs ys : Array Value} {x y : Value}
theorem pair_next {Q : Value → Shared → Prop} (D : ZipApart z TI TO i1 i2 l1 l2) (hz : IsZipHeld s.heap z TI TO T f) (hT : s.heap.get? T = some oT) (hTI : IsPair s.heap TI (.ref i1) (.ref i2))
    (h1 : s.heap.IsTupleIter i1 l1 k) (h2 : s.heap.IsTupleIter i2 l2 k) (g1 : s.heap.IsTuple l1 xs) (g2 : s.heap.IsTuple l2 ys) (hx : xs[k]? = some x) (hy : ys[k]? = some y)
    (q : ∀ h', IsZipHeld h' z TI TO T true → h'.IsTupleIter i1 l1 (k + 1) → h'.IsTupleIter i2 l2 (k + 1) → IsPair h' s.heap.objs.size x y → h'.objs.size = s.heap.objs.size + 1 →
      (∀ c o, c ≠ z → c ≠ i1 → c ≠ i2 → s.heap.get? c = some o → h'.get? c = some o) → Q (.ref s.heap.objs.size) { s with heap := h' }) :
    wpAny (model prog w) A (Builtin.«zip.__next__» { pos := [.ref z] }) (fun fin s' => ∃ v, fin = .done (.ret v) ∧ Q v s') E s := by
  show wpAny _ _ (field (Value.ref z) 2 >>= _) _ _ _
  refine wpAny_bind (wpAny_field hz rfl rfl ?_)
  show wpAny _ _ (field (Value.ref z) 3 >>= _) _ _ _
  refine wpAny_bind (wpAny_field hz rfl rfl (wpAny_bind (wpAny_seqItems hTI rfl ?_)))
  show wpAny _ _ (Builtin.SmallTypes.ownedTupleIsFree (Value.ref z) >>= _) _ _ _
  refine wpAny_bind (wpAny_tupleHeld_zip hz hT fun a1 z1 k1 => ?_)
  simp only [Bool.false_eq_true, if_false]
  refine wpAny_bind ?_
  rw [← Array.forIn_toList]
  simp only [List.forIn_cons, List.forIn_nil]
  have b1 := Heap.SameBut.extBut k1
  refine wpAny_bind (wpAny_bind (wpAny_holding ?_))
  show wpAny _ _ (Builtin.SmallTypes.nextOf (Value.ref i1) >>= _) _ _ _
  refine wpAny_bind (RZ.nextOf_tuple_item (h1.extBut b1 D.i1z) (g1.extBut b1 D.l1z) hx fun a2 n1 k2 => ?_)
  have b2 := Heap.SameBut.extBut k2
  refine wpAny_pure (wpAny_pure (wpAny_bind (wpAny_bind (wpAny_holding ?_))))
  show wpAny _ _ (Builtin.SmallTypes.nextOf (Value.ref i2) >>= _) _ _ _
  refine wpAny_bind (RZ.nextOf_tuple_item ((h2.extBut b1 D.i2z).extBut b2 D.i12.symm) ((g2.extBut b1 D.l2z).extBut b2 D.l2i1) hy fun a3 n2 k3 => ?_)
  have b3 := Heap.SameBut.extBut k3
  refine wpAny_pure (wpAny_pure (wpAny_pure ?_))
  show wpAny _ _ (newTuple [x, y] >>= _) _ _ _
  refine wpAny_bind (wpAny_newTuple (wpAny_pure ⟨_, rfl, ?_⟩) (by show 2 ≤ sizeLine; decide))
  have hs : a3.objs.size = s.heap.objs.size := by rw [k3.1, k2.1, k1.1]
  have hk : ∀ c o, c ≠ z → c ≠ i1 → c ≠ i2 → s.heap.get? c = some o → a3.get? c = some o := fun c o c1 c2 c3 e => b3 c o c3 (b2 c o c2 (b1 c o c1 e))
  have hz3 : IsZipHeld a3 z TI TO T true := b3 z _ D.i2z.symm (b2 z _ D.i1z.symm z1)
  show Q (.ref a3.objs.size) _
  rw [hs]
  refine q _ (Heap.get?_push_of_some _ hz3) ((n1.extBut b3 D.i12).at fun o e => Heap.get?_push_of_some _ e) (n2.at fun o e => Heap.get?_push_of_some _ e) ?_ (by rw [Heap.size_push, hs]) fun c o c1 c2 c3 e => Heap.get?_push_of_some _ (hk c o c1 c2 c3 e)
  rw [← hs]
  exact Heap.get?_push_size _ rfl
theorem pair_end {Q : Fin → Shared → Prop} (hh : A.handled = none) (D : ZipApart z TI TO i1 i2 l1 l2) (hz : IsZipHeld s.heap z TI TO T f) (hT : s.heap.get? T = some oT) (hTI : IsPair s.heap TI (.ref i1) (.ref i2))
    (h1 : s.heap.IsTupleIter i1 l1 k) (g1 : s.heap.IsTuple l1 xs) (hx : xs[k]? = none)
    (q : ∀ (h' : Heap) (e : Addr), (∀ c o, c ≠ z → c ≠ i1 → s.heap.get? c = some o → h'.get? c = some o) → (∃ o, h'.get? e = some o ∧ o.cls = .type "StopIteration") → E (.ref e) { s with heap := h' }) :
    wpAny (model prog w) A (Builtin.«zip.__next__» { pos := [.ref z] }) Q E s := by
  show wpAny _ _ (field (Value.ref z) 2 >>= _) _ _ _
  refine wpAny_bind (wpAny_field hz rfl rfl ?_)
  show wpAny _ _ (field (Value.ref z) 3 >>= _) _ _ _
  refine wpAny_bind (wpAny_field hz rfl rfl (wpAny_bind (wpAny_seqItems hTI rfl ?_)))
  show wpAny _ _ (Builtin.SmallTypes.ownedTupleIsFree (Value.ref z) >>= _) _ _ _
  refine wpAny_bind (wpAny_tupleHeld_zip hz hT fun a1 z1 k1 => ?_)
  simp only [Bool.false_eq_true, if_false]
  refine wpAny_bind ?_
  rw [← Array.forIn_toList]
  simp only [List.forIn_cons, List.forIn_nil]
  have b1 := Heap.SameBut.extBut k1
  refine wpAny_bind (wpAny_bind (wpAny_holding ?_))
  show wpAny _ _ (Builtin.SmallTypes.nextOf (Value.ref i1) >>= _) _ _ _
  exact wpAny_bind (RZ.nextOf_tuple_end hh (h1.extBut b1 D.i1z) (g1.extBut b1 D.l1z) hx fun a2 e k2 he => q a2 e (fun c o c1 c2 g => k2 c o c2 (b1 c o c1 g)) he)
theorem next_pair {Q : Option Value → Shared → Prop} (D : ZipApart z TI TO i1 i2 l1 l2) (hz : IsZipHeld s.heap z TI TO T f) (hT : s.heap.get? T = some oT) (hTI : IsPair s.heap TI (.ref i1) (.ref i2))
    (h1 : s.heap.IsTupleIter i1 l1 k) (h2 : s.heap.IsTupleIter i2 l2 k) (g1 : s.heap.IsTuple l1 xs) (g2 : s.heap.IsTuple l2 ys) (hx : xs[k]? = some x) (hy : ys[k]? = some y)
    (q : ∀ h', IsZipHeld h' z TI TO T true → h'.IsTupleIter i1 l1 (k + 1) → h'.IsTupleIter i2 l2 (k + 1) → IsPair h' s.heap.objs.size x y → h'.objs.size = s.heap.objs.size + 1 →
      (∀ c o, c ≠ z → c ≠ i1 → c ≠ i2 → s.heap.get? c = some o → h'.get? c = some o) → Q (some (.ref s.heap.objs.size)) { s with heap := h' }) : wpAny (model prog w) A (pyNext (.ref z)) Q E s := by
  have ty : s.TypeIs (.ref z) "zip" := ⟨_, hz, rfl⟩
  unfold pyNext
  exact wpAny_bind (wpAny_attempt (wpAny_callSpecial?_slot ty F.slot_zip_next (wpAny_call_entry F.slot_zip_next ty F.entry_zip_next
    (pair_next D hz hT hTI h1 h2 g1 g2 hx hy fun h' a1 a2 a3 a4 a5 a6 => wpAny_pure (q h' a1 a2 a3 a4 a5 a6)) (F.args_zip_next_1 _))))
theorem next_end {Q : Option Value → Shared → Prop} (hh : A.handled = none) (D : ZipApart z TI TO i1 i2 l1 l2) (hz : IsZipHeld s.heap z TI TO T f) (hT : s.heap.get? T = some oT) (hTI : IsPair s.heap TI (.ref i1) (.ref i2))
    (h1 : s.heap.IsTupleIter i1 l1 k) (g1 : s.heap.IsTuple l1 xs) (hx : xs[k]? = none)
    (q : ∀ (h' : Heap), (∀ c o, c ≠ z → c ≠ i1 → s.heap.get? c = some o → h'.get? c = some o) → Q none { s with heap := h' }) : wpAny (model prog w) A (pyNext (.ref z)) Q E s := by
  have ty : s.TypeIs (.ref z) "zip" := ⟨_, hz, rfl⟩
  unfold pyNext
  exact wpAny_bind (wpAny_attempt (wpAny_callSpecial?_slot ty F.slot_zip_next (wpAny_call_entry F.slot_zip_next ty F.entry_zip_next
    (pair_end hh D hz hT hTI h1 g1 hx fun h' e a1 ⟨o, ho, hc⟩ => wpAny_bind (wpAny_isInstance ⟨o, ho, hc⟩ isSubtype_stop (wpAny_pure (q h' a1)))) (F.args_zip_next_1 _))))
structure Zs (z TI TO i1 i2 l1 l2 S : Addr) (xs ys : Array Value) (b h : Heap) (Ts : List Addr) : Prop where
  zp : (Ts = [] ∧ IsZip h z TI TO .none ∧ ∃ u v, IsPair h TO u v) ∨ ∃ T f oT, IsZipHeld h z TI TO T f ∧ h.get? T = some oT
  ti : IsPair h TI (.ref i1) (.ref i2)
  n1 : h.IsTupleIter i1 l1 Ts.length
  n2 : h.IsTupleIter i2 l2 Ts.length
  g1 : h.IsTuple l1 xs
  g2 : h.IsTuple l2 ys
  pr : ∀ (j : Nat) (T : Addr), Ts[j]? = some T → b.objs.size ≤ T ∧ ∃ x y, xs[j]? = some x ∧ ys[j]? = some y ∧ IsPair h T x y
  nd : Ts.Nodup
  kp : ∀ c o, b.get? c = some o → h.get? c = some o
  sz : b.objs.size ≤ h.objs.size
  acc : ∃ c, h.get? S = some { cls := .type "list", dict := none, data := .seq (Ts.map Value.ref).toArray c, slots := #[] }
structure Zd (z TI TO i1 i2 l1 l2 S : Addr) (b : Heap) : Prop where
  D : ZipApart z TI TO i1 i2 l1 l2
  bz : b.objs.size ≤ z
  bO : b.objs.size ≤ TO
  b1 : b.objs.size ≤ i1
  b2 : b.objs.size ≤ i2
  bS : b.objs.size ≤ S
  Sz : S ≠ z
  SI : S ≠ TI
  SO : S ≠ TO
  S1 : S ≠ i1
  S2 : S ≠ i2
  Sl : S ≠ l1
  Sm : S ≠ l2
theorem lt_of {h : Heap} {a : Addr} {o : Obj} (e : h.get? a = some o) : a < h.objs.size := Heap.lt_size e
theorem ne_of {h : Heap} {a c : Addr} {o : Obj} (e : h.get? a = some o) (l : h.objs.size ≤ c) : a ≠ c := Nat.ne_of_lt (Nat.lt_of_lt_of_le (Heap.lt_size e) l)
theorem pair_ne {h : Heap} {T a : Addr} {o : Obj} {x y : Value} (p : IsPair h T x y) (e : h.get? a = some o) (hc : o.cls ≠ .type "tuple") : T ≠ a := by
  rintro rfl
  have p : h.get? T = some _ := p
  rw [e] at p
  cases p
  exact hc rfl
theorem zip_nt : Value.type "zip" ≠ Value.type "tuple" := fun h => by injection h with h; revert h; decide
theorem lst_nt : Value.type "list" ≠ Value.type "tuple" := fun h => by injection h with h; revert h; decide
theorem it_nt {o : Obj} (h : o.cls = .type "tuple_iterator") : o.cls ≠ Value.type "tuple" := fun g => by rw [h] at g; injection g with g; revert g; decide
theorem zip_loop {S : Addr} {b : Heap} {res : Value} {R : Result → Shared → Prop} (hh : A.in1.handled = none) (Z : Zd z TI TO i1 i2 l1 l2 S b) (hl : xs.size = ys.size) (hn : xs.size ≤ sizeLine) :
    ∀ (m : Nat) (Ts : List Addr) (s : Shared), xs.size - Ts.length = m → Ts.length ≤ xs.size → Zs z TI TO i1 i2 l1 l2 S xs ys b s.heap Ts →
      (∀ (h' : Heap) (Us : List Addr), Us.length = xs.size → Us.Nodup → (∀ (j : Nat) (T : Addr), Us[j]? = some T → b.objs.size ≤ T ∧ ∃ x y, xs[j]? = some x ∧ ys[j]? = some y ∧ IsPair h' T x y) → (∀ c o, b.get? c = some o → h'.get? c = some o) →
        (∃ c, h'.get? S = some { cls := .type "list", dict := none, data := .seq (Us.map Value.ref).toArray c, slots := #[] }) → R (.ok (.ret res)) { s with heap := h' }) →
      codeAny (model prog w) A (.builtin "list.extend.loop" { pos := [.ref S, .ref z, res] }) R s
  | 0, Ts, s, hm, ht, I, q => by
    have hlen : Ts.length = xs.size := by omega
    refine codeAny_builtin F.entry_extend_loop ?_
    rw [Around.under_plainId F.plain_extend_loop]
    show wpAny _ _ (pyNext (Value.ref z) >>= _) _ _ _
    refine wpAny_bind ?_
    obtain ⟨c0, hS⟩ := I.acc
    have hx : xs[Ts.length]? = none := Array.getElem?_eq_none (by omega)
    have fin : ∀ h' : Heap, (∀ c o, c ≠ z → c ≠ TO → c ≠ i1 → c ≠ i2 → s.heap.get? c = some o → h'.get? c = some o) → (∀ T ∈ Ts, T ≠ z ∧ T ≠ TO ∧ T ≠ i1 ∧ T ≠ i2) → R (.ok (.ret res)) { s with heap := h' } := fun h' hk hT =>
      q h' Ts hlen I.nd (fun j T hj => by
        obtain ⟨p1, x, y, p2, p3, p4⟩ := I.pr j T hj
        obtain ⟨t1, t2, t3, t4⟩ := hT T (List.mem_of_getElem? hj)
        exact ⟨p1, x, y, p2, p3, hk T _ t1 t2 t3 t4 p4⟩) (fun c o e => hk c o (ne_of e Z.bz) (ne_of e Z.bO) (ne_of e Z.b1) (ne_of e Z.b2) (I.kp c o e)) ⟨c0, hk S _ Z.Sz Z.SO Z.S1 Z.S2 hS⟩
    rcases I.zp with ⟨hnil, hz, u, v, hO⟩ | ⟨T, f, oT, hz, hT⟩
    · subst hnil
      refine RZ.pyNext_zipT_end hh Z.D hz I.ti hO I.n1 I.n2 I.g1 I.g2 (.inl hx) fun h' hk => wpAny_pure (fin h' hk fun T hT => absurd hT List.not_mem_nil)
    · refine next_end hh Z.D hz hT I.ti I.n1 I.g1 hx fun h' hk => wpAny_pure (q h' Ts hlen I.nd (fun j T hj => ?_) (fun c o e => ?_) ⟨c0, hk S _ Z.Sz Z.S1 hS⟩)
      · obtain ⟨p1, x, y, p2, p3, p4⟩ := I.pr j T hj
        obtain ⟨o1, e1, c1, _⟩ := I.n1
        exact ⟨p1, x, y, p2, p3, hk T _ (pair_ne p4 hz zip_nt) (pair_ne p4 e1 (it_nt c1)) p4⟩
      · exact hk c o (ne_of e Z.bz) (ne_of e Z.b1) (I.kp c o e)
  | m + 1, Ts, s, hm, ht, I, q => by
    have hlt : Ts.length < xs.size := by omega
    have hlt2 : Ts.length < ys.size := by omega
    refine codeAny_builtin F.entry_extend_loop ?_
    rw [Around.under_plainId F.plain_extend_loop]
    show wpAny _ _ (pyNext (Value.ref z) >>= _) _ _ _
    refine wpAny_bind ?_
    obtain ⟨c0, hS⟩ := I.acc
    have hx : xs[Ts.length]? = some xs[Ts.length] := Array.getElem?_eq_getElem hlt
    have hy : ys[Ts.length]? = some ys[Ts.length] := Array.getElem?_eq_getElem hlt2
    have go : ∀ (h' : Heap), (∃ T f oT, IsZipHeld h' z TI TO T f ∧ h'.get? T = some oT) → h'.IsTupleIter i1 l1 (Ts.length + 1) → h'.IsTupleIter i2 l2 (Ts.length + 1) → IsPair h' s.heap.objs.size xs[Ts.length] ys[Ts.length] → h'.objs.size = s.heap.objs.size + 1 →
        (∀ c o, c ≠ z → c ≠ TO → c ≠ i1 → c ≠ i2 → s.heap.get? c = some o → h'.get? c = some o) → (∀ T ∈ Ts, ∀ o, s.heap.get? T = some o → h'.get? T = some o) →
        wpAny (model prog w) A.in1 (do Builtin.List.listUpdate (.ref S) fun x => x.push (.ref s.heap.objs.size); again (Code.builtin "list.extend.loop" { pos := [.ref S, .ref z, res] }))
          (fun fin s' => match fin with | Fin.done f => R (.ok f) s' | Fin.again c' => c'.quiet = true ∧ codeAny (model prog w) A c' R s') (fun e s' => R (.error e) s') { s with heap := h' } := fun h' hz n1 n2 hp hsz hk hTs => by
      have hS' := hk S _ Z.Sz Z.SO Z.S1 Z.S2 hS
      have hlS := lt_of hS'
      have sS : S < s.heap.objs.size := lt_of hS
      refine wpAny_bind (show wpAny _ _ (updateSeq S fun x => x.push (.ref s.heap.objs.size)) _ _ _ from wpAny_updateSeq hS' rfl (wpAny_pure ⟨plainId_quiet F.plain_extend_loop _, ?_⟩) (by rw [List.size_toArray, List.length_map]; omega) (by rw [Array.size_push, List.size_toArray, List.length_map]; omega))
      have ot : ∀ c o, c ≠ S → h'.get? c = some o → (h'.update S (Obj.mapSeq fun x => x.push (.ref s.heap.objs.size))).get? c = some o := fun c o hc e => (Heap.get?_update_other _ _ hc.symm).trans e
      have new := Heap.get?_update_self (Obj.mapSeq fun x => x.push (.ref s.heap.objs.size)) hS' rfl
      obtain ⟨T0, f0, o0, z0, t0⟩ := hz
      have nS : ∀ c, c ≠ S → c ≠ S := fun _ h => h
      refine zip_loop hh Z hl hn m (Ts ++ [s.heap.objs.size]) { s with heap := h'.update S (Obj.mapSeq fun x => x.push (.ref s.heap.objs.size)) } (by rw [List.length_append, List.length_singleton]; omega) (by rw [List.length_append, List.length_singleton]; omega) ⟨.inr ?_, ?_, ?_, ?_, ?_, ?_, ?_, ?_, ?_, ?_, ?_⟩ ?_
      · by_cases h : T0 = S
        · subst h
          exact ⟨T0, f0, _, ot _ _ Z.Sz.symm z0, new⟩
        · exact ⟨T0, f0, o0, ot _ _ Z.Sz.symm z0, ot _ _ h t0⟩
      · exact ot _ _ Z.SI.symm (hk _ _ Z.D.TIz Z.D.TITO Z.D.TIi1 Z.D.TIi2 I.ti)
      · rw [List.length_append, List.length_singleton]; exact n1.at fun o e => ot _ _ Z.S1.symm e
      · rw [List.length_append, List.length_singleton]; exact n2.at fun o e => ot _ _ Z.S2.symm e
      · exact I.g1.at fun o e => ot _ _ Z.Sl.symm (hk _ _ Z.D.l1z Z.D.l1TO Z.D.l1i1 Z.D.l1i2 e)
      · exact I.g2.at fun o e => ot _ _ Z.Sm.symm (hk _ _ Z.D.l2z Z.D.l2TO Z.D.l2i1 Z.D.l2i2 e)
      · intro j T hj
        by_cases hjl : j < Ts.length
        · rw [List.getElem?_append_left hjl] at hj
          obtain ⟨p1, x, y, p2, p3, p4⟩ := I.pr j T hj
          exact ⟨p1, x, y, p2, p3, ot _ _ (pair_ne p4 hS lst_nt) (hTs T (List.mem_of_getElem? hj) _ p4)⟩
        · rw [List.getElem?_append_right (by omega)] at hj
          have hj0 : j = Ts.length := by
            have := (List.getElem?_eq_some_iff.mp hj).1
            simp at this; omega
          subst hj0
          rw [Nat.sub_self] at hj
          cases hj
          exact ⟨I.sz, _, _, hx, hy, ot _ _ (Nat.ne_of_gt sS) hp⟩
      · refine List.nodup_append.mpr ⟨I.nd, by simp, fun a ha c hc => ?_⟩
        rw [List.mem_singleton.mp hc]
        obtain ⟨j, hj⟩ := List.getElem?_of_mem ha
        obtain ⟨_, x, y, _, _, p4⟩ := I.pr j a hj
        exact Nat.ne_of_lt (lt_of p4)
      · intro c o e
        exact ot _ _ (ne_of e Z.bS) (hk c o (ne_of e Z.bz) (ne_of e Z.bO) (ne_of e Z.b1) (ne_of e Z.b2) (I.kp c o e))
      · show b.objs.size ≤ (h'.update S _).objs.size
        rw [Heap.size_update, hsz]
        have := I.sz
        omega
      · have e : ((Ts ++ [s.heap.objs.size]).map Value.ref).toArray = ((Ts.map Value.ref).toArray).push (.ref s.heap.objs.size) := by simp
        rw [e]
        exact ⟨_, new⟩
      · intro h2 Us u1 u2 u3 u4 u5
        exact q h2 Us u1 u2 u3 u4 u5
    rcases I.zp with ⟨hnil, hz, u, v, hO⟩ | ⟨T, f, oT, hz, hT⟩
    · subst hnil
      exact RZ.pyNext_zipT_item Z.D hz I.ti hO I.n1 I.n2 I.g1 I.g2 hx hy fun h' a1 a2 a3 a4 a5 a6 a7 => go h' ⟨_, _, _, a1, a5⟩ a3 a4 a5 a6 a7 fun T hT => absurd hT List.not_mem_nil
    · refine next_pair Z.D hz hT I.ti I.n1 I.n2 I.g1 I.g2 hx hy fun h' a1 a2 a3 a4 a5 a6 => go h' ?_ a2 a3 a4 a5 (fun c o c1 _ c3 c4 e => a6 c o c1 c3 c4 e) fun U hU o e => ?_
      · by_cases hTz : T = z
        · subst hTz; exact ⟨_, _, _, a1, a1⟩
        by_cases hT1 : T = i1
        · subst hT1; obtain ⟨o, ho, _⟩ := a2; exact ⟨_, _, _, a1, ho⟩
        by_cases hT2 : T = i2
        · subst hT2; obtain ⟨o, ho, _⟩ := a3; exact ⟨_, _, _, a1, ho⟩
        exact ⟨_, _, _, a1, a6 T _ hTz hT1 hT2 hT⟩
      · obtain ⟨j, hj⟩ := List.getElem?_of_mem hU
        obtain ⟨_, x, y, _, _, p4⟩ := I.pr j U hj
        obtain ⟨o1, e1, d1, _⟩ := I.n1
        obtain ⟨o2, e2, d2, _⟩ := I.n2
        exact a6 U o (pair_ne p4 hz zip_nt) (pair_ne p4 e1 (it_nt d1)) (pair_ne p4 e2 (it_nt d2)) e
structure Zn (z TI TO i1 i2 l1 l2 : Addr) (xs ys : Array Value) (b h : Heap) : Prop where
  D : ZipApart z TI TO i1 i2 l1 l2
  bz : b.objs.size ≤ z
  bO : b.objs.size ≤ TO
  b1 : b.objs.size ≤ i1
  b2 : b.objs.size ≤ i2
  hz : IsZip h z TI TO .none
  hO : ∃ u v, IsPair h TO u v
  ti : IsPair h TI (.ref i1) (.ref i2)
  n1 : h.IsTupleIter i1 l1 0
  n2 : h.IsTupleIter i2 l2 0
  g1 : h.IsTuple l1 xs
  g2 : h.IsTuple l2 ys
  kp : ∀ c o, b.get? c = some o → h.get? c = some o
  sz : b.objs.size ≤ h.objs.size
theorem nolen_zip : typeLookup (Value.type "zip") (Str.ofString "__len__") = pure none := by
  rw [typeLookup_type, builtinLookup_eq_fast]; rfl
theorem nohint_zip : typeLookup (Value.type "zip") (Str.ofString "__length_hint__") = pure none := by
  rw [typeLookup_type, builtinLookup_eq_fast]; rfl
theorem collect_zip {b : Heap} {Q : List Value → Shared → Prop} (hh : A.handled = none) (Z : Zn z TI TO i1 i2 l1 l2 xs ys b s.heap) (hl : xs.size = ys.size) (hn : xs.size ≤ sizeLine)
    (q : ∀ (h' : Heap) (Us : List Addr), Us.length = xs.size → Us.Nodup → (∀ (j : Nat) (T : Addr), Us[j]? = some T → b.objs.size ≤ T ∧ ∃ x y, xs[j]? = some x ∧ ys[j]? = some y ∧ IsPair h' T x y) → (∀ c o, b.get? c = some o → h'.get? c = some o) → b.objs.size ≤ h'.objs.size →
        Q (Us.map Value.ref) { s with heap := h' }) : wpAny (model prog w) A (collect (.ref z)) Q E s := by
  have lz := lt_of Z.hz
  obtain ⟨u, v, hO⟩ := Z.hO
  have lO := lt_of hO
  have lI := lt_of Z.ti
  obtain ⟨o1, e1, c1, d1⟩ := id Z.n1
  obtain ⟨o2, e2, c2, d2⟩ := id Z.n2
  obtain ⟨o3, e3, _⟩ := id Z.g1
  obtain ⟨o4, e4, _⟩ := id Z.g2
  unfold collect
  refine wpAny_bind (wpAny_runValue (codeAny_builtin F.entry_proto_collect ?_))
  rw [Around.under_plainId F.plain_proto_collect]
  show wpAny _ _ (newObj (.type "list") (Data.seq #[]) >>= _) _ _ _
  refine wpAny_bind (wpAny_newObj_type (wpAny_pure ⟨plainId_quiet F.plain_list_iadd _, codeAny_builtin F.entry_list_iadd ?_⟩))
  rw [Around.under_plainId F.plain_list_iadd]
  show wpAny _ _ (Builtin.List.listExtendWith (.ref s.heap.objs.size) (.ref z) (.ref s.heap.objs.size)) _ _ _
  have new0 : (s.heap.push { cls := .type "list", data := .seq #[] }).get? s.heap.objs.size = some { cls := .type "list", data := .seq #[] } := Heap.get?_push_size _ rfl
  have old0 : ∀ c o, s.heap.get? c = some o → (s.heap.push { cls := .type "list", data := .seq #[] }).get? c = some o := fun c o e => Heap.get?_push_of_some _ e
  have ty : ({ s with heap := s.heap.push { cls := .type "list", data := .seq #[] } } : Shared).TypeIs (.ref z) "zip" := ⟨_, old0 _ _ Z.hz, rfl⟩
  have ne : s.heap.objs.size ≠ z := Nat.ne_of_gt lz
  have same : Builtin.List.listSameRef (.ref s.heap.objs.size) (.ref z) = false := by simp [Builtin.List.listSameRef, ne]
  unfold Builtin.List.listExtendWith
  refine wpAny_bind (wpAny_typeOf ty ?_)
  rw [if_neg (by rw [same]; decide)]
  refine wpAny_bind (wpAny_pyIter_zip (old0 _ _ Z.hz) (wpAny_bind (wpAny_holding ?_)))
  unfold Builtin.List.listLengthHint
  refine wpAny_bind (wpAny_specialOf ty nolen_zip ?_)
  show wpAny _ _ (specialOf (Value.ref z) (Str.ofString "__length_hint__") >>= _) _ _ _
  refine wpAny_bind (wpAny_specialOf ty nohint_zip (wpAny_pure ?_))
  rw [if_pos (by rfl)]
  refine wpAny_bind (wpAny_rule ?_)
  show wpAny _ _ (Builtin.List.listTouch (.ref s.heap.objs.size) >>= _) _ _ _
  refine wpAny_bind ?_
  unfold Builtin.List.listTouch
  have up1 := Heap.get?_update_self (Obj.mapSeq fun x => x.push Value.none) new0 rfl
  refine wpAny_bind (show wpAny _ _ (updateSeq s.heap.objs.size fun x => x.push Value.none) _ _ _ from wpAny_updateSeq new0 rfl ?_ (by simp) (by simp))
  refine show wpAny _ _ (updateSeq s.heap.objs.size fun x => x.pop) _ _ _ from wpAny_updateSeq up1 rfl ?_ (by simp [sizeLine_eq]) (by simp)
  have up2 := Heap.get?_update_self (Obj.mapSeq fun x => x.pop) up1 rfl
  generalize hhh : (((s.heap.push { cls := .type "list", data := .seq #[] }).update s.heap.objs.size (Obj.mapSeq fun x => x.push Value.none)).update s.heap.objs.size (Obj.mapSeq fun x => x.pop)) = h2 at up2 ⊢
  have old : ∀ c o, c ≠ s.heap.objs.size → s.heap.get? c = some o → h2.get? c = some o := fun c o hc e => by
    rw [← hhh]
    exact (Heap.get?_update_other _ _ hc.symm).trans ((Heap.get?_update_other _ _ hc.symm).trans (old0 c o e))
  have hsz : h2.objs.size = s.heap.objs.size + 1 := by rw [← hhh, Heap.size_update, Heap.size_update, Heap.size_push]
  have old1 : ∀ c o, s.heap.get? c = some o → h2.get? c = some o := fun c o e => old c o (Nat.ne_of_lt (lt_of e)) e
  refine wpAny_pure ⟨plainId_quiet F.plain_extend_loop _, ?_⟩
  refine zip_loop (S := s.heap.objs.size) (b := b) (xs := xs) (ys := ys) hh ⟨Z.D, Z.bz, Z.bO, Z.b1, Z.b2, Z.sz, ne, Nat.ne_of_gt lI, Nat.ne_of_gt lO, Nat.ne_of_gt (lt_of e1), Nat.ne_of_gt (lt_of e2), Nat.ne_of_gt (lt_of e3), Nat.ne_of_gt (lt_of e4)⟩ hl hn _ [] { s with heap := h2 } rfl (Nat.zero_le _) ⟨.inl ⟨rfl, old1 _ _ Z.hz, u, v, old1 _ _ hO⟩, old1 _ _ Z.ti, Z.n1.at fun o e => old1 _ _ e, Z.n2.at fun o e => old1 _ _ e, Z.g1.at fun o e => old1 _ _ e, Z.g2.at fun o e => old1 _ _ e, (fun j T h => by cases h), List.nodup_nil, fun c o e => old1 _ _ (Z.kp c o e), ?_, ?_⟩ ?_
  · show b.objs.size ≤ h2.objs.size
    rw [hsz]
    exact Nat.le_succ_of_le Z.sz
  · exact ⟨_, up2⟩
  · rintro h' Us u1 u2 u3 u4 ⟨c, hc⟩
    show wpAny _ _ (load s.heap.objs.size >>= _) _ _ _
    refine wpAny_bind (wpAny_load hc ?_)
    have := q h' Us u1 u2 u3 u4 (Nat.le_trans Z.sz (Nat.le_of_lt (lt_of hc)))
    exact wpAny_pure (by simpa using this)
theorem made_tuple {b : Heap} {Q : Value → Shared → Prop} (hh : A.handled = none) (Z : Zn z TI TO i1 i2 l1 l2 xs ys b s.heap) (hl : xs.size = ys.size) (hn : xs.size ≤ sizeLine)
    (q : ∀ (h' : Heap) (Us : List Addr), Us.length = xs.size → Us.Nodup → (∀ (j : Nat) (T : Addr), Us[j]? = some T → b.objs.size ≤ T ∧ ∃ x y, xs[j]? = some x ∧ ys[j]? = some y ∧ IsPair h' T x y) → (∀ c o, b.get? c = some o → h'.get? c = some o) → b.objs.size ≤ h'.objs.size →
        Q (.ref h'.objs.size) { s with heap := h'.push { cls := .type "tuple", data := .seq (Us.map Value.ref).toArray } }) : wpAny (model prog w) A (call (.type "tuple") [.ref z]) Q E s := by
  refine callType_codes (Q₁ := fun v t => t.TypeIs v "tuple" ∧ Q v t) F.called_tuple (F.typeCall_tuple_1 _) F.entry_object_init (codeAny_of_tree ?_) fun obj s₁ h₁ =>
    ⟨h₁.1, F.args_object_init_2 obj _, object_init_meets F.called_tuple.init.lookup F.called_tuple.made (by decide) prog w _ _ s₁ ⟨h₁.1, rfl, h₁.2⟩⟩
  refine wpAny_bind (wpAny_of_eq (F.newCall_tuple_1 (.ref z)) (wpAny_pure ⟨plainId_quiet F.plain_tuple_new _, codeAny_builtin F.entry_tuple_new ?_⟩))
  rw [Around.under_plainId F.plain_tuple_new]
  have ty : s.TypeIs (.ref z) "zip" := ⟨_, Z.hz, rfl⟩
  show wpAny _ _ (isType (Value.type "tuple") >>= _) _ _ _
  refine wpAny_bind (show wpAny _ _ (pure true) _ _ _ from wpAny_pure (wpAny_ite_false rfl (wpAny_bind (wpAny_of_eq sub_tuple_self ?_))))
  refine wpAny_ite_false rfl (wpAny_ite_false rfl (wpAny_bind (wpAny_of_eq madeHere_tuple (wpAny_bind (wpAny_of_eq init_tuple_lookup (wpAny_ite_true rfl (wpAny_bind ?_)))))))
  show wpAny _ _ (if _ then pure () else _) _ _ _
  refine wpAny_ite_true rfl ?_
  refine wpAny_pure ?_
  show wpAny _ _ (checkCount "tuple" 0 1 1 >>= _) _ _ _
  refine wpAny_bind ?_
  unfold checkCount
  refine wpAny_ite_false rfl ?_
  refine wpAny_ite_false rfl ?_
  refine wpAny_ite_false rfl ?_
  refine wpAny_pure ?_
  dsimp only
  refine wpAny_ite_true rfl ?_
  show wpAny _ _ (Builtin.Tuple.tupleIsExact (.ref z) >>= _) _ _ _
  refine wpAny_bind ?_
  show wpAny _ _ (typeOf (Value.ref z) >>= _) _ _ _
  refine wpAny_bind (wpAny_typeOf ty (wpAny_pure ?_))
  refine wpAny_ite_false rfl ?_
  refine wpAny_bind ?_
  refine collect_zip hh Z hl hn fun h' Us u1 u2 u3 u4 u5 => ?_
  show wpAny _ _ (newObj (.type "tuple") (Data.seq (Us.map Value.ref).toArray) >>= _) _ _ _
  refine wpAny_bind (wpAny_newObj_type (wpAny_pure ⟨⟨_, Heap.get?_push_size _ rfl, rfl⟩, ?_⟩) (by show (Us.map Value.ref).toArray.size ≤ sizeLine; rw [List.size_toArray, List.length_map, u1]; exact hn))
  exact q h' Us u1 u2 u3 u4 u5
end
section
variable {X : Cx}
noncomputable def updP : Hp → List Addr → List V → List V → Hp
  | H, T :: Ts, x :: xs, y :: ys => updP (upd H T (.tup [x, y])) Ts xs ys
  | H, _, _, _ => H
theorem hok_new {P : Program} {w : World} {H : Hp} {h : Heap} {a : Addr} {o : HO} (g : HOk P w H h) (hn : H a = none) (new : ObjOk P w (upd H a o) h a o) : HOk P w (upd H a o) h := fun b u e => by
  by_cases hb : b = a
  · subst hb
    rw [upd_same] at e
    cases e
    exact new
  · rw [upd_ne hb] at e
    exact (g b u e).stay (fun c v _ q => q) (fun c q => by rw [upd_ne (ne_of_none q hn)]; exact q) (fun c xs q => by rw [upd_ne (ne_of_none q hn)]; exact q)
theorem hok_pairs {P : Program} {w : World} {h : Heap} : ∀ (Ts : List Addr) (xs ys : List V) (us vs : List Value) (H : Hp), Vals xs us → Vals ys vs → Ts.length = xs.length → Ts.length = ys.length → Ts.Nodup → (∀ T ∈ Ts, H T = none) →
    (∀ (j : Nat) (T : Addr), Ts[j]? = some T → ∃ x y, us[j]? = some x ∧ vs[j]? = some y ∧ IsPair h T x y) → HOk P w H h → HOk P w (updP H Ts xs ys) h ∧ ∀ b, b ∉ Ts → updP H Ts xs ys b = H b
  | [], xs, ys, us, vs, H, _, _, _, _, _, _, _, g => ⟨by cases xs <;> exact g, fun b _ => by cases xs <;> rfl⟩
  | T :: Ts, x :: xs, y :: ys, _, _, H, .cons (b := u) rx rxs, .cons (b := v) ry rys, h1, h2, nd, hn, hp, g => by
    obtain ⟨n1, n2⟩ := List.nodup_cons.mp nd
    have hT := hn T List.mem_cons_self
    obtain ⟨u', v', e1, e2, hpr⟩ := hp 0 T rfl
    cases e1; cases e2
    have g' : HOk P w (upd H T (.tup [x, y])) h := hok_new g hT ⟨by show 2 ≤ sizeLine; decide, [u, v], .cons rx (.cons ry .nil), ⟨_, hpr, rfl, _, rfl⟩⟩
    obtain ⟨r1, r2⟩ := hok_pairs Ts xs ys _ _ (upd H T (.tup [x, y])) rxs rys (by simpa using h1) (by simpa using h2) n2 (fun U hU => by
      rw [upd_ne (fun e => n1 (by rw [← e]; exact hU))]
      exact hn U (List.mem_cons_of_mem _ hU)) (fun j U hj => hp (j + 1) U hj) g'
    exact ⟨r1, fun b hb => by
      rw [List.mem_cons, not_or] at hb
      exact (r2 b hb.2).trans (upd_ne hb.1)⟩
  | T :: Ts, [], _, _, _, _, _, _, h1, _, _, _, _, _ => by simp at h1
  | T :: Ts, _ :: _, [], _, _, _, _, _, _, h2, _, _, _, _ => by simp at h2
noncomputable def tTupZip (K : PySem.W.Frag) (ta : TA) : TE := fun σ H Q => ta σ H fun vs H1 => ∃ (a b : Addr) (xs ys : List V), vs = [.ref a, .ref b] ∧ SqT K H1 a xs ∧ SqT K H1 b ys ∧ xs.length = ys.length ∧
  ∀ (Ts : List Addr) (q : Addr), Ts.length = xs.length → Ts.Nodup → (∀ T ∈ Ts, H1 T = none) → H1 q = none → q ∉ Ts → Q (.ref q) (upd (updP H1 Ts xs ys) q (.tup (Ts.map .ref)))
theorem vals_refs : ∀ Ts : List Addr, Vals (Ts.map V.ref) (Ts.map Value.ref)
  | [] => .nil
  | _ :: Ts => .cons rfl (vals_refs Ts)
theorem inv_pairs {pins : List (Addr × Obj)} {σ : L2.St} {H : Hp} {s : Shared} {h' : Heap} {xs ys : List V} {us vs : List Value} {Ts : List Addr} (I : Inv X pins σ H s) (rx : Vals xs us) (ry : Vals ys vs) (h1 : Ts.length = xs.length) (h2 : Ts.length = ys.length) (hn : xs.length ≤ sizeLine) (nd : Ts.Nodup)
    (hp : ∀ (j : Nat) (T : Addr), Ts[j]? = some T → s.heap.objs.size ≤ T ∧ ∃ x y, us[j]? = some x ∧ vs[j]? = some y ∧ IsPair h' T x y) (kp : ∀ c o, s.heap.get? c = some o → h'.get? c = some o) (sz : s.heap.objs.size ≤ h'.objs.size) :
    (∀ T ∈ Ts, H T = none) ∧ H h'.objs.size = none ∧ h'.objs.size ∉ Ts ∧ Inv X pins σ (upd (updP H Ts xs ys) h'.objs.size (.tup (Ts.map .ref))) { s with heap := h'.push { cls := .type "tuple", data := .seq (Ts.map Value.ref).toArray } } := by
  have kp2 : ∀ c o, h'.get? c = some o → (h'.push { cls := .type "tuple", data := .seq (Ts.map Value.ref).toArray }).get? c = some o := fun c o e => Heap.get?_push_of_some _ e
  have f1 : ∀ T ∈ Ts, H T = none := fun T hT => by
    obtain ⟨j, hj⟩ := List.getElem?_of_mem hT
    exact I.hok.fresh (hp j T hj).1
  have f2 : H h'.objs.size = none := I.hok.fresh sz
  have f3 : h'.objs.size ∉ Ts := fun hT => by
    obtain ⟨j, hj⟩ := List.getElem?_of_mem hT
    obtain ⟨_, x, y, _, _, p⟩ := hp j _ hj
    exact Nat.lt_irrefl _ (lt_of p)
  have g0 : HOk X.prog X.w H (h'.push { cls := .type "tuple", data := .seq (Ts.map Value.ref).toArray }) := I.hok.kept fun c o e => kp2 c o (kp c o e)
  obtain ⟨g1, g2⟩ := hok_pairs Ts xs ys us vs H rx ry h1 h2 nd f1 (fun j T hj => by obtain ⟨_, x, y, e1, e2, p⟩ := hp j T hj; exact ⟨x, y, e1, e2, kp2 _ _ p⟩) g0
  have e3 : updP H Ts xs ys h'.objs.size = none := (g2 _ f3).trans f2
  have g3 := hok_new (o := .tup (Ts.map V.ref)) g1 e3 ⟨by rw [List.length_map, h1]; exact hn, Ts.map Value.ref, vals_refs Ts, ⟨_, Heap.get?_push_size _ rfl, rfl, _, rfl⟩⟩
  have same : ∀ b, (b < s.heap.objs.size) → upd (updP H Ts xs ys) h'.objs.size (.tup (Ts.map .ref)) b = H b := fun b hb => by
    rw [upd_ne (Nat.ne_of_lt (Nat.lt_of_lt_of_le hb sz))]
    exact g2 b fun hT => by
      obtain ⟨j, hj⟩ := List.getElem?_of_mem hT
      exact Nat.lt_irrefl _ (Nat.lt_of_lt_of_le hb (hp j b hj).1)
  have lt : ∀ b o, H b = some o → b < s.heap.objs.size := fun b o e => I.hok.lt e
  refine ⟨f1, f2, f3, I.un (t' := s.toks) ⟨fun b o e n _ _ => kp2 b o (kp b o e), fun b o e n _ _ => ⟨o.slots, kp2 b o (kp b o e)⟩, fun b o e n _ => ?_, fun b o e _ => ⟨o, kp2 b o (kp b o e)⟩, fun b xs e => ?_, fun b o u e => ?_, fun b ps e => ⟨#[], ?_⟩⟩ g3⟩
  · exact (same b (lt_of e)).trans n
  · exact (same b (lt b _ e)).trans e
  · exact (same b (lt b _ e)).trans e
  · rw [Array.append_empty]; exact (same b (lt b _ e)).trans e
theorem pe_tupZip {e e2 : Expr} {ta : TA} {p p2 pos pos2 : Pos} (calm : X.calm = true) (gl : Gl X "tuple") (zl : X.mg "tuple" = none) (gr : Gl X "zip") (zr : X.mg "zip" = none) (ha : PA X [e, e2] ta)
    (hs : starEach [e, e2] X.env = (false, eval e X.env) :: starEach [e2] X.env := by rfl) (hpl : ((backTo pos2 (starEach [e2] X.env)).any fun x => x.1) = false := by rfl)
    (two : starEach [.Call (.Name "zip" p2) [e, e2] [] pos2] X.env = (false, eval (.Call (.Name "zip" p2) [e, e2] [] pos2) X.env) :: starEach [] X.env := by rfl) :
    PE X (.Call (.Name "tuple" p) [.Call (.Name "zip" p2) [e, e2] [] pos2] [] pos) (tTupZip X.K ta) := by
  refine ⟨fun pins s σ H Q inv want => ?_⟩
  refine Call_ (ld_blt inv gl zl boot_tuple (PyProof.Rows.callWith_type1 (args_cons (Call_ (ld_blt inv gr zr boot_zip (PyProof.Rows.callWith_type1 (thn (ha.run pos2 pins s σ H _ inv want) fun us s1 ⟨vs, H1, I1, r1, q1⟩ => ?_) hs hpl))) two) two rfl))
  obtain ⟨a, b, xs, ys, rfl, sa, sb, hl, q⟩ := q1
  cases r1 with
  | cons r rr =>
    cases rr with
    | cons r2 rr =>
      cases rr
      cases r
      cases r2
      obtain ⟨its, rv, pa, za⟩ := I1.tuple sa
      obtain ⟨jts, rw_, pb, zb⟩ := I1.tuple sb
      have pa' : s1.heap.IsTuple a its.toArray := pa
      have pb' : s1.heap.IsTuple b jts.toArray := pb
      have la := rv.length
      have lb := rw_.length
      obtain ⟨oa, ea, _⟩ := id pa'
      obtain ⟨ob, eb, _⟩ := id pb'
      have ha : @LT.lt Nat _ a s1.heap.objs.size := lt_of ea
      have hb : @LT.lt Nat _ b s1.heap.objs.size := lt_of eb
      refine RZ.call_zipT pa' pb' fun h' z1 z2 z3 z4 z5 z6 z7 => args_nil ?_
      have D : ZipApart (s1.heap.objs.size + 4) (s1.heap.objs.size + 2) (s1.heap.objs.size + 3) s1.heap.objs.size (s1.heap.objs.size + 1) a b := by
        constructor <;> (show ¬ (_ = _)) <;> intro h <;> (have h : (_ : Nat) = _ := h) <;> omega
      refine made_tuple (s := { s1 with heap := h' }) (b := s1.heap) (xs := its.toArray) (ys := jts.toArray) (I1.ok.hd calm) ⟨D, Nat.le_add_right _ _, Nat.le_add_right _ _, Nat.le_refl _, Nat.le_add_right _ _, z1, ⟨_, _, z3⟩, z2, z4, z5, pa'.at fun o e => z7 _ _ e, pb'.at fun o e => z7 _ _ e, z7, by show s1.heap.objs.size ≤ h'.objs.size; rw [z6]; exact Nat.le_add_right _ _⟩ (by rw [List.size_toArray, List.size_toArray, ← la, ← lb, hl]) (by rw [List.size_toArray, ← la]; exact za) fun h2 Us u1 u2 u3 u4 u5 => ?_
      have u1' : Us.length = xs.length := by rw [u1, List.size_toArray, la]
      obtain ⟨f1, f2, f3, J⟩ := inv_pairs (h' := h2) (Ts := Us) I1 rv rw_ u1' (u1'.trans hl) za u2 (fun j T hj => by
        obtain ⟨p1, x, y, p2, p3, p4⟩ := u3 j T hj
        exact ⟨p1, x, y, by simpa using p2, by simpa using p3, p4⟩) u4 u5
      exact ⟨.ref h2.objs.size, _, J, rfl, q Us _ u1' u2 f1 f2 f3⟩
theorem pe_tupZipK {K : PySem.W.Frag} (hK : X.K = K) {e e2 : Expr} {ta : TA} {p p2 pos pos2 : Pos} (calm : X.calm = true) (gl : Gl X "tuple") (zl : X.mg "tuple" = none) (gr : Gl X "zip") (zr : X.mg "zip" = none) (ha : PA X [e, e2] ta)
    (hs : starEach [e, e2] X.env = (false, eval e X.env) :: starEach [e2] X.env := by rfl) (hpl : ((backTo pos2 (starEach [e2] X.env)).any fun x => x.1) = false := by rfl)
    (two : starEach [.Call (.Name "zip" p2) [e, e2] [] pos2] X.env = (false, eval (.Call (.Name "zip" p2) [e, e2] [] pos2) X.env) :: starEach [] X.env := by rfl) :
    PE X (.Call (.Name "tuple" p) [.Call (.Name "zip" p2) [e, e2] [] pos2] [] pos) (tTupZip K ta) := by subst hK; exact pe_tupZip calm gl zl gr zr ha hs hpl two
theorem pi_zipAK {K : PySem.W.Frag} (hK : X.K = K) {e e2 : Expr} {ta : TA} {p pos tpos : Pos} {elts : List Expr} {kk : Nat} (hg : Gl X "zip") (hm : X.mg "zip" = none) (ha : PA X [e, e2] ta)
    (hs : starEach [e, e2] X.env = (false, eval e X.env) :: starEach [e2] X.env := by rfl) (hpl : ((backTo pos (starEach [e2] X.env)).any fun x => x.1) = false := by rfl) :
    PI X (.Tuple elts kk tpos) (.Call (.Name "zip" p) [e, e2] [] pos) (RZ.iZipA K ta) := by subst hK; exact RZ.pi_zipA hg hm ha hs hpl
end
end Lv
namespace Pd
open PySem PySem.Spec PyProof.Rows L2 GxR Gx
section
variable {K : PySem.W.Frag} {tb : List Addr}
noncomputable def zipD : List PyData → List PyData → List PyData
  | d :: ds, e :: es => .tuple [d, e] :: zipD ds es
  | _, _ => []
noncomputable def zipW (ds es : List PyData) : List W := (zipD ds es).map W.d
noncomputable def iZipM (a : MA) : MI := fun ρ S => (a ρ S).bind fun p => match p.1 with
  | [.d (.tuple ds), .d (.tuple es)] => if ds.length = es.length then some (.vals (zipW ds es), p.2) else none
  | _ => none
noncomputable def eTupZip (a : MA) : ME := fun ρ S => (a ρ S).bind fun p => match p.1 with
  | [.d (.tuple ds), .d (.tuple es)] => if ds.length = es.length then some (.d (.tuple (zipD ds es)), p.2) else none
  | _ => none
theorem zipD_get : ∀ {ds es : List PyData} {i : Nat} {w : PyData}, (zipD ds es)[i]? = some w → ∃ d e, ds[i]? = some d ∧ es[i]? = some e ∧ w = .tuple [d, e]
  | d :: ds, e :: es, 0, w, h => by cases h; exact ⟨d, e, rfl, rfl, rfl⟩
  | d :: ds, e :: es, i + 1, w, h => zipD_get (ds := ds) (es := es) h
  | [], es, i, w, h => by cases h
  | _ :: _, [], i, w, h => by cases h
theorem zipD_len : ∀ {ds es : List PyData}, ds.length = es.length → (zipD ds es).length = ds.length
  | [], [], _ => rfl
  | d :: ds, e :: es, h => by
    rw [zipD, List.length_cons, List.length_cons, zipD_len (by simpa using h)]
theorem itz_ok {A : Wd} {a b : Addr} {xs ys : List V} {ds es : List PyData} (f : FzT K tb A a xs) (g : FzT K tb A b ys) (r : DRs K tb A xs ds) (r' : DRs K tb A ys es) (hl : ds.length = es.length) : ItOk K tb A (RZ.ItzT K a b) (.vals (zipW ds es)) := fun B S ws N R e => by
  cases (show zipW ds es = ws from e)
  have f' := (f.nxw N).sq
  have g' := (g.nxw N).sq
  have rl := r.length
  have rl' := r'.length
  refine ⟨fun i w hw => ?_, fun i hi => ⟨xs, ys, f', g', .inl (by unfold zipW at hi; rw [List.length_map, zipD_len hl] at hi; omega)⟩⟩
  unfold zipW at hw
  rw [List.getElem?_map] at hw
  obtain ⟨_, hw1, rfl⟩ := Option.map_eq_some_iff.mp hw
  obtain ⟨d, e, e1, e2, rfl⟩ := zipD_get hw1
  obtain ⟨v, e3, r3⟩ := r.get' e1
  obtain ⟨u, e4, r4⟩ := r'.get' e2
  refine ⟨⟨xs, ys, v, u, f', g', e3, e4⟩, fun x H2 y => ?_⟩
  obtain ⟨T, x', y', rfl, hT, rfl, y1, y2⟩ := y
  have y1 := y1 xs f'
  have y2 := y2 ys g'
  rw [e3] at y1; cases y1
  rw [e4] at y2; cases y2
  exact ⟨B.put T _, rfl, .put hT _, R.put hT _, DR.tup (.inl (.put R hT _)) (.cons (DR.nxt (.put hT _) d (DR.nxw N d r3)) (.cons (DR.nxt (.put hT _) e (DR.nxw N e r4)) .nil))⟩
theorem wrs2 {A : Wd} {vs : List V} {a b : W} (h : WRs K tb A vs [a, b]) : ∃ v u, vs = [v, u] ∧ WR K tb A v a ∧ WR K tb A u b := by
  cases h with
  | cons r rr =>
    cases rr with
    | cons r2 rr =>
      cases rr
      exact ⟨_, _, rfl, r, r2⟩
theorem si_zipT {t : TA} {a : MA} (ha : SA K tb t a) : SI K tb (RZ.iZipA K t) (iZipM a) := fun A σ ρ S im S' R' R E e q => by
  obtain ⟨⟨ws, S1⟩, e1, e⟩ := Option.bind_eq_some_iff.mp e
  refine ha A σ ρ S ws S1 _ R E e1 fun vs B N R1 r => ?_
  dsimp only at e
  split at e
  · split at e
    · rename_i hl
      cases e
      obtain ⟨v, u, rfl, r1, r2⟩ := wrs2 r
      obtain ⟨a, xs, rfl, f, rd⟩ := r1.tup
      obtain ⟨b, ys, rfl, f2, rd2⟩ := r2.tup
      exact ⟨a, b, xs, ys, rfl, .inr ⟨f.sq, f2.sq, q _ B N R1 (itz_ok f f2 rd rd2 hl)⟩⟩
    · cases e
  · cases e
theorem updP_ne {b : Addr} : ∀ (Ts : List Addr) (xs ys : List V) (H : Hp), b ∉ Ts → Lv.updP H Ts xs ys b = H b
  | [], xs, ys, H, _ => by cases xs <;> rfl
  | T :: Ts, [], _, _, _ => rfl
  | T :: Ts, _ :: _, [], _, _ => rfl
  | T :: Ts, x :: xs, y :: ys, H, h => by
    rw [List.mem_cons, not_or] at h
    exact (updP_ne Ts xs ys (upd H T (.tup [x, y])) h.2).trans (upd_ne h.1)
theorem rep_pairs : ∀ (Ts : List Addr) (xs ys : List V) (ds es : List PyData) (A : Wd) (S : Mem), Rep K tb A S → DRs K tb A xs ds → DRs K tb A ys es → Ts.length = ds.length → Ts.length = es.length → Ts.Nodup → (∀ T ∈ Ts, A.H T = none) →
    ∃ B, B.H = Lv.updP A.H Ts xs ys ∧ Nxt tb A B ∧ Rep K tb B S ∧ DRs K tb B (Ts.map .ref) (zipD ds es)
  | [], xs, ys, ds, es, A, S, R, r1, r2, h1, h2, _, _ => by
    have : ds = [] := List.eq_nil_of_length_eq_zero h1.symm
    subst this
    exact ⟨A, by cases xs <;> rfl, .refl, R, .nil⟩
  | T :: Ts, xs, ys, ds, es, A, S, R, r1, r2, h1, h2, nd, hn => by
    match ds, es, r1, r2, h1, h2 with
    | d :: ds, e :: es, .cons (vs := xs) (v := x) a1 b1, .cons (vs := ys) (v := y) a2 b2, h1, h2 =>
      obtain ⟨n1, n2⟩ := List.nodup_cons.mp nd
      have hT := hn T List.mem_cons_self
      have N1 : Nxt tb A (A.put T (.tup [x, y])) := .put hT _
      have R1 := R.put hT (.tup [x, y])
      have dr : DR K tb (A.put T (.tup [x, y])) (.ref T) (.tuple [d, e]) := DR.tup (.inl (.put R hT _)) (.cons (DR.nxt N1 d a1) (.cons (DR.nxt N1 e a2) .nil))
      obtain ⟨B, b1', b2', b3', b4'⟩ := rep_pairs Ts xs ys ds es (A.put T (.tup [x, y])) S R1 (DRs.nxt N1 ds b1) (DRs.nxt N1 es b2) (by simpa using h1) (by simpa using h2) n2 fun U hU => by
        show upd A.H T _ U = none
        rw [upd_ne (fun e => n1 (by rw [← e]; exact hU))]
        exact hn U (List.mem_cons_of_mem _ hU)
      exact ⟨B, b1', N1.trans b2', b3', .cons (DR.nxt b2' _ dr) b4'⟩
    | [], _, _, _, h1, _ => simp at h1
    | _ :: _, [], _, _, _, h2 => simp at h2
theorem se_tupZip {t : TA} {a : MA} (ha : SA K tb t a) : SE K tb (Lv.tTupZip K t) (eTupZip a) := fun A σ ρ S w S' Q R E e q => by
  obtain ⟨⟨ws, S1⟩, e1, e⟩ := Option.bind_eq_some_iff.mp e
  refine ha A σ ρ S ws S1 _ R E e1 fun vs B N R1 r => ?_
  dsimp only at e
  split at e
  · rename_i ds es
    split at e
    · rename_i hl
      cases e
      obtain ⟨v, u, rfl, r1, r2⟩ := wrs2 r
      obtain ⟨a, xs, rfl, f, rd⟩ := r1.tup
      obtain ⟨b, ys, rfl, f2, rd2⟩ := r2.tup
      have l1 := rd.length
      have l2 := rd2.length
      refine ⟨a, b, xs, ys, rfl, f.sq, f2.sq, by omega, fun Ts p h1 h2 h3 h4 h5 => ?_⟩
      obtain ⟨C, c1, c2, c3, c4⟩ := rep_pairs Ts xs ys ds es B _ R1 rd rd2 (by omega) (by omega) h2 h3
      have hp : C.H p = none := by
        rw [c1]
        exact (updP_ne Ts xs ys B.H h5).trans h4
      rw [← c1]
      exact q _ (C.put p (.tup (Ts.map .ref))) ((N.trans c2).trans (.put hp _)) (c3.put hp _) (DR.tup (.inl (.put c3 hp _)) (DRs.nxt (.put hp _) _ c4))
    · cases e
  · cases e
noncomputable def rExtendT (K : PySem.W.Frag) : V → List V → Hp → VK → Prop := fun x vs H Q => ∃ (l b : Addr) (xs zs : List V), x = .ref l ∧ vs = [.ref b] ∧ H l = some (.lst xs) ∧ SqT K H b zs ∧ xs.length + zs.length ≤ sizeLine ∧ Q .non (upd H l (.lst (xs ++ zs)))
theorem mt_extendTK {X : Cx} {K : PySem.W.Frag} (hK : X.K = K) : MtM X "list.extend" (rExtendT K) := by
  subst hK
  intro pins s σ H x vs v us Q I rx rv h
  obtain ⟨l, b, xs, zs, rfl, rfl, hH, hB, hz, q⟩ := h
  cases rx
  obtain ⟨u, rfl, ru⟩ := rv.one
  cases ru
  obtain ⟨z, its, n, r, hl, e⟩ := I.lstM hH
  obtain ⟨its2, r2, e2, _⟩ := I.tuple hB
  obtain ⟨o2, g1, g2, n2, g3⟩ := e2
  have hl2 := r2.length
  have hsz : its.toArray.size + its2.toArray.size ≤ sizeLine := by rw [List.size_toArray, List.size_toArray]; omega
  have hlong : ¬ (!its.toArray.isEmpty && Builtin.List.listTooLong (its.toArray.size + its2.toArray.size)) = true := by
    rw [notLongL hsz, Bool.and_false]
    exact Bool.false_ne_true
  refine wpAny_call_entry F.slot_list_extend ⟨_, e, rfl⟩ F.entry_list_extend ?_ (F.args_list_extend_2 _ _)
  show wpAny _ _ (Builtin.List.listExtendWith (.ref l) (.ref b) .none) _ _ _
  unfold Builtin.List.listExtendWith
  refine wpAny_bind (wpAny_typeOf (T := "tuple") ⟨o2, g1, g2⟩ ?_)
  rw [if_pos (by simp)]
  unfold Builtin.List.listItems
  refine wpAny_bind (wpAny_bind (wpAny_seqItems g1 g3 (wpAny_pure ?_)))
  refine wpAny_bind (wpAny_bind (wpAny_seqItems e rfl (wpAny_pure ?_)))
  rw [if_neg hlong]
  refine wpAny_bind (show wpAny _ _ (updateSeq l fun x => x ++ its2.toArray) _ _ _ from wpAny_updateSeq e rfl (wpAny_pure ?_) (by simp only [List.size_toArray] at hsz ⊢; omega) (by rw [Array.size_append]; omega))
  refine ⟨.none, rfl, .non, _, I.lset (its' := its ++ its2) hH e (by simp) (r.append r2) ?_, rfl, q⟩
  rw [List.length_append]
  omega
noncomputable def mExtendT : MM := fun a ws S => match ws with
  | [.d (.tuple ds)] => (lstAt a S).bind fun p => if p.2.length + ds.length ≤ sizeLine then some (.d .none, S.set p.1 (.lst (p.2 ++ ds.map .d))) else none
  | _ => none
theorem sm_extendT : SM K tb (rExtendT K) mExtendT := fun A x vs a ws S w S' Q R ra rs e q => by
  unfold mExtendT at e
  split at e
  · rename_i ds
    obtain ⟨⟨n, us⟩, e1, e⟩ := Option.bind_eq_some_iff.mp e
    dsimp only at e
    split at e
    · rename_i hl
      cases e
      obtain ⟨rfl, _, p, xs, rfl, ia, ep, rx⟩ := lstAt_run R ra e1
      obtain ⟨v, rfl, rv⟩ := wrs1 rs
      obtain ⟨b, zs, rfl, f, rd⟩ := WR.tup rv
      have l1 := rd.length
      exact ⟨p, b, xs, zs, rfl, rfl, ep, f.sq, by rw [WRs.length rx]; omega, lset_run (v := .non) (w := .d .none) R ia ep (rx.append (wrs_of rd)) DR.non q⟩
    · cases e
  · cases e
end
section
variable {ρ : Env'} {S : Mem} {m : MA} {I : Itm × Mem → Prop} {Q : WM → Prop} {ds es : List PyData}
noncomputable def Kzp (I : Itm × Mem → Prop) (p : List W × Mem) : Prop := Ok (match p.1 with
  | [.d (.tuple ds), .d (.tuple es)] => if ds.length = es.length then some (.vals (zipW ds es), p.2) else none
  | _ => none) I
theorem k_zip : Ok (iZipM m ρ S) I ↔ Ok (m ρ S) (Kzp I) := bind_fr fun x => Iff.rfl
theorem k_zp_ : Kzp I ([.d (.tuple ds), .d (.tuple es)], S) ↔ ds.length = es.length ∧ I (.vals (zipW ds es), S) := by
  unfold Kzp
  dsimp only
  rw [k_if, k_some]
noncomputable def Ktz (Q : WM → Prop) (p : List W × Mem) : Prop := Ok (match p.1 with
  | [.d (.tuple ds), .d (.tuple es)] => if ds.length = es.length then some (.d (.tuple (zipD ds es)), p.2) else none
  | _ => none) Q
theorem k_tzip : Ok (eTupZip m ρ S) Q ↔ Ok (m ρ S) (Ktz Q) := bind_fr fun x => Iff.rfl
theorem k_tz_ : Ktz Q ([.d (.tuple ds), .d (.tuple es)], S) ↔ ds.length = es.length ∧ Q (.d (.tuple (zipD ds es)), S) := by
  unfold Ktz
  dsimp only
  rw [k_if, k_some]
noncomputable def FExtT (n : Nat) (ds : List PyData) (S : Mem) (us : List W) : Option WM := if us.length + ds.length ≤ sizeLine then some (.d .none, S.set n (.lst (us ++ ds.map .d))) else none
theorem k_extT {n : Nat} {ds : List PyData} : Ok (mExtendT (.loc n) [.d (.tuple ds)] S) Q ↔ Kat (FExtT n ds S) Q S[n]? := k_at2 (F := fun k ws => FExtT k ds S ws)
theorem k_extT_ {n : Nat} {ds : List PyData} {ws : List W} : Kat (FExtT n ds S) Q (some (.lst ws)) ↔ ws.length + ds.length ≤ sizeLine ∧ Q (.d .none, S.set n (.lst (ws ++ ds.map .d))) := by
  unfold Kat FExtT
  dsimp only
  rw [k_if, k_some]
end
section
variable {K : PySem.W.Frag} {tb : List Addr}
noncomputable def keyD : Key → PyData
  | .inl i => .int i
  | .inr x => .str x
noncomputable def iKeysM (a : ME) : MI := fun ρ S => (a ρ S).bind fun p => match p.1 with
  | .loc n => match p.2[n]? with
    | some (.ldct kvs) => some (.vals ((kvs.map fun kv => keyD kv.1).map .d), p.2)
    | _ => none
  | _ => none
noncomputable def dctAtR (w : W) (S : Mem) : Option KW := match w with
  | .loc n => match S[n]? with
    | some (.dct kvs) => some kvs
    | some (.ldct kvs) => some kvs
    | _ => none
  | _ => none
noncomputable def eDGetR (o i : ME) : ME := fun ρ S => (o ρ S).bind fun p => (i ρ p.2).bind fun z => (dctAtR p.1 z.2).bind fun d => (keyW z.1).bind fun k => (valW d k).map fun w => (w, z.2)
end
section
variable {ρ : Env'} {S : Mem} {a o i : ME} {s : MS} {I : Itm × Mem → Prop} {P : OR' → Prop} {Q : WM → Prop} {kvs : KW} {n : Nat}
noncomputable def itK : W → Mem → Option (Itm × Mem) := fun w S => match w with
  | .loc n => match S[n]? with
    | some (.ldct kvs) => some (.vals ((kvs.map fun kv => keyD kv.1).map .d), S)
    | _ => none
  | _ => none
theorem k_keys : Ok (iKeysM a ρ S) I ↔ Ok (a ρ S) (Kit itK I) := bind_fr fun x => Iff.rfl
noncomputable def KilK (S : Mem) (I : Itm × Mem → Prop) : Option Ob → Prop
  | some (.ldct kvs) => I (.vals ((kvs.map fun kv => keyD kv.1).map .d), S)
  | _ => False
theorem k_it_K : Kit itK I (.loc n, S) ↔ KilK S I S[n]? := by
  unfold Kit itK
  cases h : S[n]? with
  | none => simp only [h, k_none, KilK]
  | some o => cases o <;> simp only [h, k_none, k_some, KilK]
theorem k_ilK_ : KilK S I (some (.ldct kvs)) ↔ I (.vals ((kvs.map fun kv => keyD kv.1).map .d), S) := .rfl
noncomputable def KdgR1 (p : W) (Q : WM → Prop) (z : WM) : Prop := Ok ((dctAtR p z.2).bind fun d => (keyW z.1).bind fun k => (valW d k).map fun w => (w, z.2)) Q
noncomputable def KdgR (i : ME) (ρ : Env') (Q : WM → Prop) (p : WM) : Prop := Ok (i ρ p.2) (KdgR1 p.1 Q)
theorem k_dgetR : Ok (eDGetR o i ρ S) Q ↔ Ok (o ρ S) (KdgR i ρ Q) := bind_fr fun y => bind2 _ rfl fun z => Iff.rfl
theorem k_dgR_ {p : W} : KdgR i ρ Q (p, S) ↔ Ok (i ρ S) (KdgR1 p Q) := .rfl
noncomputable def KdgR2 (z : Str) (S : Mem) (Q : WM → Prop) : Option Ob → Prop
  | some (.dct kvs) => KiW Q S (valW kvs (.inr z))
  | some (.ldct kvs) => KiW Q S (valW kvs (.inr z))
  | _ => False
theorem k_dgR1_ {z : Str} : KdgR1 (.loc n) Q (.d (.str z), S) ↔ KdgR2 z S Q S[n]? := by
  unfold KdgR1 dctAtR
  cases h : S[n]? with
  | none => simp only [h, Option.bind_none, k_none, KdgR2]
  | some ob => cases ob with
    | lst _ => simp only [h, Option.bind_none, k_none, KdgR2]
    | ins _ _ => simp only [h, Option.bind_none, k_none, KdgR2]
    | dcn _ _ => simp only [h, Option.bind_none, k_none, KdgR2]
    | dct kvs =>
      simp only [h, Option.bind_some, KdgR2, keyW]
      cases valW kvs (.inr z) with
      | none => exact k_none
      | some w => exact k_some
    | ldct kvs =>
      simp only [h, Option.bind_some, KdgR2, keyW]
      cases valW kvs (.inr z) with
      | none => exact k_none
      | some w => exact k_some
theorem k_dgR2d {z : Str} : KdgR2 z S Q (some (.dct kvs)) ↔ KiW Q S (valW kvs (.inr z)) := .rfl
theorem k_dgR2l {z : Str} : KdgR2 z S Q (some (.ldct kvs)) ↔ KiW Q S (valW kvs (.inr z)) := .rfl
end
end Pd
namespace Pd
open PySem PySem.Spec PyProof.Rows L2 GxR Gx Dn
class Wc where
  wd : World
noncomputable abbrev KN := List (NK × W)
open Classical in
section
variable [Wc] {K : PySem.W.Frag} {tb : List Addr}
end
section
variable [Wc] {ρ : Env'} {S : Mem} {o i e x : ME} {s : MS} {P : OR' → Prop} {Q : WM → Prop} {kvs : KN} {n : Nat}
end
end Pd
namespace Pd
open PySem PySem.Spec PyProof.Rows L2 GxR Gx
theorem roomD {k : Nat} {A : Around} (r : Room k A) : A.units + 65 < cLine := by have := r.un; omega
section
variable {X : Cx} {K : PySem.W.Frag} {tb : List Addr}
end
noncomputable def oInU (n : Bool) : F2 := fun a b S => match a, b with
  | .d x, .d (.tuple ds) => if SeqAt.shaped x = true ∧ SeqAt.shaped (.tuple ds) = true then some (.d (.bool (if n then !(ds.any fun z => PyData.eqv z x) else ds.any fun z => PyData.eqv z x)), S) else none
  | _, _ => none
noncomputable def rInU (n : Bool) (K : PySem.W.Frag) : R2 := fun x y H Q => ∃ d ds, (Dp K H x d ∧ SeqAt.shaped d = true) ∧ (Dp K H y (.tuple ds) ∧ SeqAt.shaped (.tuple ds) = true) ∧ Q (.bl (if n then !(ds.any fun z => PyData.eqv z d) else ds.any fun z => PyData.eqv z d)) H
section
variable {X : Cx} {K : PySem.W.Frag} {tb : List Addr}
theorem op_ninUK (hK : X.K = K) (hu : X.A.units + 65 < cLine) : OpR X (compareOp .NotIn) (rInU true K) := by
  subst hK
  intro pins s σ H x y v u Q I rx ry ⟨d, ds, ⟨hd, sd⟩, ⟨hs, ss⟩, q⟩
  obtain ⟨_, rd⟩ := Dp.reads I d x v hd rx
  obtain ⟨_, rs⟩ := Dp.reads I _ y u hs ry
  have hr := room_in_shaped (xs := ds) sd hu
  exact SeqAt.notIn_tuple_reads rs rd (SeqAt.canLay_of_shaped ss) (SeqAt.canLay_of_shaped sd) hr ⟨.bl _, H, I, rfl, q⟩
theorem sr_inU {n : Bool} : SR K tb (rInU n K) (oInU n) := fun A x y a b S w S' Q R ra rb e q => by
  unfold oInU at e
  split at e
  · rename_i d ds
    split at e
    · rename_i h
      cases e
      exact ⟨d, ds, ⟨DR.dp _ ra (SeqAt.canLay_of_shaped h.1), h.1⟩, ⟨DR.dp _ rb (SeqAt.canLay_of_shaped h.2), h.2⟩, q _ A .refl R (DR.bl _)⟩
    · cases e
  · cases e
end
theorem k_inU {n : Bool} {x : PyData} {ds : List PyData} {S : Mem} {Q : WM → Prop} : Ok (oInU n (.d x) (.d (.tuple ds)) S) Q ↔ (SeqAt.shaped x = true ∧ SeqAt.shaped (.tuple ds) = true) ∧ Q (.d (.bool (if n then !(ds.any fun z => PyData.eqv z x) else ds.any fun z => PyData.eqv z x)), S) := by
  show Ok (if _ then _ else _) Q ↔ _
  rw [k_if, k_some]
end Pd
namespace k09
open PySem PySem.Spec PyProof.Rows L2 GxR Gx Pd
open fam
noncomputable def b_uses (C_Graph C_Lowering : Addr)  : MS :=
    (sSeq (sAsg (eOp oIx (eFld C_Graph (eVar 1) "points") (eVar 2)) (gN 3))
    (sSeq (sAsg (eCall (m_leaves_of_temporaries C_Graph C_Lowering) (aCons (eVar 0) (aCons (eVar 1) (aCons (eCall m_taken (aCons (eVar 3) aNil)) aNil)))) (gN 4))
    (sSeq (sIf (eB (eOp (oIn false) (eOp oIx (eVar 3) (eC (.int (0)))) (eTup (aCons (eC (.str "copy")) (aCons (eC (.str "move")) aNil))))) (sAsg (eOp (oPlus false) (eVar 4) (eCall (m_leaves_of C_Graph C_Lowering) (aCons (eVar 0) (aCons (eVar 1) (aCons (eCall m_place_of (aCons (eVar 3) aNil)) aNil))))) (gN 4)) sNx)
    (sRet (eOp (oPlus false) (eVar 4) (eCall (m_crossed_by C_Graph C_Lowering) (aCons (eVar 0) (aCons (eVar 1) (aCons (eVar 3) aNil)))))))))
noncomputable def m_uses (C_Graph C_Lowering : Addr) : MF := dfn 3 2 false (b_uses C_Graph C_Lowering)
theorem ar_uses {C_Graph C_Lowering : Addr} : Ar 3 (m_uses C_Graph C_Lowering) := ar_dfn
noncomputable def b_clears (C_Graph C_Lowering : Addr)  : MS :=
    (sSeq (sAsg (eOp oIx (eFld C_Graph (eVar 1) "points") (eVar 2)) (gN 3))
    (sSeq (sAsg (eCall (m_leaves_of_temporaries C_Graph C_Lowering) (aCons (eVar 0) (aCons (eVar 1) (aCons (eCall m_taken (aCons (eVar 3) aNil)) aNil)))) (gN 4))
    (sSeq (sIf (eB (eOp (oIn false) (eOp oIx (eVar 3) (eC (.int (0)))) (eTup (aCons (eC (.str "move")) (aCons (eC (.str "let")) (aCons (eC (.str "store")) (aCons (eC (.str "drop")) aNil))))))) (sAsg (eOp (oPlus false) (eVar 4) (eCall (m_leaves_of C_Graph C_Lowering) (aCons (eVar 0) (aCons (eVar 1) (aCons (eCall m_place_of (aCons (eVar 3) aNil)) aNil))))) (gN 4)) sNx)
    (sRet (eVar 4)))))
noncomputable def m_clears (C_Graph C_Lowering : Addr) : MF := dfn 3 2 false (b_clears C_Graph C_Lowering)
theorem ar_clears {C_Graph C_Lowering : Addr} : Ar 3 (m_clears C_Graph C_Lowering) := ar_dfn
noncomputable def b_access (C_Graph C_Lowering : Addr)  : MS :=
    (sSeq (sAsg (eOp oIx (eFld C_Graph (eVar 1) "points") (eVar 2)) (gN 3))
    (sSeq (sAsg (eOp oIx (eVar 3) (eC (.int (0)))) (gN 4))
    (sSeq (sIf (eB (eOp (oEq false) (eVar 4) (eC (.str "borrow")))) (sSeq (sAsg (eIf (eB (eOp (oEq false) (eOp oIx (eVar 3) (eC (.int (2)))) (eC (.str "shared")))) (eC (.str "read")) (eC (.str "write"))) (gN 5))
    (sRet (eTup (aCons (eVar 5) (aCons (eCall m_place_of (aCons (eVar 3) aNil)) aNil))))) sNx)
    (sSeq (sIf (eB (eInC ["copy", "move", "is", "store", "swap", "drop"] ["set", "make", "unbox", "borrow", "op", "not", "call", "test", "jump", "print", "let", "leave", "stop"] (eVar 4))) (sRet (eTup (aCons (eIxC [("copy", .str "read"), ("move", .str "move"), ("is", .str "read"), ("store", .str "store"), ("swap", .str "write"), ("drop", .str "store")] (eVar 4)) (aCons (eCall m_place_of (aCons (eVar 3) aNil)) aNil)))) sNx)
    (sRet (eC .none))))))
noncomputable def m_access (C_Graph C_Lowering : Addr) : MF := dfn 3 3 false (b_access C_Graph C_Lowering)
theorem ar_access {C_Graph C_Lowering : Addr} : Ar 3 (m_access C_Graph C_Lowering) := ar_dfn
noncomputable def b_pairs_between (C_Graph C_Lowering : Addr)  : MS :=
    (sRet (eTupZip (aCons (eCall (m_leaves_of C_Graph C_Lowering) (aCons (eVar 0) (aCons (eVar 1) (aCons (eVar 2) aNil)))) (aCons (eCall (m_leaves_of C_Graph C_Lowering) (aCons (eVar 0) (aCons (eVar 1) (aCons (eVar 3) aNil)))) aNil))))
noncomputable def m_pairs_between (C_Graph C_Lowering : Addr) : MF := dfn 4 0 false (b_pairs_between C_Graph C_Lowering)
theorem ar_pairs_between {C_Graph C_Lowering : Addr} : Ar 4 (m_pairs_between C_Graph C_Lowering) := ar_dfn
noncomputable def b_pairs_into (C_Graph C_Lowering : Addr)  : MS :=
    (sSeq (sAsg (eVar 2) (gTup' (gsCons (gN 3) (gsCons (gN 4) (gsCons (gN 5) (gsCons (gN 6) gsNil))))))
    (sSeq (sIf (eB (eOp (oIn true) (eVar 5) (eTup (aCons (eC (.str "some")) (aCons (eC (.str "tuple")) aNil))))) (sRet (eTup aNil)) sNx)
    (sSeq (sAsg (eLstL aNil) (gN 7))
    (sSeq (sFor (iEnumM (aCons (eVar 6) aNil)) (gTup' (gsCons (gN 8) (gsCons (gN 9) gsNil))) (sSeq (sAsg (eIf (eB (eOp (oEq false) (eVar 5) (eC (.str "some")))) (eC (.str "?")) (eVar 8)) (gN 10))
    (sDrop (eBm mExtendT (eVar 7) (aCons (eCall (m_pairs_between C_Graph C_Lowering) (aCons (eVar 0) (aCons (eVar 1) (aCons (eTup (aCons (eVar 9) (aCons (eTup aNil) aNil))) (aCons (eTup (aCons (eVar 4) (aCons (eTup (aCons (eVar 10) aNil)) aNil))) aNil))))) aNil)))))
    (sRet (eCall bTuple (aCons (eVar 7) aNil)))))))
noncomputable def m_pairs_into (C_Graph C_Lowering : Addr) : MF := dfn 3 8 true (b_pairs_into C_Graph C_Lowering)
theorem ar_pairs_into {C_Graph C_Lowering : Addr} : Ar 3 (m_pairs_into C_Graph C_Lowering) := ar_dfn
noncomputable def b_pairs_through (C_Graph C_Lowering : Addr)  : MS :=
    (sSeq (sAsg (eVar 2) (gTup' (gsCons (gN 3) (gsCons (gN 4) (gsCons (gN 5) (gsCons (gN 6) gsNil))))))
    (sSeq (sAsg (eCall m_function_named (aCons (eVar 0) (aCons (eVar 5) aNil))) (gTup' (gsCons (gN 7) (gsCons (gN 8) (gsCons (gN 7) (gsCons (gN 9) (gsCons (gN 7) gsNil)))))))
    (sSeq (sAsg (eLc (iZipM (aCons (eVar 8) (aCons (eVar 6) aNil))) [12, 13, 7] (gTup' (gsCons (gTup' (gsCons (gN 13) (gsCons (gN 7) gsNil))) (gsCons (gN 12) gsNil))) (eOr (eB (eOp (oEq false) (eVar 3) (eC (.str "spawn")))) (eB (eOp (oIn false) (eVar 13) (eVar 9)))) (eVar 12) mkF) (gN 10))
    (sSeq (sAsg (eCall (m_leaves_of C_Graph C_Lowering) (aCons (eVar 0) (aCons (eVar 1) (aCons (eTup (aCons (eVar 4) (aCons (eTup aNil) aNil))) aNil)))) (gN 11))
    (sRet (eCall bTuple (aCons (eLc2 (iTupM (eCall (m_leaves_of_temporaries C_Graph C_Lowering) (aCons (eVar 0) (aCons (eVar 1) (aCons (eVar 10) aNil))))) [14, 15] (gN 14) tYesM (iTupM (eVar 11)) [15] (gN 15) tYesM (eTup (aCons (eVar 14) (aCons (eVar 15) aNil))) mkF) aNil)))))))
noncomputable def m_pairs_through (C_Graph C_Lowering : Addr) : MF := dfn 3 13 false (b_pairs_through C_Graph C_Lowering)
theorem ar_pairs_through {C_Graph C_Lowering : Addr} : Ar 3 (m_pairs_through C_Graph C_Lowering) := ar_dfn
noncomputable def b_moves (C_Graph C_Lowering : Addr)  : MS :=
    (sSeq (sAsg (eOp oIx (eFld C_Graph (eVar 1) "points") (eVar 2)) (gN 3))
    (sSeq (sAsg (eOp oIx (eVar 3) (eC (.int (0)))) (gN 4))
    (sSeq (sIf (eB (eOp (oIn false) (eVar 4) (eTup (aCons (eC (.str "copy")) (aCons (eC (.str "move")) aNil))))) (sRet (eCall (m_pairs_between C_Graph C_Lowering) (aCons (eVar 0) (aCons (eVar 1) (aCons (eCall m_place_of (aCons (eVar 3) aNil)) (aCons (eTup (aCons (eOp oIx (eVar 3) (eC (.int (1)))) (aCons (eTup aNil) aNil))) aNil)))))) sNx)
    (sSeq (sIf (eB (eOp (oIn false) (eVar 4) (eTup (aCons (eC (.str "let")) (aCons (eC (.str "store")) aNil))))) (sRet (eCall (m_pairs_between C_Graph C_Lowering) (aCons (eVar 0) (aCons (eVar 1) (aCons (eTup (aCons (eOp oIx (eVar 3) (eC (.int (2)))) (aCons (eTup aNil) aNil))) (aCons (eCall m_place_of (aCons (eVar 3) aNil)) aNil)))))) sNx)
    (sSeq (sIf (eB (eOp (oEq false) (eVar 4) (eC (.str "borrow")))) (sRet (eCall bTuple (aCons (eLc (iTupM (eCall (m_crossed_by C_Graph C_Lowering) (aCons (eVar 0) (aCons (eVar 1) (aCons (eVar 3) aNil))))) [5] (gN 5) tYesM (eTup (aCons (eVar 5) (aCons (eTup (aCons (eOp oIx (eVar 3) (eC (.int (1)))) (aCons (eTup aNil) aNil))) aNil))) mkF) aNil))) sNx)
    (sSeq (sIf (eB (eOp (oEq false) (eVar 4) (eC (.str "make")))) (sRet (eCall (m_pairs_into C_Graph C_Lowering) (aCons (eVar 0) (aCons (eVar 1) (aCons (eVar 3) aNil))))) sNx)
    (sSeq (sIf (eB (eOp (oIn false) (eVar 4) (eTup (aCons (eC (.str "call")) (aCons (eC (.str "spawn")) aNil))))) (sRet (eCall (m_pairs_through C_Graph C_Lowering) (aCons (eVar 0) (aCons (eVar 1) (aCons (eVar 3) aNil))))) sNx)
    (sRet (eTup aNil)))))))))
noncomputable def m_moves (C_Graph C_Lowering : Addr) : MF := dfn 3 3 false (b_moves C_Graph C_Lowering)
theorem ar_moves {C_Graph C_Lowering : Addr} : Ar 3 (m_moves C_Graph C_Lowering) := ar_dfn
noncomputable def b_loans (C_Graph C_Lowering : Addr)  : MS :=
    (sSeq (sAsg eDNew (gN 2))
    (sSeq (sFor (iEnumLM (aCons (eFld C_Graph (eVar 1) "points") aNil)) (gTup' (gsCons (gN 3) (gsCons (gN 4) gsNil))) (sIf (eB (eCall (m_makes_loan C_Graph C_Lowering) (aCons (eVar 0) (aCons (eVar 1) (aCons (eVar 4) aNil))))) (sDPutW (eVar 2) (eVar 3) (eTup (aCons (eOp oIx (eVar 4) (eC (.int (2)))) (aCons (eOp oIx (eVar 4) (eC (.int (3)))) aNil)))) sNx))
    (sRet (eVar 2))))
noncomputable def m_loans (C_Graph C_Lowering : Addr) : MF := dfn 2 3 false (b_loans C_Graph C_Lowering)
theorem ar_loans {C_Graph C_Lowering : Addr} : Ar 2 (m_loans C_Graph C_Lowering) := ar_dfn
noncomputable def b_law_tape  : MS :=
    (sSeq (sAsg (eLstL aNil) (gN 1))
    (sSeq (sAsg (eC (.int (1))) (gN 2))
    (sSeq (sFor (iLstM (eSl false (eVar 0) pNone (pSome (eC (.int (63)))))) (gN 3) (sSeq (sAsg (eCall bAbs (aCons (eCall bInt (aCons (eVar 3) aNil)) aNil)) (gN 4))
    (sSeq (sAsg (eOp (oPlus false) (eVar 2) (eVar 4)) (gN 2))
    (sFor (iRng1M (aCons (eC (.int (24))) aNil)) (gN 5) (sSeq (sDrop (eBm mAppend (eVar 1) (aCons (eOp oMod (eCall bInt (aCons (eVar 4) aNil)) (eC (.int (60)))) aNil)))
    (sSeq (sAsg (eOp oDiv (eVar 4) (eC (.int (60)))) (gN 4))
    (sIf (eB (eOp (oEq false) (eVar 4) (eC (.int (0))))) sBrk sNx)))))))
    (sRet (eLstL (aCons (eC (.int (0))) (aCons (eVar 1) (aCons (eOp oMod (eCall bInt (aCons (eVar 2) aNil)) (eC (.int (1000003)))) aNil))))))))
noncomputable def m_law_tape : MF := dfn 1 5 false (b_law_tape)
theorem ar_law_tape : Ar 1 (m_law_tape) := ar_dfn
noncomputable def b_law_next  : MS :=
    (sSeq (sAsg (eOp oIx (eVar 0) (eC (.int (0)))) (gN 2))
    (sSeq (sAsg (eOp (oPlus false) (eVar 2) (eC (.int (1)))) (gIx (eVar 0) (eC (.int (0)))))
    (sSeq (sIf (eB (eOp oLt (eVar 2) (eCall bLen (aCons (eOp oIx (eVar 0) (eC (.int (1)))) aNil)))) (sRet (eOp oMod (eCall bInt (aCons (eOp oIx (eOp oIx (eVar 0) (eC (.int (1)))) (eVar 2)) aNil)) (eVar 1))) sNx)
    (sRet (eOp oMod (eOp oDiv (eOp oMod (eCall bInt (aCons (eOp (oPlus false) (eOp oMul (eOp (oPlus false) (eVar 2) (eC (.int (1)))) (eC (.int (48271)))) (eOp oMul (eOp oIx (eVar 0) (eC (.int (2)))) (eC (.int (69621))))) aNil)) (eC (.int (2147483647)))) (eC (.int (11)))) (eVar 1))))))
noncomputable def m_law_next : MF := dfn 2 1 false (b_law_next)
theorem ar_law_next : Ar 2 (m_law_next) := ar_dfn
noncomputable def b_law_parameters  : MS :=
    (sSeq (sAsg (eTup (aCons (eC (.str "tuple")) (aCons (eTup (aCons (eTup (aCons (eC (.str "int")) aNil)) (aCons (eTup (aCons (eC (.str "int")) aNil)) aNil))) aNil))) (gN 0))
    (sSeq (sAsg (eLstF (aCons (eTup (aCons (eC (.str "p")) (aCons (eTup (aCons (eC (.str "tuple")) (aCons (eTup (aCons (eTup (aCons (eC (.str "exclusive")) (aCons (eVar 0) aNil))) (aCons (eTup (aCons (eC (.str "int")) aNil)) aNil))) aNil))) aNil))) (aCons (eTup (aCons (eC (.str "q")) (aCons (eTup (aCons (eC (.str "shared")) (aCons (eVar 0) aNil))) aNil))) (aCons (eTup (aCons (eC (.str "z")) (aCons (eTup (aCons (eC (.str "box")) (aCons (eVar 0) aNil))) aNil))) aNil)))) (gN 1))
    (sRet (eCall bTuple (aCons (eOp (oPlus false) (eVar 1) (eLstF (aCons (eTup (aCons (eC (.str "m")) (aCons (eTup (aCons (eC (.str "maybe")) (aCons (eTup (aCons (eC (.str "exclusive")) (aCons (eTup (aCons (eC (.str "int")) aNil)) aNil))) aNil))) aNil))) (aCons (eTup (aCons (eC (.str "k")) (aCons (eTup (aCons (eC (.str "maybe")) (aCons (eTup (aCons (eC (.str "int")) aNil)) aNil))) aNil))) (aCons (eTup (aCons (eC (.str "s")) (aCons (eTup (aCons (eC (.str "task")) (aCons (eTup (aCons (eC (.str "int")) aNil)) aNil))) aNil))) aNil))))) aNil)))))
noncomputable def m_law_parameters : MF := dfn 0 2 false (b_law_parameters)
theorem ar_law_parameters : Ar 0 (m_law_parameters) := ar_dfn
noncomputable def b_law_places  : MS :=
    (sSeq (sAsg (eLstF (aCons (eTup (aCons (eC (.str "p")) (aCons (eTup aNil) aNil))) (aCons (eTup (aCons (eC (.str "p")) (aCons (eTup (aCons (eC (.int (0))) aNil)) aNil))) (aCons (eTup (aCons (eC (.str "p")) (aCons (eTup (aCons (eC (.int (1))) aNil)) aNil))) (aCons (eTup (aCons (eC (.str "p")) (aCons (eTup (aCons (eC (.int (0))) (aCons (eC (.str "^")) aNil))) aNil))) (aCons (eTup (aCons (eC (.str "p")) (aCons (eTup (aCons (eC (.int (0))) (aCons (eC (.str "^")) (aCons (eC (.int (1))) aNil)))) aNil))) (aCons (eTup (aCons (eC (.str "q")) (aCons (eTup aNil) aNil))) (aCons (eTup (aCons (eC (.str "q")) (aCons (eTup (aCons (eC (.str "^")) aNil)) aNil))) (aCons (eTup (aCons (eC (.str "q")) (aCons (eTup (aCons (eC (.str "^")) (aCons (eC (.int (0))) aNil))) aNil))) aNil))))))))) (gN 0))
    (sSeq (sAsg (eOp (oPlus false) (eVar 0) (eLstF (aCons (eTup (aCons (eC (.str "z")) (aCons (eTup aNil) aNil))) (aCons (eTup (aCons (eC (.str "z")) (aCons (eTup (aCons (eC (.str "^")) aNil)) aNil))) (aCons (eTup (aCons (eC (.str "z")) (aCons (eTup (aCons (eC (.str "^")) (aCons (eC (.int (1))) aNil))) aNil))) (aCons (eTup (aCons (eC (.str "m")) (aCons (eTup aNil) aNil))) (aCons (eTup (aCons (eC (.str "m")) (aCons (eTup (aCons (eC (.str "?")) aNil)) aNil))) (aCons (eTup (aCons (eC (.str "m")) (aCons (eTup (aCons (eC (.str "?")) (aCons (eC (.str "^")) aNil))) aNil))) (aCons (eTup (aCons (eC (.str "k")) (aCons (eTup aNil) aNil))) (aCons (eTup (aCons (eC (.str "k")) (aCons (eTup (aCons (eC (.str "?")) aNil)) aNil))) aNil)))))))))) (gN 0))
    (sRet (eOp (oPlus false) (eVar 0) (eLstF (aCons (eTup (aCons (eC (.str "s")) (aCons (eTup aNil) aNil))) aNil))))))
noncomputable def m_law_places : MF := dfn 0 1 false (b_law_places)
theorem ar_law_places : Ar 0 (m_law_places) := ar_dfn
noncomputable def b_law_kind  : MS :=
    (sSeq (sAsg (eOp oIx (eLc (iTupM (eCall m_law_parameters aNil)) [3] (gN 3) (eB (eOp (oEq false) (eOp oIx (eVar 3) (eC (.int (0)))) (eOp oIx (eVar 0) (eC (.int (0)))))) (eOp oIx (eVar 3) (eC (.int (1)))) mkF) (eC (.int (0)))) (gN 1))
    (sSeq (sFor (iTupM (eOp oIx (eVar 0) (eC (.int (1))))) (gN 2) (sAsg (eIf (eB (eOp (oIn false) (eVar 2) (eLstF (aCons (eC (.str "^")) (aCons (eC (.str "?")) aNil))))) (eOp oIx (eVar 1) (eC (.int (1)))) (eOp oIx (eOp oIx (eVar 1) (eC (.int (1)))) (eVar 2))) (gN 1)))
    (sRet (eVar 1))))
noncomputable def m_law_kind : MF := dfn 1 3 false (b_law_kind)
theorem ar_law_kind : Ar 1 (m_law_kind) := ar_dfn
noncomputable def b_law_crossing  : MS :=
    (sSeq (sFor (iRng1M (aCons (eCall bLen (aCons (eOp oIx (eVar 0) (eC (.int (1)))) aNil)) aNil)) (gN 1) (sIf (eAnd (eB (eOp (oEq false) (eOp oIx (eOp oIx (eVar 0) (eC (.int (1)))) (eVar 1)) (eC (.str "^")))) (eB (eOp (oEq true) (eOp oIx (eCall m_law_kind (aCons (eTup (aCons (eOp oIx (eVar 0) (eC (.int (0)))) (aCons (eSl false (eOp oIx (eVar 0) (eC (.int (1)))) pNone (pSome (eVar 1))) aNil))) aNil)) (eC (.int (0)))) (eC (.str "box"))))) (sRet (eTup (aCons (eOp oIx (eVar 0) (eC (.int (0)))) (aCons (eSl false (eOp oIx (eVar 0) (eC (.int (1)))) pNone (pSome (eVar 1))) aNil)))) sNx))
    (sRet (eC .none)))
noncomputable def m_law_crossing : MF := dfn 1 1 false (b_law_crossing)
theorem ar_law_crossing : Ar 1 (m_law_crossing) := ar_dfn
noncomputable def b_law_leaves (r_law_leaves : MF) : MS :=
    (sSeq (sIf (eB (eOp (oIn false) (eOp oIx (eVar 1) (eC (.int (0)))) (eLstF (aCons (eC (.str "shared")) (aCons (eC (.str "exclusive")) (aCons (eC (.str "task")) aNil)))))) (sRet (eLstF (aCons (eVar 0) aNil))) sNx)
    (sSeq (sAsg (eLstF aNil) (gN 2))
    (sSeq (sIf (eB (eOp (oEq false) (eOp oIx (eVar 1) (eC (.int (0)))) (eC (.str "maybe")))) (sAsg (eCall r_law_leaves (aCons (eTup (aCons (eOp oIx (eVar 0) (eC (.int (0)))) (aCons (eOp (oPlus false) (eOp oIx (eVar 0) (eC (.int (1)))) (eTup (aCons (eC (.str "?")) aNil))) aNil))) (aCons (eOp oIx (eVar 1) (eC (.int (1)))) aNil))) (gN 2)) sNx)
    (sSeq (sIf (eB (eOp (oEq false) (eOp oIx (eVar 1) (eC (.int (0)))) (eC (.str "tuple")))) (sFor (iRng1M (aCons (eCall bLen (aCons (eOp oIx (eVar 1) (eC (.int (1)))) aNil)) aNil)) (gN 3) (sAsg (eOp (oPlus false) (eVar 2) (eCall r_law_leaves (aCons (eTup (aCons (eOp oIx (eVar 0) (eC (.int (0)))) (aCons (eOp (oPlus false) (eOp oIx (eVar 0) (eC (.int (1)))) (eTup (aCons (eVar 3) aNil))) aNil))) (aCons (eOp oIx (eOp oIx (eVar 1) (eC (.int (1)))) (eVar 3)) aNil)))) (gN 2))) sNx)
    (sRet (eVar 2))))))
noncomputable def m_law_leaves : Nat → MF
  | 0 => mNone
  | n + 1 => dfn 2 2 false (b_law_leaves (m_law_leaves n))
theorem ar_law_leaves : ∀ n, Ar 2 (m_law_leaves n)
  | 0 => ar_none
  | _ + 1 => by unfold m_law_leaves; exact ar_dfn
noncomputable def b_law_plain (r_law_plain : MF) : MS :=
    (sSeq (sIf (eB (eOp (oIn false) (eOp oIx (eVar 0) (eC (.int (0)))) (eLstF (aCons (eC (.str "shared")) (aCons (eC (.str "exclusive")) (aCons (eC (.str "task")) aNil)))))) (sRet (eC (.bool false))) sNx)
    (sSeq (sIf (eB (eOp (oEq false) (eOp oIx (eVar 0) (eC (.int (0)))) (eC (.str "tuple")))) (sRet (eOp (oEq false) (eCall bLen (aCons (eLc (iTupM (eOp oIx (eVar 0) (eC (.int (1))))) [1] (gN 1) (eNot (eB (eCall r_law_plain (aCons (eVar 1) aNil)))) (eVar 1) mkF) aNil)) (eC (.int (0))))) sNx)
    (sRet (eOrV (eOp (oEq true) (eOp oIx (eVar 0) (eC (.int (0)))) (eC (.str "maybe"))) (eCall r_law_plain (aCons (eOp oIx (eVar 0) (eC (.int (1)))) aNil))))))
noncomputable def m_law_plain : Nat → MF
  | 0 => mNone
  | n + 1 => dfn 1 1 false (b_law_plain (m_law_plain n))
theorem ar_law_plain : ∀ n, Ar 1 (m_law_plain n)
  | 0 => ar_none
  | _ + 1 => by unfold m_law_plain; exact ar_dfn
noncomputable def b_law_value (r_law_value : MF) : MS :=
    (sSeq (sIf (eB (eOp (oEq false) (eOp oIx (eVar 0) (eC (.int (0)))) (eC (.str "int")))) (sRet (eTup (aCons (eC (.str "int")) (aCons (eC (.int (3))) aNil)))) sNx)
    (sSeq (sIf (eB (eOp (oEq false) (eOp oIx (eVar 0) (eC (.int (0)))) (eC (.str "tuple")))) (sRet (eTup (aCons (eC (.str "tuple")) (aCons (eCall bTuple (aCons (eLc (iTupM (eOp oIx (eVar 0) (eC (.int (1))))) [1] (gN 1) tYesM (eCall r_law_value (aCons (eVar 1) aNil)) mkF) aNil)) aNil)))) sNx)
    (sSeq (sIf (eB (eOp (oEq false) (eOp oIx (eVar 0) (eC (.int (0)))) (eC (.str "maybe")))) (sRet (eTup (aCons (eC (.str "some")) (aCons (eCall r_law_value (aCons (eOp oIx (eVar 0) (eC (.int (1)))) aNil)) aNil)))) sNx)
    (sRet (eTup (aCons (eC (.str "box")) (aCons (eCall r_law_value (aCons (eOp oIx (eVar 0) (eC (.int (1)))) aNil)) aNil)))))))
noncomputable def m_law_value : Nat → MF
  | 0 => mNone
  | n + 1 => dfn 1 1 false (b_law_value (m_law_value n))
theorem ar_law_value : ∀ n, Ar 1 (m_law_value n)
  | 0 => ar_none
  | _ + 1 => by unfold m_law_value; exact ar_dfn
noncomputable def b_law_statement  : MS :=
    (sSeq (sAsg (eCall m_law_places aNil) (gN 1))
    (sSeq (sAsg (eOp oIx (eVar 1) (eCall m_law_next (aCons (eVar 0) (aCons (eCall bLen (aCons (eVar 1) aNil)) aNil)))) (gN 2))
    (sSeq (sAsg (eCall m_law_kind (aCons (eVar 2) aNil)) (gN 3))
    (sSeq (sAsg (eCall m_law_crossing (aCons (eVar 2) aNil)) (gN 4))
    (sSeq (sAsg (eAndV (eOp (oIsN true) (eVar 4) (eC .none)) (eOp (oEq false) (eOp oIx (eCall m_law_kind (aCons (eVar 4) aNil)) (eC (.int (0)))) (eC (.str "shared")))) (gN 5))
    (sSeq (sAsg (eCall m_law_next (aCons (eVar 0) (aCons (eC (.int (6))) aNil))) (gN 6))
    (sSeq (sIf (eAnd (eB (eOp (oEq false) (eVar 6) (eC (.int (1))))) (eB (eCall (m_law_plain 14) (aCons (eVar 3) aNil)))) (sRet (eTup (aCons (eC (.str "do")) (aCons (eTup (aCons (eC (.str "borrow")) (aCons (eC (.str "shared")) (aCons (eVar 2) aNil)))) aNil)))) sNx)
    (sSeq (sIf (eAnd (eB (eOp (oEq false) (eVar 6) (eC (.int (2))))) (eAnd (eB (eCall (m_law_plain 14) (aCons (eVar 3) aNil))) (eNot (eB (eVar 5))))) (sRet (eTup (aCons (eC (.str "do")) (aCons (eTup (aCons (eC (.str "borrow")) (aCons (eC (.str "exclusive")) (aCons (eVar 2) aNil)))) aNil)))) sNx)
    (sSeq (sIf (eAnd (eB (eOp (oEq false) (eVar 6) (eC (.int (3))))) (eB (eOp (oEq false) (eOp oIx (eVar 3) (eC (.int (0)))) (eC (.str "maybe"))))) (sRet (eTup (aCons (eC (.str "do")) (aCons (eTup (aCons (eC (.str "is")) (aCons (eVar 2) aNil))) aNil)))) sNx)
    (sSeq (sIf (eAnd (eB (eOp (oEq false) (eVar 6) (eC (.int (4))))) (eAnd (eB (eCall (m_law_plain 14) (aCons (eVar 3) aNil))) (eNot (eB (eVar 5))))) (sRet (eTup (aCons (eC (.str "do")) (aCons (eTup (aCons (eC (.str "swap")) (aCons (eVar 2) (aCons (eCall (m_law_value 60) (aCons (eVar 3) aNil)) aNil)))) aNil)))) sNx)
    (sSeq (sIf (eAnd (eB (eOp (oEq false) (eVar 6) (eC (.int (5))))) (eAnd (eB (eCall (m_law_plain 14) (aCons (eVar 3) aNil))) (eNot (eB (eVar 5))))) (sRet (eTup (aCons (eC (.str "store")) (aCons (eVar 2) (aCons (eCall (m_law_value 60) (aCons (eVar 3) aNil)) aNil))))) sNx)
    (sRet (eTup (aCons (eC (.str "do")) (aCons (eTup (aCons (eC (.str "use")) (aCons (eVar 2) aNil))) aNil)))))))))))))))
noncomputable def m_law_statement : MF := dfn 1 6 false (b_law_statement)
theorem ar_law_statement : Ar 1 (m_law_statement) := ar_dfn
noncomputable def b_law_due  : MS :=
    (sSeq (sAsg (eOp oIx (eVar 0) (eC (.int (0)))) (gN 2))
    (sSeq (sIf (eB (eOp (oIn true) (eVar 2) (eLstF (aCons (eC (.str "copy")) (aCons (eC (.str "move")) (aCons (eC (.str "borrow")) (aCons (eC (.str "is")) (aCons (eC (.str "swap")) (aCons (eC (.str "store")) aNil))))))))) (sRet (eC .none)) sNx)
    (sSeq (sAsg (eIf (eB (eOp (oEq false) (eVar 2) (eC (.str "borrow")))) (eOp oIx (eVar 0) (eC (.int (3)))) (eIf (eB (eOp (oEq false) (eVar 2) (eC (.str "store")))) (eOp oIx (eVar 0) (eC (.int (1)))) (eOp oIx (eVar 0) (eC (.int (2)))))) (gN 3))
    (sSeq (sAsg (eCall m_law_crossing (aCons (eVar 3) aNil)) (gN 4))
    (sSeq (sAsg (eIf (eB (eOp (oIsN false) (eVar 4) (eC .none))) (eLstF aNil) (eLstF (aCons (eVar 4) aNil))) (gN 5))
    (sSeq (sAsg (eCall (m_law_leaves 14) (aCons (eVar 3) (aCons (eCall m_law_kind (aCons (eVar 3) aNil)) aNil))) (gN 6))
    (sSeq (sIf (eB (eOp (oIn false) (eVar 2) (eLstF (aCons (eC (.str "copy")) (aCons (eC (.str "move")) aNil))))) (sSeq (sAsg (eCall (m_law_leaves 14) (aCons (eTup (aCons (eOp oIx (eVar 0) (eC (.int (1)))) (aCons (eTup aNil) aNil))) (aCons (eDGet (eVar 1) (eOp oIx (eVar 0) (eC (.int (1))))) aNil))) (gN 7))
    (sSeq (sAsg (eLc (iRng1M (aCons (eCall bLen (aCons (eVar 6) aNil)) aNil)) [9] (gN 9) tYesM (eTup (aCons (eOp oIx (eVar 6) (eVar 9)) (aCons (eOp oIx (eVar 7) (eVar 9)) aNil))) mkF) (gN 8))
    (sRet (eLstF (aCons (eOp (oPlus false) (eVar 6) (eVar 5)) (aCons (eIf (eB (eOp (oEq false) (eVar 2) (eC (.str "move")))) (eVar 6) (eLstF aNil)) (aCons (eVar 8) (aCons (eTup (aCons (eIf (eB (eOp (oEq false) (eVar 2) (eC (.str "copy")))) (eC (.str "read")) (eC (.str "move"))) (aCons (eVar 3) aNil))) aNil)))))))) sNx)
    (sSeq (sIf (eB (eOp (oEq false) (eVar 2) (eC (.str "borrow")))) (sSeq (sAsg (eIf (eB (eOp (oIsN false) (eVar 4) (eC .none))) (eLstF aNil) (eLstF (aCons (eTup (aCons (eVar 4) (aCons (eTup (aCons (eOp oIx (eVar 0) (eC (.int (1)))) (aCons (eTup aNil) aNil))) aNil))) aNil))) (gN 8))
    (sRet (eLstF (aCons (eVar 5) (aCons (eLstF aNil) (aCons (eVar 8) (aCons (eTup (aCons (eIf (eB (eOp (oEq false) (eOp oIx (eVar 0) (eC (.int (2)))) (eC (.str "shared")))) (eC (.str "read")) (eC (.str "write"))) (aCons (eVar 3) aNil))) aNil))))))) sNx)
    (sSeq (sIf (eB (eOp (oEq false) (eVar 2) (eC (.str "store")))) (sRet (eLstF (aCons (eVar 5) (aCons (eVar 6) (aCons (eLstF aNil) (aCons (eTup (aCons (eC (.str "store")) (aCons (eVar 3) aNil))) aNil)))))) sNx)
    (sRet (eLstF (aCons (eVar 5) (aCons (eLstF aNil) (aCons (eLstF aNil) (aCons (eTup (aCons (eIf (eB (eOp (oEq false) (eVar 2) (eC (.str "is")))) (eC (.str "read")) (eC (.str "write"))) (aCons (eVar 3) aNil))) aNil)))))))))))))))
noncomputable def m_law_due : MF := dfn 2 8 false (b_law_due)
theorem ar_law_due : Ar 2 (m_law_due) := ar_dfn
noncomputable def b_law_right  : MS :=
    (sSeq (sIf (eOr (eNot (eB (eIsT (eVar 0)))) (eB (eOp (oEq true) (eCall bLen (aCons (eVar 0) aNil)) (eCall bLen (aCons (eVar 1) aNil))))) (sRet (eC (.bool false))) sNx)
    (sRet (eOp (oEq false) (eCall bLen (aCons (eLc (iLstM (eVar 1)) [2] (gN 2) (eB (eOp (oInU true) (eVar 2) (eVar 0))) (eVar 2) mkF) aNil)) (eC (.int (0))))))
noncomputable def m_law_right : MF := dfn 2 1 false (b_law_right)
theorem ar_law_right : Ar 2 (m_law_right) := ar_dfn
noncomputable def b_law (C_Graph C_Lowering : Addr)  : MS :=
    (sSeq (sAsg (eCall m_law_tape (aCons (eVar 0) aNil)) (gN 1))
    (sSeq (sAsg (eCall bTuple (aCons (eLc (iRng1M (aCons (eOp (oPlus false) (eC (.int (1))) (eCall m_law_next (aCons (eVar 1) (aCons (eC (.int (10))) aNil)))) aNil)) [2] (gN 2) tYesM (eCall m_law_statement (aCons (eVar 1) aNil)) mkF) aNil)) (gN 3))
    (sSeq (sAsg (eTup (aCons (eTup aNil) (aCons (eTup (aCons (eTup (aCons (eC (.str "test")) (aCons (eCall m_law_parameters aNil) (aCons (eTup (aCons (eC (.str "unit")) aNil)) (aCons (eTup aNil) (aCons (eVar 3) aNil)))))) (aCons (eTup (aCons (eC (.str "main")) (aCons (eTup aNil) (aCons (eTup (aCons (eC (.str "unit")) aNil)) (aCons (eTup aNil) (aCons (eTup aNil) aNil)))))) aNil))) aNil))) (gN 4))
    (sSeq (sAsg (eCall (m_build_graph C_Graph C_Lowering) (aCons (eVar 4) (aCons (eC (.str "test")) aNil))) (gN 5))
    (sSeq (sAsg eDNew (gN 6))
    (sSeq (sFor (iRng1M (aCons (eCall bLen (aCons (eFld C_Graph (eVar 5) "points") aNil)) aNil)) (gN 2) (sSeq (sAsg (eOp oIx (eFld C_Graph (eVar 5) "points") (eVar 2)) (gN 7))
    (sSeq (sAsg (eCall m_law_due (aCons (eVar 7) (aCons (eFld C_Graph (eVar 5) "kinds") aNil))) (gN 8))
    (sSeq (sIf (eB (eOp (oIsN true) (eVar 8) (eC .none))) (sSeq (sIf (eOr (eNot (eB (eCall m_law_right (aCons (eCall (m_uses C_Graph C_Lowering) (aCons (eVar 4) (aCons (eVar 5) (aCons (eVar 2) aNil)))) (aCons (eOp oIx (eVar 8) (eC (.int (0)))) aNil))))) (eNot (eB (eCall m_law_right (aCons (eCall (m_clears C_Graph C_Lowering) (aCons (eVar 4) (aCons (eVar 5) (aCons (eVar 2) aNil)))) (aCons (eOp oIx (eVar 8) (eC (.int (1)))) aNil)))))) (sRet (eC (.bool false))) sNx)
    (sIf (eOr (eNot (eB (eCall m_law_right (aCons (eCall (m_moves C_Graph C_Lowering) (aCons (eVar 4) (aCons (eVar 5) (aCons (eVar 2) aNil)))) (aCons (eOp oIx (eVar 8) (eC (.int (2)))) aNil))))) (eB (eOp (oEq true) (eCall (m_access C_Graph C_Lowering) (aCons (eVar 4) (aCons (eVar 5) (aCons (eVar 2) aNil)))) (eOp oIx (eVar 8) (eC (.int (3))))))) (sRet (eC (.bool false))) sNx)) sNx)
    (sIf (eB (eOp (oEq false) (eOp oIx (eVar 7) (eC (.int (0)))) (eC (.str "borrow")))) (sSeq (sAsg (eCall m_law_crossing (aCons (eOp oIx (eVar 7) (eC (.int (3)))) aNil)) (gN 9))
    (sIf (eOr (eB (eOp (oIsN false) (eVar 9) (eC .none))) (eB (eOp (oEq true) (eOp oIx (eCall m_law_kind (aCons (eVar 9) aNil)) (eC (.int (0)))) (eC (.str "shared"))))) (sDPutW (eVar 6) (eVar 2) (eTup (aCons (eOp oIx (eVar 7) (eC (.int (2)))) (aCons (eOp oIx (eVar 7) (eC (.int (3)))) aNil)))) sNx)) sNx)))))
    (sRet (eOp oEqDct (eCall (m_loans C_Graph C_Lowering) (aCons (eVar 4) (aCons (eVar 5) aNil))) (eVar 6)))))))))
noncomputable def m_law (C_Graph C_Lowering : Addr) : MF := dfn 1 9 false (b_law C_Graph C_Lowering)
theorem ar_law {C_Graph C_Lowering : Addr} : Ar 1 (m_law C_Graph C_Lowering) := ar_dfn
noncomputable def topS (i : Nat) : Stmt := PySem.Challenge.pw_forklent_k09_effects_of_places.main.body.getD i (.Pass ⟨0, 0, 0, 0⟩)
noncomputable def mthS (i j : Nat) : Stmt := match topS i with
  | .ClassDef _ _ _ body _ _ _ _ _ _ _ => body.getD j (.Pass ⟨0, 0, 0, 0⟩)
  | s => s
noncomputable abbrev s_kinds_inside : Stmt := topS 9
theorem sc_kinds_inside : FnScope ["kind"] ["kind"] (defScope s_kinds_inside) := ⟨rfl, rfl, rfl, by decide +kernel, rfl, by decide +kernel, by decide +kernel⟩
noncomputable abbrev s_is_copy : Stmt := topS 10
theorem sc_is_copy : FnScope ["kind", "part"] ["kind"] (defScope s_is_copy) := ⟨rfl, rfl, rfl, by decide +kernel, rfl, by decide +kernel, by decide +kernel⟩
noncomputable abbrev s_leaves : Stmt := topS 11
theorem sc_leaves : FnScope ["kind", "path", "at", "part"] ["kind"] (defScope s_leaves) := ⟨rfl, rfl, rfl, by decide +kernel, rfl, by decide +kernel, by decide +kernel⟩
noncomputable abbrev s_is_item : Stmt := topS 13
theorem sc_is_item : FnScope ["items", "step"] ["items", "step"] (defScope s_is_item) := ⟨rfl, rfl, rfl, by decide +kernel, rfl, by decide +kernel, by decide +kernel⟩
noncomputable abbrev s_fields_of : Stmt := topS 14
theorem sc_fields_of : FnScope ["records", "name", "record", "fields"] ["records", "name"] (defScope s_fields_of) := ⟨rfl, rfl, rfl, by decide +kernel, rfl, by decide +kernel, by decide +kernel⟩
noncomputable abbrev s_kind_after : Stmt := topS 12
theorem sc_kind_after : FnScope ["records", "kind", "step", "field", "inside"] ["records", "kind", "step"] (defScope s_kind_after) := ⟨rfl, rfl, rfl, by decide +kernel, rfl, by decide +kernel, by decide +kernel⟩
noncomputable abbrev s_kinds_along : Stmt := topS 18
theorem sc_kinds_along : FnScope ["place", "records", "kinds", "variable", "steps", "along", "step"] ["place", "records", "kinds"] (defScope s_kinds_along) := ⟨rfl, rfl, rfl, by decide +kernel, rfl, by decide +kernel, by decide +kernel⟩
noncomputable abbrev s_kind_at : Stmt := topS 16
theorem sc_kind_at : FnScope ["place", "records", "kinds"] ["place", "records", "kinds"] (defScope s_kind_at) := ⟨rfl, rfl, rfl, by decide +kernel, rfl, by decide +kernel, by decide +kernel⟩
noncomputable abbrev s_crossed : Stmt := topS 17
theorem sc_crossed : FnScope ["place", "records", "kinds", "variable", "steps", "along", "at", "step"] ["place", "records", "kinds"] (defScope s_crossed) := ⟨rfl, rfl, rfl, by decide +kernel, rfl, by decide +kernel, by decide +kernel⟩
noncomputable abbrev s_function_named : Stmt := topS 21
theorem sc_function_named : FnScope ["program", "name", "function"] ["program", "name"] (defScope s_function_named) := ⟨rfl, rfl, rfl, by decide +kernel, rfl, by decide +kernel, by decide +kernel⟩
noncomputable abbrev s_parts_of : Stmt := topS 22
theorem sc_parts_of : FnScope ["expression", "word"] ["expression"] (defScope s_parts_of) := ⟨rfl, rfl, rfl, by decide +kernel, rfl, by decide +kernel, by decide +kernel⟩
noncomputable abbrev s_place_in : Stmt := topS 23
theorem sc_place_in : FnScope ["expression"] ["expression"] (defScope s_place_in) := ⟨rfl, rfl, rfl, by decide +kernel, rfl, by decide +kernel, by decide +kernel⟩
noncomputable abbrev s_kind_fetched : Stmt := topS 25
theorem sc_kind_fetched : FnScope ["program", "kinds", "expression", "word", "kind"] ["program", "kinds", "expression"] (defScope s_kind_fetched) := ⟨rfl, rfl, rfl, by decide +kernel, rfl, by decide +kernel, by decide +kernel⟩
noncomputable abbrev s_kind_made : Stmt := topS 24
theorem sc_kind_made : FnScope ["program", "kinds", "expression", "inside", "word"] ["program", "kinds", "expression", "inside"] (defScope s_kind_made) := ⟨rfl, rfl, rfl, by decide +kernel, rfl, by decide +kernel, by decide +kernel⟩
noncomputable abbrev s_taken : Stmt := topS 33
theorem sc_taken : FnScope ["instruction", "word"] ["instruction"] (defScope s_taken) := ⟨rfl, rfl, rfl, by decide +kernel, rfl, by decide +kernel, by decide +kernel⟩
noncomputable abbrev s_place_of : Stmt := topS 34
theorem sc_place_of : FnScope ["instruction", "word"] ["instruction"] (defScope s_place_of) := ⟨rfl, rfl, rfl, by decide +kernel, rfl, by decide +kernel, by decide +kernel⟩
noncomputable abbrev s_leaves_of : Stmt := topS 35
theorem sc_leaves_of : FnScope ["program", "graph", "place", "variable", "steps", "kind", "path"] ["program", "graph", "place"] (defScope s_leaves_of) := ⟨rfl, rfl, rfl, by decide +kernel, rfl, by decide +kernel, by decide +kernel⟩
noncomputable abbrev s_leaves_of_temporaries : Stmt := topS 36
theorem sc_leaves_of_temporaries : FnScope ["program", "graph", "names", "name", "leaf"] ["program", "graph", "names"] (defScope s_leaves_of_temporaries) := ⟨rfl, rfl, rfl, by decide +kernel, rfl, by decide +kernel, by decide +kernel⟩
noncomputable abbrev s_crossed_by : Stmt := topS 37
theorem sc_crossed_by : FnScope ["program", "graph", "instruction", "leaf"] ["program", "graph", "instruction"] (defScope s_crossed_by) := ⟨rfl, rfl, rfl, by decide +kernel, rfl, by decide +kernel, by decide +kernel⟩
noncomputable abbrev s_uses : Stmt := topS 29
theorem sc_uses : FnScope ["program", "graph", "point", "instruction", "found"] ["program", "graph", "point"] (defScope s_uses) := ⟨rfl, rfl, rfl, by decide +kernel, rfl, by decide +kernel, by decide +kernel⟩
noncomputable abbrev s_clears : Stmt := topS 30
theorem sc_clears : FnScope ["program", "graph", "point", "instruction", "found"] ["program", "graph", "point"] (defScope s_clears) := ⟨rfl, rfl, rfl, by decide +kernel, rfl, by decide +kernel, by decide +kernel⟩
noncomputable abbrev s_access : Stmt := topS 31
theorem sc_access : FnScope ["program", "graph", "point", "instruction", "word", "mode"] ["program", "graph", "point"] (defScope s_access) := ⟨rfl, rfl, rfl, by decide +kernel, rfl, by decide +kernel, by decide +kernel⟩
noncomputable abbrev s_pairs_between : Stmt := topS 38
theorem sc_pairs_between : FnScope ["program", "graph", "source", "target"] ["program", "graph", "source", "target"] (defScope s_pairs_between) := ⟨rfl, rfl, rfl, by decide +kernel, rfl, by decide +kernel, by decide +kernel⟩
noncomputable abbrev s_pairs_into : Stmt := topS 39
theorem sc_pairs_into : FnScope ["program", "graph", "instruction", "_", "temporary", "shape", "parts", "found", "at", "part", "step"] ["program", "graph", "instruction"] (defScope s_pairs_into) := ⟨rfl, rfl, rfl, by decide +kernel, rfl, by decide +kernel, by decide +kernel⟩
noncomputable abbrev s_pairs_through : Stmt := topS 40
theorem sc_pairs_through : FnScope ["program", "graph", "instruction", "word", "temporary", "name", "parts", "_", "parameters", "sources", "carried", "given", "part", "parameter", "leaf", "end"] ["program", "graph", "instruction"] (defScope s_pairs_through) := ⟨rfl, rfl, rfl, by decide +kernel, rfl, by decide +kernel, by decide +kernel⟩
noncomputable abbrev s_moves : Stmt := topS 32
theorem sc_moves : FnScope ["program", "graph", "point", "instruction", "word", "leaf"] ["program", "graph", "point"] (defScope s_moves) := ⟨rfl, rfl, rfl, by decide +kernel, rfl, by decide +kernel, by decide +kernel⟩
noncomputable abbrev s_Graph___init__ : Stmt := mthS 42 0
theorem sc_Graph___init__ : FnScope ["self", "function", "name", "parameters", "result", "sources", "_", "parameter", "kind"] ["self", "function"] (defScope s_Graph___init__) := ⟨rfl, rfl, rfl, by decide +kernel, rfl, by decide +kernel, by decide +kernel⟩
noncomputable abbrev s_Lowering___init__ : Stmt := mthS 44 0
theorem sc_Lowering___init__ : FnScope ["self", "program", "function"] ["self", "program", "function"] (defScope s_Lowering___init__) := ⟨rfl, rfl, rfl, by decide +kernel, rfl, by decide +kernel, by decide +kernel⟩
noncomputable abbrev s_Lowering_add_end : Stmt := mthS 44 3
theorem sc_Lowering_add_end : FnScope ["self", "instruction"] ["self", "instruction"] (defScope s_Lowering_add_end) := ⟨rfl, rfl, rfl, by decide +kernel, rfl, by decide +kernel, by decide +kernel⟩
noncomputable abbrev s_Lowering_add_point : Stmt := mthS 44 2
theorem sc_Lowering_add_point : FnScope ["self", "instruction"] ["self", "instruction"] (defScope s_Lowering_add_point) := ⟨rfl, rfl, rfl, by decide +kernel, rfl, by decide +kernel, by decide +kernel⟩
noncomputable abbrev s_Lowering_add_drops : Stmt := mthS 44 4
theorem sc_Lowering_add_drops : FnScope ["self", "names", "name"] ["self", "names"] (defScope s_Lowering_add_drops) := ⟨rfl, rfl, rfl, by decide +kernel, rfl, by decide +kernel, by decide +kernel⟩
noncomputable abbrev s_Lowering_add_leave : Stmt := mthS 44 5
theorem sc_Lowering_add_leave : FnScope ["self", "temporary"] ["self", "temporary"] (defScope s_Lowering_add_leave) := ⟨rfl, rfl, rfl, by decide +kernel, rfl, by decide +kernel, by decide +kernel⟩
noncomputable abbrev s_instruction_for : Stmt := topS 45
theorem sc_instruction_for : FnScope ["expression", "kind", "temporary", "parts", "word"] ["expression", "kind", "temporary", "parts"] (defScope s_instruction_for) := ⟨rfl, rfl, rfl, by decide +kernel, rfl, by decide +kernel, by decide +kernel⟩
noncomputable abbrev s_Lowering_lower_expression : Stmt := mthS 44 11
theorem sc_Lowering_lower_expression : FnScope ["self", "expression", "parts", "kinds", "kind", "temporary", "part"] ["self", "expression"] (defScope s_Lowering_lower_expression) := ⟨rfl, rfl, rfl, by decide +kernel, rfl, by decide +kernel, by decide +kernel⟩
noncomputable abbrev s_Lowering_lower_let : Stmt := mthS 44 8
theorem sc_Lowering_lower_let : FnScope ["self", "statement", "_", "name", "expression", "temporary"] ["self", "statement"] (defScope s_Lowering_lower_let) := ⟨rfl, rfl, rfl, by decide +kernel, rfl, by decide +kernel, by decide +kernel⟩
noncomputable abbrev s_Lowering_lower_block : Stmt := mthS 44 6
theorem sc_Lowering_lower_block : FnScope ["self", "block", "outside", "statement"] ["self", "block"] (defScope s_Lowering_lower_block) := ⟨rfl, rfl, rfl, by decide +kernel, rfl, by decide +kernel, by decide +kernel⟩
noncomputable abbrev s_Lowering_lower_statement : Stmt := mthS 44 7
theorem sc_Lowering_lower_statement : FnScope ["self", "statement", "word", "_", "place", "expression"] ["self", "statement"] (defScope s_Lowering_lower_statement) := ⟨rfl, rfl, rfl, by decide +kernel, rfl, by decide +kernel, by decide +kernel⟩
noncomputable abbrev s_Lowering_lower_if : Stmt := mthS 44 9
theorem sc_Lowering_lower_if : FnScope ["self", "statement", "_", "condition", "first", "second", "test", "jump"] ["self", "statement"] (defScope s_Lowering_lower_if) := ⟨rfl, rfl, rfl, by decide +kernel, rfl, by decide +kernel, by decide +kernel⟩
noncomputable abbrev s_Lowering_lower_while : Stmt := mthS 44 10
theorem sc_Lowering_lower_while : FnScope ["self", "statement", "_", "condition", "block", "begin", "test", "jump"] ["self", "statement"] (defScope s_Lowering_lower_while) := ⟨rfl, rfl, rfl, by decide +kernel, rfl, by decide +kernel, by decide +kernel⟩
noncomputable abbrev s_Lowering_lower_function : Stmt := mthS 44 1
theorem sc_Lowering_lower_function : FnScope ["self", "block"] ["self", "block"] (defScope s_Lowering_lower_function) := ⟨rfl, rfl, rfl, by decide +kernel, rfl, by decide +kernel, by decide +kernel⟩
noncomputable abbrev s_build_graph : Stmt := topS 43
theorem sc_build_graph : FnScope ["program", "name", "function", "lowering"] ["program", "name"] (defScope s_build_graph) := ⟨rfl, rfl, rfl, by decide +kernel, rfl, by decide +kernel, by decide +kernel⟩
noncomputable abbrev s_makes_loan : Stmt := topS 48
theorem sc_makes_loan : FnScope ["program", "graph", "instruction", "leaf"] ["program", "graph", "instruction"] (defScope s_makes_loan) := ⟨rfl, rfl, rfl, by decide +kernel, rfl, by decide +kernel, by decide +kernel⟩
noncomputable abbrev s_loans : Stmt := topS 47
theorem sc_loans : FnScope ["program", "graph", "found", "point", "instruction"] ["program", "graph"] (defScope s_loans) := ⟨rfl, rfl, rfl, by decide +kernel, rfl, by decide +kernel, by decide +kernel⟩
noncomputable abbrev s__law_tape : Stmt := topS 50
theorem sc__law_tape : FnScope ["script", "numbers", "total", "cell", "rest", "k"] ["script"] (defScope s__law_tape) := ⟨rfl, rfl, rfl, by decide +kernel, rfl, by decide +kernel, by decide +kernel⟩
noncomputable abbrev s__law_next : Stmt := topS 51
theorem sc__law_next : FnScope ["tape", "many", "at"] ["tape", "many"] (defScope s__law_next) := ⟨rfl, rfl, rfl, by decide +kernel, rfl, by decide +kernel, by decide +kernel⟩
noncomputable abbrev s__law_parameters : Stmt := topS 52
theorem sc__law_parameters : FnScope ["pair", "found"] [] (defScope s__law_parameters) := ⟨rfl, rfl, rfl, by decide +kernel, rfl, by decide +kernel, by decide +kernel⟩
noncomputable abbrev s__law_places : Stmt := topS 53
theorem sc__law_places : FnScope ["found"] [] (defScope s__law_places) := ⟨rfl, rfl, rfl, by decide +kernel, rfl, by decide +kernel, by decide +kernel⟩
noncomputable abbrev s__law_kind : Stmt := topS 54
theorem sc__law_kind : FnScope ["place", "kind", "step", "pair"] ["place"] (defScope s__law_kind) := ⟨rfl, rfl, rfl, by decide +kernel, rfl, by decide +kernel, by decide +kernel⟩
noncomputable abbrev s__law_crossing : Stmt := topS 55
theorem sc__law_crossing : FnScope ["place", "k"] ["place"] (defScope s__law_crossing) := ⟨rfl, rfl, rfl, by decide +kernel, rfl, by decide +kernel, by decide +kernel⟩
noncomputable abbrev s__law_leaves : Stmt := topS 56
theorem sc__law_leaves : FnScope ["place", "kind", "found", "k"] ["place", "kind"] (defScope s__law_leaves) := ⟨rfl, rfl, rfl, by decide +kernel, rfl, by decide +kernel, by decide +kernel⟩
noncomputable abbrev s__law_plain : Stmt := topS 57
theorem sc__law_plain : FnScope ["kind", "item"] ["kind"] (defScope s__law_plain) := ⟨rfl, rfl, rfl, by decide +kernel, rfl, by decide +kernel, by decide +kernel⟩
noncomputable abbrev s__law_value : Stmt := topS 58
theorem sc__law_value : FnScope ["kind", "item"] ["kind"] (defScope s__law_value) := ⟨rfl, rfl, rfl, by decide +kernel, rfl, by decide +kernel, by decide +kernel⟩
noncomputable abbrev s__law_statement : Stmt := topS 59
theorem sc__law_statement : FnScope ["tape", "places", "place", "kind", "cross", "shared", "choice"] ["tape"] (defScope s__law_statement) := ⟨rfl, rfl, rfl, by decide +kernel, rfl, by decide +kernel, by decide +kernel⟩
noncomputable abbrev s__law_due : Stmt := topS 60
theorem sc__law_due : FnScope ["row", "kinds", "word", "place", "cross", "used", "own", "made", "sent", "k"] ["row", "kinds"] (defScope s__law_due) := ⟨rfl, rfl, rfl, by decide +kernel, rfl, by decide +kernel, by decide +kernel⟩
noncomputable abbrev s__law_right : Stmt := topS 61
theorem sc__law_right : FnScope ["actual", "due", "one"] ["actual", "due"] (defScope s__law_right) := ⟨rfl, rfl, rfl, by decide +kernel, rfl, by decide +kernel, by decide +kernel⟩
noncomputable abbrev s_law : Stmt := topS 62
theorem sc_law : FnScope ["script", "tape", "k", "body", "program", "graph", "lent", "row", "due", "cross"] ["script"] (defScope s_law) := ⟨rfl, rfl, rfl, by decide +kernel, rfl, by decide +kernel, by decide +kernel⟩
set_option genInjectivity false in
set_option genSizeOf false in
structure Txt (w : World) (K : PySem.W.Frag) (mg : Str → Option Value) where
  tb : List Addr
  z_len : mg "len" = none
  z_int : mg "int" = none
  z_bool : mg "bool" = none
  z_abs : mg "abs" = none
  z_range : mg "range" = none
  z_tuple : mg "tuple" = none
  z_all : mg "all" = none
  z_list : mg "list" = none
  z_str : mg "str" = none
  z_isinstance : mg "isinstance" = none
  z_reversed : mg "reversed" = none
  z_max : mg "max" = none
  z_sum : mg "sum" = none
  z_enumerate : mg "enumerate" = none
  z_dict : mg "dict" = none
  z_zip : mg "zip" = none
  a_BORROWS : Addr
  g_BORROWS : mg "BORROWS" = some (.ref a_BORROWS)
  d_BORROWS : ∀ A, DR K tb A (.ref a_BORROWS) (.tuple [.str "shared", .str "exclusive"])
  a_LEAF_WORDS : Addr
  g_LEAF_WORDS : mg "LEAF_WORDS" = some (.ref a_LEAF_WORDS)
  d_LEAF_WORDS : ∀ A, DR K tb A (.ref a_LEAF_WORDS) (.tuple [.str "shared", .str "exclusive", .str "task"])
  a_SINGLE_WORDS : Addr
  g_SINGLE_WORDS : mg "SINGLE_WORDS" = some (.ref a_SINGLE_WORDS)
  d_SINGLE_WORDS : ∀ A, DR K tb A (.ref a_SINGLE_WORDS) (.tuple [.str "int", .str "bool", .str "unit", .str "record"])
  a_SIGN_KINDS : Addr
  g_SIGN_KINDS : mg "SIGN_KINDS" = some (.ref a_SIGN_KINDS)
  d_SIGN_KINDS : ∀ z d, ([("+", .tuple [.str "int"]), ("-", .tuple [.str "int"]), ("*", .tuple [.str "int"]), ("<", .tuple [.str "bool"]), ("==", .tuple [.str "bool"]), ("and", .tuple [.str "bool"]), ("or", .tuple [.str "bool"])] : List (Str × PyData)).lookup z = some d → ∃ v, KDct K w a_SIGN_KINDS z v ∧ ∀ A, DR K tb A v d
  a_PLACE_AT : Addr
  g_PLACE_AT : mg "PLACE_AT" = some (.ref a_PLACE_AT)
  e_PLACE_AT : Array DictEntry
  n_PLACE_AT : Nat
  i_PLACE_AT : KDict K w a_PLACE_AT e_PLACE_AT n_PLACE_AT
  j_PLACE_AT : ∀ z ∈ (["copy", "move", "borrow", "is", "store", "swap"] : List Str), ∃ u, PySem.W.nsIn K a_PLACE_AT z = some (some u)
  o_PLACE_AT : ∀ z ∈ (["set", "make", "unbox", "op", "not", "call", "test", "jump", "print", "drop", "let", "leave", "stop"] : List Str), PySem.W.nsIn K a_PLACE_AT z = some none
  d_PLACE_AT : ∀ z d, ([("copy", .int (2)), ("move", .int (2)), ("borrow", .int (3)), ("is", .int (2)), ("store", .int (1)), ("swap", .int (2))] : List (Str × PyData)).lookup z = some d → ∃ v, KDct K w a_PLACE_AT z v ∧ ∀ A, DR K tb A v d
  a_ACCESS_MODES : Addr
  g_ACCESS_MODES : mg "ACCESS_MODES" = some (.ref a_ACCESS_MODES)
  e_ACCESS_MODES : Array DictEntry
  n_ACCESS_MODES : Nat
  i_ACCESS_MODES : KDict K w a_ACCESS_MODES e_ACCESS_MODES n_ACCESS_MODES
  j_ACCESS_MODES : ∀ z ∈ (["copy", "move", "is", "store", "swap", "drop"] : List Str), ∃ u, PySem.W.nsIn K a_ACCESS_MODES z = some (some u)
  o_ACCESS_MODES : ∀ z ∈ (["set", "make", "unbox", "borrow", "op", "not", "call", "test", "jump", "print", "let", "leave", "stop"] : List Str), PySem.W.nsIn K a_ACCESS_MODES z = some none
  d_ACCESS_MODES : ∀ z d, ([("copy", .str "read"), ("move", .str "move"), ("is", .str "read"), ("store", .str "store"), ("swap", .str "write"), ("drop", .str "store")] : List (Str × PyData)).lookup z = some d → ∃ v, KDct K w a_ACCESS_MODES z v ∧ ∀ A, DR K tb A v d
  C_Graph : Addr
  g_Graph : mg "Graph" = some (.ref C_Graph)
  cl_Graph : Cls K C_Graph
  na_Graph_kinds : NoAttr K C_Graph "kinds"
  na_Graph_name : NoAttr K C_Graph "name"
  na_Graph_parameters : NoAttr K C_Graph "parameters"
  na_Graph_points : NoAttr K C_Graph "points"
  na_Graph_result : NoAttr K C_Graph "result"
  na_Graph_sources : NoAttr K C_Graph "sources"
  na_Graph_successors : NoAttr K C_Graph "successors"
  C_Lowering : Addr
  g_Lowering : mg "Lowering" = some (.ref C_Lowering)
  cl_Lowering : Cls K C_Lowering
  na_Lowering_graph : NoAttr K C_Lowering "graph"
  na_Lowering_program : NoAttr K C_Lowering "program"
  na_Lowering_scope : NoAttr K C_Lowering "scope"
  na_Lowering_temporaries : NoAttr K C_Lowering "temporaries"
  kinds_inside : DfC K mg "kinds_inside" s_kinds_inside ["kind"]
  is_copy : DfC K mg "is_copy" s_is_copy ["kind"]
  P_is_copy : Addr
  hP_is_copy : P_is_copy ∈ tb
  leaves : DfC K mg "leaves" s_leaves ["kind"]
  kind_after : DfC K mg "kind_after" s_kind_after ["records", "kind", "step"]
  is_item : DfC K mg "is_item" s_is_item ["items", "step"]
  fields_of : DfC K mg "fields_of" s_fields_of ["records", "name"]
  kind_at : DfK K mg "kind_at" s_kind_at ["place", "records", "kinds"] ["records", "kinds"]
  crossed : DfK K mg "crossed" s_crossed ["place", "records", "kinds"] ["records", "kinds"]
  kinds_along : DfC K mg "kinds_along" s_kinds_along ["place", "records", "kinds"]
  function_named : DfC K mg "function_named" s_function_named ["program", "name"]
  parts_of : DfC K mg "parts_of" s_parts_of ["expression"]
  place_in : DfC K mg "place_in" s_place_in ["expression"]
  kind_made : DfC K mg "kind_made" s_kind_made ["program", "kinds", "expression", "inside"]
  kind_fetched : DfC K mg "kind_fetched" s_kind_fetched ["program", "kinds", "expression"]
  uses : DfC K mg "uses" s_uses ["program", "graph", "point"]
  clears : DfC K mg "clears" s_clears ["program", "graph", "point"]
  access : DfC K mg "access" s_access ["program", "graph", "point"]
  moves : DfC K mg "moves" s_moves ["program", "graph", "point"]
  taken : DfC K mg "taken" s_taken ["instruction"]
  place_of : DfC K mg "place_of" s_place_of ["instruction"]
  leaves_of : DfC K mg "leaves_of" s_leaves_of ["program", "graph", "place"]
  leaves_of_temporaries : DfC K mg "leaves_of_temporaries" s_leaves_of_temporaries ["program", "graph", "names"]
  crossed_by : DfC K mg "crossed_by" s_crossed_by ["program", "graph", "instruction"]
  pairs_between : DfC K mg "pairs_between" s_pairs_between ["program", "graph", "source", "target"]
  pairs_into : DfC K mg "pairs_into" s_pairs_into ["program", "graph", "instruction"]
  pairs_through : DfC K mg "pairs_through" s_pairs_through ["program", "graph", "instruction"]
  Graph___init__ : DfM K C_Graph "__init__" "Graph.__init__" s_Graph___init__ ["self", "function"]
  build_graph : DfC K mg "build_graph" s_build_graph ["program", "name"]
  Lowering___init__ : DfM K C_Lowering "__init__" "Lowering.__init__" s_Lowering___init__ ["self", "program", "function"]
  Lowering_lower_function : DfM K C_Lowering "lower_function" "Lowering.lower_function" s_Lowering_lower_function ["self", "block"]
  Lowering_add_point : DfM K C_Lowering "add_point" "Lowering.add_point" s_Lowering_add_point ["self", "instruction"]
  Lowering_add_end : DfM K C_Lowering "add_end" "Lowering.add_end" s_Lowering_add_end ["self", "instruction"]
  Lowering_add_drops : DfM K C_Lowering "add_drops" "Lowering.add_drops" s_Lowering_add_drops ["self", "names"]
  Lowering_add_leave : DfM K C_Lowering "add_leave" "Lowering.add_leave" s_Lowering_add_leave ["self", "temporary"]
  Lowering_lower_block : DfM K C_Lowering "lower_block" "Lowering.lower_block" s_Lowering_lower_block ["self", "block"]
  Lowering_lower_statement : DfM K C_Lowering "lower_statement" "Lowering.lower_statement" s_Lowering_lower_statement ["self", "statement"]
  Lowering_lower_let : DfM K C_Lowering "lower_let" "Lowering.lower_let" s_Lowering_lower_let ["self", "statement"]
  Lowering_lower_if : DfM K C_Lowering "lower_if" "Lowering.lower_if" s_Lowering_lower_if ["self", "statement"]
  Lowering_lower_while : DfM K C_Lowering "lower_while" "Lowering.lower_while" s_Lowering_lower_while ["self", "statement"]
  Lowering_lower_expression : DfM K C_Lowering "lower_expression" "Lowering.lower_expression" s_Lowering_lower_expression ["self", "expression"]
  instruction_for : DfC K mg "instruction_for" s_instruction_for ["expression", "kind", "temporary", "parts"]
  loans : DfC K mg "loans" s_loans ["program", "graph"]
  makes_loan : DfC K mg "makes_loan" s_makes_loan ["program", "graph", "instruction"]
  _law_tape : DfC K mg "_law_tape" s__law_tape ["script"]
  _law_next : DfC K mg "_law_next" s__law_next ["tape", "many"]
  _law_parameters : DfC K mg "_law_parameters" s__law_parameters []
  _law_places : DfC K mg "_law_places" s__law_places []
  _law_kind : DfC K mg "_law_kind" s__law_kind ["place"]
  _law_crossing : DfC K mg "_law_crossing" s__law_crossing ["place"]
  _law_leaves : DfC K mg "_law_leaves" s__law_leaves ["place", "kind"]
  _law_plain : DfC K mg "_law_plain" s__law_plain ["kind"]
  _law_value : DfC K mg "_law_value" s__law_value ["kind"]
  _law_statement : DfC K mg "_law_statement" s__law_statement ["tape"]
  _law_due : DfC K mg "_law_due" s__law_due ["row", "kinds"]
  _law_right : DfC K mg "_law_right" s__law_right ["actual", "due"]
  law : DfC K mg "law" s_law ["script"]
  mk_Graph : Mk K C_Graph Graph___init__.f
  mk_Lowering : Mk K C_Lowering Lowering___init__.f
set_option genInjectivity false in
set_option genSizeOf false in
structure Tbs {K : PySem.W.Frag} {mg : Str → Option Value} (T : Txt w K mg) (base : Heap) : Prop where
  any : True
  is_copy : TabB base mg T.is_copy.c T.P_is_copy
section
variable {P : Program} {w : World} {K : PySem.W.Frag} {mg : Str → Option Value} {base : Heap}
theorem ok_kinds_inside (T : Txt w K mg) (hT : Tbs T base) : FnOk P w K mg base CX0 1 T.kinds_inside.f T.kinds_inside.fd ["kind"] (spD K T.tb 1 (m_kinds_inside)) :=
  def_ok (k := 0) T.kinds_inside.F sc_kinds_inside fun A outer s H E hr => ⟨_, (pss_cons (ps_if (pt_cmpR (op_inK (K := K) rfl) (pe_ix (ix_seqK (K := K) rfl) (pv 0) pe_int (fun _ _ => rfl)) (pe_glob (v := .ref T.a_SINGLE_WORDS) rfl T.g_SINGLE_WORDS rfl) (by rfl)) (pss_one (ps_ret (pe_tup pa_nil))) pss_nil)
    (pss_cons (ps_if (pt_cmpR (op_eqAK (K := K) rfl hr.units) (pe_ix (ix_seqK (K := K) rfl) (pv 0) pe_int (fun _ _ => rfl)) pe_str (nomark _)) (pss_one (ps_ret (pe_ix (ix_seqK (K := K) rfl) (pv 0) pe_int (fun _ _ => rfl)))) pss_nil)
    (pss_one (ps_ret (pe_tup (pa_cons (pe_ix (ix_seqK (K := K) rfl) (pv 0) pe_int (fun _ _ => rfl)) pa_nil)))))),
    (ss_seq (ss_if (st_test (se_op (sr_in (n := false)) (se_op sr_ix (se_var 0) se_int) (se_const (T.d_SINGLE_WORDS)))) (ss_ret (se_tup sa_nil)) ss_nil)
    (ss_seq (ss_if (st_test (se_op sr_eq (se_op sr_ix (se_var 0) se_int) se_str)) (ss_ret (se_op sr_ix (se_var 0) se_int)) ss_nil)
    (ss_ret (se_tup (sa_cons (se_op sr_ix (se_var 0) se_int) sa_nil)))))⟩
theorem ok_is_copy (T : Txt w K mg) (hT : Tbs T base) : ∀ n : Nat, FnOk P w K mg base CX0 (2 + 2 * n) T.is_copy.f T.is_copy.fd ["kind"] (spD K T.tb 1 (m_is_copy n))
  | 0 => fn_none
  | n + 1 => (def_ok (k := 3 + 2 * n) (body := b_is_copy (m_is_copy n)) (fz := false) T.is_copy.F sc_is_copy fun A outer s H E hr => ⟨_, (pss_cons (ps_if (pt_cmpR (op_inK (K := K) rfl) (pe_ix (ix_seqK (K := K) rfl) (pv 0) pe_int (fun _ _ => rfl)) (pe_tup (pa_cons pe_str (pa_cons pe_str pa_nil))) (by rfl)) (pss_one (ps_ret (pe_allG (own := [("part", 1)]) (k := 2 + 2 * n) (hr.mono (by omega)) rfl rfl T.z_all bt_all (hT.is_copy) rfl sc_is_copy.nd (pi_tupK (K := K) rfl (pe_call (ok_kinds_inside T hT) (hr.mono (by omega)) rfl T.kinds_inside.g T.kinds_inside.F.kp T.kinds_inside.b .nil pass0 (pa_cons (pv 0) pa_nil))) (blkOk_by (N := ["kind", "part"]) (sc := defScope s_is_copy) (by decide +kernel)) rfl (by decide +kernel) rfl (nodot ["kind", "part"] (by decide +kernel)) (fun _ _ _ _ _ _ _ _ _ => (pg_name (i := 1) sc_is_copy.nd rfl (Or.inl rfl))) (fun _ _ _ _ _ _ _ _ _ hr => (pe_call (ok_is_copy T hT n) (hr.mono (by omega)) rfl T.is_copy.g T.is_copy.F.kp T.is_copy.b .nil pass0 (pa_cons (pv 1) pa_nil)))))) pss_nil)
    (pss_one (ps_ret (pe_cmpR (op_inK (K := K) rfl) (pe_ix (ix_seqK (K := K) rfl) (pv 0) pe_int (fun _ _ => rfl)) (pe_tup (pa_cons pe_str (pa_cons pe_str (pa_cons pe_str (pa_cons pe_str pa_nil))))) (by rfl))))),
    (ss_seq (ss_if (st_test (se_op (sr_in (n := false)) (se_op sr_ix (se_var 0) se_int) (se_tup (sa_cons se_str (sa_cons se_str sa_nil))))) (ss_ret (se_all T.hP_is_copy (si_tup (se_call ar_kinds_inside (sa_cons (se_var 0) sa_nil))) (sg_name 1) (by decide) (se_call (ar_is_copy n) (sa_cons (se_var 1) sa_nil)))) ss_nil)
    (ss_ret (se_op (sr_in (n := false)) (se_op sr_ix (se_var 0) se_int) (se_tup (sa_cons se_str (sa_cons se_str (sa_cons se_str (sa_cons se_str sa_nil))))))))⟩).mono (by omega)
theorem ok_leaves (T : Txt w K mg) (hT : Tbs T base) : ∀ n : Nat, FnOk P w K mg base CX0 (1 + 1 * n) T.leaves.f T.leaves.fd ["kind"] (spD K T.tb 1 (m_leaves n))
  | 0 => fn_none
  | n + 1 => (def_ok (k := 1 + 1 * n) (body := b_leaves (m_leaves n)) (fz := false) T.leaves.F sc_leaves fun A outer s H E hr => ⟨_, (pss_cons (ps_if (pt_cmpR (op_inK (K := K) rfl) (pe_ix (ix_seqK (K := K) rfl) (pv 0) pe_int (fun _ _ => rfl)) (pe_glob (v := .ref T.a_LEAF_WORDS) rfl T.g_LEAF_WORDS rfl) (by rfl)) (pss_one (ps_ret (pe_tup (pa_cons (pe_tup pa_nil) pa_nil)))) pss_nil)
    (pss_cons (ps_if (pt_cmpR (op_eqAK (K := K) rfl hr.units) (pe_ix (ix_seqK (K := K) rfl) (pv 0) pe_int (fun _ _ => rfl)) pe_str (nomark _)) (pss_one (ps_ret (pe_callTy (cr_tupK (K := K) rfl) rfl T.z_tuple PyProof.Rows.boot_tuple (pa_cons (pe_lc (own := [("path", 1)]) (tt := tYes) rfl sc_leaves.nd (pi_tupK (K := K) rfl (pe_call (ok_leaves T hT n) (hr.mono (by omega)) rfl T.leaves.g T.leaves.F.kp T.leaves.b .nil pass0 (pa_cons (pe_ix (ix_seqK (K := K) rfl) (pv 0) pe_int (fun _ _ => rfl)) pa_nil))) (blkOk_by (N := ["kind", "path", "at", "part"]) (sc := defScope s_leaves) (by decide +kernel)) (fun _ _ _ _ _ => (pg_name (i := 1) sc_leaves.nd rfl (Or.inl rfl))) (fun _ _ _ _ _ => pts_nil) (fun _ _ _ _ _ => (pe_op (op_plusK (K := K) rfl) (pe_tup (pa_cons pe_str pa_nil)) (pv 1)))) pa_nil)))) pss_nil)
    (pss_cons (ps_if (pt_cmpR (op_eqAK (K := K) rfl hr.units) (pe_ix (ix_seqK (K := K) rfl) (pv 0) pe_int (fun _ _ => rfl)) pe_str (nomark _)) (pss_one (ps_ret (pe_callTy (cr_tupK (K := K) rfl) rfl T.z_tuple PyProof.Rows.boot_tuple (pa_cons (pe_lc2 (own := [("at", 2), ("part", 3), ("path", 1)]) (vs1 := [1]) (tt := tYes) (tt1 := tYes) rfl sc_leaves.nd (pi_enumTK (K := K) rfl (by rfl) T.z_enumerate (pa_cons (pe_ix (ix_seqK (K := K) rfl) (pv 0) pe_int (fun _ _ => rfl)) pa_nil)) (blkOk_by (N := ["kind", "path", "at", "part"]) (sc := defScope s_leaves) (by decide +kernel)) (by decide) (fun _ _ _ _ _ => (pg_tup rfl (pgs_cons (pg_name (i := 2) sc_leaves.nd rfl (Or.inl rfl)) (pgs_cons (pg_name (i := 3) sc_leaves.nd rfl (Or.inl rfl)) pgs_nil)))) (fun _ _ _ _ _ => pts_nil) (fun _ _ _ _ _ => (pi_tupK (K := K) rfl (pe_call (ok_leaves T hT n) (hr.mono (by omega)) rfl T.leaves.g T.leaves.F.kp T.leaves.b .nil pass0 (pa_cons (pv 3) pa_nil)))) (fun _ _ _ _ _ => (pg_name (i := 1) sc_leaves.nd rfl (Or.inl rfl))) (fun _ _ _ _ _ => pts_nil) (fun _ _ _ _ _ => (pe_op (op_plusK (K := K) rfl) (pe_tup (pa_cons (pv 2) pa_nil)) (pv 1)))) pa_nil)))) pss_nil)
    (pss_one (ps_ret (pe_tup pa_nil)))))),
    (ss_seq (ss_if (st_test (se_op (sr_in (n := false)) (se_op sr_ix (se_var 0) se_int) (se_const (T.d_LEAF_WORDS)))) (ss_ret (se_tup (sa_cons (se_tup sa_nil) sa_nil))) ss_nil)
    (ss_seq (ss_if (st_test (se_op sr_eq (se_op sr_ix (se_var 0) se_int) se_str)) (ss_ret (se_cb sc_tuple (sa_cons (se_lc smk_F (si_tup (se_call (ar_leaves n) (sa_cons (se_op sr_ix (se_var 0) se_int) sa_nil))) (sg_name 1) (by decide) st_yes (se_op (sr_plus (L := false)) (se_tup (sa_cons se_str sa_nil)) (se_var 1))) sa_nil))) ss_nil)
    (ss_seq (ss_if (st_test (se_op sr_eq (se_op sr_ix (se_var 0) se_int) se_str)) (ss_ret (se_cb sc_tuple (sa_cons (se_lc2 smk_F (si_enumT (sa_cons (se_op sr_ix (se_var 0) se_int) sa_nil)) (sg_tup (glen_cons (glen_cons glen_nil)) (sgs_cons (sg_name 2) (sgs_cons (sg_name 3) sgs_nil))) (by decide) st_yes (si_tup (se_call (ar_leaves n) (sa_cons (se_var 3) sa_nil))) (sg_name 1) (by decide) st_yes (se_op (sr_plus (L := false)) (se_tup (sa_cons (se_var 2) sa_nil)) (se_var 1))) sa_nil))) ss_nil)
    (ss_ret (se_tup sa_nil)))))⟩).mono (by omega)
theorem ok_is_item (T : Txt w K mg) (hT : Tbs T base) : FnOk P w K mg base CX0 1 T.is_item.f T.is_item.fd ["items", "step"] (spD K T.tb 2 (m_is_item)) :=
  def_ok (k := 0) T.is_item.F sc_is_item fun A outer s H E hr => ⟨_, (pss_one (ps_ret (pe_and (pe_callB (cr_isiK (K := K) rfl) rfl T.z_isinstance PyProof.Rows.boot_isinstance (pa_cons (pv 1) (pa_cons (pe_bltn (v := .ty "int") rfl T.z_int PyProof.Rows.boot_int rfl) pa_nil))) (pe_and (pe_not (pe_callB (cr_isiK (K := K) rfl) rfl T.z_isinstance PyProof.Rows.boot_isinstance (pa_cons (pv 1) (pa_cons (pe_bltn (v := .ty "bool") rfl T.z_bool PyProof.Rows.boot_bool rfl) pa_nil)))) (pe_one (pe_chain op_le op_lt pe_int (pv 1) (pe_callB (cr_lenK (K := K) rfl) rfl T.z_len PySem.boot_len (pa_cons (pv 0) pa_nil)))))))),
    (ss_ret (se_andV (se_is (T := false) (se_var 1)) (se_andV (se_notV (se_is (T := true) (se_var 1))) (se_chain sr_le sr_lt se_int (se_var 1) (se_cb sc_len (sa_cons (se_var 0) sa_nil))))))⟩
theorem ok_fields_of (T : Txt w K mg) (hT : Tbs T base) : FnOk P w K mg base CX0 1 T.fields_of.f T.fields_of.fd ["records", "name"] (spD K T.tb 2 (m_fields_of)) :=
  def_ok (k := 0) T.fields_of.F sc_fields_of fun A outer s H E hr => ⟨_, (pss_cons (ps_for PassesOwn.never rfl (pi_tupK (K := K) rfl (pv 0)) (pg_tup rfl (pgs_cons (pg_name (i := 2) sc_fields_of.nd rfl (Or.inl rfl)) (pgs_cons (pg_name (i := 3) sc_fields_of.nd rfl (Or.inl rfl)) pgs_nil))) (pss_one (ps_if (pt_cmpR (op_eqAK (K := K) rfl hr.units) (pv 2) (pv 1) (nomark _)) (pss_one (ps_ret (pv 3))) pss_nil)))
    (pss_one (ps_ret (pe_tup pa_nil)))),
    (ss_seq (ss_for (si_tup (se_var 0)) (sg_tup (glen_cons (glen_cons glen_nil)) (sgs_cons (sg_name 2) (sgs_cons (sg_name 3) sgs_nil))) (ss_if (st_test (se_op sr_eq (se_var 2) (se_var 1))) (ss_ret (se_var 3)) ss_nil))
    (ss_ret (se_tup sa_nil)))⟩
theorem ok_kind_after (T : Txt w K mg) (hT : Tbs T base) : FnOk P w K mg base CX0 2 T.kind_after.f T.kind_after.fd ["records", "kind", "step"] (spD K T.tb 3 (m_kind_after)) :=
  def_ok (k := 1) T.kind_after.F sc_kind_after fun A outer s H E hr => ⟨_, (pss_cons (ps_if (PW.pt (pw_and (pt_cmpR (op_eqAK (K := K) rfl hr.units) (pe_ix (ix_seqK (K := K) rfl) (pv 1) pe_int (fun _ _ => rfl)) pe_str (nomark _)) (pw_and1 (pt_val (pe_call (ok_is_item T hT) (hr.mono (by omega)) rfl T.is_item.g T.is_item.F.kp T.is_item.b .nil pass0 (pa_cons (pe_ix (ix_seqK (K := K) rfl) (pv 1) pe_int (fun _ _ => rfl)) (pa_cons (pv 2) pa_nil))))))) (pss_one (ps_ret (pe_ix (ix_seqK (K := K) rfl) (pe_ix (ix_seqK (K := K) rfl) (pv 1) pe_int (fun _ _ => rfl)) (pv 2) (fun _ _ => rfl)))) pss_nil)
    (pss_cons (ps_if (pt_cmpR (op_eqAK (K := K) rfl hr.units) (pe_ix (ix_seqK (K := K) rfl) (pv 1) pe_int (fun _ _ => rfl)) pe_str (nomark _)) (pss_one (ps_for PassesOwn.never rfl (pi_tupK (K := K) rfl (pe_call (ok_fields_of T hT) (hr.mono (by omega)) rfl T.fields_of.g T.fields_of.F.kp T.fields_of.b .nil pass0 (pa_cons (pv 0) (pa_cons (pe_ix (ix_seqK (K := K) rfl) (pv 1) pe_int (fun _ _ => rfl)) pa_nil)))) (pg_tup rfl (pgs_cons (pg_name (i := 3) sc_kind_after.nd rfl (Or.inl rfl)) (pgs_cons (pg_name (i := 4) sc_kind_after.nd rfl (Or.inl rfl)) pgs_nil))) (pss_one (ps_if (pt_cmpR (op_eqAK (K := K) rfl hr.units) (pv 3) (pv 2) (nomark _)) (pss_one (ps_ret (pv 4))) pss_nil)))) pss_nil)
    (pss_cons (ps_if (PW.pt (pw_and (pt_cmpR (op_eqAK (K := K) rfl hr.units) (pe_ix (ix_seqK (K := K) rfl) (pv 1) pe_int (fun _ _ => rfl)) pe_str (nomark _)) (pw_and1 (pt_cmpR (op_eqAK (K := K) rfl hr.units) (pv 2) pe_str (nomark _))))) (pss_one (ps_ret (pe_ix (ix_seqK (K := K) rfl) (pv 1) pe_int (fun _ _ => rfl)))) pss_nil)
    (pss_cons (ps_if (PW.pt (pw_and (PW.pt (pw_or (pt_cmpR (op_eqAK (K := K) rfl hr.units) (pe_ix (ix_seqK (K := K) rfl) (pv 1) pe_int (fun _ _ => rfl)) pe_str (nomark _)) (pw_or1 (pt_cmpR (op_inK (K := K) rfl) (pe_ix (ix_seqK (K := K) rfl) (pv 1) pe_int (fun _ _ => rfl)) (pe_glob (v := .ref T.a_BORROWS) rfl T.g_BORROWS rfl) (by rfl))))) (pw_and1 (pt_cmpR (op_eqAK (K := K) rfl hr.units) (pv 2) pe_str (nomark _))))) (pss_one (ps_ret (pe_ix (ix_seqK (K := K) rfl) (pv 1) pe_int (fun _ _ => rfl)))) pss_nil)
    (pss_one ps_none))))),
    (ss_seq (ss_if (st_and (st_test (se_op sr_eq (se_op sr_ix (se_var 1) se_int) se_str)) (st_val (se_call ar_is_item (sa_cons (se_op sr_ix (se_var 1) se_int) (sa_cons (se_var 2) sa_nil))))) (ss_ret (se_op sr_ix (se_op sr_ix (se_var 1) se_int) (se_var 2))) ss_nil)
    (ss_seq (ss_if (st_test (se_op sr_eq (se_op sr_ix (se_var 1) se_int) se_str)) (ss_for (si_tup (se_call ar_fields_of (sa_cons (se_var 0) (sa_cons (se_op sr_ix (se_var 1) se_int) sa_nil)))) (sg_tup (glen_cons (glen_cons glen_nil)) (sgs_cons (sg_name 3) (sgs_cons (sg_name 4) sgs_nil))) (ss_if (st_test (se_op sr_eq (se_var 3) (se_var 2))) (ss_ret (se_var 4)) ss_nil)) ss_nil)
    (ss_seq (ss_if (st_and (st_test (se_op sr_eq (se_op sr_ix (se_var 1) se_int) se_str)) (st_test (se_op sr_eq (se_var 2) se_str))) (ss_ret (se_op sr_ix (se_var 1) se_int)) ss_nil)
    (ss_seq (ss_if (st_and (st_or (st_test (se_op sr_eq (se_op sr_ix (se_var 1) se_int) se_str)) (st_test (se_op (sr_in (n := false)) (se_op sr_ix (se_var 1) se_int) (se_const (T.d_BORROWS))))) (st_test (se_op sr_eq (se_var 2) se_str))) (ss_ret (se_op sr_ix (se_var 1) se_int)) ss_nil)
    ss_none))))⟩
end
section
variable {P : Program} {w : World} {K : PySem.W.Frag} {mg : Str → Option Value} {base : Heap}
theorem ok_kinds_along (T : Txt w K mg) (hT : Tbs T base) : FnOk P w K mg base CX0 3 T.kinds_along.f T.kinds_along.fd ["place", "records", "kinds"] (spD K T.tb 3 (m_kinds_along)) :=
  def_ok (k := 2) T.kinds_along.F sc_kinds_along fun A outer s H E hr => ⟨_, (pss_cons (ps_asg (pv 0) (pg_tup rfl (pgs_cons (pg_name (i := 3) sc_kinds_along.nd rfl (Or.inl rfl)) (pgs_cons (pg_name (i := 4) sc_kinds_along.nd rfl (Or.inl rfl)) pgs_nil))))
    (pss_cons (ps_if (pt_cmp (pc_dnotin (hu_of hr) (pv 3) (pv 2))) (pss_one ps_none) pss_nil)
    (pss_cons (ps_set (i := 5) sc_kinds_along.nd rfl (Or.inl rfl) (pe_lst (pa_cons (pe_dget (hu_of hr) (pv 2) (pv 3) (fun _ _ => rfl)) pa_nil)))
    (pss_cons (ps_for PassesOwn.never rfl (pi_tupK (K := K) rfl (pv 4)) (pg_name (i := 6) sc_kinds_along.nd rfl (Or.inl rfl)) (pss_one (ps_expr (pe_bm PySem.F.plainAttrs_list PySem.F.slot_list_append PySem.F.type_list_append mt_append (pv 5) (pa_cons (pe_call (ok_kind_after T hT) (hr.mono (by omega)) rfl T.kind_after.g T.kind_after.F.kp T.kind_after.b .nil pass0 (pa_cons (pv 1) (pa_cons (pe_ix (ix_seqK (K := K) rfl) (pv 5) (pe_un un_neg pe_int) (fun _ _ => rfl)) (pa_cons (pv 6) pa_nil)))) pa_nil)))))
    (pss_one (ps_ret (pv 5))))))),
    (ss_seq (ss_asg (se_var 0) (sg_tup (glen_cons (glen_cons glen_nil)) (sgs_cons (sg_name 3) (sgs_cons (sg_name 4) sgs_nil))))
    (ss_seq (ss_if (st_val (se_dnin (se_var 3) (se_var 2))) ss_none ss_nil)
    (ss_seq (ss_asg (se_lstL (sa_cons (se_dget (se_var 2) (se_var 3)) sa_nil)) (sg_name 5))
    (ss_seq (ss_for (si_tup (se_var 4)) (sg_name 6) (ss_drop (se_bm sm_append (se_var 5) (sa_cons (se_call ar_kind_after (sa_cons (se_var 1) (sa_cons (se_op sr_ix (se_var 5) (se_un su_neg se_int)) (sa_cons (se_var 6) sa_nil)))) sa_nil))))
    (ss_ret (se_var 5))))))⟩
theorem ok_kind_at (T : Txt w K mg) (hT : Tbs T base) : FnOk P w K mg base CX0 4 T.kind_at.f T.kind_at.fd ["place", "records", "kinds"] (spD K T.tb 3 (m_kind_at)) :=
  def_ok (k := 3) T.kind_at.F sc_kind_at fun A outer s H E hr => ⟨_, (pss_one (ps_ret (pe_ix (ix_seqK (K := K) rfl) (pe_call (ok_kinds_along T hT) (hr.mono (by omega)) rfl T.kinds_along.g T.kinds_along.F.kp T.kinds_along.b .nil pass0 (pa_cons (pv 0) (pa_cons (pv 1) (pa_cons (pv 2) pa_nil)))) (pe_un un_neg pe_int) (fun _ _ => rfl)))),
    (ss_ret (se_op sr_ix (se_call ar_kinds_along (sa_cons (se_var 0) (sa_cons (se_var 1) (sa_cons (se_var 2) sa_nil)))) (se_un su_neg se_int)))⟩
theorem ok_crossed (T : Txt w K mg) (hT : Tbs T base) : FnOk P w K mg base CX0 4 T.crossed.f T.crossed.fd ["place", "records", "kinds"] (spD K T.tb 3 (m_crossed)) :=
  def_ok (k := 3) T.crossed.F sc_crossed fun A outer s H E hr => ⟨_, (pss_cons (ps_asg (pv 0) (pg_tup rfl (pgs_cons (pg_name (i := 3) sc_crossed.nd rfl (Or.inl rfl)) (pgs_cons (pg_name (i := 4) sc_crossed.nd rfl (Or.inl rfl)) pgs_nil))))
    (pss_cons (ps_set (i := 5) sc_crossed.nd rfl (Or.inl rfl) (pe_call (ok_kinds_along T hT) (hr.mono (by omega)) rfl T.kinds_along.g T.kinds_along.F.kp T.kinds_along.b .nil pass0 (pa_cons (pv 0) (pa_cons (pv 1) (pa_cons (pv 2) pa_nil)))))
    (pss_cons (ps_for PassesOwn.never rfl (pi_enumTK (K := K) rfl (by rfl) T.z_enumerate (pa_cons (pv 4) pa_nil)) (pg_tup rfl (pgs_cons (pg_name (i := 6) sc_crossed.nd rfl (Or.inl rfl)) (pgs_cons (pg_name (i := 7) sc_crossed.nd rfl (Or.inl rfl)) pgs_nil))) (pss_one (ps_if (PW.pt (pw_and (pt_cmpR (op_eqAK (K := K) rfl hr.units) (pv 7) pe_str (nomark _)) (pw_and1 (pt_cmpR (op_inK (K := K) rfl) (pe_ix (ix_seqK (K := K) rfl) (pe_ix (ix_seqK (K := K) rfl) (pv 5) (pv 6) (fun _ _ => rfl)) pe_int (fun _ _ => rfl)) (pe_glob (v := .ref T.a_BORROWS) rfl T.g_BORROWS rfl) (by rfl))))) (pss_one (ps_ret (pe_tup (pa_cons (pv 3) (pa_cons (pe_slice (sl_allK (K := K) rfl) (pv 4) po_none (po_some (pv 6))) pa_nil))))) pss_nil)))
    (pss_one (ps_ret pe_non))))),
    (ss_seq (ss_asg (se_var 0) (sg_tup (glen_cons (glen_cons glen_nil)) (sgs_cons (sg_name 3) (sgs_cons (sg_name 4) sgs_nil))))
    (ss_seq (ss_asg (se_call ar_kinds_along (sa_cons (se_var 0) (sa_cons (se_var 1) (sa_cons (se_var 2) sa_nil)))) (sg_name 5))
    (ss_seq (ss_for (si_enumT (sa_cons (se_var 4) sa_nil)) (sg_tup (glen_cons (glen_cons glen_nil)) (sgs_cons (sg_name 6) (sgs_cons (sg_name 7) sgs_nil))) (ss_if (st_and (st_test (se_op sr_eq (se_var 7) se_str)) (st_test (se_op (sr_in (n := false)) (se_op sr_ix (se_op sr_ix (se_var 5) (se_var 6)) se_int) (se_const (T.d_BORROWS))))) (ss_ret (se_tup (sa_cons (se_var 3) (sa_cons (se_sl (L := false) (se_var 4) so_none (so_some (se_var 6))) sa_nil)))) ss_nil))
    (ss_ret se_non))))⟩
theorem ok_function_named (T : Txt w K mg) (hT : Tbs T base) : FnOk P w K mg base CX0 1 T.function_named.f T.function_named.fd ["program", "name"] (spD K T.tb 2 (m_function_named)) :=
  def_ok (k := 0) T.function_named.F sc_function_named fun A outer s H E hr => ⟨_, (pss_cons (ps_for PassesOwn.never rfl (pi_tupK (K := K) rfl (pe_ix (ix_seqK (K := K) rfl) (pv 0) pe_int (fun _ _ => rfl))) (pg_name (i := 2) sc_function_named.nd rfl (Or.inl rfl)) (pss_one (ps_if (pt_cmpR (op_eqAK (K := K) rfl hr.units) (pe_ix (ix_seqK (K := K) rfl) (pv 2) pe_int (fun _ _ => rfl)) (pv 1) (nomark _)) (pss_one (ps_ret (pv 2))) pss_nil)))
    (pss_one (ps_ret pe_non))),
    (ss_seq (ss_for (si_tup (se_op sr_ix (se_var 0) se_int)) (sg_name 2) (ss_if (st_test (se_op sr_eq (se_op sr_ix (se_var 2) se_int) (se_var 1))) (ss_ret (se_var 2)) ss_nil))
    (ss_ret se_non))⟩
theorem ok_parts_of (T : Txt w K mg) (hT : Tbs T base) : FnOk P w K mg base CX0 1 T.parts_of.f T.parts_of.fd ["expression"] (spD K T.tb 1 (m_parts_of)) :=
  def_ok (k := 0) T.parts_of.F sc_parts_of fun A outer s H E hr => ⟨_, (pss_cons (ps_set (i := 1) sc_parts_of.nd rfl (Or.inl rfl) (pe_ix (ix_seqK (K := K) rfl) (pv 0) pe_int (fun _ _ => rfl)))
    (pss_cons (ps_if (pt_cmpR (op_inK (K := K) rfl) (pv 1) (pe_tup (pa_cons pe_str (pa_cons pe_str (pa_cons pe_str (pa_cons pe_str (pa_cons pe_str pa_nil)))))) (by rfl)) (pss_one (ps_ret (pe_tup (pa_cons (pe_ix (ix_seqK (K := K) rfl) (pv 0) pe_int (fun _ _ => rfl)) pa_nil)))) pss_nil)
    (pss_cons (ps_if (pt_cmpR (op_eqAK (K := K) rfl hr.units) (pv 1) pe_str (nomark _)) (pss_one (ps_ret (pe_ix (ix_seqK (K := K) rfl) (pv 0) pe_int (fun _ _ => rfl)))) pss_nil)
    (pss_cons (ps_if (pt_cmpR (op_inK (K := K) rfl) (pv 1) (pe_tup (pa_cons pe_str (pa_cons pe_str (pa_cons pe_str pa_nil)))) (by rfl)) (pss_one (ps_ret (pe_ix (ix_seqK (K := K) rfl) (pv 0) pe_int (fun _ _ => rfl)))) pss_nil)
    (pss_cons (ps_if (pt_cmpR (op_eqAK (K := K) rfl hr.units) (pv 1) pe_str (nomark _)) (pss_one (ps_ret (pe_tup (pa_cons (pe_ix (ix_seqK (K := K) rfl) (pv 0) pe_int (fun _ _ => rfl)) pa_nil)))) pss_nil)
    (pss_cons (ps_if (pt_cmpR (op_eqAK (K := K) rfl hr.units) (pv 1) pe_str (nomark _)) (pss_one (ps_ret (pe_tup (pa_cons (pe_ix (ix_seqK (K := K) rfl) (pv 0) pe_int (fun _ _ => rfl)) (pa_cons (pe_ix (ix_seqK (K := K) rfl) (pv 0) pe_int (fun _ _ => rfl)) pa_nil))))) pss_nil)
    (pss_one (ps_ret (pe_tup pa_nil))))))))),
    (ss_seq (ss_asg (se_op sr_ix (se_var 0) se_int) (sg_name 1))
    (ss_seq (ss_if (st_test (se_op (sr_in (n := false)) (se_var 1) (se_tup (sa_cons se_str (sa_cons se_str (sa_cons se_str (sa_cons se_str (sa_cons se_str sa_nil)))))))) (ss_ret (se_tup (sa_cons (se_op sr_ix (se_var 0) se_int) sa_nil))) ss_nil)
    (ss_seq (ss_if (st_test (se_op sr_eq (se_var 1) se_str)) (ss_ret (se_op sr_ix (se_var 0) se_int)) ss_nil)
    (ss_seq (ss_if (st_test (se_op (sr_in (n := false)) (se_var 1) (se_tup (sa_cons se_str (sa_cons se_str (sa_cons se_str sa_nil)))))) (ss_ret (se_op sr_ix (se_var 0) se_int)) ss_nil)
    (ss_seq (ss_if (st_test (se_op sr_eq (se_var 1) se_str)) (ss_ret (se_tup (sa_cons (se_op sr_ix (se_var 0) se_int) sa_nil))) ss_nil)
    (ss_seq (ss_if (st_test (se_op sr_eq (se_var 1) se_str)) (ss_ret (se_tup (sa_cons (se_op sr_ix (se_var 0) se_int) (sa_cons (se_op sr_ix (se_var 0) se_int) sa_nil)))) ss_nil)
    (ss_ret (se_tup sa_nil))))))))⟩
theorem ok_place_in (T : Txt w K mg) (hT : Tbs T base) : FnOk P w K mg base CX0 1 T.place_in.f T.place_in.fd ["expression"] (spD K T.tb 1 (m_place_in)) :=
  def_ok (k := 0) T.place_in.F sc_place_in fun A outer s H E hr => ⟨_, (pss_cons (ps_if (pt_cmpR (op_eqAK (K := K) rfl hr.units) (pe_ix (ix_seqK (K := K) rfl) (pv 0) pe_int (fun _ _ => rfl)) pe_str (nomark _)) (pss_one (ps_ret (pe_ix (ix_seqK (K := K) rfl) (pv 0) pe_int (fun _ _ => rfl)))) pss_nil)
    (pss_one (ps_ret (pe_ix (ix_seqK (K := K) rfl) (pv 0) pe_int (fun _ _ => rfl))))),
    (ss_seq (ss_if (st_test (se_op sr_eq (se_op sr_ix (se_var 0) se_int) se_str)) (ss_ret (se_op sr_ix (se_var 0) se_int)) ss_nil)
    (ss_ret (se_op sr_ix (se_var 0) se_int)))⟩
end
section
variable {P : Program} {w : World} {K : PySem.W.Frag} {mg : Str → Option Value} {base : Heap}
theorem ok_kind_fetched (T : Txt w K mg) (hT : Tbs T base) : FnOk P w K mg base CX0 5 T.kind_fetched.f T.kind_fetched.fd ["program", "kinds", "expression"] (spD K T.tb 3 (m_kind_fetched)) :=
  def_ok (k := 4) T.kind_fetched.F sc_kind_fetched fun A outer s H E hr => ⟨_, (pss_cons (ps_set (i := 3) sc_kind_fetched.nd rfl (Or.inl rfl) (pe_ix (ix_seqK (K := K) rfl) (pv 2) pe_int (fun _ _ => rfl)))
    (pss_cons (ps_if (pt_cmpR (op_eqAK (K := K) rfl hr.units) (pv 3) pe_str (nomark _)) (pss_one (ps_ret (pe_tup (pa_cons pe_str (pa_cons (pe_ix (ix_seqK (K := K) rfl) (pv 2) pe_int (fun _ _ => rfl)) pa_nil))))) pss_nil)
    (pss_cons (ps_if (pt_cmpR (op_eqAK (K := K) rfl hr.units) (pv 3) pe_str (nomark _)) (pss_one (ps_ret (pe_ix (ix_seqK (K := K) rfl) (pe_call (ok_function_named T hT) (hr.mono (by omega)) rfl T.function_named.g T.function_named.F.kp T.function_named.b .nil pass0 (pa_cons (pv 0) (pa_cons (pe_ix (ix_seqK (K := K) rfl) (pv 2) pe_int (fun _ _ => rfl)) pa_nil))) pe_int (fun _ _ => rfl)))) pss_nil)
    (pss_cons (ps_if (pt_cmpR (op_eqAK (K := K) rfl hr.units) (pv 3) pe_str (nomark _)) (pss_one (ps_ret (pe_tup (pa_cons pe_str (pa_cons (pe_ix (ix_seqK (K := K) rfl) (pe_call (ok_function_named T hT) (hr.mono (by omega)) rfl T.function_named.g T.function_named.F.kp T.function_named.b .nil pass0 (pa_cons (pv 0) (pa_cons (pe_ix (ix_seqK (K := K) rfl) (pv 2) pe_int (fun _ _ => rfl)) pa_nil))) pe_int (fun _ _ => rfl)) pa_nil))))) pss_nil)
    (pss_cons (ps_set (i := 4) sc_kind_fetched.nd rfl (Or.inl rfl) (pe_callK (ok_kind_at T hT) (hr.mono (by omega)) rfl T.kind_at.g T.kind_at.F.kp T.kind_at.b pass0 (pa_cons (pe_call (ok_place_in T hT) (hr.mono (by omega)) rfl T.place_in.g T.place_in.F.kp T.place_in.b .nil pass0 (pa_cons (pv 2) pa_nil)) pa_nil) (pk_cons (pe_ix (ix_seqK (K := K) rfl) (pv 0) pe_int (fun _ _ => rfl)) (pk_cons (pv 1) pk_nil))))
    (pss_cons (ps_if (pt_cmpR (op_eqAK (K := K) rfl hr.units) (pv 3) pe_str (nomark _)) (pss_one (ps_ret (pe_tup (pa_cons (pe_ix (ix_seqK (K := K) rfl) (pv 2) pe_int (fun _ _ => rfl)) (pa_cons (pv 4) pa_nil))))) pss_nil)
    (pss_one (ps_ret (pv 4))))))))),
    (ss_seq (ss_asg (se_op sr_ix (se_var 2) se_int) (sg_name 3))
    (ss_seq (ss_if (st_test (se_op sr_eq (se_var 3) se_str)) (ss_ret (se_tup (sa_cons se_str (sa_cons (se_op sr_ix (se_var 2) se_int) sa_nil)))) ss_nil)
    (ss_seq (ss_if (st_test (se_op sr_eq (se_var 3) se_str)) (ss_ret (se_op sr_ix (se_call ar_function_named (sa_cons (se_var 0) (sa_cons (se_op sr_ix (se_var 2) se_int) sa_nil))) se_int)) ss_nil)
    (ss_seq (ss_if (st_test (se_op sr_eq (se_var 3) se_str)) (ss_ret (se_tup (sa_cons se_str (sa_cons (se_op sr_ix (se_call ar_function_named (sa_cons (se_var 0) (sa_cons (se_op sr_ix (se_var 2) se_int) sa_nil))) se_int) sa_nil)))) ss_nil)
    (ss_seq (ss_asg (se_callkw ar_kind_at (fun _ _ _ _ _ h g => g12_rel h g) (sa_cons (se_call ar_place_in (sa_cons (se_var 2) sa_nil)) sa_nil) (sa_cons (se_op sr_ix (se_var 0) se_int) (sa_cons (se_var 1) sa_nil))) (sg_name 4))
    (ss_seq (ss_if (st_test (se_op sr_eq (se_var 3) se_str)) (ss_ret (se_tup (sa_cons (se_op sr_ix (se_var 2) se_int) (sa_cons (se_var 4) sa_nil)))) ss_nil)
    (ss_ret (se_var 4))))))))⟩
theorem ok_kind_made (T : Txt w K mg) (hT : Tbs T base) : FnOk P w K mg base CX0 6 T.kind_made.f T.kind_made.fd ["program", "kinds", "expression", "inside"] (spD K T.tb 4 (m_kind_made)) :=
  def_ok (k := 5) T.kind_made.F sc_kind_made fun A outer s H E hr => ⟨_, (pss_cons (ps_set (i := 4) sc_kind_made.nd rfl (Or.inl rfl) (pe_ix (ix_seqK (K := K) rfl) (pv 2) pe_int (fun _ _ => rfl)))
    (pss_cons (ps_if (pt_cmpR (op_inK (K := K) rfl) (pv 4) (pe_tup (pa_cons pe_str (pa_cons pe_str (pa_cons pe_str pa_nil)))) (by rfl)) (pss_one (ps_ret (pe_tup (pa_cons (pv 4) pa_nil)))) pss_nil)
    (pss_cons (ps_if (pt_cmpR (op_inK (K := K) rfl) (pv 4) (pe_tup (pa_cons pe_str (pa_cons pe_str pa_nil))) (by rfl)) (pss_one (ps_ret (pe_tup (pa_cons pe_str pa_nil)))) pss_nil)
    (pss_cons (ps_if (pt_cmpR (op_eqAK (K := K) rfl hr.units) (pv 4) pe_str (nomark _)) (pss_one (ps_ret (pe_ix (ix_kdictK (K := K) (w := w) rfl rfl) (pe_glob (v := .ref T.a_SIGN_KINDS) rfl T.g_SIGN_KINDS rfl) (pe_ix (ix_seqK (K := K) rfl) (pv 2) pe_int (fun _ _ => rfl)) (fun _ _ => rfl)))) pss_nil)
    (pss_cons (ps_if (pt_cmpR (op_eqAK (K := K) rfl hr.units) (pv 4) pe_str (nomark _)) (pss_one (ps_ret (pe_tup (pa_cons pe_str (pa_cons (pe_ix (ix_seqK (K := K) rfl) (pv 2) pe_int (fun _ _ => rfl)) pa_nil))))) pss_nil)
    (pss_cons (ps_if (pt_cmpR (op_eqAK (K := K) rfl hr.units) (pv 4) pe_str (nomark _)) (pss_one (ps_ret (pe_tup (pa_cons pe_str (pa_cons (pe_ix (ix_seqK (K := K) rfl) (pv 3) pe_int (fun _ _ => rfl)) pa_nil))))) pss_nil)
    (pss_cons (ps_if (pt_cmpR (op_eqAK (K := K) rfl hr.units) (pv 4) pe_str (nomark _)) (pss_one (ps_ret (pe_tup (pa_cons pe_str (pa_cons (pe_ix (ix_seqK (K := K) rfl) (pv 3) pe_int (fun _ _ => rfl)) pa_nil))))) pss_nil)
    (pss_cons (ps_if (pt_cmpR (op_eqAK (K := K) rfl hr.units) (pv 4) pe_str (nomark _)) (pss_one (ps_ret (pe_tup (pa_cons pe_str (pa_cons (pe_callTy (cr_tupK (K := K) rfl) rfl T.z_tuple PyProof.Rows.boot_tuple (pa_cons (pv 3) pa_nil)) pa_nil))))) pss_nil)
    (pss_cons (ps_if (pt_cmpR (op_inK (K := K) rfl) (pv 4) (pe_tup (pa_cons pe_str (pa_cons pe_str pa_nil))) (by rfl)) (pss_one (ps_ret (pe_ix (ix_seqK (K := K) rfl) (pe_ix (ix_seqK (K := K) rfl) (pv 3) pe_int (fun _ _ => rfl)) pe_int (fun _ _ => rfl)))) pss_nil)
    (pss_one (ps_ret (pe_call (ok_kind_fetched T hT) (hr.mono (by omega)) rfl T.kind_fetched.g T.kind_fetched.F.kp T.kind_fetched.b .nil pass0 (pa_cons (pv 0) (pa_cons (pv 1) (pa_cons (pv 2) pa_nil))))))))))))))),
    (ss_seq (ss_asg (se_op sr_ix (se_var 2) se_int) (sg_name 4))
    (ss_seq (ss_if (st_test (se_op (sr_in (n := false)) (se_var 4) (se_tup (sa_cons se_str (sa_cons se_str (sa_cons se_str sa_nil)))))) (ss_ret (se_tup (sa_cons (se_var 4) sa_nil))) ss_nil)
    (ss_seq (ss_if (st_test (se_op (sr_in (n := false)) (se_var 4) (se_tup (sa_cons se_str (sa_cons se_str sa_nil))))) (ss_ret (se_tup (sa_cons se_str sa_nil))) ss_nil)
    (ss_seq (ss_if (st_test (se_op sr_eq (se_var 4) se_str)) (ss_ret (se_ixC T.d_SIGN_KINDS (se_op sr_ix (se_var 2) se_int))) ss_nil)
    (ss_seq (ss_if (st_test (se_op sr_eq (se_var 4) se_str)) (ss_ret (se_tup (sa_cons se_str (sa_cons (se_op sr_ix (se_var 2) se_int) sa_nil)))) ss_nil)
    (ss_seq (ss_if (st_test (se_op sr_eq (se_var 4) se_str)) (ss_ret (se_tup (sa_cons se_str (sa_cons (se_op sr_ix (se_var 3) se_int) sa_nil)))) ss_nil)
    (ss_seq (ss_if (st_test (se_op sr_eq (se_var 4) se_str)) (ss_ret (se_tup (sa_cons se_str (sa_cons (se_op sr_ix (se_var 3) se_int) sa_nil)))) ss_nil)
    (ss_seq (ss_if (st_test (se_op sr_eq (se_var 4) se_str)) (ss_ret (se_tup (sa_cons se_str (sa_cons (se_cb sc_tuple (sa_cons (se_var 3) sa_nil)) sa_nil)))) ss_nil)
    (ss_seq (ss_if (st_test (se_op (sr_in (n := false)) (se_var 4) (se_tup (sa_cons se_str (sa_cons se_str sa_nil))))) (ss_ret (se_op sr_ix (se_op sr_ix (se_var 3) se_int) se_int)) ss_nil)
    (ss_ret (se_call ar_kind_fetched (sa_cons (se_var 0) (sa_cons (se_var 1) (sa_cons (se_var 2) sa_nil))))))))))))))⟩
theorem ok_taken (T : Txt w K mg) (hT : Tbs T base) : FnOk P w K mg base CX0 1 T.taken.f T.taken.fd ["instruction"] (spD K T.tb 1 (m_taken)) :=
  def_ok (k := 0) T.taken.F sc_taken fun A outer s H E hr => ⟨_, (pss_cons (ps_set (i := 1) sc_taken.nd rfl (Or.inl rfl) (pe_ix (ix_seqK (K := K) rfl) (pv 0) pe_int (fun _ _ => rfl)))
    (pss_cons (ps_if (pt_cmpR (op_inK (K := K) rfl) (pv 1) (pe_tup (pa_cons pe_str (pa_cons pe_str (pa_cons pe_str pa_nil)))) (by rfl)) (pss_one (ps_ret (pe_ix (ix_seqK (K := K) rfl) (pv 0) pe_int (fun _ _ => rfl)))) pss_nil)
    (pss_cons (ps_if (pt_cmpR (op_inK (K := K) rfl) (pv 1) (pe_tup (pa_cons pe_str (pa_cons pe_str (pa_cons pe_str pa_nil)))) (by rfl)) (pss_one (ps_ret (pe_tup (pa_cons (pe_ix (ix_seqK (K := K) rfl) (pv 0) pe_int (fun _ _ => rfl)) pa_nil)))) pss_nil)
    (pss_cons (ps_if (pt_cmpR (op_eqAK (K := K) rfl hr.units) (pv 1) pe_str (nomark _)) (pss_one (ps_ret (pe_tup (pa_cons (pe_ix (ix_seqK (K := K) rfl) (pv 0) pe_int (fun _ _ => rfl)) pa_nil)))) pss_nil)
    (pss_one (ps_ret (pe_tup pa_nil))))))),
    (ss_seq (ss_asg (se_op sr_ix (se_var 0) se_int) (sg_name 1))
    (ss_seq (ss_if (st_test (se_op (sr_in (n := false)) (se_var 1) (se_tup (sa_cons se_str (sa_cons se_str (sa_cons se_str sa_nil)))))) (ss_ret (se_op sr_ix (se_var 0) se_int)) ss_nil)
    (ss_seq (ss_if (st_test (se_op (sr_in (n := false)) (se_var 1) (se_tup (sa_cons se_str (sa_cons se_str (sa_cons se_str sa_nil)))))) (ss_ret (se_tup (sa_cons (se_op sr_ix (se_var 0) se_int) sa_nil))) ss_nil)
    (ss_seq (ss_if (st_test (se_op sr_eq (se_var 1) se_str)) (ss_ret (se_tup (sa_cons (se_op sr_ix (se_var 0) se_int) sa_nil))) ss_nil)
    (ss_ret (se_tup sa_nil))))))⟩
theorem ok_place_of (T : Txt w K mg) (hT : Tbs T base) : FnOk P w K mg base CX0 1 T.place_of.f T.place_of.fd ["instruction"] (spD K T.tb 1 (m_place_of)) :=
  def_ok (k := 0) T.place_of.F sc_place_of fun A outer s H E hr => ⟨_, (pss_cons (ps_set (i := 1) sc_place_of.nd rfl (Or.inl rfl) (pe_ix (ix_seqK (K := K) rfl) (pv 0) pe_int (fun _ _ => rfl)))
    (pss_cons (ps_if (pt_cmpR (op_inCK (K := K) (w := w) rfl rfl T.i_PLACE_AT) (pv 1) (pe_glob (v := .ref T.a_PLACE_AT) rfl T.g_PLACE_AT rfl) (by rfl)) (pss_one (ps_ret (pe_ix (ix_seqK (K := K) rfl) (pv 0) (pe_ix (ix_kdictK (K := K) (w := w) rfl rfl) (pe_glob (v := .ref T.a_PLACE_AT) rfl T.g_PLACE_AT rfl) (pv 1) (fun _ _ => rfl)) (fun _ _ => rfl)))) pss_nil)
    (pss_one (ps_ret (pe_tup (pa_cons (pe_ix (ix_seqK (K := K) rfl) (pv 0) pe_int (fun _ _ => rfl)) (pa_cons (pe_tup pa_nil) pa_nil))))))),
    (ss_seq (ss_asg (se_op sr_ix (se_var 0) se_int) (sg_name 1))
    (ss_seq (ss_if (st_test (se_inC T.j_PLACE_AT T.o_PLACE_AT (se_var 1))) (ss_ret (se_op sr_ix (se_var 0) (se_ixC T.d_PLACE_AT (se_var 1)))) ss_nil)
    (ss_ret (se_tup (sa_cons (se_op sr_ix (se_var 0) se_int) (sa_cons (se_tup sa_nil) sa_nil))))))⟩
theorem ok_leaves_of (T : Txt w K mg) (hT : Tbs T base) : FnOk P w K mg base CX0 16 T.leaves_of.f T.leaves_of.fd ["program", "graph", "place"] (spD K T.tb 3 (m_leaves_of T.C_Graph T.C_Lowering)) :=
  def_ok (k := 15) T.leaves_of.F sc_leaves_of fun A outer s H E hr => ⟨_, (pss_cons (ps_asg (pv 2) (pg_tup rfl (pgs_cons (pg_name (i := 3) sc_leaves_of.nd rfl (Or.inr rfl)) (pgs_cons (pg_name (i := 4) sc_leaves_of.nd rfl (Or.inr rfl)) pgs_nil))))
    (pss_cons (ps_set (i := 5) sc_leaves_of.nd rfl (Or.inl rfl) (pe_callK (ok_kind_at T hT) (hr.mono (by omega)) rfl T.kind_at.g T.kind_at.F.kp T.kind_at.b pass0 (pa_cons (pv 2) pa_nil) (pk_cons (pe_ix (ix_seqK (K := K) rfl) (pv 0) pe_int (fun _ _ => rfl)) (pk_cons (pe_fldK (K := K) rfl (pv 1) rfl) pk_nil))))
    (pss_one (ps_ret (pe_callTy (cr_tupK (K := K) rfl) rfl T.z_tuple PyProof.Rows.boot_tuple (pa_cons (pe_lc (own := [("path", 6)]) (tt := tYes) rfl sc_leaves_of.nd (pi_tupK (K := K) rfl (pe_call (ok_leaves T hT 14) (hr.mono (by omega)) rfl T.leaves.g T.leaves.F.kp T.leaves.b .nil pass0 (pa_cons (pv 5) pa_nil))) (blkOk_by (N := ["program", "graph", "place", "variable", "steps", "kind", "path"]) (sc := defScope s_leaves_of) (by decide +kernel)) (fun _ _ _ _ _ => (pg_name (i := 6) sc_leaves_of.nd rfl (Or.inl rfl))) (fun _ _ _ _ _ => pts_nil) (fun _ _ _ _ _ => (pe_tup (pa_cons (pv 3) (pa_cons (pe_op (op_plusK (K := K) rfl) (pv 4) (pv 6)) pa_nil))))) pa_nil)))))),
    (ss_seq (ss_asg (se_var 2) (sg_tup (glen_cons (glen_cons glen_nil)) (sgs_cons (sg_name 3) (sgs_cons (sg_name 4) sgs_nil))))
    (ss_seq (ss_asg (se_callkw ar_kind_at (fun _ _ _ _ _ h g => g12_rel h g) (sa_cons (se_var 2) sa_nil) (sa_cons (se_op sr_ix (se_var 0) se_int) (sa_cons (se_fld T.cl_Graph T.na_Graph_kinds (se_var 1)) sa_nil))) (sg_name 5))
    (ss_ret (se_cb sc_tuple (sa_cons (se_lc smk_F (si_tup (se_call (ar_leaves 14) (sa_cons (se_var 5) sa_nil))) (sg_name 6) (by decide) st_yes (se_tup (sa_cons (se_var 3) (sa_cons (se_op (sr_plus (L := false)) (se_var 4) (se_var 6)) sa_nil)))) sa_nil)))))⟩
theorem ok_leaves_of_temporaries (T : Txt w K mg) (hT : Tbs T base) : FnOk P w K mg base CX0 17 T.leaves_of_temporaries.f T.leaves_of_temporaries.fd ["program", "graph", "names"] (spD K T.tb 3 (m_leaves_of_temporaries T.C_Graph T.C_Lowering)) :=
  def_ok (k := 16) T.leaves_of_temporaries.F sc_leaves_of_temporaries fun A outer s H E hr => ⟨_, (pss_one (ps_ret (pe_callTy (cr_tupK (K := K) rfl) rfl T.z_tuple PyProof.Rows.boot_tuple (pa_cons (pe_lc2 (own := [("name", 3), ("leaf", 4)]) (vs1 := [4]) (tt := tYes) (tt1 := tYes) rfl sc_leaves_of_temporaries.nd (Lv.pi_seqK (K := K) rfl (pv 2)) (blkOk_by (N := ["program", "graph", "names", "name", "leaf"]) (sc := defScope s_leaves_of_temporaries) (by decide +kernel)) (by decide) (fun _ _ _ _ _ => (pg_name (i := 3) sc_leaves_of_temporaries.nd rfl (Or.inl rfl))) (fun _ _ _ _ _ => pts_nil) (fun _ _ _ _ _ => (pi_tupK (K := K) rfl (pe_call (ok_leaves_of T hT) (hr.mono (by omega)) rfl T.leaves_of.g T.leaves_of.F.kp T.leaves_of.b .nil pass0 (pa_cons (pv 0) (pa_cons (pv 1) (pa_cons (pe_tup (pa_cons (pv 3) (pa_cons (pe_tup pa_nil) pa_nil))) pa_nil)))))) (fun _ _ _ _ _ => (pg_name (i := 4) sc_leaves_of_temporaries.nd rfl (Or.inl rfl))) (fun _ _ _ _ _ => pts_nil) (fun _ _ _ _ _ => (pv 4))) pa_nil)))),
    (ss_ret (se_cb sc_tuple (sa_cons (se_lc2 smk_F (si_seq (se_var 2)) (sg_name 3) (by decide) st_yes (si_tup (se_call ar_leaves_of (sa_cons (se_var 0) (sa_cons (se_var 1) (sa_cons (se_tup (sa_cons (se_var 3) (sa_cons (se_tup sa_nil) sa_nil))) sa_nil))))) (sg_name 4) (by decide) st_yes (se_var 4)) sa_nil)))⟩
end
section
variable {P : Program} {w : World} {K : PySem.W.Frag} {mg : Str → Option Value} {base : Heap}
theorem ok_crossed_by (T : Txt w K mg) (hT : Tbs T base) : FnOk P w K mg base CX0 5 T.crossed_by.f T.crossed_by.fd ["program", "graph", "instruction"] (spD K T.tb 3 (m_crossed_by T.C_Graph T.C_Lowering)) :=
  def_ok (k := 4) T.crossed_by.F sc_crossed_by fun A outer s H E hr => ⟨_, (pss_cons (ps_if (pt_cmpR (op_ninCK (K := K) (w := w) rfl rfl T.i_PLACE_AT) (pe_ix (ix_seqK (K := K) rfl) (pv 2) pe_int (fun _ _ => rfl)) (pe_glob (v := .ref T.a_PLACE_AT) rfl T.g_PLACE_AT rfl) (by rfl)) (pss_one (ps_ret (pe_tup pa_nil))) pss_nil)
    (pss_cons (ps_set (i := 3) sc_crossed_by.nd rfl (Or.inl rfl) (pe_callK (ok_crossed T hT) (hr.mono (by omega)) rfl T.crossed.g T.crossed.F.kp T.crossed.b pass0 (pa_cons (pe_call (ok_place_of T hT) (hr.mono (by omega)) rfl T.place_of.g T.place_of.F.kp T.place_of.b .nil pass0 (pa_cons (pv 2) pa_nil)) pa_nil) (pk_cons (pe_ix (ix_seqK (K := K) rfl) (pv 0) pe_int (fun _ _ => rfl)) (pk_cons (pe_fldK (K := K) rfl (pv 1) rfl) pk_nil))))
    (pss_one (ps_ret (pe_ifExp (pt_cmpR op_isN (pv 3) pe_non (nomark _)) (pe_tup pa_nil) (pe_tup (pa_cons (pv 3) pa_nil))))))),
    (ss_seq (ss_if (st_test (se_ninC T.j_PLACE_AT T.o_PLACE_AT (se_op sr_ix (se_var 2) se_int))) (ss_ret (se_tup sa_nil)) ss_nil)
    (ss_seq (ss_asg (se_callkw ar_crossed (fun _ _ _ _ _ h g => g12_rel h g) (sa_cons (se_call ar_place_of (sa_cons (se_var 2) sa_nil)) sa_nil) (sa_cons (se_op sr_ix (se_var 0) se_int) (sa_cons (se_fld T.cl_Graph T.na_Graph_kinds (se_var 1)) sa_nil))) (sg_name 3))
    (ss_ret (se_if (st_test (se_op sr_isN (se_var 3) se_non)) (se_tup sa_nil) (se_tup (sa_cons (se_var 3) sa_nil))))))⟩
theorem ok_uses (T : Txt w K mg) (hT : Tbs T base) : FnOk P w K mg base CX0 18 T.uses.f T.uses.fd ["program", "graph", "point"] (spD K T.tb 3 (m_uses T.C_Graph T.C_Lowering)) :=
  def_ok (k := 17) T.uses.F sc_uses fun A outer s H E hr => ⟨_, (pss_cons (ps_set (i := 3) sc_uses.nd rfl (Or.inl rfl) (pe_ix (ix_seqK (K := K) rfl) (pe_fldK (K := K) rfl (pv 1) rfl) (pv 2) (fun _ _ => rfl)))
    (pss_cons (ps_set (i := 4) sc_uses.nd rfl (Or.inl rfl) (pe_call (ok_leaves_of_temporaries T hT) (hr.mono (by omega)) rfl T.leaves_of_temporaries.g T.leaves_of_temporaries.F.kp T.leaves_of_temporaries.b .nil pass0 (pa_cons (pv 0) (pa_cons (pv 1) (pa_cons (pe_call (ok_taken T hT) (hr.mono (by omega)) rfl T.taken.g T.taken.F.kp T.taken.b .nil pass0 (pa_cons (pv 3) pa_nil)) pa_nil)))))
    (pss_cons (ps_if (pt_cmpR (op_inK (K := K) rfl) (pe_ix (ix_seqK (K := K) rfl) (pv 3) pe_int (fun _ _ => rfl)) (pe_tup (pa_cons pe_str (pa_cons pe_str pa_nil))) (by rfl)) (pss_one (ps_set (i := 4) sc_uses.nd rfl (Or.inl rfl) (pe_op (op_plusK (K := K) rfl) (pv 4) (pe_call (ok_leaves_of T hT) (hr.mono (by omega)) rfl T.leaves_of.g T.leaves_of.F.kp T.leaves_of.b .nil pass0 (pa_cons (pv 0) (pa_cons (pv 1) (pa_cons (pe_call (ok_place_of T hT) (hr.mono (by omega)) rfl T.place_of.g T.place_of.F.kp T.place_of.b .nil pass0 (pa_cons (pv 3) pa_nil)) pa_nil))))))) pss_nil)
    (pss_one (ps_ret (pe_op (op_plusK (K := K) rfl) (pv 4) (pe_call (ok_crossed_by T hT) (hr.mono (by omega)) rfl T.crossed_by.g T.crossed_by.F.kp T.crossed_by.b .nil pass0 (pa_cons (pv 0) (pa_cons (pv 1) (pa_cons (pv 3) pa_nil)))))))))),
    (ss_seq (ss_asg (se_op sr_ix (se_fld T.cl_Graph T.na_Graph_points (se_var 1)) (se_var 2)) (sg_name 3))
    (ss_seq (ss_asg (se_call ar_leaves_of_temporaries (sa_cons (se_var 0) (sa_cons (se_var 1) (sa_cons (se_call ar_taken (sa_cons (se_var 3) sa_nil)) sa_nil)))) (sg_name 4))
    (ss_seq (ss_if (st_test (se_op (sr_in (n := false)) (se_op sr_ix (se_var 3) se_int) (se_tup (sa_cons se_str (sa_cons se_str sa_nil))))) (ss_asg (se_op (sr_plus (L := false)) (se_var 4) (se_call ar_leaves_of (sa_cons (se_var 0) (sa_cons (se_var 1) (sa_cons (se_call ar_place_of (sa_cons (se_var 3) sa_nil)) sa_nil))))) (sg_name 4)) ss_nil)
    (ss_ret (se_op (sr_plus (L := false)) (se_var 4) (se_call ar_crossed_by (sa_cons (se_var 0) (sa_cons (se_var 1) (sa_cons (se_var 3) sa_nil)))))))))⟩
theorem ok_clears (T : Txt w K mg) (hT : Tbs T base) : FnOk P w K mg base CX0 18 T.clears.f T.clears.fd ["program", "graph", "point"] (spD K T.tb 3 (m_clears T.C_Graph T.C_Lowering)) :=
  def_ok (k := 17) T.clears.F sc_clears fun A outer s H E hr => ⟨_, (pss_cons (ps_set (i := 3) sc_clears.nd rfl (Or.inl rfl) (pe_ix (ix_seqK (K := K) rfl) (pe_fldK (K := K) rfl (pv 1) rfl) (pv 2) (fun _ _ => rfl)))
    (pss_cons (ps_set (i := 4) sc_clears.nd rfl (Or.inl rfl) (pe_call (ok_leaves_of_temporaries T hT) (hr.mono (by omega)) rfl T.leaves_of_temporaries.g T.leaves_of_temporaries.F.kp T.leaves_of_temporaries.b .nil pass0 (pa_cons (pv 0) (pa_cons (pv 1) (pa_cons (pe_call (ok_taken T hT) (hr.mono (by omega)) rfl T.taken.g T.taken.F.kp T.taken.b .nil pass0 (pa_cons (pv 3) pa_nil)) pa_nil)))))
    (pss_cons (ps_if (pt_cmpR (op_inK (K := K) rfl) (pe_ix (ix_seqK (K := K) rfl) (pv 3) pe_int (fun _ _ => rfl)) (pe_tup (pa_cons pe_str (pa_cons pe_str (pa_cons pe_str (pa_cons pe_str pa_nil))))) (by rfl)) (pss_one (ps_set (i := 4) sc_clears.nd rfl (Or.inl rfl) (pe_op (op_plusK (K := K) rfl) (pv 4) (pe_call (ok_leaves_of T hT) (hr.mono (by omega)) rfl T.leaves_of.g T.leaves_of.F.kp T.leaves_of.b .nil pass0 (pa_cons (pv 0) (pa_cons (pv 1) (pa_cons (pe_call (ok_place_of T hT) (hr.mono (by omega)) rfl T.place_of.g T.place_of.F.kp T.place_of.b .nil pass0 (pa_cons (pv 3) pa_nil)) pa_nil))))))) pss_nil)
    (pss_one (ps_ret (pv 4)))))),
    (ss_seq (ss_asg (se_op sr_ix (se_fld T.cl_Graph T.na_Graph_points (se_var 1)) (se_var 2)) (sg_name 3))
    (ss_seq (ss_asg (se_call ar_leaves_of_temporaries (sa_cons (se_var 0) (sa_cons (se_var 1) (sa_cons (se_call ar_taken (sa_cons (se_var 3) sa_nil)) sa_nil)))) (sg_name 4))
    (ss_seq (ss_if (st_test (se_op (sr_in (n := false)) (se_op sr_ix (se_var 3) se_int) (se_tup (sa_cons se_str (sa_cons se_str (sa_cons se_str (sa_cons se_str sa_nil))))))) (ss_asg (se_op (sr_plus (L := false)) (se_var 4) (se_call ar_leaves_of (sa_cons (se_var 0) (sa_cons (se_var 1) (sa_cons (se_call ar_place_of (sa_cons (se_var 3) sa_nil)) sa_nil))))) (sg_name 4)) ss_nil)
    (ss_ret (se_var 4)))))⟩
theorem ok_access (T : Txt w K mg) (hT : Tbs T base) : FnOk P w K mg base CX0 2 T.access.f T.access.fd ["program", "graph", "point"] (spD K T.tb 3 (m_access T.C_Graph T.C_Lowering)) :=
  def_ok (k := 1) T.access.F sc_access fun A outer s H E hr => ⟨_, (pss_cons (ps_set (i := 3) sc_access.nd rfl (Or.inl rfl) (pe_ix (ix_seqK (K := K) rfl) (pe_fldK (K := K) rfl (pv 1) rfl) (pv 2) (fun _ _ => rfl)))
    (pss_cons (ps_set (i := 4) sc_access.nd rfl (Or.inl rfl) (pe_ix (ix_seqK (K := K) rfl) (pv 3) pe_int (fun _ _ => rfl)))
    (pss_cons (ps_if (pt_cmpR (op_eqAK (K := K) rfl hr.units) (pv 4) pe_str (nomark _)) (pss_cons (ps_set (i := 5) sc_access.nd rfl (Or.inl rfl) (pe_ifExp (pt_cmpR (op_eqAK (K := K) rfl hr.units) (pe_ix (ix_seqK (K := K) rfl) (pv 3) pe_int (fun _ _ => rfl)) pe_str (nomark _)) pe_str pe_str))
    (pss_one (ps_ret (pe_tup (pa_cons (pv 5) (pa_cons (pe_call (ok_place_of T hT) (hr.mono (by omega)) rfl T.place_of.g T.place_of.F.kp T.place_of.b .nil pass0 (pa_cons (pv 3) pa_nil)) pa_nil)))))) pss_nil)
    (pss_cons (ps_if (pt_cmpR (op_inCK (K := K) (w := w) rfl rfl T.i_ACCESS_MODES) (pv 4) (pe_glob (v := .ref T.a_ACCESS_MODES) rfl T.g_ACCESS_MODES rfl) (by rfl)) (pss_one (ps_ret (pe_tup (pa_cons (pe_ix (ix_kdictK (K := K) (w := w) rfl rfl) (pe_glob (v := .ref T.a_ACCESS_MODES) rfl T.g_ACCESS_MODES rfl) (pv 4) (fun _ _ => rfl)) (pa_cons (pe_call (ok_place_of T hT) (hr.mono (by omega)) rfl T.place_of.g T.place_of.F.kp T.place_of.b .nil pass0 (pa_cons (pv 3) pa_nil)) pa_nil))))) pss_nil)
    (pss_one (ps_ret pe_non)))))),
    (ss_seq (ss_asg (se_op sr_ix (se_fld T.cl_Graph T.na_Graph_points (se_var 1)) (se_var 2)) (sg_name 3))
    (ss_seq (ss_asg (se_op sr_ix (se_var 3) se_int) (sg_name 4))
    (ss_seq (ss_if (st_test (se_op sr_eq (se_var 4) se_str)) (ss_seq (ss_asg (se_if (st_test (se_op sr_eq (se_op sr_ix (se_var 3) se_int) se_str)) se_str se_str) (sg_name 5))
    (ss_ret (se_tup (sa_cons (se_var 5) (sa_cons (se_call ar_place_of (sa_cons (se_var 3) sa_nil)) sa_nil))))) ss_nil)
    (ss_seq (ss_if (st_test (se_inC T.j_ACCESS_MODES T.o_ACCESS_MODES (se_var 4))) (ss_ret (se_tup (sa_cons (se_ixC T.d_ACCESS_MODES (se_var 4)) (sa_cons (se_call ar_place_of (sa_cons (se_var 3) sa_nil)) sa_nil)))) ss_nil)
    (ss_ret se_non)))))⟩
theorem ok_pairs_between (T : Txt w K mg) (hT : Tbs T base) : FnOk P w K mg base CX0 17 T.pairs_between.f T.pairs_between.fd ["program", "graph", "source", "target"] (spD K T.tb 4 (m_pairs_between T.C_Graph T.C_Lowering)) :=
  def_ok (k := 16) T.pairs_between.F sc_pairs_between fun A outer s H E hr => ⟨_, (pss_one (ps_ret (Lv.pe_tupZipK (K := K) rfl rfl (by rfl) T.z_tuple (by rfl) T.z_zip (pa_cons (pe_call (ok_leaves_of T hT) (hr.mono (by omega)) rfl T.leaves_of.g T.leaves_of.F.kp T.leaves_of.b .nil pass0 (pa_cons (pv 0) (pa_cons (pv 1) (pa_cons (pv 2) pa_nil)))) (pa_cons (pe_call (ok_leaves_of T hT) (hr.mono (by omega)) rfl T.leaves_of.g T.leaves_of.F.kp T.leaves_of.b .nil pass0 (pa_cons (pv 0) (pa_cons (pv 1) (pa_cons (pv 3) pa_nil)))) pa_nil))))),
    (ss_ret (se_tupZip (sa_cons (se_call ar_leaves_of (sa_cons (se_var 0) (sa_cons (se_var 1) (sa_cons (se_var 2) sa_nil)))) (sa_cons (se_call ar_leaves_of (sa_cons (se_var 0) (sa_cons (se_var 1) (sa_cons (se_var 3) sa_nil)))) sa_nil))))⟩
theorem ok_pairs_into (T : Txt w K mg) (hT : Tbs T base) : FnOk P w K mg base CX0 18 T.pairs_into.f T.pairs_into.fd ["program", "graph", "instruction"] (spD K T.tb 3 (m_pairs_into T.C_Graph T.C_Lowering)) :=
  def_ok (k := 17) T.pairs_into.F sc_pairs_into fun A outer s H E hr => ⟨_, (pss_cons (ps_asg (pv 2) (pg_tup rfl (pgs_cons (pg_name (i := 3) sc_pairs_into.nd rfl (Or.inl rfl)) (pgs_cons (pg_name (i := 4) sc_pairs_into.nd rfl (Or.inl rfl)) (pgs_cons (pg_name (i := 5) sc_pairs_into.nd rfl (Or.inl rfl)) (pgs_cons (pg_name (i := 6) sc_pairs_into.nd rfl (Or.inl rfl)) pgs_nil))))))
    (pss_cons (ps_if (pt_cmpR (op_ninK (K := K) rfl) (pv 5) (pe_tup (pa_cons pe_str (pa_cons pe_str pa_nil))) (by rfl)) (pss_one (ps_ret (pe_tup pa_nil))) pss_nil)
    (pss_cons (ps_set (i := 7) sc_pairs_into.nd rfl (Or.inl rfl) (pe_lst pa_nil))
    (pss_cons (ps_for PassesOwn.never rfl (pi_enumTK (K := K) rfl (by rfl) T.z_enumerate (pa_cons (pv 6) pa_nil)) (pg_tup rfl (pgs_cons (pg_name (i := 8) sc_pairs_into.nd rfl (Or.inl rfl)) (pgs_cons (pg_name (i := 9) sc_pairs_into.nd rfl (Or.inl rfl)) pgs_nil))) (pss_cons (ps_set (i := 10) sc_pairs_into.nd rfl (Or.inl rfl) (pe_ifExp (pt_cmpR (op_eqAK (K := K) rfl hr.units) (pv 5) pe_str (nomark _)) pe_str (pv 8)))
    (pss_one (ps_expr (pe_bm PySem.F.plainAttrs_list PySem.F.slot_list_extend PySem.F.type_list_extend (mt_extendTK (K := K) rfl) (pv 7) (pa_cons (pe_call (ok_pairs_between T hT) (hr.mono (by omega)) rfl T.pairs_between.g T.pairs_between.F.kp T.pairs_between.b .nil pass0 (pa_cons (pv 0) (pa_cons (pv 1) (pa_cons (pe_tup (pa_cons (pv 9) (pa_cons (pe_tup pa_nil) pa_nil))) (pa_cons (pe_tup (pa_cons (pv 4) (pa_cons (pe_tup (pa_cons (pv 10) pa_nil)) pa_nil))) pa_nil))))) pa_nil))))))
    (pss_one (ps_ret (pe_callTy (cr_tupK (K := K) rfl) rfl T.z_tuple PyProof.Rows.boot_tuple (pa_cons (pv 7) pa_nil)))))))),
    (ss_seq (ss_asg (se_var 2) (sg_tup (glen_cons (glen_cons (glen_cons (glen_cons glen_nil)))) (sgs_cons (sg_name 3) (sgs_cons (sg_name 4) (sgs_cons (sg_name 5) (sgs_cons (sg_name 6) sgs_nil))))))
    (ss_seq (ss_if (st_test (se_op (sr_in (n := true)) (se_var 5) (se_tup (sa_cons se_str (sa_cons se_str sa_nil))))) (ss_ret (se_tup sa_nil)) ss_nil)
    (ss_seq (ss_asg (se_lstL sa_nil) (sg_name 7))
    (ss_seq (ss_for (si_enumT (sa_cons (se_var 6) sa_nil)) (sg_tup (glen_cons (glen_cons glen_nil)) (sgs_cons (sg_name 8) (sgs_cons (sg_name 9) sgs_nil))) (ss_seq (ss_asg (se_if (st_test (se_op sr_eq (se_var 5) se_str)) se_str (se_var 8)) (sg_name 10))
    (ss_drop (se_bm sm_extendT (se_var 7) (sa_cons (se_call ar_pairs_between (sa_cons (se_var 0) (sa_cons (se_var 1) (sa_cons (se_tup (sa_cons (se_var 9) (sa_cons (se_tup sa_nil) sa_nil))) (sa_cons (se_tup (sa_cons (se_var 4) (sa_cons (se_tup (sa_cons (se_var 10) sa_nil)) sa_nil))) sa_nil))))) sa_nil)))))
    (ss_ret (se_cb sc_tuple (sa_cons (se_var 7) sa_nil)))))))⟩
end
section
variable {P : Program} {w : World} {K : PySem.W.Frag} {mg : Str → Option Value} {base : Heap}
theorem ok_pairs_through (T : Txt w K mg) (hT : Tbs T base) : FnOk P w K mg base CX0 18 T.pairs_through.f T.pairs_through.fd ["program", "graph", "instruction"] (spD K T.tb 3 (m_pairs_through T.C_Graph T.C_Lowering)) :=
  def_ok (k := 17) T.pairs_through.F sc_pairs_through fun A outer s H E hr => ⟨_, (pss_cons (ps_asg (pv 2) (pg_tup rfl (pgs_cons (pg_name (i := 3) sc_pairs_through.nd rfl (Or.inr rfl)) (pgs_cons (pg_name (i := 4) sc_pairs_through.nd rfl (Or.inl rfl)) (pgs_cons (pg_name (i := 5) sc_pairs_through.nd rfl (Or.inl rfl)) (pgs_cons (pg_name (i := 6) sc_pairs_through.nd rfl (Or.inl rfl)) pgs_nil))))))
    (pss_cons (ps_asg (pe_call (ok_function_named T hT) (hr.mono (by omega)) rfl T.function_named.g T.function_named.F.kp T.function_named.b .nil pass0 (pa_cons (pv 0) (pa_cons (pv 5) pa_nil))) (pg_tup rfl (pgs_cons (pg_name (i := 7) sc_pairs_through.nd rfl (Or.inl rfl)) (pgs_cons (pg_name (i := 8) sc_pairs_through.nd rfl (Or.inl rfl)) (pgs_cons (pg_name (i := 7) sc_pairs_through.nd rfl (Or.inl rfl)) (pgs_cons (pg_name (i := 9) sc_pairs_through.nd rfl (Or.inr rfl)) (pgs_cons (pg_name (i := 7) sc_pairs_through.nd rfl (Or.inl rfl)) pgs_nil)))))))
    (pss_cons (ps_setLc (i := 10) (own := [("part", 12), ("parameter", 13), ("_", 7)]) rfl sc_pairs_through.nd rfl rfl (sw_true rfl rfl rfl (by decide +kernel)) (Lv.pi_zipAK (K := K) rfl (by rfl) T.z_zip (pa_cons (pv 8) (pa_cons (pv 6) pa_nil))) (blkOk_by (N := ["program", "graph", "instruction", "word", "temporary", "name", "parts", "_", "parameters", "sources", "carried", "given", "part", "parameter", "leaf", "end"]) (sc := defScope s_pairs_through) (by decide +kernel)) (fun _ _ _ _ _ => (pg_tup rfl (pgs_cons (pg_tup rfl (pgs_cons (pg_name (i := 13) sc_pairs_through.nd rfl (Or.inl rfl)) (pgs_cons (pg_name (i := 7) sc_pairs_through.nd rfl (Or.inl rfl)) pgs_nil))) (pgs_cons (pg_name (i := 12) sc_pairs_through.nd rfl (Or.inl rfl)) pgs_nil)))) (fun _ _ _ _ _ => pts_one (PW.pt (pw_or (pt_cmpR (op_eqAK (K := K) rfl hr.units) (pv 3) pe_str (nomark _)) (pw_or1 (pt_cmpR (op_inK (K := K) rfl) (pv 13) (pv 9) (by rfl)))))) (fun _ _ _ _ _ => (pv 12)))
    (pss_cons (ps_set (i := 11) sc_pairs_through.nd rfl (Or.inr rfl) (pe_call (ok_leaves_of T hT) (hr.mono (by omega)) rfl T.leaves_of.g T.leaves_of.F.kp T.leaves_of.b .nil pass0 (pa_cons (pv 0) (pa_cons (pv 1) (pa_cons (pe_tup (pa_cons (pv 4) (pa_cons (pe_tup pa_nil) pa_nil))) pa_nil)))))
    (pss_one (ps_ret (pe_callTy (cr_tupK (K := K) rfl) rfl T.z_tuple PyProof.Rows.boot_tuple (pa_cons (pe_lc2 (own := [("leaf", 14), ("end", 15)]) (vs1 := [15]) (tt := tYes) (tt1 := tYes) rfl sc_pairs_through.nd (pi_tupK (K := K) rfl (pe_call (ok_leaves_of_temporaries T hT) (hr.mono (by omega)) rfl T.leaves_of_temporaries.g T.leaves_of_temporaries.F.kp T.leaves_of_temporaries.b .nil pass0 (pa_cons (pv 0) (pa_cons (pv 1) (pa_cons (pv 10) pa_nil))))) (blkOk_by (N := ["program", "graph", "instruction", "word", "temporary", "name", "parts", "_", "parameters", "sources", "carried", "given", "part", "parameter", "leaf", "end"]) (sc := defScope s_pairs_through) (by decide +kernel)) (by decide) (fun _ _ _ _ _ => (pg_name (i := 14) sc_pairs_through.nd rfl (Or.inl rfl))) (fun _ _ _ _ _ => pts_nil) (fun _ _ _ _ _ => (pi_tupK (K := K) rfl (pv 11))) (fun _ _ _ _ _ => (pg_name (i := 15) sc_pairs_through.nd rfl (Or.inl rfl))) (fun _ _ _ _ _ => pts_nil) (fun _ _ _ _ _ => (pe_tup (pa_cons (pv 14) (pa_cons (pv 15) pa_nil))))) pa_nil)))))))),
    (ss_seq (ss_asg (se_var 2) (sg_tup (glen_cons (glen_cons (glen_cons (glen_cons glen_nil)))) (sgs_cons (sg_name 3) (sgs_cons (sg_name 4) (sgs_cons (sg_name 5) (sgs_cons (sg_name 6) sgs_nil))))))
    (ss_seq (ss_asg (se_call ar_function_named (sa_cons (se_var 0) (sa_cons (se_var 5) sa_nil))) (sg_tup (glen_cons (glen_cons (glen_cons (glen_cons (glen_cons glen_nil))))) (sgs_cons (sg_name 7) (sgs_cons (sg_name 8) (sgs_cons (sg_name 7) (sgs_cons (sg_name 9) (sgs_cons (sg_name 7) sgs_nil)))))))
    (ss_seq (ss_asg (se_lc smk_F (si_zipT (sa_cons (se_var 8) (sa_cons (se_var 6) sa_nil))) (sg_tup (glen_cons (glen_cons glen_nil)) (sgs_cons (sg_tup (glen_cons (glen_cons glen_nil)) (sgs_cons (sg_name 13) (sgs_cons (sg_name 7) sgs_nil))) (sgs_cons (sg_name 12) sgs_nil))) (by decide) (st_or (st_test (se_op sr_eq (se_var 3) se_str)) (st_test (se_op (sr_in (n := false)) (se_var 13) (se_var 9)))) (se_var 12)) (sg_name 10))
    (ss_seq (ss_asg (se_call ar_leaves_of (sa_cons (se_var 0) (sa_cons (se_var 1) (sa_cons (se_tup (sa_cons (se_var 4) (sa_cons (se_tup sa_nil) sa_nil))) sa_nil)))) (sg_name 11))
    (ss_ret (se_cb sc_tuple (sa_cons (se_lc2 smk_F (si_tup (se_call ar_leaves_of_temporaries (sa_cons (se_var 0) (sa_cons (se_var 1) (sa_cons (se_var 10) sa_nil))))) (sg_name 14) (by decide) st_yes (si_tup (se_var 11)) (sg_name 15) (by decide) st_yes (se_tup (sa_cons (se_var 14) (sa_cons (se_var 15) sa_nil)))) sa_nil)))))))⟩
theorem ok_moves (T : Txt w K mg) (hT : Tbs T base) : FnOk P w K mg base CX0 19 T.moves.f T.moves.fd ["program", "graph", "point"] (spD K T.tb 3 (m_moves T.C_Graph T.C_Lowering)) :=
  def_ok (k := 18) T.moves.F sc_moves fun A outer s H E hr => ⟨_, (pss_cons (ps_set (i := 3) sc_moves.nd rfl (Or.inr rfl) (pe_ix (ix_seqK (K := K) rfl) (pe_fldK (K := K) rfl (pv 1) rfl) (pv 2) (fun _ _ => rfl)))
    (pss_cons (ps_set (i := 4) sc_moves.nd rfl (Or.inl rfl) (pe_ix (ix_seqK (K := K) rfl) (pv 3) pe_int (fun _ _ => rfl)))
    (pss_cons (ps_if (pt_cmpR (op_inK (K := K) rfl) (pv 4) (pe_tup (pa_cons pe_str (pa_cons pe_str pa_nil))) (by rfl)) (pss_one (ps_ret (pe_call (ok_pairs_between T hT) (hr.mono (by omega)) rfl T.pairs_between.g T.pairs_between.F.kp T.pairs_between.b .nil pass0 (pa_cons (pv 0) (pa_cons (pv 1) (pa_cons (pe_call (ok_place_of T hT) (hr.mono (by omega)) rfl T.place_of.g T.place_of.F.kp T.place_of.b .nil pass0 (pa_cons (pv 3) pa_nil)) (pa_cons (pe_tup (pa_cons (pe_ix (ix_seqK (K := K) rfl) (pv 3) pe_int (fun _ _ => rfl)) (pa_cons (pe_tup pa_nil) pa_nil))) pa_nil))))))) pss_nil)
    (pss_cons (ps_if (pt_cmpR (op_inK (K := K) rfl) (pv 4) (pe_tup (pa_cons pe_str (pa_cons pe_str pa_nil))) (by rfl)) (pss_one (ps_ret (pe_call (ok_pairs_between T hT) (hr.mono (by omega)) rfl T.pairs_between.g T.pairs_between.F.kp T.pairs_between.b .nil pass0 (pa_cons (pv 0) (pa_cons (pv 1) (pa_cons (pe_tup (pa_cons (pe_ix (ix_seqK (K := K) rfl) (pv 3) pe_int (fun _ _ => rfl)) (pa_cons (pe_tup pa_nil) pa_nil))) (pa_cons (pe_call (ok_place_of T hT) (hr.mono (by omega)) rfl T.place_of.g T.place_of.F.kp T.place_of.b .nil pass0 (pa_cons (pv 3) pa_nil)) pa_nil))))))) pss_nil)
    (pss_cons (ps_if (pt_cmpR (op_eqAK (K := K) rfl hr.units) (pv 4) pe_str (nomark _)) (pss_one (ps_ret (pe_callTy (cr_tupK (K := K) rfl) rfl T.z_tuple PyProof.Rows.boot_tuple (pa_cons (pe_lc (own := [("leaf", 5)]) (tt := tYes) rfl sc_moves.nd (pi_tupK (K := K) rfl (pe_call (ok_crossed_by T hT) (hr.mono (by omega)) rfl T.crossed_by.g T.crossed_by.F.kp T.crossed_by.b .nil pass0 (pa_cons (pv 0) (pa_cons (pv 1) (pa_cons (pv 3) pa_nil))))) (blkOk_by (N := ["program", "graph", "point", "instruction", "word", "leaf"]) (sc := defScope s_moves) (by decide +kernel)) (fun _ _ _ _ _ => (pg_name (i := 5) sc_moves.nd rfl (Or.inl rfl))) (fun _ _ _ _ _ => pts_nil) (fun _ _ _ _ _ => (pe_tup (pa_cons (pv 5) (pa_cons (pe_tup (pa_cons (pe_ix (ix_seqK (K := K) rfl) (pv 3) pe_int (fun _ _ => rfl)) (pa_cons (pe_tup pa_nil) pa_nil))) pa_nil))))) pa_nil)))) pss_nil)
    (pss_cons (ps_if (pt_cmpR (op_eqAK (K := K) rfl hr.units) (pv 4) pe_str (nomark _)) (pss_one (ps_ret (pe_call (ok_pairs_into T hT) (hr.mono (by omega)) rfl T.pairs_into.g T.pairs_into.F.kp T.pairs_into.b .nil pass0 (pa_cons (pv 0) (pa_cons (pv 1) (pa_cons (pv 3) pa_nil)))))) pss_nil)
    (pss_cons (ps_if (pt_cmpR (op_inK (K := K) rfl) (pv 4) (pe_tup (pa_cons pe_str (pa_cons pe_str pa_nil))) (by rfl)) (pss_one (ps_ret (pe_call (ok_pairs_through T hT) (hr.mono (by omega)) rfl T.pairs_through.g T.pairs_through.F.kp T.pairs_through.b .nil pass0 (pa_cons (pv 0) (pa_cons (pv 1) (pa_cons (pv 3) pa_nil)))))) pss_nil)
    (pss_one (ps_ret (pe_tup pa_nil)))))))))),
    (ss_seq (ss_asg (se_op sr_ix (se_fld T.cl_Graph T.na_Graph_points (se_var 1)) (se_var 2)) (sg_name 3))
    (ss_seq (ss_asg (se_op sr_ix (se_var 3) se_int) (sg_name 4))
    (ss_seq (ss_if (st_test (se_op (sr_in (n := false)) (se_var 4) (se_tup (sa_cons se_str (sa_cons se_str sa_nil))))) (ss_ret (se_call ar_pairs_between (sa_cons (se_var 0) (sa_cons (se_var 1) (sa_cons (se_call ar_place_of (sa_cons (se_var 3) sa_nil)) (sa_cons (se_tup (sa_cons (se_op sr_ix (se_var 3) se_int) (sa_cons (se_tup sa_nil) sa_nil))) sa_nil)))))) ss_nil)
    (ss_seq (ss_if (st_test (se_op (sr_in (n := false)) (se_var 4) (se_tup (sa_cons se_str (sa_cons se_str sa_nil))))) (ss_ret (se_call ar_pairs_between (sa_cons (se_var 0) (sa_cons (se_var 1) (sa_cons (se_tup (sa_cons (se_op sr_ix (se_var 3) se_int) (sa_cons (se_tup sa_nil) sa_nil))) (sa_cons (se_call ar_place_of (sa_cons (se_var 3) sa_nil)) sa_nil)))))) ss_nil)
    (ss_seq (ss_if (st_test (se_op sr_eq (se_var 4) se_str)) (ss_ret (se_cb sc_tuple (sa_cons (se_lc smk_F (si_tup (se_call ar_crossed_by (sa_cons (se_var 0) (sa_cons (se_var 1) (sa_cons (se_var 3) sa_nil))))) (sg_name 5) (by decide) st_yes (se_tup (sa_cons (se_var 5) (sa_cons (se_tup (sa_cons (se_op sr_ix (se_var 3) se_int) (sa_cons (se_tup sa_nil) sa_nil))) sa_nil)))) sa_nil))) ss_nil)
    (ss_seq (ss_if (st_test (se_op sr_eq (se_var 4) se_str)) (ss_ret (se_call ar_pairs_into (sa_cons (se_var 0) (sa_cons (se_var 1) (sa_cons (se_var 3) sa_nil))))) ss_nil)
    (ss_seq (ss_if (st_test (se_op (sr_in (n := false)) (se_var 4) (se_tup (sa_cons se_str (sa_cons se_str sa_nil))))) (ss_ret (se_call ar_pairs_through (sa_cons (se_var 0) (sa_cons (se_var 1) (sa_cons (se_var 3) sa_nil))))) ss_nil)
    (ss_ret (se_tup sa_nil)))))))))⟩
theorem ok_Graph_init (T : Txt w K mg) (hT : Tbs T base) : FnOk P w K mg base CX0 1 T.Graph___init__.f T.Graph___init__.fd ["self", "function"] (spD K T.tb 2 (m_Graph_init T.C_Graph T.C_Lowering)) :=
  def_ok (k := 0) T.Graph___init__.F sc_Graph___init__ fun A outer s H E hr => ⟨_, (pss_cons (ps_asg (pv 1) (pg_tup rfl (pgs_cons (pg_name (i := 2) sc_Graph___init__.nd rfl (Or.inl rfl)) (pgs_cons (pg_name (i := 3) sc_Graph___init__.nd rfl (Or.inl rfl)) (pgs_cons (pg_name (i := 4) sc_Graph___init__.nd rfl (Or.inl rfl)) (pgs_cons (pg_name (i := 5) sc_Graph___init__.nd rfl (Or.inl rfl)) (pgs_cons (pg_name (i := 6) sc_Graph___init__.nd rfl (Or.inl rfl)) pgs_nil)))))))
    (pss_cons (ps_fldK (K := K) rfl (pv 0) (pv 2) rfl)
    (pss_cons (ps_fldK (K := K) rfl (pv 0) (pe_callTy (cr_tupK (K := K) rfl) rfl T.z_tuple PyProof.Rows.boot_tuple (pa_cons (pe_lc (own := [("parameter", 7), ("_", 6)]) (tt := tYes) rfl sc_Graph___init__.nd (pi_tupK (K := K) rfl (pv 3)) (blkOk_by (N := ["self", "function", "name", "parameters", "result", "sources", "_", "parameter", "kind"]) (sc := defScope s_Graph___init__) (by decide +kernel)) (fun _ _ _ _ _ => (pg_tup rfl (pgs_cons (pg_name (i := 7) sc_Graph___init__.nd rfl (Or.inl rfl)) (pgs_cons (pg_name (i := 6) sc_Graph___init__.nd rfl (Or.inl rfl)) pgs_nil)))) (fun _ _ _ _ _ => pts_nil) (fun _ _ _ _ _ => (pv 7))) pa_nil)) rfl)
    (pss_cons (ps_fldK (K := K) rfl (pv 0) (pv 5) rfl)
    (pss_cons (ps_fldK (K := K) rfl (pv 0) (pv 4) rfl)
    (pss_cons (ps_fldK (K := K) rfl (pv 0) (pe_dc (own := [("parameter", 7), ("kind", 8)]) (tt := tYes) rfl sc_Graph___init__.nd (pi_tupK (K := K) rfl (pv 3)) (blkOk_by (N := ["self", "function", "name", "parameters", "result", "sources", "_", "parameter", "kind"]) (sc := defScope s_Graph___init__) (by decide +kernel)) (fun _ _ _ _ _ => (pg_tup rfl (pgs_cons (pg_name (i := 7) sc_Graph___init__.nd rfl (Or.inl rfl)) (pgs_cons (pg_name (i := 8) sc_Graph___init__.nd rfl (Or.inl rfl)) pgs_nil)))) (fun _ _ _ _ _ => pts_nil) (fun _ _ _ _ _ => (pv 7)) (fun _ _ _ _ _ => (pv 8))) rfl)
    (pss_cons (ps_fldK (K := K) rfl (pv 0) (pe_lst pa_nil) rfl)
    (pss_one (ps_fldK (K := K) rfl (pv 0) (pe_lst pa_nil) rfl))))))))),
    (ss_seq (ss_asg (se_var 1) (sg_tup (glen_cons (glen_cons (glen_cons (glen_cons (glen_cons glen_nil))))) (sgs_cons (sg_name 2) (sgs_cons (sg_name 3) (sgs_cons (sg_name 4) (sgs_cons (sg_name 5) (sgs_cons (sg_name 6) sgs_nil)))))))
    (ss_seq (ss_fld T.cl_Graph T.na_Graph_name (se_var 0) (se_var 2))
    (ss_seq (ss_fld T.cl_Graph T.na_Graph_parameters (se_var 0) (se_cb sc_tuple (sa_cons (se_lc smk_F (si_tup (se_var 3)) (sg_tup (glen_cons (glen_cons glen_nil)) (sgs_cons (sg_name 7) (sgs_cons (sg_name 6) sgs_nil))) (by decide) st_yes (se_var 7)) sa_nil)))
    (ss_seq (ss_fld T.cl_Graph T.na_Graph_sources (se_var 0) (se_var 5))
    (ss_seq (ss_fld T.cl_Graph T.na_Graph_result (se_var 0) (se_var 4))
    (ss_seq (ss_fld T.cl_Graph T.na_Graph_kinds (se_var 0) (se_dc (si_tup (se_var 3)) (sg_tup (glen_cons (glen_cons glen_nil)) (sgs_cons (sg_name 7) (sgs_cons (sg_name 8) sgs_nil))) (by decide) st_yes (se_var 7) (se_var 8)))
    (ss_seq (ss_fld T.cl_Graph T.na_Graph_points (se_var 0) (se_lstL sa_nil))
    (ss_fld T.cl_Graph T.na_Graph_successors (se_var 0) (se_lstL sa_nil)))))))))⟩
theorem ok_Lowering_init (T : Txt w K mg) (hT : Tbs T base) : FnOk P w K mg base CX0 3 T.Lowering___init__.f T.Lowering___init__.fd ["self", "program", "function"] (spD K T.tb 3 (m_Lowering_init T.C_Graph T.C_Lowering)) :=
  def_ok (k := 2) T.Lowering___init__.F sc_Lowering___init__ fun A outer s H E hr => ⟨_, (pss_cons (ps_fldK (K := K) rfl (pv 0) (pv 1) rfl)
    (pss_cons (ps_fldK (K := K) rfl (pv 0) (pe_make T.mk_Graph (ok_Graph_init T hT) (hr.mono (by omega)) rfl T.g_Graph T.Graph___init__.b .nil pass0 (pa_cons (pv 2) pa_nil)) rfl)
    (pss_cons (ps_fldK (K := K) rfl (pv 0) (pe_callTy (cr_lstK (K := K) rfl) rfl T.z_list PyProof.Rows.boot_list (pa_cons (pe_fldK (K := K) rfl (pe_fldK (K := K) rfl (pv 0) rfl) rfl) pa_nil)) rfl)
    (pss_one (ps_fldK (K := K) rfl (pv 0) pe_int rfl))))),
    (ss_seq (ss_fld T.cl_Lowering T.na_Lowering_program (se_var 0) (se_var 1))
    (ss_seq (ss_fld T.cl_Lowering T.na_Lowering_graph (se_var 0) (se_make ar_Graph_init (sa_cons (se_var 2) sa_nil)))
    (ss_seq (ss_fld T.cl_Lowering T.na_Lowering_scope (se_var 0) (se_cb sc_listL (sa_cons (se_fld T.cl_Graph T.na_Graph_parameters (se_fld T.cl_Lowering T.na_Lowering_graph (se_var 0))) sa_nil)))
    (ss_fld T.cl_Lowering T.na_Lowering_temporaries (se_var 0) se_int))))⟩
theorem ok_Lowering_add_end (T : Txt w K mg) (hT : Tbs T base) : FnOk P w K mg base CX0 1 T.Lowering_add_end.f T.Lowering_add_end.fd ["self", "instruction"] (spD K T.tb 2 (m_Lowering_add_end T.C_Graph T.C_Lowering)) :=
  def_ok (k := 0) T.Lowering_add_end.F sc_Lowering_add_end fun A outer s H E hr => ⟨_, (pss_cons (ps_expr (pe_bm PySem.F.plainAttrs_list PySem.F.slot_list_append PySem.F.type_list_append mt_append (pe_fldK (K := K) rfl (pe_fldK (K := K) rfl (pv 0) rfl) rfl) (pa_cons (pv 1) pa_nil)))
    (pss_one (ps_expr (pe_bm PySem.F.plainAttrs_list PySem.F.slot_list_append PySem.F.type_list_append mt_append (pe_fldK (K := K) rfl (pe_fldK (K := K) rfl (pv 0) rfl) rfl) (pa_cons (pe_tup pa_nil) pa_nil))))),
    (ss_seq (ss_drop (se_bm sm_append (se_fld T.cl_Graph T.na_Graph_points (se_fld T.cl_Lowering T.na_Lowering_graph (se_var 0))) (sa_cons (se_var 1) sa_nil)))
    (ss_drop (se_bm sm_append (se_fld T.cl_Graph T.na_Graph_successors (se_fld T.cl_Lowering T.na_Lowering_graph (se_var 0))) (sa_cons (se_tup sa_nil) sa_nil))))⟩
theorem ok_Lowering_add_point (T : Txt w K mg) (hT : Tbs T base) : FnOk P w K mg base CX0 1 T.Lowering_add_point.f T.Lowering_add_point.fd ["self", "instruction"] (spD K T.tb 2 (m_Lowering_add_point T.C_Graph T.C_Lowering)) :=
  def_ok (k := 0) T.Lowering_add_point.F sc_Lowering_add_point fun A outer s H E hr => ⟨_, (pss_cons (ps_expr (pe_bm PySem.F.plainAttrs_list PySem.F.slot_list_append PySem.F.type_list_append mt_append (pe_fldK (K := K) rfl (pe_fldK (K := K) rfl (pv 0) rfl) rfl) (pa_cons (pv 1) pa_nil)))
    (pss_cons (ps_expr (pe_bm PySem.F.plainAttrs_list PySem.F.slot_list_append PySem.F.type_list_append mt_append (pe_fldK (K := K) rfl (pe_fldK (K := K) rfl (pv 0) rfl) rfl) (pa_cons (pe_tup (pa_cons (pe_callB (cr_lenK (K := K) rfl) rfl T.z_len PySem.boot_len (pa_cons (pe_fldK (K := K) rfl (pe_fldK (K := K) rfl (pv 0) rfl) rfl) pa_nil)) pa_nil)) pa_nil)))
    (pss_one (ps_ret (pe_op op_sub (pe_callB (cr_lenK (K := K) rfl) rfl T.z_len PySem.boot_len (pa_cons (pe_fldK (K := K) rfl (pe_fldK (K := K) rfl (pv 0) rfl) rfl) pa_nil)) pe_int))))),
    (ss_seq (ss_drop (se_bm sm_append (se_fld T.cl_Graph T.na_Graph_points (se_fld T.cl_Lowering T.na_Lowering_graph (se_var 0))) (sa_cons (se_var 1) sa_nil)))
    (ss_seq (ss_drop (se_bm sm_append (se_fld T.cl_Graph T.na_Graph_successors (se_fld T.cl_Lowering T.na_Lowering_graph (se_var 0))) (sa_cons (se_tup (sa_cons (se_cb sc_len (sa_cons (se_fld T.cl_Graph T.na_Graph_points (se_fld T.cl_Lowering T.na_Lowering_graph (se_var 0))) sa_nil)) sa_nil)) sa_nil)))
    (ss_ret (se_op sr_sub (se_cb sc_len (sa_cons (se_fld T.cl_Graph T.na_Graph_points (se_fld T.cl_Lowering T.na_Lowering_graph (se_var 0))) sa_nil)) se_int))))⟩
end
section
variable {P : Program} {w : World} {K : PySem.W.Frag} {mg : Str → Option Value} {base : Heap}
theorem ok_Lowering_add_drops (T : Txt w K mg) (hT : Tbs T base) : FnOk P w K mg base CX0 2 T.Lowering_add_drops.f T.Lowering_add_drops.fd ["self", "names"] (spD K T.tb 2 (m_Lowering_add_drops T.C_Graph T.C_Lowering)) :=
  def_ok (k := 1) T.Lowering_add_drops.F sc_Lowering_add_drops fun A outer s H E hr => ⟨_, (pss_one (ps_for PassesOwn.never rfl (pi_revK (K := K) rfl (by rfl) T.z_reversed (pv 1)) (pg_name (i := 2) sc_Lowering_add_drops.nd rfl (Or.inl rfl)) (pss_one (ps_expr (pe_meth (pv 0) T.cl_Lowering T.Lowering_add_point.m (ok_Lowering_add_point T hT) (hr.mono (by omega)) T.Lowering_add_point.b .nil pass0 (pa_cons (pe_tup (pa_cons pe_str (pa_cons (pv 2) pa_nil))) pa_nil)))))),
    (ss_for (si_rev (se_var 1)) (sg_name 2) (ss_drop (se_meth ar_Lowering_add_point (se_var 0) (sa_cons (se_tup (sa_cons se_str (sa_cons (se_var 2) sa_nil))) sa_nil))))⟩
theorem ok_Lowering_add_leave (T : Txt w K mg) (hT : Tbs T base) : FnOk P w K mg base CX0 3 T.Lowering_add_leave.f T.Lowering_add_leave.fd ["self", "temporary"] (spD K T.tb 2 (m_Lowering_add_leave T.C_Graph T.C_Lowering)) :=
  def_ok (k := 2) T.Lowering_add_leave.F sc_Lowering_add_leave fun A outer s H E hr => ⟨_, (pss_cons (ps_expr (pe_meth (pv 0) T.cl_Lowering T.Lowering_add_drops.m (ok_Lowering_add_drops T hT) (hr.mono (by omega)) T.Lowering_add_drops.b .nil pass0 (pa_cons (pe_fldK (K := K) rfl (pv 0) rfl) pa_nil)))
    (pss_one (ps_expr (pe_meth (pv 0) T.cl_Lowering T.Lowering_add_end.m (ok_Lowering_add_end T hT) (hr.mono (by omega)) T.Lowering_add_end.b .nil pass0 (pa_cons (pe_tup (pa_cons pe_str (pa_cons (pv 1) pa_nil))) pa_nil))))),
    (ss_seq (ss_drop (se_meth ar_Lowering_add_drops (se_var 0) (sa_cons (se_fld T.cl_Lowering T.na_Lowering_scope (se_var 0)) sa_nil)))
    (ss_drop (se_meth ar_Lowering_add_end (se_var 0) (sa_cons (se_tup (sa_cons se_str (sa_cons (se_var 1) sa_nil))) sa_nil))))⟩
theorem ok_instruction_for (T : Txt w K mg) (hT : Tbs T base) : FnOk P w K mg base CX0 31 T.instruction_for.f T.instruction_for.fd ["expression", "kind", "temporary", "parts"] (spD K T.tb 4 (m_instruction_for)) :=
  def_ok (k := 30) T.instruction_for.F sc_instruction_for fun A outer s H E hr => ⟨_, (pss_cons (ps_set (i := 4) sc_instruction_for.nd rfl (Or.inl rfl) (pe_ix (ix_seqK (K := K) rfl) (pv 0) pe_int (fun _ _ => rfl)))
    (pss_cons (ps_if (pt_cmpR (op_inK (K := K) rfl) (pv 4) (pe_tup (pa_cons pe_str (pa_cons pe_str (pa_cons pe_str (pa_cons pe_str pa_nil))))) (by rfl)) (pss_one (ps_ret (pe_tup (pa_cons pe_str (pa_cons (pv 2) (pa_cons (pv 0) pa_nil)))))) pss_nil)
    (pss_cons (ps_if (pt_cmpR (op_inK (K := K) rfl) (pv 4) (pe_tup (pa_cons pe_str (pa_cons pe_str (pa_cons pe_str pa_nil)))) (by rfl)) (pss_one (ps_ret (pe_tup (pa_cons pe_str (pa_cons (pv 2) (pa_cons (pv 4) (pa_cons (pv 3) pa_nil))))))) pss_nil)
    (pss_cons (ps_if (pt_cmpR (op_eqAK (K := K) rfl hr.units) (pv 4) pe_str (nomark _)) (pss_one (ps_ret (pe_tup (pa_cons pe_str (pa_cons (pv 2) (pa_cons (pe_ix (ix_seqK (K := K) rfl) (pv 0) pe_int (fun _ _ => rfl)) (pa_cons (pv 3) pa_nil))))))) pss_nil)
    (pss_cons (ps_if (pt_cmpR (op_eqAK (K := K) rfl hr.units) (pv 4) pe_str (nomark _)) (pss_one (ps_ret (pe_tup (pa_cons (pe_ifExp (pt_val (pe_call (ok_is_copy T hT 14) (hr.mono (by omega)) rfl T.is_copy.g T.is_copy.F.kp T.is_copy.b .nil pass0 (pa_cons (pv 1) pa_nil))) pe_str pe_str) (pa_cons (pv 2) (pa_cons (pe_call (ok_place_in T hT) (hr.mono (by omega)) rfl T.place_in.g T.place_in.F.kp T.place_in.b .nil pass0 (pa_cons (pv 0) pa_nil)) pa_nil)))))) pss_nil)
    (pss_cons (ps_if (pt_cmpR (op_eqAK (K := K) rfl hr.units) (pv 4) pe_str (nomark _)) (pss_one (ps_ret (pe_tup (pa_cons pe_str (pa_cons (pv 2) (pa_cons (pe_ix (ix_seqK (K := K) rfl) (pv 0) pe_int (fun _ _ => rfl)) (pa_cons (pe_call (ok_place_in T hT) (hr.mono (by omega)) rfl T.place_in.g T.place_in.F.kp T.place_in.b .nil pass0 (pa_cons (pv 0) pa_nil)) pa_nil))))))) pss_nil)
    (pss_cons (ps_if (pt_cmpR (op_eqAK (K := K) rfl hr.units) (pv 4) pe_str (nomark _)) (pss_one (ps_ret (pe_tup (pa_cons pe_str (pa_cons (pv 2) (pa_cons (pe_call (ok_place_in T hT) (hr.mono (by omega)) rfl T.place_in.g T.place_in.F.kp T.place_in.b .nil pass0 (pa_cons (pv 0) pa_nil)) pa_nil)))))) pss_nil)
    (pss_cons (ps_if (pt_cmpR (op_eqAK (K := K) rfl hr.units) (pv 4) pe_str (nomark _)) (pss_one (ps_ret (pe_tup (pa_cons pe_str (pa_cons (pv 2) (pa_cons (pe_call (ok_place_in T hT) (hr.mono (by omega)) rfl T.place_in.g T.place_in.F.kp T.place_in.b .nil pass0 (pa_cons (pv 0) pa_nil)) (pa_cons (pe_ix (ix_seqK (K := K) rfl) (pv 3) pe_int (fun _ _ => rfl)) pa_nil))))))) pss_nil)
    (pss_cons (ps_if (pt_cmpR (op_eqAK (K := K) rfl hr.units) (pv 4) pe_str (nomark _)) (pss_one (ps_ret (pe_tup (pa_cons pe_str (pa_cons (pv 2) (pa_cons (pe_ix (ix_seqK (K := K) rfl) (pv 0) pe_int (fun _ _ => rfl)) (pa_cons (pe_ix (ix_seqK (K := K) rfl) (pv 3) pe_int (fun _ _ => rfl)) (pa_cons (pe_ix (ix_seqK (K := K) rfl) (pv 3) pe_int (fun _ _ => rfl)) pa_nil)))))))) pss_nil)
    (pss_cons (ps_if (pt_cmpR (op_inK (K := K) rfl) (pv 4) (pe_tup (pa_cons pe_str (pa_cons pe_str pa_nil))) (by rfl)) (pss_one (ps_ret (pe_tup (pa_cons (pv 4) (pa_cons (pv 2) (pa_cons (pe_ix (ix_seqK (K := K) rfl) (pv 0) pe_int (fun _ _ => rfl)) (pa_cons (pv 3) pa_nil))))))) pss_nil)
    (pss_one (ps_ret (pe_tup (pa_cons (pv 4) (pa_cons (pv 2) (pa_cons (pe_ix (ix_seqK (K := K) rfl) (pv 3) pe_int (fun _ _ => rfl)) pa_nil)))))))))))))))),
    (ss_seq (ss_asg (se_op sr_ix (se_var 0) se_int) (sg_name 4))
    (ss_seq (ss_if (st_test (se_op (sr_in (n := false)) (se_var 4) (se_tup (sa_cons se_str (sa_cons se_str (sa_cons se_str (sa_cons se_str sa_nil))))))) (ss_ret (se_tup (sa_cons se_str (sa_cons (se_var 2) (sa_cons (se_var 0) sa_nil))))) ss_nil)
    (ss_seq (ss_if (st_test (se_op (sr_in (n := false)) (se_var 4) (se_tup (sa_cons se_str (sa_cons se_str (sa_cons se_str sa_nil)))))) (ss_ret (se_tup (sa_cons se_str (sa_cons (se_var 2) (sa_cons (se_var 4) (sa_cons (se_var 3) sa_nil)))))) ss_nil)
    (ss_seq (ss_if (st_test (se_op sr_eq (se_var 4) se_str)) (ss_ret (se_tup (sa_cons se_str (sa_cons (se_var 2) (sa_cons (se_op sr_ix (se_var 0) se_int) (sa_cons (se_var 3) sa_nil)))))) ss_nil)
    (ss_seq (ss_if (st_test (se_op sr_eq (se_var 4) se_str)) (ss_ret (se_tup (sa_cons (se_if (st_val (se_call (ar_is_copy 14) (sa_cons (se_var 1) sa_nil))) se_str se_str) (sa_cons (se_var 2) (sa_cons (se_call ar_place_in (sa_cons (se_var 0) sa_nil)) sa_nil))))) ss_nil)
    (ss_seq (ss_if (st_test (se_op sr_eq (se_var 4) se_str)) (ss_ret (se_tup (sa_cons se_str (sa_cons (se_var 2) (sa_cons (se_op sr_ix (se_var 0) se_int) (sa_cons (se_call ar_place_in (sa_cons (se_var 0) sa_nil)) sa_nil)))))) ss_nil)
    (ss_seq (ss_if (st_test (se_op sr_eq (se_var 4) se_str)) (ss_ret (se_tup (sa_cons se_str (sa_cons (se_var 2) (sa_cons (se_call ar_place_in (sa_cons (se_var 0) sa_nil)) sa_nil))))) ss_nil)
    (ss_seq (ss_if (st_test (se_op sr_eq (se_var 4) se_str)) (ss_ret (se_tup (sa_cons se_str (sa_cons (se_var 2) (sa_cons (se_call ar_place_in (sa_cons (se_var 0) sa_nil)) (sa_cons (se_op sr_ix (se_var 3) se_int) sa_nil)))))) ss_nil)
    (ss_seq (ss_if (st_test (se_op sr_eq (se_var 4) se_str)) (ss_ret (se_tup (sa_cons se_str (sa_cons (se_var 2) (sa_cons (se_op sr_ix (se_var 0) se_int) (sa_cons (se_op sr_ix (se_var 3) se_int) (sa_cons (se_op sr_ix (se_var 3) se_int) sa_nil))))))) ss_nil)
    (ss_seq (ss_if (st_test (se_op (sr_in (n := false)) (se_var 4) (se_tup (sa_cons se_str (sa_cons se_str sa_nil))))) (ss_ret (se_tup (sa_cons (se_var 4) (sa_cons (se_var 2) (sa_cons (se_op sr_ix (se_var 0) se_int) (sa_cons (se_var 3) sa_nil)))))) ss_nil)
    (ss_ret (se_tup (sa_cons (se_var 4) (sa_cons (se_var 2) (sa_cons (se_op sr_ix (se_var 3) se_int) sa_nil)))))))))))))))⟩
theorem ok_Lowering_lower_expression (T : Txt w K mg) (hT : Tbs T base) : ∀ n : Nat, FnOk P w K mg base CX0 (32 + 1 * n) T.Lowering_lower_expression.f T.Lowering_lower_expression.fd ["self", "expression"] (spD K T.tb 2 (m_Lowering_lower_expression T.C_Graph T.C_Lowering n))
  | 0 => fn_none
  | n + 1 => (def_ok (k := 32 + 1 * n) (body := b_Lowering_lower_expression T.C_Graph T.C_Lowering (m_Lowering_lower_expression T.C_Graph T.C_Lowering n)) (fz := false) T.Lowering_lower_expression.F sc_Lowering_lower_expression fun A outer s H E hr => ⟨_, (pss_cons (ps_set (i := 2) sc_Lowering_lower_expression.nd rfl (Or.inl rfl) (pe_callTy (cr_tupK (K := K) rfl) rfl T.z_tuple PyProof.Rows.boot_tuple (pa_cons (pe_lc (own := [("part", 6)]) (tt := tYes) rfl sc_Lowering_lower_expression.nd (pi_tupK (K := K) rfl (pe_call (ok_parts_of T hT) (hr.mono (by omega)) rfl T.parts_of.g T.parts_of.F.kp T.parts_of.b .nil pass0 (pa_cons (pv 1) pa_nil))) (blkOk_by (N := ["self", "expression", "parts", "kinds", "kind", "temporary", "part"]) (sc := defScope s_Lowering_lower_expression) (by decide +kernel)) (fun _ _ _ _ _ => (pg_name (i := 6) sc_Lowering_lower_expression.nd rfl (Or.inl rfl))) (fun _ _ _ _ _ => pts_nil) (fun _ _ _ _ _ => (pe_meth (pv 0) T.cl_Lowering T.Lowering_lower_expression.m (ok_Lowering_lower_expression T hT n) (hr.mono (by omega)) T.Lowering_lower_expression.b .nil pass0 (pa_cons (pv 6) pa_nil)))) pa_nil)))
    (pss_cons (ps_set (i := 3) sc_Lowering_lower_expression.nd rfl (Or.inr rfl) (pe_fldK (K := K) rfl (pe_fldK (K := K) rfl (pv 0) rfl) rfl))
    (pss_cons (ps_set (i := 4) sc_Lowering_lower_expression.nd rfl (Or.inl rfl) (pe_call (ok_kind_made T hT) (hr.mono (by omega)) rfl T.kind_made.g T.kind_made.F.kp T.kind_made.b .nil pass0 (pa_cons (pe_fldK (K := K) rfl (pv 0) rfl) (pa_cons (pv 3) (pa_cons (pv 1) (pa_cons (pe_lc (own := [("part", 6)]) (tt := tYes) rfl sc_Lowering_lower_expression.nd (pi_tupK (K := K) rfl (pv 2)) (blkOk_by (N := ["self", "expression", "parts", "kinds", "kind", "temporary", "part"]) (sc := defScope s_Lowering_lower_expression) (by decide +kernel)) (fun _ _ _ _ _ => (pg_name (i := 6) sc_Lowering_lower_expression.nd rfl (Or.inl rfl))) (fun _ _ _ _ _ => pts_nil) (fun _ _ _ _ _ => (pe_dget (hu_of hr) (pv 3) (pv 6) (fun _ _ => rfl)))) pa_nil))))))
    (pss_cons (ps_set (i := 5) sc_Lowering_lower_expression.nd rfl (Or.inl rfl) (pe_op (op_plusK (K := K) rfl) pe_str (pe_callTy call_str_int rfl T.z_str PyProof.Rows.boot_str (pa_cons (pe_fldK (K := K) rfl (pv 0) rfl) pa_nil))))
    (pss_cons (ps_fldaugK (K := K) rfl (pv 0) pe_int)
    (pss_cons (ps_dput (hu_of hr) (pv 3) (pv 5) (pv 4) rfl)
    (pss_cons (ps_expr (pe_meth (pv 0) T.cl_Lowering T.Lowering_add_point.m (ok_Lowering_add_point T hT) (hr.mono (by omega)) T.Lowering_add_point.b .nil pass0 (pa_cons (pe_call (ok_instruction_for T hT) (hr.mono (by omega)) rfl T.instruction_for.g T.instruction_for.F.kp T.instruction_for.b .nil pass0 (pa_cons (pv 1) (pa_cons (pv 4) (pa_cons (pv 5) (pa_cons (pv 2) pa_nil))))) pa_nil)))
    (pss_one (ps_ret (pv 5)))))))))),
    (ss_seq (ss_asg (se_cb sc_tuple (sa_cons (se_lc smk_F (si_tup (se_call ar_parts_of (sa_cons (se_var 1) sa_nil))) (sg_name 6) (by decide) st_yes (se_meth (ar_Lowering_lower_expression n) (se_var 0) (sa_cons (se_var 6) sa_nil))) sa_nil)) (sg_name 2))
    (ss_seq (ss_asg (se_fld T.cl_Graph T.na_Graph_kinds (se_fld T.cl_Lowering T.na_Lowering_graph (se_var 0))) (sg_name 3))
    (ss_seq (ss_asg (se_call ar_kind_made (sa_cons (se_fld T.cl_Lowering T.na_Lowering_program (se_var 0)) (sa_cons (se_var 3) (sa_cons (se_var 1) (sa_cons (se_lc smk_F (si_tup (se_var 2)) (sg_name 6) (by decide) st_yes (se_dget (se_var 3) (se_var 6))) sa_nil))))) (sg_name 4))
    (ss_seq (ss_asg (se_op (sr_plus (L := false)) se_str (se_cb sc_str (sa_cons (se_fld T.cl_Lowering T.na_Lowering_temporaries (se_var 0)) sa_nil))) (sg_name 5))
    (ss_seq (ss_fldaug T.cl_Lowering T.na_Lowering_temporaries (se_var 0) se_int)
    (ss_seq (ss_dput (se_var 3) (se_var 5) (se_var 4))
    (ss_seq (ss_drop (se_meth ar_Lowering_add_point (se_var 0) (sa_cons (se_call ar_instruction_for (sa_cons (se_var 1) (sa_cons (se_var 4) (sa_cons (se_var 5) (sa_cons (se_var 2) sa_nil))))) sa_nil)))
    (ss_ret (se_var 5)))))))))⟩).mono (by omega)
theorem ok_Lowering_lower_let (T : Txt w K mg) (hT : Tbs T base) : FnOk P w K mg base CX0 63 T.Lowering_lower_let.f T.Lowering_lower_let.fd ["self", "statement"] (spD K T.tb 2 (m_Lowering_lower_let T.C_Graph T.C_Lowering)) :=
  def_ok (k := 62) T.Lowering_lower_let.F sc_Lowering_lower_let fun A outer s H E hr => ⟨_, (pss_cons (ps_asg (pv 1) (pg_tup rfl (pgs_cons (pg_name (i := 2) sc_Lowering_lower_let.nd rfl (Or.inl rfl)) (pgs_cons (pg_name (i := 3) sc_Lowering_lower_let.nd rfl (Or.inl rfl)) (pgs_cons (pg_name (i := 4) sc_Lowering_lower_let.nd rfl (Or.inl rfl)) pgs_nil)))))
    (pss_cons (ps_set (i := 5) sc_Lowering_lower_let.nd rfl (Or.inl rfl) (pe_meth (pv 0) T.cl_Lowering T.Lowering_lower_expression.m (ok_Lowering_lower_expression T hT 30) (hr.mono (by omega)) T.Lowering_lower_expression.b .nil pass0 (pa_cons (pv 4) pa_nil)))
    (pss_cons (ps_dput (hu_of hr) (pe_fldK (K := K) rfl (pe_fldK (K := K) rfl (pv 0) rfl) rfl) (pv 3) (pe_dget (hu_of hr) (pe_fldK (K := K) rfl (pe_fldK (K := K) rfl (pv 0) rfl) rfl) (pv 5) (fun _ _ => rfl)) rfl)
    (pss_cons (ps_expr (pe_bm PySem.F.plainAttrs_list PySem.F.slot_list_append PySem.F.type_list_append mt_append (pe_fldK (K := K) rfl (pv 0) rfl) (pa_cons (pv 3) pa_nil)))
    (pss_one (ps_expr (pe_meth (pv 0) T.cl_Lowering T.Lowering_add_point.m (ok_Lowering_add_point T hT) (hr.mono (by omega)) T.Lowering_add_point.b .nil pass0 (pa_cons (pe_tup (pa_cons pe_str (pa_cons (pv 3) (pa_cons (pv 5) pa_nil)))) pa_nil)))))))),
    (ss_seq (ss_asg (se_var 1) (sg_tup (glen_cons (glen_cons (glen_cons glen_nil))) (sgs_cons (sg_name 2) (sgs_cons (sg_name 3) (sgs_cons (sg_name 4) sgs_nil)))))
    (ss_seq (ss_asg (se_meth (ar_Lowering_lower_expression 30) (se_var 0) (sa_cons (se_var 4) sa_nil)) (sg_name 5))
    (ss_seq (ss_dput (se_fld T.cl_Graph T.na_Graph_kinds (se_fld T.cl_Lowering T.na_Lowering_graph (se_var 0))) (se_var 3) (se_dget (se_fld T.cl_Graph T.na_Graph_kinds (se_fld T.cl_Lowering T.na_Lowering_graph (se_var 0))) (se_var 5)))
    (ss_seq (ss_drop (se_bm sm_append (se_fld T.cl_Lowering T.na_Lowering_scope (se_var 0)) (sa_cons (se_var 3) sa_nil)))
    (ss_drop (se_meth ar_Lowering_add_point (se_var 0) (sa_cons (se_tup (sa_cons se_str (sa_cons (se_var 3) (sa_cons (se_var 5) sa_nil)))) sa_nil)))))))⟩
mutual
theorem ok_Lowering_lower_block (T : Txt w K mg) (hT : Tbs T base) : ∀ n : Nat, FnOk P w K mg base CX0 (64 + 1 * n) T.Lowering_lower_block.f T.Lowering_lower_block.fd ["self", "block"] (spD K T.tb 2 (m_Lowering_lower_block T.C_Graph T.C_Lowering n))
  | 0 => fn_none
  | n + 1 => (def_ok (k := 64 + 1 * n) (body := b_Lowering_lower_block T.C_Graph T.C_Lowering (m_Lowering_lower_block T.C_Graph T.C_Lowering n) (m_Lowering_lower_statement T.C_Graph T.C_Lowering n) (m_Lowering_lower_if T.C_Graph T.C_Lowering n) (m_Lowering_lower_while T.C_Graph T.C_Lowering n)) (fz := false) T.Lowering_lower_block.F sc_Lowering_lower_block fun A outer s H E hr => ⟨_, (pss_cons (ps_set (i := 2) sc_Lowering_lower_block.nd rfl (Or.inl rfl) (pe_callB (cr_lenK (K := K) rfl) rfl T.z_len PySem.boot_len (pa_cons (pe_fldK (K := K) rfl (pv 0) rfl) pa_nil)))
    (pss_cons (ps_for PassesOwn.never rfl (pi_tupK (K := K) rfl (pv 1)) (pg_name (i := 3) sc_Lowering_lower_block.nd rfl (Or.inl rfl)) (pss_one (ps_expr (pe_meth (pv 0) T.cl_Lowering T.Lowering_lower_statement.m (ok_Lowering_lower_statement T hT n) (hr.mono (by omega)) T.Lowering_lower_statement.b .nil pass0 (pa_cons (pv 3) pa_nil)))))
    (pss_cons (ps_expr (pe_meth (pv 0) T.cl_Lowering T.Lowering_add_drops.m (ok_Lowering_add_drops T hT) (hr.mono (by omega)) T.Lowering_add_drops.b .nil pass0 (pa_cons (pe_slice (sl_allK (K := K) rfl) (pe_fldK (K := K) rfl (pv 0) rfl) (po_some (pv 2)) po_none) pa_nil)))
    (pss_one (ps_fldK (K := K) rfl (pv 0) (pe_slice (sl_allK (K := K) rfl) (pe_fldK (K := K) rfl (pv 0) rfl) po_none (po_some (pv 2))) rfl))))),
    (ss_seq (ss_asg (se_cb sc_len (sa_cons (se_fld T.cl_Lowering T.na_Lowering_scope (se_var 0)) sa_nil)) (sg_name 2))
    (ss_seq (ss_for (si_tup (se_var 1)) (sg_name 3) (ss_drop (se_meth (ar_Lowering_lower_statement n) (se_var 0) (sa_cons (se_var 3) sa_nil))))
    (ss_seq (ss_drop (se_meth ar_Lowering_add_drops (se_var 0) (sa_cons (se_sl (L := false) (se_fld T.cl_Lowering T.na_Lowering_scope (se_var 0)) (so_some (se_var 2)) so_none) sa_nil)))
    (ss_fld T.cl_Lowering T.na_Lowering_scope (se_var 0) (se_sl (L := true) (se_fld T.cl_Lowering T.na_Lowering_scope (se_var 0)) so_none (so_some (se_var 2)))))))⟩).mono (by omega)
theorem ok_Lowering_lower_statement (T : Txt w K mg) (hT : Tbs T base) : ∀ n : Nat, FnOk P w K mg base CX0 (64 + 1 * n) T.Lowering_lower_statement.f T.Lowering_lower_statement.fd ["self", "statement"] (spD K T.tb 2 (m_Lowering_lower_statement T.C_Graph T.C_Lowering n))
  | 0 => fn_none
  | n + 1 => (def_ok (k := 64 + 1 * n) (body := b_Lowering_lower_statement T.C_Graph T.C_Lowering (m_Lowering_lower_block T.C_Graph T.C_Lowering n) (m_Lowering_lower_statement T.C_Graph T.C_Lowering n) (m_Lowering_lower_if T.C_Graph T.C_Lowering n) (m_Lowering_lower_while T.C_Graph T.C_Lowering n)) (fz := false) T.Lowering_lower_statement.F sc_Lowering_lower_statement fun A outer s H E hr => ⟨_, (pss_cons (ps_set (i := 2) sc_Lowering_lower_statement.nd rfl (Or.inl rfl) (pe_ix (ix_seqK (K := K) rfl) (pv 1) pe_int (fun _ _ => rfl)))
    (pss_one (ps_if (pt_cmpR (op_eqAK (K := K) rfl hr.units) (pv 2) pe_str (nomark _)) (pss_one (ps_expr (pe_meth (pv 0) T.cl_Lowering T.Lowering_lower_if.m (ok_Lowering_lower_if T hT n) (hr.mono (by omega)) T.Lowering_lower_if.b .nil pass0 (pa_cons (pv 1) pa_nil)))) (pss_one (ps_if (pt_cmpR (op_eqAK (K := K) rfl hr.units) (pv 2) pe_str (nomark _)) (pss_one (ps_expr (pe_meth (pv 0) T.cl_Lowering T.Lowering_lower_while.m (ok_Lowering_lower_while T hT n) (hr.mono (by omega)) T.Lowering_lower_while.b .nil pass0 (pa_cons (pv 1) pa_nil)))) (pss_one (ps_if (pt_cmpR (op_eqAK (K := K) rfl hr.units) (pv 2) pe_str (nomark _)) (pss_one (ps_expr (pe_meth (pv 0) T.cl_Lowering T.Lowering_lower_let.m (ok_Lowering_lower_let T hT) (hr.mono (by omega)) T.Lowering_lower_let.b .nil pass0 (pa_cons (pv 1) pa_nil)))) (pss_one (ps_if (pt_cmpR (op_eqAK (K := K) rfl hr.units) (pv 2) pe_str (nomark _)) (pss_cons (ps_asg (pv 1) (pg_tup rfl (pgs_cons (pg_name (i := 3) sc_Lowering_lower_statement.nd rfl (Or.inl rfl)) (pgs_cons (pg_name (i := 4) sc_Lowering_lower_statement.nd rfl (Or.inl rfl)) (pgs_cons (pg_name (i := 5) sc_Lowering_lower_statement.nd rfl (Or.inl rfl)) pgs_nil)))))
    (pss_one (ps_expr (pe_meth (pv 0) T.cl_Lowering T.Lowering_add_point.m (ok_Lowering_add_point T hT) (hr.mono (by omega)) T.Lowering_add_point.b .nil pass0 (pa_cons (pe_tup (pa_cons pe_str (pa_cons (pv 4) (pa_cons (pe_meth (pv 0) T.cl_Lowering T.Lowering_lower_expression.m (ok_Lowering_lower_expression T hT 30) (hr.mono (by omega)) T.Lowering_lower_expression.b .nil pass0 (pa_cons (pv 5) pa_nil)) pa_nil)))) pa_nil))))) (pss_one (ps_if (pt_cmpR (op_eqAK (K := K) rfl hr.units) (pv 2) pe_str (nomark _)) (pss_one (ps_expr (pe_meth (pv 0) T.cl_Lowering T.Lowering_add_leave.m (ok_Lowering_add_leave T hT) (hr.mono (by omega)) T.Lowering_add_leave.b .nil pass0 (pa_cons (pe_meth (pv 0) T.cl_Lowering T.Lowering_lower_expression.m (ok_Lowering_lower_expression T hT 30) (hr.mono (by omega)) T.Lowering_lower_expression.b .nil pass0 (pa_cons (pe_ix (ix_seqK (K := K) rfl) (pv 1) pe_int (fun _ _ => rfl)) pa_nil)) pa_nil)))) (pss_one (ps_if (pt_cmpR (op_eqAK (K := K) rfl hr.units) (pv 2) pe_str (nomark _)) (pss_one (ps_expr (pe_meth (pv 0) T.cl_Lowering T.Lowering_add_point.m (ok_Lowering_add_point T hT) (hr.mono (by omega)) T.Lowering_add_point.b .nil pass0 (pa_cons (pe_tup (pa_cons pe_str (pa_cons (pe_meth (pv 0) T.cl_Lowering T.Lowering_lower_expression.m (ok_Lowering_lower_expression T hT 30) (hr.mono (by omega)) T.Lowering_lower_expression.b .nil pass0 (pa_cons (pe_ix (ix_seqK (K := K) rfl) (pv 1) pe_int (fun _ _ => rfl)) pa_nil)) pa_nil))) pa_nil)))) (pss_one (ps_expr (pe_meth (pv 0) T.cl_Lowering T.Lowering_add_point.m (ok_Lowering_add_point T hT) (hr.mono (by omega)) T.Lowering_add_point.b .nil pass0 (pa_cons (pe_tup (pa_cons pe_str (pa_cons (pe_meth (pv 0) T.cl_Lowering T.Lowering_lower_expression.m (ok_Lowering_lower_expression T hT 30) (hr.mono (by omega)) T.Lowering_lower_expression.b .nil pass0 (pa_cons (pe_ix (ix_seqK (K := K) rfl) (pv 1) pe_int (fun _ _ => rfl)) pa_nil)) pa_nil))) pa_nil))))))))))))))))),
    (ss_seq (ss_asg (se_op sr_ix (se_var 1) se_int) (sg_name 2))
    (ss_if (st_test (se_op sr_eq (se_var 2) se_str)) (ss_drop (se_meth (ar_Lowering_lower_if n) (se_var 0) (sa_cons (se_var 1) sa_nil))) (ss_if (st_test (se_op sr_eq (se_var 2) se_str)) (ss_drop (se_meth (ar_Lowering_lower_while n) (se_var 0) (sa_cons (se_var 1) sa_nil))) (ss_if (st_test (se_op sr_eq (se_var 2) se_str)) (ss_drop (se_meth ar_Lowering_lower_let (se_var 0) (sa_cons (se_var 1) sa_nil))) (ss_if (st_test (se_op sr_eq (se_var 2) se_str)) (ss_seq (ss_asg (se_var 1) (sg_tup (glen_cons (glen_cons (glen_cons glen_nil))) (sgs_cons (sg_name 3) (sgs_cons (sg_name 4) (sgs_cons (sg_name 5) sgs_nil)))))
    (ss_drop (se_meth ar_Lowering_add_point (se_var 0) (sa_cons (se_tup (sa_cons se_str (sa_cons (se_var 4) (sa_cons (se_meth (ar_Lowering_lower_expression 30) (se_var 0) (sa_cons (se_var 5) sa_nil)) sa_nil)))) sa_nil)))) (ss_if (st_test (se_op sr_eq (se_var 2) se_str)) (ss_drop (se_meth ar_Lowering_add_leave (se_var 0) (sa_cons (se_meth (ar_Lowering_lower_expression 30) (se_var 0) (sa_cons (se_op sr_ix (se_var 1) se_int) sa_nil)) sa_nil))) (ss_if (st_test (se_op sr_eq (se_var 2) se_str)) (ss_drop (se_meth ar_Lowering_add_point (se_var 0) (sa_cons (se_tup (sa_cons se_str (sa_cons (se_meth (ar_Lowering_lower_expression 30) (se_var 0) (sa_cons (se_op sr_ix (se_var 1) se_int) sa_nil)) sa_nil))) sa_nil))) (ss_drop (se_meth ar_Lowering_add_point (se_var 0) (sa_cons (se_tup (sa_cons se_str (sa_cons (se_meth (ar_Lowering_lower_expression 30) (se_var 0) (sa_cons (se_op sr_ix (se_var 1) se_int) sa_nil)) sa_nil))) sa_nil))))))))))⟩).mono (by omega)
theorem ok_Lowering_lower_if (T : Txt w K mg) (hT : Tbs T base) : ∀ n : Nat, FnOk P w K mg base CX0 (64 + 1 * n) T.Lowering_lower_if.f T.Lowering_lower_if.fd ["self", "statement"] (spD K T.tb 2 (m_Lowering_lower_if T.C_Graph T.C_Lowering n))
  | 0 => fn_none
  | n + 1 => (def_ok (k := 64 + 1 * n) (body := b_Lowering_lower_if T.C_Graph T.C_Lowering (m_Lowering_lower_block T.C_Graph T.C_Lowering n) (m_Lowering_lower_statement T.C_Graph T.C_Lowering n) (m_Lowering_lower_if T.C_Graph T.C_Lowering n) (m_Lowering_lower_while T.C_Graph T.C_Lowering n)) (fz := false) T.Lowering_lower_if.F sc_Lowering_lower_if fun A outer s H E hr => ⟨_, (pss_cons (ps_asg (pv 1) (pg_tup rfl (pgs_cons (pg_name (i := 2) sc_Lowering_lower_if.nd rfl (Or.inl rfl)) (pgs_cons (pg_name (i := 3) sc_Lowering_lower_if.nd rfl (Or.inl rfl)) (pgs_cons (pg_name (i := 4) sc_Lowering_lower_if.nd rfl (Or.inl rfl)) (pgs_cons (pg_name (i := 5) sc_Lowering_lower_if.nd rfl (Or.inl rfl)) pgs_nil))))))
    (pss_cons (ps_set (i := 6) sc_Lowering_lower_if.nd rfl (Or.inl rfl) (pe_meth (pv 0) T.cl_Lowering T.Lowering_add_point.m (ok_Lowering_add_point T hT) (hr.mono (by omega)) T.Lowering_add_point.b .nil pass0 (pa_cons (pe_tup (pa_cons pe_str (pa_cons (pe_meth (pv 0) T.cl_Lowering T.Lowering_lower_expression.m (ok_Lowering_lower_expression T hT 30) (hr.mono (by omega)) T.Lowering_lower_expression.b .nil pass0 (pa_cons (pv 3) pa_nil)) pa_nil))) pa_nil)))
    (pss_cons (ps_expr (pe_meth (pv 0) T.cl_Lowering T.Lowering_lower_block.m (ok_Lowering_lower_block T hT n) (hr.mono (by omega)) T.Lowering_lower_block.b .nil pass0 (pa_cons (pv 4) pa_nil)))
    (pss_cons (ps_set (i := 7) sc_Lowering_lower_if.nd rfl (Or.inl rfl) (pe_meth (pv 0) T.cl_Lowering T.Lowering_add_point.m (ok_Lowering_add_point T hT) (hr.mono (by omega)) T.Lowering_add_point.b .nil pass0 (pa_cons (pe_tup (pa_cons pe_str pa_nil)) pa_nil)))
    (pss_cons (ps_expr (pe_meth (pv 0) T.cl_Lowering T.Lowering_lower_block.m (ok_Lowering_lower_block T hT n) (hr.mono (by omega)) T.Lowering_lower_block.b .nil pass0 (pa_cons (pv 5) pa_nil)))
    (pss_cons (ps_asg (pe_tup (pa_cons (pe_op (op_plusK (K := K) rfl) (pv 6) pe_int) (pa_cons (pe_op (op_plusK (K := K) rfl) (pv 7) pe_int) pa_nil))) (pg_sub (pe_fldK (K := K) rfl (pe_fldK (K := K) rfl (pv 0) rfl) rfl) (pv 6) set_list))
    (pss_one (ps_asg (pe_tup (pa_cons (pe_callB (cr_lenK (K := K) rfl) rfl T.z_len PySem.boot_len (pa_cons (pe_fldK (K := K) rfl (pe_fldK (K := K) rfl (pv 0) rfl) rfl) pa_nil)) pa_nil)) (pg_sub (pe_fldK (K := K) rfl (pe_fldK (K := K) rfl (pv 0) rfl) rfl) (pv 7) set_list))))))))),
    (ss_seq (ss_asg (se_var 1) (sg_tup (glen_cons (glen_cons (glen_cons (glen_cons glen_nil)))) (sgs_cons (sg_name 2) (sgs_cons (sg_name 3) (sgs_cons (sg_name 4) (sgs_cons (sg_name 5) sgs_nil))))))
    (ss_seq (ss_asg (se_meth ar_Lowering_add_point (se_var 0) (sa_cons (se_tup (sa_cons se_str (sa_cons (se_meth (ar_Lowering_lower_expression 30) (se_var 0) (sa_cons (se_var 3) sa_nil)) sa_nil))) sa_nil)) (sg_name 6))
    (ss_seq (ss_drop (se_meth (ar_Lowering_lower_block n) (se_var 0) (sa_cons (se_var 4) sa_nil)))
    (ss_seq (ss_asg (se_meth ar_Lowering_add_point (se_var 0) (sa_cons (se_tup (sa_cons se_str sa_nil)) sa_nil)) (sg_name 7))
    (ss_seq (ss_drop (se_meth (ar_Lowering_lower_block n) (se_var 0) (sa_cons (se_var 5) sa_nil)))
    (ss_seq (ss_asg (se_tup (sa_cons (se_op (sr_plus (L := false)) (se_var 6) se_int) (sa_cons (se_op (sr_plus (L := false)) (se_var 7) se_int) sa_nil))) (sg_ix (se_fld T.cl_Graph T.na_Graph_successors (se_fld T.cl_Lowering T.na_Lowering_graph (se_var 0))) (se_var 6)))
    (ss_asg (se_tup (sa_cons (se_cb sc_len (sa_cons (se_fld T.cl_Graph T.na_Graph_points (se_fld T.cl_Lowering T.na_Lowering_graph (se_var 0))) sa_nil)) sa_nil)) (sg_ix (se_fld T.cl_Graph T.na_Graph_successors (se_fld T.cl_Lowering T.na_Lowering_graph (se_var 0))) (se_var 7)))))))))⟩).mono (by omega)
theorem ok_Lowering_lower_while (T : Txt w K mg) (hT : Tbs T base) : ∀ n : Nat, FnOk P w K mg base CX0 (64 + 1 * n) T.Lowering_lower_while.f T.Lowering_lower_while.fd ["self", "statement"] (spD K T.tb 2 (m_Lowering_lower_while T.C_Graph T.C_Lowering n))
  | 0 => fn_none
  | n + 1 => (def_ok (k := 64 + 1 * n) (body := b_Lowering_lower_while T.C_Graph T.C_Lowering (m_Lowering_lower_block T.C_Graph T.C_Lowering n) (m_Lowering_lower_statement T.C_Graph T.C_Lowering n) (m_Lowering_lower_if T.C_Graph T.C_Lowering n) (m_Lowering_lower_while T.C_Graph T.C_Lowering n)) (fz := false) T.Lowering_lower_while.F sc_Lowering_lower_while fun A outer s H E hr => ⟨_, (pss_cons (ps_asg (pv 1) (pg_tup rfl (pgs_cons (pg_name (i := 2) sc_Lowering_lower_while.nd rfl (Or.inl rfl)) (pgs_cons (pg_name (i := 3) sc_Lowering_lower_while.nd rfl (Or.inl rfl)) (pgs_cons (pg_name (i := 4) sc_Lowering_lower_while.nd rfl (Or.inl rfl)) pgs_nil)))))
    (pss_cons (ps_set (i := 5) sc_Lowering_lower_while.nd rfl (Or.inl rfl) (pe_callB (cr_lenK (K := K) rfl) rfl T.z_len PySem.boot_len (pa_cons (pe_fldK (K := K) rfl (pe_fldK (K := K) rfl (pv 0) rfl) rfl) pa_nil)))
    (pss_cons (ps_set (i := 6) sc_Lowering_lower_while.nd rfl (Or.inl rfl) (pe_meth (pv 0) T.cl_Lowering T.Lowering_add_point.m (ok_Lowering_add_point T hT) (hr.mono (by omega)) T.Lowering_add_point.b .nil pass0 (pa_cons (pe_tup (pa_cons pe_str (pa_cons (pe_meth (pv 0) T.cl_Lowering T.Lowering_lower_expression.m (ok_Lowering_lower_expression T hT 30) (hr.mono (by omega)) T.Lowering_lower_expression.b .nil pass0 (pa_cons (pv 3) pa_nil)) pa_nil))) pa_nil)))
    (pss_cons (ps_expr (pe_meth (pv 0) T.cl_Lowering T.Lowering_lower_block.m (ok_Lowering_lower_block T hT n) (hr.mono (by omega)) T.Lowering_lower_block.b .nil pass0 (pa_cons (pv 4) pa_nil)))
    (pss_cons (ps_set (i := 7) sc_Lowering_lower_while.nd rfl (Or.inl rfl) (pe_meth (pv 0) T.cl_Lowering T.Lowering_add_point.m (ok_Lowering_add_point T hT) (hr.mono (by omega)) T.Lowering_add_point.b .nil pass0 (pa_cons (pe_tup (pa_cons pe_str pa_nil)) pa_nil)))
    (pss_cons (ps_asg (pe_tup (pa_cons (pe_op (op_plusK (K := K) rfl) (pv 6) pe_int) (pa_cons (pe_op (op_plusK (K := K) rfl) (pv 7) pe_int) pa_nil))) (pg_sub (pe_fldK (K := K) rfl (pe_fldK (K := K) rfl (pv 0) rfl) rfl) (pv 6) set_list))
    (pss_one (ps_asg (pe_tup (pa_cons (pv 5) pa_nil)) (pg_sub (pe_fldK (K := K) rfl (pe_fldK (K := K) rfl (pv 0) rfl) rfl) (pv 7) set_list))))))))),
    (ss_seq (ss_asg (se_var 1) (sg_tup (glen_cons (glen_cons (glen_cons glen_nil))) (sgs_cons (sg_name 2) (sgs_cons (sg_name 3) (sgs_cons (sg_name 4) sgs_nil)))))
    (ss_seq (ss_asg (se_cb sc_len (sa_cons (se_fld T.cl_Graph T.na_Graph_points (se_fld T.cl_Lowering T.na_Lowering_graph (se_var 0))) sa_nil)) (sg_name 5))
    (ss_seq (ss_asg (se_meth ar_Lowering_add_point (se_var 0) (sa_cons (se_tup (sa_cons se_str (sa_cons (se_meth (ar_Lowering_lower_expression 30) (se_var 0) (sa_cons (se_var 3) sa_nil)) sa_nil))) sa_nil)) (sg_name 6))
    (ss_seq (ss_drop (se_meth (ar_Lowering_lower_block n) (se_var 0) (sa_cons (se_var 4) sa_nil)))
    (ss_seq (ss_asg (se_meth ar_Lowering_add_point (se_var 0) (sa_cons (se_tup (sa_cons se_str sa_nil)) sa_nil)) (sg_name 7))
    (ss_seq (ss_asg (se_tup (sa_cons (se_op (sr_plus (L := false)) (se_var 6) se_int) (sa_cons (se_op (sr_plus (L := false)) (se_var 7) se_int) sa_nil))) (sg_ix (se_fld T.cl_Graph T.na_Graph_successors (se_fld T.cl_Lowering T.na_Lowering_graph (se_var 0))) (se_var 6)))
    (ss_asg (se_tup (sa_cons (se_var 5) sa_nil)) (sg_ix (se_fld T.cl_Graph T.na_Graph_successors (se_fld T.cl_Lowering T.na_Lowering_graph (se_var 0))) (se_var 7)))))))))⟩).mono (by omega)
end
end
section
variable {P : Program} {w : World} {K : PySem.W.Frag} {mg : Str → Option Value} {base : Heap}
theorem ok_Lowering_lower_function (T : Txt w K mg) (hT : Tbs T base) : FnOk P w K mg base CX0 81 T.Lowering_lower_function.f T.Lowering_lower_function.fd ["self", "block"] (spD K T.tb 2 (m_Lowering_lower_function T.C_Graph T.C_Lowering)) :=
  def_ok (k := 80) T.Lowering_lower_function.F sc_Lowering_lower_function fun A outer s H E hr => ⟨_, (pss_cons (ps_expr (pe_meth (pv 0) T.cl_Lowering T.Lowering_lower_block.m (ok_Lowering_lower_block T hT 16) (hr.mono (by omega)) T.Lowering_lower_block.b .nil pass0 (pa_cons (pv 1) pa_nil)))
    (pss_one (ps_if (pt_cmpR (op_eqAK (K := K) rfl hr.units) (pe_fldK (K := K) rfl (pe_fldK (K := K) rfl (pv 0) rfl) rfl) (pe_tup (pa_cons pe_str pa_nil)) (nomark _)) (pss_one (ps_expr (pe_meth (pv 0) T.cl_Lowering T.Lowering_add_leave.m (ok_Lowering_add_leave T hT) (hr.mono (by omega)) T.Lowering_add_leave.b .nil pass0 (pa_cons (pe_meth (pv 0) T.cl_Lowering T.Lowering_lower_expression.m (ok_Lowering_lower_expression T hT 30) (hr.mono (by omega)) T.Lowering_lower_expression.b .nil pass0 (pa_cons (pe_tup (pa_cons pe_str pa_nil)) pa_nil)) pa_nil)))) (pss_one (ps_expr (pe_meth (pv 0) T.cl_Lowering T.Lowering_add_end.m (ok_Lowering_add_end T hT) (hr.mono (by omega)) T.Lowering_add_end.b .nil pass0 (pa_cons (pe_tup (pa_cons pe_str pa_nil)) pa_nil))))))),
    (ss_seq (ss_drop (se_meth (ar_Lowering_lower_block 16) (se_var 0) (sa_cons (se_var 1) sa_nil)))
    (ss_if (st_test (se_op sr_eq (se_fld T.cl_Graph T.na_Graph_result (se_fld T.cl_Lowering T.na_Lowering_graph (se_var 0))) (se_tup (sa_cons se_str sa_nil)))) (ss_drop (se_meth ar_Lowering_add_leave (se_var 0) (sa_cons (se_meth (ar_Lowering_lower_expression 30) (se_var 0) (sa_cons (se_tup (sa_cons se_str sa_nil)) sa_nil)) sa_nil))) (ss_drop (se_meth ar_Lowering_add_end (se_var 0) (sa_cons (se_tup (sa_cons se_str sa_nil)) sa_nil)))))⟩
theorem ok_build_graph (T : Txt w K mg) (hT : Tbs T base) : FnOk P w K mg base CX0 82 T.build_graph.f T.build_graph.fd ["program", "name"] (spD K T.tb 2 (m_build_graph T.C_Graph T.C_Lowering)) :=
  def_ok (k := 81) T.build_graph.F sc_build_graph fun A outer s H E hr => ⟨_, (pss_cons (ps_set (i := 2) sc_build_graph.nd rfl (Or.inl rfl) (pe_call (ok_function_named T hT) (hr.mono (by omega)) rfl T.function_named.g T.function_named.F.kp T.function_named.b .nil pass0 (pa_cons (pv 0) (pa_cons (pv 1) pa_nil))))
    (pss_cons (ps_if (pt_cmpR op_isN (pv 2) pe_non (nomark _)) (pss_one ps_none) pss_nil)
    (pss_cons (ps_set (i := 3) sc_build_graph.nd rfl (Or.inl rfl) (pe_make T.mk_Lowering (ok_Lowering_init T hT) (hr.mono (by omega)) rfl T.g_Lowering T.Lowering___init__.b .nil pass0 (pa_cons (pv 0) (pa_cons (pv 2) pa_nil))))
    (pss_cons (ps_expr (pe_meth (pv 3) T.cl_Lowering T.Lowering_lower_function.m (ok_Lowering_lower_function T hT) (hr.mono (by omega)) T.Lowering_lower_function.b .nil pass0 (pa_cons (pe_ix (ix_seqK (K := K) rfl) (pv 2) pe_int (fun _ _ => rfl)) pa_nil)))
    (pss_one (ps_ret (pe_fldK (K := K) rfl (pv 3) rfl))))))),
    (ss_seq (ss_asg (se_call ar_function_named (sa_cons (se_var 0) (sa_cons (se_var 1) sa_nil))) (sg_name 2))
    (ss_seq (ss_if (st_test (se_op sr_isN (se_var 2) se_non)) ss_none ss_nil)
    (ss_seq (ss_asg (se_make ar_Lowering_init (sa_cons (se_var 0) (sa_cons (se_var 2) sa_nil))) (sg_name 3))
    (ss_seq (ss_drop (se_meth ar_Lowering_lower_function (se_var 3) (sa_cons (se_op sr_ix (se_var 2) se_int) sa_nil)))
    (ss_ret (se_fld T.cl_Lowering T.na_Lowering_graph (se_var 3)))))))⟩
theorem ok_makes_loan (T : Txt w K mg) (hT : Tbs T base) : FnOk P w K mg base CX0 5 T.makes_loan.f T.makes_loan.fd ["program", "graph", "instruction"] (spD K T.tb 3 (m_makes_loan T.C_Graph T.C_Lowering)) :=
  def_ok (k := 4) T.makes_loan.F sc_makes_loan fun A outer s H E hr => ⟨_, (pss_cons (ps_if (pt_cmpR (op_neAK (K := K) rfl hr.units) (pe_ix (ix_seqK (K := K) rfl) (pv 2) pe_int (fun _ _ => rfl)) pe_str (nomark _)) (pss_one (ps_ret pe_bl)) pss_nil)
    (pss_cons (ps_set (i := 3) sc_makes_loan.nd rfl (Or.inl rfl) (pe_callK (ok_crossed T hT) (hr.mono (by omega)) rfl T.crossed.g T.crossed.F.kp T.crossed.b pass0 (pa_cons (pe_ix (ix_seqK (K := K) rfl) (pv 2) pe_int (fun _ _ => rfl)) pa_nil) (pk_cons (pe_ix (ix_seqK (K := K) rfl) (pv 0) pe_int (fun _ _ => rfl)) (pk_cons (pe_fldK (K := K) rfl (pv 1) rfl) pk_nil))))
    (pss_one (ps_ret (pe_or (pe_cmpR op_isN (pv 3) pe_non (nomark _)) (pe_one (pe_cmpR (op_eqAK (K := K) rfl hr.units) (pe_ix (ix_seqK (K := K) rfl) (pe_callK (ok_kind_at T hT) (hr.mono (by omega)) rfl T.kind_at.g T.kind_at.F.kp T.kind_at.b pass0 (pa_cons (pv 3) pa_nil) (pk_cons (pe_ix (ix_seqK (K := K) rfl) (pv 0) pe_int (fun _ _ => rfl)) (pk_cons (pe_fldK (K := K) rfl (pv 1) rfl) pk_nil))) pe_int (fun _ _ => rfl)) pe_str (nomark _)))))))),
    (ss_seq (ss_if (st_test (se_op sr_ne (se_op sr_ix (se_var 2) se_int) se_str)) (ss_ret se_bl) ss_nil)
    (ss_seq (ss_asg (se_callkw ar_crossed (fun _ _ _ _ _ h g => g12_rel h g) (sa_cons (se_op sr_ix (se_var 2) se_int) sa_nil) (sa_cons (se_op sr_ix (se_var 0) se_int) (sa_cons (se_fld T.cl_Graph T.na_Graph_kinds (se_var 1)) sa_nil))) (sg_name 3))
    (ss_ret (se_orV (se_op sr_isN (se_var 3) se_non) (se_op sr_eq (se_op sr_ix (se_callkw ar_kind_at (fun _ _ _ _ _ h g => g12_rel h g) (sa_cons (se_var 3) sa_nil) (sa_cons (se_op sr_ix (se_var 0) se_int) (sa_cons (se_fld T.cl_Graph T.na_Graph_kinds (se_var 1)) sa_nil))) se_int) se_str)))))⟩
theorem ok_loans (T : Txt w K mg) (hT : Tbs T base) : FnOk P w K mg base CX0 6 T.loans.f T.loans.fd ["program", "graph"] (spD K T.tb 2 (m_loans T.C_Graph T.C_Lowering)) :=
  def_ok (k := 5) T.loans.F sc_loans fun A outer s H E hr => ⟨_, (pss_cons (ps_set (i := 2) sc_loans.nd rfl (Or.inl rfl) pe_dnewK)
    (pss_cons (ps_for PassesOwn.never rfl (pi_enumLK (K := K) rfl (by rfl) T.z_enumerate (pa_cons (pe_fldK (K := K) rfl (pv 1) rfl) pa_nil)) (pg_tup rfl (pgs_cons (pg_name (i := 3) sc_loans.nd rfl (Or.inl rfl)) (pgs_cons (pg_name (i := 4) sc_loans.nd rfl (Or.inl rfl)) pgs_nil))) (pss_one (ps_if (pt_val (pe_call (ok_makes_loan T hT) (hr.mono (by omega)) rfl T.makes_loan.g T.makes_loan.F.kp T.makes_loan.b .nil pass0 (pa_cons (pv 0) (pa_cons (pv 1) (pa_cons (pv 4) pa_nil))))) (pss_one (ps_dput (hu_of hr) (pv 2) (pv 3) (pe_tup (pa_cons (pe_ix (ix_seqK (K := K) rfl) (pv 4) pe_int (fun _ _ => rfl)) (pa_cons (pe_ix (ix_seqK (K := K) rfl) (pv 4) pe_int (fun _ _ => rfl)) pa_nil))) rfl)) pss_nil)))
    (pss_one (ps_ret (pv 2))))),
    (ss_seq (ss_asg se_dnew (sg_name 2))
    (ss_seq (ss_for (si_enum (sa_cons (se_fld T.cl_Graph T.na_Graph_points (se_var 1)) sa_nil)) (sg_tup (glen_cons (glen_cons glen_nil)) (sgs_cons (sg_name 3) (sgs_cons (sg_name 4) sgs_nil))) (ss_if (st_val (se_call ar_makes_loan (sa_cons (se_var 0) (sa_cons (se_var 1) (sa_cons (se_var 4) sa_nil))))) (ss_dput (se_var 2) (se_var 3) (se_tup (sa_cons (se_op sr_ix (se_var 4) se_int) (sa_cons (se_op sr_ix (se_var 4) se_int) sa_nil)))) ss_nil))
    (ss_ret (se_var 2))))⟩
theorem ok_law_tape (T : Txt w K mg) (hT : Tbs T base) : FnOk P w K mg base CX0 1 T._law_tape.f T._law_tape.fd ["script"] (spD K T.tb 1 (m_law_tape)) :=
  def_ok (k := 0) T._law_tape.F sc__law_tape fun A outer s H E hr => ⟨_, (pss_cons (ps_set (i := 1) sc__law_tape.nd rfl (Or.inl rfl) (pe_lst pa_nil))
    (pss_cons (ps_set (i := 2) sc__law_tape.nd rfl (Or.inl rfl) pe_int)
    (pss_cons (ps_for PassesOwn.never rfl (pi_lstK (K := K) rfl (pe_slice (sl_allK (K := K) rfl) (pv 0) po_none (po_some pe_int))) (pg_name (i := 3) sc__law_tape.nd rfl (Or.inl rfl)) (pss_cons (ps_set (i := 4) sc__law_tape.nd rfl (Or.inl rfl) (pe_callB call_abs rfl T.z_abs PyProof.Rows.boot_abs (pa_cons (pe_callTy call_int1 rfl T.z_int PyProof.Rows.boot_int (pa_cons (pv 3) pa_nil)) pa_nil)))
    (pss_cons (ps_set (i := 2) sc__law_tape.nd rfl (Or.inl rfl) (pe_op (op_plusK (K := K) rfl) (pv 2) (pv 4)))
    (pss_one (ps_for PassesOwn.never rfl (pi_range1 (by rfl) T.z_range (pa_cons pe_int pa_nil)) (pg_name (i := 5) sc__law_tape.nd rfl (Or.inl rfl)) (pss_cons (ps_expr (pe_bm PySem.F.plainAttrs_list PySem.F.slot_list_append PySem.F.type_list_append mt_append (pv 1) (pa_cons (pe_op op_mod (pe_callTy call_int1 rfl T.z_int PyProof.Rows.boot_int (pa_cons (pv 4) pa_nil)) pe_int) pa_nil)))
    (pss_cons (ps_set (i := 4) sc__law_tape.nd rfl (Or.inl rfl) (pe_op op_fdivW (pv 4) pe_int))
    (pss_one (ps_if (pt_cmpR (op_eqAK (K := K) rfl hr.units) (pv 4) pe_int (nomark _)) (pss_one ps_break) pss_nil)))))))))
    (pss_one (ps_ret (pe_lst (pa_cons pe_int (pa_cons (pv 1) (pa_cons (pe_op op_mod (pe_callTy call_int1 rfl T.z_int PyProof.Rows.boot_int (pa_cons (pv 2) pa_nil)) pe_int) pa_nil))))))))),
    (ss_seq (ss_asg (se_lstL sa_nil) (sg_name 1))
    (ss_seq (ss_asg se_int (sg_name 2))
    (ss_seq (ss_for (si_lst (se_sl (L := false) (se_var 0) so_none (so_some se_int))) (sg_name 3) (ss_seq (ss_asg (se_cb sc_abs (sa_cons (se_cb sc_int (sa_cons (se_var 3) sa_nil)) sa_nil)) (sg_name 4))
    (ss_seq (ss_asg (se_op (sr_plus (L := false)) (se_var 2) (se_var 4)) (sg_name 2))
    (ss_for (si_rng1 (sa_cons se_int sa_nil)) (sg_name 5) (ss_seq (ss_drop (se_bm sm_append (se_var 1) (sa_cons (se_op sr_mod (se_cb sc_int (sa_cons (se_var 4) sa_nil)) se_int) sa_nil)))
    (ss_seq (ss_asg (se_op sr_div (se_var 4) se_int) (sg_name 4))
    (ss_if (st_test (se_op sr_eq (se_var 4) se_int)) ss_brk ss_nil)))))))
    (ss_ret (se_lstL (sa_cons se_int (sa_cons (se_var 1) (sa_cons (se_op sr_mod (se_cb sc_int (sa_cons (se_var 2) sa_nil)) se_int) sa_nil))))))))⟩
theorem ok_law_next (T : Txt w K mg) (hT : Tbs T base) : FnOk P w K mg base CX0 1 T._law_next.f T._law_next.fd ["tape", "many"] (spD K T.tb 2 (m_law_next)) :=
  def_ok (k := 0) T._law_next.F sc__law_next fun A outer s H E hr => ⟨_, (pss_cons (ps_set (i := 2) sc__law_next.nd rfl (Or.inl rfl) (pe_ix (ix_seqK (K := K) rfl) (pv 0) pe_int (fun _ _ => rfl)))
    (pss_cons (ps_asg (pe_op (op_plusK (K := K) rfl) (pv 2) pe_int) (pg_sub (pv 0) pe_int set_list))
    (pss_cons (ps_if (pt_cmpR op_lt (pv 2) (pe_callB (cr_lenK (K := K) rfl) rfl T.z_len PySem.boot_len (pa_cons (pe_ix (ix_seqK (K := K) rfl) (pv 0) pe_int (fun _ _ => rfl)) pa_nil)) (nomark _)) (pss_one (ps_ret (pe_op op_mod (pe_callTy call_int1 rfl T.z_int PyProof.Rows.boot_int (pa_cons (pe_ix (ix_seqK (K := K) rfl) (pe_ix (ix_seqK (K := K) rfl) (pv 0) pe_int (fun _ _ => rfl)) (pv 2) (fun _ _ => rfl)) pa_nil)) (pv 1)))) pss_nil)
    (pss_one (ps_ret (pe_op op_mod (pe_op op_fdivW (pe_op op_mod (pe_callTy call_int1 rfl T.z_int PyProof.Rows.boot_int (pa_cons (pe_op (op_plusK (K := K) rfl) (pe_op op_mulA (pe_op (op_plusK (K := K) rfl) (pv 2) pe_int) pe_int) (pe_op op_mulA (pe_ix (ix_seqK (K := K) rfl) (pv 0) pe_int (fun _ _ => rfl)) pe_int)) pa_nil)) pe_int) pe_int) (pv 1))))))),
    (ss_seq (ss_asg (se_op sr_ix (se_var 0) se_int) (sg_name 2))
    (ss_seq (ss_asg (se_op (sr_plus (L := false)) (se_var 2) se_int) (sg_ix (se_var 0) se_int))
    (ss_seq (ss_if (st_test (se_op sr_lt (se_var 2) (se_cb sc_len (sa_cons (se_op sr_ix (se_var 0) se_int) sa_nil)))) (ss_ret (se_op sr_mod (se_cb sc_int (sa_cons (se_op sr_ix (se_op sr_ix (se_var 0) se_int) (se_var 2)) sa_nil)) (se_var 1))) ss_nil)
    (ss_ret (se_op sr_mod (se_op sr_div (se_op sr_mod (se_cb sc_int (sa_cons (se_op (sr_plus (L := false)) (se_op sr_mul (se_op (sr_plus (L := false)) (se_var 2) se_int) se_int) (se_op sr_mul (se_op sr_ix (se_var 0) se_int) se_int)) sa_nil)) se_int) se_int) (se_var 1))))))⟩
end
section
variable {P : Program} {w : World} {K : PySem.W.Frag} {mg : Str → Option Value} {base : Heap}
theorem ok_law_parameters (T : Txt w K mg) (hT : Tbs T base) : FnOk P w K mg base CX0 1 T._law_parameters.f T._law_parameters.fd [] (spD K T.tb 0 (m_law_parameters)) :=
  def_ok (k := 0) T._law_parameters.F sc__law_parameters fun A outer s H E hr => ⟨_, (pss_cons (ps_set (i := 0) sc__law_parameters.nd rfl (Or.inl rfl) (pe_tup (pa_cons pe_str (pa_cons (pe_tup (pa_cons (pe_tup (pa_cons pe_str pa_nil)) (pa_cons (pe_tup (pa_cons pe_str pa_nil)) pa_nil))) pa_nil))))
    (pss_cons (ps_set (i := 1) sc__law_parameters.nd rfl (Or.inl rfl) (pe_lst (pa_cons (pe_tup (pa_cons pe_str (pa_cons (pe_tup (pa_cons pe_str (pa_cons (pe_tup (pa_cons (pe_tup (pa_cons pe_str (pa_cons (pv 0) pa_nil))) (pa_cons (pe_tup (pa_cons pe_str pa_nil)) pa_nil))) pa_nil))) pa_nil))) (pa_cons (pe_tup (pa_cons pe_str (pa_cons (pe_tup (pa_cons pe_str (pa_cons (pv 0) pa_nil))) pa_nil))) (pa_cons (pe_tup (pa_cons pe_str (pa_cons (pe_tup (pa_cons pe_str (pa_cons (pv 0) pa_nil))) pa_nil))) pa_nil)))))
    (pss_one (ps_ret (pe_callTy (cr_tupK (K := K) rfl) rfl T.z_tuple PyProof.Rows.boot_tuple (pa_cons (pe_op (op_plusK (K := K) rfl) (pv 1) (pe_lst (pa_cons (pe_tup (pa_cons pe_str (pa_cons (pe_tup (pa_cons pe_str (pa_cons (pe_tup (pa_cons pe_str (pa_cons (pe_tup (pa_cons pe_str pa_nil)) pa_nil))) pa_nil))) pa_nil))) (pa_cons (pe_tup (pa_cons pe_str (pa_cons (pe_tup (pa_cons pe_str (pa_cons (pe_tup (pa_cons pe_str pa_nil)) pa_nil))) pa_nil))) (pa_cons (pe_tup (pa_cons pe_str (pa_cons (pe_tup (pa_cons pe_str (pa_cons (pe_tup (pa_cons pe_str pa_nil)) pa_nil))) pa_nil))) pa_nil))))) pa_nil)))))),
    (ss_seq (ss_asg (se_tup (sa_cons se_str (sa_cons (se_tup (sa_cons (se_tup (sa_cons se_str sa_nil)) (sa_cons (se_tup (sa_cons se_str sa_nil)) sa_nil))) sa_nil))) (sg_name 0))
    (ss_seq (ss_asg (se_lstF (sa_cons (se_tup (sa_cons se_str (sa_cons (se_tup (sa_cons se_str (sa_cons (se_tup (sa_cons (se_tup (sa_cons se_str (sa_cons (se_var 0) sa_nil))) (sa_cons (se_tup (sa_cons se_str sa_nil)) sa_nil))) sa_nil))) sa_nil))) (sa_cons (se_tup (sa_cons se_str (sa_cons (se_tup (sa_cons se_str (sa_cons (se_var 0) sa_nil))) sa_nil))) (sa_cons (se_tup (sa_cons se_str (sa_cons (se_tup (sa_cons se_str (sa_cons (se_var 0) sa_nil))) sa_nil))) sa_nil)))) (sg_name 1))
    (ss_ret (se_cb sc_tuple (sa_cons (se_op (sr_plus (L := false)) (se_var 1) (se_lstF (sa_cons (se_tup (sa_cons se_str (sa_cons (se_tup (sa_cons se_str (sa_cons (se_tup (sa_cons se_str (sa_cons (se_tup (sa_cons se_str sa_nil)) sa_nil))) sa_nil))) sa_nil))) (sa_cons (se_tup (sa_cons se_str (sa_cons (se_tup (sa_cons se_str (sa_cons (se_tup (sa_cons se_str sa_nil)) sa_nil))) sa_nil))) (sa_cons (se_tup (sa_cons se_str (sa_cons (se_tup (sa_cons se_str (sa_cons (se_tup (sa_cons se_str sa_nil)) sa_nil))) sa_nil))) sa_nil))))) sa_nil)))))⟩
theorem ok_law_places (T : Txt w K mg) (hT : Tbs T base) : FnOk P w K mg base CX0 1 T._law_places.f T._law_places.fd [] (spD K T.tb 0 (m_law_places)) :=
  def_ok (k := 0) T._law_places.F sc__law_places fun A outer s H E hr => ⟨_, (pss_cons (ps_set (i := 0) sc__law_places.nd rfl (Or.inl rfl) (pe_lst (pa_cons (pe_tup (pa_cons pe_str (pa_cons (pe_tup pa_nil) pa_nil))) (pa_cons (pe_tup (pa_cons pe_str (pa_cons (pe_tup (pa_cons pe_int pa_nil)) pa_nil))) (pa_cons (pe_tup (pa_cons pe_str (pa_cons (pe_tup (pa_cons pe_int pa_nil)) pa_nil))) (pa_cons (pe_tup (pa_cons pe_str (pa_cons (pe_tup (pa_cons pe_int (pa_cons pe_str pa_nil))) pa_nil))) (pa_cons (pe_tup (pa_cons pe_str (pa_cons (pe_tup (pa_cons pe_int (pa_cons pe_str (pa_cons pe_int pa_nil)))) pa_nil))) (pa_cons (pe_tup (pa_cons pe_str (pa_cons (pe_tup pa_nil) pa_nil))) (pa_cons (pe_tup (pa_cons pe_str (pa_cons (pe_tup (pa_cons pe_str pa_nil)) pa_nil))) (pa_cons (pe_tup (pa_cons pe_str (pa_cons (pe_tup (pa_cons pe_str (pa_cons pe_int pa_nil))) pa_nil))) pa_nil))))))))))
    (pss_cons (ps_set (i := 0) sc__law_places.nd rfl (Or.inl rfl) (pe_op (op_plusK (K := K) rfl) (pv 0) (pe_lst (pa_cons (pe_tup (pa_cons pe_str (pa_cons (pe_tup pa_nil) pa_nil))) (pa_cons (pe_tup (pa_cons pe_str (pa_cons (pe_tup (pa_cons pe_str pa_nil)) pa_nil))) (pa_cons (pe_tup (pa_cons pe_str (pa_cons (pe_tup (pa_cons pe_str (pa_cons pe_int pa_nil))) pa_nil))) (pa_cons (pe_tup (pa_cons pe_str (pa_cons (pe_tup pa_nil) pa_nil))) (pa_cons (pe_tup (pa_cons pe_str (pa_cons (pe_tup (pa_cons pe_str pa_nil)) pa_nil))) (pa_cons (pe_tup (pa_cons pe_str (pa_cons (pe_tup (pa_cons pe_str (pa_cons pe_str pa_nil))) pa_nil))) (pa_cons (pe_tup (pa_cons pe_str (pa_cons (pe_tup pa_nil) pa_nil))) (pa_cons (pe_tup (pa_cons pe_str (pa_cons (pe_tup (pa_cons pe_str pa_nil)) pa_nil))) pa_nil)))))))))))
    (pss_one (ps_ret (pe_op (op_plusK (K := K) rfl) (pv 0) (pe_lst (pa_cons (pe_tup (pa_cons pe_str (pa_cons (pe_tup pa_nil) pa_nil))) pa_nil))))))),
    (ss_seq (ss_asg (se_lstF (sa_cons (se_tup (sa_cons se_str (sa_cons (se_tup sa_nil) sa_nil))) (sa_cons (se_tup (sa_cons se_str (sa_cons (se_tup (sa_cons se_int sa_nil)) sa_nil))) (sa_cons (se_tup (sa_cons se_str (sa_cons (se_tup (sa_cons se_int sa_nil)) sa_nil))) (sa_cons (se_tup (sa_cons se_str (sa_cons (se_tup (sa_cons se_int (sa_cons se_str sa_nil))) sa_nil))) (sa_cons (se_tup (sa_cons se_str (sa_cons (se_tup (sa_cons se_int (sa_cons se_str (sa_cons se_int sa_nil)))) sa_nil))) (sa_cons (se_tup (sa_cons se_str (sa_cons (se_tup sa_nil) sa_nil))) (sa_cons (se_tup (sa_cons se_str (sa_cons (se_tup (sa_cons se_str sa_nil)) sa_nil))) (sa_cons (se_tup (sa_cons se_str (sa_cons (se_tup (sa_cons se_str (sa_cons se_int sa_nil))) sa_nil))) sa_nil))))))))) (sg_name 0))
    (ss_seq (ss_asg (se_op (sr_plus (L := false)) (se_var 0) (se_lstF (sa_cons (se_tup (sa_cons se_str (sa_cons (se_tup sa_nil) sa_nil))) (sa_cons (se_tup (sa_cons se_str (sa_cons (se_tup (sa_cons se_str sa_nil)) sa_nil))) (sa_cons (se_tup (sa_cons se_str (sa_cons (se_tup (sa_cons se_str (sa_cons se_int sa_nil))) sa_nil))) (sa_cons (se_tup (sa_cons se_str (sa_cons (se_tup sa_nil) sa_nil))) (sa_cons (se_tup (sa_cons se_str (sa_cons (se_tup (sa_cons se_str sa_nil)) sa_nil))) (sa_cons (se_tup (sa_cons se_str (sa_cons (se_tup (sa_cons se_str (sa_cons se_str sa_nil))) sa_nil))) (sa_cons (se_tup (sa_cons se_str (sa_cons (se_tup sa_nil) sa_nil))) (sa_cons (se_tup (sa_cons se_str (sa_cons (se_tup (sa_cons se_str sa_nil)) sa_nil))) sa_nil)))))))))) (sg_name 0))
    (ss_ret (se_op (sr_plus (L := false)) (se_var 0) (se_lstF (sa_cons (se_tup (sa_cons se_str (sa_cons (se_tup sa_nil) sa_nil))) sa_nil))))))⟩
theorem ok_law_kind (T : Txt w K mg) (hT : Tbs T base) : FnOk P w K mg base CX0 2 T._law_kind.f T._law_kind.fd ["place"] (spD K T.tb 1 (m_law_kind)) :=
  def_ok (k := 1) T._law_kind.F sc__law_kind fun A outer s H E hr => ⟨_, (pss_cons (ps_set (i := 1) sc__law_kind.nd rfl (Or.inl rfl) (pe_ix (ix_seqK (K := K) rfl) (pe_lc (own := [("pair", 3)]) rfl sc__law_kind.nd (pi_tupK (K := K) rfl (pe_call0 (ok_law_parameters T hT) (hr.mono (by omega)) rfl T._law_parameters.g T._law_parameters.F.kp T._law_parameters.b .nil pass0)) (blkOk_by (N := ["place", "kind", "step", "pair"]) (sc := defScope s__law_kind) (by decide +kernel)) (fun _ _ _ _ _ => (pg_name (i := 3) sc__law_kind.nd rfl (Or.inl rfl))) (fun _ _ _ _ _ => pts_one (pt_cmpR (op_eqAK (K := K) rfl hr.units) (pe_ix (ix_seqK (K := K) rfl) (pv 3) pe_int (fun _ _ => rfl)) (pe_ix (ix_seqK (K := K) rfl) (pv 0) pe_int (fun _ _ => rfl)) (nomark _))) (fun _ _ _ _ _ => (pe_ix (ix_seqK (K := K) rfl) (pv 3) pe_int (fun _ _ => rfl)))) pe_int (fun _ _ => rfl)))
    (pss_cons (ps_for PassesOwn.never rfl (pi_tupK (K := K) rfl (pe_ix (ix_seqK (K := K) rfl) (pv 0) pe_int (fun _ _ => rfl))) (pg_name (i := 2) sc__law_kind.nd rfl (Or.inl rfl)) (pss_one (ps_set (i := 1) sc__law_kind.nd rfl (Or.inl rfl) (pe_ifExp (pt_cmpR (op_inK (K := K) rfl) (pv 2) (pe_lst (pa_cons pe_str (pa_cons pe_str pa_nil))) (by rfl)) (pe_ix (ix_seqK (K := K) rfl) (pv 1) pe_int (fun _ _ => rfl)) (pe_ix (ix_seqK (K := K) rfl) (pe_ix (ix_seqK (K := K) rfl) (pv 1) pe_int (fun _ _ => rfl)) (pv 2) (fun _ _ => rfl))))))
    (pss_one (ps_ret (pv 1))))),
    (ss_seq (ss_asg (se_op sr_ix (se_lc smk_F (si_tup (se_call ar_law_parameters sa_nil)) (sg_name 3) (by decide) (st_test (se_op sr_eq (se_op sr_ix (se_var 3) se_int) (se_op sr_ix (se_var 0) se_int))) (se_op sr_ix (se_var 3) se_int)) se_int) (sg_name 1))
    (ss_seq (ss_for (si_tup (se_op sr_ix (se_var 0) se_int)) (sg_name 2) (ss_asg (se_if (st_test (se_op (sr_in (n := false)) (se_var 2) (se_lstF (sa_cons se_str (sa_cons se_str sa_nil))))) (se_op sr_ix (se_var 1) se_int) (se_op sr_ix (se_op sr_ix (se_var 1) se_int) (se_var 2))) (sg_name 1)))
    (ss_ret (se_var 1))))⟩
theorem ok_law_crossing (T : Txt w K mg) (hT : Tbs T base) : FnOk P w K mg base CX0 3 T._law_crossing.f T._law_crossing.fd ["place"] (spD K T.tb 1 (m_law_crossing)) :=
  def_ok (k := 2) T._law_crossing.F sc__law_crossing fun A outer s H E hr => ⟨_, (pss_cons (ps_for PassesOwn.never rfl (pi_range1 (by rfl) T.z_range (pa_cons (pe_callB (cr_lenK (K := K) rfl) rfl T.z_len PySem.boot_len (pa_cons (pe_ix (ix_seqK (K := K) rfl) (pv 0) pe_int (fun _ _ => rfl)) pa_nil)) pa_nil)) (pg_name (i := 1) sc__law_crossing.nd rfl (Or.inl rfl)) (pss_one (ps_if (PW.pt (pw_and (pt_cmpR (op_eqAK (K := K) rfl hr.units) (pe_ix (ix_seqK (K := K) rfl) (pe_ix (ix_seqK (K := K) rfl) (pv 0) pe_int (fun _ _ => rfl)) (pv 1) (fun _ _ => rfl)) pe_str (nomark _)) (pw_and1 (pt_cmpR (op_neAK (K := K) rfl hr.units) (pe_ix (ix_seqK (K := K) rfl) (pe_call (ok_law_kind T hT) (hr.mono (by omega)) rfl T._law_kind.g T._law_kind.F.kp T._law_kind.b .nil pass0 (pa_cons (pe_tup (pa_cons (pe_ix (ix_seqK (K := K) rfl) (pv 0) pe_int (fun _ _ => rfl)) (pa_cons (pe_slice (sl_allK (K := K) rfl) (pe_ix (ix_seqK (K := K) rfl) (pv 0) pe_int (fun _ _ => rfl)) po_none (po_some (pv 1))) pa_nil))) pa_nil)) pe_int (fun _ _ => rfl)) pe_str (nomark _))))) (pss_one (ps_ret (pe_tup (pa_cons (pe_ix (ix_seqK (K := K) rfl) (pv 0) pe_int (fun _ _ => rfl)) (pa_cons (pe_slice (sl_allK (K := K) rfl) (pe_ix (ix_seqK (K := K) rfl) (pv 0) pe_int (fun _ _ => rfl)) po_none (po_some (pv 1))) pa_nil))))) pss_nil)))
    (pss_one (ps_ret pe_non))),
    (ss_seq (ss_for (si_rng1 (sa_cons (se_cb sc_len (sa_cons (se_op sr_ix (se_var 0) se_int) sa_nil)) sa_nil)) (sg_name 1) (ss_if (st_and (st_test (se_op sr_eq (se_op sr_ix (se_op sr_ix (se_var 0) se_int) (se_var 1)) se_str)) (st_test (se_op sr_ne (se_op sr_ix (se_call ar_law_kind (sa_cons (se_tup (sa_cons (se_op sr_ix (se_var 0) se_int) (sa_cons (se_sl (L := false) (se_op sr_ix (se_var 0) se_int) so_none (so_some (se_var 1))) sa_nil))) sa_nil)) se_int) se_str))) (ss_ret (se_tup (sa_cons (se_op sr_ix (se_var 0) se_int) (sa_cons (se_sl (L := false) (se_op sr_ix (se_var 0) se_int) so_none (so_some (se_var 1))) sa_nil)))) ss_nil))
    (ss_ret se_non))⟩
theorem ok_law_leaves (T : Txt w K mg) (hT : Tbs T base) : ∀ n : Nat, FnOk P w K mg base CX0 (1 + 1 * n) T._law_leaves.f T._law_leaves.fd ["place", "kind"] (spD K T.tb 2 (m_law_leaves n))
  | 0 => fn_none
  | n + 1 => (def_ok (k := 1 + 1 * n) (body := b_law_leaves (m_law_leaves n)) (fz := false) T._law_leaves.F sc__law_leaves fun A outer s H E hr => ⟨_, (pss_cons (ps_if (pt_cmpR (op_inK (K := K) rfl) (pe_ix (ix_seqK (K := K) rfl) (pv 1) pe_int (fun _ _ => rfl)) (pe_lst (pa_cons pe_str (pa_cons pe_str (pa_cons pe_str pa_nil)))) (by rfl)) (pss_one (ps_ret (pe_lst (pa_cons (pv 0) pa_nil)))) pss_nil)
    (pss_cons (ps_set (i := 2) sc__law_leaves.nd rfl (Or.inl rfl) (pe_lst pa_nil))
    (pss_cons (ps_if (pt_cmpR (op_eqAK (K := K) rfl hr.units) (pe_ix (ix_seqK (K := K) rfl) (pv 1) pe_int (fun _ _ => rfl)) pe_str (nomark _)) (pss_one (ps_set (i := 2) sc__law_leaves.nd rfl (Or.inl rfl) (pe_call (ok_law_leaves T hT n) (hr.mono (by omega)) rfl T._law_leaves.g T._law_leaves.F.kp T._law_leaves.b .nil pass0 (pa_cons (pe_tup (pa_cons (pe_ix (ix_seqK (K := K) rfl) (pv 0) pe_int (fun _ _ => rfl)) (pa_cons (pe_op (op_plusK (K := K) rfl) (pe_ix (ix_seqK (K := K) rfl) (pv 0) pe_int (fun _ _ => rfl)) (pe_tup (pa_cons pe_str pa_nil))) pa_nil))) (pa_cons (pe_ix (ix_seqK (K := K) rfl) (pv 1) pe_int (fun _ _ => rfl)) pa_nil))))) pss_nil)
    (pss_cons (ps_if (pt_cmpR (op_eqAK (K := K) rfl hr.units) (pe_ix (ix_seqK (K := K) rfl) (pv 1) pe_int (fun _ _ => rfl)) pe_str (nomark _)) (pss_one (ps_for PassesOwn.never rfl (pi_range1 (by rfl) T.z_range (pa_cons (pe_callB (cr_lenK (K := K) rfl) rfl T.z_len PySem.boot_len (pa_cons (pe_ix (ix_seqK (K := K) rfl) (pv 1) pe_int (fun _ _ => rfl)) pa_nil)) pa_nil)) (pg_name (i := 3) sc__law_leaves.nd rfl (Or.inl rfl)) (pss_one (ps_set (i := 2) sc__law_leaves.nd rfl (Or.inl rfl) (pe_op (op_plusK (K := K) rfl) (pv 2) (pe_call (ok_law_leaves T hT n) (hr.mono (by omega)) rfl T._law_leaves.g T._law_leaves.F.kp T._law_leaves.b .nil pass0 (pa_cons (pe_tup (pa_cons (pe_ix (ix_seqK (K := K) rfl) (pv 0) pe_int (fun _ _ => rfl)) (pa_cons (pe_op (op_plusK (K := K) rfl) (pe_ix (ix_seqK (K := K) rfl) (pv 0) pe_int (fun _ _ => rfl)) (pe_tup (pa_cons (pv 3) pa_nil))) pa_nil))) (pa_cons (pe_ix (ix_seqK (K := K) rfl) (pe_ix (ix_seqK (K := K) rfl) (pv 1) pe_int (fun _ _ => rfl)) (pv 3) (fun _ _ => rfl)) pa_nil)))))))) pss_nil)
    (pss_one (ps_ret (pv 2))))))),
    (ss_seq (ss_if (st_test (se_op (sr_in (n := false)) (se_op sr_ix (se_var 1) se_int) (se_lstF (sa_cons se_str (sa_cons se_str (sa_cons se_str sa_nil)))))) (ss_ret (se_lstF (sa_cons (se_var 0) sa_nil))) ss_nil)
    (ss_seq (ss_asg (se_lstF sa_nil) (sg_name 2))
    (ss_seq (ss_if (st_test (se_op sr_eq (se_op sr_ix (se_var 1) se_int) se_str)) (ss_asg (se_call (ar_law_leaves n) (sa_cons (se_tup (sa_cons (se_op sr_ix (se_var 0) se_int) (sa_cons (se_op (sr_plus (L := false)) (se_op sr_ix (se_var 0) se_int) (se_tup (sa_cons se_str sa_nil))) sa_nil))) (sa_cons (se_op sr_ix (se_var 1) se_int) sa_nil))) (sg_name 2)) ss_nil)
    (ss_seq (ss_if (st_test (se_op sr_eq (se_op sr_ix (se_var 1) se_int) se_str)) (ss_for (si_rng1 (sa_cons (se_cb sc_len (sa_cons (se_op sr_ix (se_var 1) se_int) sa_nil)) sa_nil)) (sg_name 3) (ss_asg (se_op (sr_plus (L := false)) (se_var 2) (se_call (ar_law_leaves n) (sa_cons (se_tup (sa_cons (se_op sr_ix (se_var 0) se_int) (sa_cons (se_op (sr_plus (L := false)) (se_op sr_ix (se_var 0) se_int) (se_tup (sa_cons (se_var 3) sa_nil))) sa_nil))) (sa_cons (se_op sr_ix (se_op sr_ix (se_var 1) se_int) (se_var 3)) sa_nil)))) (sg_name 2))) ss_nil)
    (ss_ret (se_var 2))))))⟩).mono (by omega)
theorem ok_law_plain (T : Txt w K mg) (hT : Tbs T base) : ∀ n : Nat, FnOk P w K mg base CX0 (1 + 1 * n) T._law_plain.f T._law_plain.fd ["kind"] (spD K T.tb 1 (m_law_plain n))
  | 0 => fn_none
  | n + 1 => (def_ok (k := 1 + 1 * n) (body := b_law_plain (m_law_plain n)) (fz := false) T._law_plain.F sc__law_plain fun A outer s H E hr => ⟨_, (pss_cons (ps_if (pt_cmpR (op_inK (K := K) rfl) (pe_ix (ix_seqK (K := K) rfl) (pv 0) pe_int (fun _ _ => rfl)) (pe_lst (pa_cons pe_str (pa_cons pe_str (pa_cons pe_str pa_nil)))) (by rfl)) (pss_one (ps_ret pe_bl)) pss_nil)
    (pss_cons (ps_if (pt_cmpR (op_eqAK (K := K) rfl hr.units) (pe_ix (ix_seqK (K := K) rfl) (pv 0) pe_int (fun _ _ => rfl)) pe_str (nomark _)) (pss_one (ps_ret (pe_cmpR (op_eqAK (K := K) rfl hr.units) (pe_callB (cr_lenK (K := K) rfl) rfl T.z_len PySem.boot_len (pa_cons (pe_lc (own := [("item", 1)]) rfl sc__law_plain.nd (pi_tupK (K := K) rfl (pe_ix (ix_seqK (K := K) rfl) (pv 0) pe_int (fun _ _ => rfl))) (blkOk_by (N := ["kind", "item"]) (sc := defScope s__law_plain) (by decide +kernel)) (fun _ _ _ _ _ => (pg_name (i := 1) sc__law_plain.nd rfl (Or.inl rfl))) (fun _ _ _ _ _ => pts_one (pt_not (pt_val (pe_call (ok_law_plain T hT n) (hr.mono (by omega)) rfl T._law_plain.g T._law_plain.F.kp T._law_plain.b .nil pass0 (pa_cons (pv 1) pa_nil))))) (fun _ _ _ _ _ => (pv 1))) pa_nil)) pe_int (nomark _)))) pss_nil)
    (pss_one (ps_ret (pe_or (pe_cmpR (op_neAK (K := K) rfl hr.units) (pe_ix (ix_seqK (K := K) rfl) (pv 0) pe_int (fun _ _ => rfl)) pe_str (nomark _)) (pe_one (pe_call (ok_law_plain T hT n) (hr.mono (by omega)) rfl T._law_plain.g T._law_plain.F.kp T._law_plain.b .nil pass0 (pa_cons (pe_ix (ix_seqK (K := K) rfl) (pv 0) pe_int (fun _ _ => rfl)) pa_nil)))))))),
    (ss_seq (ss_if (st_test (se_op (sr_in (n := false)) (se_op sr_ix (se_var 0) se_int) (se_lstF (sa_cons se_str (sa_cons se_str (sa_cons se_str sa_nil)))))) (ss_ret se_bl) ss_nil)
    (ss_seq (ss_if (st_test (se_op sr_eq (se_op sr_ix (se_var 0) se_int) se_str)) (ss_ret (se_op sr_eq (se_cb sc_len (sa_cons (se_lc smk_F (si_tup (se_op sr_ix (se_var 0) se_int)) (sg_name 1) (by decide) (st_not (st_val (se_call (ar_law_plain n) (sa_cons (se_var 1) sa_nil)))) (se_var 1)) sa_nil)) se_int)) ss_nil)
    (ss_ret (se_orV (se_op sr_ne (se_op sr_ix (se_var 0) se_int) se_str) (se_call (ar_law_plain n) (sa_cons (se_op sr_ix (se_var 0) se_int) sa_nil))))))⟩).mono (by omega)
end
section
variable {P : Program} {w : World} {K : PySem.W.Frag} {mg : Str → Option Value} {base : Heap}
theorem ok_law_value (T : Txt w K mg) (hT : Tbs T base) : ∀ n : Nat, FnOk P w K mg base CX0 (1 + 1 * n) T._law_value.f T._law_value.fd ["kind"] (spD K T.tb 1 (m_law_value n))
  | 0 => fn_none
  | n + 1 => (def_ok (k := 1 + 1 * n) (body := b_law_value (m_law_value n)) (fz := false) T._law_value.F sc__law_value fun A outer s H E hr => ⟨_, (pss_cons (ps_if (pt_cmpR (op_eqAK (K := K) rfl hr.units) (pe_ix (ix_seqK (K := K) rfl) (pv 0) pe_int (fun _ _ => rfl)) pe_str (nomark _)) (pss_one (ps_ret (pe_tup (pa_cons pe_str (pa_cons pe_int pa_nil))))) pss_nil)
    (pss_cons (ps_if (pt_cmpR (op_eqAK (K := K) rfl hr.units) (pe_ix (ix_seqK (K := K) rfl) (pv 0) pe_int (fun _ _ => rfl)) pe_str (nomark _)) (pss_one (ps_ret (pe_tup (pa_cons pe_str (pa_cons (pe_callTy (cr_tupK (K := K) rfl) rfl T.z_tuple PyProof.Rows.boot_tuple (pa_cons (pe_lc (own := [("item", 1)]) (tt := tYes) rfl sc__law_value.nd (pi_tupK (K := K) rfl (pe_ix (ix_seqK (K := K) rfl) (pv 0) pe_int (fun _ _ => rfl))) (blkOk_by (N := ["kind", "item"]) (sc := defScope s__law_value) (by decide +kernel)) (fun _ _ _ _ _ => (pg_name (i := 1) sc__law_value.nd rfl (Or.inl rfl))) (fun _ _ _ _ _ => pts_nil) (fun _ _ _ _ _ => (pe_call (ok_law_value T hT n) (hr.mono (by omega)) rfl T._law_value.g T._law_value.F.kp T._law_value.b .nil pass0 (pa_cons (pv 1) pa_nil)))) pa_nil)) pa_nil))))) pss_nil)
    (pss_cons (ps_if (pt_cmpR (op_eqAK (K := K) rfl hr.units) (pe_ix (ix_seqK (K := K) rfl) (pv 0) pe_int (fun _ _ => rfl)) pe_str (nomark _)) (pss_one (ps_ret (pe_tup (pa_cons pe_str (pa_cons (pe_call (ok_law_value T hT n) (hr.mono (by omega)) rfl T._law_value.g T._law_value.F.kp T._law_value.b .nil pass0 (pa_cons (pe_ix (ix_seqK (K := K) rfl) (pv 0) pe_int (fun _ _ => rfl)) pa_nil)) pa_nil))))) pss_nil)
    (pss_one (ps_ret (pe_tup (pa_cons pe_str (pa_cons (pe_call (ok_law_value T hT n) (hr.mono (by omega)) rfl T._law_value.g T._law_value.F.kp T._law_value.b .nil pass0 (pa_cons (pe_ix (ix_seqK (K := K) rfl) (pv 0) pe_int (fun _ _ => rfl)) pa_nil)) pa_nil)))))))),
    (ss_seq (ss_if (st_test (se_op sr_eq (se_op sr_ix (se_var 0) se_int) se_str)) (ss_ret (se_tup (sa_cons se_str (sa_cons se_int sa_nil)))) ss_nil)
    (ss_seq (ss_if (st_test (se_op sr_eq (se_op sr_ix (se_var 0) se_int) se_str)) (ss_ret (se_tup (sa_cons se_str (sa_cons (se_cb sc_tuple (sa_cons (se_lc smk_F (si_tup (se_op sr_ix (se_var 0) se_int)) (sg_name 1) (by decide) st_yes (se_call (ar_law_value n) (sa_cons (se_var 1) sa_nil))) sa_nil)) sa_nil)))) ss_nil)
    (ss_seq (ss_if (st_test (se_op sr_eq (se_op sr_ix (se_var 0) se_int) se_str)) (ss_ret (se_tup (sa_cons se_str (sa_cons (se_call (ar_law_value n) (sa_cons (se_op sr_ix (se_var 0) se_int) sa_nil)) sa_nil)))) ss_nil)
    (ss_ret (se_tup (sa_cons se_str (sa_cons (se_call (ar_law_value n) (sa_cons (se_op sr_ix (se_var 0) se_int) sa_nil)) sa_nil)))))))⟩).mono (by omega)
theorem ok_law_statement (T : Txt w K mg) (hT : Tbs T base) : FnOk P w K mg base CX0 62 T._law_statement.f T._law_statement.fd ["tape"] (spD K T.tb 1 (m_law_statement)) :=
  def_ok (k := 61) T._law_statement.F sc__law_statement fun A outer s H E hr => ⟨_, (pss_cons (ps_set (i := 1) sc__law_statement.nd rfl (Or.inl rfl) (pe_call0 (ok_law_places T hT) (hr.mono (by omega)) rfl T._law_places.g T._law_places.F.kp T._law_places.b .nil pass0))
    (pss_cons (ps_set (i := 2) sc__law_statement.nd rfl (Or.inl rfl) (pe_ix (ix_seqK (K := K) rfl) (pv 1) (pe_call (ok_law_next T hT) (hr.mono (by omega)) rfl T._law_next.g T._law_next.F.kp T._law_next.b .nil pass0 (pa_cons (pv 0) (pa_cons (pe_callB (cr_lenK (K := K) rfl) rfl T.z_len PySem.boot_len (pa_cons (pv 1) pa_nil)) pa_nil))) (fun _ _ => rfl)))
    (pss_cons (ps_set (i := 3) sc__law_statement.nd rfl (Or.inl rfl) (pe_call (ok_law_kind T hT) (hr.mono (by omega)) rfl T._law_kind.g T._law_kind.F.kp T._law_kind.b .nil pass0 (pa_cons (pv 2) pa_nil)))
    (pss_cons (ps_set (i := 4) sc__law_statement.nd rfl (Or.inl rfl) (pe_call (ok_law_crossing T hT) (hr.mono (by omega)) rfl T._law_crossing.g T._law_crossing.F.kp T._law_crossing.b .nil pass0 (pa_cons (pv 2) pa_nil)))
    (pss_cons (ps_set (i := 5) sc__law_statement.nd rfl (Or.inl rfl) (pe_and (pe_cmpR op_notN (pv 4) pe_non (nomark _)) (pe_one (pe_cmpR (op_eqAK (K := K) rfl hr.units) (pe_ix (ix_seqK (K := K) rfl) (pe_call (ok_law_kind T hT) (hr.mono (by omega)) rfl T._law_kind.g T._law_kind.F.kp T._law_kind.b .nil pass0 (pa_cons (pv 4) pa_nil)) pe_int (fun _ _ => rfl)) pe_str (nomark _)))))
    (pss_cons (ps_set (i := 6) sc__law_statement.nd rfl (Or.inl rfl) (pe_call (ok_law_next T hT) (hr.mono (by omega)) rfl T._law_next.g T._law_next.F.kp T._law_next.b .nil pass0 (pa_cons (pv 0) (pa_cons pe_int pa_nil))))
    (pss_cons (ps_if (PW.pt (pw_and (pt_cmpR (op_eqAK (K := K) rfl hr.units) (pv 6) pe_int (nomark _)) (pw_and1 (pt_val (pe_call (ok_law_plain T hT 14) (hr.mono (by omega)) rfl T._law_plain.g T._law_plain.F.kp T._law_plain.b .nil pass0 (pa_cons (pv 3) pa_nil)))))) (pss_one (ps_ret (pe_tup (pa_cons pe_str (pa_cons (pe_tup (pa_cons pe_str (pa_cons pe_str (pa_cons (pv 2) pa_nil)))) pa_nil))))) pss_nil)
    (pss_cons (ps_if (PW.pt (pw_and (pt_cmpR (op_eqAK (K := K) rfl hr.units) (pv 6) pe_int (nomark _)) (pw_and (pt_val (pe_call (ok_law_plain T hT 14) (hr.mono (by omega)) rfl T._law_plain.g T._law_plain.F.kp T._law_plain.b .nil pass0 (pa_cons (pv 3) pa_nil))) (pw_and1 (pt_not (pt_val (pv 5))))))) (pss_one (ps_ret (pe_tup (pa_cons pe_str (pa_cons (pe_tup (pa_cons pe_str (pa_cons pe_str (pa_cons (pv 2) pa_nil)))) pa_nil))))) pss_nil)
    (pss_cons (ps_if (PW.pt (pw_and (pt_cmpR (op_eqAK (K := K) rfl hr.units) (pv 6) pe_int (nomark _)) (pw_and1 (pt_cmpR (op_eqAK (K := K) rfl hr.units) (pe_ix (ix_seqK (K := K) rfl) (pv 3) pe_int (fun _ _ => rfl)) pe_str (nomark _))))) (pss_one (ps_ret (pe_tup (pa_cons pe_str (pa_cons (pe_tup (pa_cons pe_str (pa_cons (pv 2) pa_nil))) pa_nil))))) pss_nil)
    (pss_cons (ps_if (PW.pt (pw_and (pt_cmpR (op_eqAK (K := K) rfl hr.units) (pv 6) pe_int (nomark _)) (pw_and (pt_val (pe_call (ok_law_plain T hT 14) (hr.mono (by omega)) rfl T._law_plain.g T._law_plain.F.kp T._law_plain.b .nil pass0 (pa_cons (pv 3) pa_nil))) (pw_and1 (pt_not (pt_val (pv 5))))))) (pss_one (ps_ret (pe_tup (pa_cons pe_str (pa_cons (pe_tup (pa_cons pe_str (pa_cons (pv 2) (pa_cons (pe_call (ok_law_value T hT 60) (hr.mono (by omega)) rfl T._law_value.g T._law_value.F.kp T._law_value.b .nil pass0 (pa_cons (pv 3) pa_nil)) pa_nil)))) pa_nil))))) pss_nil)
    (pss_cons (ps_if (PW.pt (pw_and (pt_cmpR (op_eqAK (K := K) rfl hr.units) (pv 6) pe_int (nomark _)) (pw_and (pt_val (pe_call (ok_law_plain T hT 14) (hr.mono (by omega)) rfl T._law_plain.g T._law_plain.F.kp T._law_plain.b .nil pass0 (pa_cons (pv 3) pa_nil))) (pw_and1 (pt_not (pt_val (pv 5))))))) (pss_one (ps_ret (pe_tup (pa_cons pe_str (pa_cons (pv 2) (pa_cons (pe_call (ok_law_value T hT 60) (hr.mono (by omega)) rfl T._law_value.g T._law_value.F.kp T._law_value.b .nil pass0 (pa_cons (pv 3) pa_nil)) pa_nil)))))) pss_nil)
    (pss_one (ps_ret (pe_tup (pa_cons pe_str (pa_cons (pe_tup (pa_cons pe_str (pa_cons (pv 2) pa_nil))) pa_nil)))))))))))))))),
    (ss_seq (ss_asg (se_call ar_law_places sa_nil) (sg_name 1))
    (ss_seq (ss_asg (se_op sr_ix (se_var 1) (se_call ar_law_next (sa_cons (se_var 0) (sa_cons (se_cb sc_len (sa_cons (se_var 1) sa_nil)) sa_nil)))) (sg_name 2))
    (ss_seq (ss_asg (se_call ar_law_kind (sa_cons (se_var 2) sa_nil)) (sg_name 3))
    (ss_seq (ss_asg (se_call ar_law_crossing (sa_cons (se_var 2) sa_nil)) (sg_name 4))
    (ss_seq (ss_asg (se_andV (se_op sr_notN (se_var 4) se_non) (se_op sr_eq (se_op sr_ix (se_call ar_law_kind (sa_cons (se_var 4) sa_nil)) se_int) se_str)) (sg_name 5))
    (ss_seq (ss_asg (se_call ar_law_next (sa_cons (se_var 0) (sa_cons se_int sa_nil))) (sg_name 6))
    (ss_seq (ss_if (st_and (st_test (se_op sr_eq (se_var 6) se_int)) (st_val (se_call (ar_law_plain 14) (sa_cons (se_var 3) sa_nil)))) (ss_ret (se_tup (sa_cons se_str (sa_cons (se_tup (sa_cons se_str (sa_cons se_str (sa_cons (se_var 2) sa_nil)))) sa_nil)))) ss_nil)
    (ss_seq (ss_if (st_and (st_test (se_op sr_eq (se_var 6) se_int)) (st_and (st_val (se_call (ar_law_plain 14) (sa_cons (se_var 3) sa_nil))) (st_not (st_val (se_var 5))))) (ss_ret (se_tup (sa_cons se_str (sa_cons (se_tup (sa_cons se_str (sa_cons se_str (sa_cons (se_var 2) sa_nil)))) sa_nil)))) ss_nil)
    (ss_seq (ss_if (st_and (st_test (se_op sr_eq (se_var 6) se_int)) (st_test (se_op sr_eq (se_op sr_ix (se_var 3) se_int) se_str))) (ss_ret (se_tup (sa_cons se_str (sa_cons (se_tup (sa_cons se_str (sa_cons (se_var 2) sa_nil))) sa_nil)))) ss_nil)
    (ss_seq (ss_if (st_and (st_test (se_op sr_eq (se_var 6) se_int)) (st_and (st_val (se_call (ar_law_plain 14) (sa_cons (se_var 3) sa_nil))) (st_not (st_val (se_var 5))))) (ss_ret (se_tup (sa_cons se_str (sa_cons (se_tup (sa_cons se_str (sa_cons (se_var 2) (sa_cons (se_call (ar_law_value 60) (sa_cons (se_var 3) sa_nil)) sa_nil)))) sa_nil)))) ss_nil)
    (ss_seq (ss_if (st_and (st_test (se_op sr_eq (se_var 6) se_int)) (st_and (st_val (se_call (ar_law_plain 14) (sa_cons (se_var 3) sa_nil))) (st_not (st_val (se_var 5))))) (ss_ret (se_tup (sa_cons se_str (sa_cons (se_var 2) (sa_cons (se_call (ar_law_value 60) (sa_cons (se_var 3) sa_nil)) sa_nil))))) ss_nil)
    (ss_ret (se_tup (sa_cons se_str (sa_cons (se_tup (sa_cons se_str (sa_cons (se_var 2) sa_nil))) sa_nil)))))))))))))))⟩
theorem ok_law_due (T : Txt w K mg) (hT : Tbs T base) : FnOk P w K mg base CX0 16 T._law_due.f T._law_due.fd ["row", "kinds"] (spD K T.tb 2 (m_law_due)) :=
  def_ok (k := 15) T._law_due.F sc__law_due fun A outer s H E hr => ⟨_, (pss_cons (ps_set (i := 2) sc__law_due.nd rfl (Or.inl rfl) (pe_ix (ix_seqK (K := K) rfl) (pv 0) pe_int (fun _ _ => rfl)))
    (pss_cons (ps_if (pt_cmpR (op_ninK (K := K) rfl) (pv 2) (pe_lst (pa_cons pe_str (pa_cons pe_str (pa_cons pe_str (pa_cons pe_str (pa_cons pe_str (pa_cons pe_str pa_nil))))))) (by rfl)) (pss_one (ps_ret pe_non)) pss_nil)
    (pss_cons (ps_set (i := 3) sc__law_due.nd rfl (Or.inl rfl) (pe_ifExp (pt_cmpR (op_eqAK (K := K) rfl hr.units) (pv 2) pe_str (nomark _)) (pe_ix (ix_seqK (K := K) rfl) (pv 0) pe_int (fun _ _ => rfl)) (pe_ifExp (pt_cmpR (op_eqAK (K := K) rfl hr.units) (pv 2) pe_str (nomark _)) (pe_ix (ix_seqK (K := K) rfl) (pv 0) pe_int (fun _ _ => rfl)) (pe_ix (ix_seqK (K := K) rfl) (pv 0) pe_int (fun _ _ => rfl)))))
    (pss_cons (ps_set (i := 4) sc__law_due.nd rfl (Or.inl rfl) (pe_call (ok_law_crossing T hT) (hr.mono (by omega)) rfl T._law_crossing.g T._law_crossing.F.kp T._law_crossing.b .nil pass0 (pa_cons (pv 3) pa_nil)))
    (pss_cons (ps_set (i := 5) sc__law_due.nd rfl (Or.inl rfl) (pe_ifExp (pt_cmpR op_isN (pv 4) pe_non (nomark _)) (pe_lst pa_nil) (pe_lst (pa_cons (pv 4) pa_nil))))
    (pss_cons (ps_set (i := 6) sc__law_due.nd rfl (Or.inr rfl) (pe_call (ok_law_leaves T hT 14) (hr.mono (by omega)) rfl T._law_leaves.g T._law_leaves.F.kp T._law_leaves.b .nil pass0 (pa_cons (pv 3) (pa_cons (pe_call (ok_law_kind T hT) (hr.mono (by omega)) rfl T._law_kind.g T._law_kind.F.kp T._law_kind.b .nil pass0 (pa_cons (pv 3) pa_nil)) pa_nil))))
    (pss_cons (ps_if (pt_cmpR (op_inK (K := K) rfl) (pv 2) (pe_lst (pa_cons pe_str (pa_cons pe_str pa_nil))) (by rfl)) (pss_cons (ps_set (i := 7) sc__law_due.nd rfl (Or.inr rfl) (pe_call (ok_law_leaves T hT 14) (hr.mono (by omega)) rfl T._law_leaves.g T._law_leaves.F.kp T._law_leaves.b .nil pass0 (pa_cons (pe_tup (pa_cons (pe_ix (ix_seqK (K := K) rfl) (pv 0) pe_int (fun _ _ => rfl)) (pa_cons (pe_tup pa_nil) pa_nil))) (pa_cons (pe_dget (hu_of hr) (pv 1) (pe_ix (ix_seqK (K := K) rfl) (pv 0) pe_int (fun _ _ => rfl)) (fun _ _ => rfl)) pa_nil))))
    (pss_cons (ps_setLc (i := 8) (own := [("k", 9)]) (tt := tYes) rfl sc__law_due.nd rfl rfl (sw_true rfl rfl rfl (by decide +kernel)) (pi_range1 (by rfl) T.z_range (pa_cons (pe_callB (cr_lenK (K := K) rfl) rfl T.z_len PySem.boot_len (pa_cons (pv 6) pa_nil)) pa_nil)) (blkOk_by (N := ["row", "kinds", "word", "place", "cross", "used", "own", "made", "sent", "k"]) (sc := defScope s__law_due) (by decide +kernel)) (fun _ _ _ _ _ => (pg_name (i := 9) sc__law_due.nd rfl (Or.inl rfl))) (fun _ _ _ _ _ => pts_nil) (fun _ _ _ _ _ => (pe_tup (pa_cons (pe_ix (ix_seqK (K := K) rfl) (pv 6) (pv 9) (fun _ _ => rfl)) (pa_cons (pe_ix (ix_seqK (K := K) rfl) (pv 7) (pv 9) (fun _ _ => rfl)) pa_nil)))))
    (pss_one (ps_ret (pe_lst (pa_cons (pe_op (op_plusK (K := K) rfl) (pv 6) (pv 5)) (pa_cons (pe_ifExp (pt_cmpR (op_eqAK (K := K) rfl hr.units) (pv 2) pe_str (nomark _)) (pv 6) (pe_lst pa_nil)) (pa_cons (pv 8) (pa_cons (pe_tup (pa_cons (pe_ifExp (pt_cmpR (op_eqAK (K := K) rfl hr.units) (pv 2) pe_str (nomark _)) pe_str pe_str) (pa_cons (pv 3) pa_nil))) pa_nil))))))))) pss_nil)
    (pss_cons (ps_if (pt_cmpR (op_eqAK (K := K) rfl hr.units) (pv 2) pe_str (nomark _)) (pss_cons (ps_set (i := 8) sc__law_due.nd rfl (Or.inl rfl) (pe_ifExp (pt_cmpR op_isN (pv 4) pe_non (nomark _)) (pe_lst pa_nil) (pe_lst (pa_cons (pe_tup (pa_cons (pv 4) (pa_cons (pe_tup (pa_cons (pe_ix (ix_seqK (K := K) rfl) (pv 0) pe_int (fun _ _ => rfl)) (pa_cons (pe_tup pa_nil) pa_nil))) pa_nil))) pa_nil))))
    (pss_one (ps_ret (pe_lst (pa_cons (pv 5) (pa_cons (pe_lst pa_nil) (pa_cons (pv 8) (pa_cons (pe_tup (pa_cons (pe_ifExp (pt_cmpR (op_eqAK (K := K) rfl hr.units) (pe_ix (ix_seqK (K := K) rfl) (pv 0) pe_int (fun _ _ => rfl)) pe_str (nomark _)) pe_str pe_str) (pa_cons (pv 3) pa_nil))) pa_nil)))))))) pss_nil)
    (pss_cons (ps_if (pt_cmpR (op_eqAK (K := K) rfl hr.units) (pv 2) pe_str (nomark _)) (pss_one (ps_ret (pe_lst (pa_cons (pv 5) (pa_cons (pv 6) (pa_cons (pe_lst pa_nil) (pa_cons (pe_tup (pa_cons pe_str (pa_cons (pv 3) pa_nil))) pa_nil))))))) pss_nil)
    (pss_one (ps_ret (pe_lst (pa_cons (pv 5) (pa_cons (pe_lst pa_nil) (pa_cons (pe_lst pa_nil) (pa_cons (pe_tup (pa_cons (pe_ifExp (pt_cmpR (op_eqAK (K := K) rfl hr.units) (pv 2) pe_str (nomark _)) pe_str pe_str) (pa_cons (pv 3) pa_nil))) pa_nil)))))))))))))))),
    (ss_seq (ss_asg (se_op sr_ix (se_var 0) se_int) (sg_name 2))
    (ss_seq (ss_if (st_test (se_op (sr_in (n := true)) (se_var 2) (se_lstF (sa_cons se_str (sa_cons se_str (sa_cons se_str (sa_cons se_str (sa_cons se_str (sa_cons se_str sa_nil))))))))) (ss_ret se_non) ss_nil)
    (ss_seq (ss_asg (se_if (st_test (se_op sr_eq (se_var 2) se_str)) (se_op sr_ix (se_var 0) se_int) (se_if (st_test (se_op sr_eq (se_var 2) se_str)) (se_op sr_ix (se_var 0) se_int) (se_op sr_ix (se_var 0) se_int))) (sg_name 3))
    (ss_seq (ss_asg (se_call ar_law_crossing (sa_cons (se_var 3) sa_nil)) (sg_name 4))
    (ss_seq (ss_asg (se_if (st_test (se_op sr_isN (se_var 4) se_non)) (se_lstF sa_nil) (se_lstF (sa_cons (se_var 4) sa_nil))) (sg_name 5))
    (ss_seq (ss_asg (se_call (ar_law_leaves 14) (sa_cons (se_var 3) (sa_cons (se_call ar_law_kind (sa_cons (se_var 3) sa_nil)) sa_nil))) (sg_name 6))
    (ss_seq (ss_if (st_test (se_op (sr_in (n := false)) (se_var 2) (se_lstF (sa_cons se_str (sa_cons se_str sa_nil))))) (ss_seq (ss_asg (se_call (ar_law_leaves 14) (sa_cons (se_tup (sa_cons (se_op sr_ix (se_var 0) se_int) (sa_cons (se_tup sa_nil) sa_nil))) (sa_cons (se_dget (se_var 1) (se_op sr_ix (se_var 0) se_int)) sa_nil))) (sg_name 7))
    (ss_seq (ss_asg (se_lc smk_F (si_rng1 (sa_cons (se_cb sc_len (sa_cons (se_var 6) sa_nil)) sa_nil)) (sg_name 9) (by decide) st_yes (se_tup (sa_cons (se_op sr_ix (se_var 6) (se_var 9)) (sa_cons (se_op sr_ix (se_var 7) (se_var 9)) sa_nil)))) (sg_name 8))
    (ss_ret (se_lstF (sa_cons (se_op (sr_plus (L := false)) (se_var 6) (se_var 5)) (sa_cons (se_if (st_test (se_op sr_eq (se_var 2) se_str)) (se_var 6) (se_lstF sa_nil)) (sa_cons (se_var 8) (sa_cons (se_tup (sa_cons (se_if (st_test (se_op sr_eq (se_var 2) se_str)) se_str se_str) (sa_cons (se_var 3) sa_nil))) sa_nil)))))))) ss_nil)
    (ss_seq (ss_if (st_test (se_op sr_eq (se_var 2) se_str)) (ss_seq (ss_asg (se_if (st_test (se_op sr_isN (se_var 4) se_non)) (se_lstF sa_nil) (se_lstF (sa_cons (se_tup (sa_cons (se_var 4) (sa_cons (se_tup (sa_cons (se_op sr_ix (se_var 0) se_int) (sa_cons (se_tup sa_nil) sa_nil))) sa_nil))) sa_nil))) (sg_name 8))
    (ss_ret (se_lstF (sa_cons (se_var 5) (sa_cons (se_lstF sa_nil) (sa_cons (se_var 8) (sa_cons (se_tup (sa_cons (se_if (st_test (se_op sr_eq (se_op sr_ix (se_var 0) se_int) se_str)) se_str se_str) (sa_cons (se_var 3) sa_nil))) sa_nil))))))) ss_nil)
    (ss_seq (ss_if (st_test (se_op sr_eq (se_var 2) se_str)) (ss_ret (se_lstF (sa_cons (se_var 5) (sa_cons (se_var 6) (sa_cons (se_lstF sa_nil) (sa_cons (se_tup (sa_cons se_str (sa_cons (se_var 3) sa_nil))) sa_nil)))))) ss_nil)
    (ss_ret (se_lstF (sa_cons (se_var 5) (sa_cons (se_lstF sa_nil) (sa_cons (se_lstF sa_nil) (sa_cons (se_tup (sa_cons (se_if (st_test (se_op sr_eq (se_var 2) se_str)) se_str se_str) (sa_cons (se_var 3) sa_nil))) sa_nil)))))))))))))))⟩
theorem ok_law_right (T : Txt w K mg) (hT : Tbs T base) : FnOk P w K mg base CX0 1 T._law_right.f T._law_right.fd ["actual", "due"] (spD K T.tb 2 (m_law_right)) :=
  def_ok (k := 0) T._law_right.F sc__law_right fun A outer s H E hr => ⟨_, (pss_cons (ps_if (PW.pt (pw_or (pt_not (pt_val (pe_callB (cr_isiK (K := K) rfl) rfl T.z_isinstance PyProof.Rows.boot_isinstance (pa_cons (pv 0) (pa_cons (pe_bltn (v := .ty "tuple") rfl T.z_tuple PyProof.Rows.boot_tuple rfl) pa_nil))))) (pw_or1 (pt_cmpR (op_neAK (K := K) rfl hr.units) (pe_callB (cr_lenK (K := K) rfl) rfl T.z_len PySem.boot_len (pa_cons (pv 0) pa_nil)) (pe_callB (cr_lenK (K := K) rfl) rfl T.z_len PySem.boot_len (pa_cons (pv 1) pa_nil)) (nomark _))))) (pss_one (ps_ret pe_bl)) pss_nil)
    (pss_one (ps_ret (pe_cmpR (op_eqAK (K := K) rfl hr.units) (pe_callB (cr_lenK (K := K) rfl) rfl T.z_len PySem.boot_len (pa_cons (pe_lc (own := [("one", 2)]) rfl sc__law_right.nd (pi_lstK (K := K) rfl (pv 1)) (blkOk_by (N := ["actual", "due", "one"]) (sc := defScope s__law_right) (by decide +kernel)) (fun _ _ _ _ _ => (pg_name (i := 2) sc__law_right.nd rfl (Or.inl rfl))) (fun _ _ _ _ _ => pts_one (pt_cmpR (op_ninUK (K := K) rfl (roomD hr)) (pv 2) (pv 0) (by rfl))) (fun _ _ _ _ _ => (pv 2))) pa_nil)) pe_int (nomark _))))),
    (ss_seq (ss_if (st_or (st_not (st_val (se_isT (se_var 0)))) (st_test (se_op sr_ne (se_cb sc_len (sa_cons (se_var 0) sa_nil)) (se_cb sc_len (sa_cons (se_var 1) sa_nil))))) (ss_ret se_bl) ss_nil)
    (ss_ret (se_op sr_eq (se_cb sc_len (sa_cons (se_lc smk_F (si_lst (se_var 1)) (sg_name 2) (by decide) (st_test (se_op sr_inU (se_var 2) (se_var 0))) (se_var 2)) sa_nil)) se_int)))⟩
theorem ok_law (T : Txt w K mg) (hT : Tbs T base) : FnOk P w K mg base CX0 83 T.law.f T.law.fd ["script"] (spD K T.tb 1 (m_law T.C_Graph T.C_Lowering)) :=
  def_ok (k := 82) T.law.F sc_law fun A outer s H E hr => ⟨_, (pss_cons (ps_set (i := 1) sc_law.nd rfl (Or.inr rfl) (pe_call (ok_law_tape T hT) (hr.mono (by omega)) rfl T._law_tape.g T._law_tape.F.kp T._law_tape.b .nil pass0 (pa_cons (pv 0) pa_nil)))
    (pss_cons (ps_set (i := 3) sc_law.nd rfl (Or.inl rfl) (pe_callTy (cr_tupK (K := K) rfl) rfl T.z_tuple PyProof.Rows.boot_tuple (pa_cons (pe_lc (own := [("k", 2)]) (tt := tYes) rfl sc_law.nd (pi_range1 (by rfl) T.z_range (pa_cons (pe_op (op_plusK (K := K) rfl) pe_int (pe_call (ok_law_next T hT) (hr.mono (by omega)) rfl T._law_next.g T._law_next.F.kp T._law_next.b .nil pass0 (pa_cons (pv 1) (pa_cons pe_int pa_nil)))) pa_nil)) (blkOk_by (N := ["script", "tape", "k", "body", "program", "graph", "lent", "row", "due", "cross"]) (sc := defScope s_law) (by decide +kernel)) (fun _ _ _ _ _ => (pg_name (i := 2) sc_law.nd rfl (Or.inl rfl))) (fun _ _ _ _ _ => pts_nil) (fun _ _ _ _ _ => (pe_call (ok_law_statement T hT) (hr.mono (by omega)) rfl T._law_statement.g T._law_statement.F.kp T._law_statement.b .nil pass0 (pa_cons (pv 1) pa_nil)))) pa_nil)))
    (pss_cons (ps_set (i := 4) sc_law.nd rfl (Or.inl rfl) (pe_tup (pa_cons (pe_tup pa_nil) (pa_cons (pe_tup (pa_cons (pe_tup (pa_cons pe_str (pa_cons (pe_call0 (ok_law_parameters T hT) (hr.mono (by omega)) rfl T._law_parameters.g T._law_parameters.F.kp T._law_parameters.b .nil pass0) (pa_cons (pe_tup (pa_cons pe_str pa_nil)) (pa_cons (pe_tup pa_nil) (pa_cons (pv 3) pa_nil)))))) (pa_cons (pe_tup (pa_cons pe_str (pa_cons (pe_tup pa_nil) (pa_cons (pe_tup (pa_cons pe_str pa_nil)) (pa_cons (pe_tup pa_nil) (pa_cons (pe_tup pa_nil) pa_nil)))))) pa_nil))) pa_nil))))
    (pss_cons (ps_set (i := 5) sc_law.nd rfl (Or.inl rfl) (pe_call (ok_build_graph T hT) (hr.mono (by omega)) rfl T.build_graph.g T.build_graph.F.kp T.build_graph.b .nil pass0 (pa_cons (pv 4) (pa_cons pe_str pa_nil))))
    (pss_cons (ps_set (i := 6) sc_law.nd rfl (Or.inl rfl) pe_dnewK)
    (pss_cons (ps_for PassesOwn.never rfl (pi_range1 (by rfl) T.z_range (pa_cons (pe_callB (cr_lenK (K := K) rfl) rfl T.z_len PySem.boot_len (pa_cons (pe_fldK (K := K) rfl (pv 5) rfl) pa_nil)) pa_nil)) (pg_name (i := 2) sc_law.nd rfl (Or.inl rfl)) (pss_cons (ps_set (i := 7) sc_law.nd rfl (Or.inl rfl) (pe_ix (ix_seqK (K := K) rfl) (pe_fldK (K := K) rfl (pv 5) rfl) (pv 2) (fun _ _ => rfl)))
    (pss_cons (ps_set (i := 8) sc_law.nd rfl (Or.inl rfl) (pe_call (ok_law_due T hT) (hr.mono (by omega)) rfl T._law_due.g T._law_due.F.kp T._law_due.b .nil pass0 (pa_cons (pv 7) (pa_cons (pe_fldK (K := K) rfl (pv 5) rfl) pa_nil))))
    (pss_cons (ps_if (pt_cmpR op_notN (pv 8) pe_non (nomark _)) (pss_cons (ps_if (PW.pt (pw_or (pt_not (pt_val (pe_call (ok_law_right T hT) (hr.mono (by omega)) rfl T._law_right.g T._law_right.F.kp T._law_right.b .nil pass0 (pa_cons (pe_call (ok_uses T hT) (hr.mono (by omega)) rfl T.uses.g T.uses.F.kp T.uses.b .nil pass0 (pa_cons (pv 4) (pa_cons (pv 5) (pa_cons (pv 2) pa_nil)))) (pa_cons (pe_ix (ix_seqK (K := K) rfl) (pv 8) pe_int (fun _ _ => rfl)) pa_nil))))) (pw_or1 (pt_not (pt_val (pe_call (ok_law_right T hT) (hr.mono (by omega)) rfl T._law_right.g T._law_right.F.kp T._law_right.b .nil pass0 (pa_cons (pe_call (ok_clears T hT) (hr.mono (by omega)) rfl T.clears.g T.clears.F.kp T.clears.b .nil pass0 (pa_cons (pv 4) (pa_cons (pv 5) (pa_cons (pv 2) pa_nil)))) (pa_cons (pe_ix (ix_seqK (K := K) rfl) (pv 8) pe_int (fun _ _ => rfl)) pa_nil)))))))) (pss_one (ps_ret pe_bl)) pss_nil)
    (pss_one (ps_if (PW.pt (pw_or (pt_not (pt_val (pe_call (ok_law_right T hT) (hr.mono (by omega)) rfl T._law_right.g T._law_right.F.kp T._law_right.b .nil pass0 (pa_cons (pe_call (ok_moves T hT) (hr.mono (by omega)) rfl T.moves.g T.moves.F.kp T.moves.b .nil pass0 (pa_cons (pv 4) (pa_cons (pv 5) (pa_cons (pv 2) pa_nil)))) (pa_cons (pe_ix (ix_seqK (K := K) rfl) (pv 8) pe_int (fun _ _ => rfl)) pa_nil))))) (pw_or1 (pt_cmpR (op_neAK (K := K) rfl hr.units) (pe_call (ok_access T hT) (hr.mono (by omega)) rfl T.access.g T.access.F.kp T.access.b .nil pass0 (pa_cons (pv 4) (pa_cons (pv 5) (pa_cons (pv 2) pa_nil)))) (pe_ix (ix_seqK (K := K) rfl) (pv 8) pe_int (fun _ _ => rfl)) (nomark _))))) (pss_one (ps_ret pe_bl)) pss_nil))) pss_nil)
    (pss_one (ps_if (pt_cmpR (op_eqAK (K := K) rfl hr.units) (pe_ix (ix_seqK (K := K) rfl) (pv 7) pe_int (fun _ _ => rfl)) pe_str (nomark _)) (pss_cons (ps_set (i := 9) sc_law.nd rfl (Or.inl rfl) (pe_call (ok_law_crossing T hT) (hr.mono (by omega)) rfl T._law_crossing.g T._law_crossing.F.kp T._law_crossing.b .nil pass0 (pa_cons (pe_ix (ix_seqK (K := K) rfl) (pv 7) pe_int (fun _ _ => rfl)) pa_nil)))
    (pss_one (ps_if (PW.pt (pw_or (pt_cmpR op_isN (pv 9) pe_non (nomark _)) (pw_or1 (pt_cmpR (op_neAK (K := K) rfl hr.units) (pe_ix (ix_seqK (K := K) rfl) (pe_call (ok_law_kind T hT) (hr.mono (by omega)) rfl T._law_kind.g T._law_kind.F.kp T._law_kind.b .nil pass0 (pa_cons (pv 9) pa_nil)) pe_int (fun _ _ => rfl)) pe_str (nomark _))))) (pss_one (ps_dput (hu_of hr) (pv 6) (pv 2) (pe_tup (pa_cons (pe_ix (ix_seqK (K := K) rfl) (pv 7) pe_int (fun _ _ => rfl)) (pa_cons (pe_ix (ix_seqK (K := K) rfl) (pv 7) pe_int (fun _ _ => rfl)) pa_nil))) rfl)) pss_nil))) pss_nil))))))
    (pss_one (ps_ret (pe_cmpR (op_eqDct (K := K) rfl hr.units) (pe_call (ok_loans T hT) (hr.mono (by omega)) rfl T.loans.g T.loans.F.kp T.loans.b .nil pass0 (pa_cons (pv 4) (pa_cons (pv 5) pa_nil))) (pv 6) (nomark _)))))))))),
    (ss_seq (ss_asg (se_call ar_law_tape (sa_cons (se_var 0) sa_nil)) (sg_name 1))
    (ss_seq (ss_asg (se_cb sc_tuple (sa_cons (se_lc smk_F (si_rng1 (sa_cons (se_op (sr_plus (L := false)) se_int (se_call ar_law_next (sa_cons (se_var 1) (sa_cons se_int sa_nil)))) sa_nil)) (sg_name 2) (by decide) st_yes (se_call ar_law_statement (sa_cons (se_var 1) sa_nil))) sa_nil)) (sg_name 3))
    (ss_seq (ss_asg (se_tup (sa_cons (se_tup sa_nil) (sa_cons (se_tup (sa_cons (se_tup (sa_cons se_str (sa_cons (se_call ar_law_parameters sa_nil) (sa_cons (se_tup (sa_cons se_str sa_nil)) (sa_cons (se_tup sa_nil) (sa_cons (se_var 3) sa_nil)))))) (sa_cons (se_tup (sa_cons se_str (sa_cons (se_tup sa_nil) (sa_cons (se_tup (sa_cons se_str sa_nil)) (sa_cons (se_tup sa_nil) (sa_cons (se_tup sa_nil) sa_nil)))))) sa_nil))) sa_nil))) (sg_name 4))
    (ss_seq (ss_asg (se_call ar_build_graph (sa_cons (se_var 4) (sa_cons se_str sa_nil))) (sg_name 5))
    (ss_seq (ss_asg se_dnew (sg_name 6))
    (ss_seq (ss_for (si_rng1 (sa_cons (se_cb sc_len (sa_cons (se_fld T.cl_Graph T.na_Graph_points (se_var 5)) sa_nil)) sa_nil)) (sg_name 2) (ss_seq (ss_asg (se_op sr_ix (se_fld T.cl_Graph T.na_Graph_points (se_var 5)) (se_var 2)) (sg_name 7))
    (ss_seq (ss_asg (se_call ar_law_due (sa_cons (se_var 7) (sa_cons (se_fld T.cl_Graph T.na_Graph_kinds (se_var 5)) sa_nil))) (sg_name 8))
    (ss_seq (ss_if (st_test (se_op sr_notN (se_var 8) se_non)) (ss_seq (ss_if (st_or (st_not (st_val (se_call ar_law_right (sa_cons (se_call ar_uses (sa_cons (se_var 4) (sa_cons (se_var 5) (sa_cons (se_var 2) sa_nil)))) (sa_cons (se_op sr_ix (se_var 8) se_int) sa_nil))))) (st_not (st_val (se_call ar_law_right (sa_cons (se_call ar_clears (sa_cons (se_var 4) (sa_cons (se_var 5) (sa_cons (se_var 2) sa_nil)))) (sa_cons (se_op sr_ix (se_var 8) se_int) sa_nil)))))) (ss_ret se_bl) ss_nil)
    (ss_if (st_or (st_not (st_val (se_call ar_law_right (sa_cons (se_call ar_moves (sa_cons (se_var 4) (sa_cons (se_var 5) (sa_cons (se_var 2) sa_nil)))) (sa_cons (se_op sr_ix (se_var 8) se_int) sa_nil))))) (st_test (se_op sr_ne (se_call ar_access (sa_cons (se_var 4) (sa_cons (se_var 5) (sa_cons (se_var 2) sa_nil)))) (se_op sr_ix (se_var 8) se_int)))) (ss_ret se_bl) ss_nil)) ss_nil)
    (ss_if (st_test (se_op sr_eq (se_op sr_ix (se_var 7) se_int) se_str)) (ss_seq (ss_asg (se_call ar_law_crossing (sa_cons (se_op sr_ix (se_var 7) se_int) sa_nil)) (sg_name 9))
    (ss_if (st_or (st_test (se_op sr_isN (se_var 9) se_non)) (st_test (se_op sr_ne (se_op sr_ix (se_call ar_law_kind (sa_cons (se_var 9) sa_nil)) se_int) se_str))) (ss_dput (se_var 6) (se_var 2) (se_tup (sa_cons (se_op sr_ix (se_var 7) se_int) (sa_cons (se_op sr_ix (se_var 7) se_int) sa_nil)))) ss_nil)) ss_nil)))))
    (ss_ret (se_op sr_eqDct (se_call ar_loans (sa_cons (se_var 4) (sa_cons (se_var 5) sa_nil))) (se_var 6)))))))))⟩
end
end k09
namespace fam
open PySem L2 Pd
set_option hygiene false in
local macro_rules | `(tactic| boot_fact) => `(tactic| simp only [k_some, k_seq, k_seq_nx, k_seq_rt, k_seq_bk, k_seq_ct, k_sif, k_if_t, k_if_f, k_ret, k_ret_, k_drop, k_drop_, k_asg, k_asg_, k_st_, k_nx, k_brk, k_ct, k_for, k_for_, k_gN, k_gTup, k_gsC, k_gs_, k_gsN, k_gIx, k_gi1_, k_gi2_, k_g3_, k_g4_, k_var, k_V_, k_c, k_op, k_op1_, k_op2_, k_un, k_un_, k_eB, k_B_, k_and, k_and_t, k_and_f, k_or, k_or_t, k_or_f, k_not, k_not_, k_eT, k_T_, k_andV, k_andV_t, k_andV_f, k_orV, k_orV_t, k_orV_f, k_notV, k_notV_, k_eIf, k_eIf_t, k_eIf_f, k_aN, k_aC, k_cs1_, k_cs2_, k_call, k_call_, k_tup, k_lstF, k_lstL, k_callK, k_callKw, k_kw1_, k_kw2_, k_dfn, k_def_nx, k_def_rt, k_finF, k_finT, k_sl, k_ix1_, k_ix2_, k_ix3_, k_pN, k_pS, k_pS_, k_iT, k_iL, k_iR, k_it_T, k_it_L, k_it_Ls, k_it_Ll, k_il_, k_it_R, k_it_Rt, k_it_Rl, k_ir_, k_r1, k_r2, k_rng, k_r1_, k_r2_, k_e, k_e_, k_lc, k_lc1_, k_lc2_, k_yes, k_all, k_all1_, k_all2_, k_bm, k_bm1l, k_bml_, k_bm2_, k_app, k_app_, k_ext, k_ext_, k_pop, k_pop_, k_rev, k_rev_, k_ins, k_ins_, k_mkT, k_mkT_, k_mkF, k_mkF_, k_mkL, k_add, k_addS, k_addT, k_addL, k_addLL, k_sub, k_lt, k_le, k_gt, k_ge, k_mul, k_div, k_mod, k_pow, k_neg, k_eqI, k_eqS, k_eqB, k_eqIS, k_eqSI, k_eqT, k_isN, k_isBl, k_ixT, k_ixL, k_ixl, k_ix_, k_iW_, k_iL_, k_lenT, k_lenL, k_lenl, k_lenl_, k_tupl, k_tupl_, k_tupl0, k_lstFl, k_lstFl_, k_lstLl, k_lstLl_, k_slLl, k_slLl_, k_slFl, k_tupT, k_tupL, k_lstFT, k_lstFL, k_lstLT, k_lstLL, k_lstLs, k_abs, k_int, k_intB, k_str, k_slT, k_slLs, k_slL, k_is, k_is_iT, k_is_iB, k_is_b, k_is_s, k_isT, k_isS, k_isT_t, k_isT_i, k_isT_b, k_isT_s, k_isT_n, k_isS_s, k_isS_i, k_isS_b, k_isS_t, k_isL, k_isL_, k_isL2, k_turn_nx, k_turn_ct, k_turn_bk, k_turn_rt, k_g_, k_lg_, k_lt_t, k_lt_f, k_Y_, k_inT, k_inL, k_fld, k_fl_, k_fl2, k_fldput, k_fp1_, k_fp2_, k_fpO, k_fldaug_, k_fa2_, k_faO, k_meth, k_m_, k_mO, k_ms_, k_make, k_mk_, k_mk2_, k_dnew, k_dget, k_dg_, k_dg1_, k_dg2s, k_dg2i, k_din, k_di_, k_di1_, k_di2s, k_dput, k_dp1_, k_dp2_, k_dp3_, k_dpOs, k_dpOi, k_disp, k_ps_, k_psN, k_pC, k_pc1s, k_pc2_, k_pc3_, k_ixc, k_ixc_, k_lstRev, k_lr_, k_sum, k_max, k_ixS, k_iS_, k_iS, k_it_ST, k_it_SL, k_it_Sl, k_chain, k_ch1_, k_ch2_, k_ch3t, k_ch3f, k_ch4_, k_lenXL, k_lenXT, k_lenXl, k_lenXS, List.getElem?_cons_zero, List.getElem?_cons_succ, List.set_cons_zero, List.set_cons_succ, List.map_cons, List.map_nil, List.replicate_succ, List.replicate_zero, List.cons_append, List.nil_append, List.length_cons, List.length_nil, dOf_c, dOf_nil, Option.map_some, Option.map_none, atI_0, atI_1, atI_2, atI_3, atI_4, atI_5, atI_6, ixN_0, ixN_1, ixN_2, ixN_3, ixN_4, ixN_5, ixN_6, Bool.not_true, Bool.not_false, Bool.or_true, Bool.true_or, Bool.or_false, Bool.false_or, Bool.and_true, Bool.true_and, Bool.and_false, Bool.false_and, if_true, if_false, Bool.false_eq_true, decide_true, decide_false, true_and, and_true, ofStr_eq, wipeE, eq_self, cutT, and_self, Bool.or_self, Bool.and_self, ite_true, ite_false, get_e0, get_e1, get_e2, set_e0, set_e1, set_e2, take_e, List.length_append, List.append_assoc, sz_l0, sz_l1, sz_l2, sz_l3, sz_l4, sz_l5, sz_l6, sz_l7, sz_l8, sz_l9, sz_l10, sz_l11, sz_l12, sz_l13, sz_k0, sz_k1, sz_k2, sz_k3, sz_k4, sz_k5, sz_k6, sz_k7, sz_k8, sz_k9, sz_k10, sz_k11, sz_k12, sz_k13, List.all_cons, List.all_nil, List.any_cons, List.any_nil, flat_s, flat_i, eqv_str, eqv_int, eqv_is, eqv_si, reduceIte, Nat.reduceAdd, Nat.reduceEqDiff, Nat.reduceLT, Int.reduceAdd, Int.reduceSub, Int.reduceLT, Int.reduceLE, Int.reduceEq, String.reduceEq, reduceCtorEq, Nat.reduceLeDiff, Nat.zero_le])
theorem log2_9000 {m : Int} (h0 : 0 < m) (h : m ≤ 4294967296) : m.natAbs.log2 < 9000 := by
  have : m.natAbs < 2 ^ 33 := by omega
  have h2 : m.natAbs ≠ 0 := by omega
  exact Nat.lt_trans ((Nat.log2_lt h2).mpr this) (by decide)
noncomputable abbrev NS (n : Nat) : Str := Str.ofString (toString (n : Int))
theorem is_item_ok {ks : List PyData} {i : Int} {S : Mem} {Q : WM → Prop} (h0 : 0 ≤ i) (h1 : i < ks.length) (q : Q (.d (.bool true), S)) : Ok (m_is_item [.d (.tuple ks), .d (.int i)] S) Q := by
  unfold m_is_item b_is_item
  boot_fact
  rw [decide_eq_true h0]
  boot_fact
  rw [decide_eq_true h1]
  exact q
end fam
namespace fam
open PySem L2 Pd
set_option hygiene false in
local macro_rules | `(tactic| boot_fact) => `(tactic| simp only [k_some, k_seq, k_seq_nx, k_seq_rt, k_seq_bk, k_seq_ct, k_sif, k_if_t, k_if_f, k_ret, k_ret_, k_drop, k_drop_, k_asg, k_asg_, k_st_, k_nx, k_brk, k_ct, k_for, k_for_, k_gN, k_gTup, k_gsC, k_gs_, k_gsN, k_gIx, k_gi1_, k_gi2_, k_g3_, k_g4_, k_var, k_V_, k_c, k_op, k_op1_, k_op2_, k_un, k_un_, k_eB, k_B_, k_and, k_and_t, k_and_f, k_or, k_or_t, k_or_f, k_not, k_not_, k_eT, k_T_, k_andV, k_andV_t, k_andV_f, k_orV, k_orV_t, k_orV_f, k_notV, k_notV_, k_eIf, k_eIf_t, k_eIf_f, k_aN, k_aC, k_cs1_, k_cs2_, k_call, k_call_, k_tup, k_lstF, k_lstL, k_callK, k_callKw, k_kw1_, k_kw2_, k_dfn, k_def_nx, k_def_rt, k_finF, k_finT, k_sl, k_ix1_, k_ix2_, k_ix3_, k_pN, k_pS, k_pS_, k_iT, k_iL, k_iR, k_it_T, k_it_L, k_it_Ls, k_it_Ll, k_il_, k_it_R, k_it_Rt, k_it_Rl, k_ir_, k_r1, k_r2, k_rng, k_r1_, k_r2_, k_e, k_e_, k_lc, k_lc1_, k_lc2_, k_yes, k_all, k_all1_, k_all2_, k_bm, k_bm1l, k_bml_, k_bm2_, k_app, k_app_, k_ext, k_ext_, k_pop, k_pop_, k_rev, k_rev_, k_ins, k_ins_, k_mkT, k_mkT_, k_mkF, k_mkF_, k_mkL, k_add, k_addS, k_addT, k_addL, k_addLL, k_sub, k_lt, k_le, k_gt, k_ge, k_mul, k_div, k_mod, k_pow, k_neg, k_eqI, k_eqS, k_eqB, k_eqIS, k_eqSI, k_eqT, k_isN, k_isBl, k_ixT, k_ixL, k_ixl, k_ix_, k_iW_, k_iL_, k_lenT, k_lenL, k_lenl, k_lenl_, k_tupl, k_tupl_, k_tupl0, k_lstFl, k_lstFl_, k_lstLl, k_lstLl_, k_slLl, k_slLl_, k_slFl, k_tupT, k_tupL, k_lstFT, k_lstFL, k_lstLT, k_lstLL, k_lstLs, k_abs, k_int, k_intB, k_str, k_slT, k_slLs, k_slL, k_is, k_is_iT, k_is_iB, k_is_b, k_is_s, k_isT, k_isS, k_isT_t, k_isT_i, k_isT_b, k_isT_s, k_isT_n, k_isS_s, k_isS_i, k_isS_b, k_isS_t, k_isL, k_isL_, k_isL2, k_turn_nx, k_turn_ct, k_turn_bk, k_turn_rt, k_g_, k_lg_, k_lt_t, k_lt_f, k_Y_, k_inT, k_inL, k_fld, k_fl_, k_fl2, k_fldput, k_fp1_, k_fp2_, k_fpO, k_fldaug_, k_fa2_, k_faO, k_meth, k_m_, k_mO, k_ms_, k_make, k_mk_, k_mk2_, k_dnew, k_dget, k_dg_, k_dg1_, k_dg2s, k_dg2i, k_din, k_di_, k_di1_, k_di2s, k_dput, k_dp1_, k_dp2_, k_dp3_, k_dpOs, k_dpOi, k_disp, k_ps_, k_psN, k_pC, k_pc1s, k_pc2_, k_pc3_, k_ixc, k_ixc_, k_lstRev, k_lr_, k_sum, k_max, k_ixS, k_iS_, k_iS, k_it_ST, k_it_SL, k_it_Sl, k_chain, k_ch1_, k_ch2_, k_ch3t, k_ch3f, k_ch4_, k_lenXL, k_lenXT, k_lenXl, k_lenXS, List.getElem?_cons_zero, List.getElem?_cons_succ, List.set_cons_zero, List.set_cons_succ, List.map_cons, List.map_nil, List.replicate_succ, List.replicate_zero, List.cons_append, List.nil_append, List.length_cons, List.length_nil, dOf_c, dOf_nil, Option.map_some, Option.map_none, atI_0, atI_1, atI_2, atI_3, atI_4, atI_5, atI_6, ixN_0, ixN_1, ixN_2, ixN_3, ixN_4, ixN_5, ixN_6, Bool.not_true, Bool.not_false, Bool.or_true, Bool.true_or, Bool.or_false, Bool.false_or, Bool.and_true, Bool.true_and, Bool.and_false, Bool.false_and, if_true, if_false, Bool.false_eq_true, decide_true, decide_false, true_and, and_true, ofStr_eq, wipeE, eq_self, cutT, and_self, Bool.or_self, Bool.and_self, ite_true, ite_false, get_e0, get_e1, get_e2, set_e0, set_e1, set_e2, take_e, List.length_append, List.append_assoc, sz_l0, sz_l1, sz_l2, sz_l3, sz_l4, sz_l5, sz_l6, sz_l7, sz_l8, sz_l9, sz_l10, sz_l11, sz_l12, sz_l13, sz_k0, sz_k1, sz_k2, sz_k3, sz_k4, sz_k5, sz_k6, sz_k7, sz_k8, sz_k9, sz_k10, sz_k11, sz_k12, sz_k13, List.all_cons, List.all_nil, List.any_cons, List.any_nil, flat_s, flat_i, eqv_str, eqv_int, eqv_is, eqv_si, reduceIte, Nat.reduceAdd, Nat.reduceEqDiff, Nat.reduceLT, Int.reduceAdd, Int.reduceSub, Int.reduceLT, Int.reduceLE, Int.reduceEq, String.reduceEq, reduceCtorEq, Nat.reduceLeDiff, Nat.zero_le])
mutual
noncomputable def szT : PyData → Nat
  | .tuple xs => 1 + szTs xs
  | _ => 0
noncomputable def szTs : List PyData → Nat
  | [] => 0
  | x :: xs => szT x + szTs xs
end
section

theorem szTs_snoc (xs : List PyData) (x : PyData) : szTs (xs ++ [x]) = szTs xs + szT x := by
  induction xs with
  | nil => simp [szTs]
  | cons a l ih => rw [List.cons_append, szTs, szTs, ih]; omega
end
section

theorem atI_last {α : Type} {xs : List α} {x : α} : atI (xs ++ [x]) (-1) = some x := by
  unfold atI ixN
  rw [if_neg (by decide), if_pos (by rw [List.length_append]; simp; omega), Option.bind_some]
  have : (-1 + (((xs ++ [x]).length : Nat) : Int)).toNat = xs.length := by rw [List.length_append]; simp; omega
  rw [this, List.getElem?_append_right (Nat.le_refl _), Nat.sub_self]; rfl
end
section

theorem beq_eq_decide {a b : Str} : (a == b) = decide (a = b) := by
  by_cases h : a = b
  · rw [decide_eq_true h, beq_iff_eq]; exact h
  · rw [decide_eq_false h]; exact beq_eq_false_iff_ne.mpr h
end
end fam
namespace fam
open PySem L2 Pd
set_option hygiene false in
local macro_rules | `(tactic| boot_fact) => `(tactic| simp only [k_some, k_seq, k_seq_nx, k_seq_rt, k_seq_bk, k_seq_ct, k_sif, k_if_t, k_if_f, k_ret, k_ret_, k_drop, k_drop_, k_asg, k_asg_, k_st_, k_nx, k_brk, k_ct, k_for, k_for_, k_gN, k_gTup, k_gsC, k_gs_, k_gsN, k_gIx, k_gi1_, k_gi2_, k_g3_, k_g4_, k_var, k_V_, k_c, k_op, k_op1_, k_op2_, k_un, k_un_, k_eB, k_B_, k_and, k_and_t, k_and_f, k_or, k_or_t, k_or_f, k_not, k_not_, k_eT, k_T_, k_andV, k_andV_t, k_andV_f, k_orV, k_orV_t, k_orV_f, k_notV, k_notV_, k_eIf, k_eIf_t, k_eIf_f, k_aN, k_aC, k_cs1_, k_cs2_, k_call, k_call_, k_tup, k_lstF, k_lstL, k_callK, k_callKw, k_kw1_, k_kw2_, k_dfn, k_def_nx, k_def_rt, k_finF, k_finT, k_sl, k_ix1_, k_ix2_, k_ix3_, k_pN, k_pS, k_pS_, k_iT, k_iL, k_iR, k_it_T, k_it_L, k_it_Ls, k_it_Ll, k_il_, k_it_R, k_it_Rt, k_it_Rl, k_ir_, k_r1, k_r2, k_rng, k_r1_, k_r2_, k_e, k_e_, k_lc, k_lc1_, k_lc2_, k_yes, k_all, k_all1_, k_all2_, k_bm, k_bm1l, k_bml_, k_bm2_, k_app, k_app_, k_ext, k_ext_, k_pop, k_pop_, k_rev, k_rev_, k_ins, k_ins_, k_mkT, k_mkT_, k_mkF, k_mkF_, k_mkL, k_add, k_addS, k_addT, k_addL, k_addLL, k_sub, k_lt, k_le, k_gt, k_ge, k_mul, k_div, k_mod, k_pow, k_neg, k_eqI, k_eqS, k_eqB, k_eqIS, k_eqSI, k_eqT, k_isN, k_isBl, k_ixT, k_ixL, k_ixl, k_ix_, k_iW_, k_iL_, k_lenT, k_lenL, k_lenl, k_lenl_, k_tupl, k_tupl_, k_tupl0, k_lstFl, k_lstFl_, k_lstLl, k_lstLl_, k_slLl, k_slLl_, k_slFl, k_tupT, k_tupL, k_lstFT, k_lstFL, k_lstLT, k_lstLL, k_lstLs, k_abs, k_int, k_intB, k_str, k_slT, k_slLs, k_slL, k_is, k_is_iT, k_is_iB, k_is_b, k_is_s, k_isT, k_isS, k_isT_t, k_isT_i, k_isT_b, k_isT_s, k_isT_n, k_isS_s, k_isS_i, k_isS_b, k_isS_t, k_isL, k_isL_, k_isL2, k_turn_nx, k_turn_ct, k_turn_bk, k_turn_rt, k_g_, k_lg_, k_lt_t, k_lt_f, k_Y_, k_inT, k_inL, k_fld, k_fl_, k_fl2, k_fldput, k_fp1_, k_fp2_, k_fpO, k_fldaug_, k_fa2_, k_faO, k_meth, k_m_, k_mO, k_ms_, k_make, k_mk_, k_mk2_, k_dnew, k_dget, k_dg_, k_dg1_, k_dg2s, k_dg2i, k_din, k_di_, k_di1_, k_di2s, k_dput, k_dp1_, k_dp2_, k_dp3_, k_dpOs, k_dpOi, k_disp, k_ps_, k_psN, k_pC, k_pc1s, k_pc2_, k_pc3_, k_ixc, k_ixc_, k_lstRev, k_lr_, k_sum, k_max, k_ixS, k_iS_, k_iS, k_it_ST, k_it_SL, k_it_Sl, k_chain, k_ch1_, k_ch2_, k_ch3t, k_ch3f, k_ch4_, k_lenXL, k_lenXT, k_lenXl, k_lenXS, k_mm0, k_mm1, k_mm2, k_mm3, k_mm4, k_mmR, k_ms0, k_ms2, k_ms3, k_ms4, k_msR, k_mlen, k_mapp, k_msn, k_ml1, k_ml2, k_ml3, k_ml4, k_mn1, k_mn2, k_mn3, k_mn4, k_mn5, k_mn6, k_mn7, k_mn8, k_mn9, k_mna, k_mnb, k_mg1, k_mg2, k_mg3, k_mg4, k_mp1, k_mp2, k_mkl, k_mdp, k_mdl, List.getElem?_cons_zero, List.getElem?_cons_succ, List.set_cons_zero, List.set_cons_succ, List.map_cons, List.map_nil, List.replicate_succ, List.replicate_zero, List.cons_append, List.nil_append, List.length_cons, List.length_nil, dOf_c, dOf_nil, Option.map_some, Option.map_none, atI_0, atI_1, atI_2, atI_3, atI_4, atI_5, atI_6, ixN_0, ixN_1, ixN_2, ixN_3, ixN_4, ixN_5, ixN_6, Bool.not_true, Bool.not_false, Bool.or_true, Bool.true_or, Bool.or_false, Bool.false_or, Bool.and_true, Bool.true_and, Bool.and_false, Bool.false_and, if_true, if_false, Bool.false_eq_true, decide_true, decide_false, true_and, and_true, ofStr_eq, wipeE, eq_self, cutT, and_self, Bool.or_self, Bool.and_self, ite_true, ite_false, get_e0, get_e1, get_e2, set_e0, set_e1, set_e2, take_e, List.length_append, List.append_assoc, sz_l0, sz_l1, sz_l2, sz_l3, sz_l4, sz_l5, sz_l6, sz_l7, sz_l8, sz_l9, sz_l10, sz_l11, sz_l12, sz_l13, sz_k0, sz_k1, sz_k2, sz_k3, sz_k4, sz_k5, sz_k6, sz_k7, sz_k8, sz_k9, sz_k10, sz_k11, sz_k12, sz_k13, List.all_cons, List.all_nil, List.any_cons, List.any_nil, flat_s, flat_i, eqv_str, eqv_int, eqv_is, eqv_si, reduceIte, Nat.reduceAdd, Nat.reduceEqDiff, Nat.reduceLT, Int.reduceAdd, Int.reduceSub, Int.reduceLT, Int.reduceLE, Int.reduceEq, String.reduceEq, reduceCtorEq, Nat.reduceLeDiff, Nat.zero_le])
section

noncomputable def tmp (i : Nat) : Str := ("#" : Str) ++ NS i
theorem NS_cps (i : Nat) : (NS i).cps.toList = (Nat.toDigits 10 i).map Char.toNat := by
  show (Str.ofString (Nat.repr i)).cps.toList = _
  rw [Str.ofString_eq_toList, Nat.toList_repr]
theorem digits_len : ∀ (k i : Nat), i < 10 ^ (k + 1) → (Nat.toDigits 10 i).length ≤ k + 1
  | 0, i, h => by rw [Nat.toDigits_of_lt_base (by omega)]; simp
  | k + 1, i, h => by
    by_cases h1 : i < 10
    · rw [Nat.toDigits_of_lt_base h1]; simp
    · rw [Nat.toDigits_of_base_le (by decide) (by omega), List.length_append, List.length_singleton]
      have := digits_len k (i / 10) (by rw [Nat.pow_succ] at h; omega)
      omega
theorem num_at {i : Nat} (h : i < 1048576) : (NS i).length ≤ 7 := by
  show (NS i).cps.size ≤ 7
  rw [← Array.length_toList, NS_cps, List.length_map]
  exact digits_len 6 i (by omega)
theorem NS_inj {i j : Nat} (h : (NS i).cps.toList = (NS j).cps.toList) : i = j := by
  rw [NS_cps, NS_cps] at h
  have h2 : Nat.toDigits 10 i = Nat.toDigits 10 j := (List.map_inj_right fun a b e => Char.toNat_inj.mp e).mp h
  rw [← Nat.ofDigitChars_toDigits (b := 10) (n := i) (by decide) (by decide), h2, Nat.ofDigitChars_toDigits (by decide) (by decide)]
theorem tmp_cps {i : Nat} : (tmp i).cps.toList = 35 :: (NS i).cps.toList := by
  show ((#[35] : Array Nat) ++ (NS i).cps).toList = _
  rw [Array.toList_append]; rfl
theorem tmp_so (i : Nat) : PyData.strOk (tmp i) = true := by
  show (tmp i).cps.all (· < 0x110000) = true
  rw [← Array.all_toList, tmp_cps, List.all_cons, NS_cps, List.all_map, List.all_eq_true.mpr]
  · decide
  · intro c hc
    have h := PySem.digit_ascii (Nat.isDigit_of_mem_toDigits (by decide) (by decide) hc)
    exact decide_eq_true (by show c.toNat < 1114112; omega)
theorem tmp_inj {i j : Nat} (h : tmp i = tmp j) : i = j := by
  have e : (tmp i).cps.toList = (tmp j).cps.toList := by rw [h]
  rw [tmp_cps, tmp_cps] at e
  obtain ⟨_, e⟩ := List.cons.inj e
  exact NS_inj e
end
section
variable     {j : Nat} {rest : List Ob} 
theorem tmp_W {t : Nat} : ("#" : Str) ++ Str.ofString (toString (t : Int)) = tmp t := rfl
theorem szTs_take : ∀ {es : List PyData} {i : Nat} {e : PyData}, es[i]? = some e → szTs (es.take i) + szT e ≤ szTs es
  | [], _, _, h => by cases h
  | a :: es, 0, e, h => by cases h; simp only [List.take_zero, szTs]; omega
  | a :: es, i + 1, e, h => by
    have := szTs_take (es := es) (i := i) (e := e) h
    simp only [List.take_succ_cons, szTs]; omega
end
section

noncomputable def Rd (rest : List Ob) : Prop := ∀ o ∈ rest, ∃ ds : List PyData, o = .lst (ds.map .d)
noncomputable abbrev scOb (sc : List Str) : Ob := .lst ((sc.map PyData.str).map .d)
theorem cutD {α : Type} {u : List α} {m : Nat} : cutL u (some (m : Int)) none = u.drop m := by
  unfold cutL
  rw [HT.sIx_none, HT.sIx_nat]
  by_cases h : m ≤ u.length
  · rw [Nat.min_eq_left h]
    exact List.take_of_length_le (by rw [List.length_drop]; exact Nat.le_refl _)
  · rw [Nat.min_eq_right (by omega), List.drop_of_length_le (Nat.le_refl _), List.drop_of_length_le (by omega), List.take_nil]
end
section

theorem ixN_at {l i : Nat} (h : i < l) : ixN l (i : Int) = some i := by
  rw [ixN_ok (by omega) (by omega)]; rfl
end
section

noncomputable def Nl (l : List Ob) : Prop := ∀ o ∈ l, obLt 0 o = true
end
end fam
namespace raw
open PySem L2 Pd fam
set_option hygiene false in
local macro_rules | `(tactic| boot_fact) => `(tactic| simp only [k_some, k_seq, k_seq_nx, k_seq_rt, k_seq_bk, k_seq_ct, k_sif, k_if_t, k_if_f, k_ret, k_ret_, k_drop, k_drop_, k_asg, k_asg_, k_st_, k_nx, k_brk, k_ct, k_for, k_for_, k_gN, k_gTup, k_gsC, k_gs_, k_gsN, k_gIx, k_gi1_, k_gi2_, k_g3_, k_g4_, k_var, k_V_, k_c, k_op, k_op1_, k_op2_, k_un, k_un_, k_eB, k_B_, k_and, k_and_t, k_and_f, k_or, k_or_t, k_or_f, k_not, k_not_, k_eT, k_T_, k_andV, k_andV_t, k_andV_f, k_orV, k_orV_t, k_orV_f, k_notV, k_notV_, k_eIf, k_eIf_t, k_eIf_f, k_aN, k_aC, k_cs1_, k_cs2_, k_call, k_call_, k_tup, k_lstF, k_lstL, k_callK, k_callKw, k_kw1_, k_kw2_, k_dfn, k_def_nx, k_def_rt, k_finF, k_finT, k_sl, k_ix1_, k_ix2_, k_ix3_, k_pN, k_pS, k_pS_, k_iT, k_iL, k_iR, k_it_T, k_it_L, k_it_Ls, k_it_Ll, k_il_, k_it_R, k_it_Rt, k_it_Rl, k_ir_, k_r1, k_r2, k_rng, k_r1_, k_r2_, k_e, k_e_, k_lc, k_lc1_, k_lc2_, k_yes, k_all, k_all1_, k_all2_, k_bm, k_bm1l, k_bml_, k_bm2_, k_app, k_app_, k_ext, k_ext_, k_pop, k_pop_, k_rev, k_rev_, k_ins, k_ins_, k_mkT, k_mkT_, k_mkF, k_mkF_, k_mkL, k_add, k_addS, k_addT, k_addL, k_addLL, k_sub, k_lt, k_le, k_gt, k_ge, k_mul, k_div, k_mod, k_pow, k_neg, k_eqI, k_eqS, k_eqB, k_eqIS, k_eqSI, k_eqT, k_isN, k_isBl, k_ixT, k_ixL, k_ixl, k_ix_, k_iW_, k_iL_, k_lenT, k_lenL, k_lenl, k_lenl_, k_tupl, k_tupl_, k_tupl0, k_lstFl, k_lstFl_, k_lstLl, k_lstLl_, k_slLl, k_slLl_, k_slFl, k_tupT, k_tupL, k_lstFT, k_lstFL, k_lstLT, k_lstLL, k_lstLs, k_abs, k_int, k_intB, k_str, k_slT, k_slLs, k_slL, k_is, k_is_iT, k_is_iB, k_is_b, k_is_s, k_isT, k_isS, k_isT_t, k_isT_i, k_isT_b, k_isT_s, k_isT_n, k_isS_s, k_isS_i, k_isS_b, k_isS_t, k_isL, k_isL_, k_isL2, k_turn_nx, k_turn_ct, k_turn_bk, k_turn_rt, k_g_, k_lg_, k_lt_t, k_lt_f, k_Y_, k_inT, k_inL, k_fld, k_fl_, k_fl2, k_fldput, k_fp1_, k_fp2_, k_fpO, k_fldaug_, k_fa2_, k_faO, k_meth, k_m_, k_mO, k_ms_, k_make, k_mk_, k_mk2_, k_dnew, k_dget, k_dg_, k_dg1_, k_dg2s, k_dg2i, k_din, k_di_, k_di1_, k_di2s, k_dput, k_dp1_, k_dp2_, k_dp3_, k_dpOs, k_dpOi, k_disp, k_ps_, k_psN, k_pC, k_pc1s, k_pc2_, k_pc3_, k_ixc, k_ixc_, k_lstRev, k_lr_, k_sum, k_max, k_ixS, k_iS_, k_iS, k_it_ST, k_it_SL, k_it_Sl, k_chain, k_ch1_, k_ch2_, k_ch3t, k_ch3f, k_ch4_, k_lenXL, k_lenXT, k_lenXl, k_lenXS, List.getElem?_cons_zero, List.getElem?_cons_succ, List.set_cons_zero, List.set_cons_succ, List.map_cons, List.map_nil, List.replicate_succ, List.replicate_zero, List.cons_append, List.nil_append, List.length_cons, List.length_nil, dOf_c, dOf_nil, Option.map_some, Option.map_none, atI_0, atI_1, atI_2, atI_3, atI_4, atI_5, atI_6, ixN_0, ixN_1, ixN_2, ixN_3, ixN_4, ixN_5, ixN_6, Bool.not_true, Bool.not_false, Bool.or_true, Bool.true_or, Bool.or_false, Bool.false_or, Bool.and_true, Bool.true_and, Bool.and_false, Bool.false_and, if_true, if_false, Bool.false_eq_true, decide_true, decide_false, true_and, and_true, ofStr_eq, wipeE, eq_self, cutT, and_self, Bool.or_self, Bool.and_self, ite_true, ite_false, get_e0, get_e1, get_e2, set_e0, set_e1, set_e2, take_e, List.length_append, List.append_assoc, sz_l0, sz_l1, sz_l2, sz_l3, sz_l4, sz_l5, sz_l6, sz_l7, sz_l8, sz_l9, sz_l10, sz_l11, sz_l12, sz_l13, sz_k0, sz_k1, sz_k2, sz_k3, sz_k4, sz_k5, sz_k6, sz_k7, sz_k8, sz_k9, sz_k10, sz_k11, sz_k12, sz_k13, List.all_cons, List.all_nil, List.any_cons, List.any_nil, flat_s, flat_i, eqv_str, eqv_int, eqv_is, eqv_si, reduceIte, Nat.reduceAdd, Nat.reduceEqDiff, Nat.reduceLT, Int.reduceAdd, Int.reduceSub, Int.reduceLT, Int.reduceLE, Int.reduceEq, String.reduceEq, reduceCtorEq, Nat.reduceLeDiff, Nat.zero_le])
structure Kd where
  d : PyData
noncomputable abbrev Ks := List (Str × Kd)
noncomputable def kwOf (ks : Ks) : KW := ks.map fun p => (.inr p.1, .d p.2.d)
noncomputable def kdAt : Ks → Str → Option Kd
  | [], _ => none
  | (m, k) :: r, n => if m = n then some k else kdAt r n
noncomputable def putK : Ks → Str → Kd → Ks
  | [], n, k => [(n, k)]
  | (m, j) :: r, n, k => if m = n then (n, k) :: r.map (fun p => if p.1 = n then (n, k) else p) else (m, j) :: putK r n k
theorem valW_kw {n : Str} : ∀ {ks : Ks}, valW (kwOf ks) (.inr n) = (kdAt ks n).map fun k => W.d k.d
  | [] => rfl
  | (m, k) :: r => by
    have ih := valW_kw (n := n) (ks := r)
    unfold valW at ih ⊢
    unfold kwOf at ih ⊢
    rw [kdAt, List.map_cons, List.find?_cons]
    by_cases h : m = n
    · subst h
      simp
    · rw [if_neg h]
      have : decide ((Sum.inr m : Key) = .inr n) = false := decide_eq_false (fun e => h (Sum.inr.inj e))
      simp only [this]
      exact ih
theorem kdAt_map {n m : Str} {k : Kd} : ∀ {r : Ks}, n ≠ m → kdAt (r.map (fun p => if p.1 = n then (n, k) else p)) m = kdAt r m
  | [], _ => rfl
  | (x, j) :: r, h => by
    rw [List.map_cons]
    by_cases e : x = n
    · subst e
      rw [if_pos rfl, kdAt, kdAt, if_neg h, if_neg h]
      exact kdAt_map h
    · rw [if_neg e, kdAt, kdAt]
      by_cases e2 : x = m
      · rw [if_pos e2, if_pos e2]
      · rw [if_neg e2, if_neg e2]; exact kdAt_map h
theorem kdAt_put {n m : Str} {k : Kd} : ∀ {ks : Ks}, kdAt (putK ks n k) m = if n = m then some k else kdAt ks m
  | [] => by rw [putK, kdAt]; rfl
  | (x, j) :: r => by
    rw [putK]
    by_cases e : x = n
    · rw [if_pos e, kdAt]
      by_cases e2 : n = m
      · rw [if_pos e2, if_pos e2]
      · rw [if_neg e2, if_neg e2, kdAt_map e2, kdAt, if_neg (by rw [e]; exact e2)]
    · rw [if_neg e, kdAt, kdAt, kdAt_put]
      by_cases e2 : x = m
      · rw [if_pos e2, if_pos e2, if_neg (by rintro rfl; exact e e2)]
      · rw [if_neg e2, if_neg e2]
theorem putK_len {n : Str} {k : Kd} : ∀ {ks : Ks}, (putK ks n k).length ≤ ks.length + 1
  | [] => by rw [putK]; exact Nat.le_refl _
  | (x, j) :: r => by
    rw [putK]
    split
    · simp
    · have := putK_len (n := n) (k := k) (ks := r)
      simp only [List.length_cons]; omega
theorem any_kw {n : Str} {ks : Ks} : (kwOf ks).any (fun kv => decide (kv.1 = .inr n)) = ks.any fun p => decide (p.1 = n) := by
  unfold kwOf
  rw [List.any_map]
  congr 1
  funext p
  exact decide_eq_decide.mpr ⟨fun e => Sum.inr.inj e, fun e => by show (Sum.inr p.1 : Key) = _; rw [e]⟩
theorem putK_any {n : Str} {k : Kd} : ∀ {ks : Ks}, putK ks n k = if (ks.any fun p => decide (p.1 = n)) = true then ks.map (fun p => if p.1 = n then (n, k) else p) else ks ++ [(n, k)]
  | [] => rfl
  | (x, j) :: r => by
    rw [putK, List.any_cons]
    by_cases e : x = n
    · rw [if_pos e, decide_eq_true e, Bool.true_or, if_pos rfl, List.map_cons, if_pos e]
    · rw [if_neg e, decide_eq_false e, Bool.false_or, putK_any, List.map_cons, if_neg e]
      split <;> rfl
theorem putD_kw {n : Str} {k : Kd} {ks : Ks} : putD (kwOf ks) (.inr n) (.d k.d) = kwOf (putK ks n k) := by
  unfold putD
  rw [any_kw, putK_any]
  split
  · unfold kwOf
    rw [List.map_map, List.map_map]
    refine List.map_congr_left fun p _ => ?_
    show (if (Sum.inr p.1 : Key) = .inr n then ((Sum.inr p.1 : Key), W.d k.d) else (.inr p.1, .d p.2.d)) = (fun q : Str × Kd => ((Sum.inr q.1 : Key), W.d q.2.d)) (if p.1 = n then (n, k) else p)
    by_cases e : p.1 = n
    · rw [if_pos e, if_pos (by rw [e]), e]
    · rw [if_neg e, if_neg (fun h => e (Sum.inr.inj h))]
  · unfold kwOf; rw [List.map_append]; rfl
section
structure Bn where
  S0 : Mem
  CG : Addr
  CL : Addr
  prog : PyData
  nm : W
  pm : W
  sr : W
  res : W
noncomputable def lf (n : Bn) (j t : Nat) : FW := [("program", .d n.prog), ("graph", .loc (n.S0.length + 1)), ("scope", .loc (n.S0.length + (j + 5))), ("temporaries", .d (.int (t : Int)))]
noncomputable def gf (n : Bn) : FW := [("name", n.nm), ("parameters", n.pm), ("sources", n.sr), ("result", n.res), ("kinds", .loc (n.S0.length + 2)), ("points", .loc (n.S0.length + 3)), ("successors", .loc (n.S0.length + 4))]
noncomputable def mem (n : Bn) (t : Nat) (ks : Ks) (ps us : List PyData) (j : Nat) (rest : List Ob) : Mem :=
  n.S0 ++ .ins n.CL (lf n j t) :: .ins n.CG (gf n) :: .dct (kwOf ks) :: .lst (ps.map .d) :: .lst (us.map .d) :: rest
variable {n : Bn} {t : Nat} {ks : Ks} {ps us : List PyData} {j : Nat} {rest : List Ob}
theorem get_at {α : Type} {S r : List α} {i : Nat} : (S ++ r)[S.length + i]? = r[i]? := by rw [List.getElem?_append_right (Nat.le_add_right _ _), Nat.add_sub_cancel_left]
theorem set_at {α : Type} {S r : List α} {i : Nat} {x : α} : (S ++ r).set (S.length + i) x = S ++ r.set i x := by rw [List.set_append_right _ _ (Nat.le_add_right _ _), Nat.add_sub_cancel_left]
theorem k_mm0 : (mem n t ks ps us j rest)[n.S0.length]? = some (.ins n.CL (lf n j t)) := get_at (i := 0)
theorem k_mm1 : (mem n t ks ps us j rest)[n.S0.length + 1]? = some (.ins n.CG (gf n)) := get_at (i := 1)
theorem k_mm2 : (mem n t ks ps us j rest)[n.S0.length + 2]? = some (.dct (kwOf ks)) := get_at (i := 2)
theorem k_mm3 : (mem n t ks ps us j rest)[n.S0.length + 3]? = some (.lst (ps.map .d)) := get_at (i := 3)
theorem k_mm4 : (mem n t ks ps us j rest)[n.S0.length + 4]? = some (.lst (us.map .d)) := get_at (i := 4)
theorem k_mmR {i : Nat} : (mem n t ks ps us j rest)[n.S0.length + (i + 5)]? = rest[i]? := get_at (i := i + 5)
theorem k_ms0 {i s : Nat} : (mem n t ks ps us j rest).set n.S0.length (.ins n.CL (lf n i s)) = mem n s ks ps us i rest := set_at (i := 0)
theorem k_ms2 {x : Ks} : (mem n t ks ps us j rest).set (n.S0.length + 2) (.dct (kwOf x)) = mem n t x ps us j rest := set_at (i := 2)
theorem k_ms3 {x : List PyData} : (mem n t ks ps us j rest).set (n.S0.length + 3) (.lst (x.map .d)) = mem n t ks x us j rest := set_at (i := 3)
theorem k_ms4 {x : List PyData} : (mem n t ks ps us j rest).set (n.S0.length + 4) (.lst (x.map .d)) = mem n t ks ps x j rest := set_at (i := 4)
theorem k_msR {i : Nat} {o : Ob} : (mem n t ks ps us j rest).set (n.S0.length + (i + 5)) o = mem n t ks ps us j (rest.set i o) := set_at (i := i + 5)
theorem k_mlen : (mem n t ks ps us j rest).length = n.S0.length + (rest.length + 5) := by simp [mem]
theorem k_mapp {o : List Ob} : mem n t ks ps us j rest ++ o = mem n t ks ps us j (rest ++ o) := by simp [mem]
theorem k_msn {xs : List PyData} {x : PyData} : xs.map W.d ++ [W.d x] = (xs ++ [x]).map W.d := by rw [List.map_append]; rfl
theorem k_ml1 : List.lookup ("graph" : Str) (lf n j t) = some (.loc (n.S0.length + 1)) := by simp only [lf, List.lookup_cons, beq_eq_decide, ofStr_eq, String.reduceEq, decide_true, decide_false]
theorem k_ml2 : List.lookup ("program" : Str) (lf n j t) = some (.d n.prog) := by simp only [lf, List.lookup_cons, beq_eq_decide, ofStr_eq, String.reduceEq, decide_true, decide_false]
theorem k_ml3 : List.lookup ("scope" : Str) (lf n j t) = some (.loc (n.S0.length + (j + 5))) := by simp only [lf, List.lookup_cons, beq_eq_decide, ofStr_eq, String.reduceEq, decide_true, decide_false]
theorem k_ml4 : List.lookup ("temporaries" : Str) (lf n j t) = some (.d (.int (t : Int))) := by simp only [lf, List.lookup_cons, beq_eq_decide, ofStr_eq, String.reduceEq, decide_true, decide_false]
theorem k_mn1 : List.lookup ("add_point" : Str) (lf n j t) = none := by simp only [lf, List.lookup_cons, List.lookup_nil, beq_eq_decide, ofStr_eq, String.reduceEq, decide_true, decide_false]
theorem k_mn2 : List.lookup ("add_drops" : Str) (lf n j t) = none := by simp only [lf, List.lookup_cons, List.lookup_nil, beq_eq_decide, ofStr_eq, String.reduceEq, decide_true, decide_false]
theorem k_mn3 : List.lookup ("add_end" : Str) (lf n j t) = none := by simp only [lf, List.lookup_cons, List.lookup_nil, beq_eq_decide, ofStr_eq, String.reduceEq, decide_true, decide_false]
theorem k_mn4 : List.lookup ("add_leave" : Str) (lf n j t) = none := by simp only [lf, List.lookup_cons, List.lookup_nil, beq_eq_decide, ofStr_eq, String.reduceEq, decide_true, decide_false]
theorem k_mn5 : List.lookup ("lower_expression" : Str) (lf n j t) = none := by simp only [lf, List.lookup_cons, List.lookup_nil, beq_eq_decide, ofStr_eq, String.reduceEq, decide_true, decide_false]
theorem k_mn6 : List.lookup ("lower_statement" : Str) (lf n j t) = none := by simp only [lf, List.lookup_cons, List.lookup_nil, beq_eq_decide, ofStr_eq, String.reduceEq, decide_true, decide_false]
theorem k_mn7 : List.lookup ("lower_block" : Str) (lf n j t) = none := by simp only [lf, List.lookup_cons, List.lookup_nil, beq_eq_decide, ofStr_eq, String.reduceEq, decide_true, decide_false]
theorem k_mn8 : List.lookup ("lower_if" : Str) (lf n j t) = none := by simp only [lf, List.lookup_cons, List.lookup_nil, beq_eq_decide, ofStr_eq, String.reduceEq, decide_true, decide_false]
theorem k_mn9 : List.lookup ("lower_while" : Str) (lf n j t) = none := by simp only [lf, List.lookup_cons, List.lookup_nil, beq_eq_decide, ofStr_eq, String.reduceEq, decide_true, decide_false]
theorem k_mna : List.lookup ("lower_let" : Str) (lf n j t) = none := by simp only [lf, List.lookup_cons, List.lookup_nil, beq_eq_decide, ofStr_eq, String.reduceEq, decide_true, decide_false]
theorem k_mnb : List.lookup ("lower_function" : Str) (lf n j t) = none := by simp only [lf, List.lookup_cons, List.lookup_nil, beq_eq_decide, ofStr_eq, String.reduceEq, decide_true, decide_false]
theorem k_mg1 : List.lookup ("kinds" : Str) (gf n) = some (.loc (n.S0.length + 2)) := by simp only [gf, List.lookup_cons, beq_eq_decide, ofStr_eq, String.reduceEq, decide_true, decide_false]
theorem k_mg2 : List.lookup ("points" : Str) (gf n) = some (.loc (n.S0.length + 3)) := by simp only [gf, List.lookup_cons, beq_eq_decide, ofStr_eq, String.reduceEq, decide_true, decide_false]
theorem k_mg3 : List.lookup ("successors" : Str) (gf n) = some (.loc (n.S0.length + 4)) := by simp only [gf, List.lookup_cons, beq_eq_decide, ofStr_eq, String.reduceEq, decide_true, decide_false]
theorem k_mg4 : List.lookup ("result" : Str) (gf n) = some n.res := by simp only [gf, List.lookup_cons, beq_eq_decide, ofStr_eq, String.reduceEq, decide_true, decide_false]
theorem k_mp1 : putW "temporaries" (.d (.int ((t : Int) + 1))) (lf n j t) = lf n j (t + 1) := by simp only [lf, putW, ofStr_eq, String.reduceEq, if_false, if_true]; rfl
theorem k_mp2 {i : Nat} : putW "scope" (.loc (n.S0.length + (i + 5))) (lf n j t) = lf n i t := by simp only [lf, putW, ofStr_eq, String.reduceEq, if_false, if_true]
theorem k_mkl : (lf n j t).length < 1000 ↔ True := iff_true_intro (by show 4 < 1000; decide)
theorem k_mdp {x : Str} {k : Kd} : putD (kwOf ks) (.inr x) (.d k.d) = kwOf (putK ks x k) := putD_kw
theorem k_mdl : (kwOf ks).length = ks.length := by simp [kwOf]
end
end raw
namespace raw
open PySem L2 Pd fam
set_option hygiene false in
local macro_rules | `(tactic| boot_fact) => `(tactic| simp only [k_some, k_seq, k_seq_nx, k_seq_rt, k_seq_bk, k_seq_ct, k_sif, k_if_t, k_if_f, k_ret, k_ret_, k_drop, k_drop_, k_asg, k_asg_, k_st_, k_nx, k_brk, k_ct, k_for, k_for_, k_gN, k_gTup, k_gsC, k_gs_, k_gsN, k_gIx, k_gi1_, k_gi2_, k_g3_, k_g4_, k_var, k_V_, k_c, k_op, k_op1_, k_op2_, k_un, k_un_, k_eB, k_B_, k_and, k_and_t, k_and_f, k_or, k_or_t, k_or_f, k_not, k_not_, k_eT, k_T_, k_andV, k_andV_t, k_andV_f, k_orV, k_orV_t, k_orV_f, k_notV, k_notV_, k_eIf, k_eIf_t, k_eIf_f, k_aN, k_aC, k_cs1_, k_cs2_, k_call, k_call_, k_tup, k_lstF, k_lstL, k_callK, k_callKw, k_kw1_, k_kw2_, k_dfn, k_def_nx, k_def_rt, k_finF, k_finT, k_sl, k_ix1_, k_ix2_, k_ix3_, k_pN, k_pS, k_pS_, k_iT, k_iL, k_iR, k_it_T, k_it_L, k_it_Ls, k_it_Ll, k_il_, k_it_R, k_it_Rt, k_it_Rl, k_ir_, k_r1, k_r2, k_rng, k_r1_, k_r2_, k_e, k_e_, k_lc, k_lc1_, k_lc2_, k_yes, k_all, k_all1_, k_all2_, k_bm, k_bm1l, k_bml_, k_bm2_, k_app, k_app_, k_ext, k_ext_, k_pop, k_pop_, k_rev, k_rev_, k_ins, k_ins_, k_mkT, k_mkT_, k_mkF, k_mkF_, k_mkL, k_add, k_addS, k_addT, k_addL, k_addLL, k_sub, k_lt, k_le, k_gt, k_ge, k_mul, k_div, k_mod, k_pow, k_neg, k_eqI, k_eqS, k_eqB, k_eqIS, k_eqSI, k_eqT, k_isN, k_isBl, k_ixT, k_ixL, k_ixl, k_ix_, k_iW_, k_iL_, k_lenT, k_lenL, k_lenl, k_lenl_, k_tupl, k_tupl_, k_tupl0, k_lstFl, k_lstFl_, k_lstLl, k_lstLl_, k_slLl, k_slLl_, k_slFl, k_tupT, k_tupL, k_lstFT, k_lstFL, k_lstLT, k_lstLL, k_lstLs, k_abs, k_int, k_intB, k_str, k_slT, k_slLs, k_slL, k_is, k_is_iT, k_is_iB, k_is_b, k_is_s, k_isT, k_isS, k_isT_t, k_isT_i, k_isT_b, k_isT_s, k_isT_n, k_isS_s, k_isS_i, k_isS_b, k_isS_t, k_isL, k_isL_, k_isL2, k_turn_nx, k_turn_ct, k_turn_bk, k_turn_rt, k_g_, k_lg_, k_lt_t, k_lt_f, k_Y_, k_inT, k_inL, k_fld, k_fl_, k_fl2, k_fldput, k_fp1_, k_fp2_, k_fpO, k_fldaug_, k_fa2_, k_faO, k_meth, k_m_, k_mO, k_ms_, k_make, k_mk_, k_mk2_, k_dnew, k_dget, k_dg_, k_dg1_, k_dg2s, k_dg2i, k_din, k_di_, k_di1_, k_di2s, k_dput, k_dp1_, k_dp2_, k_dp3_, k_dpOs, k_dpOi, k_disp, k_ps_, k_psN, k_pC, k_pc1s, k_pc2_, k_pc3_, k_ixc, k_ixc_, k_lstRev, k_lr_, k_sum, k_max, k_ixS, k_iS_, k_iS, k_it_ST, k_it_SL, k_it_Sl, k_chain, k_ch1_, k_ch2_, k_ch3t, k_ch3f, k_ch4_, k_lenXL, k_lenXT, k_lenXl, k_lenXS, k_mm0, k_mm1, k_mm2, k_mm3, k_mm4, k_mmR, k_ms0, k_ms2, k_ms3, k_ms4, k_msR, k_mlen, k_mapp, k_msn, k_ml1, k_ml2, k_ml3, k_ml4, k_mn1, k_mn2, k_mn3, k_mn4, k_mn5, k_mn6, k_mn7, k_mn8, k_mn9, k_mna, k_mnb, k_mg1, k_mg2, k_mg3, k_mg4, k_mp1, k_mp2, k_mkl, k_mdp, k_mdl, List.getElem?_cons_zero, List.getElem?_cons_succ, List.set_cons_zero, List.set_cons_succ, List.map_cons, List.map_nil, List.replicate_succ, List.replicate_zero, List.cons_append, List.nil_append, List.length_cons, List.length_nil, dOf_c, dOf_nil, Option.map_some, Option.map_none, atI_0, atI_1, atI_2, atI_3, atI_4, atI_5, atI_6, ixN_0, ixN_1, ixN_2, ixN_3, ixN_4, ixN_5, ixN_6, Bool.not_true, Bool.not_false, Bool.or_true, Bool.true_or, Bool.or_false, Bool.false_or, Bool.and_true, Bool.true_and, Bool.and_false, Bool.false_and, if_true, if_false, Bool.false_eq_true, decide_true, decide_false, true_and, and_true, ofStr_eq, wipeE, eq_self, cutT, and_self, Bool.or_self, Bool.and_self, ite_true, ite_false, get_e0, get_e1, get_e2, set_e0, set_e1, set_e2, take_e, List.length_append, List.append_assoc, sz_l0, sz_l1, sz_l2, sz_l3, sz_l4, sz_l5, sz_l6, sz_l7, sz_l8, sz_l9, sz_l10, sz_l11, sz_l12, sz_l13, sz_k0, sz_k1, sz_k2, sz_k3, sz_k4, sz_k5, sz_k6, sz_k7, sz_k8, sz_k9, sz_k10, sz_k11, sz_k12, sz_k13, List.all_cons, List.all_nil, List.any_cons, List.any_nil, flat_s, flat_i, eqv_str, eqv_int, eqv_is, eqv_si, reduceIte, Nat.reduceAdd, Nat.reduceEqDiff, Nat.reduceLT, Int.reduceAdd, Int.reduceSub, Int.reduceLT, Int.reduceLE, Int.reduceEq, String.reduceEq, reduceCtorEq, Nat.reduceLeDiff, Nat.zero_le])
section
variable {n : Bn} {t : Nat} {ks : Ks} {ps us : List PyData} {j : Nat} {rest : List Ob}
theorem add_point_ok {i : PyData} {Q : WM → Prop} (h1 : ps.length < 16777215) (h2 : us.length < 16777215) (q : Q (.d (.int (ps.length : Int)), mem n t ks (ps ++ [i]) (us ++ [.tuple [.int ((ps.length : Int) + 1)]]) j rest)) :
    Ok (m_Lowering_add_point n.CG n.CL [.loc n.S0.length, .d i] (mem n t ks ps us j rest)) Q := by
  unfold m_Lowering_add_point b_Lowering_add_point
  boot_fact
  refine ⟨sz_lt (by rw [List.length_map]; omega), sz_lt (by rw [List.length_map]; omega), ?_⟩
  have e : (((ps ++ [i]).map W.d).length : Int) = (ps.length : Int) + 1 := by rw [List.length_map, List.length_append]; rfl
  rw [e, Int.add_sub_cancel]
  exact q
theorem add_end_ok {i : PyData} {Q : WM → Prop} (h1 : ps.length < 16777215) (h2 : us.length < 16777215) (q : Q (.d .none, mem n t ks (ps ++ [i]) (us ++ [.tuple []]) j rest)) :
    Ok (m_Lowering_add_end n.CG n.CL [.loc n.S0.length, .d i] (mem n t ks ps us j rest)) Q := by
  unfold m_Lowering_add_end b_Lowering_add_end
  boot_fact
  exact ⟨sz_lt (by rw [List.length_map]; omega), sz_lt (by rw [List.length_map]; omega), q⟩
structure Bs where
  t : Nat
  ks : Ks
  ps : List PyData
  us : List PyData
noncomputable def Bs.push (b : Bs) (i : PyData) : Bs := ⟨b.t, b.ks, b.ps ++ [i], b.us ++ [.tuple [.int ((b.ps.length : Int) + 1)]]⟩
noncomputable def Bs.stop (b : Bs) (i : PyData) : Bs := ⟨b.t, b.ks, b.ps ++ [i], b.us ++ [.tuple []]⟩
noncomputable def dropD (x : Str) : PyData := .tuple [.str "drop", .str x]
noncomputable def Bs.drops (b : Bs) : List Str → Bs
  | [] => b
  | x :: xs => (b.push (dropD x)).drops xs
noncomputable def Bs.sized (b : Bs) (m : Nat) : Prop := b.ps.length + m < 16777215 ∧ b.us.length + m < 16777215
theorem Bs.drops_t {b : Bs} : ∀ {xs : List Str}, (b.drops xs).t = b.t ∧ (b.drops xs).ks = b.ks ∧ (b.drops xs).ps.length = b.ps.length + xs.length ∧ (b.drops xs).us.length = b.us.length + xs.length
  | [] => ⟨rfl, rfl, rfl, rfl⟩
  | x :: xs => by
    obtain ⟨h1, h2, h3, h4⟩ := Bs.drops_t (b := b.push (dropD x)) (xs := xs)
    rw [Bs.drops]
    refine ⟨h1, h2, ?_, ?_⟩
    · rw [h3]; simp [Bs.push]; omega
    · rw [h4]; simp [Bs.push]; omega
theorem Bs.drops_snoc {b : Bs} {y : Str} : ∀ {xs : List Str}, b.drops (xs ++ [y]) = (b.drops xs).push (dropD y)
  | [] => rfl
  | x :: xs => by rw [List.cons_append, Bs.drops, Bs.drops, Bs.drops_snoc]
theorem drops_run {b : Bs} {x1 x2 : Option W} {im : Itm} {xs : List Str} {P : OR' → Prop} (hz : b.sized xs.length)
    (h : ∀ S i, S = mem n (b.drops (xs.take i)).t (b.drops (xs.take i)).ks (b.drops (xs.take i)).ps (b.drops (xs.take i)).us j rest → im.at_ S i = some ((xs.map fun x => W.d (.str x))[i]?))
    (q : ∀ x, P (.nx, [some (.loc n.S0.length), x1, x], mem n (b.drops xs).t (b.drops xs).ks (b.drops xs).ps (b.drops xs).us j rest)) :
    Ok (forM im (gN 2) (sDrop (eMeth n.CL "add_point" (m_Lowering_add_point n.CG n.CL) (eVar 0) (aCons (eTup (aCons (eC (.str "drop")) (aCons (eVar 2) aNil))) aNil))) xs.length 0 [some (.loc n.S0.length), x1, x2] (mem n b.t b.ks b.ps b.us j rest)) P := by
  refine for_it (n := xs.length) (fun i ρ S => ∃ x2, ρ = [some (.loc n.S0.length), x1, x2] ∧ S = mem n (b.drops (xs.take i)).t (b.drops (xs.take i)).ks (b.drops (xs.take i)).ps (b.drops (xs.take i)).us j rest) ?_ ?_ xs.length 0 _ _ (Nat.zero_add _) ⟨x2, rfl, rfl⟩
  · rintro i ρ S hi ⟨x2, rfl, hS⟩
    have ha := h S i hS
    rw [List.getElem?_map, List.getElem?_eq_getElem hi] at ha
    refine ⟨_, ha, ?_⟩
    subst hS
    boot_fact
    obtain ⟨e1, e2, e3, e4⟩ := Bs.drops_t (b := b) (xs := xs.take i)
    have hli : (xs.take i).length ≤ xs.length := by rw [List.length_take]; omega
    obtain ⟨z1, z2⟩ := hz
    refine add_point_ok (by omega) (by omega) ?_
    boot_fact
    refine ⟨_, rfl, ?_⟩
    have ht : xs.take (i + 1) = xs.take i ++ [xs[i]] := by rw [List.take_add_one, List.getElem?_eq_getElem hi]; rfl
    rw [ht, Bs.drops_snoc]
    rfl
  · rintro ρ S ⟨x2, rfl, hS⟩
    have ha := h S xs.length hS
    rw [List.getElem?_eq_none (by rw [List.length_map]; exact Nat.le_refl _)] at ha
    subst hS
    refine ⟨ha, ?_⟩
    rw [List.take_length]
    exact q x2
theorem add_drops_ok {b : Bs} {xs : List Str} {Q : WM → Prop} (hz : b.sized xs.length) (q : Q (.d .none, mem n (b.drops xs.reverse).t (b.drops xs.reverse).ks (b.drops xs.reverse).ps (b.drops xs.reverse).us j rest)) :
    Ok (m_Lowering_add_drops n.CG n.CL [.loc n.S0.length, .d (.list (xs.map .str))] (mem n b.t b.ks b.ps b.us j rest)) Q := by
  unfold m_Lowering_add_drops b_Lowering_add_drops
  boot_fact
  have e : ((xs.map PyData.str).reverse.map W.d) = xs.reverse.map fun x => W.d (.str x) := by rw [← List.map_reverse, List.map_map]; rfl
  rw [e]
  have := drops_run (n := n) (j := j) (rest := rest) (x1 := some (.d (.list (xs.map .str)))) (x2 := none) (im := .vals (xs.reverse.map fun x => W.d (.str x))) (b := b) (xs := xs.reverse) (P := Kdef false (n.S0.length + (rest.length + 5)) Q) (by rw [List.length_reverse]; exact hz) (fun S i _ => rfl) (fun x => by boot_fact; exact q)
  rw [show Itm.len (.vals (xs.reverse.map fun x => W.d (.str x))) (mem n b.t b.ks b.ps b.us j rest) = xs.reverse.length by show List.length _ = _; rw [List.length_map]]
  exact this
theorem add_drops_live {b : Bs} {xs : List Str} {Q : WM → Prop} (hz : b.sized xs.length) (hr : rest[j]? = some (.lst ((xs.map PyData.str).map W.d))) (q : Q (.d .none, mem n (b.drops xs.reverse).t (b.drops xs.reverse).ks (b.drops xs.reverse).ps (b.drops xs.reverse).us j rest)) :
    Ok (m_Lowering_add_drops n.CG n.CL [.loc n.S0.length, .loc (n.S0.length + (j + 5))] (mem n b.t b.ks b.ps b.us j rest)) Q := by
  unfold m_Lowering_add_drops b_Lowering_add_drops
  boot_fact
  simp only [hr]
  boot_fact
  have := drops_run (n := n) (j := j) (rest := rest) (x1 := some (.loc (n.S0.length + (j + 5)))) (x2 := none) (im := .rev (n.S0.length + (j + 5)) ((xs.map PyData.str).map W.d).length) (b := b) (xs := xs.reverse) (P := Kdef false (n.S0.length + (rest.length + 5)) Q) (by rw [List.length_reverse]; exact hz) (fun S i hS => by
    subst hS
    show (match (mem n _ _ _ _ j rest)[n.S0.length + (j + 5)]? with | some (.lst us) => if us.length = _ then some us.reverse[i]? else none | _ => none) = _
    rw [k_mmR, hr]
    show (if _ then _ else _) = _
    rw [if_pos rfl]
    congr 2
    rw [← List.map_reverse, ← List.map_reverse, List.map_map]; rfl) (fun x => by boot_fact; exact q)
  rw [show Itm.len (.rev (n.S0.length + (j + 5)) ((xs.map PyData.str).map W.d).length) (mem n b.t b.ks b.ps b.us j rest) = xs.reverse.length by show List.length _ = _; rw [List.length_map, List.length_map, List.length_reverse]]
  exact this
theorem add_leave_ok {b : Bs} {xs : List Str} {x : Str} {Q : WM → Prop} (hz : b.sized (xs.length + 1)) (hr : rest[j]? = some (.lst ((xs.map PyData.str).map W.d)))
    (q : Q (.d .none, mem n ((b.drops xs.reverse).stop (.tuple [.str "leave", .str x])).t ((b.drops xs.reverse).stop (.tuple [.str "leave", .str x])).ks ((b.drops xs.reverse).stop (.tuple [.str "leave", .str x])).ps ((b.drops xs.reverse).stop (.tuple [.str "leave", .str x])).us j rest)) :
    Ok (m_Lowering_add_leave n.CG n.CL [.loc n.S0.length, .d (.str x)] (mem n b.t b.ks b.ps b.us j rest)) Q := by
  unfold m_Lowering_add_leave b_Lowering_add_leave
  boot_fact
  obtain ⟨z1, z2⟩ := hz
  refine add_drops_live ⟨by omega, by omega⟩ hr ?_
  boot_fact
  obtain ⟨e1, e2, e3, e4⟩ := Bs.drops_t (b := b) (xs := xs.reverse)
  rw [List.length_reverse] at e3 e4
  refine add_end_ok (by omega) (by omega) ?_
  boot_fact
  exact q
end
noncomputable def Bs.give (b : Bs) (k : Kd) (i : PyData) : Bs := (Bs.mk (b.t + 1) (putK b.ks (tmp b.t) k) b.ps b.us).push i
noncomputable abbrev TR := PyData → Kd → List PyData → List Kd → (Str → List Str → PyData) → Prop
structure Ts (prog : PyData) (G : List (Str × Kd)) (e : PyData) (k : Kd) (es : List PyData) (js : List Kd) (f : Str → List Str → PyData) : Prop where
  parts : ∀ {S : Mem} {Q : WM → Prop}, Q (.d (.tuple es), S) → Ok (m_parts_of [.d e] S) Q
  made : ∀ {S : Mem} {kl : Nat} {ks : Ks} {Q : WM → Prop}, Cl S → S[kl]? = some (.dct (kwOf ks)) → (∀ g ∈ G, kdAt ks g.1 = some g.2) → Q (.d k.d, S) → Ok (m_kind_made [.d prog, .loc kl, .d e, .d (.list (js.map Kd.d))] S) Q
  instr : ∀ {S : Mem} {t : Str} {ns : List Str} {Q : WM → Prop}, ns.length = es.length → Q (.d (f t ns), S) → Ok (m_instruction_for [.d e, .d k.d, .d (.str t), .d (.tuple (ns.map .str))] S) Q
  len : es.length = js.length
  sz : szTs es + 1 ≤ szT e
inductive Er (T : TR) : Nat → PyData → Kd → Prop
  | mk {m : Nat} {e : PyData} {k : Kd} {es : List PyData} {js : List Kd} {f : Str → List Str → PyData} : T e k es js f → (∀ (i : Nat) (a : PyData) (j : Kd), es[i]? = some a → js[i]? = some j → Er T m a j) → Er T (m + 1) e k
mutual
inductive Lo (T : TR) : PyData → Kd → Bs → Str → Bs → Prop
  | mk {e : PyData} {k : Kd} {es : List PyData} {js : List Kd} {f : Str → List Str → PyData} {b b1 : Bs} {ns : List Str} : T e k es js f → Los T es js b ns b1 → Lo T e k b (tmp b1.t) (b1.give k (f (tmp b1.t) ns))
inductive Los (T : TR) : List PyData → List Kd → Bs → List Str → Bs → Prop
  | nil {b : Bs} : Los T [] [] b [] b
  | snoc {e : PyData} {k : Kd} {es : List PyData} {js : List Kd} {b b1 b2 : Bs} {x : Str} {ns : List Str} : Los T es js b ns b1 → Lo T e k b1 x b2 → Los T (es ++ [e]) (js ++ [k]) b (ns ++ [x]) b2
end
structure Gr (b b1 : Bs) (m : Nat) : Prop where
  t0 : b.t ≤ b1.t
  t : b1.t ≤ b.t + m
  ps : b1.ps.length = b.ps.length + (b1.t - b.t)
  us : b1.us.length = b.us.length + (b1.t - b.t)
  ks : b1.ks.length ≤ b.ks.length + (b1.t - b.t)
  kd : ∀ x, (∀ i, b.t ≤ i → i < b1.t → x ≠ tmp i) → kdAt b1.ks x = kdAt b.ks x
theorem Gr.refl {b : Bs} : Gr b b 0 := ⟨Nat.le_refl _, Nat.le_refl _, by omega, by omega, by omega, fun _ _ => rfl⟩
theorem Gr.trans {b b1 b2 : Bs} {m n : Nat} (g : Gr b b1 m) (h : Gr b1 b2 n) : Gr b b2 (m + n) := by
  have a1 := g.t0; have a2 := h.t0; have a3 := g.t; have a4 := h.t; have a5 := g.ps; have a6 := h.ps; have a7 := g.us; have a8 := h.us; have a9 := g.ks; have a10 := h.ks
  refine ⟨by omega, by omega, by omega, by omega, by omega, fun x hx => ?_⟩
  rw [h.kd x (fun i h1 h2 => hx i (by omega) h2), g.kd x (fun i h1 h2 => hx i h1 (by omega))]
theorem Gr.give {b : Bs} {k : Kd} {i : PyData} : Gr b (b.give k i) 1 := by
  have := putK_len (n := tmp b.t) (k := k) (ks := b.ks)
  refine ⟨by show b.t ≤ b.t + 1; omega, Nat.le_refl _, ?_, ?_, ?_, fun x hx => ?_⟩
  · show (b.ps ++ [i]).length = _ + (b.t + 1 - b.t); rw [List.length_append, Nat.add_sub_cancel_left]; rfl
  · show (b.us ++ [_]).length = _ + (b.t + 1 - b.t); rw [List.length_append, Nat.add_sub_cancel_left]; rfl
  · show (putK _ _ _).length ≤ _ + (b.t + 1 - b.t); rw [Nat.add_sub_cancel_left]; exact this
  · show kdAt (putK _ _ _) x = _
    rw [kdAt_put, if_neg (fun e => hx b.t (Nat.le_refl _) (by show b.t < b.t + 1; omega) e.symm)]
theorem Gr.mono {b b1 : Bs} {m n : Nat} (g : Gr b b1 m) (h : m ≤ n) : Gr b b1 n := ⟨g.t0, by have := g.t; omega, g.ps, g.us, g.ks, g.kd⟩
section
variable {T : TR} {prog : PyData} {G : List (Str × Kd)}
noncomputable def TOk (T : TR) (prog : PyData) (G : List (Str × Kd)) : Prop := ∀ {e : PyData} {k : Kd} {es : List PyData} {js : List Kd} {f : Str → List Str → PyData}, T e k es js f → Ts prog G e k es js f
mutual
theorem Lo.gr (hT : TOk T prog G) : ∀ {e : PyData} {k : Kd} {b : Bs} {x : Str} {b1 : Bs}, Lo T e k b x b1 → Gr b b1 (szT e)
  | _, _, _, _, _, .mk h l => (Gr.trans (Los.gr hT l) Gr.give).mono (hT h).sz
theorem Los.gr (hT : TOk T prog G) : ∀ {es : List PyData} {js : List Kd} {b : Bs} {ns : List Str} {b1 : Bs}, Los T es js b ns b1 → Gr b b1 (szTs es)
  | _, _, _, _, _, .nil => Gr.refl
  | _, _, _, _, _, .snoc l h => by rw [szTs_snoc]; exact (Los.gr hT l).trans (Lo.gr hT h)
end
theorem Lo.last (hT : TOk T prog G) {e : PyData} {k : Kd} {b b1 : Bs} {x : Str} (h : Lo T e k b x b1) : b.t < b1.t ∧ x = tmp (b1.t - 1) ∧ kdAt b1.ks x = some k := by
  cases h with
  | mk h l =>
    have := (Los.gr hT l).t0
    refine ⟨by show _ < _ + 1; omega, by show _ = tmp (_ + 1 - 1); rw [Nat.add_sub_cancel], ?_⟩
    show kdAt (putK _ _ _) _ = _
    rw [kdAt_put, if_pos rfl]
theorem Los.last (hT : TOk T prog G) : ∀ {es : List PyData} {js : List Kd} {b b1 : Bs} {ns : List Str}, Los T es js b ns b1 → b1.t ≤ 1048576 → ns.length = es.length ∧ js.length = es.length ∧ (∀ x ∈ ns, ∃ i, b.t ≤ i ∧ i < b1.t ∧ x = tmp i) ∧ ∀ (i : Nat) (x : Str), ns[i]? = some x → ∃ k, js[i]? = some k ∧ kdAt b1.ks x = some k
  | _, _, _, _, _, .nil, _ => ⟨rfl, rfl, (fun x h => nomatch h), fun i x h => by cases h⟩
  | _, _, _, _, _, .snoc (js := js) (ns := ns) (b1 := b1) (b2 := b2) (x := y) (k := k) l h, ht => by
    obtain ⟨h1, h2, h3⟩ := h.last hT
    have g := h.gr hT
    obtain ⟨a1, a2, a3, a4⟩ := Los.last hT l (by omega)
    refine ⟨by simp [a1], by simp [a2], fun x hx => ?_, fun i x hx => ?_⟩
    · rcases List.mem_append.mp hx with hx | hx
      · obtain ⟨i, i1, i2, i3⟩ := a3 x hx
        exact ⟨i, i1, by omega, i3⟩
      · rw [List.mem_singleton.mp hx]
        exact ⟨b2.t - 1, by have := (Los.gr hT l).t0; omega, by omega, h2⟩
    · by_cases hi : i < ns.length
      · rw [List.getElem?_append_left hi] at hx
        obtain ⟨k', q1, q2⟩ := a4 i x hx
        refine ⟨k', by rw [List.getElem?_append_left (by omega)]; exact q1, ?_⟩
        obtain ⟨i', i1, i2, rfl⟩ := a3 x (List.mem_of_getElem? hx)
        rw [g.kd _ (fun j' j1 j2 e => by have := tmp_inj e; omega)]
        exact q2
      · rw [List.getElem?_append_right (by omega)] at hx
        have : i = ns.length := by
          have := (List.getElem?_eq_some_iff.mp hx).1
          simp at this; omega
        subst this
        rw [Nat.sub_self] at hx
        cases hx
        refine ⟨k, by rw [List.getElem?_append_right (by omega), show ns.length - js.length = 0 by omega]; rfl, h3⟩
structure Lx (G : List (Str × Kd)) (prog : PyData) (n : Bn) (j : Nat) (rest : List Ob) : Prop where
  prog : n.prog = prog
  cl : ∀ t ks ps us, Cl (mem n t ks ps us j rest)
  gn : ∀ g ∈ G, ∀ i, g.1 ≠ tmp i
structure Rm (b : Bs) (m : Nat) : Prop where
  t : b.t + m ≤ 1000000
  ps : b.ps.length + m < 16000000
  us : b.us.length + m < 16000000
  ks : b.ks.length + m < 16000000
theorem Gr.rm {b b1 : Bs} {m c : Nat} (g : Gr b b1 m) (h : Rm b (m + c)) : Rm b1 c := by
  have a1 := g.t0; have a3 := g.t; have a5 := g.ps; have a7 := g.us; have a9 := g.ks
  obtain ⟨h1, h2, h3, h4⟩ := h
  exact ⟨by omega, by omega, by omega, by omega⟩
theorem Gr.ctx {b b1 : Bs} {m : Nat} (g : Gr b b1 m) (gn : ∀ g ∈ G, ∀ i, g.1 ≠ tmp i) (h : ∀ g ∈ G, kdAt b.ks g.1 = some g.2) : ∀ g ∈ G, kdAt b1.ks g.1 = some g.2 := fun x hx => by
  rw [g.kd _ (fun i' _ _ => gn x hx i')]
  exact h x hx
theorem Los.count : ∀ {es : List PyData} {js : List Kd} {b b1 : Bs} {ns : List Str}, TOk T prog G → Los T es js b ns b1 → b.t + es.length ≤ b1.t
  | _, _, _, _, _, _, .nil => Nat.le_refl _
  | _, _, _, _, _, hT, .snoc l h => by
    have := Los.count hT l
    have := (h.last hT).1
    rw [List.length_append]; simp; omega
variable {n : Bn} {j : Nat} {rest : List Ob}
theorem lower_ok (hT : TOk T prog G) (L : Lx G prog n j rest) : ∀ (m : Nat) (e : PyData) (k : Kd), Er T m e k → ∀ b : Bs, Rm b (szT e) → (∀ g ∈ G, kdAt b.ks g.1 = some g.2) → ∀ Q : WM → Prop, (∀ x b', Lo T e k b x b' → Q (.d (.str x), mem n b'.t b'.ks b'.ps b'.us j rest)) →
    Ok (m_Lowering_lower_expression n.CG n.CL m [.loc n.S0.length, .d e] (mem n b.t b.ks b.ps b.us j rest)) Q
  | 0, e, k, h, _, _, _, _, _ => by cases h
  | m + 1, e, k, h, b, hz, hG, Q, q => by
    obtain ⟨es, js, f, hR, hE⟩ : ∃ es js f, T e k es js f ∧ ∀ (i : Nat) (a : PyData) (j : Kd), es[i]? = some a → js[i]? = some j → Er T m a j := by
      cases h with | mk h1 h2 => exact ⟨_, _, _, h1, h2⟩
    have hTt := hT hR
    have hsz := hTt.sz
    have hel := hTt.len
    unfold m_Lowering_lower_expression b_Lowering_lower_expression
    boot_fact
    refine hTt.parts ?_
    boot_fact
    refine lc_vals (fun i us S => ∃ (ns : List Str) (b1 : Bs), us = (ns.map PyData.str).map W.d ∧ S = mem n b1.t b1.ks b1.ps b1.us j rest ∧ Los T (es.take i) (js.take i) b ns b1) ⟨[], b, rfl, rfl, .nil⟩ ?_ ?_
    · rintro i w us S hw ⟨ns, b1, rfl, rfl, hL⟩
      rw [List.getElem?_map] at hw
      obtain ⟨e', he, rfl⟩ := Option.map_eq_some_iff.mp hw
      have hil : i < js.length := by rw [← hel]; exact (List.getElem?_eq_some_iff.mp he).1
      obtain ⟨k', hk⟩ : ∃ k', js[i]? = some k' := ⟨_, List.getElem?_eq_getElem hil⟩
      have hE' := hE i e' k' he hk
      have hst := szTs_take he
      boot_fact
      refine lower_ok hT L m e' k' hE' b1 ((hL.gr hT).rm (by obtain ⟨h1, h2, h3, h4⟩ := hz; exact ⟨by omega, by omega, by omega, by omega⟩)) ((hL.gr hT).ctx L.gn hG) _ fun x b2 hx => ?_
      boot_fact
      refine ⟨ns ++ [x], b2, by simp, rfl, ?_⟩
      rw [List.take_add_one, List.take_add_one, he, hk]
      exact .snoc hL hx
    rintro us S ⟨ns, b1, rfl, rfl, hL⟩
    rw [List.length_map, List.take_length, hel, List.take_length] at hL
    have hct := Los.count hT hL
    have hg := hL.gr hT
    obtain ⟨z1, z2, z3, z4⟩ := hz
    have g1 := hg.t; have g2 := hg.ps; have g3 := hg.us; have g4 := hg.ks; have g0 := hg.t0
    obtain ⟨l1, l2, l3, l4⟩ := hL.last hT (by omega)
    boot_fact
    rw [dOf_map]
    boot_fact
    refine ⟨sz_le (by rw [List.length_map]; omega), ?_⟩
    rw [L.prog]
    refine lc_vals (fun i us S => us = (js.take i).map (fun k => W.d k.d) ∧ S = mem n b1.t b1.ks b1.ps b1.us j rest) ⟨rfl, rfl⟩ ?_ ?_
    · rintro i w us S hw ⟨rfl, rfl⟩
      rw [List.getElem?_map, List.getElem?_map] at hw
      obtain ⟨_, hw1, rfl⟩ := Option.map_eq_some_iff.mp hw
      obtain ⟨x, hx, rfl⟩ := Option.map_eq_some_iff.mp hw1
      obtain ⟨k', hk, hkd⟩ := l4 i x hx
      boot_fact
      simp only [valW_kw, hkd, Option.map_some]
      boot_fact
      rw [List.take_add_one, hk, List.map_append]; rfl
    rintro us S ⟨rfl, rfl⟩
    rw [List.length_map, List.length_map, l1, ← l2, List.take_length]
    boot_fact
    have e : js.map (fun k => W.d k.d) = (js.map Kd.d).map W.d := by rw [List.map_map]; rfl
    rw [e, dOf_map]
    boot_fact
    refine ⟨sz_le (by rw [List.length_map]; omega), ?_⟩
    have hG1 := hg.ctx L.gn hG
    refine hTt.made (L.cl _ _ _ _) k_mm2 hG1 ?_
    boot_fact
    have ht1 : b1.t < 1048576 := by omega
    refine ⟨?_, sz_le (by show 1 + (NS b1.t).length ≤ _; have := num_at ht1; omega), ?_⟩
    · have : b1.t < 2 ^ 20 := ht1
      show b1.t.log2 < 1920
      by_cases h0 : b1.t = 0
      · rw [h0]; decide
      · exact Nat.lt_trans ((Nat.log2_lt h0).mpr this) (by decide)
    rw [tmp_W]
    refine k_fldaug_ k_mm0 k_ml4 ?_ rfl
    boot_fact
    refine ⟨sz_lt (by omega), ?_⟩
    refine hTt.instr l1 ?_
    boot_fact
    refine add_point_ok (by omega) (by omega) ?_
    boot_fact
    exact q _ _ (.mk hR hL)
end
section
variable {T : TR} {U : PyData → Kd → Prop} {prog : PyData} {G : List (Str × Kd)}
noncomputable def Kn (b : Bs) (x : Str) (k : Kd) : Prop := kdAt b.ks x = some k ∧ ((∀ i, x ≠ tmp i) ∨ ∃ i, i < b.t ∧ x = tmp i)
structure Gs (b b1 : Bs) (m : Nat) : Prop where
  t0 : b.t ≤ b1.t
  t : b1.t ≤ b.t + m
  ps : b1.ps.length ≤ b.ps.length + m
  us : b1.us.length ≤ b.us.length + m
  ks : b1.ks.length ≤ b.ks.length + m
  kd : ∀ x, ((∀ i, x ≠ tmp i) ∨ ∃ i, i < b.t ∧ x = tmp i) → kdAt b1.ks x = kdAt b.ks x
theorem Gs.trans {b b1 b2 : Bs} {m c : Nat} (g : Gs b b1 m) (h : Gs b1 b2 c) : Gs b b2 (m + c) := by
  have a1 := g.t0; have a2 := h.t0; have a3 := g.t; have a4 := h.t; have a5 := g.ps; have a6 := h.ps; have a7 := g.us; have a8 := h.us; have a9 := g.ks; have a10 := h.ks
  refine ⟨by omega, by omega, by omega, by omega, by omega, fun x hx => ?_⟩
  rw [h.kd x (by rcases hx with hx | ⟨i, hi, hx⟩; exact .inl hx; exact .inr ⟨i, by omega, hx⟩), g.kd x hx]
theorem Gs.refl {b : Bs} : Gs b b 0 := ⟨Nat.le_refl _, Nat.le_refl _, Nat.le_refl _, Nat.le_refl _, Nat.le_refl _, fun _ _ => rfl⟩
theorem Gs.mono {b b1 : Bs} {m c : Nat} (g : Gs b b1 m) (h : m ≤ c) : Gs b b1 c := ⟨g.t0, by have := g.t; omega, by have := g.ps; omega, by have := g.us; omega, by have := g.ks; omega, g.kd⟩
theorem Gr.gs {b b1 : Bs} {m : Nat} (g : Gr b b1 m) : Gs b b1 m := by
  have a1 := g.t0; have a3 := g.t; have a5 := g.ps; have a7 := g.us; have a9 := g.ks
  refine ⟨a1, a3, by omega, by omega, by omega, fun x hx => g.kd x fun i h1 h2 e => ?_⟩
  rcases hx with hx | ⟨j, hj, rfl⟩
  · exact hx i e
  · have := tmp_inj e; omega
theorem Gs.push {b : Bs} {i : PyData} : Gs b (b.push i) 1 := ⟨Nat.le_refl _, Nat.le_succ _, by simp [Bs.push], by simp [Bs.push], Nat.le_succ _, fun _ _ => rfl⟩
theorem Gs.stop {b : Bs} {i : PyData} : Gs b (b.stop i) 1 := ⟨Nat.le_refl _, Nat.le_succ _, by simp [Bs.stop], by simp [Bs.stop], Nat.le_succ _, fun _ _ => rfl⟩
theorem Kn.up {b b1 : Bs} {m : Nat} {x : Str} {k : Kd} (g : Gs b b1 m) (h : Kn b x k) : Kn b1 x k := ⟨(g.kd x h.2).trans h.1, by
  rcases h.2 with h | ⟨i, hi, h⟩
  · exact .inl h
  · exact .inr ⟨i, by have := g.t0; omega, h⟩⟩
inductive In3 (T : TR) (U : PyData → Kd → Prop) (b : Bs) : PyData → Prop
  | of {e : PyData} {k : Kd} {es : List PyData} {js : List Kd} {f : Str → List Str → PyData} (t : Nat) (ns : List Str) : T e k es js f → ns.length = es.length → Kn b (tmp t) k → (∀ (i : Nat) (x : Str), ns[i]? = some x → ∃ j, js[i]? = some j ∧ Kn b x j) → In3 T U b (f (tmp t) ns)
  | drop (x : Str) (k : Kd) : Kn b x k → In3 T U b (.tuple [.str "drop", .str x])
  | store (pl : PyData) (x : Str) (k : Kd) : U pl k → Kn b x k → In3 T U b (.tuple [.str "store", pl, .str x])
  | leave (x : Str) (k : Kd) : Kn b x k → In3 T U b (.tuple [.str "leave", .str x])
  | let_ (x y : Str) (k : Kd) : Kn b x k → Kn b y k → In3 T U b (.tuple [.str "let", .str x, .str y])
  | stop : In3 T U b (.tuple [.str "stop"])
theorem In3.up {b b1 : Bs} {m : Nat} {i : PyData} (g : Gs b b1 m) (h : In3 T U b i) : In3 T U b1 i := by
  cases h with
  | of t ns h1 h2 h3 h4 => exact .of t ns h1 h2 (h3.up g) fun i x hx => by obtain ⟨j, q1, q2⟩ := h4 i x hx; exact ⟨j, q1, q2.up g⟩
  | drop x k h => exact .drop x k (h.up g)
  | store pl x k h1 h2 => exact .store pl x k h1 (h2.up g)
  | leave x k h => exact .leave x k (h.up g)
  | let_ x y k h1 h2 => exact .let_ x y k (h1.up g) (h2.up g)
  | stop => exact .stop
noncomputable def Ip (T : TR) (U : PyData → Kd → Prop) (b : Bs) : Prop := ∀ i ∈ b.ps, In3 T U b i
theorem Ip.push {b : Bs} {i : PyData} (h : Ip T U b) (hi : In3 T U b i) : Ip T U (b.push i) := fun y hy => by
  rcases List.mem_append.mp hy with hy | hy
  · exact (h y hy).up .push
  · rw [List.mem_singleton.mp hy]; exact hi.up .push
theorem Ip.stop {b : Bs} {i : PyData} (h : Ip T U b) (hi : In3 T U b i) : Ip T U (b.stop i) := fun y hy => by
  rcases List.mem_append.mp hy with hy | hy
  · exact (h y hy).up .stop
  · rw [List.mem_singleton.mp hy]; exact hi.up .stop
theorem Gs.put {b : Bs} {k : Kd} : Gs b ⟨b.t + 1, putK b.ks (tmp b.t) k, b.ps, b.us⟩ 1 := by
  have := putK_len (n := tmp b.t) (k := k) (ks := b.ks)
  refine ⟨Nat.le_succ _, Nat.le_refl _, Nat.le_succ _, Nat.le_succ _, this, fun x hx => ?_⟩
  show kdAt (putK _ _ _) x = _
  rw [kdAt_put, if_neg]
  rintro rfl
  rcases hx with hx | ⟨i, hi, e⟩
  · exact hx _ rfl
  · have := tmp_inj e; omega
mutual
theorem Lo.ip (hT : TOk T prog G) : ∀ {e : PyData} {k : Kd} {b : Bs} {x : Str} {b1 : Bs}, Lo T e k b x b1 → Ip T U b → Ip T U b1 ∧ Kn b1 x k
  | _, k, b, _, _, .mk (b1 := b1) (ns := ns) (f := f) h l, hb => by
    obtain ⟨h1, h2, h3⟩ := Los.ip hT l hb
    have hk : Kn (b1.give k (f (tmp b1.t) ns)) (tmp b1.t) k := ⟨by show kdAt (putK _ _ _) _ = _; rw [kdAt_put, if_pos rfl], .inr ⟨b1.t, Nat.lt_succ_self _, rfl⟩⟩
    have hg : Gs b1 ⟨b1.t + 1, putK b1.ks (tmp b1.t) k, b1.ps, b1.us⟩ 1 := Gs.put
    refine ⟨?_, hk⟩
    have h4 : Ip T U ⟨b1.t + 1, putK b1.ks (tmp b1.t) k, b1.ps, b1.us⟩ := fun i hi => (h1 i hi).up hg
    refine h4.push (.of _ ns h h2 ⟨hk.1, hk.2⟩ fun i x hx => ?_)
    obtain ⟨j, q1, q2⟩ := h3 i x hx
    exact ⟨j, q1, q2.up hg⟩
theorem Los.ip (hT : TOk T prog G) : ∀ {es : List PyData} {js : List Kd} {b : Bs} {ns : List Str} {b1 : Bs}, Los T es js b ns b1 → Ip T U b → Ip T U b1 ∧ ns.length = es.length ∧ ∀ (i : Nat) (x : Str), ns[i]? = some x → ∃ j, js[i]? = some j ∧ Kn b1 x j
  | _, _, _, _, _, .nil, hb => ⟨hb, rfl, fun i x h => by cases h⟩
  | _, _, _, _, _, .snoc (es := es) (js := js) (ns := ns) (k := k) l h, hb => by
    obtain ⟨h1, h2, h3⟩ := Los.ip hT l hb
    obtain ⟨h4, h5⟩ := Lo.ip hT h h1
    have hj : js.length = es.length := Los.len l
    refine ⟨h4, by simp [h2], fun i x hx => ?_⟩
    by_cases hi : i < ns.length
    · rw [List.getElem?_append_left hi] at hx
      obtain ⟨j, q1, q2⟩ := h3 i x hx
      exact ⟨j, by rw [List.getElem?_append_left (by omega)]; exact q1, q2.up (Lo.gr hT h).gs⟩
    · rw [List.getElem?_append_right (by omega)] at hx
      have : i = ns.length := by
        have := (List.getElem?_eq_some_iff.mp hx).1
        simp at this; omega
      subst this
      rw [Nat.sub_self] at hx
      cases hx
      exact ⟨k, by rw [List.getElem?_append_right (by omega), show ns.length - js.length = 0 by omega]; rfl, h5⟩
theorem Los.len : ∀ {es : List PyData} {js : List Kd} {b : Bs} {ns : List Str} {b1 : Bs}, Los T es js b ns b1 → js.length = es.length
  | _, _, _, _, _, .nil => rfl
  | _, _, _, _, _, .snoc l _ => by have := Los.len l; simp [this]
end
end
section
variable {T : TR} {U : PyData → Kd → Prop} {prog : PyData} {G : List (Str × Kd)} {n : Bn}
inductive Sr (T : TR) (U : PyData → Kd → Prop) : PyData → Prop
  | do_ {e : PyData} {k : Kd} : Er T 30 e k → Sr T U (.tuple [.str "do", e])
  | store {pl e : PyData} {k : Kd} : U pl k → Er T 30 e k → Sr T U (.tuple [.str "store", pl, e])
theorem Rm.mono {b : Bs} {m c : Nat} (h : Rm b m) (hc : c ≤ m) : Rm b c := ⟨by have := h.t; omega, by have := h.ps; omega, by have := h.us; omega, by have := h.ks; omega⟩
theorem Gs.rm {b b1 : Bs} {m c : Nat} (g : Gs b b1 m) (h : Rm b (m + c)) : Rm b1 c := by
  have a1 := g.t0; have a3 := g.t; have a5 := g.ps; have a7 := g.us; have a9 := g.ks
  obtain ⟨h1, h2, h3, h4⟩ := h
  exact ⟨by omega, by omega, by omega, by omega⟩
theorem Gs.ctx {b b1 : Bs} {m : Nat} (g : Gs b b1 m) (gn : ∀ g ∈ G, ∀ i, g.1 ≠ tmp i) (h : ∀ g ∈ G, kdAt b.ks g.1 = some g.2) : ∀ g ∈ G, kdAt b1.ks g.1 = some g.2 := fun x hx => by
  rw [g.kd _ (.inl (gn x hx))]
  exact h x hx
theorem stmt_low (hT : TOk T prog G) {f j : Nat} {b : Bs} {rest : List Ob} {s : PyData} (L : Lx G prog n j rest) (hS : Sr T U s) (hz : Rm b (szT s + 2)) (hG : ∀ g ∈ G, kdAt b.ks g.1 = some g.2) (hip : Ip T U b) :
    Ok (m_Lowering_lower_statement n.CG n.CL (f + 1) [.loc n.S0.length, .d s] (mem n b.t b.ks b.ps b.us j rest)) (fun q => ∃ b', q = (.d .none, mem n b'.t b'.ks b'.ps b'.us j rest) ∧ Ip T U b' ∧ Gs b b' (szT s + 1)) := by
  unfold m_Lowering_lower_statement b_Lowering_lower_statement
  cases hS with
  | do_ hE =>
    rename_i e k
    have hsz : szT e + 1 ≤ szT (.tuple [.str "do", e]) := by simp only [szT, szTs]; omega
    boot_fact
    refine lower_ok hT L 30 _ _ hE b (hz.mono (by omega)) hG _ fun x b1 hx => ?_
    have g := (hx.gr hT).gs
    have z1 := g.rm (c := 1) (hz.mono (by omega))
    obtain ⟨i1, i2⟩ := hx.ip hT hip
    have p1 := z1.ps; have u1 := z1.us
    boot_fact
    refine add_point_ok (by omega) (by omega) ?_
    boot_fact
    exact ⟨_, rfl, i1.push (.drop x k i2), (g.trans Gs.push).mono (by omega)⟩
  | store hU hE =>
    rename_i pl e k
    have hsz : szT e + 1 ≤ szT (.tuple [.str "store", pl, e]) := by simp only [szT, szTs]; omega
    boot_fact
    refine lower_ok hT L 30 _ _ hE b (hz.mono (by omega)) hG _ fun x b1 hx => ?_
    have g := (hx.gr hT).gs
    have z1 := g.rm (c := 1) (hz.mono (by omega))
    obtain ⟨i1, i2⟩ := hx.ip hT hip
    have p1 := z1.ps; have u1 := z1.us
    boot_fact
    refine add_point_ok (by omega) (by omega) ?_
    boot_fact
    exact ⟨_, rfl, i1.push (.store pl x k hU i2), (g.trans Gs.push).mono (by omega)⟩
theorem block_low (hT : TOk T prog G) {f j c : Nat} {sc : List Str} {b : Bs} {rest : List Ob} {ss : List PyData} (L : Lx G prog n j rest) (hS : ∀ s ∈ ss, Sr T U s ∧ szT s ≤ c) (hsc : sc.length ≤ 1000) (hz : Rm b (ss.length * (c + 1) + c + 3)) (hG : ∀ g ∈ G, kdAt b.ks g.1 = some g.2) (hip : Ip T U b) (hj : rest[j]? = some (scOb sc)) :
    Ok (m_Lowering_lower_block n.CG n.CL (f + 2) [.loc n.S0.length, .d (.tuple ss)] (mem n b.t b.ks b.ps b.us j rest)) (fun q => ∃ b', q = (.d .none, mem n b'.t b'.ks b'.ps b'.us rest.length (rest ++ [scOb sc])) ∧ Ip T U b' ∧ Gs b b' (ss.length * (c + 1))) := by
  unfold m_Lowering_lower_block b_Lowering_lower_block
  boot_fact
  simp only [hj]
  boot_fact
  refine for_vals (fun i ρ S => ∃ (b' : Bs) (x3 : Option W), ρ = [some (.loc n.S0.length), some (.d (.tuple ss)), some (.d (.int (sc.length : Int))), x3] ∧ S = mem n b'.t b'.ks b'.ps b'.us j rest ∧ Ip T U b' ∧ Gs b b' (i * (c + 1))) ?_ ?_ ?_
  · refine ⟨b, none, ?_, rfl, hip, Gs.refl.mono (by omega)⟩
    simp [scOb]
  · rintro i w ρ S hw ⟨b', x3, rfl, rfl, h1, h2⟩
    rw [List.getElem?_map] at hw
    obtain ⟨s, hs, rfl⟩ := Option.map_eq_some_iff.mp hw
    obtain ⟨hs1, hs2⟩ := hS s (List.mem_of_getElem? hs)
    have hi : i < ss.length := (List.getElem?_eq_some_iff.mp hs).1
    have hm : (i + 1) * (c + 1) ≤ ss.length * (c + 1) := Nat.mul_le_mul_right _ hi
    have hm2 : (i + 1) * (c + 1) = i * (c + 1) + (c + 1) := by rw [Nat.add_mul, Nat.one_mul]
    boot_fact
    refine (stmt_low hT L hs1 (h2.rm (hz.mono (by omega))) (h2.ctx L.gn hG) h1).mono ?_
    rintro _ ⟨b2, rfl, g1, g2⟩
    boot_fact
    exact ⟨b2, _, rfl, rfl, g1, (h2.trans g2).mono (by omega)⟩
  · rintro ρ S ⟨b', x3, rfl, rfl, h1, h2⟩
    rw [List.length_map] at h2
    boot_fact
    simp only [hj]
    have e : cutL ((sc.map PyData.str).map W.d) (some ((sc.length : Nat) : Int)) none = (([] : List Str).map PyData.str).map W.d := by rw [cutD, ← List.map_drop, ← List.map_drop, List.drop_length]
    show Kix _ _ ((dOf (cutL ((sc.map PyData.str).map W.d) (some ((sc.length : Nat) : Int)) none)).map .list)
    rw [e, dOf_map]
    boot_fact
    refine add_drops_ok (xs := []) ⟨?_, ?_⟩ ?_
    · have a3 := h2.ps; have := hz.ps; simp; omega
    · have a3 := h2.us; have := hz.us; simp; omega
    boot_fact
    simp only [hj]
    boot_fact
    have e2 : List.take sc.length ((sc.map PyData.str).map W.d) = (sc.map PyData.str).map W.d := by rw [← List.map_take, ← List.map_take, List.take_length]
    rw [e2]
    exact ⟨b', rfl, h1, h2⟩
end
section
noncomputable def pairSD (p : Str × Kd) : PyData := .tuple [.str p.1, p.2.d]
structure Fun where
  nm : Str
  ps : List (Str × Kd)
  res : PyData
  fr : List Str
  body : List PyData
noncomputable def funD (f : Fun) : PyData := .tuple [.str f.nm, .tuple (f.ps.map pairSD), f.res, .tuple (f.fr.map .str), .tuple f.body]
noncomputable def putAll (ks : Ks) : List (Str × Kd) → Ks
  | [] => ks
  | p :: ps => putAll (putK ks p.1 p.2) ps
theorem putAll_len : ∀ {ps : List (Str × Kd)} {ks : Ks}, (putAll ks ps).length ≤ ks.length + ps.length
  | [], _ => Nat.le_refl _
  | p :: ps, ks => by
    have h1 := putK_len (n := p.1) (k := p.2) (ks := ks)
    have h2 := putAll_len (ps := ps) (ks := putK ks p.1 p.2)
    rw [putAll, List.length_cons]; omega
theorem dc_run {a0 a1 a2 a3 a4 a5 a6 a7 a8 : Option W} {S : Mem} {ps : List (Str × Kd)} : ∀ (k i : Nat) (acc : Ks), i + k = ps.length → acc.length + k ≤ 1000 →
    dcM (.vals ((ps.map pairSD).map W.d)) (gTup' (gsCons (gN 7) (gsCons (gN 8) gsNil))) tYesM (eVar 7) (eVar 8) k i [a0, a1, a2, a3, a4, a5, a6, a7, a8] (kwOf acc) S = some (kwOf (putAll acc (ps.drop i)), S)
  | 0, i, acc, h, _ => by
    unfold dcM
    have e : Itm.at_ (.vals ((ps.map pairSD).map W.d)) S i = some none := by
      show some _ = _
      rw [List.getElem?_eq_none (by rw [List.length_map, List.length_map]; omega)]
    rw [e, List.drop_of_length_le (by omega)]
    rfl
  | k + 1, i, acc, h, hl => by
    have hi : i < ps.length := by omega
    have e : Itm.at_ (.vals ((ps.map pairSD).map W.d)) S i = some (some (.d (pairSD ps[i]))) := by
      show some _ = _
      rw [List.getElem?_map, List.getElem?_map, List.getElem?_eq_getElem hi]; rfl
    have ht : Ok (gTup' (gsCons (gN 7) (gsCons (gN 8) gsNil)) (.d (pairSD ps[i])) [a0, a1, a2, a3, a4, a5, a6, a7, a8] S) (fun r => r = ([a0, a1, a2, a3, a4, a5, a6, some (.d (.str ps[i].1)), some (.d ps[i].2.d)], S)) := by
      unfold pairSD
      boot_fact
    obtain ⟨_, e1, rfl⟩ := ht
    have hk := putK_len (n := ps[i].1) (k := ps[i].2) (ks := acc)
    have hd : ps.drop i = ps[i] :: ps.drop (i + 1) := List.drop_eq_getElem_cons hi
    unfold dcM
    rw [e]
    simp only [e1, Option.bind_some]
    show (if (kwOf acc).length < sizeLine then dcM _ _ _ _ _ k (i + 1) _ (putD (kwOf acc) (.inr ps[i].1) (.d ps[i].2.d)) S else none) = _
    rw [if_pos (by rw [k_mdl]; exact sz_lt (by omega)), putD_kw, dc_run k (i + 1) _ (by omega) (by omega), hd]
    rfl
theorem dc_pairs {a0 a1 a2 a3 a4 a5 a6 a7 a8 : Option W} {S : Mem} {ps : List (Str × Kd)} {Q : WM → Prop} (h3 : a3 = some (.d (.tuple (ps.map pairSD)))) (hl : ps.length ≤ 1000) (q : Q (.loc S.length, S ++ [.dct (kwOf (putAll [] ps))])) :
    Ok (eDc (iTupM (eVar 3)) [7, 8] (gTup' (gsCons (gN 7) (gsCons (gN 8) gsNil))) tYesM (eVar 7) (eVar 8) [a0, a1, a2, a3, a4, a5, a6, a7, a8] S) Q := by
  subst h3
  have hi : Ok (iTupM (eVar 3) [a0, a1, a2, some (.d (.tuple (ps.map pairSD))), a4, a5, a6, a7, a8] S) (fun r => r = (.vals ((ps.map pairSD).map W.d), S)) := by boot_fact
  obtain ⟨_, e1, rfl⟩ := hi
  refine ⟨_, ?_, q⟩
  unfold eDc
  rw [e1]
  simp only [Option.bind_some]
  have := dc_run (a0 := a0) (a1 := a1) (a2 := a2) (a3 := some (.d (.tuple (ps.map pairSD)))) (a4 := a4) (a5 := a5) (a6 := a6) (a7 := none) (a8 := none) (S := S) (ps := ps) ps.length 0 [] (by omega) (by simpa using hl)
  have e2 : Itm.len (.vals ((ps.map pairSD).map W.d)) S = ps.length := by show List.length _ = _; rw [List.length_map, List.length_map]
  rw [e2]
  show (Option.bind (dcM _ _ _ _ _ ps.length 0 [a0, a1, a2, some (.d (.tuple (ps.map pairSD))), a4, a5, a6, none, none] (kwOf []) S) _) = _
  rw [this]
  rfl
noncomputable def b0 (f : Fun) : Bs := ⟨0, putAll [] f.ps, [], []⟩
noncomputable def pnames (f : Fun) : List Str := f.ps.map (·.1)
noncomputable def bn (S : Mem) (CG CL : Addr) (prog : PyData) (f : Fun) : Bn := ⟨S, CG, CL, prog, .d (.str f.nm), .d (.tuple ((pnames f).map .str)), .d (.tuple (f.fr.map .str)), .d f.res⟩
theorem init_ok {prog : PyData} {CG CL : Addr} {S : Mem} {f : Fun} {Q : WM → Prop} (hl : f.ps.length ≤ 6)
    (q : Q (.d .none, mem (bn S CG CL prog f) 0 (putAll [] f.ps) [] [] 0 [scOb (pnames f)])) :
    Ok (m_Lowering_init CG CL [.loc S.length, .d (prog), .d (funD f)] (S ++ [.ins CL []])) Q := by
  unfold m_Lowering_init b_Lowering_init m_Graph_init b_Graph_init funD
  boot_fact
  simp only [putW, ofStr_eq, String.reduceEq, if_false, if_true, List.length_nil]
  rw [List.map_map]
  refine lc_map (fun p : Str × Kd => W.d (pairSD p)) (fun p => W.d (.str p.1)) ?_ ?_
  · rintro ⟨x, k⟩ _ R N h
    simp only [pairSD]
    boot_fact
    exact h
  have e : f.ps.map (fun p => W.d (.str p.1)) = ((pnames f).map PyData.str).map W.d := by unfold pnames; rw [List.map_map, List.map_map]; rfl
  rw [e]
  boot_fact
  rw [dOf_map]
  boot_fact
  have hpl : (pnames f).length ≤ 6 := by unfold pnames; rw [List.length_map]; exact hl
  simp only [putW, ofStr_eq, String.reduceEq, if_false, if_true, List.length_nil, List.length_cons]
  refine ⟨sz_le (by rw [List.length_map]; omega), by decide, by decide, ?_⟩
  refine dc_pairs rfl (by omega) ?_
  boot_fact
  simp only [putW, ofStr_eq, String.reduceEq, if_false, if_true, List.lookup_cons, beq_eq_decide, decide_true, decide_false, List.length_cons, List.length_nil]
  boot_fact
  simp only [List.lookup_cons, beq_eq_decide, ofStr_eq, String.reduceEq, decide_true, decide_false]
  boot_fact
  simp only [putW, ofStr_eq, String.reduceEq, if_false, if_true, List.length_cons, List.length_nil]
  exact ⟨by decide, q⟩
theorem cl_mem {prog : PyData} {CG CL : Addr} {S : Mem} {f : Fun} {t : Nat} {ks : Ks} {ps us : List PyData} {j : Nat} {rest : List Ob} (h : Cl S) (hj : j < rest.length) (hr : Rd rest) : Cl (mem (bn S CG CL prog f) t ks ps us j rest) := by
  unfold Cl
  rw [k_mlen]
  show List.all (S ++ _) (obLt (S.length + (rest.length + 5))) = true
  rw [List.all_append, Bool.and_eq_true]
  refine ⟨List.all_eq_true.mpr fun o ho => obLt_mono (Nat.le_add_right _ _) (List.all_eq_true.mp h o ho), ?_⟩
  simp only [List.all_cons, Bool.and_eq_true]
  refine ⟨?_, ?_, ?_, lt_lst, lt_lst, List.all_eq_true.mpr fun o ho => ?_⟩
  · show (true && (decide (S.length + 1 < _) && (decide (S.length + (j + 5) < _) && (true && true)))) = true
    rw [decide_eq_true (show S.length + 1 < S.length + (rest.length + 5) by omega), decide_eq_true (show S.length + (j + 5) < S.length + (rest.length + 5) by omega)]; rfl
  · show (true && (true && (true && (true && (decide (S.length + 2 < _) && (decide (S.length + 3 < _) && (decide (S.length + 4 < _) && true))))))) = true
    rw [decide_eq_true (show S.length + 2 < S.length + (rest.length + 5) by omega), decide_eq_true (show S.length + 3 < S.length + (rest.length + 5) by omega), decide_eq_true (show S.length + 4 < S.length + (rest.length + 5) by omega)]; rfl
  · show List.all _ _ = true
    refine List.all_eq_true.mpr fun o ho => ?_
    obtain ⟨p, _, rfl⟩ := List.mem_map.mp ho
    rfl
  · obtain ⟨ds, rfl⟩ := hr o ho
    exact lt_lst
theorem putAll_other {x : Str} : ∀ {ps : List (Str × Kd)} {ks : Ks}, x ∉ ps.map (·.1) → kdAt (putAll ks ps) x = kdAt ks x
  | [], _, _ => rfl
  | p :: ps, ks, h => by
    rw [List.map_cons, List.mem_cons, not_or] at h
    rw [putAll, putAll_other h.2, kdAt_put, if_neg (fun e => h.1 e.symm)]
theorem putAll_at : ∀ {ps : List (Str × Kd)} {ks : Ks}, (ps.map (·.1)).Nodup → ∀ g ∈ ps, kdAt (putAll ks ps) g.1 = some g.2
  | [], _, _, g, h => nomatch h
  | p :: ps, ks, hn, g, h => by
    rw [List.map_cons, List.nodup_cons] at hn
    rw [putAll]
    rcases List.mem_cons.mp h with rfl | h
    · rw [putAll_other hn.1, kdAt_put, if_pos rfl]
    · exact putAll_at hn.2 g h
end
section
variable {T : TR} {U : PyData → Kd → Prop} {prog : PyData} {n : Bn}
theorem Ip.drops : ∀ {xs : List Str} {b : Bs}, (∀ x ∈ xs, ∃ k, Kn b x k) → Ip T U b → Ip T U (b.drops xs) ∧ Gs b (b.drops xs) xs.length
  | [], b, _, h => ⟨h, Gs.refl⟩
  | x :: xs, b, hx, h => by
    obtain ⟨k, hk⟩ := hx x List.mem_cons_self
    have g : Gs b (b.push (dropD x)) 1 := .push
    obtain ⟨h1, h2⟩ := Ip.drops (xs := xs) (b := b.push (dropD x)) (fun y hy => by obtain ⟨j, hj⟩ := hx y (List.mem_cons_of_mem _ hy); exact ⟨j, hj.up g⟩) (h.push (.drop x k hk))
    exact ⟨h1, (g.trans h2).mono (by rw [List.length_cons]; omega)⟩
noncomputable def unitD : PyData := .tuple [.str "unit"]
theorem function_low {f : Fun} {c : Nat} (hT : TOk T prog f.ps) (hres : n.res = .d f.res) (Y : ∀ j rest, j < rest.length → Rd rest → Lx f.ps prog n j rest) (hu : f.res = unitD) (hU : T unitD ⟨unitD⟩ [] [] (fun t _ => .tuple [.str "set", .str t, unitD])) (hpl : f.ps.length ≤ 6) (hnd : (f.ps.map (·.1)).Nodup) (gn : ∀ g ∈ f.ps, ∀ i, g.1 ≠ tmp i) (hS : ∀ s ∈ f.body, Sr T U s ∧ szT s ≤ c) (hz : f.body.length * (c + 1) + c ≤ 100000) :
    Ok (m_Lowering_lower_function n.CG n.CL [.loc n.S0.length, .d (.tuple f.body)] (mem n (b0 f).t (b0 f).ks (b0 f).ps (b0 f).us 0 [scOb (pnames f)])) (fun q => ∃ b j rest, q = (.d .none, mem n b.t b.ks b.ps b.us j rest) ∧ Ip T U b ∧ (∀ g ∈ f.ps, kdAt b.ks g.1 = some g.2) ∧ b.ps.length ≤ 200000 ∧ 0 < b.ps.length ∧ j < rest.length ∧ Rd rest) := by
  have hpl2 : (pnames f).length ≤ 6 := by unfold pnames; rw [List.length_map]; exact hpl
  have hkl := putAll_len (ps := f.ps) (ks := [])
  rw [List.length_nil, Nat.zero_add] at hkl
  have r0 : Rd [scOb (pnames f)] := fun o ho => by rw [List.mem_singleton.mp ho]; exact ⟨_, rfl⟩
  have hG0 : ∀ g ∈ f.ps, kdAt (b0 f).ks g.1 = some g.2 := putAll_at hnd
  have hz0 : Rm (b0 f) (f.body.length * (c + 1) + c + 100) := ⟨by show 0 + _ ≤ 1000000; omega, by show 0 + _ < 16000000; omega, by show 0 + _ < 16000000; omega, by show (putAll [] f.ps).length + _ < _; omega⟩
  have h0 : Ip T U (b0 f) := fun i hi => nomatch hi
  have blk := block_low (n := n) (f := 14) hT (Y 0 [scOb (pnames f)] (by simp) r0) hS (sc := pnames f) (by omega) (hz0.mono (by omega)) hG0 h0 (by rfl)
  unfold m_Lowering_lower_function b_Lowering_lower_function
  boot_fact
  refine blk.mono ?_
  rintro _ ⟨b1, rfl, h1, g1⟩
  have z1 := g1.rm (c := c + 100) (hz0.mono (by omega))
  have p1 := z1.ps; have u1 := z1.us; have t1 := z1.t; have k1 := z1.ks
  boot_fact
  rw [hres, hu]
  unfold unitD
  boot_fact
  refine ⟨by decide +kernel, ?_⟩
  rw [show PyData.eqv (.tuple [.str "unit"]) (.tuple [.str "unit"]) = true from rfl]
  boot_fact
  have hr1 : Rd ([scOb (pnames f)] ++ [scOb (pnames f)]) := fun o ho => by
    rcases List.mem_append.mp ho with ho | ho <;> (rw [List.mem_singleton.mp ho]; exact ⟨_, rfl⟩)
  have hG1 := g1.ctx gn hG0
  refine lower_ok hT (Y _ _ (by simp) hr1) 30 unitD ⟨unitD⟩ (.mk hU (fun i a j h => by simp at h)) b1 ?_ hG1 _ fun x b2 hx => ?_
  · exact z1.mono (by show szT (.tuple [.str "unit"]) ≤ _; simp only [szT, szTs]; omega)
  obtain ⟨i2, kx⟩ := hx.ip hT h1
  have g2 := (hx.gr hT).gs
  have sz1 : szT unitD ≤ 10 := by show szT (.tuple [.str "unit"]) ≤ _; simp only [szT, szTs]; omega
  have p2 := g2.ps; have u2 := g2.us
  boot_fact
  refine add_leave_ok (xs := pnames f) ⟨by omega, by omega⟩ (by rfl) ?_
  boot_fact
  have hG2 := g2.ctx gn hG1
  have hkx : ∀ x ∈ (pnames f).reverse, ∃ k, Kn b2 x k := fun x hx => by
    obtain ⟨g, hg, rfl⟩ := List.mem_map.mp (List.mem_reverse.mp hx)
    exact ⟨g.2, hG2 g hg, .inl (gn g hg)⟩
  obtain ⟨i3, g3⟩ := Ip.drops hkx i2
  have g4 : Gs (b2.drops (pnames f).reverse) ((b2.drops (pnames f).reverse).stop (.tuple [.str "leave", .str x])) 1 := .stop
  have hG3 := (g3.trans g4).ctx gn hG2
  have q1 := g1.ps; have q3 := g3.ps
  rw [List.length_reverse] at q3
  have e0 : (b0 f).ps.length = 0 := rfl
  refine ⟨_, _, _, rfl, i3.stop (.leave x _ (kx.up g3)), hG3, ?_, ?_, by simp, hr1⟩
  · show List.length (_ ++ [_]) ≤ _
    rw [List.length_append, List.length_singleton]; omega
  · show 0 < List.length (_ ++ [_])
    rw [List.length_append, List.length_singleton]; omega
end
section
variable {T : TR} {U : PyData → Kd → Prop} {prog : PyData}
theorem build_low {CG CL : Addr} {S : Mem} {f : Fun} {c : Nat} (hT : TOk T prog f.ps) (hcl : Cl S) (hfn : ∀ (S : Mem) (Q : WM → Prop), Q (.d (funD f), S) → Ok (m_function_named [.d prog, .d (.str f.nm)] S) Q) (hu : f.res = unitD) (hU : T unitD ⟨unitD⟩ [] [] (fun t _ => .tuple [.str "set", .str t, unitD])) (hpl : f.ps.length ≤ 6) (hnd : (f.ps.map (·.1)).Nodup) (gn : ∀ g ∈ f.ps, ∀ i, g.1 ≠ tmp i) (hS : ∀ s ∈ f.body, Sr T U s ∧ szT s ≤ c) (hz : f.body.length * (c + 1) + c ≤ 100000) :
    Ok (m_build_graph CG CL [.d prog, .d (.str f.nm)] S) (fun q => ∃ b j rest, q = (.loc (S.length + 1), mem (bn S CG CL prog f) b.t b.ks b.ps b.us j rest) ∧ Ip T U b ∧ (∀ g ∈ f.ps, kdAt b.ks g.1 = some g.2) ∧ b.ps.length ≤ 200000 ∧ 0 < b.ps.length ∧ j < rest.length ∧ Rd rest) := by
  have Y : ∀ j rest, j < rest.length → Rd rest → Lx f.ps prog (bn S CG CL prog f) j rest := fun j rest hj hr => ⟨rfl, fun t ks ps us => cl_mem hcl hj hr, gn⟩
  unfold m_build_graph b_build_graph
  boot_fact
  refine hfn _ _ ?_
  have hnon : isNonW (W.d (funD f)) = false := rfl
  boot_fact
  rw [hnon]
  boot_fact
  refine init_ok hpl ?_
  boot_fact
  unfold funD
  have m0 : ∀ t ks ps us j rest, (mem (bn S CG CL prog f) t ks ps us j rest)[S.length]? = some (.ins CL (lf (bn S CG CL prog f) j t)) := fun _ _ _ _ _ _ => k_mm0
  rw [m0]
  boot_fact
  refine (function_low (n := bn S CG CL prog f) hT rfl Y hu hU hpl hnd gn hS hz).mono ?_
  rintro _ ⟨b, j, rest, rfl, hg⟩
  boot_fact
  rw [m0]
  boot_fact
  exact ⟨b, j, rest, rfl, hg⟩
end
end raw
namespace fam
open PySem L2 Pd
set_option hygiene false in
local macro_rules | `(tactic| boot_fact) => `(tactic| simp only [k_some, k_seq, k_seq_nx, k_seq_rt, k_seq_bk, k_seq_ct, k_sif, k_if_t, k_if_f, k_ret, k_ret_, k_drop, k_drop_, k_asg, k_asg_, k_st_, k_nx, k_brk, k_ct, k_for, k_for_, k_gN, k_gTup, k_gsC, k_gs_, k_gsN, k_gIx, k_gi1_, k_gi2_, k_g3_, k_g4_, k_var, k_V_, k_c, k_op, k_op1_, k_op2_, k_un, k_un_, k_eB, k_B_, k_and, k_and_t, k_and_f, k_or, k_or_t, k_or_f, k_not, k_not_, k_eT, k_T_, k_andV, k_andV_t, k_andV_f, k_orV, k_orV_t, k_orV_f, k_notV, k_notV_, k_eIf, k_eIf_t, k_eIf_f, k_aN, k_aC, k_cs1_, k_cs2_, k_call, k_call_, k_tup, k_lstF, k_lstL, k_callK, k_callKw, k_kw1_, k_kw2_, k_dfn, k_def_nx, k_def_rt, k_finF, k_finT, k_sl, k_ix1_, k_ix2_, k_ix3_, k_pN, k_pS, k_pS_, k_iT, k_iL, k_iR, k_it_T, k_it_L, k_it_Ls, k_it_Ll, k_il_, k_it_R, k_it_Rt, k_it_Rl, k_ir_, k_r1, k_r2, k_rng, k_r1_, k_r2_, k_e, k_e_, k_lc, k_lc1_, k_lc2_, k_yes, k_all, k_all1_, k_all2_, k_bm, k_bm1l, k_bml_, k_bm2_, k_app, k_app_, k_ext, k_ext_, k_pop, k_pop_, k_rev, k_rev_, k_ins, k_ins_, k_mkT, k_mkT_, k_mkF, k_mkF_, k_mkL, k_add, k_addS, k_addT, k_addL, k_addLL, k_sub, k_lt, k_le, k_gt, k_ge, k_mul, k_div, k_mod, k_pow, k_neg, k_eqI, k_eqS, k_eqB, k_eqIS, k_eqSI, k_eqT, k_isN, k_isBl, k_ixT, k_ixL, k_ixl, k_ix_, k_iW_, k_iL_, k_lenT, k_lenL, k_lenl, k_lenl_, k_tupl, k_tupl_, k_tupl0, k_lstFl, k_lstFl_, k_lstLl, k_lstLl_, k_slLl, k_slLl_, k_slFl, k_tupT, k_tupL, k_lstFT, k_lstFL, k_lstLT, k_lstLL, k_lstLs, k_abs, k_int, k_intB, k_str, k_slT, k_slLs, k_slL, k_is, k_is_iT, k_is_iB, k_is_b, k_is_s, k_isT, k_isS, k_isT_t, k_isT_i, k_isT_b, k_isT_s, k_isT_n, k_isS_s, k_isS_i, k_isS_b, k_isS_t, k_isL, k_isL_, k_isL2, k_turn_nx, k_turn_ct, k_turn_bk, k_turn_rt, k_g_, k_lg_, k_lt_t, k_lt_f, k_Y_, k_inT, k_inL, k_fld, k_fl_, k_fl2, k_fldput, k_fp1_, k_fp2_, k_fpO, k_fldaug_, k_fa2_, k_faO, k_meth, k_m_, k_mO, k_ms_, k_make, k_mk_, k_mk2_, k_dnew, k_dget, k_dg_, k_dg1_, k_dg2s, k_dg2i, k_din, k_di_, k_di1_, k_di2s, k_dput, k_dp1_, k_dp2_, k_dp3_, k_dpOs, k_dpOi, k_disp, k_ps_, k_psN, k_pC, k_pc1s, k_pc2_, k_pc3_, k_ixc, k_ixc_, k_lstRev, k_lr_, k_sum, k_max, k_ixS, k_iS_, k_iS, k_it_ST, k_it_SL, k_it_Sl, k_chain, k_ch1_, k_ch2_, k_ch3t, k_ch3f, k_ch4_, k_lenXL, k_lenXT, k_lenXl, k_lenXS, List.getElem?_cons_zero, List.getElem?_cons_succ, List.set_cons_zero, List.set_cons_succ, List.map_cons, List.map_nil, List.replicate_succ, List.replicate_zero, List.cons_append, List.nil_append, List.length_cons, List.length_nil, dOf_c, dOf_nil, Option.map_some, Option.map_none, atI_0, atI_1, atI_2, atI_3, atI_4, atI_5, atI_6, ixN_0, ixN_1, ixN_2, ixN_3, ixN_4, ixN_5, ixN_6, Bool.not_true, Bool.not_false, Bool.or_true, Bool.true_or, Bool.or_false, Bool.false_or, Bool.and_true, Bool.true_and, Bool.and_false, Bool.false_and, if_true, if_false, Bool.false_eq_true, decide_true, decide_false, true_and, and_true, ofStr_eq, wipeE, eq_self, cutT, and_self, Bool.or_self, Bool.and_self, ite_true, ite_false, get_e0, get_e1, get_e2, set_e0, set_e1, set_e2, take_e, List.length_append, List.append_assoc, sz_l0, sz_l1, sz_l2, sz_l3, sz_l4, sz_l5, sz_l6, sz_l7, sz_l8, sz_l9, sz_l10, sz_l11, sz_l12, sz_l13, sz_k0, sz_k1, sz_k2, sz_k3, sz_k4, sz_k5, sz_k6, sz_k7, sz_k8, sz_k9, sz_k10, sz_k11, sz_k12, sz_k13, List.all_cons, List.all_nil, List.any_cons, List.any_nil, flat_s, flat_i, eqv_str, eqv_int, eqv_is, eqv_si, reduceIte, Nat.reduceAdd, Nat.reduceEqDiff, Nat.reduceLT, Int.reduceAdd, Int.reduceSub, Int.reduceLT, Int.reduceLE, Int.reduceEq, String.reduceEq, reduceCtorEq, Nat.reduceLeDiff, Nat.zero_le])
end fam
namespace fam
open PySem L2 Pd
set_option hygiene false in
local macro_rules | `(tactic| boot_fact) => `(tactic| simp only [k_some, k_seq, k_seq_nx, k_seq_rt, k_seq_bk, k_seq_ct, k_sif, k_if_t, k_if_f, k_ret, k_ret_, k_drop, k_drop_, k_asg, k_asg_, k_st_, k_nx, k_brk, k_ct, k_for, k_for_, k_gN, k_gTup, k_gsC, k_gs_, k_gsN, k_gIx, k_gi1_, k_gi2_, k_g3_, k_g4_, k_var, k_V_, k_c, k_op, k_op1_, k_op2_, k_un, k_un_, k_eB, k_B_, k_and, k_and_t, k_and_f, k_or, k_or_t, k_or_f, k_not, k_not_, k_eT, k_T_, k_andV, k_andV_t, k_andV_f, k_orV, k_orV_t, k_orV_f, k_notV, k_notV_, k_eIf, k_eIf_t, k_eIf_f, k_aN, k_aC, k_cs1_, k_cs2_, k_call, k_call_, k_tup, k_lstF, k_lstL, k_callK, k_callKw, k_kw1_, k_kw2_, k_dfn, k_def_nx, k_def_rt, k_finF, k_finT, k_sl, k_ix1_, k_ix2_, k_ix3_, k_pN, k_pS, k_pS_, k_iT, k_iL, k_iR, k_it_T, k_it_L, k_it_Ls, k_it_Ll, k_il_, k_it_R, k_it_Rt, k_it_Rl, k_ir_, k_r1, k_r2, k_rng, k_r1_, k_r2_, k_e, k_e_, k_lc, k_lc1_, k_lc2_, k_yes, k_all, k_all1_, k_all2_, k_bm, k_bm1l, k_bml_, k_bm2_, k_app, k_app_, k_ext, k_ext_, k_pop, k_pop_, k_rev, k_rev_, k_ins, k_ins_, k_mkT, k_mkT_, k_mkF, k_mkF_, k_mkL, k_add, k_addS, k_addT, k_addL, k_addLL, k_sub, k_lt, k_le, k_gt, k_ge, k_mul, k_div, k_mod, k_pow, k_neg, k_eqI, k_eqS, k_eqB, k_eqIS, k_eqSI, k_eqT, k_isN, k_isBl, k_ixT, k_ixL, k_ixl, k_ix_, k_iW_, k_iL_, k_lenT, k_lenL, k_lenl, k_lenl_, k_tupl, k_tupl_, k_tupl0, k_lstFl, k_lstFl_, k_lstLl, k_lstLl_, k_slLl, k_slLl_, k_slFl, k_tupT, k_tupL, k_lstFT, k_lstFL, k_lstLT, k_lstLL, k_lstLs, k_abs, k_int, k_intB, k_str, k_slT, k_slLs, k_slL, k_is, k_is_iT, k_is_iB, k_is_b, k_is_s, k_isT, k_isS, k_isT_t, k_isT_i, k_isT_b, k_isT_s, k_isT_n, k_isS_s, k_isS_i, k_isS_b, k_isS_t, k_isL, k_isL_, k_isL2, k_turn_nx, k_turn_ct, k_turn_bk, k_turn_rt, k_g_, k_lg_, k_lt_t, k_lt_f, k_Y_, k_inT, k_inL, k_fld, k_fl_, k_fl2, k_fldput, k_fp1_, k_fp2_, k_fpO, k_fldaug_, k_fa2_, k_faO, k_meth, k_m_, k_mO, k_ms_, k_make, k_mk_, k_mk2_, k_dnew, k_dget, k_dg_, k_dg1_, k_dg2s, k_dg2i, k_din, k_di_, k_di1_, k_di2s, k_dput, k_dp1_, k_dp2_, k_dp3_, k_dpOs, k_dpOi, k_disp, k_ps_, k_psN, k_pC, k_pc1s, k_pc2_, k_pc3_, k_ixc, k_ixc_, k_lstRev, k_lr_, k_sum, k_max, k_ixS, k_iS_, k_iS, k_it_ST, k_it_SL, k_it_Sl, k_chain, k_ch1_, k_ch2_, k_ch3t, k_ch3f, k_ch4_, k_lenXL, k_lenXT, k_lenXl, k_lenXS, k_mm0, k_mm1, k_mm2, k_mm3, k_mm4, k_mmR, k_ms0, k_ms2, k_ms3, k_ms4, k_msR, k_mlen, k_mapp, k_msn, k_ml1, k_ml2, k_ml3, k_ml4, k_mn1, k_mn2, k_mn3, k_mn4, k_mn5, k_mn6, k_mn7, k_mn8, k_mn9, k_mna, k_mnb, k_mg1, k_mg2, k_mg3, k_mg4, k_mp1, k_mp2, k_mkl, k_mdp, k_mdl, List.getElem?_cons_zero, List.getElem?_cons_succ, List.set_cons_zero, List.set_cons_succ, List.map_cons, List.map_nil, List.replicate_succ, List.replicate_zero, List.cons_append, List.nil_append, List.length_cons, List.length_nil, dOf_c, dOf_nil, Option.map_some, Option.map_none, atI_0, atI_1, atI_2, atI_3, atI_4, atI_5, atI_6, ixN_0, ixN_1, ixN_2, ixN_3, ixN_4, ixN_5, ixN_6, Bool.not_true, Bool.not_false, Bool.or_true, Bool.true_or, Bool.or_false, Bool.false_or, Bool.and_true, Bool.true_and, Bool.and_false, Bool.false_and, if_true, if_false, Bool.false_eq_true, decide_true, decide_false, true_and, and_true, ofStr_eq, wipeE, eq_self, cutT, and_self, Bool.or_self, Bool.and_self, ite_true, ite_false, get_e0, get_e1, get_e2, set_e0, set_e1, set_e2, take_e, List.length_append, List.append_assoc, sz_l0, sz_l1, sz_l2, sz_l3, sz_l4, sz_l5, sz_l6, sz_l7, sz_l8, sz_l9, sz_l10, sz_l11, sz_l12, sz_l13, sz_k0, sz_k1, sz_k2, sz_k3, sz_k4, sz_k5, sz_k6, sz_k7, sz_k8, sz_k9, sz_k10, sz_k11, sz_k12, sz_k13, List.all_cons, List.all_nil, List.any_cons, List.any_nil, flat_s, flat_i, eqv_str, eqv_int, eqv_is, eqv_si, reduceIte, Nat.reduceAdd, Nat.reduceEqDiff, Nat.reduceLT, Int.reduceAdd, Int.reduceSub, Int.reduceLT, Int.reduceLE, Int.reduceEq, String.reduceEq, reduceCtorEq, Nat.reduceLeDiff, Nat.zero_le])
end fam
namespace fam
open PySem L2 Pd
set_option hygiene false in
local macro_rules | `(tactic| boot_fact) => `(tactic| simp only [k_some, k_seq, k_seq_nx, k_seq_rt, k_seq_bk, k_seq_ct, k_sif, k_if_t, k_if_f, k_ret, k_ret_, k_drop, k_drop_, k_asg, k_asg_, k_st_, k_nx, k_brk, k_ct, k_for, k_for_, k_gN, k_gTup, k_gsC, k_gs_, k_gsN, k_gIx, k_gi1_, k_gi2_, k_g3_, k_g4_, k_var, k_V_, k_c, k_op, k_op1_, k_op2_, k_un, k_un_, k_eB, k_B_, k_and, k_and_t, k_and_f, k_or, k_or_t, k_or_f, k_not, k_not_, k_eT, k_T_, k_andV, k_andV_t, k_andV_f, k_orV, k_orV_t, k_orV_f, k_notV, k_notV_, k_eIf, k_eIf_t, k_eIf_f, k_aN, k_aC, k_cs1_, k_cs2_, k_call, k_call_, k_tup, k_lstF, k_lstL, k_callK, k_callKw, k_kw1_, k_kw2_, k_dfn, k_def_nx, k_def_rt, k_finF, k_finT, k_sl, k_ix1_, k_ix2_, k_ix3_, k_pN, k_pS, k_pS_, k_iT, k_iL, k_iR, k_it_T, k_it_L, k_it_Ls, k_it_Ll, k_il_, k_it_R, k_it_Rt, k_it_Rl, k_ir_, k_r1, k_r2, k_rng, k_r1_, k_r2_, k_e, k_e_, k_lc, k_lc1_, k_lc2_, k_yes, k_all, k_all1_, k_all2_, k_bm, k_bm1l, k_bml_, k_bm2_, k_app, k_app_, k_ext, k_ext_, k_pop, k_pop_, k_rev, k_rev_, k_ins, k_ins_, k_mkT, k_mkT_, k_mkF, k_mkF_, k_mkL, k_add, k_addS, k_addT, k_addL, k_addLL, k_sub, k_lt, k_le, k_gt, k_ge, k_mul, k_div, k_mod, k_pow, k_neg, k_eqI, k_eqS, k_eqB, k_eqIS, k_eqSI, k_eqT, k_isN, k_isBl, k_ixT, k_ixL, k_ixl, k_ix_, k_iW_, k_iL_, k_lenT, k_lenL, k_lenl, k_lenl_, k_tupl, k_tupl_, k_tupl0, k_lstFl, k_lstFl_, k_lstLl, k_lstLl_, k_slLl, k_slLl_, k_slFl, k_tupT, k_tupL, k_lstFT, k_lstFL, k_lstLT, k_lstLL, k_lstLs, k_abs, k_int, k_intB, k_str, k_slT, k_slLs, k_slL, k_is, k_is_iT, k_is_iB, k_is_b, k_is_s, k_isT, k_isS, k_isT_t, k_isT_i, k_isT_b, k_isT_s, k_isT_n, k_isS_s, k_isS_i, k_isS_b, k_isS_t, k_isL, k_isL_, k_isL2, k_turn_nx, k_turn_ct, k_turn_bk, k_turn_rt, k_g_, k_lg_, k_lt_t, k_lt_f, k_Y_, k_inT, k_inL, k_fld, k_fl_, k_fl2, k_fldput, k_fp1_, k_fp2_, k_fpO, k_fldaug_, k_fa2_, k_faO, k_meth, k_m_, k_mO, k_ms_, k_make, k_mk_, k_mk2_, k_dnew, k_dget, k_dg_, k_dg1_, k_dg2s, k_dg2i, k_din, k_di_, k_di1_, k_di2s, k_dput, k_dp1_, k_dp2_, k_dp3_, k_dpOs, k_dpOi, k_disp, k_ps_, k_psN, k_pC, k_pc1s, k_pc2_, k_pc3_, k_ixc, k_ixc_, k_lstRev, k_lr_, k_sum, k_max, k_ixS, k_iS_, k_iS, k_it_ST, k_it_SL, k_it_Sl, k_chain, k_ch1_, k_ch2_, k_ch3t, k_ch3f, k_ch4_, k_lenXL, k_lenXT, k_lenXl, k_lenXS, List.getElem?_cons_zero, List.getElem?_cons_succ, List.set_cons_zero, List.set_cons_succ, List.map_cons, List.map_nil, List.replicate_succ, List.replicate_zero, List.cons_append, List.nil_append, List.length_cons, List.length_nil, dOf_c, dOf_nil, Option.map_some, Option.map_none, atI_0, atI_1, atI_2, atI_3, atI_4, atI_5, atI_6, ixN_0, ixN_1, ixN_2, ixN_3, ixN_4, ixN_5, ixN_6, Bool.not_true, Bool.not_false, Bool.or_true, Bool.true_or, Bool.or_false, Bool.false_or, Bool.and_true, Bool.true_and, Bool.and_false, Bool.false_and, if_true, if_false, Bool.false_eq_true, decide_true, decide_false, true_and, and_true, ofStr_eq, wipeE, eq_self, cutT, and_self, Bool.or_self, Bool.and_self, ite_true, ite_false, get_e0, get_e1, get_e2, set_e0, set_e1, set_e2, take_e, List.length_append, List.append_assoc, sz_l0, sz_l1, sz_l2, sz_l3, sz_l4, sz_l5, sz_l6, sz_l7, sz_l8, sz_l9, sz_l10, sz_l11, sz_l12, sz_l13, sz_k0, sz_k1, sz_k2, sz_k3, sz_k4, sz_k5, sz_k6, sz_k7, sz_k8, sz_k9, sz_k10, sz_k11, sz_k12, sz_k13, List.all_cons, List.all_nil, List.any_cons, List.any_nil, flat_s, flat_i, eqv_str, eqv_int, eqv_is, eqv_si, reduceIte, Nat.reduceAdd, Nat.reduceEqDiff, Nat.reduceLT, Int.reduceAdd, Int.reduceSub, Int.reduceLT, Int.reduceLE, Int.reduceEq, String.reduceEq, reduceCtorEq, Nat.reduceLeDiff, Nat.zero_le])
end fam
namespace fam
open PySem L2 Pd
set_option hygiene false in
local macro_rules | `(tactic| boot_fact) => `(tactic| simp only [k_some, k_seq, k_seq_nx, k_seq_rt, k_seq_bk, k_seq_ct, k_sif, k_if_t, k_if_f, k_ret, k_ret_, k_drop, k_drop_, k_asg, k_asg_, k_st_, k_nx, k_brk, k_ct, k_for, k_for_, k_gN, k_gTup, k_gsC, k_gs_, k_gsN, k_gIx, k_gi1_, k_gi2_, k_g3_, k_g4_, k_var, k_V_, k_c, k_op, k_op1_, k_op2_, k_un, k_un_, k_eB, k_B_, k_and, k_and_t, k_and_f, k_or, k_or_t, k_or_f, k_not, k_not_, k_eT, k_T_, k_andV, k_andV_t, k_andV_f, k_orV, k_orV_t, k_orV_f, k_notV, k_notV_, k_eIf, k_eIf_t, k_eIf_f, k_aN, k_aC, k_cs1_, k_cs2_, k_call, k_call_, k_tup, k_lstF, k_lstL, k_callK, k_callKw, k_kw1_, k_kw2_, k_dfn, k_def_nx, k_def_rt, k_finF, k_finT, k_sl, k_ix1_, k_ix2_, k_ix3_, k_pN, k_pS, k_pS_, k_iT, k_iL, k_iR, k_it_T, k_it_L, k_it_Ls, k_it_Ll, k_il_, k_it_R, k_it_Rt, k_it_Rl, k_ir_, k_r1, k_r2, k_rng, k_r1_, k_r2_, k_e, k_e_, k_lc, k_lc1_, k_lc2_, k_yes, k_all, k_all1_, k_all2_, k_bm, k_bm1l, k_bml_, k_bm2_, k_app, k_app_, k_ext, k_ext_, k_pop, k_pop_, k_rev, k_rev_, k_ins, k_ins_, k_mkT, k_mkT_, k_mkF, k_mkF_, k_mkL, k_add, k_addS, k_addT, k_addL, k_addLL, k_sub, k_lt, k_le, k_gt, k_ge, k_mul, k_div, k_mod, k_pow, k_neg, k_eqI, k_eqS, k_eqB, k_eqIS, k_eqSI, k_eqT, k_isN, k_isBl, k_ixT, k_ixL, k_ixl, k_ix_, k_iW_, k_iL_, k_lenT, k_lenL, k_lenl, k_lenl_, k_tupl, k_tupl_, k_tupl0, k_lstFl, k_lstFl_, k_lstLl, k_lstLl_, k_slLl, k_slLl_, k_slFl, k_tupT, k_tupL, k_lstFT, k_lstFL, k_lstLT, k_lstLL, k_lstLs, k_abs, k_int, k_intB, k_str, k_slT, k_slLs, k_slL, k_is, k_is_iT, k_is_iB, k_is_b, k_is_s, k_isT, k_isS, k_isT_t, k_isT_i, k_isT_b, k_isT_s, k_isT_n, k_isS_s, k_isS_i, k_isS_b, k_isS_t, k_isL, k_isL_, k_isL2, k_turn_nx, k_turn_ct, k_turn_bk, k_turn_rt, k_g_, k_lg_, k_lt_t, k_lt_f, k_Y_, k_inT, k_inL, k_fld, k_fl_, k_fl2, k_fldput, k_fp1_, k_fp2_, k_fpO, k_fldaug_, k_fa2_, k_faO, k_meth, k_m_, k_mO, k_ms_, k_make, k_mk_, k_mk2_, k_dnew, k_dget, k_dg_, k_dg1_, k_dg2s, k_dg2i, k_din, k_di_, k_di1_, k_di2s, k_dput, k_dp1_, k_dp2_, k_dp3_, k_dpOs, k_dpOi, k_disp, k_ps_, k_psN, k_pC, k_pc1s, k_pc2_, k_pc3_, k_ixc, k_ixc_, k_lstRev, k_lr_, k_sum, k_max, k_ixS, k_iS_, k_iS, k_it_ST, k_it_SL, k_it_Sl, k_chain, k_ch1_, k_ch2_, k_ch3t, k_ch3f, k_ch4_, k_lenXL, k_lenXT, k_lenXl, k_lenXS, k_mm0, k_mm1, k_mm2, k_mm3, k_mm4, k_mmR, k_ms0, k_ms2, k_ms3, k_ms4, k_msR, k_mlen, k_mapp, k_msn, k_ml1, k_ml2, k_ml3, k_ml4, k_mn1, k_mn2, k_mn3, k_mn4, k_mn5, k_mn6, k_mn7, k_mn8, k_mn9, k_mna, k_mnb, k_mg1, k_mg2, k_mg3, k_mg4, k_mp1, k_mp2, k_mkl, k_mdp, k_mdl, List.getElem?_cons_zero, List.getElem?_cons_succ, List.set_cons_zero, List.set_cons_succ, List.map_cons, List.map_nil, List.replicate_succ, List.replicate_zero, List.cons_append, List.nil_append, List.length_cons, List.length_nil, dOf_c, dOf_nil, Option.map_some, Option.map_none, atI_0, atI_1, atI_2, atI_3, atI_4, atI_5, atI_6, ixN_0, ixN_1, ixN_2, ixN_3, ixN_4, ixN_5, ixN_6, Bool.not_true, Bool.not_false, Bool.or_true, Bool.true_or, Bool.or_false, Bool.false_or, Bool.and_true, Bool.true_and, Bool.and_false, Bool.false_and, if_true, if_false, Bool.false_eq_true, decide_true, decide_false, true_and, and_true, ofStr_eq, wipeE, eq_self, cutT, and_self, Bool.or_self, Bool.and_self, ite_true, ite_false, get_e0, get_e1, get_e2, set_e0, set_e1, set_e2, take_e, List.length_append, List.append_assoc, sz_l0, sz_l1, sz_l2, sz_l3, sz_l4, sz_l5, sz_l6, sz_l7, sz_l8, sz_l9, sz_l10, sz_l11, sz_l12, sz_l13, sz_k0, sz_k1, sz_k2, sz_k3, sz_k4, sz_k5, sz_k6, sz_k7, sz_k8, sz_k9, sz_k10, sz_k11, sz_k12, sz_k13, List.all_cons, List.all_nil, List.any_cons, List.any_nil, flat_s, flat_i, eqv_str, eqv_int, eqv_is, eqv_si, reduceIte, Nat.reduceAdd, Nat.reduceEqDiff, Nat.reduceLT, Int.reduceAdd, Int.reduceSub, Int.reduceLT, Int.reduceLE, Int.reduceEq, String.reduceEq, reduceCtorEq, Nat.reduceLeDiff, Nat.zero_le])
section
variable {S0 : Mem} {scs : List Nat}
theorem atI_at' {α : Type} {ws : List α} {i : Nat} {x : α} (h : ws[i]? = some x) : atI ws (i : Int) = some x := by
  unfold atI
  rw [ixN_at (List.getElem?_eq_some_iff.mp h).1]
  exact h
end
end fam
namespace fam
open PySem L2 Pd
set_option hygiene false in
local macro_rules | `(tactic| boot_fact) => `(tactic| simp only [k_some, k_seq, k_seq_nx, k_seq_rt, k_seq_bk, k_seq_ct, k_sif, k_if_t, k_if_f, k_ret, k_ret_, k_drop, k_drop_, k_asg, k_asg_, k_st_, k_nx, k_brk, k_ct, k_for, k_for_, k_gN, k_gTup, k_gsC, k_gs_, k_gsN, k_gIx, k_gi1_, k_gi2_, k_g3_, k_g4_, k_var, k_V_, k_c, k_op, k_op1_, k_op2_, k_un, k_un_, k_eB, k_B_, k_and, k_and_t, k_and_f, k_or, k_or_t, k_or_f, k_not, k_not_, k_eT, k_T_, k_andV, k_andV_t, k_andV_f, k_orV, k_orV_t, k_orV_f, k_notV, k_notV_, k_eIf, k_eIf_t, k_eIf_f, k_aN, k_aC, k_cs1_, k_cs2_, k_call, k_call_, k_tup, k_lstF, k_lstL, k_callK, k_callKw, k_kw1_, k_kw2_, k_dfn, k_def_nx, k_def_rt, k_finF, k_finT, k_sl, k_ix1_, k_ix2_, k_ix3_, k_pN, k_pS, k_pS_, k_iT, k_iL, k_iR, k_it_T, k_it_L, k_it_Ls, k_it_Ll, k_il_, k_it_R, k_it_Rt, k_it_Rl, k_ir_, k_r1, k_r2, k_rng, k_r1_, k_r2_, k_e, k_e_, k_lc, k_lc1_, k_lc2_, k_yes, k_all, k_all1_, k_all2_, k_bm, k_bm1l, k_bml_, k_bm2_, k_app, k_app_, k_ext, k_ext_, k_pop, k_pop_, k_rev, k_rev_, k_ins, k_ins_, k_mkT, k_mkT_, k_mkF, k_mkF_, k_mkL, k_add, k_addS, k_addT, k_addL, k_addLL, k_sub, k_lt, k_le, k_gt, k_ge, k_mul, k_div, k_mod, k_pow, k_neg, k_eqI, k_eqS, k_eqB, k_eqIS, k_eqSI, k_eqT, k_isN, k_isBl, k_ixT, k_ixL, k_ixl, k_ix_, k_iW_, k_iL_, k_lenT, k_lenL, k_lenl, k_lenl_, k_tupl, k_tupl_, k_tupl0, k_lstFl, k_lstFl_, k_lstLl, k_lstLl_, k_slLl, k_slLl_, k_slFl, k_tupT, k_tupL, k_lstFT, k_lstFL, k_lstLT, k_lstLL, k_lstLs, k_abs, k_int, k_intB, k_str, k_slT, k_slLs, k_slL, k_is, k_is_iT, k_is_iB, k_is_b, k_is_s, k_isT, k_isS, k_isT_t, k_isT_i, k_isT_b, k_isT_s, k_isT_n, k_isS_s, k_isS_i, k_isS_b, k_isS_t, k_isL, k_isL_, k_isL2, k_turn_nx, k_turn_ct, k_turn_bk, k_turn_rt, k_g_, k_lg_, k_lt_t, k_lt_f, k_Y_, k_inT, k_inL, k_fld, k_fl_, k_fl2, k_fldput, k_fp1_, k_fp2_, k_fpO, k_fldaug_, k_fa2_, k_faO, k_meth, k_m_, k_mO, k_ms_, k_make, k_mk_, k_mk2_, k_dnew, k_dget, k_dg_, k_dg1_, k_dg2s, k_dg2i, k_din, k_di_, k_di1_, k_di2s, k_dput, k_dp1_, k_dp2_, k_dp3_, k_dpOs, k_dpOi, k_disp, k_ps_, k_psN, k_pC, k_pc1s, k_pc2_, k_pc3_, k_ixc, k_ixc_, k_lstRev, k_lr_, k_sum, k_max, k_ixS, k_iS_, k_iS, k_it_ST, k_it_SL, k_it_Sl, k_chain, k_ch1_, k_ch2_, k_ch3t, k_ch3f, k_ch4_, k_lenXL, k_lenXT, k_lenXl, k_lenXS, List.getElem?_cons_zero, List.getElem?_cons_succ, List.set_cons_zero, List.set_cons_succ, List.map_cons, List.map_nil, List.replicate_succ, List.replicate_zero, List.cons_append, List.nil_append, List.length_cons, List.length_nil, dOf_c, dOf_nil, Option.map_some, Option.map_none, atI_0, atI_1, atI_2, atI_3, atI_4, atI_5, atI_6, ixN_0, ixN_1, ixN_2, ixN_3, ixN_4, ixN_5, ixN_6, Bool.not_true, Bool.not_false, Bool.or_true, Bool.true_or, Bool.or_false, Bool.false_or, Bool.and_true, Bool.true_and, Bool.and_false, Bool.false_and, if_true, if_false, Bool.false_eq_true, decide_true, decide_false, true_and, and_true, ofStr_eq, wipeE, eq_self, cutT, and_self, Bool.or_self, Bool.and_self, ite_true, ite_false, get_e0, get_e1, get_e2, set_e0, set_e1, set_e2, take_e, List.length_append, List.append_assoc, sz_l0, sz_l1, sz_l2, sz_l3, sz_l4, sz_l5, sz_l6, sz_l7, sz_l8, sz_l9, sz_l10, sz_l11, sz_l12, sz_l13, sz_k0, sz_k1, sz_k2, sz_k3, sz_k4, sz_k5, sz_k6, sz_k7, sz_k8, sz_k9, sz_k10, sz_k11, sz_k12, sz_k13, List.all_cons, List.all_nil, List.any_cons, List.any_nil, flat_s, flat_i, eqv_str, eqv_int, eqv_is, eqv_si, reduceIte, Nat.reduceAdd, Nat.reduceEqDiff, Nat.reduceLT, Int.reduceAdd, Int.reduceSub, Int.reduceLT, Int.reduceLE, Int.reduceEq, String.reduceEq, reduceCtorEq, Nat.reduceLeDiff, Nat.zero_le])
end fam
namespace fam
open PySem L2 Pd
set_option hygiene false in
local macro_rules | `(tactic| boot_fact) => `(tactic| simp only [k_some, k_seq, k_seq_nx, k_seq_rt, k_seq_bk, k_seq_ct, k_sif, k_if_t, k_if_f, k_ret, k_ret_, k_drop, k_drop_, k_asg, k_asg_, k_st_, k_nx, k_brk, k_ct, k_for, k_for_, k_gN, k_gTup, k_gsC, k_gs_, k_gsN, k_gIx, k_gi1_, k_gi2_, k_g3_, k_g4_, k_var, k_V_, k_c, k_op, k_op1_, k_op2_, k_un, k_un_, k_eB, k_B_, k_and, k_and_t, k_and_f, k_or, k_or_t, k_or_f, k_not, k_not_, k_eT, k_T_, k_andV, k_andV_t, k_andV_f, k_orV, k_orV_t, k_orV_f, k_notV, k_notV_, k_eIf, k_eIf_t, k_eIf_f, k_aN, k_aC, k_cs1_, k_cs2_, k_call, k_call_, k_tup, k_lstF, k_lstL, k_callK, k_callKw, k_kw1_, k_kw2_, k_dfn, k_def_nx, k_def_rt, k_finF, k_finT, k_sl, k_ix1_, k_ix2_, k_ix3_, k_pN, k_pS, k_pS_, k_iT, k_iL, k_iR, k_it_T, k_it_L, k_it_Ls, k_it_Ll, k_il_, k_it_R, k_it_Rt, k_it_Rl, k_ir_, k_r1, k_r2, k_rng, k_r1_, k_r2_, k_e, k_e_, k_lc, k_lc1_, k_lc2_, k_yes, k_all, k_all1_, k_all2_, k_bm, k_bm1l, k_bml_, k_bm2_, k_app, k_app_, k_ext, k_ext_, k_pop, k_pop_, k_rev, k_rev_, k_ins, k_ins_, k_mkT, k_mkT_, k_mkF, k_mkF_, k_mkL, k_add, k_addS, k_addT, k_addL, k_addLL, k_sub, k_lt, k_le, k_gt, k_ge, k_mul, k_div, k_mod, k_pow, k_neg, k_eqI, k_eqS, k_eqB, k_eqIS, k_eqSI, k_eqT, k_isN, k_isBl, k_ixT, k_ixL, k_ixl, k_ix_, k_iW_, k_iL_, k_lenT, k_lenL, k_lenl, k_lenl_, k_tupl, k_tupl_, k_tupl0, k_lstFl, k_lstFl_, k_lstLl, k_lstLl_, k_slLl, k_slLl_, k_slFl, k_tupT, k_tupL, k_lstFT, k_lstFL, k_lstLT, k_lstLL, k_lstLs, k_abs, k_int, k_intB, k_str, k_slT, k_slLs, k_slL, k_is, k_is_iT, k_is_iB, k_is_b, k_is_s, k_isT, k_isS, k_isT_t, k_isT_i, k_isT_b, k_isT_s, k_isT_n, k_isS_s, k_isS_i, k_isS_b, k_isS_t, k_isL, k_isL_, k_isL2, k_turn_nx, k_turn_ct, k_turn_bk, k_turn_rt, k_g_, k_lg_, k_lt_t, k_lt_f, k_Y_, k_inT, k_inL, k_fld, k_fl_, k_fl2, k_fldput, k_fp1_, k_fp2_, k_fpO, k_fldaug_, k_fa2_, k_faO, k_meth, k_m_, k_mO, k_ms_, k_make, k_mk_, k_mk2_, k_dnew, k_dget, k_dg_, k_dg1_, k_dg2s, k_dg2i, k_din, k_di_, k_di1_, k_di2s, k_dput, k_dp1_, k_dp2_, k_dp3_, k_dpOs, k_dpOi, k_disp, k_ps_, k_psN, k_pC, k_pc1s, k_pc2_, k_pc3_, k_ixc, k_ixc_, k_lstRev, k_lr_, k_sum, k_max, k_ixS, k_iS_, k_iS, k_it_ST, k_it_SL, k_it_Sl, k_chain, k_ch1_, k_ch2_, k_ch3t, k_ch3f, k_ch4_, k_lenXL, k_lenXT, k_lenXl, k_lenXS, k_mm0, k_mm1, k_mm2, k_mm3, k_mm4, k_mmR, k_ms0, k_ms2, k_ms3, k_ms4, k_msR, k_mlen, k_mapp, k_msn, k_ml1, k_ml2, k_ml3, k_ml4, k_mn1, k_mn2, k_mn3, k_mn4, k_mn5, k_mn6, k_mn7, k_mn8, k_mn9, k_mna, k_mnb, k_mg1, k_mg2, k_mg3, k_mg4, k_mp1, k_mp2, k_mkl, k_mdp, k_mdl, List.getElem?_cons_zero, List.getElem?_cons_succ, List.set_cons_zero, List.set_cons_succ, List.map_cons, List.map_nil, List.replicate_succ, List.replicate_zero, List.cons_append, List.nil_append, List.length_cons, List.length_nil, dOf_c, dOf_nil, Option.map_some, Option.map_none, atI_0, atI_1, atI_2, atI_3, atI_4, atI_5, atI_6, ixN_0, ixN_1, ixN_2, ixN_3, ixN_4, ixN_5, ixN_6, Bool.not_true, Bool.not_false, Bool.or_true, Bool.true_or, Bool.or_false, Bool.false_or, Bool.and_true, Bool.true_and, Bool.and_false, Bool.false_and, if_true, if_false, Bool.false_eq_true, decide_true, decide_false, true_and, and_true, ofStr_eq, wipeE, eq_self, cutT, and_self, Bool.or_self, Bool.and_self, ite_true, ite_false, get_e0, get_e1, get_e2, set_e0, set_e1, set_e2, take_e, List.length_append, List.append_assoc, sz_l0, sz_l1, sz_l2, sz_l3, sz_l4, sz_l5, sz_l6, sz_l7, sz_l8, sz_l9, sz_l10, sz_l11, sz_l12, sz_l13, sz_k0, sz_k1, sz_k2, sz_k3, sz_k4, sz_k5, sz_k6, sz_k7, sz_k8, sz_k9, sz_k10, sz_k11, sz_k12, sz_k13, List.all_cons, List.all_nil, List.any_cons, List.any_nil, flat_s, flat_i, eqv_str, eqv_int, eqv_is, eqv_si, reduceIte, Nat.reduceAdd, Nat.reduceEqDiff, Nat.reduceLT, Int.reduceAdd, Int.reduceSub, Int.reduceLT, Int.reduceLE, Int.reduceEq, String.reduceEq, reduceCtorEq, Nat.reduceLeDiff, Nat.zero_le])
end fam
namespace fam
open PySem L2 Pd
end fam
namespace fam
open PySem L2 Pd
set_option hygiene false in
local macro_rules | `(tactic| boot_fact) => `(tactic| simp only [k_some, k_seq, k_seq_nx, k_seq_rt, k_seq_bk, k_seq_ct, k_sif, k_if_t, k_if_f, k_ret, k_ret_, k_drop, k_drop_, k_asg, k_asg_, k_st_, k_nx, k_brk, k_ct, k_for, k_for_, k_gN, k_gTup, k_gsC, k_gs_, k_gsN, k_gIx, k_gi1_, k_gi2_, k_g3_, k_g4_, k_var, k_V_, k_c, k_op, k_op1_, k_op2_, k_un, k_un_, k_eB, k_B_, k_and, k_and_t, k_and_f, k_or, k_or_t, k_or_f, k_not, k_not_, k_eT, k_T_, k_andV, k_andV_t, k_andV_f, k_orV, k_orV_t, k_orV_f, k_notV, k_notV_, k_eIf, k_eIf_t, k_eIf_f, k_aN, k_aC, k_cs1_, k_cs2_, k_call, k_call_, k_tup, k_lstF, k_lstL, k_callK, k_callKw, k_kw1_, k_kw2_, k_dfn, k_def_nx, k_def_rt, k_finF, k_finT, k_sl, k_ix1_, k_ix2_, k_ix3_, k_pN, k_pS, k_pS_, k_iT, k_iL, k_iR, k_it_T, k_it_L, k_it_Ls, k_it_Ll, k_il_, k_it_R, k_it_Rt, k_it_Rl, k_ir_, k_r1, k_r2, k_rng, k_r1_, k_r2_, k_e, k_e_, k_lc, k_lc1_, k_lc2_, k_yes, k_all, k_all1_, k_all2_, k_bm, k_bm1l, k_bml_, k_bm2_, k_app, k_app_, k_ext, k_ext_, k_pop, k_pop_, k_rev, k_rev_, k_ins, k_ins_, k_mkT, k_mkT_, k_mkF, k_mkF_, k_mkL, k_add, k_addS, k_addT, k_addL, k_addLL, k_sub, k_lt, k_le, k_gt, k_ge, k_mul, k_div, k_mod, k_pow, k_neg, k_eqI, k_eqS, k_eqB, k_eqIS, k_eqSI, k_eqT, k_isN, k_isBl, k_ixT, k_ixL, k_ixl, k_ix_, k_iW_, k_iL_, k_lenT, k_lenL, k_lenl, k_lenl_, k_tupl, k_tupl_, k_tupl0, k_lstFl, k_lstFl_, k_lstLl, k_lstLl_, k_slLl, k_slLl_, k_slFl, k_tupT, k_tupL, k_lstFT, k_lstFL, k_lstLT, k_lstLL, k_lstLs, k_abs, k_int, k_intB, k_str, k_slT, k_slLs, k_slL, k_is, k_is_iT, k_is_iB, k_is_b, k_is_s, k_isT, k_isS, k_isT_t, k_isT_i, k_isT_b, k_isT_s, k_isT_n, k_isS_s, k_isS_i, k_isS_b, k_isS_t, k_isL, k_isL_, k_isL2, k_turn_nx, k_turn_ct, k_turn_bk, k_turn_rt, k_g_, k_lg_, k_lt_t, k_lt_f, k_Y_, k_inT, k_inL, k_fld, k_fl_, k_fl2, k_fldput, k_fp1_, k_fp2_, k_fpO, k_fldaug_, k_fa2_, k_faO, k_meth, k_m_, k_mO, k_ms_, k_make, k_mk_, k_mk2_, k_dnew, k_dget, k_dg_, k_dg1_, k_dg2s, k_dg2i, k_din, k_di_, k_di1_, k_di2s, k_dput, k_dp1_, k_dp2_, k_dp3_, k_dpOs, k_dpOi, k_disp, k_ps_, k_psN, k_pC, k_pc1s, k_pc2_, k_pc3_, k_ixc, k_ixc_, k_lstRev, k_lr_, k_sum, k_max, k_ixS, k_iS_, k_iS, k_it_ST, k_it_SL, k_it_Sl, k_chain, k_ch1_, k_ch2_, k_ch3t, k_ch3f, k_ch4_, k_lenXL, k_lenXT, k_lenXl, k_lenXS, k_inC, k_ic_, k_ic_t, k_ic_f, k_bDict, k_bDict_, k_bLenD, k_bLenD_, k_isD, k_isD_, k_isD2, k_ninC, k_ni_, k_ni_t, k_ni_f, k_lcc, k_lcc_, k_l2r_, k_l2m_, k_l2t_t, k_l2t_f, k_l2_, List.getElem?_cons_zero, List.getElem?_cons_succ, List.set_cons_zero, List.set_cons_succ, List.map_cons, List.map_nil, List.replicate_succ, List.replicate_zero, List.cons_append, List.nil_append, List.length_cons, List.length_nil, dOf_c, dOf_nil, Option.map_some, Option.map_none, atI_0, atI_1, atI_2, atI_3, atI_4, atI_5, atI_6, ixN_0, ixN_1, ixN_2, ixN_3, ixN_4, ixN_5, ixN_6, Bool.not_true, Bool.not_false, Bool.or_true, Bool.true_or, Bool.or_false, Bool.false_or, Bool.and_true, Bool.true_and, Bool.and_false, Bool.false_and, if_true, if_false, Bool.false_eq_true, decide_true, decide_false, true_and, and_true, ofStr_eq, wipeE, eq_self, cutT, and_self, Bool.or_self, Bool.and_self, ite_true, ite_false, get_e0, get_e1, get_e2, set_e0, set_e1, set_e2, take_e, List.length_append, List.append_assoc, sz_l0, sz_l1, sz_l2, sz_l3, sz_l4, sz_l5, sz_l6, sz_l7, sz_l8, sz_l9, sz_l10, sz_l11, sz_l12, sz_l13, sz_k0, sz_k1, sz_k2, sz_k3, sz_k4, sz_k5, sz_k6, sz_k7, sz_k8, sz_k9, sz_k10, sz_k11, sz_k12, sz_k13, List.all_cons, List.all_nil, List.any_cons, List.any_nil, flat_s, flat_i, eqv_str, eqv_int, eqv_is, eqv_si, reduceIte, Nat.reduceAdd, Nat.reduceEqDiff, Nat.reduceLT, Int.reduceAdd, Int.reduceSub, Int.reduceLT, Int.reduceLE, Int.reduceEq, String.reduceEq, reduceCtorEq, Nat.reduceLeDiff, Nat.zero_le])
theorem Cl.nl {S l : Mem} (h : Cl S) (g : Nl l) : Cl (S ++ l) := by
  unfold Cl at *
  rw [List.length_append, List.all_append, Bool.and_eq_true]
  exact ⟨List.all_eq_true.mpr fun o ho => obLt_mono (Nat.le_add_right _ _) (List.all_eq_true.mp h o ho), List.all_eq_true.mpr fun o ho => obLt_mono (Nat.zero_le _) (g o ho)⟩
theorem low_get {α : Type} {S l : List α} {i : Nat} {o : α} (h : S[i]? = some o) : (S ++ l)[i]? = some o := by rw [List.getElem?_append_left (List.getElem?_eq_some_iff.mp h).1]; exact h
end fam
namespace raw
open PySem L2 Pd fam
set_option hygiene false in
local macro_rules | `(tactic| boot_fact) => `(tactic| simp only [k_some, k_seq, k_seq_nx, k_seq_rt, k_seq_bk, k_seq_ct, k_sif, k_if_t, k_if_f, k_ret, k_ret_, k_drop, k_drop_, k_asg, k_asg_, k_st_, k_nx, k_brk, k_ct, k_for, k_for_, k_gN, k_gTup, k_gsC, k_gs_, k_gsN, k_gIx, k_gi1_, k_gi2_, k_g3_, k_g4_, k_var, k_V_, k_c, k_op, k_op1_, k_op2_, k_un, k_un_, k_eB, k_B_, k_and, k_and_t, k_and_f, k_or, k_or_t, k_or_f, k_not, k_not_, k_eT, k_T_, k_andV, k_andV_t, k_andV_f, k_orV, k_orV_t, k_orV_f, k_notV, k_notV_, k_eIf, k_eIf_t, k_eIf_f, k_aN, k_aC, k_cs1_, k_cs2_, k_call, k_call_, k_tup, k_lstF, k_lstL, k_callK, k_callKw, k_kw1_, k_kw2_, k_dfn, k_def_nx, k_def_rt, k_finF, k_finT, k_sl, k_ix1_, k_ix2_, k_ix3_, k_pN, k_pS, k_pS_, k_iT, k_iL, k_iR, k_it_T, k_it_L, k_it_Ls, k_it_Ll, k_il_, k_it_R, k_it_Rt, k_it_Rl, k_ir_, k_r1, k_r2, k_rng, k_r1_, k_r2_, k_e, k_e_, k_lc, k_lc1_, k_lc2_, k_yes, k_all, k_all1_, k_all2_, k_bm, k_bm1l, k_bml_, k_bm2_, k_app, k_app_, k_ext, k_ext_, k_pop, k_pop_, k_rev, k_rev_, k_ins, k_ins_, k_mkT, k_mkT_, k_mkF, k_mkF_, k_mkL, k_add, k_addS, k_addT, k_addL, k_addLL, k_sub, k_lt, k_le, k_gt, k_ge, k_mul, k_div, k_mod, k_pow, k_neg, k_eqI, k_eqS, k_eqB, k_eqIS, k_eqSI, k_eqT, k_isN, k_isBl, k_ixT, k_ixL, k_ixl, k_ix_, k_iW_, k_iL_, k_lenT, k_lenL, k_lenl, k_lenl_, k_tupl, k_tupl_, k_tupl0, k_lstFl, k_lstFl_, k_lstLl, k_lstLl_, k_slLl, k_slLl_, k_slFl, k_tupT, k_tupL, k_lstFT, k_lstFL, k_lstLT, k_lstLL, k_lstLs, k_abs, k_int, k_intB, k_str, k_slT, k_slLs, k_slL, k_is, k_is_iT, k_is_iB, k_is_b, k_is_s, k_isT, k_isS, k_isT_t, k_isT_i, k_isT_b, k_isT_s, k_isT_n, k_isS_s, k_isS_i, k_isS_b, k_isS_t, k_isL, k_isL_, k_isL2, k_turn_nx, k_turn_ct, k_turn_bk, k_turn_rt, k_g_, k_lg_, k_lt_t, k_lt_f, k_Y_, k_inT, k_inL, k_fld, k_fl_, k_fl2, k_fldput, k_fp1_, k_fp2_, k_fpO, k_fldaug_, k_fa2_, k_faO, k_meth, k_m_, k_mO, k_ms_, k_make, k_mk_, k_mk2_, k_dnew, k_dget, k_dg_, k_dg1_, k_dg2s, k_dg2i, k_din, k_di_, k_di1_, k_di2s, k_dput, k_dp1_, k_dp2_, k_dp3_, k_dpOs, k_dpOi, k_disp, k_ps_, k_psN, k_pC, k_pc1s, k_pc2_, k_pc3_, k_ixc, k_ixc_, k_lstRev, k_lr_, k_sum, k_max, k_ixS, k_iS_, k_iS, k_it_ST, k_it_SL, k_it_Sl, k_chain, k_ch1_, k_ch2_, k_ch3t, k_ch3f, k_ch4_, k_lenXL, k_lenXT, k_lenXl, k_lenXS, k_mm0, k_mm1, k_mm2, k_mm3, k_mm4, k_mmR, k_ms0, k_ms2, k_ms3, k_ms4, k_msR, k_mlen, k_mapp, k_msn, k_ml1, k_ml2, k_ml3, k_ml4, k_mn1, k_mn2, k_mn3, k_mn4, k_mn5, k_mn6, k_mn7, k_mn8, k_mn9, k_mna, k_mnb, k_mg1, k_mg2, k_mg3, k_mg4, k_mp1, k_mp2, k_mkl, k_mdp, k_mdl, k_inC, k_ic_, k_ic_t, k_ic_f, k_bDict, k_bDict_, k_bLenD, k_bLenD_, k_isD, k_isD_, k_isD2, k_ninC, k_ni_, k_ni_t, k_ni_f, k_lcc, k_lcc_, k_l2r_, k_l2m_, k_l2t_t, k_l2t_f, k_l2_, k_isLd, k_isLd_, k_zip, k_zp_, k_tzip, k_tz_, k_extT, k_extT_, k_keys, k_it_K, k_ilK_, k_dgetR, k_dgR_, k_dgR1_, k_dgR2d, k_dgR2l, List.getElem?_cons_zero, List.getElem?_cons_succ, List.set_cons_zero, List.set_cons_succ, List.map_cons, List.map_nil, List.replicate_succ, List.replicate_zero, List.cons_append, List.nil_append, List.length_cons, List.length_nil, dOf_c, dOf_nil, Option.map_some, Option.map_none, atI_0, atI_1, atI_2, atI_3, atI_4, atI_5, atI_6, ixN_0, ixN_1, ixN_2, ixN_3, ixN_4, ixN_5, ixN_6, Bool.not_true, Bool.not_false, Bool.or_true, Bool.true_or, Bool.or_false, Bool.false_or, Bool.and_true, Bool.true_and, Bool.and_false, Bool.false_and, if_true, if_false, Bool.false_eq_true, decide_true, decide_false, true_and, and_true, ofStr_eq, wipeE, eq_self, cutT, and_self, Bool.or_self, Bool.and_self, ite_true, ite_false, get_e0, get_e1, get_e2, set_e0, set_e1, set_e2, take_e, List.length_append, List.append_assoc, sz_l0, sz_l1, sz_l2, sz_l3, sz_l4, sz_l5, sz_l6, sz_l7, sz_l8, sz_l9, sz_l10, sz_l11, sz_l12, sz_l13, sz_k0, sz_k1, sz_k2, sz_k3, sz_k4, sz_k5, sz_k6, sz_k7, sz_k8, sz_k9, sz_k10, sz_k11, sz_k12, sz_k13, List.all_cons, List.all_nil, List.any_cons, List.any_nil, flat_s, flat_i, eqv_str, eqv_int, eqv_is, eqv_si, reduceIte, Nat.reduceAdd, Nat.reduceEqDiff, Nat.reduceLT, Int.reduceAdd, Int.reduceSub, Int.reduceLT, Int.reduceLE, Int.reduceEq, String.reduceEq, reduceCtorEq, Nat.reduceLeDiff, Nat.zero_le])
noncomputable def FR (g : MG) (b : MS) (P : OR' → Prop) : List W → Env' → Mem → Prop
  | [], ρ, S => P (.nx, ρ, S)
  | w :: ws, ρ, S => Ok (g w ρ S) (Kg b (Kturn g b (FR g b P ws) P))
theorem for_unr {g : MG} {b : MS} {P : OR' → Prop} {ws : List W} {ρ : Env'} {S : Mem} (h : FR g b P ws ρ S) : Ok (forM (.vals ws) g b (Itm.len (.vals ws) S) 0 ρ S) P :=
  for_rest ws (fun rest ρ S => FR g b P rest ρ S) ρ S h (fun _ _ _ _ h => h) (fun _ _ h => h)
theorem k_fr0 {g : MG} {b : MS} {P : OR' → Prop} {ρ : Env'} {S : Mem} : FR g b P [] ρ S ↔ P (.nx, ρ, S) := .rfl
theorem k_fr1 {g : MG} {b : MS} {P : OR' → Prop} {w : W} {ws : List W} {ρ : Env'} {S : Mem} : FR g b P (w :: ws) ρ S ↔ Ok (g w ρ S) (Kg b (Kturn g b (FR g b P ws) P)) := .rfl
theorem fin1 {S : Mem} {Q : WM → Prop} {a : PyData} (hc : Cl S) (q : Q (.d (.list [a]), S)) : Ok (fin true S.length (.loc S.length) (S ++ [.lst [.d a]])) Q := fin_lst (ds := [a]) (Nat.le_refl _) get_e0 (by rw [take_e]; exact hc) (by rw [take_e]; exact q)
theorem fin2 {S : Mem} {Q : WM → Prop} {a b : PyData} (hc : Cl S) (q : Q (.d (.list [a, b]), S)) : Ok (fin true S.length (.loc S.length) (S ++ [.lst [.d a, .d b]])) Q := fin_lst (ds := [a, b]) (Nat.le_refl _) get_e0 (by rw [take_e]; exact hc) (by rw [take_e]; exact q)
theorem fin3 {S : Mem} {Q : WM → Prop} {a b c : PyData} (hc : Cl S) (q : Q (.d (.list [a, b, c]), S)) : Ok (fin true S.length (.loc S.length) (S ++ [.lst [.d a, .d b, .d c]])) Q := fin_lst (ds := [a, b, c]) (Nat.le_refl _) get_e0 (by rw [take_e]; exact hc) (by rw [take_e]; exact q)
theorem fin4 {S : Mem} {Q : WM → Prop} {a b c d : PyData} (hc : Cl S) (q : Q (.d (.list [a, b, c, d]), S)) : Ok (fin true S.length (.loc S.length) (S ++ [.lst [.d a, .d b, .d c, .d d]])) Q := fin_lst (ds := [a, b, c, d]) (Nat.le_refl _) get_e0 (by rw [take_e]; exact hc) (by rw [take_e]; exact q)
theorem atl1 {α : Type} {a : α} : atI [a] (-1) = some a := atI_last (xs := [])
theorem atl2 {α : Type} {a b : α} : atI [a, b] (-1) = some b := atI_last (xs := [a])
theorem atl3 {α : Type} {a b c : α} : atI [a, b, c] (-1) = some c := atI_last (xs := [a, b])
theorem atl4 {α : Type} {a b c d : α} : atI [a, b, c, d] (-1) = some d := atI_last (xs := [a, b, c])
structure Pc where
  x : Str
  st : List PyData
  k : Kd
  c : Option (List PyData)
  ls : List (List PyData)
  cp : Bool
noncomputable def Pc.pl (r : Pc) : PyData := .tuple [.str r.x, .tuple r.st]
noncomputable def ps9 : List (Str × Kd) := [("p", ⟨.tuple [.str "tuple", .tuple [.tuple [.str "exclusive", .tuple [.str "tuple", .tuple [.tuple [.str "int"], .tuple [.str "int"]]]], .tuple [.str "int"]]]⟩), ("q", ⟨.tuple [.str "shared", .tuple [.str "tuple", .tuple [.tuple [.str "int"], .tuple [.str "int"]]]]⟩), ("z", ⟨.tuple [.str "box", .tuple [.str "tuple", .tuple [.tuple [.str "int"], .tuple [.str "int"]]]]⟩), ("m", ⟨.tuple [.str "maybe", .tuple [.str "exclusive", .tuple [.str "int"]]]⟩), ("k", ⟨.tuple [.str "maybe", .tuple [.str "int"]]⟩), ("s", ⟨.tuple [.str "task", .tuple [.str "int"]]⟩)]
noncomputable def tb9 : List Pc := [⟨"p", [], ⟨.tuple [.str "tuple", .tuple [.tuple [.str "exclusive", .tuple [.str "tuple", .tuple [.tuple [.str "int"], .tuple [.str "int"]]]], .tuple [.str "int"]]]⟩, none, [[.int 0]], false⟩,
  ⟨"p", [.int 0], ⟨.tuple [.str "exclusive", .tuple [.str "tuple", .tuple [.tuple [.str "int"], .tuple [.str "int"]]]]⟩, none, [[]], false⟩,
  ⟨"p", [.int 1], ⟨.tuple [.str "int"]⟩, none, [], true⟩,
  ⟨"p", [.int 0, .str "^"], ⟨.tuple [.str "tuple", .tuple [.tuple [.str "int"], .tuple [.str "int"]]]⟩, some [.int 0], [], true⟩,
  ⟨"p", [.int 0, .str "^", .int 1], ⟨.tuple [.str "int"]⟩, some [.int 0], [], true⟩,
  ⟨"q", [], ⟨.tuple [.str "shared", .tuple [.str "tuple", .tuple [.tuple [.str "int"], .tuple [.str "int"]]]]⟩, none, [[]], true⟩,
  ⟨"q", [.str "^"], ⟨.tuple [.str "tuple", .tuple [.tuple [.str "int"], .tuple [.str "int"]]]⟩, some [], [], true⟩,
  ⟨"q", [.str "^", .int 0], ⟨.tuple [.str "int"]⟩, some [], [], true⟩,
  ⟨"z", [], ⟨.tuple [.str "box", .tuple [.str "tuple", .tuple [.tuple [.str "int"], .tuple [.str "int"]]]]⟩, none, [], false⟩,
  ⟨"z", [.str "^"], ⟨.tuple [.str "tuple", .tuple [.tuple [.str "int"], .tuple [.str "int"]]]⟩, none, [], true⟩,
  ⟨"z", [.str "^", .int 1], ⟨.tuple [.str "int"]⟩, none, [], true⟩,
  ⟨"m", [], ⟨.tuple [.str "maybe", .tuple [.str "exclusive", .tuple [.str "int"]]]⟩, none, [[.str "?"]], false⟩,
  ⟨"m", [.str "?"], ⟨.tuple [.str "exclusive", .tuple [.str "int"]]⟩, none, [[]], false⟩,
  ⟨"m", [.str "?", .str "^"], ⟨.tuple [.str "int"]⟩, some [.str "?"], [], true⟩,
  ⟨"k", [], ⟨.tuple [.str "maybe", .tuple [.str "int"]]⟩, none, [], true⟩,
  ⟨"k", [.str "?"], ⟨.tuple [.str "int"]⟩, none, [], true⟩,
  ⟨"s", [], ⟨.tuple [.str "task", .tuple [.str "int"]]⟩, none, [[]], false⟩]
section
variable {S : Mem} {kl : Nat} {ks : Ks} {Q : WM → Prop} {r : Pc}
theorem along9 (hr : r ∈ tb9) (hc : Cl S) (hk : S[kl]? = some (.dct (kwOf ks))) (hG : ∀ g ∈ ps9, kdAt ks g.1 = some g.2) (q : Q (.d r.k.d, S)) : Ok (m_kind_at [.d r.pl, .d (.tuple []), .loc kl] S) Q := by
  have hkl := (List.getElem?_eq_some_iff.mp hk).1
  have h_p : kdAt ks "p" = some _ := hG _ (by unfold ps9; exact List.mem_cons_self)
  have h_q : kdAt ks "q" = some _ := hG _ (by unfold ps9; exact List.mem_cons_of_mem _ (List.mem_cons_self))
  have h_z : kdAt ks "z" = some _ := hG _ (by unfold ps9; exact List.mem_cons_of_mem _ (List.mem_cons_of_mem _ (List.mem_cons_self)))
  have h_m : kdAt ks "m" = some _ := hG _ (by unfold ps9; exact List.mem_cons_of_mem _ (List.mem_cons_of_mem _ (List.mem_cons_of_mem _ (List.mem_cons_self))))
  have h_k : kdAt ks "k" = some _ := hG _ (by unfold ps9; exact List.mem_cons_of_mem _ (List.mem_cons_of_mem _ (List.mem_cons_of_mem _ (List.mem_cons_of_mem _ (List.mem_cons_self)))))
  have h_s : kdAt ks "s" = some _ := hG _ (by unfold ps9; exact List.mem_cons_of_mem _ (List.mem_cons_of_mem _ (List.mem_cons_of_mem _ (List.mem_cons_of_mem _ (List.mem_cons_of_mem _ (List.mem_cons_self))))))
  have g0 : ∀ l : List Ob, (S ++ l)[kl]? = some (.dct (kwOf ks)) := fun l => low_get hk
  unfold m_kind_at b_kind_at m_kinds_along b_kinds_along
  simp only [tb9, List.mem_cons, List.not_mem_nil, or_false] at hr
  rcases hr with rfl | rfl | rfl | rfl | rfl | rfl | rfl | rfl | rfl | rfl | rfl | rfl | rfl | rfl | rfl | rfl | rfl <;> (
    unfold Pc.pl
    repeat (first | simp only [hk, valW_kw, h_p, h_q, h_z, h_m, h_k, h_s, Option.map_some, Option.isSome_some] | boot_fact)
    refine for_unr ?_
    repeat (first | simp only [k_fr0, k_fr1, atl1, atl2, atl3, atl4] | boot_fact)
    try unfold m_kind_after b_kind_after
    repeat (first | simp only [k_fr0, k_fr1, atl1, atl2, atl3, atl4] | boot_fact)
    try refine is_item_ok (by decide) (by decide) ?_
    repeat (first | simp only [k_fr0, k_fr1, atl1, atl2, atl3, atl4] | boot_fact)
    try refine is_item_ok (by decide) (by decide) ?_
    repeat (first | simp only [k_fr0, k_fr1, atl1, atl2, atl3, atl4] | boot_fact)
    first | refine fin1 hc ?_ | refine fin2 hc ?_ | refine fin3 hc ?_ | refine fin4 hc ?_
    repeat (first | simp only [k_fr0, k_fr1, atl1, atl2, atl3, atl4] | boot_fact)
    exact q)
end
section
variable {S : Mem} {r : Pc}
theorem of_eq9 {m : Option WM} {p : WM} {Q : WM → Prop} (h : m = some p) (q : Q p) : Ok m Q := ⟨p, h, q⟩
noncomputable def lvs9 (x : Str) (st : List PyData) (ls : List (List PyData)) : List PyData := ls.map fun l => .tuple [.str x, .tuple (st ++ l)]
noncomputable def crD9 (x : Str) : Option (List PyData) → PyData
  | some p => .tuple [.str x, .tuple p]
  | none => .none
theorem law_kind9 (hr : r ∈ tb9) : k09.m_law_kind [.d r.pl] S = some (.d r.k.d, S) := by
  simp only [tb9, List.mem_cons, List.not_mem_nil, or_false] at hr
  rcases hr with rfl | rfl | rfl | rfl | rfl | rfl | rfl | rfl | rfl | rfl | rfl | rfl | rfl | rfl | rfl | rfl | rfl <;> kernel_rfl
theorem law_crossing9 (hr : r ∈ tb9) : k09.m_law_crossing [.d r.pl] S = some (.d (crD9 r.x r.c), S) := by
  simp only [tb9, List.mem_cons, List.not_mem_nil, or_false] at hr
  rcases hr with rfl | rfl | rfl | rfl | rfl | rfl | rfl | rfl | rfl | rfl | rfl | rfl | rfl | rfl | rfl | rfl | rfl <;> kernel_rfl
theorem law_own9 (hr : r ∈ tb9) : k09.m_law_leaves 14 [.d r.pl, .d r.k.d] S = some (.d (.list (lvs9 r.x r.st r.ls)), S) := by
  simp only [tb9, List.mem_cons, List.not_mem_nil, or_false] at hr
  rcases hr with rfl | rfl | rfl | rfl | rfl | rfl | rfl | rfl | rfl | rfl | rfl | rfl | rfl | rfl | rfl | rfl | rfl <;> kernel_rfl
theorem law_tmp9 (hr : r ∈ tb9) (t : Str) : k09.m_law_leaves 14 [.d (.tuple [.str t, .tuple []]), .d r.k.d] S = some (.d (.list (lvs9 t [] r.ls)), S) := by
  simp only [tb9, List.mem_cons, List.not_mem_nil, or_false] at hr
  rcases hr with rfl | rfl | rfl | rfl | rfl | rfl | rfl | rfl | rfl | rfl | rfl | rfl | rfl | rfl | rfl | rfl | rfl <;> kernel_rfl
theorem leaves9 (hr : r ∈ tb9) : m_leaves 14 [.d r.k.d] S = some (.d (.tuple (r.ls.map .tuple)), S) := by
  simp only [tb9, List.mem_cons, List.not_mem_nil, or_false] at hr
  rcases hr with rfl | rfl | rfl | rfl | rfl | rfl | rfl | rfl | rfl | rfl | rfl | rfl | rfl | rfl | rfl | rfl | rfl <;> kernel_rfl
theorem copy9 (hr : r ∈ tb9) : m_is_copy 14 [.d r.k.d] S = some (.d (.bool r.cp), S) := by
  simp only [tb9, List.mem_cons, List.not_mem_nil, or_false] at hr
  rcases hr with rfl | rfl | rfl | rfl | rfl | rfl | rfl | rfl | rfl | rfl | rfl | rfl | rfl | rfl | rfl | rfl | rfl <;> kernel_rfl
end
section
variable {S : Mem} {kl : Nat} {ks : Ks} {Q : WM → Prop} {r : Pc}
theorem cz0 : ((0 : Nat) : Int) = 0 := rfl
theorem cz1 : ((1 : Nat) : Int) = 1 := rfl
theorem cz2 : ((2 : Nat) : Int) = 2 := rfl
theorem cz3 : ((3 : Nat) : Int) = 3 := rfl
theorem crossed9 (hr : r ∈ tb9) (hc : Cl S) (hk : S[kl]? = some (.dct (kwOf ks))) (hG : ∀ g ∈ ps9, kdAt ks g.1 = some g.2) (q : Q (.d (crD9 r.x r.c), S)) : Ok (m_crossed [.d r.pl, .d (.tuple []), .loc kl] S) Q := by
  have hkl := (List.getElem?_eq_some_iff.mp hk).1
  have h_p : kdAt ks "p" = some _ := hG _ (by unfold ps9; exact List.mem_cons_self)
  have h_q : kdAt ks "q" = some _ := hG _ (by unfold ps9; exact List.mem_cons_of_mem _ (List.mem_cons_self))
  have h_z : kdAt ks "z" = some _ := hG _ (by unfold ps9; exact List.mem_cons_of_mem _ (List.mem_cons_of_mem _ (List.mem_cons_self)))
  have h_m : kdAt ks "m" = some _ := hG _ (by unfold ps9; exact List.mem_cons_of_mem _ (List.mem_cons_of_mem _ (List.mem_cons_of_mem _ (List.mem_cons_self))))
  have h_k : kdAt ks "k" = some _ := hG _ (by unfold ps9; exact List.mem_cons_of_mem _ (List.mem_cons_of_mem _ (List.mem_cons_of_mem _ (List.mem_cons_of_mem _ (List.mem_cons_self)))))
  have h_s : kdAt ks "s" = some _ := hG _ (by unfold ps9; exact List.mem_cons_of_mem _ (List.mem_cons_of_mem _ (List.mem_cons_of_mem _ (List.mem_cons_of_mem _ (List.mem_cons_of_mem _ (List.mem_cons_self))))))
  have g0 : ∀ l : List Ob, (S ++ l)[kl]? = some (.dct (kwOf ks)) := fun l => low_get hk
  unfold m_crossed b_crossed m_kinds_along b_kinds_along
  simp only [tb9, List.mem_cons, List.not_mem_nil, or_false] at hr
  rcases hr with rfl | rfl | rfl | rfl | rfl | rfl | rfl | rfl | rfl | rfl | rfl | rfl | rfl | rfl | rfl | rfl | rfl <;> (
    unfold Pc.pl
    repeat (first | simp only [hk, valW_kw, h_p, h_q, h_z, h_m, h_k, h_s, Option.map_some, Option.isSome_some] | boot_fact)
    refine for_unr ?_
    repeat (first | simp only [k_fr0, k_fr1, atl1, atl2, atl3, atl4] | boot_fact)
    try unfold m_kind_after b_kind_after
    repeat (first | simp only [k_fr0, k_fr1, atl1, atl2, atl3, atl4] | boot_fact)
    try refine is_item_ok (by decide) (by decide) ?_
    repeat (first | simp only [k_fr0, k_fr1, atl1, atl2, atl3, atl4] | boot_fact)
    try refine is_item_ok (by decide) (by decide) ?_
    repeat (first | simp only [k_fr0, k_fr1, atl1, atl2, atl3, atl4] | boot_fact)
    first | refine fin1 hc ?_ | refine fin2 hc ?_ | refine fin3 hc ?_ | refine fin4 hc ?_
    repeat (first | simp only [k_fr0, k_fr1, atl1, atl2, atl3, atl4] | boot_fact)
    refine for_unr ?_
    simp only [numW, List.zipIdx_cons, List.zipIdx_nil, List.map_cons, List.map_nil, cz0, cz1, cz2, cz3, Nat.reduceAdd]
    repeat (first | simp only [k_fr0, k_fr1, atl1, atl2, atl3, atl4, cz0, cz1, cz2, cz3] | boot_fact)
    first | exact q)
end
noncomputable abbrev iD : PyData := .tuple [.str "int"]
noncomputable abbrev pD : PyData := .tuple [.str "tuple", .tuple [iD, iD]]
inductive T9 : TR
  | int : T9 (.tuple [.str "int", .int 3]) ⟨iD⟩ [] [] (fun t _ => .tuple [.str "set", .str t, .tuple [.str "int", .int 3]])
  | unit : T9 unitD ⟨unitD⟩ [] [] (fun t _ => .tuple [.str "set", .str t, unitD])
  | tup (a b : PyData) : T9 (.tuple [.str "tuple", .tuple [a, b]]) ⟨pD⟩ [a, b] [⟨iD⟩, ⟨iD⟩] (fun t ns => .tuple [.str "make", .str t, .str "tuple", .tuple (ns.map .str)])
  | some (a : PyData) : T9 (.tuple [.str "some", a]) ⟨.tuple [.str "maybe", iD]⟩ [a] [⟨iD⟩] (fun t ns => .tuple [.str "make", .str t, .str "some", .tuple (ns.map .str)])
  | box (a : PyData) : T9 (.tuple [.str "box", a]) ⟨.tuple [.str "box", pD]⟩ [a] [⟨pD⟩] (fun t ns => .tuple [.str "make", .str t, .str "box", .tuple (ns.map .str)])
  | use (r : Pc) : r ∈ tb9 → T9 (.tuple [.str "use", r.pl]) r.k [] [] (fun t _ => .tuple [.str (if r.cp = true then "copy" else "move"), .str t, r.pl])
  | shr (r : Pc) : r ∈ tb9 → T9 (.tuple [.str "borrow", .str "shared", r.pl]) ⟨.tuple [.str "shared", r.k.d]⟩ [] [] (fun t _ => .tuple [.str "borrow", .str t, .str "shared", r.pl])
  | exc (r : Pc) : r ∈ tb9 → T9 (.tuple [.str "borrow", .str "exclusive", r.pl]) ⟨.tuple [.str "exclusive", r.k.d]⟩ [] [] (fun t _ => .tuple [.str "borrow", .str t, .str "exclusive", r.pl])
  | is (r : Pc) : r ∈ tb9 → T9 (.tuple [.str "is", r.pl]) ⟨.tuple [.str "bool"]⟩ [] [] (fun t _ => .tuple [.str "is", .str t, r.pl])
  | swap (r : Pc) (a : PyData) : r ∈ tb9 → r.ls = [] → T9 (.tuple [.str "swap", r.pl, a]) r.k [a] [r.k] (fun t ns => .tuple ([.str "swap", .str t, r.pl] ++ ns.map .str))
theorem ns1 {ns : List Str} {α : Type} {a : α} (h : ns.length = [a].length) : ∃ x, ns = [x] := by
  match ns, h with
  | [x], _ => exact ⟨x, rfl⟩
theorem ns2 {ns : List Str} {α : Type} {a b : α} (h : ns.length = [a, b].length) : ∃ x y, ns = [x, y] := by
  match ns, h with
  | [x, y], _ => exact ⟨x, y, rfl⟩
theorem t9_ok (F : PyData) : TOk T9 (.tuple [.tuple [], F]) ps9 := fun {e k es js f} h => by
  have sz1 : ∀ r : Pc, 1 ≤ szT r.pl := fun r => by unfold Pc.pl; simp only [szT]; omega
  cases h with
  | int =>
    refine ⟨fun q => ?_, fun hc hk hG q => ?_, fun hn q => ?_, rfl, by simp only [szT, szTs]; omega⟩
    · unfold m_parts_of b_parts_of; boot_fact; exact q
    · unfold m_kind_made b_kind_made; boot_fact; exact q
    · unfold m_instruction_for b_instruction_for; boot_fact; exact q
  | unit =>
    refine ⟨fun q => ?_, fun hc hk hG q => ?_, fun hn q => ?_, rfl, by unfold unitD; simp only [szT, szTs]; omega⟩
    · unfold m_parts_of b_parts_of unitD; boot_fact; exact q
    · unfold m_kind_made b_kind_made unitD; boot_fact; exact q
    · unfold unitD at q ⊢; unfold m_instruction_for b_instruction_for; boot_fact; exact q
  | tup a b =>
    refine ⟨fun q => ?_, fun hc hk hG q => ?_, fun hn q => ?_, rfl, by simp only [szT, szTs]; omega⟩
    · unfold m_parts_of b_parts_of; boot_fact; exact q
    · unfold m_kind_made b_kind_made; boot_fact; exact q
    · obtain ⟨x, y, rfl⟩ := ns2 hn
      unfold m_instruction_for b_instruction_for; boot_fact; exact q
  | some a =>
    refine ⟨fun q => ?_, fun hc hk hG q => ?_, fun hn q => ?_, rfl, by simp only [szT, szTs]; omega⟩
    · unfold m_parts_of b_parts_of; boot_fact; exact q
    · unfold m_kind_made b_kind_made; boot_fact; exact q
    · obtain ⟨x, rfl⟩ := ns1 hn
      unfold m_instruction_for b_instruction_for; boot_fact; exact q
  | box a =>
    refine ⟨fun q => ?_, fun hc hk hG q => ?_, fun hn q => ?_, rfl, by simp only [szT, szTs]; omega⟩
    · unfold m_parts_of b_parts_of; boot_fact; exact q
    · unfold m_kind_made b_kind_made; boot_fact; exact q
    · obtain ⟨x, rfl⟩ := ns1 hn
      unfold m_instruction_for b_instruction_for; boot_fact; exact q
  | use r hr =>
    refine ⟨fun q => ?_, fun hc hk hG q => ?_, fun hn q => ?_, rfl, by have := sz1 r; simp only [szT, szTs]; omega⟩
    · unfold m_parts_of b_parts_of; boot_fact; exact q
    · unfold m_kind_made b_kind_made m_kind_fetched b_kind_fetched m_place_in b_place_in
      boot_fact
      refine along9 hr hc hk hG ?_
      boot_fact
      exact q
    · unfold m_instruction_for b_instruction_for m_place_in b_place_in
      boot_fact
      refine of_eq9 (copy9 hr) ?_
      cases hcp : r.cp with
      | true => rw [hcp] at q; boot_fact; exact q
      | false => rw [hcp] at q; boot_fact; exact q
  | shr r hr =>
    refine ⟨fun q => ?_, fun hc hk hG q => ?_, fun hn q => ?_, rfl, by have := sz1 r; simp only [szT, szTs]; omega⟩
    · unfold m_parts_of b_parts_of; boot_fact; exact q
    · unfold m_kind_made b_kind_made m_kind_fetched b_kind_fetched m_place_in b_place_in
      boot_fact
      refine along9 hr hc hk hG ?_
      boot_fact
      exact q
    · unfold m_instruction_for b_instruction_for m_place_in b_place_in
      boot_fact
      exact q
  | exc r hr =>
    refine ⟨fun q => ?_, fun hc hk hG q => ?_, fun hn q => ?_, rfl, by have := sz1 r; simp only [szT, szTs]; omega⟩
    · unfold m_parts_of b_parts_of; boot_fact; exact q
    · unfold m_kind_made b_kind_made m_kind_fetched b_kind_fetched m_place_in b_place_in
      boot_fact
      refine along9 hr hc hk hG ?_
      boot_fact
      exact q
    · unfold m_instruction_for b_instruction_for m_place_in b_place_in
      boot_fact
      exact q
  | is r hr =>
    refine ⟨fun q => ?_, fun hc hk hG q => ?_, fun hn q => ?_, rfl, by have := sz1 r; simp only [szT, szTs]; omega⟩
    · unfold m_parts_of b_parts_of; boot_fact; exact q
    · unfold m_kind_made b_kind_made; boot_fact; exact q
    · unfold m_instruction_for b_instruction_for m_place_in b_place_in
      boot_fact
      exact q
  | swap r a hr hl =>
    refine ⟨fun q => ?_, fun hc hk hG q => ?_, fun hn q => ?_, rfl, by have := sz1 r; simp only [szT, szTs]; omega⟩
    · unfold m_parts_of b_parts_of; boot_fact; exact q
    · unfold m_kind_made b_kind_made m_kind_fetched b_kind_fetched m_place_in b_place_in
      boot_fact
      refine along9 hr hc hk hG ?_
      boot_fact
      exact q
    · obtain ⟨x, rfl⟩ := ns1 hn
      unfold m_instruction_for b_instruction_for m_place_in b_place_in
      boot_fact
      exact q
noncomputable def TS9 (nums : List Int) (a t : Int) (r : Mem) : Mem := .lst (nums.map fun n => W.d (.int n)) :: .lst [.d (.int a), .loc 0, .d (.int t)] :: r
theorem next9 {nums : List Int} {a t m : Int} {r : Mem} (h0 : 0 ≤ a) (ht : 0 ≤ t) (hm : 0 < m) (hm2 : m ≤ 1000) : Ok (k09.m_law_next [.loc 1, .d (.int m)] (TS9 nums a t r)) (fun q => ∃ v a', 0 ≤ v ∧ v < m ∧ 0 ≤ a' ∧ q = (.d (.int v), TS9 nums a' t r)) := by
  unfold k09.m_law_next k09.b_law_next TS9
  have hlog : m.natAbs.log2 < 9000 := log2_9000 hm (by omega)
  boot_fact
  by_cases hl : a < ((nums.map fun n => W.d (.int n)).length : Nat)
  · rw [decide_eq_true hl]
    rw [List.length_map] at hl
    have hi : a.toNat < nums.length := by omega
    have e : atI (nums.map fun n => W.d (.int n)) a = some (.d (.int nums[a.toNat])) := by
      have := atI_at (xs := nums.map fun n => W.d (.int n)) (i := a.toNat) (by rw [List.getElem?_map, List.getElem?_eq_getElem hi]; rfl)
      rwa [show ((a.toNat : Nat) : Int) = a by omega] at this
    boot_fact
    simp only [e]
    boot_fact
    exact ⟨hm, _, _, Int.emod_nonneg _ (by omega), Int.emod_lt_of_pos _ hm, by omega, rfl⟩
  · rw [decide_eq_false hl]
    boot_fact
    exact ⟨.inl (.inr ⟨by decide, by decide⟩), .inl (.inr ⟨by decide, by decide⟩), by decide, hm, _, _, Int.emod_nonneg _ (by omega), Int.emod_lt_of_pos _ hm, by omega, rfl⟩
theorem tape9 (ns : List Int) : Ok (k09.m_law_tape [.d (.dict [(.none, .list (ns.map .int))])] []) (fun q => ∃ nums t, 0 ≤ t ∧ q = (.loc 1, TS9 nums 0 t [])) := by
  unfold k09.m_law_tape k09.b_law_tape
  boot_fact
  rw [cut63]
  rw [List.map_map]
  let M (nums : List Int) : Mem := [.lst (nums.map fun n => W.d (.int n))]
  let En (t : Int) (x3 x4 x5 : Option W) : Env' := [some (.d (.dict [(.none, .list (ns.map .int))])), some (.loc 0), some (.d (.int t)), x3, x4, x5]
  refine for_vals (fun i ρ S => ∃ nums t x3 x4 x5, S = M nums ∧ ρ = En t x3 x4 x5 ∧ 0 ≤ t ∧ nums.length ≤ 24 * i) ⟨[], 1, _, _, _, rfl, rfl, by decide, Nat.le_refl _⟩ ?_ ?_
  · rintro i w ρ S hw ⟨nums, t, x3, x4, x5, rfl, rfl, ht, hn⟩
    rw [List.getElem?_map] at hw
    obtain ⟨z, hz, rfl⟩ := Option.map_eq_some_iff.mp hw
    have hi : i < 63 := by
      have := (List.getElem?_eq_some_iff.mp hz).1
      rw [List.length_take] at this; omega
    simp only [M, En, Function.comp]
    boot_fact
    refine ⟨⟨by decide, by decide⟩, ?_⟩
    have hab : 0 ≤ (if z < 0 then -z else z) := by split <;> omega
    generalize (if z < 0 then -z else z) = y at hab ⊢
    refine for_vals (fun j ρ S => ∃ nums' y' x5, S = M nums' ∧ ρ = En (t + y) (some (.d (.int z))) (some (.d (.int y'))) x5 ∧ nums'.length ≤ nums.length + j) ⟨nums, y, _, rfl, rfl, Nat.le_refl _⟩ ?_ ?_
    · rintro j w ρ S hw ⟨nums', y', x5, rfl, rfl, hn'⟩
      obtain ⟨rfl, hj⟩ := rng_get hw
      have e : (nums'.map fun n => W.d (.int n)) ++ [W.d (.int (y' % 60))] = (nums' ++ [y' % 60]).map fun n => W.d (.int n) := by rw [List.map_append]; rfl
      simp only [M, En]
      boot_fact
      rw [e]
      refine ⟨sz_lt (by rw [List.length_map]; omega), by decide, ?_⟩
      by_cases h0 : y' / 60 = 0
      · rw [decide_eq_true h0]
        boot_fact
        exact ⟨_, _, _, _, _, rfl, rfl, by omega, by rw [List.length_append, List.length_singleton]; omega⟩
      · rw [decide_eq_false h0]
        boot_fact
        exact ⟨_, _, _, rfl, rfl, by rw [List.length_append, List.length_singleton]; omega⟩
    · rintro ρ S ⟨nums', y', x5, rfl, rfl, hn'⟩
      rw [rng_len] at hn'
      simp only [En]
      boot_fact
      exact ⟨nums', t + y, _, _, _, rfl, rfl, by omega, by omega⟩
  · rintro ρ S ⟨nums, t, x3, x4, x5, rfl, rfl, ht, hn⟩
    simp only [M, En]
    boot_fact
    exact ⟨nums, t % 1000003, Int.emod_nonneg _ (by decide), rfl⟩
theorem places9 {S : Mem} : k09.m_law_places [] S = some (.d (.list (tb9.map Pc.pl)), S) := by kernel_rfl
theorem params9 {S : Mem} : k09.m_law_parameters [] S = some (.d (.tuple (ps9.map pairSD)), S) := by kernel_rfl
theorem plain9 {S : Mem} {r : Pc} (hr : r ∈ tb9) : k09.m_law_plain 14 [.d r.k.d] S = some (.d (.bool r.ls.isEmpty), S) := by
  simp only [tb9, List.mem_cons, List.not_mem_nil, or_false] at hr
  rcases hr with rfl | rfl | rfl | rfl | rfl | rfl | rfl | rfl | rfl | rfl | rfl | rfl | rfl | rfl | rfl | rfl | rfl <;> kernel_rfl
noncomputable abbrev i3 : PyData := .tuple [.str "int", .int 3]
noncomputable abbrev p3 : PyData := .tuple [.str "tuple", .tuple [i3, i3]]
theorem er_i {n : Nat} : Er T9 (n + 1) i3 ⟨iD⟩ := .mk .int (fun i a j h => by simp at h)
theorem er_p {n : Nat} : Er T9 (n + 2) p3 ⟨pD⟩ := .mk (.tup i3 i3) (fun i a j h g => by
  match i, h, g with
  | 0, h, g => cases h; cases g; exact er_i
  | 1, h, g => cases h; cases g; exact er_i)
theorem er_b {n : Nat} : Er T9 (n + 3) (.tuple [.str "box", p3]) ⟨.tuple [.str "box", pD]⟩ := .mk (.box p3) (fun i a j h g => by
  match i, h, g with
  | 0, h, g => cases h; cases g; exact er_p)
theorem er_s {n : Nat} : Er T9 (n + 2) (.tuple [.str "some", i3]) ⟨.tuple [.str "maybe", iD]⟩ := .mk (.some i3) (fun i a j h g => by
  match i, h, g with
  | 0, h, g => cases h; cases g; exact er_i)
section
variable {r : Pc}
theorem value9 (hr : r ∈ tb9) (hl : r.ls = []) : ∃ v, (∀ S, k09.m_law_value 60 [.d r.k.d] S = some (.d v, S)) ∧ Er T9 29 v r.k ∧ szT v ≤ 15 := by
  simp only [tb9, List.mem_cons, List.not_mem_nil, or_false] at hr
  rcases hr with rfl | rfl | rfl | rfl | rfl | rfl | rfl | rfl | rfl | rfl | rfl | rfl | rfl | rfl | rfl | rfl | rfl <;> first
    | (cases hl; done)
    | exact ⟨i3, fun S => by kernel_rfl, er_i, by decide +kernel⟩
    | exact ⟨p3, fun S => by kernel_rfl, er_p, by decide +kernel⟩
    | exact ⟨.tuple [.str "box", p3], fun S => by kernel_rfl, er_b, by decide +kernel⟩
    | exact ⟨.tuple [.str "some", i3], fun S => by kernel_rfl, er_s, by decide +kernel⟩
theorem head9 (hr : r ∈ tb9) : ∃ h rest, r.k.d = .tuple (.str h :: rest) := by
  simp only [tb9, List.mem_cons, List.not_mem_nil, or_false] at hr
  rcases hr with rfl | rfl | rfl | rfl | rfl | rfl | rfl | rfl | rfl | rfl | rfl | rfl | rfl | rfl | rfl | rfl | rfl <;> exact ⟨_, _, rfl⟩
theorem ckind9 (hr : r ∈ tb9) {p : List PyData} (hp : r.c = some p) : ∃ h rest, ∀ S, k09.m_law_kind [.d (.tuple [.str r.x, .tuple p])] S = some (.d (.tuple (.str h :: rest)), S) := by
  simp only [tb9, List.mem_cons, List.not_mem_nil, or_false] at hr
  rcases hr with rfl | rfl | rfl | rfl | rfl | rfl | rfl | rfl | rfl | rfl | rfl | rfl | rfl | rfl | rfl | rfl | rfl
  · cases hp
  · cases hp
  · cases hp
  · cases hp; exact ⟨"exclusive", [.tuple [.str "tuple", .tuple [.tuple [.str "int"], .tuple [.str "int"]]]], fun S => by kernel_rfl⟩
  · cases hp; exact ⟨"exclusive", [.tuple [.str "tuple", .tuple [.tuple [.str "int"], .tuple [.str "int"]]]], fun S => by kernel_rfl⟩
  · cases hp
  · cases hp; exact ⟨"shared", [.tuple [.str "tuple", .tuple [.tuple [.str "int"], .tuple [.str "int"]]]], fun S => by kernel_rfl⟩
  · cases hp; exact ⟨"shared", [.tuple [.str "tuple", .tuple [.tuple [.str "int"], .tuple [.str "int"]]]], fun S => by kernel_rfl⟩
  · cases hp
  · cases hp
  · cases hp
  · cases hp
  · cases hp
  · cases hp; exact ⟨"exclusive", [.tuple [.str "int"]], fun S => by kernel_rfl⟩
  · cases hp
  · cases hp
  · cases hp
theorem er_up {T : TR} : ∀ {n : Nat} {e : PyData} {k : Kd}, Er T n e k → Er T (n + 1) e k
  | _, _, _, .mk h p => .mk h fun i a j h1 h2 => er_up (p i a j h1 h2)
theorem szpl9 : ∀ r ∈ tb9, szT r.pl ≤ 2 := by decide +kernel
noncomputable def U9 (pl : PyData) (k : Kd) : Prop := ∃ r ∈ tb9, pl = r.pl ∧ k = r.k ∧ r.ls = []
theorem stmt9 {nums : List Int} {a t : Int} {R : Mem} (h0 : 0 ≤ a) (ht : 0 ≤ t) : Ok (k09.m_law_statement [.loc 1] (TS9 nums a t R)) (fun q => ∃ s a', Sr T9 U9 s ∧ szT s ≤ 20 ∧ 0 ≤ a' ∧ q = (.d s, TS9 nums a' t R)) := by
  unfold k09.m_law_statement k09.b_law_statement
  boot_fact
  refine of_eq9 places9 ?_
  boot_fact
  have hlen : ((tb9.map Pc.pl).length : Int) = 17 := rfl
  rw [hlen]
  refine (next9 h0 ht (by decide) (by decide)).mono ?_
  rintro _ ⟨v, a1, v0, v1, ha1, rfl⟩
  obtain ⟨i, rfl⟩ : ∃ i : Nat, v = (i : Int) := ⟨v.toNat, by omega⟩
  have hi : i < tb9.length := by show i < 17; omega
  have hr : tb9[i] ∈ tb9 := List.getElem_mem hi
  have hat : atI (tb9.map Pc.pl) (i : Int) = some (tb9[i]).pl := atI_at' (by rw [List.getElem?_map, List.getElem?_eq_getElem hi]; rfl)
  have hat2 : atI ((tb9.map Pc.pl).map W.d) (i : Int) = some (.d (tb9[i]).pl) := atI_at' (by rw [List.getElem?_map, List.getElem?_map, List.getElem?_eq_getElem hi]; rfl)
  generalize tb9[i] = r at hr hat hat2
  generalize tb9.map Pc.pl = PLS at hat hat2 ⊢
  repeat (first | simp only [hat, hat2, Option.map_some] | boot_fact)
  refine of_eq9 (law_kind9 hr) ?_
  boot_fact
  refine of_eq9 (law_crossing9 hr) ?_
  obtain ⟨h, rest, hk⟩ := head9 hr
  have hszp : szT r.pl ≤ 2 := szpl9 r hr
  have done : ∀ (s : PyData) (a' : Int), Sr T9 U9 s → szT s ≤ 20 → 0 ≤ a' → ∃ s' a'', Sr T9 U9 s' ∧ szT s' ≤ 20 ∧ 0 ≤ a'' ∧ ((.d s, TS9 nums a' t R) : WM) = (.d s', TS9 nums a'' t R) := fun s a' h1 h2 h3 => ⟨s, a', h1, h2, h3, rfl⟩
  have nil_ : ∀ (i : Nat) (a : PyData) (j : Kd), ([] : List PyData)[i]? = some a → ([] : List Kd)[i]? = some j → Er T9 29 a j := fun i a j h => by simp at h
  generalize hsT : (sSeq (sAsg (eCall (k09.m_law_next) (aCons (eVar 0) (aCons (eC (.int (6))) aNil))) (gN 6)) (sSeq (sIf (eAnd (eB (eOp (oEq false) (eVar 6) (eC (.int (1))))) (eB (eCall ((k09.m_law_plain) 14) (aCons (eVar 3) aNil)))) (sRet (eTup (aCons (eC (.str "do")) (aCons (eTup (aCons (eC (.str "borrow")) (aCons (eC (.str "shared")) (aCons (eVar 2) aNil)))) aNil)))) sNx) (sSeq (sIf (eAnd (eB (eOp (oEq false) (eVar 6) (eC (.int (2))))) (eAnd (eB (eCall ((k09.m_law_plain) 14) (aCons (eVar 3) aNil))) (eNot (eB (eVar 5))))) (sRet (eTup (aCons (eC (.str "do")) (aCons (eTup (aCons (eC (.str "borrow")) (aCons (eC (.str "exclusive")) (aCons (eVar 2) aNil)))) aNil)))) sNx) (sSeq (sIf (eAnd (eB (eOp (oEq false) (eVar 6) (eC (.int (3))))) (eB (eOp (oEq false) (eOp oIx (eVar 3) (eC (.int (0)))) (eC (.str "maybe"))))) (sRet (eTup (aCons (eC (.str "do")) (aCons (eTup (aCons (eC (.str "is")) (aCons (eVar 2) aNil))) aNil)))) sNx) (sSeq (sIf (eAnd (eB (eOp (oEq false) (eVar 6) (eC (.int (4))))) (eAnd (eB (eCall ((k09.m_law_plain) 14) (aCons (eVar 3) aNil))) (eNot (eB (eVar 5))))) (sRet (eTup (aCons (eC (.str "do")) (aCons (eTup (aCons (eC (.str "swap")) (aCons (eVar 2) (aCons (eCall ((k09.m_law_value) 60) (aCons (eVar 3) aNil)) aNil)))) aNil)))) sNx) (sSeq (sIf (eAnd (eB (eOp (oEq false) (eVar 6) (eC (.int (5))))) (eAnd (eB (eCall ((k09.m_law_plain) 14) (aCons (eVar 3) aNil))) (eNot (eB (eVar 5))))) (sRet (eTup (aCons (eC (.str "store")) (aCons (eVar 2) (aCons (eCall ((k09.m_law_value) 60) (aCons (eVar 3) aNil)) aNil))))) sNx) (sRet (eTup (aCons (eC (.str "do")) (aCons (eTup (aCons (eC (.str "use")) (aCons (eVar 2) aNil))) aNil)))))))))) = sT
  have hlT : List.length (TS9 nums a t R) = List.length (TS9 nums a1 t R) := rfl
  have fin : ∀ (x4 : Option W) (sh : Bool), Ok (sT [some (.loc 1), some (.d (.list PLS)), some (.d r.pl), some (.d r.k.d), x4, some (.d (.bool sh)), none] (TS9 nums a1 t R)) (Kdef false (List.length (TS9 nums a t R)) (fun q => ∃ s a', Sr T9 U9 s ∧ szT s ≤ 20 ∧ 0 ≤ a' ∧ q = (.d s, TS9 nums a' t R))) := by
    intro x4 sh
    subst hsT
    boot_fact
    refine (next9 ha1 ht (by decide) (by decide)).mono ?_
    rintro _ ⟨v, a2, v0, v1, ha2, rfl⟩
    boot_fact
    have er1 : ∀ {e : PyData} {k : Kd} {f : Str → List Str → PyData}, T9 e k [] [] f → Er T9 30 e k := fun h => .mk h nil_
    have hv6 : v = 0 ∨ v = 1 ∨ v = 2 ∨ v = 3 ∨ v = 4 ∨ v = 5 := by omega
    have hvv : ∃ vv, (r.ls.isEmpty = true → ∀ S, k09.m_law_value 60 [.d r.k.d] S = some (.d vv, S)) ∧ (r.ls.isEmpty = true → r.ls = [] ∧ Er T9 29 vv r.k ∧ szT vv ≤ 15) := by
      cases hls : r.ls.isEmpty with
      | true =>
        have hl : r.ls = [] := List.isEmpty_iff.mp hls
        obtain ⟨vv, w1, w2, w3⟩ := value9 hr hl
        exact ⟨vv, fun _ => w1, fun _ => ⟨hl, w2, w3⟩⟩
      | false => exact ⟨.none, (fun e => by cases e), (fun e => by cases e)⟩
    obtain ⟨vv, w1, w2⟩ := hvv
    have er30 : ∀ {e : PyData} {k : Kd}, Er T9 29 e k → Er T9 30 e k := fun h => er_up h
    cases hls : r.ls.isEmpty <;> cases sh <;> rcases hv6 with rfl | rfl | rfl | rfl | rfl | rfl <;> (
      repeat (first | (refine of_eq9 (plain9 hr) ?_; rw [hls]) | refine of_eq9 (w1 hls _) ?_ | boot_fact)
      try (rw [hk]; boot_fact; by_cases hm : h = "maybe" <;> (first | rw [decide_eq_true hm] | rw [decide_eq_false hm]) <;> boot_fact <;> (try rw [← hk]))
      all_goals first
        | exact done _ _ (.do_ (er1 (.use r hr))) (by simp only [szT, szTs]; omega) ha2
        | exact done _ _ (.do_ (er1 (.shr r hr))) (by simp only [szT, szTs]; omega) ha2
        | exact done _ _ (.do_ (er1 (.exc r hr))) (by simp only [szT, szTs]; omega) ha2
        | exact done _ _ (.do_ (er1 (.is r hr))) (by simp only [szT, szTs]; omega) ha2
        | exact done _ _ (.do_ (.mk (.swap r vv hr (w2 hls).1) (fun i a j h g => by
            match i, h, g with
            | 0, h, g => cases h; cases g; exact (w2 hls).2.1))) (by have := (w2 hls).2.2; simp only [szT, szTs]; omega) ha2
        | exact done _ _ (.store ⟨r, hr, rfl, rfl, (w2 hls).1⟩ (er30 (w2 hls).2.1)) (by have := (w2 hls).2.2; simp only [szT, szTs]; omega) ha2)
  cases hc : r.c with
  | none =>
    simp only [crD9]
    boot_fact
    rw [show isNonW (W.d .none) = true from rfl]
    boot_fact
    exact fin _ _
  | some p =>
    obtain ⟨h2, rest2, hk2⟩ := ckind9 hr hc
    simp only [crD9]
    boot_fact
    rw [show isNonW (W.d (.tuple [.str r.x, .tuple p])) = false from rfl]
    boot_fact
    refine of_eq9 (hk2 _) ?_
    boot_fact
    exact fin _ _
end
section
variable {S : Mem} {ks : Ks} {kl : Nat} {x : Str} {k : Kd} {Q : WM → Prop}
theorem kind_at0_ok (hc : Cl S) (hk : S[kl]? = some (.dct (kwOf ks))) (h0 : kdAt ks x = some k) (q : Q (.d k.d, S)) : Ok (m_kind_at [.d (.tuple [.str x, .tuple []]), .d (.tuple []), .loc kl] S) Q := by
  have hkl := (List.getElem?_eq_some_iff.mp hk).1
  unfold m_kind_at b_kind_at m_kinds_along b_kinds_along
  boot_fact
  simp only [hk]
  boot_fact
  simp only [valW_kw, h0, Option.map_some, Option.isSome_some]
  boot_fact
  simp only [hk]
  boot_fact
  simp only [valW_kw, h0, Option.map_some]
  boot_fact
  refine for_vals (ws := []) (fun i ρ S' => ρ = [some (.d (.tuple [.str x, .tuple []])), some (.d (.tuple [])), some (.loc kl), some (.d (.str x)), some (.d (.tuple [])), some (.loc S.length), none] ∧ S' = S ++ [Ob.lst [.d k.d]]) ⟨rfl, rfl⟩ (fun i w ρ S' hw => by cases hw) ?_
  rintro ρ S' ⟨rfl, rfl⟩
  boot_fact
  refine fin_lst (ds := [k.d]) (Nat.le_refl _) get_e0 (by rw [take_e]; exact hc) ?_
  rw [take_e]
  boot_fact
  rw [show atI [W.d k.d] (-1) = some (W.d k.d) from atI_last (xs := [])]
  boot_fact
  exact q
end
structure Vw (CG : Addr) (gl pl kl : Nat) (b : Bs) (S : Mem) : Prop where
  cl : Cl S
  ob : ∃ fs, S[gl]? = some (.ins CG fs) ∧ List.lookup ("points" : Str) fs = some (.loc pl) ∧ List.lookup ("kinds" : Str) fs = some (.loc kl)
  ps : S[pl]? = some (.lst (b.ps.map .d))
  ks : S[kl]? = some (.dct (kwOf b.ks))
section
variable {CG CL : Addr} {gl pl kl : Nat} {b : Bs} {S : Mem} {Q : WM → Prop} {r : Pc} {F : PyData} {t : Str}
theorem small9 : ∀ r ∈ tb9, r.st.length ≤ 3 ∧ r.ls.length ≤ 1 ∧ ∀ l ∈ r.ls, l.length ≤ 2 := by decide +kernel
theorem leaves_row (hv : Vw CG gl pl kl b S) (hG : ∀ g ∈ ps9, kdAt b.ks g.1 = some g.2) (hr : r ∈ tb9) (q : Q (.d (.tuple (lvs9 r.x r.st r.ls)), S)) : Ok (m_leaves_of CG CL [.d (.tuple [.tuple [], F]), .loc gl, .d r.pl] S) Q := by
  obtain ⟨hc, ⟨fs, a1, a2, a3⟩, h3, h4⟩ := hv
  obtain ⟨s1, s2, s3⟩ := small9 r hr
  have al := fun (q : _) => along9 (Q := q) hr hc h4 hG
  unfold Pc.pl at al ⊢
  unfold m_leaves_of b_leaves_of
  boot_fact
  simp only [a1]
  boot_fact
  simp only [a3]
  boot_fact
  refine al _ ?_
  boot_fact
  refine of_eq9 (leaves9 hr) ?_
  boot_fact
  rw [List.map_map]
  refine lc_map (fun l => W.d (.tuple l)) (fun l => W.d (.tuple [.str r.x, .tuple (r.st ++ l)])) (fun l hl R N h => ?_) ?_
  · boot_fact
    have := s3 l hl
    exact ⟨sz_le (by omega), h⟩
  · have e : (r.ls.map fun l => W.d (.tuple [.str r.x, .tuple (r.st ++ l)])) = (lvs9 r.x r.st r.ls).map W.d := by unfold lvs9; rw [List.map_map]; rfl
    rw [e]
    boot_fact
    rw [dOf_map]
    boot_fact
    exact ⟨sz_le (by unfold lvs9; rw [List.length_map]; omega), q⟩
theorem leaves_tmp (hv : Vw CG gl pl kl b S) (hr : r ∈ tb9) (ht : kdAt b.ks t = some r.k) (q : Q (.d (.tuple (lvs9 t [] r.ls)), S)) : Ok (m_leaves_of CG CL [.d (.tuple [.tuple [], F]), .loc gl, .d (.tuple [.str t, .tuple []])] S) Q := by
  obtain ⟨hc, ⟨fs, a1, a2, a3⟩, h3, h4⟩ := hv
  obtain ⟨s1, s2, s3⟩ := small9 r hr
  unfold m_leaves_of b_leaves_of
  boot_fact
  simp only [a1]
  boot_fact
  simp only [a3]
  boot_fact
  refine kind_at0_ok hc h4 ht ?_
  boot_fact
  refine of_eq9 (leaves9 hr) ?_
  boot_fact
  rw [List.map_map]
  refine lc_map (fun l => W.d (.tuple l)) (fun l => W.d (.tuple [.str t, .tuple ([] ++ l)])) (fun l hl R N h => ?_) ?_
  · boot_fact
    have := s3 l hl
    exact ⟨sz_le (by simp; omega), h⟩
  · have e : (r.ls.map fun l => W.d (.tuple [.str t, .tuple ([] ++ l)])) = (lvs9 t [] r.ls).map W.d := by unfold lvs9; rw [List.map_map]; rfl
    rw [e]
    boot_fact
    rw [dOf_map]
    boot_fact
    exact ⟨sz_le (by unfold lvs9; rw [List.length_map]; omega), q⟩
end
section
variable {CG CL : Addr} {gl pl kl at_ : Nat} {b : Bs} {S : Mem} {Q : WM → Prop} {r : Pc} {F i : PyData} {t : Str}
inductive Fm (b : Bs) (r : Pc) : PyData → Prop
  | copy (t : Str) : r.cp = true → kdAt b.ks t = some r.k → Fm b r (.tuple [.str "copy", .str t, r.pl])
  | move (t : Str) : r.cp = false → kdAt b.ks t = some r.k → Fm b r (.tuple [.str "move", .str t, r.pl])
  | shr (t : Str) : Fm b r (.tuple [.str "borrow", .str t, .str "shared", r.pl])
  | exc (t : Str) : Fm b r (.tuple [.str "borrow", .str t, .str "exclusive", r.pl])
  | is (t : Str) : Fm b r (.tuple [.str "is", .str t, r.pl])
  | swap (t y : Str) : r.ls = [] → Fm b r (.tuple [.str "swap", .str t, r.pl, .str y])
  | store (y : Str) : r.ls = [] → kdAt b.ks y = some r.k → Fm b r (.tuple [.str "store", r.pl, .str y])
noncomputable def crL9 (r : Pc) : List PyData := match r.c with
  | some p => [.tuple [.str r.x, .tuple p]]
  | none => []
noncomputable def reads : PyData → Bool
  | .tuple (.str w :: _) => decide (w = "copy") || decide (w = "move")
  | _ => false
noncomputable def uses9D (r : Pc) (i : PyData) : List PyData := (if reads i = true then lvs9 r.x r.st r.ls else []) ++ crL9 r
theorem temps0 : Q (.d (.tuple []), S) → Ok (m_leaves_of_temporaries CG CL [.d (.tuple [.tuple [], F]), .loc gl, .d (.tuple [])] S) Q := fun q => by
  unfold m_leaves_of_temporaries b_leaves_of_temporaries
  boot_fact
  refine lc2_map (xs := ([] : List Str)) (fun p => W.d (.str p)) (fun p => ([] : List W)) (fun j p hj => by cases hj) ?_
  rw [show ((([] : List Str).map fun p => ([] : List W)).flatten) = ([] : List PyData).map W.d from rfl]
  boot_fact
  first | exact q | exact ⟨sz_le (by decide), q⟩
theorem temps1 (hv : Vw CG gl pl kl b S) (hr : r ∈ tb9) (hl : r.ls = []) (ht : kdAt b.ks t = some r.k) : Q (.d (.tuple []), S) → Ok (m_leaves_of_temporaries CG CL [.d (.tuple [.tuple [], F]), .loc gl, .d (.tuple [.str t])] S) Q := fun q => by
  unfold m_leaves_of_temporaries b_leaves_of_temporaries
  boot_fact
  refine lc2_map (xs := [t]) (fun p => W.d (.str p)) (fun p => ([] : List W)) (fun j p hj R h => ?_) ?_
  · have e : t = p := by
      match j, hj with
      | 0, hj => exact Option.some.inj hj
    subst e
    boot_fact
    refine leaves_tmp hv hr ht ?_
    rw [hl]
    unfold lvs9
    boot_fact
    refine lc_map (xs := ([] : List PyData)) (fun l => W.d l) (fun l => W.d l) (fun l hl R N r => by cases hl) ?_
    exact h
  · rw [show (([t].map fun p => ([] : List W)).flatten) = ([] : List PyData).map W.d from rfl]
    boot_fact
    first | exact q | exact ⟨sz_le (by decide), q⟩
theorem crossed_by9 (hv : Vw CG gl pl kl b S) (hG : ∀ g ∈ ps9, kdAt b.ks g.1 = some g.2) (hr : r ∈ tb9) (hf : Fm b r i) (q : Q (.d (.tuple (crL9 r)), S)) : Ok (m_crossed_by CG CL [.d (.tuple [.tuple [], F]), .loc gl, .d i] S) Q := by
  obtain ⟨hc, ⟨fs, a1, a2, a3⟩, h3, h4⟩ := hv
  have cr := fun (Q : WM → Prop) (q : Q (.d (crD9 r.x r.c), S)) => crossed9 (Q := Q) hr hc h4 hG q
  have fin : ∀ Q : WM → Prop, Q (.d (.tuple (crL9 r)), S) → True := fun _ _ => trivial
  unfold m_crossed_by b_crossed_by
  cases hf <;> (
    unfold m_place_of b_place_of
    repeat (first | simp only [a1, a3, List.lookup_cons, List.lookup_nil, beq_eq_decide, ofStr_eq, String.reduceEq, decide_true, decide_false, Option.map_some] | boot_fact)
    refine cr _ ?_
    unfold crL9 at q
    cases hcc : r.c with
    | none =>
      rw [hcc] at q
      simp only [crD9]
      boot_fact
      rw [show isNonW (W.d .none) = true from rfl]
      boot_fact
      exact q
    | some p =>
      rw [hcc] at q
      simp only [crD9]
      boot_fact
      rw [show isNonW (W.d (.tuple [.str r.x, .tuple p])) = false from rfl]
      boot_fact
      exact q)
end
section
variable {CG CL : Addr} {gl pl kl at_ : Nat} {b : Bs} {S : Mem} {Q : WM → Prop} {r : Pc} {F i : PyData} {t : Str}
theorem len9 (hr : r ∈ tb9) : (lvs9 r.x r.st r.ls).length ≤ 1 ∧ (crL9 r).length ≤ 1 := by
  obtain ⟨s1, s2, s3⟩ := small9 r hr
  refine ⟨by unfold lvs9; rw [List.length_map]; exact s2, ?_⟩
  unfold crL9; split <;> simp
theorem uses9 (hv : Vw CG gl pl kl b S) (hG : ∀ g ∈ ps9, kdAt b.ks g.1 = some g.2) (hr : r ∈ tb9) (hx : b.ps[at_]? = some i) (hf : Fm b r i) (q : Q (.d (.tuple (uses9D r i)), S)) : Ok (k09.m_uses CG CL [.d (.tuple [.tuple [], F]), .loc gl, .d (.int (at_ : Int))] S) Q := by
  have hat : atI (b.ps.map W.d) (at_ : Int) = some (.d i) := atI_at' (by rw [List.getElem?_map, hx]; rfl)
  obtain ⟨hc, ⟨fs, a1, a2, a3⟩, h3, h4⟩ := id hv
  obtain ⟨l1, l2⟩ := len9 hr
  have cb := fun (Q : WM → Prop) (q : Q (.d (.tuple (crL9 r)), S)) => crossed_by9 (CL := CL) (F := F) (Q := Q) hv hG hr hf q
  have lr := fun (Q : WM → Prop) (q : Q (.d (.tuple (lvs9 r.x r.st r.ls)), S)) => leaves_row (CL := CL) (F := F) (Q := Q) hv hG hr q
  unfold k09.m_uses k09.b_uses
  boot_fact
  simp only [a1]
  boot_fact
  simp only [a2]
  boot_fact
  simp only [h3]
  boot_fact
  simp only [hat]
  boot_fact
  cases hf with
  | copy t h1 h2 =>
    unfold m_taken b_taken
    boot_fact
    refine temps0 ?_
    repeat (first | simp only [hat, List.lookup_cons, List.lookup_nil, beq_eq_decide, ofStr_eq, String.reduceEq, decide_true, decide_false, Option.map_some] | boot_fact)
    unfold m_place_of b_place_of
    repeat (first | simp only [hat, List.lookup_cons, List.lookup_nil, beq_eq_decide, ofStr_eq, String.reduceEq, decide_true, decide_false, Option.map_some] | boot_fact)
    refine lr _ ?_
    boot_fact
    refine ⟨sz_le (by omega), cb _ ?_⟩
    boot_fact
    rw [show uses9D r _ = lvs9 r.x r.st r.ls ++ crL9 r by unfold uses9D reads; simp [ofStr_eq]] at q
    exact ⟨sz_le (by omega), q⟩
  | move t h1 h2 =>
    unfold m_taken b_taken
    boot_fact
    refine temps0 ?_
    repeat (first | simp only [hat, List.lookup_cons, List.lookup_nil, beq_eq_decide, ofStr_eq, String.reduceEq, decide_true, decide_false, Option.map_some] | boot_fact)
    unfold m_place_of b_place_of
    repeat (first | simp only [hat, List.lookup_cons, List.lookup_nil, beq_eq_decide, ofStr_eq, String.reduceEq, decide_true, decide_false, Option.map_some] | boot_fact)
    refine lr _ ?_
    boot_fact
    refine ⟨sz_le (by omega), cb _ ?_⟩
    boot_fact
    rw [show uses9D r _ = lvs9 r.x r.st r.ls ++ crL9 r by unfold uses9D reads; simp [ofStr_eq]] at q
    exact ⟨sz_le (by omega), q⟩
  | shr t =>
    unfold m_taken b_taken
    boot_fact
    refine temps0 ?_
    repeat (first | simp only [hat, List.lookup_cons, List.lookup_nil, beq_eq_decide, ofStr_eq, String.reduceEq, decide_true, decide_false, Option.map_some] | boot_fact)
    refine cb _ ?_
    boot_fact
    rw [show uses9D r _ = crL9 r by unfold uses9D reads; simp [ofStr_eq]] at q
    first | exact q | exact ⟨sz_le (by simp; omega), q⟩
  | exc t =>
    unfold m_taken b_taken
    boot_fact
    refine temps0 ?_
    repeat (first | simp only [hat, List.lookup_cons, List.lookup_nil, beq_eq_decide, ofStr_eq, String.reduceEq, decide_true, decide_false, Option.map_some] | boot_fact)
    refine cb _ ?_
    boot_fact
    rw [show uses9D r _ = crL9 r by unfold uses9D reads; simp [ofStr_eq]] at q
    first | exact q | exact ⟨sz_le (by simp; omega), q⟩
  | is t =>
    unfold m_taken b_taken
    boot_fact
    refine temps0 ?_
    repeat (first | simp only [hat, List.lookup_cons, List.lookup_nil, beq_eq_decide, ofStr_eq, String.reduceEq, decide_true, decide_false, Option.map_some] | boot_fact)
    refine cb _ ?_
    boot_fact
    rw [show uses9D r _ = crL9 r by unfold uses9D reads; simp [ofStr_eq]] at q
    first | exact q | exact ⟨sz_le (by simp; omega), q⟩
  | swap t y h1 =>
    unfold m_taken b_taken
    boot_fact
    refine temps0 ?_
    repeat (first | simp only [hat, List.lookup_cons, List.lookup_nil, beq_eq_decide, ofStr_eq, String.reduceEq, decide_true, decide_false, Option.map_some] | boot_fact)
    refine cb _ ?_
    boot_fact
    rw [show uses9D r _ = crL9 r by unfold uses9D reads; simp [ofStr_eq]] at q
    first | exact q | exact ⟨sz_le (by simp; omega), q⟩
  | store y h1 h2 =>
    unfold m_taken b_taken
    boot_fact
    refine temps1 hv hr h1 h2 ?_
    repeat (first | simp only [hat, List.lookup_cons, List.lookup_nil, beq_eq_decide, ofStr_eq, String.reduceEq, decide_true, decide_false, Option.map_some] | boot_fact)
    refine cb _ ?_
    boot_fact
    rw [show uses9D r _ = crL9 r by unfold uses9D reads; simp [ofStr_eq]] at q
    first | exact q | exact ⟨sz_le (by simp; omega), q⟩
end
section
variable {CG CL : Addr} {gl pl kl at_ : Nat} {b : Bs} {S : Mem} {Q : WM → Prop} {r : Pc} {F i : PyData} {t : Str}
noncomputable def clears9D (r : Pc) : PyData → List PyData
  | .tuple (.str w :: _) => if w = "move" ∨ w = "store" then lvs9 r.x r.st r.ls else []
  | _ => []
theorem clears9 (hv : Vw CG gl pl kl b S) (hG : ∀ g ∈ ps9, kdAt b.ks g.1 = some g.2) (hr : r ∈ tb9) (hx : b.ps[at_]? = some i) (hf : Fm b r i) (q : Q (.d (.tuple (clears9D r i)), S)) : Ok (k09.m_clears CG CL [.d (.tuple [.tuple [], F]), .loc gl, .d (.int (at_ : Int))] S) Q := by
  have hat : atI (b.ps.map W.d) (at_ : Int) = some (.d i) := atI_at' (by rw [List.getElem?_map, hx]; rfl)
  obtain ⟨hc, ⟨fs, a1, a2, a3⟩, h3, h4⟩ := id hv
  obtain ⟨l1, l2⟩ := len9 hr
  have lr := fun (Q : WM → Prop) (q : Q (.d (.tuple (lvs9 r.x r.st r.ls)), S)) => leaves_row (CL := CL) (F := F) (Q := Q) hv hG hr q
  unfold k09.m_clears k09.b_clears
  boot_fact
  simp only [a1]
  boot_fact
  simp only [a2]
  boot_fact
  simp only [h3]
  boot_fact
  simp only [hat]
  boot_fact
  cases hf with
  | copy t h1 h2 =>
    unfold m_taken b_taken
    boot_fact
    refine temps0 ?_
    repeat (first | simp only [hat, List.lookup_cons, List.lookup_nil, beq_eq_decide, ofStr_eq, String.reduceEq, decide_true, decide_false, Option.map_some] | boot_fact)
    rw [show clears9D r _ = [] by unfold clears9D; simp [ofStr_eq]] at q
    exact q
  | move t h1 h2 =>
    unfold m_taken b_taken
    boot_fact
    refine temps0 ?_
    repeat (first | simp only [hat, List.lookup_cons, List.lookup_nil, beq_eq_decide, ofStr_eq, String.reduceEq, decide_true, decide_false, Option.map_some] | boot_fact)
    unfold m_place_of b_place_of
    repeat (first | simp only [hat, List.lookup_cons, List.lookup_nil, beq_eq_decide, ofStr_eq, String.reduceEq, decide_true, decide_false, Option.map_some] | boot_fact)
    refine lr _ ?_
    boot_fact
    rw [show clears9D r _ = lvs9 r.x r.st r.ls by unfold clears9D; simp [ofStr_eq]] at q
    first | exact ⟨sz_le (by omega), q⟩ | exact q
  | shr t =>
    unfold m_taken b_taken
    boot_fact
    refine temps0 ?_
    repeat (first | simp only [hat, List.lookup_cons, List.lookup_nil, beq_eq_decide, ofStr_eq, String.reduceEq, decide_true, decide_false, Option.map_some] | boot_fact)
    rw [show clears9D r _ = [] by unfold clears9D; simp [ofStr_eq]] at q
    exact q
  | exc t =>
    unfold m_taken b_taken
    boot_fact
    refine temps0 ?_
    repeat (first | simp only [hat, List.lookup_cons, List.lookup_nil, beq_eq_decide, ofStr_eq, String.reduceEq, decide_true, decide_false, Option.map_some] | boot_fact)
    rw [show clears9D r _ = [] by unfold clears9D; simp [ofStr_eq]] at q
    exact q
  | is t =>
    unfold m_taken b_taken
    boot_fact
    refine temps0 ?_
    repeat (first | simp only [hat, List.lookup_cons, List.lookup_nil, beq_eq_decide, ofStr_eq, String.reduceEq, decide_true, decide_false, Option.map_some] | boot_fact)
    rw [show clears9D r _ = [] by unfold clears9D; simp [ofStr_eq]] at q
    exact q
  | swap t y h1 =>
    unfold m_taken b_taken
    boot_fact
    refine temps0 ?_
    repeat (first | simp only [hat, List.lookup_cons, List.lookup_nil, beq_eq_decide, ofStr_eq, String.reduceEq, decide_true, decide_false, Option.map_some] | boot_fact)
    rw [show clears9D r _ = [] by unfold clears9D; simp [ofStr_eq]] at q
    exact q
  | store y h1 h2 =>
    unfold m_taken b_taken
    boot_fact
    refine temps1 hv hr h1 h2 ?_
    repeat (first | simp only [hat, List.lookup_cons, List.lookup_nil, beq_eq_decide, ofStr_eq, String.reduceEq, decide_true, decide_false, Option.map_some] | boot_fact)
    unfold m_place_of b_place_of
    repeat (first | simp only [hat, List.lookup_cons, List.lookup_nil, beq_eq_decide, ofStr_eq, String.reduceEq, decide_true, decide_false, Option.map_some] | boot_fact)
    refine lr _ ?_
    boot_fact
    rw [show clears9D r _ = lvs9 r.x r.st r.ls by unfold clears9D; simp [ofStr_eq]] at q
    first | exact ⟨sz_le (by omega), q⟩ | exact q
end
section
variable {CG CL : Addr} {gl pl kl at_ : Nat} {b : Bs} {S : Mem} {Q : WM → Prop} {r : Pc} {F i : PyData} {t : Str}
noncomputable def acc9 : PyData → Str
  | .tuple (.str w :: rest) => if w = "copy" ∨ w = "is" then "read" else if w = "move" then "move" else if w = "store" then "store" else if w = "swap" then "write" else
    match rest with
    | _ :: .str m :: _ => if m = "shared" then "read" else "write"
    | _ => "write"
  | _ => "read"
theorem access9 (hv : Vw CG gl pl kl b S) (hG : ∀ g ∈ ps9, kdAt b.ks g.1 = some g.2) (hr : r ∈ tb9) (hx : b.ps[at_]? = some i) (hf : Fm b r i) (q : Q (.d (.tuple [.str (acc9 i), r.pl]), S)) : Ok (k09.m_access CG CL [.d (.tuple [.tuple [], F]), .loc gl, .d (.int (at_ : Int))] S) Q := by
  have hat : atI (b.ps.map W.d) (at_ : Int) = some (.d i) := atI_at' (by rw [List.getElem?_map, hx]; rfl)
  obtain ⟨hc, ⟨fs, a1, a2, a3⟩, h3, h4⟩ := id hv
  unfold k09.m_access k09.b_access
  boot_fact
  simp only [a1]
  boot_fact
  simp only [a2]
  boot_fact
  simp only [h3]
  boot_fact
  simp only [hat]
  boot_fact
  cases hf <;> (
    unfold m_place_of b_place_of
    repeat (first | simp only [hat, List.lookup_cons, List.lookup_nil, beq_eq_decide, ofStr_eq, String.reduceEq, decide_true, decide_false, Option.map_some] | boot_fact)
    simp only [acc9, ofStr_eq, String.reduceEq, or_true, true_or, or_false, false_or, or_self, if_true, if_false, reduceIte] at q
    first | exact q)
end
section
variable {CG CL : Addr} {gl pl kl at_ : Nat} {b : Bs} {S : Mem} {Q : WM → Prop} {r : Pc} {F i : PyData} {t : Str}
noncomputable def moves9D (r : Pc) : PyData → List PyData
  | .tuple (.str w :: .str t :: _) => if w = "copy" ∨ w = "move" then zipD (lvs9 r.x r.st r.ls) (lvs9 t [] r.ls) else if w = "borrow" then (crL9 r).map fun l => .tuple [l, .tuple [.str t, .tuple []]] else []
  | _ => []
theorem moves9 (hv : Vw CG gl pl kl b S) (hG : ∀ g ∈ ps9, kdAt b.ks g.1 = some g.2) (hr : r ∈ tb9) (hx : b.ps[at_]? = some i) (hf : Fm b r i) (q : Q (.d (.tuple (moves9D r i)), S)) : Ok (k09.m_moves CG CL [.d (.tuple [.tuple [], F]), .loc gl, .d (.int (at_ : Int))] S) Q := by
  have hat : atI (b.ps.map W.d) (at_ : Int) = some (.d i) := atI_at' (by rw [List.getElem?_map, hx]; rfl)
  obtain ⟨hc, ⟨fs, a1, a2, a3⟩, h3, h4⟩ := id hv
  unfold k09.m_moves k09.b_moves
  boot_fact
  simp only [a1]
  boot_fact
  simp only [a2]
  boot_fact
  simp only [h3]
  boot_fact
  simp only [hat]
  boot_fact
  have cb := fun (Q : WM → Prop) (q : Q (.d (.tuple (crL9 r)), S)) => crossed_by9 (CL := CL) (F := F) (Q := Q) hv hG hr hf q
  have lr := fun (Q : WM → Prop) (q : Q (.d (.tuple (lvs9 r.x r.st r.ls)), S)) => leaves_row (CL := CL) (F := F) (Q := Q) hv hG hr q
  obtain ⟨l1, l2⟩ := len9 hr
  cases hf with
  | copy t h1 h2 =>
    unfold m_place_of b_place_of
    repeat (first | simp only [hat, List.lookup_cons, List.lookup_nil, beq_eq_decide, ofStr_eq, String.reduceEq, decide_true, decide_false, Option.map_some] | boot_fact)
    unfold k09.m_pairs_between k09.b_pairs_between
    boot_fact
    refine lr _ ?_
    boot_fact
    refine leaves_tmp hv hr h2 ?_
    boot_fact
    simp only [moves9D, ofStr_eq, String.reduceEq, or_self, or_true, true_or, or_false, false_or, if_true, if_false, reduceIte] at q
    exact ⟨by unfold lvs9; rw [List.length_map, List.length_map], q⟩
  | move t h1 h2 =>
    unfold m_place_of b_place_of
    repeat (first | simp only [hat, List.lookup_cons, List.lookup_nil, beq_eq_decide, ofStr_eq, String.reduceEq, decide_true, decide_false, Option.map_some] | boot_fact)
    unfold k09.m_pairs_between k09.b_pairs_between
    boot_fact
    refine lr _ ?_
    boot_fact
    refine leaves_tmp hv hr h2 ?_
    boot_fact
    simp only [moves9D, ofStr_eq, String.reduceEq, or_self, or_true, true_or, or_false, false_or, if_true, if_false, reduceIte] at q
    exact ⟨by unfold lvs9; rw [List.length_map, List.length_map], q⟩
  | shr t =>
    repeat (first | simp only [hat, List.lookup_cons, List.lookup_nil, beq_eq_decide, ofStr_eq, String.reduceEq, decide_true, decide_false, Option.map_some] | boot_fact)
    refine cb _ ?_
    boot_fact
    simp only [moves9D, ofStr_eq, String.reduceEq, or_self, or_true, true_or, or_false, false_or, if_true, if_false, reduceIte] at q
    refine lc_map (fun l => W.d l) (fun l => W.d (.tuple [l, .tuple [.str t, .tuple []]])) (fun l hl R N h => ?_) ?_
    · boot_fact
      exact h
    · have e : ((crL9 r).map fun l => W.d (.tuple [l, .tuple [.str t, .tuple []]])) = ((crL9 r).map fun l => PyData.tuple [l, .tuple [.str t, .tuple []]]).map W.d := by rw [List.map_map]; rfl
      rw [e]
      boot_fact
      rw [dOf_map]
      boot_fact
      exact ⟨sz_le (by rw [List.length_map]; omega), q⟩
  | exc t =>
    repeat (first | simp only [hat, List.lookup_cons, List.lookup_nil, beq_eq_decide, ofStr_eq, String.reduceEq, decide_true, decide_false, Option.map_some] | boot_fact)
    refine cb _ ?_
    boot_fact
    simp only [moves9D, ofStr_eq, String.reduceEq, or_self, or_true, true_or, or_false, false_or, if_true, if_false, reduceIte] at q
    refine lc_map (fun l => W.d l) (fun l => W.d (.tuple [l, .tuple [.str t, .tuple []]])) (fun l hl R N h => ?_) ?_
    · boot_fact
      exact h
    · have e : ((crL9 r).map fun l => W.d (.tuple [l, .tuple [.str t, .tuple []]])) = ((crL9 r).map fun l => PyData.tuple [l, .tuple [.str t, .tuple []]]).map W.d := by rw [List.map_map]; rfl
      rw [e]
      boot_fact
      rw [dOf_map]
      boot_fact
      exact ⟨sz_le (by rw [List.length_map]; omega), q⟩
  | is t =>
    repeat (first | simp only [hat, List.lookup_cons, List.lookup_nil, beq_eq_decide, ofStr_eq, String.reduceEq, decide_true, decide_false, Option.map_some] | boot_fact)
    simp only [moves9D, ofStr_eq, String.reduceEq, or_self, if_false, reduceIte] at q
    exact q
  | swap t y h1 =>
    repeat (first | simp only [hat, List.lookup_cons, List.lookup_nil, beq_eq_decide, ofStr_eq, String.reduceEq, decide_true, decide_false, Option.map_some] | boot_fact)
    simp only [moves9D, ofStr_eq, String.reduceEq, or_self, if_false, reduceIte] at q
    exact q
  | store y h1 h2 =>
    unfold m_place_of b_place_of
    repeat (first | simp only [hat, List.lookup_cons, List.lookup_nil, beq_eq_decide, ofStr_eq, String.reduceEq, decide_true, decide_false, Option.map_some] | boot_fact)
    unfold k09.m_pairs_between k09.b_pairs_between
    boot_fact
    refine leaves_tmp hv hr h2 ?_
    boot_fact
    refine lr _ ?_
    boot_fact
    simp only [moves9D, ofStr_eq, String.reduceEq, or_self, or_true, true_or, or_false, false_or, if_true, if_false, reduceIte] at q
    rw [h1]
    exact ⟨rfl, q⟩
end
section
variable {CG CL : Addr} {gl pl kl at_ : Nat} {b : Bs} {S : Mem} {Q : WM → Prop} {r : Pc} {F i : PyData} {t : Str}
theorem due9 (hv : Vw CG gl pl kl b S) (hr : r ∈ tb9) (hf : Fm b r i) (q : Q (.d (.list [.list (uses9D r i), .list (clears9D r i), .list (moves9D r i), .tuple [.str (acc9 i), r.pl]]), S)) : Ok (k09.m_law_due [.d i, .loc kl] S) Q := by
  have hks := hv.ks
  obtain ⟨l1, l2⟩ := len9 hr
  have hl : r.ls = [] ∨ ∃ l, r.ls = [l] := by
    have := (small9 r hr).2.1
    match h : r.ls, this with
    | [], _ => exact .inl rfl
    | [l], _ => exact .inr ⟨l, rfl⟩
  have n1 : isNonW (W.d .none) = true := rfl
  have n2 : ∀ p, isNonW (W.d (.tuple [.str r.x, .tuple p])) = false := fun _ => rfl
  unfold k09.m_law_due k09.b_law_due
  cases hf with
  | shr t =>
    boot_fact
    refine of_eq9 (law_crossing9 hr) ?_
    cases hc : r.c <;> (
      simp only [uses9D, reads, clears9D, moves9D, acc9, crL9, ofStr_eq, String.reduceEq, or_self, or_true, true_or, or_false, false_or, if_true, if_false, reduceIte, decide_false, decide_true, Bool.or_self, Bool.or_true, Bool.true_or, Bool.or_false, Bool.false_or, Bool.false_eq_true, List.nil_append, hc] at q
      simp only [crD9]
      repeat (first | simp only [n1, n2] | refine of_eq9 (law_kind9 hr) ?_ | refine of_eq9 (law_own9 hr) ?_ | refine of_eq9 (law_tmp9 hr _) ?_ | simp only [hks, valW_kw, Option.map_some] | boot_fact)
      first | exact q | (try simp only [hc, List.map_cons, List.map_nil] at q; first | exact q))
  | exc t =>
    boot_fact
    refine of_eq9 (law_crossing9 hr) ?_
    cases hc : r.c <;> (
      simp only [uses9D, reads, clears9D, moves9D, acc9, crL9, ofStr_eq, String.reduceEq, or_self, or_true, true_or, or_false, false_or, if_true, if_false, reduceIte, decide_false, decide_true, Bool.or_self, Bool.or_true, Bool.true_or, Bool.or_false, Bool.false_or, Bool.false_eq_true, List.nil_append, hc] at q
      simp only [crD9]
      repeat (first | simp only [n1, n2] | refine of_eq9 (law_kind9 hr) ?_ | refine of_eq9 (law_own9 hr) ?_ | refine of_eq9 (law_tmp9 hr _) ?_ | simp only [hks, valW_kw, Option.map_some] | boot_fact)
      first | exact q | (try simp only [hc, List.map_cons, List.map_nil] at q; first | exact q))
  | is t =>
    boot_fact
    refine of_eq9 (law_crossing9 hr) ?_
    cases hc : r.c <;> (
      simp only [uses9D, reads, clears9D, moves9D, acc9, crL9, ofStr_eq, String.reduceEq, or_self, or_true, true_or, or_false, false_or, if_true, if_false, reduceIte, decide_false, decide_true, Bool.or_self, Bool.or_true, Bool.true_or, Bool.or_false, Bool.false_or, Bool.false_eq_true, List.nil_append, hc] at q
      simp only [crD9]
      repeat (first | simp only [n1, n2] | refine of_eq9 (law_kind9 hr) ?_ | refine of_eq9 (law_own9 hr) ?_ | refine of_eq9 (law_tmp9 hr _) ?_ | simp only [hks, valW_kw, Option.map_some] | boot_fact)
      first | exact q | (try simp only [hc, List.map_cons, List.map_nil] at q; first | exact q))
  | swap t y h1 =>
    boot_fact
    refine of_eq9 (law_crossing9 hr) ?_
    cases hc : r.c <;> (
      simp only [uses9D, reads, clears9D, moves9D, acc9, crL9, ofStr_eq, String.reduceEq, or_self, or_true, true_or, or_false, false_or, if_true, if_false, reduceIte, decide_false, decide_true, Bool.or_self, Bool.or_true, Bool.true_or, Bool.or_false, Bool.false_or, Bool.false_eq_true, List.nil_append, hc] at q
      simp only [crD9]
      repeat (first | simp only [n1, n2] | refine of_eq9 (law_kind9 hr) ?_ | refine of_eq9 (law_own9 hr) ?_ | refine of_eq9 (law_tmp9 hr _) ?_ | simp only [hks, valW_kw, Option.map_some] | boot_fact)
      first | exact q | (try simp only [hc, List.map_cons, List.map_nil] at q; first | exact q))
  | store y h1 h2 =>
    boot_fact
    refine of_eq9 (law_crossing9 hr) ?_
    cases hc : r.c <;> (
      simp only [uses9D, reads, clears9D, moves9D, acc9, crL9, ofStr_eq, String.reduceEq, or_self, or_true, true_or, or_false, false_or, if_true, if_false, reduceIte, decide_false, decide_true, Bool.or_self, Bool.or_true, Bool.true_or, Bool.or_false, Bool.false_or, Bool.false_eq_true, List.nil_append, hc] at q
      simp only [crD9]
      repeat (first | simp only [n1, n2] | refine of_eq9 (law_kind9 hr) ?_ | refine of_eq9 (law_own9 hr) ?_ | refine of_eq9 (law_tmp9 hr _) ?_ | simp only [hks, valW_kw, Option.map_some] | boot_fact)
      first | exact q | (try simp only [hc, List.map_cons, List.map_nil] at q; first | exact q))
  | copy t h1 h2 =>
    boot_fact
    refine of_eq9 (law_crossing9 hr) ?_
    rcases hl with hl | ⟨l, hl⟩ <;> cases hc : r.c <;> (
      simp only [uses9D, reads, clears9D, moves9D, acc9, crL9, ofStr_eq, String.reduceEq, or_self, or_true, true_or, or_false, false_or, if_true, if_false, reduceIte, decide_false, decide_true, Bool.or_self, Bool.or_true, Bool.true_or, Bool.or_false, Bool.false_or, Bool.false_eq_true, List.nil_append, hc] at q
      simp only [crD9]
      repeat (first | simp only [n1, n2, h2] | refine of_eq9 (law_kind9 hr) ?_ | refine of_eq9 (law_own9 hr) ?_ | refine of_eq9 (law_tmp9 hr _) ?_ | simp only [hks, valW_kw, Option.map_some] | boot_fact)
      rw [hl] at q ⊢
      simp only [lvs9, List.map_cons, List.map_nil, List.length_cons, List.length_nil, zipD] at q ⊢
      refine ⟨⟨by decide, by decide⟩, ?_⟩
      first
        | (refine lc_map (xs := ([] : List PyData)) (fun z => W.d z) (fun z => W.d z) (fun z hz R N h => by cases hz) ?_
           boot_fact
           exact q)
        | (refine lc_map (xs := [PyData.int 0]) (fun z => W.d z) (fun z => W.d (.tuple [.tuple [.str r.x, .tuple (r.st ++ l)], .tuple [.str t, .tuple ([] ++ l)]])) (fun z hz R N h => ?_) ?_
           · rw [List.mem_singleton.mp hz]
             boot_fact
             exact h
           · boot_fact
             exact q))
  | move t h1 h2 =>
    boot_fact
    refine of_eq9 (law_crossing9 hr) ?_
    rcases hl with hl | ⟨l, hl⟩ <;> cases hc : r.c <;> (
      simp only [uses9D, reads, clears9D, moves9D, acc9, crL9, ofStr_eq, String.reduceEq, or_self, or_true, true_or, or_false, false_or, if_true, if_false, reduceIte, decide_false, decide_true, Bool.or_self, Bool.or_true, Bool.true_or, Bool.or_false, Bool.false_or, Bool.false_eq_true, List.nil_append, hc] at q
      simp only [crD9]
      repeat (first | simp only [n1, n2, h2] | refine of_eq9 (law_kind9 hr) ?_ | refine of_eq9 (law_own9 hr) ?_ | refine of_eq9 (law_tmp9 hr _) ?_ | simp only [hks, valW_kw, Option.map_some] | boot_fact)
      rw [hl] at q ⊢
      simp only [lvs9, List.map_cons, List.map_nil, List.length_cons, List.length_nil, zipD] at q ⊢
      refine ⟨⟨by decide, by decide⟩, ?_⟩
      first
        | (refine lc_map (xs := ([] : List PyData)) (fun z => W.d z) (fun z => W.d z) (fun z hz R N h => by cases hz) ?_
           boot_fact
           exact q)
        | (refine lc_map (xs := [PyData.int 0]) (fun z => W.d z) (fun z => W.d (.tuple [.tuple [.str r.x, .tuple (r.st ++ l)], .tuple [.str t, .tuple ([] ++ l)]])) (fun z hz R N h => ?_) ?_
           · rw [List.mem_singleton.mp hz]
             boot_fact
             exact h
           · boot_fact
             exact q))
end
end raw
namespace raw
open PySem L2 Pd fam
set_option hygiene false in
local macro_rules | `(tactic| boot_fact) => `(tactic| simp only [k_some, k_seq, k_seq_nx, k_seq_rt, k_seq_bk, k_seq_ct, k_sif, k_if_t, k_if_f, k_ret, k_ret_, k_drop, k_drop_, k_asg, k_asg_, k_st_, k_nx, k_brk, k_ct, k_for, k_for_, k_gN, k_gTup, k_gsC, k_gs_, k_gsN, k_gIx, k_gi1_, k_gi2_, k_g3_, k_g4_, k_var, k_V_, k_c, k_op, k_op1_, k_op2_, k_un, k_un_, k_eB, k_B_, k_and, k_and_t, k_and_f, k_or, k_or_t, k_or_f, k_not, k_not_, k_eT, k_T_, k_andV, k_andV_t, k_andV_f, k_orV, k_orV_t, k_orV_f, k_notV, k_notV_, k_eIf, k_eIf_t, k_eIf_f, k_aN, k_aC, k_cs1_, k_cs2_, k_call, k_call_, k_tup, k_lstF, k_lstL, k_callK, k_callKw, k_kw1_, k_kw2_, k_dfn, k_def_nx, k_def_rt, k_finF, k_finT, k_sl, k_ix1_, k_ix2_, k_ix3_, k_pN, k_pS, k_pS_, k_iT, k_iL, k_iR, k_it_T, k_it_L, k_it_Ls, k_it_Ll, k_il_, k_it_R, k_it_Rt, k_it_Rl, k_ir_, k_r1, k_r2, k_rng, k_r1_, k_r2_, k_e, k_e_, k_lc, k_lc1_, k_lc2_, k_yes, k_all, k_all1_, k_all2_, k_bm, k_bm1l, k_bml_, k_bm2_, k_app, k_app_, k_ext, k_ext_, k_pop, k_pop_, k_rev, k_rev_, k_ins, k_ins_, k_mkT, k_mkT_, k_mkF, k_mkF_, k_mkL, k_add, k_addS, k_addT, k_addL, k_addLL, k_sub, k_lt, k_le, k_gt, k_ge, k_mul, k_div, k_mod, k_pow, k_neg, k_eqI, k_eqS, k_eqB, k_eqIS, k_eqSI, k_eqT, k_isN, k_isBl, k_ixT, k_ixL, k_ixl, k_ix_, k_iW_, k_iL_, k_lenT, k_lenL, k_lenl, k_lenl_, k_tupl, k_tupl_, k_tupl0, k_lstFl, k_lstFl_, k_lstLl, k_lstLl_, k_slLl, k_slLl_, k_slFl, k_tupT, k_tupL, k_lstFT, k_lstFL, k_lstLT, k_lstLL, k_lstLs, k_abs, k_int, k_intB, k_str, k_slT, k_slLs, k_slL, k_is, k_is_iT, k_is_iB, k_is_b, k_is_s, k_isT, k_isS, k_isT_t, k_isT_i, k_isT_b, k_isT_s, k_isT_n, k_isS_s, k_isS_i, k_isS_b, k_isS_t, k_isL, k_isL_, k_isL2, k_turn_nx, k_turn_ct, k_turn_bk, k_turn_rt, k_g_, k_lg_, k_lt_t, k_lt_f, k_Y_, k_inT, k_inL, k_fld, k_fl_, k_fl2, k_fldput, k_fp1_, k_fp2_, k_fpO, k_fldaug_, k_fa2_, k_faO, k_meth, k_m_, k_mO, k_ms_, k_make, k_mk_, k_mk2_, k_dnew, k_dget, k_dg_, k_dg1_, k_dg2s, k_dg2i, k_din, k_di_, k_di1_, k_di2s, k_dput, k_dp1_, k_dp2_, k_dp3_, k_dpOs, k_dpOi, k_disp, k_ps_, k_psN, k_pC, k_pc1s, k_pc2_, k_pc3_, k_ixc, k_ixc_, k_lstRev, k_lr_, k_sum, k_max, k_ixS, k_iS_, k_iS, k_it_ST, k_it_SL, k_it_Sl, k_chain, k_ch1_, k_ch2_, k_ch3t, k_ch3f, k_ch4_, k_lenXL, k_lenXT, k_lenXl, k_lenXS, k_mm0, k_mm1, k_mm2, k_mm3, k_mm4, k_mmR, k_ms0, k_ms2, k_ms3, k_ms4, k_msR, k_mlen, k_mapp, k_msn, k_ml1, k_ml2, k_ml3, k_ml4, k_mn1, k_mn2, k_mn3, k_mn4, k_mn5, k_mn6, k_mn7, k_mn8, k_mn9, k_mna, k_mnb, k_mg1, k_mg2, k_mg3, k_mg4, k_mp1, k_mp2, k_mkl, k_mdp, k_mdl, k_inC, k_ic_, k_ic_t, k_ic_f, k_bDict, k_bDict_, k_bLenD, k_bLenD_, k_isD, k_isD_, k_isD2, k_ninC, k_ni_, k_ni_t, k_ni_f, k_lcc, k_lcc_, k_l2r_, k_l2m_, k_l2t_t, k_l2t_f, k_l2_, k_isLd, k_isLd_, k_zip, k_zp_, k_tzip, k_tz_, k_extT, k_extT_, k_keys, k_it_K, k_ilK_, k_dgetR, k_dgR_, k_dgR1_, k_dgR2d, k_dgR2l, k_enl, k_el_, k_en_, k_di2i, List.getElem?_cons_zero, List.getElem?_cons_succ, List.set_cons_zero, List.set_cons_succ, List.map_cons, List.map_nil, List.replicate_succ, List.replicate_zero, List.cons_append, List.nil_append, List.length_cons, List.length_nil, dOf_c, dOf_nil, Option.map_some, Option.map_none, atI_0, atI_1, atI_2, atI_3, atI_4, atI_5, atI_6, ixN_0, ixN_1, ixN_2, ixN_3, ixN_4, ixN_5, ixN_6, Bool.not_true, Bool.not_false, Bool.or_true, Bool.true_or, Bool.or_false, Bool.false_or, Bool.and_true, Bool.true_and, Bool.and_false, Bool.false_and, if_true, if_false, Bool.false_eq_true, decide_true, decide_false, true_and, and_true, ofStr_eq, wipeE, eq_self, cutT, and_self, Bool.or_self, Bool.and_self, ite_true, ite_false, get_e0, get_e1, get_e2, set_e0, set_e1, set_e2, take_e, List.length_append, List.append_assoc, sz_l0, sz_l1, sz_l2, sz_l3, sz_l4, sz_l5, sz_l6, sz_l7, sz_l8, sz_l9, sz_l10, sz_l11, sz_l12, sz_l13, sz_k0, sz_k1, sz_k2, sz_k3, sz_k4, sz_k5, sz_k6, sz_k7, sz_k8, sz_k9, sz_k10, sz_k11, sz_k12, sz_k13, List.all_cons, List.all_nil, List.any_cons, List.any_nil, flat_s, flat_i, eqv_str, eqv_int, eqv_is, eqv_si, reduceIte, Nat.reduceAdd, Nat.reduceEqDiff, Nat.reduceLT, Int.reduceAdd, Int.reduceSub, Int.reduceLT, Int.reduceLE, Int.reduceEq, String.reduceEq, reduceCtorEq, Nat.reduceLeDiff, Nat.zero_le])
noncomputable def dwV (q : PyData × PyData × PyData) : W := .d (.tuple [q.1, q.2.1])
noncomputable def dwK (O : Nat → Option (PyData × PyData × PyData)) (n : Nat) : KW := (List.range n).filterMap fun i => (O i).map fun q => (Sum.inl (i : Int), dwV q)
variable {O : Nat → Option (PyData × PyData × PyData)}
theorem dw_none {n : Nat} (h : O n = none) : dwK O (n + 1) = dwK O n := by
  unfold dwK
  rw [List.range_succ, List.filterMap_append]
  simp [h]
theorem dw_some {n : Nat} {q : PyData × PyData × PyData} (h : O n = some q) : dwK O (n + 1) = dwK O n ++ [(Sum.inl (n : Int), dwV q)] := by
  unfold dwK
  rw [List.range_succ, List.filterMap_append]
  simp [h]
theorem dw_len {n : Nat} : (dwK O n).length ≤ n := by
  have := List.length_filterMap_le (fun i => (O i).map fun q => ((Sum.inl (i : Int) : Key), dwV q)) (List.range n)
  rwa [List.length_range] at this
theorem dw_key {n : Nat} {kv : Key × W} (h : kv ∈ dwK O n) : ∃ i, i < n ∧ kv.1 = Sum.inl (i : Int) ∧ ∃ d, kv.2 = .d d := by
  obtain ⟨i, hi, e⟩ := List.mem_filterMap.mp h
  obtain ⟨q, _, rfl⟩ := Option.map_eq_some_iff.mp e
  exact ⟨i, List.mem_range.mp hi, rfl, _, rfl⟩
theorem dw_put {n : Nat} {q : PyData × PyData × PyData} (h : O n = some q) : putD (dwK O n) (Sum.inl (n : Int)) (dwV q) = dwK O (n + 1) := by
  unfold putD
  rw [if_neg ?_, dw_some h]
  intro h
  obtain ⟨kv, hk, e⟩ := List.any_eq_true.mp h
  obtain ⟨i, hi, e2, _⟩ := dw_key hk
  have e := of_decide_eq_true e
  rw [e2] at e
  injection e with e
  omega
theorem dw_val : ∀ {n i : Nat}, valW (dwK O n) (Sum.inl (i : Int)) = if i < n then (O i).map dwV else none
  | 0, i => by rw [if_neg (Nat.not_lt_zero _)]; rfl
  | n + 1, i => by
    have ih := dw_val (n := n) (i := i)
    cases h : O n with
    | none =>
      rw [dw_none h, ih]
      by_cases h1 : i < n
      · rw [if_pos h1, if_pos (by omega)]
      · rw [if_neg h1]
        by_cases h2 : i < n + 1
        · have : i = n := by omega
          subst this
          rw [if_pos h2, h]; rfl
        · rw [if_neg h2]
    | some q =>
      rw [dw_some h]
      unfold valW at ih ⊢
      rw [List.find?_append]
      by_cases h1 : i < n
      · rw [if_pos h1] at ih
        rw [if_pos (by omega), ← ih]
        cases h3 : List.find? (fun kv => decide (kv.1 = (Sum.inl (i : Int) : Key))) (dwK O n) with
        | some kv => rfl
        | none =>
          have hne : (n : Int) ≠ (i : Int) := by omega
          simp [hne]
      · rw [if_neg h1] at ih
        have h3 : List.find? (fun kv => decide (kv.1 = (Sum.inl (i : Int) : Key))) (dwK O n) = none := Option.map_eq_none_iff.mp ih
        rw [h3]
        by_cases h2 : i < n + 1
        · have : i = n := by omega
          subst this
          rw [if_pos h2, h]
          simp
        · have hne : (n : Int) ≠ (i : Int) := by omega
          rw [if_neg h2]
          simp [hne]
theorem dw_nl {n : Nat} : Nl [.dct (dwK O n)] := fun o ho => by
  rw [List.mem_singleton.mp ho]
  refine List.all_eq_true.mpr fun kv hk => ?_
  obtain ⟨_, _, _, d, e⟩ := dw_key hk
  rw [e]; rfl
section
variable {CG CL : Addr} {gl pl kl at_ : Nat} {b : Bs} {S : Mem} {Q : WM → Prop} {r : Pc} {F i : PyData} {t : Str}
theorem right9 {xs : List PyData} (hn : xs.length ≤ 4) (hs : SeqAt.shaped (.tuple xs) = true) (hx : ∀ x ∈ xs, SeqAt.shaped x = true ∧ x.canLay0 = true) (q : Q (.d (.bool true), S)) : Ok (k09.m_law_right [.d (.tuple xs), .d (.list xs)] S) Q := by
  unfold k09.m_law_right k09.b_law_right
  boot_fact
  refine lc_filter (xs := xs) W.d W.d (fun _ => false) (fun a ha R N h1 h2 => ?_) ?_
  · boot_fact
    refine (k_inU (n := true)).mpr ⟨⟨(hx a ha).1, hs⟩, ?_⟩
    have e : (xs.any fun z => PyData.eqv z a) = true := List.any_eq_true.mpr ⟨a, ha, SeqAt.eqv_refl a (hx a ha).2⟩
    rw [e]
    boot_fact
    exact h2 rfl
  · rw [List.filter_eq_nil_iff.mpr (fun _ _ => Bool.false_ne_true)]
    boot_fact
    exact q
noncomputable def lend9 (r : Pc) : Bool := match r.c with
  | some [] => false
  | _ => true
theorem cross9k (hr : r ∈ tb9) {p : List PyData} (hp : r.c = some p) : ∃ r' ∈ tb9, Pc.pl r' = .tuple [.str r.x, .tuple p] ∧ ∃ h rest, r'.k.d = .tuple (.str h :: rest) ∧ decide (h = "exclusive") = lend9 r ∧ decide (h = "shared") = !lend9 r := by
  simp only [tb9, List.mem_cons, List.not_mem_nil, or_false] at hr
  have m1 : tb9[1] ∈ tb9 := List.getElem_mem (by decide)
  have m5 : tb9[5] ∈ tb9 := List.getElem_mem (by decide)
  have m12 : tb9[12] ∈ tb9 := List.getElem_mem (by decide)
  rcases hr with rfl | rfl | rfl | rfl | rfl | rfl | rfl | rfl | rfl | rfl | rfl | rfl | rfl | rfl | rfl | rfl | rfl <;> first
    | (cases hp; done)
    | (cases hp; exact ⟨_, m1, rfl, _, _, rfl, rfl, rfl⟩)
    | (cases hp; exact ⟨_, m5, rfl, _, _, rfl, rfl, rfl⟩)
    | (cases hp; exact ⟨_, m12, rfl, _, _, rfl, rfl, rfl⟩)
theorem makes9 (hv : Vw CG gl pl kl b S) (hG : ∀ g ∈ ps9, kdAt b.ks g.1 = some g.2) (hr : r ∈ tb9) {m : PyData} (q : Q (.d (.bool (lend9 r)), S)) : Ok (m_makes_loan CG CL [.d (.tuple [.tuple [], F]), .loc gl, .d (.tuple [.str "borrow", .str t, m, r.pl])] S) Q := by
  obtain ⟨hc, ⟨fs, a1, a2, a3⟩, h3, h4⟩ := id hv
  unfold m_makes_loan b_makes_loan
  boot_fact
  simp only [a1]
  boot_fact
  simp only [a3]
  boot_fact
  refine crossed9 hr hc h4 hG ?_
  cases hcc : r.c with
  | none =>
    rw [show lend9 r = true by unfold lend9; rw [hcc]] at q
    simp only [crD9]
    boot_fact
    rw [show isNonW (W.d .none) = true from rfl]
    boot_fact
    exact q
  | some p =>
    obtain ⟨r', hr', e, h, rest, ek, e1, e2⟩ := cross9k hr hcc
    simp only [crD9]
    boot_fact
    rw [show isNonW (W.d (.tuple [.str r.x, .tuple p])) = false from rfl]
    boot_fact
    simp only [a1]
    boot_fact
    simp only [a3]
    boot_fact
    rw [← e]
    refine along9 hr' hc h4 hG ?_
    rw [ek]
    boot_fact
    rw [e1]
    exact q
theorem no_loan9 {w : Str} {rest : List PyData} (hw : w ≠ "borrow") (q : Q (.d (.bool false), S)) : Ok (m_makes_loan CG CL [.d (.tuple [.tuple [], F]), .loc gl, .d (.tuple (.str w :: rest))] S) Q := by
  unfold m_makes_loan b_makes_loan
  boot_fact
  rw [decide_eq_false hw]
  boot_fact
  exact q
inductive Pt (b : Bs) : PyData → Prop
  | fm {r : Pc} {i : PyData} : r ∈ tb9 → Fm b r i → (∀ w t rest, i = .tuple (.str w :: .str t :: rest) → PyData.strOk t = true) → Pt b i
  | no (w : Str) (rest : List PyData) : w ≠ "copy" → w ≠ "move" → w ≠ "borrow" → w ≠ "is" → w ≠ "swap" → w ≠ "store" → Pt b (.tuple (.str w :: rest))
theorem pt9 {i : PyData} (h : In3 T9 U9 b i) : Pt b i := by
  cases h with
  | drop x k h => exact .no "drop" _ (by decide) (by decide) (by decide) (by decide) (by decide) (by decide)
  | leave x k h => exact .no "leave" _ (by decide) (by decide) (by decide) (by decide) (by decide) (by decide)
  | let_ x y k h1 h2 => exact .no "let" _ (by decide) (by decide) (by decide) (by decide) (by decide) (by decide)
  | stop => exact .no "stop" _ (by decide) (by decide) (by decide) (by decide) (by decide) (by decide)
  | store pl x k h1 h2 =>
    obtain ⟨r, hr, rfl, rfl, hl⟩ := h1
    exact .fm hr (.store x hl h2.1) (fun w t rest e => by unfold Pc.pl at e; cases e)
  | of t ns h1 h2 h3 h4 =>
    cases h1 with
    | int => exact .no "set" _ (by decide) (by decide) (by decide) (by decide) (by decide) (by decide)
    | unit => exact .no "set" _ (by decide) (by decide) (by decide) (by decide) (by decide) (by decide)
    | tup a b => exact .no "make" _ (by decide) (by decide) (by decide) (by decide) (by decide) (by decide)
    | some a => exact .no "make" _ (by decide) (by decide) (by decide) (by decide) (by decide) (by decide)
    | box a => exact .no "make" _ (by decide) (by decide) (by decide) (by decide) (by decide) (by decide)
    | use r hr =>
      cases hcp : r.cp with
      | true => exact .fm hr (by rw [if_pos rfl]; exact .copy _ hcp h3.1) (fun w u rest e => by cases e; exact tmp_so _)
      | false => exact .fm hr (by rw [if_neg Bool.false_ne_true]; exact .move _ hcp h3.1) (fun w u rest e => by cases e; exact tmp_so _)
    | shr r hr => exact .fm hr (.shr _) (fun w u rest e => by cases e; exact tmp_so _)
    | exc r hr => exact .fm hr (.exc _) (fun w u rest e => by cases e; exact tmp_so _)
    | is r hr => exact .fm hr (.is _) (fun w u rest e => by cases e; exact tmp_so _)
    | swap r a hr hl =>
      obtain ⟨x, rfl⟩ := ns1 h2
      exact .fm hr (.swap _ x hl) (fun w u rest e => by cases e; exact tmp_so _)
end
noncomputable def lendP : PyData → Bool
  | .tuple [.str x, .tuple st] => !(decide (x = "q") && !st.isEmpty)
  | _ => true
theorem lendP_pl : ∀ r ∈ tb9, lendP r.pl = lend9 r := by decide +kernel
noncomputable def loanD : PyData → Option (PyData × PyData × PyData)
  | .tuple [.str w, _, m, pl] => if w = "borrow" ∧ lendP pl = true then some (m, pl, .none) else none
  | _ => none
theorem loanD_no {w : Str} {rest : List PyData} (hw : w ≠ "borrow") : loanD (.tuple (.str w :: rest)) = none := by
  unfold loanD
  split
  · rename_i h
    cases h
    rw [if_neg (fun h => hw h.1)]
  · rfl
theorem loanD_b {t m : PyData} {r : Pc} (hr : r ∈ tb9) : loanD (.tuple [.str "borrow", t, m, r.pl]) = if lend9 r = true then some (m, r.pl, .none) else none := by
  rw [← lendP_pl r hr]
  show (if (("borrow" : Str) = "borrow" ∧ lendP r.pl = true) then some (m, r.pl, PyData.none) else none) = _
  simp only [true_and]
noncomputable def O9 (b : Bs) (i : Nat) : Option (PyData × PyData × PyData) := b.ps[i]?.bind loanD
noncomputable def shd (xs : List PyData) : Bool := decide (xs.length ≤ 4) && (SeqAt.shaped (.tuple xs) && xs.all fun x => SeqAt.shaped x && x.canLay0)
theorem right9' {xs : List PyData} {S : Mem} {Q : WM → Prop} (h : shd xs = true) (q : Q (.d (.bool true), S)) : Ok (k09.m_law_right [.d (.tuple xs), .d (.list xs)] S) Q := by
  unfold shd at h
  rw [Bool.and_eq_true, Bool.and_eq_true] at h
  refine right9 (of_decide_eq_true h.1) h.2.1 (fun x hx => ?_) q
  have := List.all_eq_true.mp h.2.2 x hx
  rwa [Bool.and_eq_true] at this
theorem shd_us : ∀ r ∈ tb9, shd (lvs9 r.x r.st r.ls ++ crL9 r) = true ∧ shd (crL9 r) = true ∧ shd (lvs9 r.x r.st r.ls) = true ∧ shd [] = true := by decide +kernel
theorem shd_uses {r : Pc} (hr : r ∈ tb9) (i : PyData) : shd (uses9D r i) = true := by
  unfold uses9D
  split
  · exact (shd_us r hr).1
  · exact (shd_us r hr).2.1
theorem shd_clears {r : Pc} (hr : r ∈ tb9) (i : PyData) : shd (clears9D r i) = true := by
  unfold clears9D
  first
    | (repeat' split) <;> first | exact (shd_us r hr).2.2.1 | exact (shd_us r hr).2.2.2

theorem shd_moves {b : Bs} {r : Pc} {i : PyData} (hr : r ∈ tb9) (hf : Fm b r i) (hs : ∀ w t rest, i = .tuple (.str w :: .str t :: rest) → PyData.strOk t = true) : shd (moves9D r i) = true := by
  have p1 : PyData.strOk "p" = true := by decide +kernel
  have p2 : PyData.strOk "q" = true := by decide +kernel
  have p3 : PyData.strOk "m" = true := by decide +kernel
  have p4 : PyData.strOk "s" = true := by decide +kernel
  have p5 : PyData.strOk "?" = true := by decide +kernel
  have p6 : PyData.strOk "^" = true := by decide +kernel
  have i0 : PyData.canLay0 (.int 0) = true := by decide +kernel
  have hnil : shd [] = true := (shd_us r hr).2.2.2
  cases hf with
  | is t => simp only [moves9D, ofStr_eq, String.reduceEq, or_self, if_false, reduceIte]; exact hnil
  | swap t y h => simp only [moves9D, ofStr_eq, String.reduceEq, or_self, if_false, reduceIte]; exact hnil
  | store y h h2 =>
    have : moves9D r (.tuple [.str "store", r.pl, .str y]) = [] := by unfold moves9D Pc.pl; rfl
    rw [this]; exact hnil
  | shr t =>
    have ht := hs _ _ _ rfl
    simp only [moves9D, ofStr_eq, String.reduceEq, or_self, if_false, if_true, reduceIte]
    simp only [tb9, List.mem_cons, List.not_mem_nil, or_false] at hr
    clear hs hnil
    rcases hr with rfl | rfl | rfl | rfl | rfl | rfl | rfl | rfl | rfl | rfl | rfl | rfl | rfl | rfl | rfl | rfl | rfl <;>
      simp [crL9, shd, SeqAt.shaped, PyData.canLay0, PyData.canLayAll0, PyData.depth, PyData.depthAll, p1, p2, p3, p4, p5, p6, ht]
  | exc t =>
    have ht := hs _ _ _ rfl
    simp only [moves9D, ofStr_eq, String.reduceEq, or_self, if_false, if_true, reduceIte]
    simp only [tb9, List.mem_cons, List.not_mem_nil, or_false] at hr
    clear hs hnil
    rcases hr with rfl | rfl | rfl | rfl | rfl | rfl | rfl | rfl | rfl | rfl | rfl | rfl | rfl | rfl | rfl | rfl | rfl <;>
      simp [crL9, shd, SeqAt.shaped, PyData.canLay0, PyData.canLayAll0, PyData.depth, PyData.depthAll, p1, p2, p3, p4, p5, p6, ht]
  | copy t h1 h2 =>
    have ht := hs _ _ _ rfl
    simp only [moves9D, ofStr_eq, String.reduceEq, or_self, or_true, true_or, or_false, false_or, if_true, if_false, reduceIte]
    simp only [tb9, List.mem_cons, List.not_mem_nil, or_false] at hr
    clear hs hnil h2
    rcases hr with rfl | rfl | rfl | rfl | rfl | rfl | rfl | rfl | rfl | rfl | rfl | rfl | rfl | rfl | rfl | rfl | rfl <;>
      simp [lvs9, zipD, shd, SeqAt.shaped, PyData.canLay0, PyData.canLayAll0, PyData.depth, PyData.depthAll, p1, p2, p3, p4, p5, p6, ht]
  | move t h1 h2 =>
    have ht := hs _ _ _ rfl
    simp only [moves9D, ofStr_eq, String.reduceEq, or_self, or_true, true_or, or_false, false_or, if_true, if_false, reduceIte]
    simp only [tb9, List.mem_cons, List.not_mem_nil, or_false] at hr
    clear hs hnil h2
    rcases hr with rfl | rfl | rfl | rfl | rfl | rfl | rfl | rfl | rfl | rfl | rfl | rfl | rfl | rfl | rfl | rfl | rfl <;>
      simp [lvs9, zipD, shd, SeqAt.shaped, PyData.canLay0, PyData.canLayAll0, PyData.depth, PyData.depthAll, p1, p2, p3, p4, p5, p6, ht]
section
variable {CG CL : Addr} {gl pl kl : Nat} {b : Bs} {Q : WM → Prop} {F : PyData}
theorem loans9 {N : Mem} (hp : ∀ i ∈ b.ps, Pt b i) (hG : ∀ g ∈ ps9, kdAt b.ks g.1 = some g.2) (hlen : b.ps.length ≤ 15000000) (hv : Vw CG gl pl kl b N) (q : Q (.loc N.length, N ++ [.dct (dwK (O9 b) b.ps.length)])) : Ok (k09.m_loans CG CL [.d (.tuple [.tuple [], F]), .loc gl] N) Q := by
  obtain ⟨hcl, ⟨fs, a1, a2, a3⟩, p3, p4⟩ := id hv
  have A1 : ∀ o, (N ++ [o])[gl]? = some (.ins CG fs) := fun o => low_get a1
  have A3 : ∀ o, (N ++ [o])[pl]? = some (.lst (b.ps.map .d)) := fun o => low_get p3
  have A4 : ∀ o, (N ++ [o])[kl]? = some (.dct (kwOf b.ks)) := fun o => low_get p4
  unfold k09.m_loans k09.b_loans
  repeat (first | simp only [A1, a2, A3] | boot_fact)
  refine for_enl (ds := b.ps) (fun i ρ S => S = N ++ [.dct (dwK (O9 b) i)] ∧ ∃ x3 x4, ρ = [some (.d (.tuple [.tuple [], F])), some (.loc gl), some (.loc N.length), x3, x4]) ⟨rfl, _, _, rfl⟩ (A3 _) (fun i ρ S h => by rw [h.1]; exact A3 _) ?_ ?_
  · rintro i d ρ S hd ⟨rfl, x3, x4, rfl⟩
    have hi := (List.getElem?_eq_some_iff.mp hd).1
    have hV : Vw CG gl pl kl b (N ++ [.dct (dwK (O9 b) i)]) := ⟨fam.Cl.nl hcl dw_nl, ⟨fs, A1 _, a2, a3⟩, A3 _, A4 _⟩
    have hO : O9 b i = loanD d := by unfold O9; rw [hd]; rfl
    boot_fact
    cases hp d (List.mem_of_getElem? hd) with
    | no w rest h1 h2 h3 h4 h5 h6 =>
      rw [loanD_no h3] at hO
      refine no_loan9 h3 ?_
      boot_fact
      exact ⟨by rw [dw_none hO], _, _, rfl⟩
    | fm hr hf hs =>
      cases hf with
      | copy t h1 h2 =>
        rw [loanD_no (by decide)] at hO
        refine no_loan9 (by decide) ?_
        boot_fact
        exact ⟨by rw [dw_none hO], _, _, rfl⟩
      | move t h1 h2 =>
        rw [loanD_no (by decide)] at hO
        refine no_loan9 (by decide) ?_
        boot_fact
        exact ⟨by rw [dw_none hO], _, _, rfl⟩
      | is t =>
        rw [loanD_no (by decide)] at hO
        refine no_loan9 (by decide) ?_
        boot_fact
        exact ⟨by rw [dw_none hO], _, _, rfl⟩
      | swap t y h =>
        rw [loanD_no (by decide)] at hO
        refine no_loan9 (by decide) ?_
        boot_fact
        exact ⟨by rw [dw_none hO], _, _, rfl⟩
      | store y h h2 =>
        rw [loanD_no (by decide)] at hO
        refine no_loan9 (by decide) ?_
        boot_fact
        exact ⟨by rw [dw_none hO], _, _, rfl⟩
      | shr t =>
        rw [loanD_b hr] at hO
        refine makes9 hV hG hr ?_
        cases hl : lend9 _ with
        | false =>
          rw [hl] at hO
          boot_fact
          exact ⟨by rw [dw_none hO], _, _, rfl⟩
        | true =>
          rw [hl, if_pos rfl] at hO
          boot_fact
          have := dw_len (O := O9 b) (n := i)
          refine ⟨sz_lt (by omega), ?_⟩
          rw [show W.d (.tuple [PyData.str "shared", _]) = dwV (PyData.str "shared", _, PyData.none) from rfl, dw_put hO]
          exact ⟨rfl, _, _, rfl⟩
      | exc t =>
        rw [loanD_b hr] at hO
        refine makes9 hV hG hr ?_
        cases hl : lend9 _ with
        | false =>
          rw [hl] at hO
          boot_fact
          exact ⟨by rw [dw_none hO], _, _, rfl⟩
        | true =>
          rw [hl, if_pos rfl] at hO
          boot_fact
          have := dw_len (O := O9 b) (n := i)
          refine ⟨sz_lt (by omega), ?_⟩
          rw [show W.d (.tuple [PyData.str "exclusive", _]) = dwV (PyData.str "exclusive", _, PyData.none) from rfl, dw_put hO]
          exact ⟨rfl, _, _, rfl⟩
  · rintro ρ S ⟨rfl, x3, x4, rfl⟩
    boot_fact
    exact q
end
theorem cl9 {nums : List Int} {a t : Int} : Cl (TS9 nums a t []) := by
  unfold TS9
  have h : List.all (nums.map fun n => W.d (.int n)) (fun w => wLt 2 w) = true := List.all_eq_true.mpr fun w hw => by
    obtain ⟨n, _, rfl⟩ := List.mem_map.mp hw
    rfl
  show (List.all (nums.map fun n => W.d (.int n)) (wLt 2) && (true && true)) = true
  rw [show List.all (nums.map fun n => W.d (.int n)) (wLt 2) = true from h]
  rfl
section
variable {CG CL : Addr} {gl pl kl at_ : Nat} {b : Bs} {S : Mem} {Q : WM → Prop} {i : PyData}
theorem due_no {w : Str} {rest : List PyData} (h1 : w ≠ "copy") (h2 : w ≠ "move") (h3 : w ≠ "borrow") (h4 : w ≠ "is") (h5 : w ≠ "swap") (h6 : w ≠ "store") (q : Q (.d .none, S)) : Ok (k09.m_law_due [.d (.tuple (.str w :: rest)), .loc kl] S) Q := by
  unfold k09.m_law_due k09.b_law_due
  boot_fact
  simp only [decide_eq_false h1, decide_eq_false h2, decide_eq_false h3, decide_eq_false h4, decide_eq_false h5, decide_eq_false h6, decide_eq_false (fun e => h1 (Eq.symm e)), decide_eq_false (fun e => h2 (Eq.symm e)), decide_eq_false (fun e => h3 (Eq.symm e)), decide_eq_false (fun e => h4 (Eq.symm e)), decide_eq_false (fun e => h5 (Eq.symm e)), decide_eq_false (fun e => h6 (Eq.symm e))]
  boot_fact
  exact q
end
theorem sacc9 : ∀ r ∈ tb9, ∀ m ∈ (["read", "write", "move", "store"] : List Str), SeqAt.shaped (.tuple [.str m, r.pl]) = true := by decide +kernel
theorem acc9_in {b : Bs} {r : Pc} {i : PyData} (hf : Fm b r i) : acc9 i ∈ (["read", "write", "move", "store"] : List Str) := by
  cases hf <;> simp [acc9, ofStr_eq]
theorem slent9 : ∀ r ∈ tb9, ∀ m ∈ (["shared", "exclusive"] : List Str), (PyData.tuple [.str m, r.pl]).canLay0 = true ∧ (PyData.tuple [.str m, r.pl]).depth ≤ 30 := by decide +kernel
theorem lent9 {b : Bs} (hp : ∀ i ∈ b.ps, Pt b i) {i : Nat} {q : PyData × PyData × PyData} (h : O9 b i = some q) : (PyData.tuple [q.1, q.2.1]).canLay0 = true ∧ (PyData.tuple [q.1, q.2.1]).depth ≤ 30 := by
  unfold O9 at h
  obtain ⟨I, hI, h⟩ := Option.bind_eq_some_iff.mp h
  cases hp I (List.mem_of_getElem? hI) with
  | no w rest h1 h2 h3 h4 h5 h6 => rw [loanD_no h3] at h; cases h
  | fm hr hf hs =>
    cases hf with
    | copy t h1 h2 => rw [loanD_no (by decide)] at h; cases h
    | move t h1 h2 => rw [loanD_no (by decide)] at h; cases h
    | is t => rw [loanD_no (by decide)] at h; cases h
    | swap t y h1 => rw [loanD_no (by decide)] at h; cases h
    | store y h1 h2 => rw [loanD_no (by decide)] at h; cases h
    | shr t =>
      rw [loanD_b hr] at h
      split at h
      · cases h; exact slent9 _ hr _ (by simp)
      · cases h
    | exc t =>
      rw [loanD_b hr] at h
      split at h
      · cases h; exact slent9 _ hr _ (by simp)
      · cases h
theorem same9 {b : Bs} (hp : ∀ i ∈ b.ps, Pt b i) {n : Nat} : SameD (dwK (O9 b) n) (dwK (O9 b) n) := by
  refine ⟨rfl, fun p h => ?_⟩
  obtain ⟨i, hi, e⟩ := List.mem_filterMap.mp h
  obtain ⟨q, e1, rfl⟩ := Option.map_eq_some_iff.mp e
  refine ⟨.tuple [q.1, q.2.1], rfl, ?_, lent9 hp e1⟩
  rw [dw_val, if_pos (List.mem_range.mp hi), e1]
  rfl
theorem eqDct9 {S : Mem} {n m : Nat} {ks ls : KW} {Q : WM → Prop} (h1 : S[n]? = some (.dct ks)) (h2 : S[m]? = some (.dct ls)) (h : SameD ks ls) (q : Q (.d (.bool true), S)) : Ok (oEqDct (.loc n) (.loc m) S) Q := by
  have e1 : dctAt (.loc n) S = some (n, ks) := by unfold dctAt; simp [h1]
  have e2 : dctAt (.loc m) S = some (m, ls) := by unfold dctAt; simp [h2]
  refine of_eq9 ?_ q
  unfold oEqDct
  rw [e1]; simp only [Option.bind_some, e2]
  rw [if_pos h]
theorem law_ok9 (CG CL : Addr) (ns : List Int) : ∃ S', k09.m_law CG CL [.d (.dict [(.none, .list (ns.map .int))])] [] = some (.d (.bool true), S') := by
  suffices h : Ok (k09.m_law CG CL [.d (.dict [(.none, .list (ns.map .int))])] []) (fun p => p.1 = .d (.bool true)) by
    obtain ⟨⟨w, S'⟩, e, rfl⟩ := h
    exact ⟨S', e⟩
  unfold k09.m_law k09.b_law
  boot_fact
  refine (tape9 ns).mono ?_
  rintro _ ⟨nums, t, ht, rfl⟩
  boot_fact
  refine (next9 (Int.le_refl 0) ht (by decide) (by decide)).mono ?_
  rintro _ ⟨v, a1, v0, v1, ha1, rfl⟩
  boot_fact
  refine ⟨⟨by omega, by omega⟩, ?_⟩
  refine lc_vals (fun i us S => ∃ (ss : List PyData) (a : Int), us = ss.map W.d ∧ S = TS9 nums a t [] ∧ 0 ≤ a ∧ ss.length = i ∧ ∀ s ∈ ss, Sr T9 U9 s ∧ szT s ≤ 20) ⟨[], a1, rfl, rfl, ha1, rfl, fun s h => nomatch h⟩ ?_ ?_
  · rintro i w us S hw ⟨ss, a, rfl, rfl, ha, hi, hS⟩
    boot_fact
    refine (stmt9 ha ht).mono ?_
    rintro _ ⟨s, a', h1, h2, h3, rfl⟩
    boot_fact
    refine ⟨ss ++ [s], a', by rw [List.map_append, List.map_cons, List.map_nil], rfl, h3, by rw [List.length_append, hi]; rfl, fun x hx => ?_⟩
    rcases List.mem_append.mp hx with hx | hx
    · exact hS x hx
    · rw [List.mem_singleton.mp hx]; exact ⟨h1, h2⟩
  · rintro us S ⟨ss, a, rfl, rfl, ha, hi, hS⟩
    have hlen : ss.length ≤ 10 := by
      rw [hi]
      unfold rngW
      rw [List.length_map, List.length_range]; omega
    have hcl : Cl (TS9 nums a t []) := cl9
    generalize TS9 nums a t [] = S at hcl ⊢
    boot_fact
    rw [dOf_map]
    boot_fact
    refine ⟨sz_le (by omega), ?_⟩
    refine of_eq9 params9 ?_
    boot_fact
    let f : raw.Fun := ⟨"test", ps9, unitD, [], ss⟩
    let pr : PyData := .tuple [.tuple [], .tuple [raw.funD f, .tuple [.str "main", .tuple [], .tuple [.str "unit"], .tuple [], .tuple []]]]
    have hfn : ∀ (S : Mem) (Q : WM → Prop), Q (.d (raw.funD f), S) → Ok (m_function_named [.d pr, .d (.str f.nm)] S) Q := fun S Q q => by
      unfold m_function_named b_function_named
      simp only [pr]
      boot_fact
      refine for_unr ?_
      unfold raw.funD
      simp only [f]
      repeat (first | simp only [k_fr0, k_fr1] | boot_fact)
      exact q
    refine (raw.build_low (CG := CG) (CL := CL) (T := T9) (U := U9) (prog := pr) (f := f) (c := 20) (t9_ok _) hcl hfn rfl .unit (show ps9.length ≤ 6 by decide) (show (ps9.map (·.1)).Nodup by decide +kernel) (fun g hg i => ?_) hS (by show ss.length * 21 + 20 ≤ _; omega)).mono ?_
    · have hh : ∀ g ∈ ps9, g.1.cps.toList.head? ≠ some 35 := by decide +kernel
      exact fun e => hh g hg (by rw [e, tmp_cps]; rfl)
    rintro _ ⟨b, j, rest, rfl, hip, hG, hz, hne, hj, hr⟩
    have hM := raw.cl_mem (prog := pr) (f := f) (CG := CG) (CL := CL) (t := b.t) (ks := b.ks) (ps := b.ps) (us := b.us) hcl hj hr
    have h1 : (raw.mem (raw.bn S CG CL pr f) b.t b.ks b.ps b.us j rest)[S.length + 1]? = some (.ins CG (raw.gf (raw.bn S CG CL pr f))) := raw.k_mm1
    have h2 : (raw.mem (raw.bn S CG CL pr f) b.t b.ks b.ps b.us j rest)[S.length + 2]? = some (.dct (raw.kwOf b.ks)) := raw.k_mm2
    have h3 : (raw.mem (raw.bn S CG CL pr f) b.t b.ks b.ps b.us j rest)[S.length + 3]? = some (.lst (b.ps.map .d)) := raw.k_mm3
    have f1 : List.lookup ("points" : Str) (raw.gf (raw.bn S CG CL pr f)) = some (.loc (S.length + 3)) := raw.k_mg2
    have f3 : List.lookup ("kinds" : Str) (raw.gf (raw.bn S CG CL pr f)) = some (.loc (S.length + 2)) := raw.k_mg1
    generalize raw.gf (raw.bn S CG CL pr f) = gi at h1 f1 f3
    generalize raw.mem (raw.bn S CG CL pr f) b.t b.ks b.ps b.us j rest = M at hM h1 h2 h3 ⊢
    have hp : ∀ i ∈ b.ps, Pt b i := fun i hi => pt9 (hip i hi)
    have hV : ∀ n, raw.Vw CG (S.length + 1) (S.length + 3) (S.length + 2) b (M ++ [.dct (dwK (O9 b) n)]) := fun n => ⟨fam.Cl.nl hM dw_nl, ⟨gi, low_get h1, f1, f3⟩, low_get h3, low_get h2⟩
    have d0 : ∀ n, (M ++ [Ob.dct (dwK (O9 b) n)])[M.length]? = some (.dct (dwK (O9 b) n)) := fun n => get_e0
    have dS : ∀ n m, (M ++ [Ob.dct (dwK (O9 b) n)]).set M.length (.dct (dwK (O9 b) m)) = M ++ [Ob.dct (dwK (O9 b) m)] := fun n m => set_e0
    have g1 : ∀ n, (M ++ [Ob.dct (dwK (O9 b) n)])[S.length + 1]? = some (.ins CG gi) := fun n => low_get h1
    have g3 : ∀ n, (M ++ [Ob.dct (dwK (O9 b) n)])[S.length + 3]? = some (.lst (b.ps.map .d)) := fun n => low_get h3
    have e0 : M ++ [Ob.dct []] = M ++ [Ob.dct (dwK (O9 b) 0)] := rfl
    repeat (first | simp only [e0, g1, g3, f1, f3, List.length_map] | boot_fact)
    refine ⟨⟨by omega, by omega⟩, ?_⟩
    have hlb : (b.ps.length : Int) = (b.ps.length : Int) := rfl
    generalize hPR : PyData.tuple [PyData.tuple [], _] = PR
    obtain ⟨F, hF⟩ : ∃ F, PR = .tuple [.tuple [], F] := ⟨_, hPR.symm⟩
    clear hPR
    subst hF
    refine for_vals (fun i ρ S' => S' = M ++ [.dct (dwK (O9 b) i)] ∧ ∃ x2 x7 x8 x9, ρ = [some (W.d (.dict [(.none, .list (ns.map .int))])), some (.loc 1), x2, some (.d (.tuple ss)), some (.d (.tuple [.tuple [], F])), some (.loc (S.length + 1)), some (.loc M.length), x7, x8, x9]) ⟨rfl, _, _, _, _, rfl⟩ ?_ ?_
    · rintro i w ρ S' hw ⟨rfl, x2, x7, x8, x9, rfl⟩
      obtain ⟨rfl, hi⟩ := rng_get hw
      rw [Int.zero_add]
      have hi' : i < b.ps.length := by omega
      have hx : b.ps[i]? = some b.ps[i] := List.getElem?_eq_getElem hi'
      have hat : atI (b.ps.map W.d) (i : Int) = some (.d b.ps[i]) := atI_at' (by rw [List.getElem?_map, hx]; rfl)
      have hpt := hp _ (List.mem_of_getElem? hx)
      have hO : O9 b i = loanD b.ps[i] := by unfold O9; rw [hx]; rfl
      generalize b.ps[i] = I at hx hat hpt hO
      have hVi := hV i
      repeat (first | simp only [g1, g3, f1, f3, hat] | boot_fact)
      cases hpt with
      | no w rest h1 h2 h3 h4 h5 h6 =>
        refine due_no h1 h2 h3 h4 h5 h6 ?_
        rw [loanD_no h3] at hO
        boot_fact
        rw [show isNonW (W.d .none) = true from rfl]
        boot_fact
        rw [decide_eq_false h3]
        boot_fact
        exact ⟨by rw [dw_none hO], _, _, _, _, rfl⟩
      | fm hr hf hs =>
        rename_i r
        refine due9 hVi hr hf ?_
        boot_fact
        rw [show ∀ l, isNonW (W.d (.list l)) = false from fun _ => rfl]
        boot_fact
        refine uses9 hVi hG hr hx hf ?_
        boot_fact
        refine right9' (shd_uses hr _) ?_
        boot_fact
        refine clears9 hVi hG hr hx hf ?_
        boot_fact
        refine right9' (shd_clears hr _) ?_
        boot_fact
        refine moves9 hVi hG hr hx hf ?_
        boot_fact
        refine right9' (shd_moves hr hf hs) ?_
        boot_fact
        refine access9 hVi hG hr hx hf ?_
        boot_fact
        have hsh := sacc9 _ hr _ (acc9_in hf)
        refine ⟨hsh, ?_⟩
        rw [SeqAt.eqv_refl _ (SeqAt.canLay_of_shaped hsh)]
        boot_fact
        have hdl := dw_len (O := O9 b) (n := i)
        have lend : ∀ (m : Str), O9 b i = (if lend9 r = true then some (.str m, r.pl, .none) else none) → lend9 r = true → putD (dwK (O9 b) i) (Sum.inl (i : Int)) (W.d (.tuple [.str m, r.pl])) = dwK (O9 b) (i + 1) := fun m h1 h2 => by
          rw [h2, if_pos rfl] at h1
          rw [show W.d (.tuple [PyData.str m, r.pl]) = dwV (PyData.str m, r.pl, PyData.none) from rfl, dw_put h1]
        have noL : ∀ (m : Str), O9 b i = (if lend9 r = true then some (.str m, r.pl, .none) else none) → lend9 r = false → dwK (O9 b) i = dwK (O9 b) (i + 1) := fun m h1 h2 => by
          rw [h2, if_neg Bool.false_ne_true] at h1
          rw [dw_none h1]
        cases hf with
        | copy t h1 h2 => rw [loanD_no (by decide)] at hO; boot_fact; exact ⟨by rw [dw_none hO], _, _, _, _, rfl⟩
        | move t h1 h2 => rw [loanD_no (by decide)] at hO; boot_fact; exact ⟨by rw [dw_none hO], _, _, _, _, rfl⟩
        | is t => rw [loanD_no (by decide)] at hO; boot_fact; exact ⟨by rw [dw_none hO], _, _, _, _, rfl⟩
        | swap t y h1 => rw [loanD_no (by decide)] at hO; boot_fact; exact ⟨by rw [dw_none hO], _, _, _, _, rfl⟩
        | store y h1 h2 => rw [loanD_no (by decide)] at hO; boot_fact; exact ⟨by rw [dw_none hO], _, _, _, _, rfl⟩
        | shr t =>
          rw [loanD_b hr] at hO
          boot_fact
          refine of_eq9 (law_crossing9 hr) ?_
          cases hcc : r.c with
          | none =>
            have hl : lend9 r = true := by unfold lend9; rw [hcc]
            simp only [crD9]
            boot_fact
            rw [show isNonW (W.d .none) = true from rfl]
            boot_fact
            refine ⟨sz_lt (by omega), ?_⟩
            rw [lend _ hO hl]
            exact ⟨rfl, _, _, _, _, rfl⟩
          | some p =>
            obtain ⟨r', hr', e, h, rest, ek, e1, e2⟩ := cross9k hr hcc
            simp only [crD9]
            boot_fact
            rw [show isNonW (W.d (.tuple [.str r.x, .tuple p])) = false from rfl]
            boot_fact
            rw [← e]
            refine of_eq9 (law_kind9 hr') ?_
            rw [ek]
            boot_fact
            rw [e2]
            cases hl : lend9 r with
            | true =>
              boot_fact
              refine ⟨sz_lt (by omega), ?_⟩
              rw [lend _ hO hl]
              exact ⟨rfl, _, _, _, _, rfl⟩
            | false =>
              boot_fact
              exact ⟨by rw [noL _ hO hl], _, _, _, _, rfl⟩
        | exc t =>
          rw [loanD_b hr] at hO
          boot_fact
          refine of_eq9 (law_crossing9 hr) ?_
          cases hcc : r.c with
          | none =>
            have hl : lend9 r = true := by unfold lend9; rw [hcc]
            simp only [crD9]
            boot_fact
            rw [show isNonW (W.d .none) = true from rfl]
            boot_fact
            refine ⟨sz_lt (by omega), ?_⟩
            rw [lend _ hO hl]
            exact ⟨rfl, _, _, _, _, rfl⟩
          | some p =>
            obtain ⟨r', hr', e, h, rest, ek, e1, e2⟩ := cross9k hr hcc
            simp only [crD9]
            boot_fact
            rw [show isNonW (W.d (.tuple [.str r.x, .tuple p])) = false from rfl]
            boot_fact
            rw [← e]
            refine of_eq9 (law_kind9 hr') ?_
            rw [ek]
            boot_fact
            rw [e2]
            cases hl : lend9 r with
            | true =>
              boot_fact
              refine ⟨sz_lt (by omega), ?_⟩
              rw [lend _ hO hl]
              exact ⟨rfl, _, _, _, _, rfl⟩
            | false =>
              boot_fact
              exact ⟨by rw [noL _ hO hl], _, _, _, _, rfl⟩
    · rintro ρ S' ⟨rfl, x2, x7, x8, x9, rfl⟩
      rw [rng_len]
      rw [show ((b.ps.length : Int) - 0).toNat = b.ps.length by omega]
      boot_fact
      refine loans9 hp hG (by omega) (hV _) ?_
      boot_fact
      refine eqDct9 get_e1 get_e0 (same9 hp) ?_
      boot_fact
end raw
namespace k09
open PySem L2 Pd fam
theorem law_ok (CG CL : Addr) (ns : List Int) : ∃ S', m_law CG CL [.d (.dict [(.none, .list (ns.map .int))])] [] = some (.d (.bool true), S') := raw.law_ok9 CG CL ns
end k09
namespace k09
open PySem PySem.Spec PyProof.Rows L2 GxR Gx Pd
theorem all_mk {l : PySem.W.OpenLaw} {q : Program} {w : World} {K : PySem.W.Frag} {h : Heap} {mg : Str → Option Value} {fa : Addr} (X : K.In h) (G : h.Ns mainGlobals mg) (hfa : mg "law" = some (.ref fa)) (TT : TabsOf q K h)
    {A_BORROWS : Addr} {D_BORROWS : Option Addr} {N_BORROWS : Nat} {S_BORROWS : Array (Option Value)} {t0_BORROWS t1_BORROWS : Tok}
    {A_LEAF_WORDS : Addr} {D_LEAF_WORDS : Option Addr} {N_LEAF_WORDS : Nat} {S_LEAF_WORDS : Array (Option Value)} {t0_LEAF_WORDS t1_LEAF_WORDS t2_LEAF_WORDS : Tok}
    {A_SINGLE_WORDS : Addr} {D_SINGLE_WORDS : Option Addr} {N_SINGLE_WORDS : Nat} {S_SINGLE_WORDS : Array (Option Value)} {t0_SINGLE_WORDS t1_SINGLE_WORDS t2_SINGLE_WORDS t3_SINGLE_WORDS : Tok}
    {A_SIGN_KINDS : Addr} {E_SIGN_KINDS : Array DictEntry} {N_SIGN_KINDS : Nat}
    {T0_SIGN_KINDS : Addr} {D0_SIGN_KINDS : Option Addr} {M0_SIGN_KINDS : Nat} {S0_SIGN_KINDS : Array (Option Value)} {u0_0_SIGN_KINDS : Tok}
    {T1_SIGN_KINDS : Addr} {D1_SIGN_KINDS : Option Addr} {M1_SIGN_KINDS : Nat} {S1_SIGN_KINDS : Array (Option Value)} {u1_0_SIGN_KINDS : Tok}
    {T2_SIGN_KINDS : Addr} {D2_SIGN_KINDS : Option Addr} {M2_SIGN_KINDS : Nat} {S2_SIGN_KINDS : Array (Option Value)} {u2_0_SIGN_KINDS : Tok}
    {T3_SIGN_KINDS : Addr} {D3_SIGN_KINDS : Option Addr} {M3_SIGN_KINDS : Nat} {S3_SIGN_KINDS : Array (Option Value)} {u3_0_SIGN_KINDS : Tok}
    {T4_SIGN_KINDS : Addr} {D4_SIGN_KINDS : Option Addr} {M4_SIGN_KINDS : Nat} {S4_SIGN_KINDS : Array (Option Value)} {u4_0_SIGN_KINDS : Tok}
    {T5_SIGN_KINDS : Addr} {D5_SIGN_KINDS : Option Addr} {M5_SIGN_KINDS : Nat} {S5_SIGN_KINDS : Array (Option Value)} {u5_0_SIGN_KINDS : Tok}
    {T6_SIGN_KINDS : Addr} {D6_SIGN_KINDS : Option Addr} {M6_SIGN_KINDS : Nat} {S6_SIGN_KINDS : Array (Option Value)} {u6_0_SIGN_KINDS : Tok}
    {A_PLACE_AT : Addr} {E_PLACE_AT : Array DictEntry} {N_PLACE_AT : Nat}
    {u0_PLACE_AT : Tok}
    {u1_PLACE_AT : Tok}
    {u2_PLACE_AT : Tok}
    {u3_PLACE_AT : Tok}
    {u4_PLACE_AT : Tok}
    {u5_PLACE_AT : Tok}
    {A_ACCESS_MODES : Addr} {E_ACCESS_MODES : Array DictEntry} {N_ACCESS_MODES : Nat}
    {u0_ACCESS_MODES : Tok}
    {u1_ACCESS_MODES : Tok}
    {u2_ACCESS_MODES : Tok}
    {u3_ACCESS_MODES : Tok}
    {u4_ACCESS_MODES : Tok}
    {u5_ACCESS_MODES : Tok}
    {C_Graph : Addr}
    {C_Lowering : Addr}
    {f0 cd0 : Addr} {od0 an0 : Option Addr} {sl0 : Array (Option Value)} {oc0 kV0 dc0 pm0 ct0 : Value}
    {f1 cd1 : Addr} {od1 an1 : Option Addr} {sl1 : Array (Option Value)} {oc1 kV1 dc1 pm1 ct1 : Value}
    {P1 : Addr} {e1 : Value} {dd1 : Option Addr} {vs1 : Array Value} {sm1 : Array (Option Value)}
    {f2 cd2 : Addr} {od2 an2 : Option Addr} {sl2 : Array (Option Value)} {oc2 kV2 dc2 pm2 ct2 : Value}
    {f3 cd3 : Addr} {od3 an3 : Option Addr} {sl3 : Array (Option Value)} {oc3 kV3 dc3 pm3 ct3 : Value}
    {f4 cd4 : Addr} {od4 an4 : Option Addr} {sl4 : Array (Option Value)} {oc4 kV4 dc4 pm4 ct4 : Value}
    {f5 cd5 : Addr} {od5 an5 : Option Addr} {sl5 : Array (Option Value)} {oc5 kV5 dc5 pm5 ct5 : Value}
    {f6 cd6 : Addr} {od6 an6 : Option Addr} {sl6 : Array (Option Value)} {oc6 kV6 dc6 pm6 ct6 : Value}
    {f7 cd7 : Addr} {od7 an7 : Option Addr} {sl7 : Array (Option Value)} {oc7 kV7 dc7 pm7 ct7 : Value}
    {f8 cd8 : Addr} {od8 an8 : Option Addr} {sl8 : Array (Option Value)} {oc8 kV8 dc8 pm8 ct8 : Value}
    {f9 cd9 : Addr} {od9 an9 : Option Addr} {sl9 : Array (Option Value)} {oc9 kV9 dc9 pm9 ct9 : Value}
    {f10 cd10 : Addr} {od10 an10 : Option Addr} {sl10 : Array (Option Value)} {oc10 kV10 dc10 pm10 ct10 : Value}
    {f11 cd11 : Addr} {od11 an11 : Option Addr} {sl11 : Array (Option Value)} {oc11 kV11 dc11 pm11 ct11 : Value}
    {f12 cd12 : Addr} {od12 an12 : Option Addr} {sl12 : Array (Option Value)} {oc12 kV12 dc12 pm12 ct12 : Value}
    {f13 cd13 : Addr} {od13 an13 : Option Addr} {sl13 : Array (Option Value)} {oc13 kV13 dc13 pm13 ct13 : Value}
    {f14 cd14 : Addr} {od14 an14 : Option Addr} {sl14 : Array (Option Value)} {oc14 kV14 dc14 pm14 ct14 : Value}
    {f15 cd15 : Addr} {od15 an15 : Option Addr} {sl15 : Array (Option Value)} {oc15 kV15 dc15 pm15 ct15 : Value}
    {f16 cd16 : Addr} {od16 an16 : Option Addr} {sl16 : Array (Option Value)} {oc16 kV16 dc16 pm16 ct16 : Value}
    {f17 cd17 : Addr} {od17 an17 : Option Addr} {sl17 : Array (Option Value)} {oc17 kV17 dc17 pm17 ct17 : Value}
    {f18 cd18 : Addr} {od18 an18 : Option Addr} {sl18 : Array (Option Value)} {oc18 kV18 dc18 pm18 ct18 : Value}
    {f19 cd19 : Addr} {od19 an19 : Option Addr} {sl19 : Array (Option Value)} {oc19 kV19 dc19 pm19 ct19 : Value}
    {f20 cd20 : Addr} {od20 an20 : Option Addr} {sl20 : Array (Option Value)} {oc20 kV20 dc20 pm20 ct20 : Value}
    {f21 cd21 : Addr} {od21 an21 : Option Addr} {sl21 : Array (Option Value)} {oc21 kV21 dc21 pm21 ct21 : Value}
    {f22 cd22 : Addr} {od22 an22 : Option Addr} {sl22 : Array (Option Value)} {oc22 kV22 dc22 pm22 ct22 : Value}
    {f23 cd23 : Addr} {od23 an23 : Option Addr} {sl23 : Array (Option Value)} {oc23 kV23 dc23 pm23 ct23 : Value}
    {f24 cd24 : Addr} {od24 an24 : Option Addr} {sl24 : Array (Option Value)} {oc24 kV24 dc24 pm24 ct24 : Value}
    {f25 cd25 : Addr} {od25 an25 : Option Addr} {sl25 : Array (Option Value)} {oc25 kV25 dc25 pm25 ct25 : Value}
    {f26 cd26 : Addr} {od26 an26 : Option Addr} {sl26 : Array (Option Value)} {oc26 kV26 dc26 pm26 ct26 : Value}
    {f27 cd27 : Addr} {od27 an27 : Option Addr} {sl27 : Array (Option Value)} {oc27 kV27 dc27 pm27 ct27 : Value}
    {f28 cd28 : Addr} {od28 an28 : Option Addr} {sl28 : Array (Option Value)} {oc28 kV28 dc28 pm28 ct28 : Value}
    {f29 cd29 : Addr} {od29 an29 : Option Addr} {sl29 : Array (Option Value)} {oc29 kV29 dc29 pm29 ct29 : Value}
    {f30 cd30 : Addr} {od30 an30 : Option Addr} {sl30 : Array (Option Value)} {oc30 kV30 dc30 pm30 ct30 : Value}
    {f31 cd31 : Addr} {od31 an31 : Option Addr} {sl31 : Array (Option Value)} {oc31 kV31 dc31 pm31 ct31 : Value}
    {f32 cd32 : Addr} {od32 an32 : Option Addr} {sl32 : Array (Option Value)} {oc32 kV32 dc32 pm32 ct32 : Value}
    {f33 cd33 : Addr} {od33 an33 : Option Addr} {sl33 : Array (Option Value)} {oc33 kV33 dc33 pm33 ct33 : Value}
    {f34 cd34 : Addr} {od34 an34 : Option Addr} {sl34 : Array (Option Value)} {oc34 kV34 dc34 pm34 ct34 : Value}
    {f35 cd35 : Addr} {od35 an35 : Option Addr} {sl35 : Array (Option Value)} {oc35 kV35 dc35 pm35 ct35 : Value}
    {f36 cd36 : Addr} {od36 an36 : Option Addr} {sl36 : Array (Option Value)} {oc36 kV36 dc36 pm36 ct36 : Value}
    {f37 cd37 : Addr} {od37 an37 : Option Addr} {sl37 : Array (Option Value)} {oc37 kV37 dc37 pm37 ct37 : Value}
    {f38 cd38 : Addr} {od38 an38 : Option Addr} {sl38 : Array (Option Value)} {oc38 kV38 dc38 pm38 ct38 : Value}
    {f39 cd39 : Addr} {od39 an39 : Option Addr} {sl39 : Array (Option Value)} {oc39 kV39 dc39 pm39 ct39 : Value}
    {f40 cd40 : Addr} {od40 an40 : Option Addr} {sl40 : Array (Option Value)} {oc40 kV40 dc40 pm40 ct40 : Value}
    {f41 cd41 : Addr} {od41 an41 : Option Addr} {sl41 : Array (Option Value)} {oc41 kV41 dc41 pm41 ct41 : Value}
    {f42 cd42 : Addr} {od42 an42 : Option Addr} {sl42 : Array (Option Value)} {oc42 kV42 dc42 pm42 ct42 : Value}
    {f43 cd43 : Addr} {od43 an43 : Option Addr} {sl43 : Array (Option Value)} {oc43 kV43 dc43 pm43 ct43 : Value}
    {f44 cd44 : Addr} {od44 an44 : Option Addr} {sl44 : Array (Option Value)} {oc44 kV44 dc44 pm44 ct44 : Value}
    {f45 cd45 : Addr} {od45 an45 : Option Addr} {sl45 : Array (Option Value)} {oc45 kV45 dc45 pm45 ct45 : Value}
    {f46 cd46 : Addr} {od46 an46 : Option Addr} {sl46 : Array (Option Value)} {oc46 kV46 dc46 pm46 ct46 : Value}
    {f47 cd47 : Addr} {od47 an47 : Option Addr} {sl47 : Array (Option Value)} {oc47 kV47 dc47 pm47 ct47 : Value}
    {f48 cd48 : Addr} {od48 an48 : Option Addr} {sl48 : Array (Option Value)} {oc48 kV48 dc48 pm48 ct48 : Value}
    {f49 cd49 : Addr} {od49 an49 : Option Addr} {sl49 : Array (Option Value)} {oc49 kV49 dc49 pm49 ct49 : Value}
    {f50 cd50 : Addr} {od50 an50 : Option Addr} {sl50 : Array (Option Value)} {oc50 kV50 dc50 pm50 ct50 : Value}
    {f51 cd51 : Addr} {od51 an51 : Option Addr} {sl51 : Array (Option Value)} {oc51 kV51 dc51 pm51 ct51 : Value}
    {f52 cd52 : Addr} {od52 an52 : Option Addr} {sl52 : Array (Option Value)} {oc52 kV52 dc52 pm52 ct52 : Value}
    {f53 cd53 : Addr} {od53 an53 : Option Addr} {sl53 : Array (Option Value)} {oc53 kV53 dc53 pm53 ct53 : Value}
    {f54 cd54 : Addr} {od54 an54 : Option Addr} {sl54 : Array (Option Value)} {oc54 kV54 dc54 pm54 ct54 : Value}
    {f55 cd55 : Addr} {od55 an55 : Option Addr} {sl55 : Array (Option Value)} {oc55 kV55 dc55 pm55 ct55 : Value}
    (z_len : PySem.W.nsIn K mainGlobals "len" = some none)
    (z_int : PySem.W.nsIn K mainGlobals "int" = some none)
    (z_bool : PySem.W.nsIn K mainGlobals "bool" = some none)
    (z_abs : PySem.W.nsIn K mainGlobals "abs" = some none)
    (z_range : PySem.W.nsIn K mainGlobals "range" = some none)
    (z_tuple : PySem.W.nsIn K mainGlobals "tuple" = some none)
    (z_all : PySem.W.nsIn K mainGlobals "all" = some none)
    (z_list : PySem.W.nsIn K mainGlobals "list" = some none)
    (z_str : PySem.W.nsIn K mainGlobals "str" = some none)
    (z_isinstance : PySem.W.nsIn K mainGlobals "isinstance" = some none)
    (z_reversed : PySem.W.nsIn K mainGlobals "reversed" = some none)
    (z_max : PySem.W.nsIn K mainGlobals "max" = some none)
    (z_sum : PySem.W.nsIn K mainGlobals "sum" = some none)
    (z_enumerate : PySem.W.nsIn K mainGlobals "enumerate" = some none)
    (z_dict : PySem.W.nsIn K mainGlobals "dict" = some none)
    (z_zip : PySem.W.nsIn K mainGlobals "zip" = some none)
    (b_BORROWS : PySem.W.nsIn K mainGlobals "BORROWS" = some (some (.ref A_BORROWS))) (w_BORROWS : K.lookup A_BORROWS = some ⟨.type "tuple", D_BORROWS, .seq #[.str "shared" t0_BORROWS, .str "exclusive" t1_BORROWS] N_BORROWS, S_BORROWS⟩)
    (b_LEAF_WORDS : PySem.W.nsIn K mainGlobals "LEAF_WORDS" = some (some (.ref A_LEAF_WORDS))) (w_LEAF_WORDS : K.lookup A_LEAF_WORDS = some ⟨.type "tuple", D_LEAF_WORDS, .seq #[.str "shared" t0_LEAF_WORDS, .str "exclusive" t1_LEAF_WORDS, .str "task" t2_LEAF_WORDS] N_LEAF_WORDS, S_LEAF_WORDS⟩)
    (b_SINGLE_WORDS : PySem.W.nsIn K mainGlobals "SINGLE_WORDS" = some (some (.ref A_SINGLE_WORDS))) (w_SINGLE_WORDS : K.lookup A_SINGLE_WORDS = some ⟨.type "tuple", D_SINGLE_WORDS, .seq #[.str "int" t0_SINGLE_WORDS, .str "bool" t1_SINGLE_WORDS, .str "unit" t2_SINGLE_WORDS, .str "record" t3_SINGLE_WORDS] N_SINGLE_WORDS, S_SINGLE_WORDS⟩)
    (b_SIGN_KINDS : PySem.W.nsIn K mainGlobals "SIGN_KINDS" = some (some (.ref A_SIGN_KINDS))) (w_SIGN_KINDS : K.lookup A_SIGN_KINDS = some ⟨.type "dict", none, .dict E_SIGN_KINDS N_SIGN_KINDS, #[]⟩) (l_SIGN_KINDS : PySem.W.KeysLit w.params E_SIGN_KINDS.toList)
    (y0_SIGN_KINDS : PySem.W.nsIn K A_SIGN_KINDS "+" = some (some (.ref T0_SIGN_KINDS))) (q0_SIGN_KINDS : K.lookup T0_SIGN_KINDS = some ⟨.type "tuple", D0_SIGN_KINDS, .seq #[.str "int" u0_0_SIGN_KINDS] M0_SIGN_KINDS, S0_SIGN_KINDS⟩)
    (y1_SIGN_KINDS : PySem.W.nsIn K A_SIGN_KINDS "-" = some (some (.ref T1_SIGN_KINDS))) (q1_SIGN_KINDS : K.lookup T1_SIGN_KINDS = some ⟨.type "tuple", D1_SIGN_KINDS, .seq #[.str "int" u1_0_SIGN_KINDS] M1_SIGN_KINDS, S1_SIGN_KINDS⟩)
    (y2_SIGN_KINDS : PySem.W.nsIn K A_SIGN_KINDS "*" = some (some (.ref T2_SIGN_KINDS))) (q2_SIGN_KINDS : K.lookup T2_SIGN_KINDS = some ⟨.type "tuple", D2_SIGN_KINDS, .seq #[.str "int" u2_0_SIGN_KINDS] M2_SIGN_KINDS, S2_SIGN_KINDS⟩)
    (y3_SIGN_KINDS : PySem.W.nsIn K A_SIGN_KINDS "<" = some (some (.ref T3_SIGN_KINDS))) (q3_SIGN_KINDS : K.lookup T3_SIGN_KINDS = some ⟨.type "tuple", D3_SIGN_KINDS, .seq #[.str "bool" u3_0_SIGN_KINDS] M3_SIGN_KINDS, S3_SIGN_KINDS⟩)
    (y4_SIGN_KINDS : PySem.W.nsIn K A_SIGN_KINDS "==" = some (some (.ref T4_SIGN_KINDS))) (q4_SIGN_KINDS : K.lookup T4_SIGN_KINDS = some ⟨.type "tuple", D4_SIGN_KINDS, .seq #[.str "bool" u4_0_SIGN_KINDS] M4_SIGN_KINDS, S4_SIGN_KINDS⟩)
    (y5_SIGN_KINDS : PySem.W.nsIn K A_SIGN_KINDS "and" = some (some (.ref T5_SIGN_KINDS))) (q5_SIGN_KINDS : K.lookup T5_SIGN_KINDS = some ⟨.type "tuple", D5_SIGN_KINDS, .seq #[.str "bool" u5_0_SIGN_KINDS] M5_SIGN_KINDS, S5_SIGN_KINDS⟩)
    (y6_SIGN_KINDS : PySem.W.nsIn K A_SIGN_KINDS "or" = some (some (.ref T6_SIGN_KINDS))) (q6_SIGN_KINDS : K.lookup T6_SIGN_KINDS = some ⟨.type "tuple", D6_SIGN_KINDS, .seq #[.str "bool" u6_0_SIGN_KINDS] M6_SIGN_KINDS, S6_SIGN_KINDS⟩)
    (b_PLACE_AT : PySem.W.nsIn K mainGlobals "PLACE_AT" = some (some (.ref A_PLACE_AT))) (w_PLACE_AT : K.lookup A_PLACE_AT = some ⟨.type "dict", none, .dict E_PLACE_AT N_PLACE_AT, #[]⟩) (l_PLACE_AT : PySem.W.KeysLit w.params E_PLACE_AT.toList)
    (y0_PLACE_AT : PySem.W.nsIn K A_PLACE_AT "copy" = some (some (.int 2 u0_PLACE_AT)))
    (y1_PLACE_AT : PySem.W.nsIn K A_PLACE_AT "move" = some (some (.int 2 u1_PLACE_AT)))
    (y2_PLACE_AT : PySem.W.nsIn K A_PLACE_AT "borrow" = some (some (.int 3 u2_PLACE_AT)))
    (y3_PLACE_AT : PySem.W.nsIn K A_PLACE_AT "is" = some (some (.int 2 u3_PLACE_AT)))
    (y4_PLACE_AT : PySem.W.nsIn K A_PLACE_AT "store" = some (some (.int 1 u4_PLACE_AT)))
    (y5_PLACE_AT : PySem.W.nsIn K A_PLACE_AT "swap" = some (some (.int 2 u5_PLACE_AT)))
    (s_PLACE_AT : (A_PLACE_AT == sysModules) = false)
    (o0_PLACE_AT : PySem.W.nsIn K A_PLACE_AT "set" = some none)
    (o1_PLACE_AT : PySem.W.nsIn K A_PLACE_AT "make" = some none)
    (o2_PLACE_AT : PySem.W.nsIn K A_PLACE_AT "unbox" = some none)
    (o3_PLACE_AT : PySem.W.nsIn K A_PLACE_AT "op" = some none)
    (o4_PLACE_AT : PySem.W.nsIn K A_PLACE_AT "not" = some none)
    (o5_PLACE_AT : PySem.W.nsIn K A_PLACE_AT "call" = some none)
    (o6_PLACE_AT : PySem.W.nsIn K A_PLACE_AT "test" = some none)
    (o7_PLACE_AT : PySem.W.nsIn K A_PLACE_AT "jump" = some none)
    (o8_PLACE_AT : PySem.W.nsIn K A_PLACE_AT "print" = some none)
    (o9_PLACE_AT : PySem.W.nsIn K A_PLACE_AT "drop" = some none)
    (o10_PLACE_AT : PySem.W.nsIn K A_PLACE_AT "let" = some none)
    (o11_PLACE_AT : PySem.W.nsIn K A_PLACE_AT "leave" = some none)
    (o12_PLACE_AT : PySem.W.nsIn K A_PLACE_AT "stop" = some none)
    (b_ACCESS_MODES : PySem.W.nsIn K mainGlobals "ACCESS_MODES" = some (some (.ref A_ACCESS_MODES))) (w_ACCESS_MODES : K.lookup A_ACCESS_MODES = some ⟨.type "dict", none, .dict E_ACCESS_MODES N_ACCESS_MODES, #[]⟩) (l_ACCESS_MODES : PySem.W.KeysLit w.params E_ACCESS_MODES.toList)
    (y0_ACCESS_MODES : PySem.W.nsIn K A_ACCESS_MODES "copy" = some (some (.str "read" u0_ACCESS_MODES)))
    (y1_ACCESS_MODES : PySem.W.nsIn K A_ACCESS_MODES "move" = some (some (.str "move" u1_ACCESS_MODES)))
    (y2_ACCESS_MODES : PySem.W.nsIn K A_ACCESS_MODES "is" = some (some (.str "read" u2_ACCESS_MODES)))
    (y3_ACCESS_MODES : PySem.W.nsIn K A_ACCESS_MODES "store" = some (some (.str "store" u3_ACCESS_MODES)))
    (y4_ACCESS_MODES : PySem.W.nsIn K A_ACCESS_MODES "swap" = some (some (.str "write" u4_ACCESS_MODES)))
    (y5_ACCESS_MODES : PySem.W.nsIn K A_ACCESS_MODES "drop" = some (some (.str "store" u5_ACCESS_MODES)))
    (s_ACCESS_MODES : (A_ACCESS_MODES == sysModules) = false)
    (o0_ACCESS_MODES : PySem.W.nsIn K A_ACCESS_MODES "set" = some none)
    (o1_ACCESS_MODES : PySem.W.nsIn K A_ACCESS_MODES "make" = some none)
    (o2_ACCESS_MODES : PySem.W.nsIn K A_ACCESS_MODES "unbox" = some none)
    (o3_ACCESS_MODES : PySem.W.nsIn K A_ACCESS_MODES "borrow" = some none)
    (o4_ACCESS_MODES : PySem.W.nsIn K A_ACCESS_MODES "op" = some none)
    (o5_ACCESS_MODES : PySem.W.nsIn K A_ACCESS_MODES "not" = some none)
    (o6_ACCESS_MODES : PySem.W.nsIn K A_ACCESS_MODES "call" = some none)
    (o7_ACCESS_MODES : PySem.W.nsIn K A_ACCESS_MODES "test" = some none)
    (o8_ACCESS_MODES : PySem.W.nsIn K A_ACCESS_MODES "jump" = some none)
    (o9_ACCESS_MODES : PySem.W.nsIn K A_ACCESS_MODES "print" = some none)
    (o10_ACCESS_MODES : PySem.W.nsIn K A_ACCESS_MODES "let" = some none)
    (o11_ACCESS_MODES : PySem.W.nsIn K A_ACCESS_MODES "leave" = some none)
    (o12_ACCESS_MODES : PySem.W.nsIn K A_ACCESS_MODES "stop" = some none)
    (gc_Graph : PySem.W.nsIn K mainGlobals "Graph" = some (some (.ref C_Graph)))
    (pg_Graph : PySem.W.plainGet K C_Graph Str.empty = true) (hd_Graph : PySem.W.hasDictIn K C_Graph = true) (po_Graph : PySem.W.plainOver K C_Graph = true) (sa_Graph : PySem.W.findIn K (.ref C_Graph) "__setattr__" = some (some (.builtin "object.__setattr__"))) (mi_Graph : PySem.W.makesIn K C_Graph = true) (kc_Graph : PySem.W.keepIn K (.ref C_Graph) = true)
    (na_Graph_kinds : PySem.W.findIn K (.ref C_Graph) "kinds" = some none)
    (na_Graph_name : PySem.W.findIn K (.ref C_Graph) "name" = some none)
    (na_Graph_parameters : PySem.W.findIn K (.ref C_Graph) "parameters" = some none)
    (na_Graph_points : PySem.W.findIn K (.ref C_Graph) "points" = some none)
    (na_Graph_result : PySem.W.findIn K (.ref C_Graph) "result" = some none)
    (na_Graph_sources : PySem.W.findIn K (.ref C_Graph) "sources" = some none)
    (na_Graph_successors : PySem.W.findIn K (.ref C_Graph) "successors" = some none)
    (gc_Lowering : PySem.W.nsIn K mainGlobals "Lowering" = some (some (.ref C_Lowering)))
    (pg_Lowering : PySem.W.plainGet K C_Lowering Str.empty = true) (hd_Lowering : PySem.W.hasDictIn K C_Lowering = true) (po_Lowering : PySem.W.plainOver K C_Lowering = true) (sa_Lowering : PySem.W.findIn K (.ref C_Lowering) "__setattr__" = some (some (.builtin "object.__setattr__"))) (mi_Lowering : PySem.W.makesIn K C_Lowering = true) (kc_Lowering : PySem.W.keepIn K (.ref C_Lowering) = true)
    (na_Lowering_graph : PySem.W.findIn K (.ref C_Lowering) "graph" = some none)
    (na_Lowering_program : PySem.W.findIn K (.ref C_Lowering) "program" = some none)
    (na_Lowering_scope : PySem.W.findIn K (.ref C_Lowering) "scope" = some none)
    (na_Lowering_temporaries : PySem.W.findIn K (.ref C_Lowering) "temporaries" = some none)
    (a0 : PySem.W.nsIn K mainGlobals "kinds_inside" = some (some (.ref f0)))
    (l0 : K.lookup f0 = some ⟨oc0, od0, .func (PySem.W.fnOf "kinds_inside" "kinds_inside" (defArgs s_kinds_inside) (defBody s_kinds_inside) (defScope s_kinds_inside) .none kV0 dc0 pm0 an0 (.ref cd0) ct0), sl0⟩)
    (c0 : PySem.W.codeIn K (.ref cd0) "kinds_inside" = true) (k0 : PySem.W.keepIn K (.ref f0) = true)
    (a1 : PySem.W.nsIn K mainGlobals "is_copy" = some (some (.ref f1)))
    (l1 : K.lookup f1 = some ⟨oc1, od1, .func (PySem.W.fnOf "is_copy" "is_copy" (defArgs s_is_copy) (defBody s_is_copy) (defScope s_is_copy) .none kV1 dc1 pm1 an1 (.ref cd1) ct1), sl1⟩)
    (c1 : PySem.W.codeIn K (.ref cd1) "is_copy" = true) (k1 : PySem.W.keepIn K (.ref f1) = true)
    (m1 : K.lookup cd1 = some ⟨e1, dd1, .fields vs1, sm1⟩) (v1 : (vs1[11]? : Option Value) = some (.ref P1)) (n1 : K.lookup P1 = none) (r1 : ((recsOf q).find? fun e => e.name == ("is_copy" : Str)).isSome = true)
    (a2 : PySem.W.nsIn K mainGlobals "leaves" = some (some (.ref f2)))
    (l2 : K.lookup f2 = some ⟨oc2, od2, .func (PySem.W.fnOf "leaves" "leaves" (defArgs s_leaves) (defBody s_leaves) (defScope s_leaves) .none kV2 dc2 pm2 an2 (.ref cd2) ct2), sl2⟩)
    (c2 : PySem.W.codeIn K (.ref cd2) "leaves" = true) (k2 : PySem.W.keepIn K (.ref f2) = true)
    (a3 : PySem.W.nsIn K mainGlobals "kind_after" = some (some (.ref f3)))
    (l3 : K.lookup f3 = some ⟨oc3, od3, .func (PySem.W.fnOf "kind_after" "kind_after" (defArgs s_kind_after) (defBody s_kind_after) (defScope s_kind_after) .none kV3 dc3 pm3 an3 (.ref cd3) ct3), sl3⟩)
    (c3 : PySem.W.codeIn K (.ref cd3) "kind_after" = true) (k3 : PySem.W.keepIn K (.ref f3) = true)
    (a4 : PySem.W.nsIn K mainGlobals "is_item" = some (some (.ref f4)))
    (l4 : K.lookup f4 = some ⟨oc4, od4, .func (PySem.W.fnOf "is_item" "is_item" (defArgs s_is_item) (defBody s_is_item) (defScope s_is_item) .none kV4 dc4 pm4 an4 (.ref cd4) ct4), sl4⟩)
    (c4 : PySem.W.codeIn K (.ref cd4) "is_item" = true) (k4 : PySem.W.keepIn K (.ref f4) = true)
    (a5 : PySem.W.nsIn K mainGlobals "fields_of" = some (some (.ref f5)))
    (l5 : K.lookup f5 = some ⟨oc5, od5, .func (PySem.W.fnOf "fields_of" "fields_of" (defArgs s_fields_of) (defBody s_fields_of) (defScope s_fields_of) .none kV5 dc5 pm5 an5 (.ref cd5) ct5), sl5⟩)
    (c5 : PySem.W.codeIn K (.ref cd5) "fields_of" = true) (k5 : PySem.W.keepIn K (.ref f5) = true)
    (a6 : PySem.W.nsIn K mainGlobals "kind_at" = some (some (.ref f6)))
    (l6 : K.lookup f6 = some ⟨oc6, od6, .func (PySem.W.fnOf "kind_at" "kind_at" (defArgs s_kind_at) (defBody s_kind_at) (defScope s_kind_at) .none kV6 dc6 pm6 an6 (.ref cd6) ct6), sl6⟩)
    (c6 : PySem.W.codeIn K (.ref cd6) "kind_at" = true) (k6 : PySem.W.keepIn K (.ref f6) = true)
    (a7 : PySem.W.nsIn K mainGlobals "crossed" = some (some (.ref f7)))
    (l7 : K.lookup f7 = some ⟨oc7, od7, .func (PySem.W.fnOf "crossed" "crossed" (defArgs s_crossed) (defBody s_crossed) (defScope s_crossed) .none kV7 dc7 pm7 an7 (.ref cd7) ct7), sl7⟩)
    (c7 : PySem.W.codeIn K (.ref cd7) "crossed" = true) (k7 : PySem.W.keepIn K (.ref f7) = true)
    (a8 : PySem.W.nsIn K mainGlobals "kinds_along" = some (some (.ref f8)))
    (l8 : K.lookup f8 = some ⟨oc8, od8, .func (PySem.W.fnOf "kinds_along" "kinds_along" (defArgs s_kinds_along) (defBody s_kinds_along) (defScope s_kinds_along) .none kV8 dc8 pm8 an8 (.ref cd8) ct8), sl8⟩)
    (c8 : PySem.W.codeIn K (.ref cd8) "kinds_along" = true) (k8 : PySem.W.keepIn K (.ref f8) = true)
    (a9 : PySem.W.nsIn K mainGlobals "function_named" = some (some (.ref f9)))
    (l9 : K.lookup f9 = some ⟨oc9, od9, .func (PySem.W.fnOf "function_named" "function_named" (defArgs s_function_named) (defBody s_function_named) (defScope s_function_named) .none kV9 dc9 pm9 an9 (.ref cd9) ct9), sl9⟩)
    (c9 : PySem.W.codeIn K (.ref cd9) "function_named" = true) (k9 : PySem.W.keepIn K (.ref f9) = true)
    (a10 : PySem.W.nsIn K mainGlobals "parts_of" = some (some (.ref f10)))
    (l10 : K.lookup f10 = some ⟨oc10, od10, .func (PySem.W.fnOf "parts_of" "parts_of" (defArgs s_parts_of) (defBody s_parts_of) (defScope s_parts_of) .none kV10 dc10 pm10 an10 (.ref cd10) ct10), sl10⟩)
    (c10 : PySem.W.codeIn K (.ref cd10) "parts_of" = true) (k10 : PySem.W.keepIn K (.ref f10) = true)
    (a11 : PySem.W.nsIn K mainGlobals "place_in" = some (some (.ref f11)))
    (l11 : K.lookup f11 = some ⟨oc11, od11, .func (PySem.W.fnOf "place_in" "place_in" (defArgs s_place_in) (defBody s_place_in) (defScope s_place_in) .none kV11 dc11 pm11 an11 (.ref cd11) ct11), sl11⟩)
    (c11 : PySem.W.codeIn K (.ref cd11) "place_in" = true) (k11 : PySem.W.keepIn K (.ref f11) = true)
    (a12 : PySem.W.nsIn K mainGlobals "kind_made" = some (some (.ref f12)))
    (l12 : K.lookup f12 = some ⟨oc12, od12, .func (PySem.W.fnOf "kind_made" "kind_made" (defArgs s_kind_made) (defBody s_kind_made) (defScope s_kind_made) .none kV12 dc12 pm12 an12 (.ref cd12) ct12), sl12⟩)
    (c12 : PySem.W.codeIn K (.ref cd12) "kind_made" = true) (k12 : PySem.W.keepIn K (.ref f12) = true)
    (a13 : PySem.W.nsIn K mainGlobals "kind_fetched" = some (some (.ref f13)))
    (l13 : K.lookup f13 = some ⟨oc13, od13, .func (PySem.W.fnOf "kind_fetched" "kind_fetched" (defArgs s_kind_fetched) (defBody s_kind_fetched) (defScope s_kind_fetched) .none kV13 dc13 pm13 an13 (.ref cd13) ct13), sl13⟩)
    (c13 : PySem.W.codeIn K (.ref cd13) "kind_fetched" = true) (k13 : PySem.W.keepIn K (.ref f13) = true)
    (a14 : PySem.W.nsIn K mainGlobals "uses" = some (some (.ref f14)))
    (l14 : K.lookup f14 = some ⟨oc14, od14, .func (PySem.W.fnOf "uses" "uses" (defArgs s_uses) (defBody s_uses) (defScope s_uses) .none kV14 dc14 pm14 an14 (.ref cd14) ct14), sl14⟩)
    (c14 : PySem.W.codeIn K (.ref cd14) "uses" = true) (k14 : PySem.W.keepIn K (.ref f14) = true)
    (a15 : PySem.W.nsIn K mainGlobals "clears" = some (some (.ref f15)))
    (l15 : K.lookup f15 = some ⟨oc15, od15, .func (PySem.W.fnOf "clears" "clears" (defArgs s_clears) (defBody s_clears) (defScope s_clears) .none kV15 dc15 pm15 an15 (.ref cd15) ct15), sl15⟩)
    (c15 : PySem.W.codeIn K (.ref cd15) "clears" = true) (k15 : PySem.W.keepIn K (.ref f15) = true)
    (a16 : PySem.W.nsIn K mainGlobals "access" = some (some (.ref f16)))
    (l16 : K.lookup f16 = some ⟨oc16, od16, .func (PySem.W.fnOf "access" "access" (defArgs s_access) (defBody s_access) (defScope s_access) .none kV16 dc16 pm16 an16 (.ref cd16) ct16), sl16⟩)
    (c16 : PySem.W.codeIn K (.ref cd16) "access" = true) (k16 : PySem.W.keepIn K (.ref f16) = true)
    (a17 : PySem.W.nsIn K mainGlobals "moves" = some (some (.ref f17)))
    (l17 : K.lookup f17 = some ⟨oc17, od17, .func (PySem.W.fnOf "moves" "moves" (defArgs s_moves) (defBody s_moves) (defScope s_moves) .none kV17 dc17 pm17 an17 (.ref cd17) ct17), sl17⟩)
    (c17 : PySem.W.codeIn K (.ref cd17) "moves" = true) (k17 : PySem.W.keepIn K (.ref f17) = true)
    (a18 : PySem.W.nsIn K mainGlobals "taken" = some (some (.ref f18)))
    (l18 : K.lookup f18 = some ⟨oc18, od18, .func (PySem.W.fnOf "taken" "taken" (defArgs s_taken) (defBody s_taken) (defScope s_taken) .none kV18 dc18 pm18 an18 (.ref cd18) ct18), sl18⟩)
    (c18 : PySem.W.codeIn K (.ref cd18) "taken" = true) (k18 : PySem.W.keepIn K (.ref f18) = true)
    (a19 : PySem.W.nsIn K mainGlobals "place_of" = some (some (.ref f19)))
    (l19 : K.lookup f19 = some ⟨oc19, od19, .func (PySem.W.fnOf "place_of" "place_of" (defArgs s_place_of) (defBody s_place_of) (defScope s_place_of) .none kV19 dc19 pm19 an19 (.ref cd19) ct19), sl19⟩)
    (c19 : PySem.W.codeIn K (.ref cd19) "place_of" = true) (k19 : PySem.W.keepIn K (.ref f19) = true)
    (a20 : PySem.W.nsIn K mainGlobals "leaves_of" = some (some (.ref f20)))
    (l20 : K.lookup f20 = some ⟨oc20, od20, .func (PySem.W.fnOf "leaves_of" "leaves_of" (defArgs s_leaves_of) (defBody s_leaves_of) (defScope s_leaves_of) .none kV20 dc20 pm20 an20 (.ref cd20) ct20), sl20⟩)
    (c20 : PySem.W.codeIn K (.ref cd20) "leaves_of" = true) (k20 : PySem.W.keepIn K (.ref f20) = true)
    (a21 : PySem.W.nsIn K mainGlobals "leaves_of_temporaries" = some (some (.ref f21)))
    (l21 : K.lookup f21 = some ⟨oc21, od21, .func (PySem.W.fnOf "leaves_of_temporaries" "leaves_of_temporaries" (defArgs s_leaves_of_temporaries) (defBody s_leaves_of_temporaries) (defScope s_leaves_of_temporaries) .none kV21 dc21 pm21 an21 (.ref cd21) ct21), sl21⟩)
    (c21 : PySem.W.codeIn K (.ref cd21) "leaves_of_temporaries" = true) (k21 : PySem.W.keepIn K (.ref f21) = true)
    (a22 : PySem.W.nsIn K mainGlobals "crossed_by" = some (some (.ref f22)))
    (l22 : K.lookup f22 = some ⟨oc22, od22, .func (PySem.W.fnOf "crossed_by" "crossed_by" (defArgs s_crossed_by) (defBody s_crossed_by) (defScope s_crossed_by) .none kV22 dc22 pm22 an22 (.ref cd22) ct22), sl22⟩)
    (c22 : PySem.W.codeIn K (.ref cd22) "crossed_by" = true) (k22 : PySem.W.keepIn K (.ref f22) = true)
    (a23 : PySem.W.nsIn K mainGlobals "pairs_between" = some (some (.ref f23)))
    (l23 : K.lookup f23 = some ⟨oc23, od23, .func (PySem.W.fnOf "pairs_between" "pairs_between" (defArgs s_pairs_between) (defBody s_pairs_between) (defScope s_pairs_between) .none kV23 dc23 pm23 an23 (.ref cd23) ct23), sl23⟩)
    (c23 : PySem.W.codeIn K (.ref cd23) "pairs_between" = true) (k23 : PySem.W.keepIn K (.ref f23) = true)
    (a24 : PySem.W.nsIn K mainGlobals "pairs_into" = some (some (.ref f24)))
    (l24 : K.lookup f24 = some ⟨oc24, od24, .func (PySem.W.fnOf "pairs_into" "pairs_into" (defArgs s_pairs_into) (defBody s_pairs_into) (defScope s_pairs_into) .none kV24 dc24 pm24 an24 (.ref cd24) ct24), sl24⟩)
    (c24 : PySem.W.codeIn K (.ref cd24) "pairs_into" = true) (k24 : PySem.W.keepIn K (.ref f24) = true)
    (a25 : PySem.W.nsIn K mainGlobals "pairs_through" = some (some (.ref f25)))
    (l25 : K.lookup f25 = some ⟨oc25, od25, .func (PySem.W.fnOf "pairs_through" "pairs_through" (defArgs s_pairs_through) (defBody s_pairs_through) (defScope s_pairs_through) .none kV25 dc25 pm25 an25 (.ref cd25) ct25), sl25⟩)
    (c25 : PySem.W.codeIn K (.ref cd25) "pairs_through" = true) (k25 : PySem.W.keepIn K (.ref f25) = true)
    (a26 : PySem.W.findIn K (.ref C_Graph) "__init__" = some (some (.ref f26))) (i26 : PySem.W.isFn K (.ref f26) = true)
    (l26 : K.lookup f26 = some ⟨oc26, od26, .func (PySem.W.fnOf "__init__" "Graph.__init__" (defArgs s_Graph___init__) (defBody s_Graph___init__) (defScope s_Graph___init__) .none kV26 dc26 pm26 an26 (.ref cd26) ct26), sl26⟩)
    (c26 : PySem.W.codeIn K (.ref cd26) "Graph.__init__" = true) (k26 : PySem.W.keepIn K (.ref f26) = true)
    (a27 : PySem.W.nsIn K mainGlobals "build_graph" = some (some (.ref f27)))
    (l27 : K.lookup f27 = some ⟨oc27, od27, .func (PySem.W.fnOf "build_graph" "build_graph" (defArgs s_build_graph) (defBody s_build_graph) (defScope s_build_graph) .none kV27 dc27 pm27 an27 (.ref cd27) ct27), sl27⟩)
    (c27 : PySem.W.codeIn K (.ref cd27) "build_graph" = true) (k27 : PySem.W.keepIn K (.ref f27) = true)
    (a28 : PySem.W.findIn K (.ref C_Lowering) "__init__" = some (some (.ref f28))) (i28 : PySem.W.isFn K (.ref f28) = true)
    (l28 : K.lookup f28 = some ⟨oc28, od28, .func (PySem.W.fnOf "__init__" "Lowering.__init__" (defArgs s_Lowering___init__) (defBody s_Lowering___init__) (defScope s_Lowering___init__) .none kV28 dc28 pm28 an28 (.ref cd28) ct28), sl28⟩)
    (c28 : PySem.W.codeIn K (.ref cd28) "Lowering.__init__" = true) (k28 : PySem.W.keepIn K (.ref f28) = true)
    (a29 : PySem.W.findIn K (.ref C_Lowering) "lower_function" = some (some (.ref f29))) (i29 : PySem.W.isFn K (.ref f29) = true)
    (l29 : K.lookup f29 = some ⟨oc29, od29, .func (PySem.W.fnOf "lower_function" "Lowering.lower_function" (defArgs s_Lowering_lower_function) (defBody s_Lowering_lower_function) (defScope s_Lowering_lower_function) .none kV29 dc29 pm29 an29 (.ref cd29) ct29), sl29⟩)
    (c29 : PySem.W.codeIn K (.ref cd29) "Lowering.lower_function" = true) (k29 : PySem.W.keepIn K (.ref f29) = true)
    (a30 : PySem.W.findIn K (.ref C_Lowering) "add_point" = some (some (.ref f30))) (i30 : PySem.W.isFn K (.ref f30) = true)
    (l30 : K.lookup f30 = some ⟨oc30, od30, .func (PySem.W.fnOf "add_point" "Lowering.add_point" (defArgs s_Lowering_add_point) (defBody s_Lowering_add_point) (defScope s_Lowering_add_point) .none kV30 dc30 pm30 an30 (.ref cd30) ct30), sl30⟩)
    (c30 : PySem.W.codeIn K (.ref cd30) "Lowering.add_point" = true) (k30 : PySem.W.keepIn K (.ref f30) = true)
    (a31 : PySem.W.findIn K (.ref C_Lowering) "add_end" = some (some (.ref f31))) (i31 : PySem.W.isFn K (.ref f31) = true)
    (l31 : K.lookup f31 = some ⟨oc31, od31, .func (PySem.W.fnOf "add_end" "Lowering.add_end" (defArgs s_Lowering_add_end) (defBody s_Lowering_add_end) (defScope s_Lowering_add_end) .none kV31 dc31 pm31 an31 (.ref cd31) ct31), sl31⟩)
    (c31 : PySem.W.codeIn K (.ref cd31) "Lowering.add_end" = true) (k31 : PySem.W.keepIn K (.ref f31) = true)
    (a32 : PySem.W.findIn K (.ref C_Lowering) "add_drops" = some (some (.ref f32))) (i32 : PySem.W.isFn K (.ref f32) = true)
    (l32 : K.lookup f32 = some ⟨oc32, od32, .func (PySem.W.fnOf "add_drops" "Lowering.add_drops" (defArgs s_Lowering_add_drops) (defBody s_Lowering_add_drops) (defScope s_Lowering_add_drops) .none kV32 dc32 pm32 an32 (.ref cd32) ct32), sl32⟩)
    (c32 : PySem.W.codeIn K (.ref cd32) "Lowering.add_drops" = true) (k32 : PySem.W.keepIn K (.ref f32) = true)
    (a33 : PySem.W.findIn K (.ref C_Lowering) "add_leave" = some (some (.ref f33))) (i33 : PySem.W.isFn K (.ref f33) = true)
    (l33 : K.lookup f33 = some ⟨oc33, od33, .func (PySem.W.fnOf "add_leave" "Lowering.add_leave" (defArgs s_Lowering_add_leave) (defBody s_Lowering_add_leave) (defScope s_Lowering_add_leave) .none kV33 dc33 pm33 an33 (.ref cd33) ct33), sl33⟩)
    (c33 : PySem.W.codeIn K (.ref cd33) "Lowering.add_leave" = true) (k33 : PySem.W.keepIn K (.ref f33) = true)
    (a34 : PySem.W.findIn K (.ref C_Lowering) "lower_block" = some (some (.ref f34))) (i34 : PySem.W.isFn K (.ref f34) = true)
    (l34 : K.lookup f34 = some ⟨oc34, od34, .func (PySem.W.fnOf "lower_block" "Lowering.lower_block" (defArgs s_Lowering_lower_block) (defBody s_Lowering_lower_block) (defScope s_Lowering_lower_block) .none kV34 dc34 pm34 an34 (.ref cd34) ct34), sl34⟩)
    (c34 : PySem.W.codeIn K (.ref cd34) "Lowering.lower_block" = true) (k34 : PySem.W.keepIn K (.ref f34) = true)
    (a35 : PySem.W.findIn K (.ref C_Lowering) "lower_statement" = some (some (.ref f35))) (i35 : PySem.W.isFn K (.ref f35) = true)
    (l35 : K.lookup f35 = some ⟨oc35, od35, .func (PySem.W.fnOf "lower_statement" "Lowering.lower_statement" (defArgs s_Lowering_lower_statement) (defBody s_Lowering_lower_statement) (defScope s_Lowering_lower_statement) .none kV35 dc35 pm35 an35 (.ref cd35) ct35), sl35⟩)
    (c35 : PySem.W.codeIn K (.ref cd35) "Lowering.lower_statement" = true) (k35 : PySem.W.keepIn K (.ref f35) = true)
    (a36 : PySem.W.findIn K (.ref C_Lowering) "lower_let" = some (some (.ref f36))) (i36 : PySem.W.isFn K (.ref f36) = true)
    (l36 : K.lookup f36 = some ⟨oc36, od36, .func (PySem.W.fnOf "lower_let" "Lowering.lower_let" (defArgs s_Lowering_lower_let) (defBody s_Lowering_lower_let) (defScope s_Lowering_lower_let) .none kV36 dc36 pm36 an36 (.ref cd36) ct36), sl36⟩)
    (c36 : PySem.W.codeIn K (.ref cd36) "Lowering.lower_let" = true) (k36 : PySem.W.keepIn K (.ref f36) = true)
    (a37 : PySem.W.findIn K (.ref C_Lowering) "lower_if" = some (some (.ref f37))) (i37 : PySem.W.isFn K (.ref f37) = true)
    (l37 : K.lookup f37 = some ⟨oc37, od37, .func (PySem.W.fnOf "lower_if" "Lowering.lower_if" (defArgs s_Lowering_lower_if) (defBody s_Lowering_lower_if) (defScope s_Lowering_lower_if) .none kV37 dc37 pm37 an37 (.ref cd37) ct37), sl37⟩)
    (c37 : PySem.W.codeIn K (.ref cd37) "Lowering.lower_if" = true) (k37 : PySem.W.keepIn K (.ref f37) = true)
    (a38 : PySem.W.findIn K (.ref C_Lowering) "lower_while" = some (some (.ref f38))) (i38 : PySem.W.isFn K (.ref f38) = true)
    (l38 : K.lookup f38 = some ⟨oc38, od38, .func (PySem.W.fnOf "lower_while" "Lowering.lower_while" (defArgs s_Lowering_lower_while) (defBody s_Lowering_lower_while) (defScope s_Lowering_lower_while) .none kV38 dc38 pm38 an38 (.ref cd38) ct38), sl38⟩)
    (c38 : PySem.W.codeIn K (.ref cd38) "Lowering.lower_while" = true) (k38 : PySem.W.keepIn K (.ref f38) = true)
    (a39 : PySem.W.findIn K (.ref C_Lowering) "lower_expression" = some (some (.ref f39))) (i39 : PySem.W.isFn K (.ref f39) = true)
    (l39 : K.lookup f39 = some ⟨oc39, od39, .func (PySem.W.fnOf "lower_expression" "Lowering.lower_expression" (defArgs s_Lowering_lower_expression) (defBody s_Lowering_lower_expression) (defScope s_Lowering_lower_expression) .none kV39 dc39 pm39 an39 (.ref cd39) ct39), sl39⟩)
    (c39 : PySem.W.codeIn K (.ref cd39) "Lowering.lower_expression" = true) (k39 : PySem.W.keepIn K (.ref f39) = true)
    (a40 : PySem.W.nsIn K mainGlobals "instruction_for" = some (some (.ref f40)))
    (l40 : K.lookup f40 = some ⟨oc40, od40, .func (PySem.W.fnOf "instruction_for" "instruction_for" (defArgs s_instruction_for) (defBody s_instruction_for) (defScope s_instruction_for) .none kV40 dc40 pm40 an40 (.ref cd40) ct40), sl40⟩)
    (c40 : PySem.W.codeIn K (.ref cd40) "instruction_for" = true) (k40 : PySem.W.keepIn K (.ref f40) = true)
    (a41 : PySem.W.nsIn K mainGlobals "loans" = some (some (.ref f41)))
    (l41 : K.lookup f41 = some ⟨oc41, od41, .func (PySem.W.fnOf "loans" "loans" (defArgs s_loans) (defBody s_loans) (defScope s_loans) .none kV41 dc41 pm41 an41 (.ref cd41) ct41), sl41⟩)
    (c41 : PySem.W.codeIn K (.ref cd41) "loans" = true) (k41 : PySem.W.keepIn K (.ref f41) = true)
    (a42 : PySem.W.nsIn K mainGlobals "makes_loan" = some (some (.ref f42)))
    (l42 : K.lookup f42 = some ⟨oc42, od42, .func (PySem.W.fnOf "makes_loan" "makes_loan" (defArgs s_makes_loan) (defBody s_makes_loan) (defScope s_makes_loan) .none kV42 dc42 pm42 an42 (.ref cd42) ct42), sl42⟩)
    (c42 : PySem.W.codeIn K (.ref cd42) "makes_loan" = true) (k42 : PySem.W.keepIn K (.ref f42) = true)
    (a43 : PySem.W.nsIn K mainGlobals "_law_tape" = some (some (.ref f43)))
    (l43 : K.lookup f43 = some ⟨oc43, od43, .func (PySem.W.fnOf "_law_tape" "_law_tape" (defArgs s__law_tape) (defBody s__law_tape) (defScope s__law_tape) .none kV43 dc43 pm43 an43 (.ref cd43) ct43), sl43⟩)
    (c43 : PySem.W.codeIn K (.ref cd43) "_law_tape" = true) (k43 : PySem.W.keepIn K (.ref f43) = true)
    (a44 : PySem.W.nsIn K mainGlobals "_law_next" = some (some (.ref f44)))
    (l44 : K.lookup f44 = some ⟨oc44, od44, .func (PySem.W.fnOf "_law_next" "_law_next" (defArgs s__law_next) (defBody s__law_next) (defScope s__law_next) .none kV44 dc44 pm44 an44 (.ref cd44) ct44), sl44⟩)
    (c44 : PySem.W.codeIn K (.ref cd44) "_law_next" = true) (k44 : PySem.W.keepIn K (.ref f44) = true)
    (a45 : PySem.W.nsIn K mainGlobals "_law_parameters" = some (some (.ref f45)))
    (l45 : K.lookup f45 = some ⟨oc45, od45, .func (PySem.W.fnOf "_law_parameters" "_law_parameters" (defArgs s__law_parameters) (defBody s__law_parameters) (defScope s__law_parameters) .none kV45 dc45 pm45 an45 (.ref cd45) ct45), sl45⟩)
    (c45 : PySem.W.codeIn K (.ref cd45) "_law_parameters" = true) (k45 : PySem.W.keepIn K (.ref f45) = true)
    (a46 : PySem.W.nsIn K mainGlobals "_law_places" = some (some (.ref f46)))
    (l46 : K.lookup f46 = some ⟨oc46, od46, .func (PySem.W.fnOf "_law_places" "_law_places" (defArgs s__law_places) (defBody s__law_places) (defScope s__law_places) .none kV46 dc46 pm46 an46 (.ref cd46) ct46), sl46⟩)
    (c46 : PySem.W.codeIn K (.ref cd46) "_law_places" = true) (k46 : PySem.W.keepIn K (.ref f46) = true)
    (a47 : PySem.W.nsIn K mainGlobals "_law_kind" = some (some (.ref f47)))
    (l47 : K.lookup f47 = some ⟨oc47, od47, .func (PySem.W.fnOf "_law_kind" "_law_kind" (defArgs s__law_kind) (defBody s__law_kind) (defScope s__law_kind) .none kV47 dc47 pm47 an47 (.ref cd47) ct47), sl47⟩)
    (c47 : PySem.W.codeIn K (.ref cd47) "_law_kind" = true) (k47 : PySem.W.keepIn K (.ref f47) = true)
    (a48 : PySem.W.nsIn K mainGlobals "_law_crossing" = some (some (.ref f48)))
    (l48 : K.lookup f48 = some ⟨oc48, od48, .func (PySem.W.fnOf "_law_crossing" "_law_crossing" (defArgs s__law_crossing) (defBody s__law_crossing) (defScope s__law_crossing) .none kV48 dc48 pm48 an48 (.ref cd48) ct48), sl48⟩)
    (c48 : PySem.W.codeIn K (.ref cd48) "_law_crossing" = true) (k48 : PySem.W.keepIn K (.ref f48) = true)
    (a49 : PySem.W.nsIn K mainGlobals "_law_leaves" = some (some (.ref f49)))
    (l49 : K.lookup f49 = some ⟨oc49, od49, .func (PySem.W.fnOf "_law_leaves" "_law_leaves" (defArgs s__law_leaves) (defBody s__law_leaves) (defScope s__law_leaves) .none kV49 dc49 pm49 an49 (.ref cd49) ct49), sl49⟩)
    (c49 : PySem.W.codeIn K (.ref cd49) "_law_leaves" = true) (k49 : PySem.W.keepIn K (.ref f49) = true)
    (a50 : PySem.W.nsIn K mainGlobals "_law_plain" = some (some (.ref f50)))
    (l50 : K.lookup f50 = some ⟨oc50, od50, .func (PySem.W.fnOf "_law_plain" "_law_plain" (defArgs s__law_plain) (defBody s__law_plain) (defScope s__law_plain) .none kV50 dc50 pm50 an50 (.ref cd50) ct50), sl50⟩)
    (c50 : PySem.W.codeIn K (.ref cd50) "_law_plain" = true) (k50 : PySem.W.keepIn K (.ref f50) = true)
    (a51 : PySem.W.nsIn K mainGlobals "_law_value" = some (some (.ref f51)))
    (l51 : K.lookup f51 = some ⟨oc51, od51, .func (PySem.W.fnOf "_law_value" "_law_value" (defArgs s__law_value) (defBody s__law_value) (defScope s__law_value) .none kV51 dc51 pm51 an51 (.ref cd51) ct51), sl51⟩)
    (c51 : PySem.W.codeIn K (.ref cd51) "_law_value" = true) (k51 : PySem.W.keepIn K (.ref f51) = true)
    (a52 : PySem.W.nsIn K mainGlobals "_law_statement" = some (some (.ref f52)))
    (l52 : K.lookup f52 = some ⟨oc52, od52, .func (PySem.W.fnOf "_law_statement" "_law_statement" (defArgs s__law_statement) (defBody s__law_statement) (defScope s__law_statement) .none kV52 dc52 pm52 an52 (.ref cd52) ct52), sl52⟩)
    (c52 : PySem.W.codeIn K (.ref cd52) "_law_statement" = true) (k52 : PySem.W.keepIn K (.ref f52) = true)
    (a53 : PySem.W.nsIn K mainGlobals "_law_due" = some (some (.ref f53)))
    (l53 : K.lookup f53 = some ⟨oc53, od53, .func (PySem.W.fnOf "_law_due" "_law_due" (defArgs s__law_due) (defBody s__law_due) (defScope s__law_due) .none kV53 dc53 pm53 an53 (.ref cd53) ct53), sl53⟩)
    (c53 : PySem.W.codeIn K (.ref cd53) "_law_due" = true) (k53 : PySem.W.keepIn K (.ref f53) = true)
    (a54 : PySem.W.nsIn K mainGlobals "_law_right" = some (some (.ref f54)))
    (l54 : K.lookup f54 = some ⟨oc54, od54, .func (PySem.W.fnOf "_law_right" "_law_right" (defArgs s__law_right) (defBody s__law_right) (defScope s__law_right) .none kV54 dc54 pm54 an54 (.ref cd54) ct54), sl54⟩)
    (c54 : PySem.W.codeIn K (.ref cd54) "_law_right" = true) (k54 : PySem.W.keepIn K (.ref f54) = true)
    (a55 : PySem.W.nsIn K mainGlobals "law" = some (some (.ref f55)))
    (l55 : K.lookup f55 = some ⟨oc55, od55, .func (PySem.W.fnOf "law" "law" (defArgs s_law) (defBody s_law) (defScope s_law) .none kV55 dc55 pm55 an55 (.ref cd55) ct55), sl55⟩)
    (c55 : PySem.W.codeIn K (.ref cd55) "law" = true) (k55 : PySem.W.keepIn K (.ref f55) = true) :
    LamX.LawAtS l w K CX0 83 63 "script" mg fa h := by
  have e := hfa.symm.trans (PySem.W.mg_of X G a55)
  cases e
  let T : Txt w K mg := {
    tb := [P1],
    z_len := PySem.W.mg_none_of X G z_len,
    z_int := PySem.W.mg_none_of X G z_int,
    z_bool := PySem.W.mg_none_of X G z_bool,
    z_abs := PySem.W.mg_none_of X G z_abs,
    z_range := PySem.W.mg_none_of X G z_range,
    z_tuple := PySem.W.mg_none_of X G z_tuple,
    z_all := PySem.W.mg_none_of X G z_all,
    z_list := PySem.W.mg_none_of X G z_list,
    z_str := PySem.W.mg_none_of X G z_str,
    z_isinstance := PySem.W.mg_none_of X G z_isinstance,
    z_reversed := PySem.W.mg_none_of X G z_reversed,
    z_max := PySem.W.mg_none_of X G z_max,
    z_sum := PySem.W.mg_none_of X G z_sum,
    z_enumerate := PySem.W.mg_none_of X G z_enumerate,
    z_dict := PySem.W.mg_none_of X G z_dict,
    z_zip := PySem.W.mg_none_of X G z_zip,
    a_BORROWS := A_BORROWS,
    g_BORROWS := PySem.W.mg_of X G b_BORROWS,
    d_BORROWS := dr_con (xs := [.str "shared", .str "exclusive"]) (.inr ⟨_, _, _, w_BORROWS, rfl, rfl, by show 2 ≤ sizeLine; decide, (.cons ⟨t0_BORROWS, rfl⟩ (.cons ⟨t1_BORROWS, rfl⟩ .nil))⟩) fun _ => (.cons (.str _) (.cons (.str _) .nil)),
    a_LEAF_WORDS := A_LEAF_WORDS,
    g_LEAF_WORDS := PySem.W.mg_of X G b_LEAF_WORDS,
    d_LEAF_WORDS := dr_con (xs := [.str "shared", .str "exclusive", .str "task"]) (.inr ⟨_, _, _, w_LEAF_WORDS, rfl, rfl, by show 3 ≤ sizeLine; decide, (.cons ⟨t0_LEAF_WORDS, rfl⟩ (.cons ⟨t1_LEAF_WORDS, rfl⟩ (.cons ⟨t2_LEAF_WORDS, rfl⟩ .nil)))⟩) fun _ => (.cons (.str _) (.cons (.str _) (.cons (.str _) .nil))),
    a_SINGLE_WORDS := A_SINGLE_WORDS,
    g_SINGLE_WORDS := PySem.W.mg_of X G b_SINGLE_WORDS,
    d_SINGLE_WORDS := dr_con (xs := [.str "int", .str "bool", .str "unit", .str "record"]) (.inr ⟨_, _, _, w_SINGLE_WORDS, rfl, rfl, by show 4 ≤ sizeLine; decide, (.cons ⟨t0_SINGLE_WORDS, rfl⟩ (.cons ⟨t1_SINGLE_WORDS, rfl⟩ (.cons ⟨t2_SINGLE_WORDS, rfl⟩ (.cons ⟨t3_SINGLE_WORDS, rfl⟩ .nil))))⟩) fun _ => (.cons (.str _) (.cons (.str _) (.cons (.str _) (.cons (.str _) .nil)))),
    a_SIGN_KINDS := A_SIGN_KINDS,
    g_SIGN_KINDS := PySem.W.mg_of X G b_SIGN_KINDS,
    d_SIGN_KINDS := fun z d e => dct_tab w_SIGN_KINDS l_SIGN_KINDS (List.forall_mem_cons.mpr ⟨⟨_, .ref T0_SIGN_KINDS, y0_SIGN_KINDS, rfl, dr_con (xs := [.str "int"]) (.inr ⟨_, _, _, q0_SIGN_KINDS, rfl, rfl, by show 1 ≤ sizeLine; decide, (.cons ⟨u0_0_SIGN_KINDS, rfl⟩ .nil)⟩) fun _ => (.cons (.str _) .nil)⟩,
      (List.forall_mem_cons.mpr ⟨⟨_, .ref T1_SIGN_KINDS, y1_SIGN_KINDS, rfl, dr_con (xs := [.str "int"]) (.inr ⟨_, _, _, q1_SIGN_KINDS, rfl, rfl, by show 1 ≤ sizeLine; decide, (.cons ⟨u1_0_SIGN_KINDS, rfl⟩ .nil)⟩) fun _ => (.cons (.str _) .nil)⟩,
      (List.forall_mem_cons.mpr ⟨⟨_, .ref T2_SIGN_KINDS, y2_SIGN_KINDS, rfl, dr_con (xs := [.str "int"]) (.inr ⟨_, _, _, q2_SIGN_KINDS, rfl, rfl, by show 1 ≤ sizeLine; decide, (.cons ⟨u2_0_SIGN_KINDS, rfl⟩ .nil)⟩) fun _ => (.cons (.str _) .nil)⟩,
      (List.forall_mem_cons.mpr ⟨⟨_, .ref T3_SIGN_KINDS, y3_SIGN_KINDS, rfl, dr_con (xs := [.str "bool"]) (.inr ⟨_, _, _, q3_SIGN_KINDS, rfl, rfl, by show 1 ≤ sizeLine; decide, (.cons ⟨u3_0_SIGN_KINDS, rfl⟩ .nil)⟩) fun _ => (.cons (.str _) .nil)⟩,
      (List.forall_mem_cons.mpr ⟨⟨_, .ref T4_SIGN_KINDS, y4_SIGN_KINDS, rfl, dr_con (xs := [.str "bool"]) (.inr ⟨_, _, _, q4_SIGN_KINDS, rfl, rfl, by show 1 ≤ sizeLine; decide, (.cons ⟨u4_0_SIGN_KINDS, rfl⟩ .nil)⟩) fun _ => (.cons (.str _) .nil)⟩,
      (List.forall_mem_cons.mpr ⟨⟨_, .ref T5_SIGN_KINDS, y5_SIGN_KINDS, rfl, dr_con (xs := [.str "bool"]) (.inr ⟨_, _, _, q5_SIGN_KINDS, rfl, rfl, by show 1 ≤ sizeLine; decide, (.cons ⟨u5_0_SIGN_KINDS, rfl⟩ .nil)⟩) fun _ => (.cons (.str _) .nil)⟩,
      (List.forall_mem_cons.mpr ⟨⟨_, .ref T6_SIGN_KINDS, y6_SIGN_KINDS, rfl, dr_con (xs := [.str "bool"]) (.inr ⟨_, _, _, q6_SIGN_KINDS, rfl, rfl, by show 1 ≤ sizeLine; decide, (.cons ⟨u6_0_SIGN_KINDS, rfl⟩ .nil)⟩) fun _ => (.cons (.str _) .nil)⟩,
      (fun _ z => absurd z List.not_mem_nil)⟩)⟩)⟩)⟩)⟩)⟩)⟩) z d e,
    a_PLACE_AT := A_PLACE_AT,
    g_PLACE_AT := PySem.W.mg_of X G b_PLACE_AT,
    d_PLACE_AT := fun z d e => dct_tab w_PLACE_AT l_PLACE_AT (List.forall_mem_cons.mpr ⟨⟨_, .int 2, y0_PLACE_AT, ⟨_, rfl⟩, fun _ => .int _⟩,
      (List.forall_mem_cons.mpr ⟨⟨_, .int 2, y1_PLACE_AT, ⟨_, rfl⟩, fun _ => .int _⟩,
      (List.forall_mem_cons.mpr ⟨⟨_, .int 3, y2_PLACE_AT, ⟨_, rfl⟩, fun _ => .int _⟩,
      (List.forall_mem_cons.mpr ⟨⟨_, .int 2, y3_PLACE_AT, ⟨_, rfl⟩, fun _ => .int _⟩,
      (List.forall_mem_cons.mpr ⟨⟨_, .int 1, y4_PLACE_AT, ⟨_, rfl⟩, fun _ => .int _⟩,
      (List.forall_mem_cons.mpr ⟨⟨_, .int 2, y5_PLACE_AT, ⟨_, rfl⟩, fun _ => .int _⟩,
      (fun _ z => absurd z List.not_mem_nil)⟩)⟩)⟩)⟩)⟩)⟩) z d e,
    e_PLACE_AT := E_PLACE_AT,
    n_PLACE_AT := N_PLACE_AT,
    i_PLACE_AT := ⟨w_PLACE_AT, l_PLACE_AT, s_PLACE_AT⟩,
    j_PLACE_AT := (List.forall_mem_cons.mpr ⟨⟨_, y0_PLACE_AT⟩, (List.forall_mem_cons.mpr ⟨⟨_, y1_PLACE_AT⟩, (List.forall_mem_cons.mpr ⟨⟨_, y2_PLACE_AT⟩, (List.forall_mem_cons.mpr ⟨⟨_, y3_PLACE_AT⟩, (List.forall_mem_cons.mpr ⟨⟨_, y4_PLACE_AT⟩, (List.forall_mem_cons.mpr ⟨⟨_, y5_PLACE_AT⟩, (fun _ z => absurd z List.not_mem_nil)⟩)⟩)⟩)⟩)⟩)⟩),
    o_PLACE_AT := (List.forall_mem_cons.mpr ⟨o0_PLACE_AT, (List.forall_mem_cons.mpr ⟨o1_PLACE_AT, (List.forall_mem_cons.mpr ⟨o2_PLACE_AT, (List.forall_mem_cons.mpr ⟨o3_PLACE_AT, (List.forall_mem_cons.mpr ⟨o4_PLACE_AT, (List.forall_mem_cons.mpr ⟨o5_PLACE_AT, (List.forall_mem_cons.mpr ⟨o6_PLACE_AT, (List.forall_mem_cons.mpr ⟨o7_PLACE_AT, (List.forall_mem_cons.mpr ⟨o8_PLACE_AT, (List.forall_mem_cons.mpr ⟨o9_PLACE_AT, (List.forall_mem_cons.mpr ⟨o10_PLACE_AT, (List.forall_mem_cons.mpr ⟨o11_PLACE_AT, (List.forall_mem_cons.mpr ⟨o12_PLACE_AT, (fun _ z => absurd z List.not_mem_nil)⟩)⟩)⟩)⟩)⟩)⟩)⟩)⟩)⟩)⟩)⟩)⟩)⟩),
    a_ACCESS_MODES := A_ACCESS_MODES,
    g_ACCESS_MODES := PySem.W.mg_of X G b_ACCESS_MODES,
    d_ACCESS_MODES := fun z d e => dct_tab w_ACCESS_MODES l_ACCESS_MODES (List.forall_mem_cons.mpr ⟨⟨_, .str "read", y0_ACCESS_MODES, ⟨_, rfl⟩, fun _ => .str _⟩,
      (List.forall_mem_cons.mpr ⟨⟨_, .str "move", y1_ACCESS_MODES, ⟨_, rfl⟩, fun _ => .str _⟩,
      (List.forall_mem_cons.mpr ⟨⟨_, .str "read", y2_ACCESS_MODES, ⟨_, rfl⟩, fun _ => .str _⟩,
      (List.forall_mem_cons.mpr ⟨⟨_, .str "store", y3_ACCESS_MODES, ⟨_, rfl⟩, fun _ => .str _⟩,
      (List.forall_mem_cons.mpr ⟨⟨_, .str "write", y4_ACCESS_MODES, ⟨_, rfl⟩, fun _ => .str _⟩,
      (List.forall_mem_cons.mpr ⟨⟨_, .str "store", y5_ACCESS_MODES, ⟨_, rfl⟩, fun _ => .str _⟩,
      (fun _ z => absurd z List.not_mem_nil)⟩)⟩)⟩)⟩)⟩)⟩) z d e,
    e_ACCESS_MODES := E_ACCESS_MODES,
    n_ACCESS_MODES := N_ACCESS_MODES,
    i_ACCESS_MODES := ⟨w_ACCESS_MODES, l_ACCESS_MODES, s_ACCESS_MODES⟩,
    j_ACCESS_MODES := (List.forall_mem_cons.mpr ⟨⟨_, y0_ACCESS_MODES⟩, (List.forall_mem_cons.mpr ⟨⟨_, y1_ACCESS_MODES⟩, (List.forall_mem_cons.mpr ⟨⟨_, y2_ACCESS_MODES⟩, (List.forall_mem_cons.mpr ⟨⟨_, y3_ACCESS_MODES⟩, (List.forall_mem_cons.mpr ⟨⟨_, y4_ACCESS_MODES⟩, (List.forall_mem_cons.mpr ⟨⟨_, y5_ACCESS_MODES⟩, (fun _ z => absurd z List.not_mem_nil)⟩)⟩)⟩)⟩)⟩)⟩),
    o_ACCESS_MODES := (List.forall_mem_cons.mpr ⟨o0_ACCESS_MODES, (List.forall_mem_cons.mpr ⟨o1_ACCESS_MODES, (List.forall_mem_cons.mpr ⟨o2_ACCESS_MODES, (List.forall_mem_cons.mpr ⟨o3_ACCESS_MODES, (List.forall_mem_cons.mpr ⟨o4_ACCESS_MODES, (List.forall_mem_cons.mpr ⟨o5_ACCESS_MODES, (List.forall_mem_cons.mpr ⟨o6_ACCESS_MODES, (List.forall_mem_cons.mpr ⟨o7_ACCESS_MODES, (List.forall_mem_cons.mpr ⟨o8_ACCESS_MODES, (List.forall_mem_cons.mpr ⟨o9_ACCESS_MODES, (List.forall_mem_cons.mpr ⟨o10_ACCESS_MODES, (List.forall_mem_cons.mpr ⟨o11_ACCESS_MODES, (List.forall_mem_cons.mpr ⟨o12_ACCESS_MODES, (fun _ z => absurd z List.not_mem_nil)⟩)⟩)⟩)⟩)⟩)⟩)⟩)⟩)⟩)⟩)⟩)⟩)⟩),
    C_Graph := C_Graph,
    g_Graph := PySem.W.mg_of X G gc_Graph,
    cl_Graph := ⟨pg_Graph, hd_Graph, po_Graph, sa_Graph⟩,
    na_Graph_kinds := na_Graph_kinds,
    na_Graph_name := na_Graph_name,
    na_Graph_parameters := na_Graph_parameters,
    na_Graph_points := na_Graph_points,
    na_Graph_result := na_Graph_result,
    na_Graph_sources := na_Graph_sources,
    na_Graph_successors := na_Graph_successors,
    C_Lowering := C_Lowering,
    g_Lowering := PySem.W.mg_of X G gc_Lowering,
    cl_Lowering := ⟨pg_Lowering, hd_Lowering, po_Lowering, sa_Lowering⟩,
    na_Lowering_graph := na_Lowering_graph,
    na_Lowering_program := na_Lowering_program,
    na_Lowering_scope := na_Lowering_scope,
    na_Lowering_temporaries := na_Lowering_temporaries,
    kinds_inside := ⟨f0, _, cd0, ⟨⟨oc0, od0, kV0, dc0, pm0, an0, ct0, sl0, rfl, l0, c0⟩, k0⟩, PySem.W.mg_of X G a0, (fun_mk (st := s_kinds_inside) l0 c0 k0).binds (ps := ["kind"]) fun _ _ _ _ _ _ us hl => match us, hl with | [_], _ => rfl⟩,
    is_copy := ⟨f1, _, cd1, ⟨⟨oc1, od1, kV1, dc1, pm1, an1, ct1, sl1, rfl, l1, c1⟩, k1⟩, PySem.W.mg_of X G a1, (fun_mk (st := s_is_copy) l1 c1 k1).binds (ps := ["kind"]) fun _ _ _ _ _ _ us hl => match us, hl with | [_], _ => rfl⟩,
    P_is_copy := P1,
    hP_is_copy := by simp,
    leaves := ⟨f2, _, cd2, ⟨⟨oc2, od2, kV2, dc2, pm2, an2, ct2, sl2, rfl, l2, c2⟩, k2⟩, PySem.W.mg_of X G a2, (fun_mk (st := s_leaves) l2 c2 k2).binds (ps := ["kind"]) fun _ _ _ _ _ _ us hl => match us, hl with | [_], _ => rfl⟩,
    kind_after := ⟨f3, _, cd3, ⟨⟨oc3, od3, kV3, dc3, pm3, an3, ct3, sl3, rfl, l3, c3⟩, k3⟩, PySem.W.mg_of X G a3, (fun_mk (st := s_kind_after) l3 c3 k3).binds (ps := ["records", "kind", "step"]) fun _ _ _ _ _ _ us hl => match us, hl with | [_, _, _], _ => rfl⟩,
    is_item := ⟨f4, _, cd4, ⟨⟨oc4, od4, kV4, dc4, pm4, an4, ct4, sl4, rfl, l4, c4⟩, k4⟩, PySem.W.mg_of X G a4, (fun_mk (st := s_is_item) l4 c4 k4).binds (ps := ["items", "step"]) fun _ _ _ _ _ _ us hl => match us, hl with | [_, _], _ => rfl⟩,
    fields_of := ⟨f5, _, cd5, ⟨⟨oc5, od5, kV5, dc5, pm5, an5, ct5, sl5, rfl, l5, c5⟩, k5⟩, PySem.W.mg_of X G a5, (fun_mk (st := s_fields_of) l5 c5 k5).binds (ps := ["records", "name"]) fun _ _ _ _ _ _ us hl => match us, hl with | [_, _], _ => rfl⟩,
    kind_at := ⟨f6, _, cd6, ⟨⟨oc6, od6, kV6, dc6, pm6, an6, ct6, sl6, rfl, l6, c6⟩, k6⟩, PySem.W.mg_of X G a6, ⟨fun s us ws _ hl => by
      obtain ⟨u, v1, v2, rfl, rfl⟩ := g12_len hl
      exact .of_eq rfl, fun h g => g12_rel h g⟩⟩,
    crossed := ⟨f7, _, cd7, ⟨⟨oc7, od7, kV7, dc7, pm7, an7, ct7, sl7, rfl, l7, c7⟩, k7⟩, PySem.W.mg_of X G a7, ⟨fun s us ws _ hl => by
      obtain ⟨u, v1, v2, rfl, rfl⟩ := g12_len hl
      exact .of_eq rfl, fun h g => g12_rel h g⟩⟩,
    kinds_along := ⟨f8, _, cd8, ⟨⟨oc8, od8, kV8, dc8, pm8, an8, ct8, sl8, rfl, l8, c8⟩, k8⟩, PySem.W.mg_of X G a8, (fun_mk (st := s_kinds_along) l8 c8 k8).binds (ps := ["place", "records", "kinds"]) fun _ _ _ _ _ _ us hl => match us, hl with | [_, _, _], _ => rfl⟩,
    function_named := ⟨f9, _, cd9, ⟨⟨oc9, od9, kV9, dc9, pm9, an9, ct9, sl9, rfl, l9, c9⟩, k9⟩, PySem.W.mg_of X G a9, (fun_mk (st := s_function_named) l9 c9 k9).binds (ps := ["program", "name"]) fun _ _ _ _ _ _ us hl => match us, hl with | [_, _], _ => rfl⟩,
    parts_of := ⟨f10, _, cd10, ⟨⟨oc10, od10, kV10, dc10, pm10, an10, ct10, sl10, rfl, l10, c10⟩, k10⟩, PySem.W.mg_of X G a10, (fun_mk (st := s_parts_of) l10 c10 k10).binds (ps := ["expression"]) fun _ _ _ _ _ _ us hl => match us, hl with | [_], _ => rfl⟩,
    place_in := ⟨f11, _, cd11, ⟨⟨oc11, od11, kV11, dc11, pm11, an11, ct11, sl11, rfl, l11, c11⟩, k11⟩, PySem.W.mg_of X G a11, (fun_mk (st := s_place_in) l11 c11 k11).binds (ps := ["expression"]) fun _ _ _ _ _ _ us hl => match us, hl with | [_], _ => rfl⟩,
    kind_made := ⟨f12, _, cd12, ⟨⟨oc12, od12, kV12, dc12, pm12, an12, ct12, sl12, rfl, l12, c12⟩, k12⟩, PySem.W.mg_of X G a12, (fun_mk (st := s_kind_made) l12 c12 k12).binds (ps := ["program", "kinds", "expression", "inside"]) fun _ _ _ _ _ _ us hl => match us, hl with | [_, _, _, _], _ => rfl⟩,
    kind_fetched := ⟨f13, _, cd13, ⟨⟨oc13, od13, kV13, dc13, pm13, an13, ct13, sl13, rfl, l13, c13⟩, k13⟩, PySem.W.mg_of X G a13, (fun_mk (st := s_kind_fetched) l13 c13 k13).binds (ps := ["program", "kinds", "expression"]) fun _ _ _ _ _ _ us hl => match us, hl with | [_, _, _], _ => rfl⟩,
    uses := ⟨f14, _, cd14, ⟨⟨oc14, od14, kV14, dc14, pm14, an14, ct14, sl14, rfl, l14, c14⟩, k14⟩, PySem.W.mg_of X G a14, (fun_mk (st := s_uses) l14 c14 k14).binds (ps := ["program", "graph", "point"]) fun _ _ _ _ _ _ us hl => match us, hl with | [_, _, _], _ => rfl⟩,
    clears := ⟨f15, _, cd15, ⟨⟨oc15, od15, kV15, dc15, pm15, an15, ct15, sl15, rfl, l15, c15⟩, k15⟩, PySem.W.mg_of X G a15, (fun_mk (st := s_clears) l15 c15 k15).binds (ps := ["program", "graph", "point"]) fun _ _ _ _ _ _ us hl => match us, hl with | [_, _, _], _ => rfl⟩,
    access := ⟨f16, _, cd16, ⟨⟨oc16, od16, kV16, dc16, pm16, an16, ct16, sl16, rfl, l16, c16⟩, k16⟩, PySem.W.mg_of X G a16, (fun_mk (st := s_access) l16 c16 k16).binds (ps := ["program", "graph", "point"]) fun _ _ _ _ _ _ us hl => match us, hl with | [_, _, _], _ => rfl⟩,
    moves := ⟨f17, _, cd17, ⟨⟨oc17, od17, kV17, dc17, pm17, an17, ct17, sl17, rfl, l17, c17⟩, k17⟩, PySem.W.mg_of X G a17, (fun_mk (st := s_moves) l17 c17 k17).binds (ps := ["program", "graph", "point"]) fun _ _ _ _ _ _ us hl => match us, hl with | [_, _, _], _ => rfl⟩,
    taken := ⟨f18, _, cd18, ⟨⟨oc18, od18, kV18, dc18, pm18, an18, ct18, sl18, rfl, l18, c18⟩, k18⟩, PySem.W.mg_of X G a18, (fun_mk (st := s_taken) l18 c18 k18).binds (ps := ["instruction"]) fun _ _ _ _ _ _ us hl => match us, hl with | [_], _ => rfl⟩,
    place_of := ⟨f19, _, cd19, ⟨⟨oc19, od19, kV19, dc19, pm19, an19, ct19, sl19, rfl, l19, c19⟩, k19⟩, PySem.W.mg_of X G a19, (fun_mk (st := s_place_of) l19 c19 k19).binds (ps := ["instruction"]) fun _ _ _ _ _ _ us hl => match us, hl with | [_], _ => rfl⟩,
    leaves_of := ⟨f20, _, cd20, ⟨⟨oc20, od20, kV20, dc20, pm20, an20, ct20, sl20, rfl, l20, c20⟩, k20⟩, PySem.W.mg_of X G a20, (fun_mk (st := s_leaves_of) l20 c20 k20).binds (ps := ["program", "graph", "place"]) fun _ _ _ _ _ _ us hl => match us, hl with | [_, _, _], _ => rfl⟩,
    leaves_of_temporaries := ⟨f21, _, cd21, ⟨⟨oc21, od21, kV21, dc21, pm21, an21, ct21, sl21, rfl, l21, c21⟩, k21⟩, PySem.W.mg_of X G a21, (fun_mk (st := s_leaves_of_temporaries) l21 c21 k21).binds (ps := ["program", "graph", "names"]) fun _ _ _ _ _ _ us hl => match us, hl with | [_, _, _], _ => rfl⟩,
    crossed_by := ⟨f22, _, cd22, ⟨⟨oc22, od22, kV22, dc22, pm22, an22, ct22, sl22, rfl, l22, c22⟩, k22⟩, PySem.W.mg_of X G a22, (fun_mk (st := s_crossed_by) l22 c22 k22).binds (ps := ["program", "graph", "instruction"]) fun _ _ _ _ _ _ us hl => match us, hl with | [_, _, _], _ => rfl⟩,
    pairs_between := ⟨f23, _, cd23, ⟨⟨oc23, od23, kV23, dc23, pm23, an23, ct23, sl23, rfl, l23, c23⟩, k23⟩, PySem.W.mg_of X G a23, (fun_mk (st := s_pairs_between) l23 c23 k23).binds (ps := ["program", "graph", "source", "target"]) fun _ _ _ _ _ _ us hl => match us, hl with | [_, _, _, _], _ => rfl⟩,
    pairs_into := ⟨f24, _, cd24, ⟨⟨oc24, od24, kV24, dc24, pm24, an24, ct24, sl24, rfl, l24, c24⟩, k24⟩, PySem.W.mg_of X G a24, (fun_mk (st := s_pairs_into) l24 c24 k24).binds (ps := ["program", "graph", "instruction"]) fun _ _ _ _ _ _ us hl => match us, hl with | [_, _, _], _ => rfl⟩,
    pairs_through := ⟨f25, _, cd25, ⟨⟨oc25, od25, kV25, dc25, pm25, an25, ct25, sl25, rfl, l25, c25⟩, k25⟩, PySem.W.mg_of X G a25, (fun_mk (st := s_pairs_through) l25 c25 k25).binds (ps := ["program", "graph", "instruction"]) fun _ _ _ _ _ _ us hl => match us, hl with | [_, _, _], _ => rfl⟩,
    Graph___init__ := ⟨f26, _, cd26, ⟨⟨oc26, od26, kV26, dc26, pm26, an26, ct26, sl26, rfl, l26, c26⟩, k26⟩, ⟨a26, i26, k26⟩, (fun_mk (st := s_Graph___init__) l26 c26 k26).binds (ps := ["self", "function"]) fun _ _ _ _ _ _ us hl => match us, hl with | [_, _], _ => rfl⟩,
    build_graph := ⟨f27, _, cd27, ⟨⟨oc27, od27, kV27, dc27, pm27, an27, ct27, sl27, rfl, l27, c27⟩, k27⟩, PySem.W.mg_of X G a27, (fun_mk (st := s_build_graph) l27 c27 k27).binds (ps := ["program", "name"]) fun _ _ _ _ _ _ us hl => match us, hl with | [_, _], _ => rfl⟩,
    Lowering___init__ := ⟨f28, _, cd28, ⟨⟨oc28, od28, kV28, dc28, pm28, an28, ct28, sl28, rfl, l28, c28⟩, k28⟩, ⟨a28, i28, k28⟩, (fun_mk (st := s_Lowering___init__) l28 c28 k28).binds (ps := ["self", "program", "function"]) fun _ _ _ _ _ _ us hl => match us, hl with | [_, _, _], _ => rfl⟩,
    Lowering_lower_function := ⟨f29, _, cd29, ⟨⟨oc29, od29, kV29, dc29, pm29, an29, ct29, sl29, rfl, l29, c29⟩, k29⟩, ⟨a29, i29, k29⟩, (fun_mk (st := s_Lowering_lower_function) l29 c29 k29).binds (ps := ["self", "block"]) fun _ _ _ _ _ _ us hl => match us, hl with | [_, _], _ => rfl⟩,
    Lowering_add_point := ⟨f30, _, cd30, ⟨⟨oc30, od30, kV30, dc30, pm30, an30, ct30, sl30, rfl, l30, c30⟩, k30⟩, ⟨a30, i30, k30⟩, (fun_mk (st := s_Lowering_add_point) l30 c30 k30).binds (ps := ["self", "instruction"]) fun _ _ _ _ _ _ us hl => match us, hl with | [_, _], _ => rfl⟩,
    Lowering_add_end := ⟨f31, _, cd31, ⟨⟨oc31, od31, kV31, dc31, pm31, an31, ct31, sl31, rfl, l31, c31⟩, k31⟩, ⟨a31, i31, k31⟩, (fun_mk (st := s_Lowering_add_end) l31 c31 k31).binds (ps := ["self", "instruction"]) fun _ _ _ _ _ _ us hl => match us, hl with | [_, _], _ => rfl⟩,
    Lowering_add_drops := ⟨f32, _, cd32, ⟨⟨oc32, od32, kV32, dc32, pm32, an32, ct32, sl32, rfl, l32, c32⟩, k32⟩, ⟨a32, i32, k32⟩, (fun_mk (st := s_Lowering_add_drops) l32 c32 k32).binds (ps := ["self", "names"]) fun _ _ _ _ _ _ us hl => match us, hl with | [_, _], _ => rfl⟩,
    Lowering_add_leave := ⟨f33, _, cd33, ⟨⟨oc33, od33, kV33, dc33, pm33, an33, ct33, sl33, rfl, l33, c33⟩, k33⟩, ⟨a33, i33, k33⟩, (fun_mk (st := s_Lowering_add_leave) l33 c33 k33).binds (ps := ["self", "temporary"]) fun _ _ _ _ _ _ us hl => match us, hl with | [_, _], _ => rfl⟩,
    Lowering_lower_block := ⟨f34, _, cd34, ⟨⟨oc34, od34, kV34, dc34, pm34, an34, ct34, sl34, rfl, l34, c34⟩, k34⟩, ⟨a34, i34, k34⟩, (fun_mk (st := s_Lowering_lower_block) l34 c34 k34).binds (ps := ["self", "block"]) fun _ _ _ _ _ _ us hl => match us, hl with | [_, _], _ => rfl⟩,
    Lowering_lower_statement := ⟨f35, _, cd35, ⟨⟨oc35, od35, kV35, dc35, pm35, an35, ct35, sl35, rfl, l35, c35⟩, k35⟩, ⟨a35, i35, k35⟩, (fun_mk (st := s_Lowering_lower_statement) l35 c35 k35).binds (ps := ["self", "statement"]) fun _ _ _ _ _ _ us hl => match us, hl with | [_, _], _ => rfl⟩,
    Lowering_lower_let := ⟨f36, _, cd36, ⟨⟨oc36, od36, kV36, dc36, pm36, an36, ct36, sl36, rfl, l36, c36⟩, k36⟩, ⟨a36, i36, k36⟩, (fun_mk (st := s_Lowering_lower_let) l36 c36 k36).binds (ps := ["self", "statement"]) fun _ _ _ _ _ _ us hl => match us, hl with | [_, _], _ => rfl⟩,
    Lowering_lower_if := ⟨f37, _, cd37, ⟨⟨oc37, od37, kV37, dc37, pm37, an37, ct37, sl37, rfl, l37, c37⟩, k37⟩, ⟨a37, i37, k37⟩, (fun_mk (st := s_Lowering_lower_if) l37 c37 k37).binds (ps := ["self", "statement"]) fun _ _ _ _ _ _ us hl => match us, hl with | [_, _], _ => rfl⟩,
    Lowering_lower_while := ⟨f38, _, cd38, ⟨⟨oc38, od38, kV38, dc38, pm38, an38, ct38, sl38, rfl, l38, c38⟩, k38⟩, ⟨a38, i38, k38⟩, (fun_mk (st := s_Lowering_lower_while) l38 c38 k38).binds (ps := ["self", "statement"]) fun _ _ _ _ _ _ us hl => match us, hl with | [_, _], _ => rfl⟩,
    Lowering_lower_expression := ⟨f39, _, cd39, ⟨⟨oc39, od39, kV39, dc39, pm39, an39, ct39, sl39, rfl, l39, c39⟩, k39⟩, ⟨a39, i39, k39⟩, (fun_mk (st := s_Lowering_lower_expression) l39 c39 k39).binds (ps := ["self", "expression"]) fun _ _ _ _ _ _ us hl => match us, hl with | [_, _], _ => rfl⟩,
    instruction_for := ⟨f40, _, cd40, ⟨⟨oc40, od40, kV40, dc40, pm40, an40, ct40, sl40, rfl, l40, c40⟩, k40⟩, PySem.W.mg_of X G a40, (fun_mk (st := s_instruction_for) l40 c40 k40).binds (ps := ["expression", "kind", "temporary", "parts"]) fun _ _ _ _ _ _ us hl => match us, hl with | [_, _, _, _], _ => rfl⟩,
    loans := ⟨f41, _, cd41, ⟨⟨oc41, od41, kV41, dc41, pm41, an41, ct41, sl41, rfl, l41, c41⟩, k41⟩, PySem.W.mg_of X G a41, (fun_mk (st := s_loans) l41 c41 k41).binds (ps := ["program", "graph"]) fun _ _ _ _ _ _ us hl => match us, hl with | [_, _], _ => rfl⟩,
    makes_loan := ⟨f42, _, cd42, ⟨⟨oc42, od42, kV42, dc42, pm42, an42, ct42, sl42, rfl, l42, c42⟩, k42⟩, PySem.W.mg_of X G a42, (fun_mk (st := s_makes_loan) l42 c42 k42).binds (ps := ["program", "graph", "instruction"]) fun _ _ _ _ _ _ us hl => match us, hl with | [_, _, _], _ => rfl⟩,
    _law_tape := ⟨f43, _, cd43, ⟨⟨oc43, od43, kV43, dc43, pm43, an43, ct43, sl43, rfl, l43, c43⟩, k43⟩, PySem.W.mg_of X G a43, (fun_mk (st := s__law_tape) l43 c43 k43).binds (ps := ["script"]) fun _ _ _ _ _ _ us hl => match us, hl with | [_], _ => rfl⟩,
    _law_next := ⟨f44, _, cd44, ⟨⟨oc44, od44, kV44, dc44, pm44, an44, ct44, sl44, rfl, l44, c44⟩, k44⟩, PySem.W.mg_of X G a44, (fun_mk (st := s__law_next) l44 c44 k44).binds (ps := ["tape", "many"]) fun _ _ _ _ _ _ us hl => match us, hl with | [_, _], _ => rfl⟩,
    _law_parameters := ⟨f45, _, cd45, ⟨⟨oc45, od45, kV45, dc45, pm45, an45, ct45, sl45, rfl, l45, c45⟩, k45⟩, PySem.W.mg_of X G a45, (fun_mk (st := s__law_parameters) l45 c45 k45).binds (ps := []) fun _ _ _ _ _ _ us hl => match us, hl with | [], _ => rfl⟩,
    _law_places := ⟨f46, _, cd46, ⟨⟨oc46, od46, kV46, dc46, pm46, an46, ct46, sl46, rfl, l46, c46⟩, k46⟩, PySem.W.mg_of X G a46, (fun_mk (st := s__law_places) l46 c46 k46).binds (ps := []) fun _ _ _ _ _ _ us hl => match us, hl with | [], _ => rfl⟩,
    _law_kind := ⟨f47, _, cd47, ⟨⟨oc47, od47, kV47, dc47, pm47, an47, ct47, sl47, rfl, l47, c47⟩, k47⟩, PySem.W.mg_of X G a47, (fun_mk (st := s__law_kind) l47 c47 k47).binds (ps := ["place"]) fun _ _ _ _ _ _ us hl => match us, hl with | [_], _ => rfl⟩,
    _law_crossing := ⟨f48, _, cd48, ⟨⟨oc48, od48, kV48, dc48, pm48, an48, ct48, sl48, rfl, l48, c48⟩, k48⟩, PySem.W.mg_of X G a48, (fun_mk (st := s__law_crossing) l48 c48 k48).binds (ps := ["place"]) fun _ _ _ _ _ _ us hl => match us, hl with | [_], _ => rfl⟩,
    _law_leaves := ⟨f49, _, cd49, ⟨⟨oc49, od49, kV49, dc49, pm49, an49, ct49, sl49, rfl, l49, c49⟩, k49⟩, PySem.W.mg_of X G a49, (fun_mk (st := s__law_leaves) l49 c49 k49).binds (ps := ["place", "kind"]) fun _ _ _ _ _ _ us hl => match us, hl with | [_, _], _ => rfl⟩,
    _law_plain := ⟨f50, _, cd50, ⟨⟨oc50, od50, kV50, dc50, pm50, an50, ct50, sl50, rfl, l50, c50⟩, k50⟩, PySem.W.mg_of X G a50, (fun_mk (st := s__law_plain) l50 c50 k50).binds (ps := ["kind"]) fun _ _ _ _ _ _ us hl => match us, hl with | [_], _ => rfl⟩,
    _law_value := ⟨f51, _, cd51, ⟨⟨oc51, od51, kV51, dc51, pm51, an51, ct51, sl51, rfl, l51, c51⟩, k51⟩, PySem.W.mg_of X G a51, (fun_mk (st := s__law_value) l51 c51 k51).binds (ps := ["kind"]) fun _ _ _ _ _ _ us hl => match us, hl with | [_], _ => rfl⟩,
    _law_statement := ⟨f52, _, cd52, ⟨⟨oc52, od52, kV52, dc52, pm52, an52, ct52, sl52, rfl, l52, c52⟩, k52⟩, PySem.W.mg_of X G a52, (fun_mk (st := s__law_statement) l52 c52 k52).binds (ps := ["tape"]) fun _ _ _ _ _ _ us hl => match us, hl with | [_], _ => rfl⟩,
    _law_due := ⟨f53, _, cd53, ⟨⟨oc53, od53, kV53, dc53, pm53, an53, ct53, sl53, rfl, l53, c53⟩, k53⟩, PySem.W.mg_of X G a53, (fun_mk (st := s__law_due) l53 c53 k53).binds (ps := ["row", "kinds"]) fun _ _ _ _ _ _ us hl => match us, hl with | [_, _], _ => rfl⟩,
    _law_right := ⟨f54, _, cd54, ⟨⟨oc54, od54, kV54, dc54, pm54, an54, ct54, sl54, rfl, l54, c54⟩, k54⟩, PySem.W.mg_of X G a54, (fun_mk (st := s__law_right) l54 c54 k54).binds (ps := ["actual", "due"]) fun _ _ _ _ _ _ us hl => match us, hl with | [_, _], _ => rfl⟩,
    law := ⟨fa, _, cd55, ⟨⟨oc55, od55, kV55, dc55, pm55, an55, ct55, sl55, rfl, l55, c55⟩, k55⟩, PySem.W.mg_of X G a55, (fun_mk (st := s_law) l55 c55 k55).binds (ps := ["script"]) fun _ _ _ _ _ _ us hl => match us, hl with | [_], _ => rfl⟩,
    mk_Graph := ⟨mi_Graph, a26, i26, kc_Graph⟩,
    mk_Lowering := ⟨mi_Lowering, a28, i28, kc_Lowering⟩ }
  have t1 := TT "is_copy" cd1 P1 r1 (tab_in a1 l1 rfl m1 v1)
  refine ⟨T.law.fd, [(cd1, P1)], spD K T.tb 1 (m_law C_Graph C_Lowering), (List.forall_mem_cons.mpr ⟨t1.2, (fun _ z => absurd z List.not_mem_nil)⟩), (List.forall_mem_cons.mpr ⟨n1, (fun _ z => absurd z List.not_mem_nil)⟩), (List.forall_mem_cons.mpr ⟨t1.1, (fun _ z => absurd z List.not_mem_nil)⟩), fun s v => .of_eq rfl, fun H a ns _ _ hH hS => ?_, fun base _ _ TB => ?_⟩
  · obtain ⟨S', e⟩ := law_ok C_Graph C_Lowering ns
    exact spD_law e (List.forall_mem_cons.mpr ⟨hH (cd1, P1) (by simp), (fun _ z => absurd z List.not_mem_nil)⟩) hS
  · exact ok_law T ⟨trivial, tabG_of (TB (cd1, P1) (by simp))⟩
end k09
open PySem PySem.W PyProof.Rows
set_option maxRecDepth 100000 in
set_option maxHeartbeats 0 in
theorem PySem.Challenge.cw_forklent_k09_effects_of_places_holds : PySem.Challenge.rw_forklent_k09_effects_of_places.Holds := by
  w_on; o_law; k_head; (case hw => w_witness2)
  k_fill
  refine Pd.walk_tabs (l := PySem.Challenge.rw_forklent_k09_effects_of_places) (n := 63) (k := 83) (x := "script") (CX := fun _ => L2.CX0) rfl (by decide) rfl ⟨rfl, by decide, by decide⟩ (fun w h Y => PySem.W.kIn_of Y) ?F fun _ _ _ _ _ z => z
  case F =>
    intro w mg fa h KX G hmg TT
    refine' k09.all_mk KX G hmg TT ?z_len ?z_int ?z_bool ?z_abs ?z_range ?z_tuple ?z_all ?z_list ?z_str ?z_isinstance ?z_reversed ?z_max ?z_sum ?z_enumerate ?z_dict ?z_zip ?b_BORROWS ?w_BORROWS ?b_LEAF_WORDS ?w_LEAF_WORDS ?b_SINGLE_WORDS ?w_SINGLE_WORDS ?b_SIGN_KINDS ?w_SIGN_KINDS ?l_SIGN_KINDS ?y0_SIGN_KINDS ?q0_SIGN_KINDS ?y1_SIGN_KINDS ?q1_SIGN_KINDS ?y2_SIGN_KINDS ?q2_SIGN_KINDS ?y3_SIGN_KINDS ?q3_SIGN_KINDS ?y4_SIGN_KINDS ?q4_SIGN_KINDS ?y5_SIGN_KINDS ?q5_SIGN_KINDS ?y6_SIGN_KINDS ?q6_SIGN_KINDS ?b_PLACE_AT ?w_PLACE_AT ?l_PLACE_AT ?y0_PLACE_AT ?y1_PLACE_AT ?y2_PLACE_AT ?y3_PLACE_AT ?y4_PLACE_AT ?y5_PLACE_AT ?s_PLACE_AT ?o0_PLACE_AT ?o1_PLACE_AT ?o2_PLACE_AT ?o3_PLACE_AT ?o4_PLACE_AT ?o5_PLACE_AT ?o6_PLACE_AT ?o7_PLACE_AT ?o8_PLACE_AT ?o9_PLACE_AT ?o10_PLACE_AT ?o11_PLACE_AT ?o12_PLACE_AT ?b_ACCESS_MODES ?w_ACCESS_MODES ?l_ACCESS_MODES ?y0_ACCESS_MODES ?y1_ACCESS_MODES ?y2_ACCESS_MODES ?y3_ACCESS_MODES ?y4_ACCESS_MODES ?y5_ACCESS_MODES ?s_ACCESS_MODES ?o0_ACCESS_MODES ?o1_ACCESS_MODES ?o2_ACCESS_MODES ?o3_ACCESS_MODES ?o4_ACCESS_MODES ?o5_ACCESS_MODES ?o6_ACCESS_MODES ?o7_ACCESS_MODES ?o8_ACCESS_MODES ?o9_ACCESS_MODES ?o10_ACCESS_MODES ?o11_ACCESS_MODES ?o12_ACCESS_MODES ?gc_Graph ?pg_Graph ?hd_Graph ?po_Graph ?sa_Graph ?mi_Graph ?kc_Graph ?na_Graph_kinds ?na_Graph_name ?na_Graph_parameters ?na_Graph_points ?na_Graph_result ?na_Graph_sources ?na_Graph_successors ?gc_Lowering ?pg_Lowering ?hd_Lowering ?po_Lowering ?sa_Lowering ?mi_Lowering ?kc_Lowering ?na_Lowering_graph ?na_Lowering_program ?na_Lowering_scope ?na_Lowering_temporaries ?a0 ?l0 ?c0 ?k0 ?a1 ?l1 ?c1 ?k1 ?m1 ?v1 ?n1 ?r1 ?a2 ?l2 ?c2 ?k2 ?a3 ?l3 ?c3 ?k3 ?a4 ?l4 ?c4 ?k4 ?a5 ?l5 ?c5 ?k5 ?a6 ?l6 ?c6 ?k6 ?a7 ?l7 ?c7 ?k7 ?a8 ?l8 ?c8 ?k8 ?a9 ?l9 ?c9 ?k9 ?a10 ?l10 ?c10 ?k10 ?a11 ?l11 ?c11 ?k11 ?a12 ?l12 ?c12 ?k12 ?a13 ?l13 ?c13 ?k13 ?a14 ?l14 ?c14 ?k14 ?a15 ?l15 ?c15 ?k15 ?a16 ?l16 ?c16 ?k16 ?a17 ?l17 ?c17 ?k17 ?a18 ?l18 ?c18 ?k18 ?a19 ?l19 ?c19 ?k19 ?a20 ?l20 ?c20 ?k20 ?a21 ?l21 ?c21 ?k21 ?a22 ?l22 ?c22 ?k22 ?a23 ?l23 ?c23 ?k23 ?a24 ?l24 ?c24 ?k24 ?a25 ?l25 ?c25 ?k25 ?a26 ?i26 ?l26 ?c26 ?k26 ?a27 ?l27 ?c27 ?k27 ?a28 ?i28 ?l28 ?c28 ?k28 ?a29 ?i29 ?l29 ?c29 ?k29 ?a30 ?i30 ?l30 ?c30 ?k30 ?a31 ?i31 ?l31 ?c31 ?k31 ?a32 ?i32 ?l32 ?c32 ?k32 ?a33 ?i33 ?l33 ?c33 ?k33 ?a34 ?i34 ?l34 ?c34 ?k34 ?a35 ?i35 ?l35 ?c35 ?k35 ?a36 ?i36 ?l36 ?c36 ?k36 ?a37 ?i37 ?l37 ?c37 ?k37 ?a38 ?i38 ?l38 ?c38 ?k38 ?a39 ?i39 ?l39 ?c39 ?k39 ?a40 ?l40 ?c40 ?k40 ?a41 ?l41 ?c41 ?k41 ?a42 ?l42 ?c42 ?k42 ?a43 ?l43 ?c43 ?k43 ?a44 ?l44 ?c44 ?k44 ?a45 ?l45 ?c45 ?k45 ?a46 ?l46 ?c46 ?k46 ?a47 ?l47 ?c47 ?k47 ?a48 ?l48 ?c48 ?k48 ?a49 ?l49 ?c49 ?k49 ?a50 ?l50 ?c50 ?k50 ?a51 ?l51 ?c51 ?k51 ?a52 ?l52 ?c52 ?k52 ?a53 ?l53 ?c53 ?k53 ?a54 ?l54 ?c54 ?k54 ?a55 ?l55 ?c55 ?k55
    (case z_len => k_is)
    (case z_int => k_is)
    (case z_bool => k_is)
    (case z_abs => k_is)
    (case z_range => k_is)
    (case z_tuple => k_is)
    (case z_all => k_is)
    (case z_list => k_is)
    (case z_str => k_is)
    (case z_isinstance => k_is)
    (case z_reversed => k_is)
    (case z_max => k_is)
    (case z_sum => k_is)
    (case z_enumerate => k_is)
    (case z_dict => k_is)
    (case z_zip => k_is)
    (case b_BORROWS => k_is)
    (case w_BORROWS => k_is)
    (case b_LEAF_WORDS => k_is)
    (case w_LEAF_WORDS => k_is)
    (case b_SINGLE_WORDS => k_is)
    (case w_SINGLE_WORDS => k_is)
    (case b_SIGN_KINDS => k_is)
    (case w_SIGN_KINDS => k_is)
    (case l_SIGN_KINDS => exact ⟨⟨_, _, rfl, rfl⟩, ⟨⟨_, _, rfl, rfl⟩, ⟨⟨_, _, rfl, rfl⟩, ⟨⟨_, _, rfl, rfl⟩, ⟨⟨_, _, rfl, rfl⟩, ⟨⟨_, _, rfl, rfl⟩, ⟨⟨_, _, rfl, rfl⟩, trivial⟩⟩⟩⟩⟩⟩⟩)
    (case y0_SIGN_KINDS => k_is)
    (case q0_SIGN_KINDS => k_is)
    (case y1_SIGN_KINDS => k_is)
    (case q1_SIGN_KINDS => k_is)
    (case y2_SIGN_KINDS => k_is)
    (case q2_SIGN_KINDS => k_is)
    (case y3_SIGN_KINDS => k_is)
    (case q3_SIGN_KINDS => k_is)
    (case y4_SIGN_KINDS => k_is)
    (case q4_SIGN_KINDS => k_is)
    (case y5_SIGN_KINDS => k_is)
    (case q5_SIGN_KINDS => k_is)
    (case y6_SIGN_KINDS => k_is)
    (case q6_SIGN_KINDS => k_is)
    (case b_PLACE_AT => k_is)
    (case w_PLACE_AT => k_is)
    (case l_PLACE_AT => exact ⟨⟨_, _, rfl, rfl⟩, ⟨⟨_, _, rfl, rfl⟩, ⟨⟨_, _, rfl, rfl⟩, ⟨⟨_, _, rfl, rfl⟩, ⟨⟨_, _, rfl, rfl⟩, ⟨⟨_, _, rfl, rfl⟩, trivial⟩⟩⟩⟩⟩⟩)
    (case y0_PLACE_AT => k_is)
    (case y1_PLACE_AT => k_is)
    (case y2_PLACE_AT => k_is)
    (case y3_PLACE_AT => k_is)
    (case y4_PLACE_AT => k_is)
    (case y5_PLACE_AT => k_is)
    (case s_PLACE_AT => rfl)
    (case o0_PLACE_AT => k_is)
    (case o1_PLACE_AT => k_is)
    (case o2_PLACE_AT => k_is)
    (case o3_PLACE_AT => k_is)
    (case o4_PLACE_AT => k_is)
    (case o5_PLACE_AT => k_is)
    (case o6_PLACE_AT => k_is)
    (case o7_PLACE_AT => k_is)
    (case o8_PLACE_AT => k_is)
    (case o9_PLACE_AT => k_is)
    (case o10_PLACE_AT => k_is)
    (case o11_PLACE_AT => k_is)
    (case o12_PLACE_AT => k_is)
    (case b_ACCESS_MODES => k_is)
    (case w_ACCESS_MODES => k_is)
    (case l_ACCESS_MODES => exact ⟨⟨_, _, rfl, rfl⟩, ⟨⟨_, _, rfl, rfl⟩, ⟨⟨_, _, rfl, rfl⟩, ⟨⟨_, _, rfl, rfl⟩, ⟨⟨_, _, rfl, rfl⟩, ⟨⟨_, _, rfl, rfl⟩, trivial⟩⟩⟩⟩⟩⟩)
    (case y0_ACCESS_MODES => k_is)
    (case y1_ACCESS_MODES => k_is)
    (case y2_ACCESS_MODES => k_is)
    (case y3_ACCESS_MODES => k_is)
    (case y4_ACCESS_MODES => k_is)
    (case y5_ACCESS_MODES => k_is)
    (case s_ACCESS_MODES => rfl)
    (case o0_ACCESS_MODES => k_is)
    (case o1_ACCESS_MODES => k_is)
    (case o2_ACCESS_MODES => k_is)
    (case o3_ACCESS_MODES => k_is)
    (case o4_ACCESS_MODES => k_is)
    (case o5_ACCESS_MODES => k_is)
    (case o6_ACCESS_MODES => k_is)
    (case o7_ACCESS_MODES => k_is)
    (case o8_ACCESS_MODES => k_is)
    (case o9_ACCESS_MODES => k_is)
    (case o10_ACCESS_MODES => k_is)
    (case o11_ACCESS_MODES => k_is)
    (case o12_ACCESS_MODES => k_is)
    (case gc_Graph => k_is)
    (case pg_Graph => k_is)
    (case hd_Graph => k_is)
    (case po_Graph => k_is)
    (case sa_Graph => k_is)
    (case mi_Graph => k_is)
    (case kc_Graph => k_is)
    (case na_Graph_kinds => k_is)
    (case na_Graph_name => k_is)
    (case na_Graph_parameters => k_is)
    (case na_Graph_points => k_is)
    (case na_Graph_result => k_is)
    (case na_Graph_sources => k_is)
    (case na_Graph_successors => k_is)
    (case gc_Lowering => k_is)
    (case pg_Lowering => k_is)
    (case hd_Lowering => k_is)
    (case po_Lowering => k_is)
    (case sa_Lowering => k_is)
    (case mi_Lowering => k_is)
    (case kc_Lowering => k_is)
    (case na_Lowering_graph => k_is)
    (case na_Lowering_program => k_is)
    (case na_Lowering_scope => k_is)
    (case na_Lowering_temporaries => k_is)
    (case a0 => k_is)
    (case l0 => k_is)
    (case c0 => k_is)
    (case k0 => k_is)
    (case a1 => k_is)
    (case l1 => k_is)
    (case c1 => k_is)
    (case k1 => k_is)
    (case m1 => k_is)
    (case v1 => exact rfl)
    (case n1 => kernel_rfl)
    (case r1 => decide +kernel)
    (case a2 => k_is)
    (case l2 => k_is)
    (case c2 => k_is)
    (case k2 => k_is)
    (case a3 => k_is)
    (case l3 => k_is)
    (case c3 => k_is)
    (case k3 => k_is)
    (case a4 => k_is)
    (case l4 => k_is)
    (case c4 => k_is)
    (case k4 => k_is)
    (case a5 => k_is)
    (case l5 => k_is)
    (case c5 => k_is)
    (case k5 => k_is)
    (case a6 => k_is)
    (case l6 => k_is)
    (case c6 => k_is)
    (case k6 => k_is)
    (case a7 => k_is)
    (case l7 => k_is)
    (case c7 => k_is)
    (case k7 => k_is)
    (case a8 => k_is)
    (case l8 => k_is)
    (case c8 => k_is)
    (case k8 => k_is)
    (case a9 => k_is)
    (case l9 => k_is)
    (case c9 => k_is)
    (case k9 => k_is)
    (case a10 => k_is)
    (case l10 => k_is)
    (case c10 => k_is)
    (case k10 => k_is)
    (case a11 => k_is)
    (case l11 => k_is)
    (case c11 => k_is)
    (case k11 => k_is)
    (case a12 => k_is)
    (case l12 => k_is)
    (case c12 => k_is)
    (case k12 => k_is)
    (case a13 => k_is)
    (case l13 => k_is)
    (case c13 => k_is)
    (case k13 => k_is)
    (case a14 => k_is)
    (case l14 => k_is)
    (case c14 => k_is)
    (case k14 => k_is)
    (case a15 => k_is)
    (case l15 => k_is)
    (case c15 => k_is)
    (case k15 => k_is)
    (case a16 => k_is)
    (case l16 => k_is)
    (case c16 => k_is)
    (case k16 => k_is)
    (case a17 => k_is)
    (case l17 => k_is)
    (case c17 => k_is)
    (case k17 => k_is)
    (case a18 => k_is)
    (case l18 => k_is)
    (case c18 => k_is)
    (case k18 => k_is)
    (case a19 => k_is)
    (case l19 => k_is)
    (case c19 => k_is)
    (case k19 => k_is)
    (case a20 => k_is)
    (case l20 => k_is)
    (case c20 => k_is)
    (case k20 => k_is)
    (case a21 => k_is)
    (case l21 => k_is)
    (case c21 => k_is)
    (case k21 => k_is)
    (case a22 => k_is)
    (case l22 => k_is)
    (case c22 => k_is)
    (case k22 => k_is)
    (case a23 => k_is)
    (case l23 => k_is)
    (case c23 => k_is)
    (case k23 => k_is)
    (case a24 => k_is)
    (case l24 => k_is)
    (case c24 => k_is)
    (case k24 => k_is)
    (case a25 => k_is)
    (case l25 => k_is)
    (case c25 => k_is)
    (case k25 => k_is)
    (case a26 => k_is)
    (case i26 => k_is)
    (case l26 => k_is)
    (case c26 => k_is)
    (case k26 => k_is)
    (case a27 => k_is)
    (case l27 => k_is)
    (case c27 => k_is)
    (case k27 => k_is)
    (case a28 => k_is)
    (case i28 => k_is)
    (case l28 => k_is)
    (case c28 => k_is)
    (case k28 => k_is)
    (case a29 => k_is)
    (case i29 => k_is)
    (case l29 => k_is)
    (case c29 => k_is)
    (case k29 => k_is)
    (case a30 => k_is)
    (case i30 => k_is)
    (case l30 => k_is)
    (case c30 => k_is)
    (case k30 => k_is)
    (case a31 => k_is)
    (case i31 => k_is)
    (case l31 => k_is)
    (case c31 => k_is)
    (case k31 => k_is)
    (case a32 => k_is)
    (case i32 => k_is)
    (case l32 => k_is)
    (case c32 => k_is)
    (case k32 => k_is)
    (case a33 => k_is)
    (case i33 => k_is)
    (case l33 => k_is)
    (case c33 => k_is)
    (case k33 => k_is)
    (case a34 => k_is)
    (case i34 => k_is)
    (case l34 => k_is)
    (case c34 => k_is)
    (case k34 => k_is)
    (case a35 => k_is)
    (case i35 => k_is)
    (case l35 => k_is)
    (case c35 => k_is)
    (case k35 => k_is)
    (case a36 => k_is)
    (case i36 => k_is)
    (case l36 => k_is)
    (case c36 => k_is)
    (case k36 => k_is)
    (case a37 => k_is)
    (case i37 => k_is)
    (case l37 => k_is)
    (case c37 => k_is)
    (case k37 => k_is)
    (case a38 => k_is)
    (case i38 => k_is)
    (case l38 => k_is)
    (case c38 => k_is)
    (case k38 => k_is)
    (case a39 => k_is)
    (case i39 => k_is)
    (case l39 => k_is)
    (case c39 => k_is)
    (case k39 => k_is)
    (case a40 => k_is)
    (case l40 => k_is)
    (case c40 => k_is)
    (case k40 => k_is)
    (case a41 => k_is)
    (case l41 => k_is)
    (case c41 => k_is)
    (case k41 => k_is)
    (case a42 => k_is)
    (case l42 => k_is)
    (case c42 => k_is)
    (case k42 => k_is)
    (case a43 => k_is)
    (case l43 => k_is)
    (case c43 => k_is)
    (case k43 => k_is)
    (case a44 => k_is)
    (case l44 => k_is)
    (case c44 => k_is)
    (case k44 => k_is)
    (case a45 => k_is)
    (case l45 => k_is)
    (case c45 => k_is)
    (case k45 => k_is)
    (case a46 => k_is)
    (case l46 => k_is)
    (case c46 => k_is)
    (case k46 => k_is)
    (case a47 => k_is)
    (case l47 => k_is)
    (case c47 => k_is)
    (case k47 => k_is)
    (case a48 => k_is)
    (case l48 => k_is)
    (case c48 => k_is)
    (case k48 => k_is)
    (case a49 => k_is)
    (case l49 => k_is)
    (case c49 => k_is)
    (case k49 => k_is)
    (case a50 => k_is)
    (case l50 => k_is)
    (case c50 => k_is)
    (case k50 => k_is)
    (case a51 => k_is)
    (case l51 => k_is)
    (case c51 => k_is)
    (case k51 => k_is)
    (case a52 => k_is)
    (case l52 => k_is)
    (case c52 => k_is)
    (case k52 => k_is)
    (case a53 => k_is)
    (case l53 => k_is)
    (case c53 => k_is)
    (case k53 => k_is)
    (case a54 => k_is)
    (case l54 => k_is)
    (case c54 => k_is)
    (case k54 => k_is)
    (case a55 => k_is)
    (case l55 => k_is)
    (case c55 => k_is)
    (case k55 => k_is)
