import PyProof.Rows.All
import Wide.All
import OpenK.AllK
import Wide.FinOn
import HandS.ForExc
import HandS.Comp
import HandS.AnyAll
import HandS.GenOver
import HandS.GenList
import HandS.Iter
import HandS.Text
import HandS.Codes
import HandS.IsInst
import HandS.ExcIs
import HandS.FStr
import HandS.RaiseMore
import HandS.Wide
import HandS.TupAny
import KE.GoesMore
import KE.GoesEnum
import HandS.Style
import KE.DataMinMax
import HandS.SortKw
import HandS.Rev
import HandS.DictComp
import HandS.DeepEq
import HandS.More
import HandS.RevTup
import PyProof.ListNew
import HandS.WordsDict
import HandS.Zip
import KE.KDictZip
import HandS.SetFor
import HandS.Flow
import HandS.Exc
import HandS.ExcInit
import HandS.ExcField
import HandS.ExcOwn
import KE.KExcIs
import HandS.HotCalls
import PySem.Challenge.RW_forklent_k31_memory_cells
import HandS.EndOwn
import KE.RegKIsAll
import KE.OsRunLaw
set_option Elab.async false
set_option linter.all false
set_option maxRecDepth 100000
set_option maxHeartbeats 8000000
namespace Gx
open PySem PySem.Spec PyProof.Rows L2 GxR GenW
/-! ### all(..) of a generator expression whose element is any expression -/
section
variable {X : Cx} {pins : List (Addr × Obj)} {σ : L2.St} {H : Hp} {s : Shared}
/-- the generators and the tokens change, objects come -/
theorem inv_gens {h' : Heap} {G : Array GenState} {t : Nat} (I : Inv X pins σ H s) (k : ∀ b o, s.heap.get? b = some o → h'.get? b = some o) (hG : AllBare G) :
    Inv X pins σ H { s with heap := h', gens := G, toks := t } := by
  refine I.step (g' := G) (d' := s.drawn) (ch := []) (fun b hb => absurd hb (by simp)) (fun b o _ _ _ e n => k b o e) (fun b o _ _ _ e n => ⟨o.slots, k b o e⟩)
    (fun b o _ e n => n) (fun b o _ e => ⟨o, k b o e⟩) (fun b xs e => e) (fun b o u e => e) (fun b qs e => ⟨#[], by rw [e]; simp⟩) (fun m hn => ?_) (I.hok.kept k) hG
  obtain ⟨ob, es, ep, ho, r⟩ := hn
  exact ⟨ob, es, ep, k _ ob ho, r⟩
end
/-- the generator's context -/
abbrev gcx (X : Cx) (s : Shared) (H : Hp) (genv : Env) (fp : List Addr) (A' : Around) (pn : List (Addr × Obj)) : Cx :=
  { X with A := A', s_0 := s, H_0 := H, env := genv, outer := X.stack, stack := genv :: X.stack, ex := fp, fn := fun _ => false, pn := pn, xe := fun _ _ => False }
section
variable {X : Cx} {pins : List (Addr × Obj)} {σ : L2.St} {H : Hp} {s : Shared}
theorem gen_start {scope : Scope} {own : List (Str × Nat)} {fp : List Addr} {A' : Around} {code : Value} {h' : Heap} {gobj : Obj} {it : Value} {G : Array GenState} {t : Nat}
    (I : Inv X pins σ H s) (ok : BlkOk X.N X.env.scope scope own) (hN : X.N.Nodup) (nocell : ∀ y ∈ scope.names, y.2 ≠ .cell) (hfp : ∀ b ∈ fp, FpOk X pins H b ∧ b < s.heap.objs.size)
    (hA : A'.handled = none) (hfr : A'.frames = some (genEnv scope (cloFrom X.env.cells scope.names []) s.heap.objs.size code builtinsNs X.env :: X.stack))
    (hns : h'.Ns s.heap.objs.size (fun y => if y = (".0" : Str) then some it else none)) (hsb : Heap.SameBut s.heap.objs.size (s.heap.push { cls := .type "frame", data := .dict #[] }) h') (hgd : ∀ v, gobj.data ≠ .cell v) (hgf : gobj.isFreed = false) (hG : AllBare G)
    (hdot : ∀ (i : Nat), X.N[i]? ≠ some (".0" : Str)) :
    Inv (gcx X s H (genEnv scope (cloFrom X.env.cells scope.names []) s.heap.objs.size code builtinsNs X.env) fp A' [(h'.objs.size, gobj)]) [] (wipe σ (own.map (·.2))) H { s with heap := h'.push gobj, gens := G, toks := t } := by
  have hfree : ∀ y ∈ scope.names, y.2 = .free → ∃ c, X.env.cells.lookup y.1 = some c := fun y hy e => by
    rcases ok.free y hy e with k | k
    · exact I.ok.has _ (.inl k)
    · exact I.ok.has _ (.inr k)
  generalize hcenv : genEnv scope (cloFrom X.env.cells scope.names []) s.heap.objs.size code builtinsNs X.env = cenv at hfr ⊢
  have sz' : h'.objs.size = s.heap.objs.size + 1 := by rw [hsb.1, Heap.size_push]
  have kp' : ∀ b o, s.heap.get? b = some o → h'.get? b = some o := fun b o e => hsb.extBut b o (Nat.ne_of_lt (Heap.lt_size e)) (Heap.get?_push_of_some _ e)
  have kp : ∀ b o, s.heap.get? b = some o → (h'.push gobj).get? b = some o := fun b o e => Heap.get?_push_of_some _ (kp' b o e)
  have hL : cenv.locals = s.heap.objs.size := by rw [← hcenv]; rfl
  have hcl : cenv.cells = cloFrom X.env.cells scope.names [] := by rw [← hcenv]; rfl
  have hsc : cenv.scope = scope := by rw [← hcenv]; rfl
  have cm : ∀ {y c}, (y, c) ∈ cloFrom X.env.cells scope.names [] → X.env.cells.lookup y = some c ∧ c < s.heap.objs.size := fun {y c} hm => by
    rcases cloFrom_mem hm with hm | ⟨h1, rfl⟩
    · cases hm
    · obtain ⟨c, hc⟩ := hfree _ h1 rfl
      rw [hc]
      obtain ⟨w, z⟩ := I.cell _ _ hc
      exact ⟨rfl, z.lt⟩
  have mem : ∀ {y c}, cenv.cells.lookup y = some c → X.env.cells.lookup y = some c ∧ c < s.heap.objs.size := fun {y c} e => by
    rw [hcl] at e
    exact cm (PySem.mem_of_lookup e)
  have look : ∀ {y}, scope.names.lookup y = some .free → ∃ c, cenv.cells.lookup y = some c ∧ X.env.cells.lookup y = some c := fun {y} hl => by
    have hy : (y, NameKind.free) ∈ scope.names := PySem.mem_of_lookup hl
    obtain ⟨c', e'⟩ := mem_lookup (cloFrom_has (cells := X.env.cells) (acc := []) hy)
    rw [← hcl] at e'
    exact ⟨c', e', (mem e').1⟩
  have nocell' : ∀ y, scope.names.lookup y ≠ some .cell := fun y e => nocell _ (PySem.mem_of_lookup e) rfl
  have okB : (gcx X s H cenv fp A' [(h'.objs.size, gobj)]).Ok := by
    refine ⟨I.ok.mod, by show cenv.scope.kind = _; rw [hsc]; exact ok.kind, by show cenv.globals = _; rw [← hcenv]; exact I.ok.glob, by show cenv.builtins = _; rw [← hcenv]; rfl, by show s.heap.objs.size ≤ cenv.locals; rw [hL]; exact Nat.le_refl _,
      fun y z c e1 e2 => ?_, fun y hy => ?_, fun y c z e => ?_, fun _ => hA, hfr, .inr ⟨rfl, by show cenv.frame = some cenv.locals; rw [← hcenv]; rfl⟩, fun b hb => ⟨?_, fun y c e z => ?_⟩, I.bs, Nat.le_trans I.ok.bsz I.sz, fun b o e hb => ?_, fun b hb z => ?_, I.stack, I.stkFree⟩
    · exact I.ok.inj y z c (mem e1).1 (mem e2).1
    · show ∃ c, cenv.cells.lookup y = some c
      have hy : cenv.scope.names.lookup y = some .cell ∨ cenv.scope.names.lookup y = some .free := hy
      rw [hsc] at hy
      rcases hy with hy | hy
      · exact absurd hy (nocell' y)
      · obtain ⟨c, h1, _⟩ := look hy
        exact ⟨c, h1⟩
    · exact absurd (show false = true from z) Bool.false_ne_true
    · show b ≠ cenv.locals
      rw [hL]; exact Nat.ne_of_lt (hfp b hb).2
    · exact (hfp b hb).1.2.2.2.2.1 y c (mem e).1 z
    · rcases (hfp b hb).1.2.2.2.1 with z | z
      · exact I.ok.noex b o e z
      · exact absurd (Nat.lt_of_lt_of_le (Heap.lt_size e) (Nat.le_trans I.ok.bsz z)) (Nat.lt_irrefl _)
    · rcases List.mem_cons.mp (I.stkSub b z) with z | z
      · exact (hfp b hb).1.2.1 z
      · exact (hfp b hb).1.2.2.1 z
  have freeL : H cenv.locals = none := by rw [hL]; exact I.hok.fresh (Nat.le_refl _)
  refine ⟨okB, rfl, hG, Un.kept kp, ⟨fun y => if y = (".0" : Str) then some it else none, ?_, fun i y av e1 e2 e3 => ?_⟩, fun y c e => ?_, freeL, fun y c e => I.freeC y c (mem e).1, fun p hp => ?_, I.hok.kept kp, by rw [wipe_length]; exact I.len⟩
  · show Heap.Ns _ cenv.locals _
    rw [hL]
    exact hns.push _
  · obtain ⟨e2, hne⟩ := wipe_some e2
    have e3 : Vis cenv.scope y := e3
    rw [hsc] at e3
    have e1' : X.N[i]? = some y := e1
    have hfr : scope.names.lookup y = some .free := by
      have no : ∀ k', scope.names.lookup y = some k' → k' ≠ .local := fun k' e hh => by
        subst hh
        rcases ok.own _ (PySem.mem_of_lookup e) (.inl rfl) with e' | e'
        · obtain ⟨p, hp, hpy⟩ := List.mem_map.mp e'
          have e3 := ok.ix p hp
          have : p.1 = y := hpy
          rw [this] at e3
          exact hne (List.mem_map.mpr ⟨p, hp, nodup_ix hN e3 e1'⟩)
        · exact e' (List.mem_of_getElem? e1')
      rcases e3 with e3 | e3 | e3
      · exact absurd rfl (no _ e3)
      · exact absurd e3 (nocell' y)
      · exact e3
    obtain ⟨m, hn, hl⟩ := I.loc
    have hvis : Vis X.env.scope y := (ok.free _ (PySem.mem_of_lookup hfr) rfl).elim (fun k => .inr (.inl k)) (fun k => .inr (.inr k))
    obtain ⟨w, r, q⟩ := hl i y av e1 e2 hvis
    refine ⟨w, r, .inr ⟨.inr (by show cenv.scope.names.lookup y = _; rw [hsc]; exact hfr), ?_⟩⟩
    obtain ⟨c, h1, h2⟩ := look hfr
    rcases q with ⟨k, _⟩ | ⟨_, c', e', z⟩
    · have k : X.env.scope.names.lookup y = some .local := k
      rcases ok.free _ (PySem.mem_of_lookup hfr) rfl with k' | k' <;> rw [show X.env.scope.names.lookup y = _ from k'] at k <;> cases k
    · rw [h2] at e'; cases e'
      exact ⟨c, h1, z.keeps kp⟩
  · obtain ⟨w, z⟩ := I.cell y c (mem e).1
    exact ⟨w, z.keeps kp⟩
  · have hp : p = (h'.objs.size, gobj) := by simpa using hp
    subst hp
    refine ⟨Heap.get?_push_size _ hgf, I.hok.fresh (by rw [sz']; exact Nat.le_succ _), ?_, fun z => ?_, hgd⟩
    · show h'.objs.size ≠ cenv.locals
      rw [hL, sz']; exact Nat.succ_ne_self _
    · have z : h'.objs.size ∈ frs X.stack := z
      have hlt : ∀ b ∈ frs X.stack, b < s.heap.objs.size := fun b hb => by
        obtain ⟨_, o, ho, _⟩ := I.stack.mem hb
        exact Heap.lt_size ho
      have := hlt _ z
      rw [sz'] at this
      exact absurd (Nat.lt_of_succ_lt this) (Nat.lt_irrefl _)
end

theorem all_loop {prog : Program} {w : World} {A : Around} {R : Result → Shared → Prop} {a : Addr} {n : Nat} (P : Nat → Shared → Prop)
    (hi : ∀ i s, P i s → wpAny (model prog w) A.in1 (pyNext (.ref a)) (fun r s' => (i = n ∧ r = none ∧ R (.ok (.ret (.bool true))) s') ∨ (∃ b, r = some (.bool b) ∧ if b = true then i < n ∧ P (i + 1) s' else R (.ok (.ret (.bool false))) s')) (fun _ _ => False) s) :
    ∀ (k i : Nat) (s : Shared), n - i = k → P i s → codeAny (model prog w) A (.builtin "all.loop" ⟨[.ref a], []⟩) R s := by
  intro k
  induction k with
  | zero =>
    intro i s hk hp
    refine codeAny_builtin F.entry_all_loop ?_
    rw [Around.under_plainId F.plain_all_loop _]
    show wpAny _ A.in1 (pyNext (.ref a) >>= _) _ _ s
    refine wpAny_bind (wpAny_mono (hi i s hp) (fun r s' h => ?_) fun _ _ z => z.elim)
    rcases h with ⟨_, rfl, hR⟩ | ⟨b, rfl, hb⟩
    · exact wpAny_bind (wpAny_rule (wpAny_pure hR))
    · refine wpAny_bind (wpAny_holding (wpAny_truthy_bool ?_))
      refine wpAny_bind (wpAny_letGo ?_)
      cases b with
      | true =>
        have := hb.1
        omega
      | false =>
        simp only [Bool.false_eq_true, if_false] at hb ⊢
        exact wpAny_bind (wpAny_rule (wpAny_pure hb))
  | succ k ih =>
    intro i s hk hp
    refine codeAny_builtin F.entry_all_loop ?_
    rw [Around.under_plainId F.plain_all_loop _]
    show wpAny _ A.in1 (pyNext (.ref a) >>= _) _ _ s
    refine wpAny_bind (wpAny_mono (hi i s hp) (fun r s' h => ?_) fun _ _ z => z.elim)
    rcases h with ⟨_, rfl, hR⟩ | ⟨b, rfl, hb⟩
    · exact wpAny_bind (wpAny_rule (wpAny_pure hR))
    · refine wpAny_bind (wpAny_holding (wpAny_truthy_bool ?_))
      refine wpAny_bind (wpAny_letGo ?_)
      cases b with
      | true =>
        simp only [if_true] at hb ⊢
        exact wpAny_pure ⟨plainId_quiet F.plain_all_loop _, ih (i + 1) _ (by have := hb.1; omega) hb.2⟩
      | false =>
        simp only [Bool.false_eq_true, if_false] at hb ⊢
        exact wpAny_bind (wpAny_rule (wpAny_pure hb))
/-- what is wanted at an item, at the end -/
def TurnsAll (J : It) (g : TG) (te : TE) (σ : L2.St) (vs : List Nat) (n : Nat) (W : Nat → Hp → Prop) (Q : VK) : Prop :=
  ∀ i H, W i H → (i = n ∧ J.stop i H ∧ Q (.bl true) H) ∨ (i < n ∧ J.go i H ∧ ∀ x H', J.yld i H x H' → g x (wipe σ vs) H' fun σ2 H3 => wipe σ2 vs = wipe σ vs ∧ te σ2 H3 fun y H4 => ∃ b, y = .bl b ∧ if b = true then W (i + 1) H4 else Q (.bl false) H4)
def YAll (X' : Cx) (gi : Nat) (Q : VK) : Protocol := fun _ _ v s kap =>
  ∃ b, v = .bool b ∧ gi < s.gens.size ∧ (∃ pins' σ' H', Inv X' pins' σ' H' s ∧ (b = false → Q (.bl false) H')) ∧ (b = true → ∀ G', AllBare G' → gi < G'.size → kap (.send .none) { s with gens := G' })
def RAll (X' : Cx) (gi : Nat) (Q : VK) : Nat → Shared → Shared → Prop := fun m _ s₁ => m = 0 ∧ gi < s₁.gens.size ∧ ∃ pins' σ' H', Inv X' pins' σ' H' s₁ ∧ Q (.bl true) H'
theorem seg_gsz {α : Type} {M : Model} {A : Around} {R : GenEnd} {Y : Protocol} {n gi : Nat} {s₀ : Shared} {c : Code} {fs : List Frame} {s : Shared} {β : Type} {m : Sem α} {K : α → Sem β} {K' : β → Sem PySem.Fin} {H' : Value → Sem PySem.Fin} {gd lv} (hg : gi < s.gens.size)
    (h : wpAny M (A.over c fs) m (fun a s' => gi < s'.gens.size → Seg M A R Y n s₀ c ((K a).wrap K' H' gd lv) fs s') (fun _ _ => False) s) : Seg M A R Y n s₀ c ((m >>= K).wrap K' H' gd lv) fs s :=
  seg_bind_wrap (wpAny_gsz (n := gi + 1) hg (wpAny_mono h (fun _ _ z hg => z hg) fun _ _ z => z.elim))
section
variable {X : Cx} {s1 : Shared} {H1 : Hp} {genv : Env} {fp : List Addr} {A₁ : Around} {pn : List (Addr × Obj)} {elt tg iter : Expr} {scope : Scope} {pos : Pos} {it : Addr}
theorem seg_all {J : It} {g : TG} {te : TE} {σ : L2.St} {vs : List Nat} {n gi : Nat} {W : Nat → Hp → Prop} {Q : VK} {tn : Nat → Heap → Prop} {X' : Cx}
    (hX : X' = gcx X s1 H1 genv fp (A₁.over (.compLoop (.GeneratorExp elt [⟨tg, iter, [], 0⟩] scope pos) 0 (.ref it) .none genv) []) pn) (hc : X.calm = true) (T : Turn X.prog X.w X.K tg J fp it tn) (pg : PG X' tg g) (pe : PE X' elt te) (hco : genv.scope.isCoroutine = false)
    (turn : TurnsAll J g te σ vs n W Q) (hpf : ∀ b ∈ fp, ∀ p ∈ pn, p.1 ≠ b) :
    ∀ (k i : Nat) (s₀ s : Shared) (H : Hp), n - i = k → Inv X' [] (wipe σ vs) H s → tn i s.heap → (∀ b ∈ fp, H b = none) → W i H → gi < s.gens.size →
      Seg (model X.prog X.w) A₁ (fun m s₀ r s₁ => r = .ok .next ∧ RAll X' gi Q m s₀ s₁) (YAll X' gi Q) k s₀ (.compLoop (.GeneratorExp elt [⟨tg, iter, [], 0⟩] scope pos) 0 (.ref it) .none genv)
        ((model X.prog X.w).den (.compLoop (.GeneratorExp elt [⟨tg, iter, [], 0⟩] scope pos) 0 (.ref it) .none genv)) [] s := by
  have hA : X'.A = A₁.over (.compLoop (.GeneratorExp elt [⟨tg, iter, [], 0⟩] scope pos) 0 (.ref it) .none genv) [] := by rw [hX]
  have hP : X'.prog = X.prog := by rw [hX]
  have hw : X'.w = X.w := by rw [hX]
  have hK : X'.K = X.K := by rw [hX]
  have hcal : X'.calm = true := by rw [hX]; exact hc
  have hex : X'.ex = fp := by rw [hX]
  have hpn : X'.pn = pn := by rw [hX]
  have henv : X'.env = genv := by rw [hX]
  have hxe : X'.xe = fun _ _ => False := by rw [hX]
  have stat : ∀ {pins' : List (Addr × Obj)} {σ' : L2.St} {H' : Hp} {s' : Shared}, Inv X' pins' σ' H' s' → pins' = [] → (∀ b ∈ fp, H' b = none) → ∀ b ∈ fp, FpOk X' [] H' b := fun {pins' σ' H' s'} I' hp' hn b hb => by
    have hb' : b ∈ X'.ex := by rw [hex]; exact hb
    refine ⟨hn b hb, (I'.ok.exf b hb').1, I'.ok.exfs b hb', .inl hb', fun x c e => (I'.ok.exf b hb').2 x c e, fun p hp => ?_⟩
    rw [List.append_nil, hpn] at hp
    exact hpf b hb p hp
  intro k
  induction k with
  | zero =>
    intro i s₀ s H hk I st nf w0 hg
    show Seg _ A₁ _ _ _ s₀ _ ((compTurn (.GeneratorExp elt [⟨tg, iter, [], 0⟩] scope pos) 0 (.ref it) .none genv).onRaise (leaving genv)) [] s
    rw [compTurn_gen, Sem.onRaise_eq_wrap]
    refine seg_gsz hg (wpAny_standAt fun hg => ?_)
    rcases turn i H w0 with ⟨_, stop, q⟩ | ⟨hlt, _⟩
    · have td := T.done X' hP hw hK hcal i [] s _ H (fun _ _ => False) I (stat I rfl nf) st stop
      rw [hA] at td
      refine seg_gsz hg (wpAny_mono td (fun r s' ⟨hr, I'⟩ hg => ?_) fun _ _ z => z)
      subst hr
      exact seg_end (.ok .next) ⟨rfl, rfl, hg, _, _, _, I', q⟩
    · omega
  | succ k ih =>
    intro i s₀ s H hk I st nf w0 hg
    show Seg _ A₁ _ _ _ s₀ _ ((compTurn (.GeneratorExp elt [⟨tg, iter, [], 0⟩] scope pos) 0 (.ref it) .none genv).onRaise (leaving genv)) [] s
    rw [compTurn_gen, Sem.onRaise_eq_wrap]
    refine seg_gsz hg (wpAny_standAt fun hg => ?_)
    rcases turn i H w0 with ⟨e, _⟩ | ⟨hlt, go, step⟩
    · omega
    have ti := T.item X' hP hw hK hcal i [] s _ H (fun _ _ => False) I (stat I rfl nf) st go
    rw [hA] at ti
    refine seg_gsz hg (wpAny_mono ti (fun r s2 ⟨u, hr, h2⟩ hg => ?_) fun _ _ z => z)
    subst hr
    refine seg_gsz hg (wpAny_mono h2 (fun _ s3 ⟨x, H3, I3, r3, y3, st3, n3⟩ hg => ?_) fun _ _ z => z)
    have I3' := I3.pinned (stat I3 rfl n3) (T.obj _ _ st3)
    have pg' := pg.run _ s3 _ H3 x u _ I3' r3 (step x H3 y3)
    rw [hA, hP, hw, henv, hxe] at pg'
    refine seg_gsz hg (wpAny_mono pg' (fun _ s4 ⟨σ4, H4, I4, hw4, q4⟩ hg => ?_) fun _ _ z => z)
    refine seg_gsz hg ?_
    simp only [List.forIn_nil]
    refine wpAny_pure fun hg => ?_
    simp only [if_true]
    have hy : ∀ v, yieldOut genv v = yieldValue v := fun v => by simp only [yieldOut, hco, Bool.false_eq_true, if_false]
    simp only [hy]
    rw [Sem.bind_eq_wrap', Sem.bind_eq_wrap', Sem.wrap_wrap, Sem.wrap_wrap]
    have pe' := pe.run _ s4 σ4 H4 _ I4 q4
    rw [hA, hP, hw, henv, hxe] at pe'
    refine seg_wrap (wpAny_gsz (n := gi + 1) hg (wpAny_mono pe' (fun y s5 ⟨v5, H5, I5, r5, b, e5, q5⟩ hg => ?_) fun _ _ z => z.elim))
    subst e5
    obtain rfl : y = .bool b := r5
    refine seg_at (seg_yield rfl rfl rfl ⟨b, rfl, hg, ⟨_, _, _, I5, fun z => by subst z; exact q5⟩, fun z G' hG hg' => ?_⟩)
    subst z
    have q5' : W (i + 1) H5 := q5
    have pin' : ∀ b ∈ fp, ∀ o, s3.heap.get? b = some o → s5.heap.get? b = some o ∧ H5 b = none := fun b hb o e =>
      let z := I5.pin (b, o) (List.mem_append_right _ (List.mem_append_right _ (mem_pinsAt hb e)))
      ⟨z.1, z.2.1⟩
    have hl : (wipe σ vs).length = σ4.length := by rw [← hw4, wipe_length]
    have I6 : Inv X' [] (wipe σ vs) H5 s5 := (I5.unpinned (pins := [])).weak hl (fun j v e => by
      rw [← hw4] at e
      exact (wipe_some e).1)
    exact seg_again rfl (ih (i + 1) _ _ H5 (by omega) (inv_gens (t := s5.toks) I6 (fun _ _ e => e) hG) (T.keep _ _ _ st3 fun b hb o e => (pin' b hb o e).1) (fun b hb => by
      obtain ⟨o, e, _⟩ := T.obj _ _ st3 b hb
      exact (pin' b hb o e).2) q5' hg')
end

section
variable {X : Cx} {A₁ : Around} {genv : Env} {elt tg iter : Expr} {ifs : List Expr} {scope : Scope} {pos : Pos} {it : Addr}
/-- the generator's around -/
abbrev gA (A : Around) (elt tg iter : Expr) (scope : Scope) (pos : Pos) (it : Addr) (genv : Env) : Around := A.in1.in1.over (.compLoop (.GeneratorExp elt [⟨tg, iter, [], 0⟩] scope pos) 0 (.ref it) .none genv) []
theorem gA_handled {A : Around} (h : A.handled = none) : (gA A elt tg iter scope pos it genv).handled = none := h
theorem gA_frames {A : Around} {st : List Env} (h : A.frames = some st) : (gA A elt tg iter scope pos it genv).frames = some (genv :: st) := by
  show pushEnvs [genv] (pushEnvs [] A.frames) = _
  rw [h]; rfl
theorem gA_room {A : Around} {k : Nat} (r : Room (k + 1) A) : Room k (gA A elt tg iter scope pos it genv) :=
  ⟨r.hd, by have := r.dp; show A.depth + 0 + 1 + 3 * k + 5 < _; omega, by have := r.un; show A.units + 1 + 1 + 0 + 3 + 16 * k + 200 < _; omega⟩
def tAllG (P : Addr) (wi : TI) (g : TG) (te : TE) (vs : List Nat) : TE := fun σ H Q => wi σ H fun J H1 => TabG H1 P ∧ ∀ H2, Tabbed P H1 H2 → ∃ (n : Nat) (W : Nat → Hp → Prop), W 0 H2 ∧ TurnsAll J g te σ vs n W Q
theorem pe_allG {c P : Addr} {own : List (Str × Nat)} {p cpos : Pos} {wi : TI} {g : TG} {te : TE} {k : Nat}
    (hr : Room (k + 1) X.A) (hc : X.calm = true) (hgl : Gl X "all") (hm : X.mg "all" = none) (hbo : bootBuiltins "all" = some (.builtin "all")) (TB : TabB X.base X.mg c P) (hcode : X.env.code = .ref c) (hN : X.N.Nodup)
    (hi : PI X tg iter wi) (ok : BlkOk X.N X.env.scope scope own) (hco : scope.isCoroutine = false) (nocell : ∀ y ∈ scope.names, y.2 ≠ .cell) (h0 : scope.names.lookup (".0" : Str) = some NameKind.local) (hdot : ∀ (i : Nat), X.N[i]? ≠ some (".0" : Str))
    (hg : ∀ (s : Shared) (H : Hp) (C : Addr) (cl : List (Str × Addr)) (code : Value) (bi : Addr) (fp : List Addr) (A' : Around) (pn : List (Addr × Obj)), PG (gcx X s H (genEnv scope cl C code bi X.env) fp A' pn) tg g)
    (he : ∀ (s : Shared) (H : Hp) (C : Addr) (cl : List (Str × Addr)) (code : Value) (bi : Addr) (fp : List Addr) (A' : Around) (pn : List (Addr × Obj)), Room k A' → PE (gcx X s H (genEnv scope cl C code bi X.env) fp A' pn) elt te)
    (hs : ∀ v, genFold iter X.env v = pure v := by intro _; rfl)
    (hes : starEach [.GeneratorExp elt [⟨tg, iter, [], 0⟩] scope pos] X.env = (false, eval (.GeneratorExp elt [⟨tg, iter, [], 0⟩] scope pos) X.env) :: starEach [] X.env := by rfl) :
    PE X (.Call (.Name "all" p) [.GeneratorExp elt [⟨tg, iter, [], 0⟩] scope pos] [] cpos) (tAllG P wi g te (own.map (·.2))) := by
  refine ⟨fun pins s σ H Q I h => ?_⟩
  have hfree : ∀ y ∈ scope.names, y.2 = .free → ∃ c, X.env.cells.lookup y.1 = some c := fun y hy e => by
    rcases ok.free y hy e with k | k
    · exact I.ok.has _ (.inl k)
    · exact I.ok.has _ (.inr k)
  refine wpAny_Call_Name_kw (ld_blt I hgl hm hbo ?_)
  refine PyProof.Rows.callWith_builtin1 ?_ hes (by rfl)
  rw [hes]
  show wpAny _ _ (spliced ((false, eval (.GeneratorExp elt [⟨tg, iter, [], 0⟩] scope pos) X.env) :: backTo cpos (starEach [] X.env))) _ _ s
  refine Calls.spliced_cons (wpAny_GeneratorExp_make hco (closure_ok hfree) nocell h0 ok.kind (by have := hr.dp; omega) ?_ hs)
  refine thn (hi.run pins s σ H _ I h) fun xv s1 h1 => thn h1 fun itv s2 h2 => ?_
  obtain ⟨it, fp, tn, J, H2, e, I2, T, st2, f2, ⟨ps, hP, ht⟩, q⟩ := h2
  subst e
  refine ⟨I2.nolimit, ?_⟩
  have hPs : s2.heap.get? P = some { cls := .none, data := .fields ps } := I2.hok P _ hP
  have cd : PySem.W.CodeHd s2.heap c P := TB.code.keeps fun b u e => I2.bk b u e
  have cont : ∀ (code : Value) (h3 : Heap) (tk : Nat) (ps' : Array Value), Heap.ExtBut P s2.heap h3 → s2.heap.objs.size ≤ h3.objs.size → h3.get? P = some { cls := .none, data := .fields ps' } → (∃ more, ps' = ps ++ more) → TriplesOk ps'.toList →
      wpAny (model X.prog X.w) X.A (builtinsFor X.env.globals X.env.builtins) (fun bi s₄ =>
        ∀ h', h'.Ns s₄.heap.objs.size (fun y => if y = ".0" then some (.ref it) else none) → Heap.SameBut s₄.heap.objs.size (s₄.heap.push { cls := .type "frame", data := .dict #[] }) h' →
          wpAny (model X.prog X.w) X.A (call (.builtin "all") [.ref h'.objs.size]) (EP X pins σ Q) X.xe { s₄ with
            gens := s₄.gens.push (.fresh (.compStart (.GeneratorExp elt [⟨tg, iter, [], 0⟩] scope pos) 0 (.ref it) .none (genEnv scope (cloFrom X.env.cells scope.names []) s₄.heap.objs.size code bi X.env))),
            toks := s₄.toks + 1 + 1 + 1,
            heap := h'.push { cls := .type "generator", data := .fields #[.int s₄.gens.size 0, .str "<genexpr>" (s₄.toks + 1), .str (X.env.qual ++ "<genexpr>") (s₄.toks + 1 + 1)] } }) X.xe { s2 with heap := h3, toks := tk } := by
    intro code h3 tk ps' hx hsz hP3 hmore ht3
    obtain ⟨bm, ob, e1, e2, e3, e4, e5, e6, e7, e8⟩ := TB.bm
    obtain ⟨more, em⟩ := hmore
    have keep3 : ∀ b u, b ≠ P → s2.heap.get? b = some u → h3.get? b = some u := fun b u hb e => hx b u hb e
    have nP : ∀ b, H2 b = none → b ≠ P := fun b e z => by rw [z, hP] at e; cases e
    have I3 : Inv X pins σ (upd H2 P (.tbl ps')) { s2 with heap := h3, toks := tk } := by
      have J := inv_tab (more := more) (h' := h3) (g' := s2.gens) (d' := s2.drawn) (t' := tk) I2 hP keep3 (by rw [← em]; exact hP3) I2.bare
      rw [← em] at J
      exact J
    have hTab : Tabbed P H2 (upd H2 P (.tbl ps')) := ⟨⟨ps', upd_same, ht3⟩, fun b hb => upd_ne hb⟩
    obtain ⟨n, W, w0, turn⟩ := q _ hTab
    generalize hH3 : upd H2 P (.tbl ps') = H3 at I3 hTab w0
    refine wpAny_builtinsFor (m := X.mg) (by rw [I3.ok.glob]; exact I3.ok.mod.glob.keeps I3.bk) e1 e2 (I3.bk _ _ e5) e6 e7 e8 ?_
    generalize hs3 : ({ s2 with heap := h3, toks := tk } : Shared) = s3 at I3 ⊢
    have h3e : s3.heap = h3 := by rw [← hs3]
    intro h' hns hsb
    have sz' : h'.objs.size = s3.heap.objs.size + 1 := by rw [hsb.1, Heap.size_push]
    have kp' : ∀ b o, s3.heap.get? b = some o → h'.get? b = some o := fun b o e => hsb.extBut b o (Nat.ne_of_lt (Heap.lt_size e)) (Heap.get?_push_of_some _ e)
    generalize hgo : ({ cls := .type "generator", data := .fields #[.int s3.gens.size 0, .str "<genexpr>" (s3.toks + 1), .str (X.env.qual ++ "<genexpr>") (s3.toks + 1 + 1)] } : Obj) = gobj
    have hgd : ∀ v, gobj.data ≠ .cell v := fun v z => by rw [← hgo] at z; cases z
    have hgf : gobj.isFreed = false := by rw [← hgo]; rfl
    generalize hge : genEnv scope (cloFrom X.env.cells scope.names []) s3.heap.objs.size code builtinsNs X.env = genv
    have f3 : ∀ b ∈ fp, FpOk X pins H3 b ∧ b < s3.heap.objs.size := fun b hb => by
      obtain ⟨o, e, _⟩ := T.obj _ _ st2 b hb
      have hbP := nP b (f2 b hb).1
      refine ⟨⟨?_, (f2 b hb).2⟩, ?_⟩
      · rw [hTab.2 b hbP]; exact (f2 b hb).1
      · rw [h3e]; exact Heap.lt_size (keep3 b o hbP e)
    have st3 : tn 0 s3.heap := T.keep _ _ _ st2 fun b hb o e => by rw [h3e]; exact keep3 b o (nP b (f2 b hb).1) e
    have hA' : (gA X.A elt tg iter scope pos it genv).handled = none := hr.hd
    have hF' : (gA X.A elt tg iter scope pos it genv).frames = some (genv :: X.stack) := gA_frames I3.ok.frames
    have start : ∀ (G : Array GenState) (t : Nat), AllBare G → Inv (gcx X s3 H3 genv fp (gA X.A elt tg iter scope pos it genv) [(h'.objs.size, gobj)]) [] (wipe σ (own.map (·.2))) H3 { s3 with heap := h'.push gobj, gens := G, toks := t } := fun G t hG => by
      subst hge
      exact gen_start I3 ok hN nocell f3 hA' hF' hns hsb hgd hgf hG hdot
    generalize hX' : gcx X s3 H3 genv fp (gA X.A elt tg iter scope pos it genv) [(h'.objs.size, gobj)] = X' at start
    have pg : PG X' tg g := by rw [← hX', ← hge]; exact hg _ _ _ _ _ _ _ _ _
    have pe : PE X' elt te := by rw [← hX', ← hge]; exact he _ _ _ _ _ _ _ _ _ (gA_room hr)
    have hco' : genv.scope.isCoroutine = false := by rw [← hge]; exact hco
    have hgen : ∀ {pins' : List (Addr × Obj)} {σ' : L2.St} {H' : Hp} {s' : Shared}, Inv X' pins' σ' H' s' → s'.heap.IsGen h'.objs.size s3.gens.size := fun {pins' σ' H' s'} I' => by
      have z := (I'.pin (h'.objs.size, gobj) (List.mem_append_left _ (by rw [← hX']; exact List.mem_singleton.mpr rfl))).1
      rw [← hgo] at z
      exact ⟨_, _, _, z, rfl, rfl, rfl⟩
    have back : ∀ {pins' : List (Addr × Obj)} {σ' : L2.St} {H' : Hp} {s' : Shared}, Inv X' pins' σ' H' s' → Inv X pins σ H' s' := fun {pins' σ' H' s'} I' => by
      rw [← hX'] at I'
      exact I3.call' (ch := fp) I'.os I'.base I'.hok I'.bare fun b hb => ⟨(f3 b hb).1.2.2.2.1, (f3 b hb).1.2.1, (f3 b hb).1.2.2.2.2.1, (f3 b hb).1.2.2.2.2.2⟩
    have loop := seg_all (X := X) (s1 := s3) (H1 := H3) (genv := genv) (fp := fp) (A₁ := X.A.in1.in1) (pn := [(h'.objs.size, gobj)]) (elt := elt) (tg := tg) (iter := iter) (scope := scope) (pos := pos) (it := it) (J := J) (g := g) (te := te) (σ := σ) (vs := own.map (·.2)) (n := n) (gi := s3.gens.size) (W := W) (Q := Q) (tn := tn) (X' := X')
      hX'.symm hc T pg pe hco' turn (fun b hb p hp => by
        have e : p = (h'.objs.size, gobj) := by simpa using hp
        subst e
        have := (f3 b hb).2
        show h'.objs.size ≠ b
        rw [sz']
        exact fun z => absurd (Nat.lt_of_lt_of_eq (Nat.lt_succ_of_lt this) z) (Nat.lt_irrefl _))
    refine call_function_tree F.kind_all F.plain_all F.entry_all (F.args_all1 _) ?_
    unfold Builtin.«all»
    refine wpAny_bind (m := oneArg "all" _) (wpAny_pure ?_)
    have bareP : ∀ x : GenState, x.bare = true → AllBare (s3.gens.push x) := fun x hx => I3.bare.push hx
    have I5 := start (s3.gens.push (.fresh (.compStart (.GeneratorExp elt [⟨tg, iter, [], 0⟩] scope pos) 0 (.ref it) .none genv))) (s3.toks + 1 + 1 + 1) (bareP _ rfl)
    refine wpAny_bind (wpAny_pyIter_gen (hgen I5) ?_)
    refine wpAny_pure ⟨plainId_quiet F.plain_all_loop _, ?_⟩
    refine all_loop (n := n) (fun i s' => i ≤ n ∧ s'.heap.IsGen h'.objs.size s3.gens.size ∧ s'.heap.NoLimit ∧ ∃ gs, s'.gens[s3.gens.size]? = some gs ∧
      gs.Goes (model X.prog X.w) X.A.in1.in1 (fun m s₀ r s₁ => r = .ok .next ∧ RAll X' s3.gens.size Q m s₀ s₁) (YAll X' s3.gens.size Q) (n - i) (.send .none) (s'.setGen s3.gens.size .running)) ?_ (n - 0) 0 _ rfl ?_
    · rintro i s' ⟨hin, ig, nl, gs, hgs, hgo⟩
      refine wpAny_pyNext_genexpQ hr.hd nl (by have := hr.dp; show X.A.depth < _; omega) ig hgs hgo (fun v s₁ gs' hb hv => ?_) (fun s₁ hp h'' hk => ?_)
      · obtain ⟨b, rfl, hgz, ⟨pins', σ', H', I', hf⟩, ht⟩ := hv
        refine .inr ⟨b, rfl, ?_⟩
        cases b with
        | true =>
          simp only [if_true]
          cases hn : n - i with
          | zero =>
            rw [hn] at ht
            exact (ht rfl s₁.gens I'.bare hgz).elim
          | succ m =>
            rw [hn] at ht
            refine ⟨by omega, by omega, (show s₁.heap.IsGen _ _ from hgen I'), (show s₁.heap.NoLimit from I'.nolimit), gs', setGen_at hgz, ?_⟩
            rw [show n - (i + 1) = m by omega]
            exact ht rfl _ (allBare_setGen (s := s₁.setGen s3.gens.size gs') (allBare_setGen I'.bare hb) rfl) (by show _ < ((s₁.gens.setIfInBounds _ _).setIfInBounds _ _).size; simpa using hgz)
        | false =>
          simp only [Bool.false_eq_true, if_false]
          exact ⟨.bl false, H', inv_gens (t := s₁.toks) (back I') (fun _ _ e => e) (allBare_setGen I'.bare hb), rfl, hf rfl⟩
      · obtain ⟨hz, hgz, pins', σ', H', I', hq⟩ := hp
        exact .inl ⟨by omega, rfl, .bl true, H', inv_gens (s := s₁) (t := s₁.toks) (back I') hk (allBare_setGen I'.bare rfl), rfl, hq⟩
    · refine ⟨Nat.zero_le _, hgen I5, I5.nolimit, _, Array.getElem?_push_size .., ?_⟩
      have I6 := start ((s3.gens.push (.fresh (.compStart (.GeneratorExp elt [⟨tg, iter, [], 0⟩] scope pos) 0 (.ref it) .none genv))).setIfInBounds s3.gens.size .running) (s3.toks + 1 + 1 + 1) (allBare_setGen (s := { s3 with gens := s3.gens.push (.fresh (.compStart (.GeneratorExp elt [⟨tg, iter, [], 0⟩] scope pos) 0 (.ref it) .none genv)) }) (bareP _ rfl) rfl)
      refine ⟨rfl, ?_⟩
      have hloop := fun s₀ => loop n 0 s₀ _ H3 (Nat.sub_zero n) I6 (T.keep _ _ _ st3 fun b hb o e => Heap.get?_push_of_some _ (kp' b o e)) (fun b hb => (f3 b hb).1.1) w0 (by show s3.gens.size < ((s3.gens.push _).setIfInBounds _ _).size; simp)
      show Seg _ X.A.in1.in1 _ _ _ _ _ ((compStart (.GeneratorExp elt [⟨tg, iter, [], 0⟩] scope pos) 0 (.ref it) .none genv).onRaise (leaving genv)) [] _
      unfold compStart
      rw [Sem.onRaise_eq_wrap]
      show Seg _ X.A.in1.in1 _ _ _ _ _ ((ask >>= _).wrap _ _ _ _) [] _
      refine seg_bind_wrap (wpAny_askSetting ?_)
      split
      · exact seg_again rfl (hloop _)
      · first
          | exact seg_bind_wrap (wpAny_rule (seg_bind_wrap (wpAny_standAt (seg_bind_wrap (T.self _ _ _ _ _ (T.keep _ _ _ st3 fun b hb o e => Heap.get?_push_of_some _ (kp' b o e)) (seg_again rfl (hloop _)))))))
          | (refine seg_bind_wrap (wpAny_rule ?_); show Seg _ X.A.in1.in1 _ _ _ _ _ ((standAt iter.pos >>= _).wrap _ _ _ _) [] _; exact seg_bind_wrap (wpAny_standAt (seg_bind_wrap (T.self _ _ _ _ _ (T.keep _ _ _ st3 fun b hb o e => Heap.get?_push_of_some _ (kp' b o e)) (seg_again rfl (hloop _))))))
  cases hf : codeAmong pos ps.toList with
  | none =>
    refine wpAny_genexprCodeX hcode (cd.code hPs ht) (cd.tab hPs) hf fun c' h' tk hx hge hlt hco' _ htab' _ => ?_
    obtain ⟨o1, vs, f1, tf, fl, tg, inF, tx, tt, op, _, _, _, _, _, _, _, _, _, htr, _⟩ := hco'
    exact wpAny_mono (cont (.ref c') h' tk _ hx (Nat.le_trans hge (Nat.le_of_lt hlt)) htab'.2 ⟨_, rfl⟩ htr) (fun bi s4 hh h' a b => Calls.spliced_nil (hh h' a b)) fun _ _ e => e
  | some cv =>
    refine wpAny_genexprCode_hit hcode (cd.code hPs ht) hf ?_
    exact wpAny_mono (cont cv s2.heap s2.toks ps (Heap.ExtBut.refl _ _) (Nat.le_refl _) hPs ⟨#[], by simp⟩ ht) (fun bi s4 hh h' a b => Calls.spliced_nil (hh h' a b)) fun _ _ e => e
end
end Gx
/-! Programs as functions on data: what stands in the heap, told by data and numbered lists, dicts and instances. -/
namespace Pd
open PySem PySem.Spec PyProof.Rows L2 GxR Gx
/-! ### data and objects -/
/-- a value: data (which never changes), or the object with this number -/
inductive W where
  | d (x : PyData)
  | loc (n : Nat)
inductive Ob where
  | lst (ws : List W)
  | dct (kvs : List (Key × W))
  | ins (C : Addr) (fs : List (Str × W))
  | ldct (kvs : List (Key × W))
abbrev Mem := List Ob
/-- a heap, the numbered objects' addresses, and addresses that others own -/
structure Wd where
  H : Hp
  ι : List Addr
  hid : List Addr
def Mu (tb : List Addr) (A : Wd) (a : Addr) : Prop := a ∈ A.ι ∨ a ∈ tb ∨ a ∈ A.hid
def H0 : Hp := fun _ => none
/-- u stands at a and stays there -/
def Fz (tb : List Addr) (A : Wd) (a : Addr) (u : HO) : Prop := ¬ Mu tb A a ∧ Rd A.H a u
def FzL (K : PySem.W.Frag) (tb : List Addr) (A : Wd) (a : Addr) (xs : List V) : Prop := Fz tb A a (.lst xs) ∨ SqL K H0 a xs
def FzT (K : PySem.W.Frag) (tb : List Addr) (A : Wd) (a : Addr) (xs : List V) : Prop := Fz tb A a (.tup xs) ∨ SqT K H0 a xs
mutual
inductive DR (K : PySem.W.Frag) (tb : List Addr) (A : Wd) : V → PyData → Prop
  | non : DR K tb A .non .none
  | bl (b : Bool) : DR K tb A (.bl b) (.bool b)
  | int (i : Int) : DR K tb A (.int i) (.int i)
  | str (x : Str) : DR K tb A (.str x) (.str x)
  | lst {a : Addr} {xs : List V} {ds : List PyData} : Fz tb A a (.lst xs) → DRs K tb A xs ds → DR K tb A (.ref a) (.list ds)
  /-- the script: a list of the text's own, or one that stays -/
  | scr {a : Addr} {xs : List V} {ds : List PyData} : FzL K tb A a xs → DRs K tb A xs ds → DR K tb A (.ref a) (.dict [(.none, .list ds)])
  | tup {a : Addr} {xs : List V} {ds : List PyData} : FzT K tb A a xs → DRs K tb A xs ds → DR K tb A (.ref a) (.tuple ds)
inductive DRs (K : PySem.W.Frag) (tb : List Addr) (A : Wd) : List V → List PyData → Prop
  | nil : DRs K tb A [] []
  | cons {v : V} {vs : List V} {d : PyData} {ds : List PyData} : DR K tb A v d → DRs K tb A vs ds → DRs K tb A (v :: vs) (d :: ds)
end
def WR (K : PySem.W.Frag) (tb : List Addr) (A : Wd) : V → W → Prop
  | v, .d x => DR K tb A v x
  | v, .loc n => ∃ a, v = .ref a ∧ A.ι[n]? = some a
abbrev WRs (K : PySem.W.Frag) (tb : List Addr) (A : Wd) : List V → List W → Prop := Paired (WR K tb A)
/-- the heap goes on: what is not numbered stays -/
structure Nxt (tb : List Addr) (A B : Wd) : Prop where
  hid : ∀ b ∈ A.hid, b ∈ B.hid
  hid2 : ∀ b ∈ B.hid, b ∈ A.hid ∨ A.H b = none
  more : ∀ b, B.H b = none → A.H b = none
  pre : ∃ more, B.ι = A.ι ++ more
  keep : ∀ b o, b ∉ A.ι → b ∉ tb → A.H b = some o → B.H b = some o ∧ b ∉ B.ι
  frz : ∀ b o u, b ∈ A.ι → A.H b = some (.frz o u) → B.H b = some (.frz o u)
section
variable {K : PySem.W.Frag} {tb : List Addr} {A B C : Wd}
theorem Nxt.refl : Nxt tb A A := ⟨fun _ z => z, fun _ z => .inl z, fun _ z => z, ⟨[], by simp⟩, fun _ _ n _ e => ⟨e, n⟩, fun _ _ _ _ e => e⟩
theorem Nxt.trans (x : Nxt tb A B) (y : Nxt tb B C) : Nxt tb A C := by
  obtain ⟨m1, e1⟩ := x.pre
  obtain ⟨m2, e2⟩ := y.pre
  refine ⟨fun b z => y.hid b (x.hid b z), fun b z => (y.hid2 b z).elim (fun z => x.hid2 b z) (fun z => .inr (x.more b z)), fun b z => x.more b (y.more b z), ⟨m1 ++ m2, by rw [e2, e1, List.append_assoc]⟩, fun b o n t e => ?_, fun b o u m e => y.frz b o u (by rw [e1]; exact List.mem_append_left _ m) (x.frz b o u m e)⟩
  obtain ⟨q, n'⟩ := x.keep b o n t e
  exact y.keep b o n' t q
theorem Nxt.ix (x : Nxt tb A B) {n : Nat} {a : Addr} (h : A.ι[n]? = some a) : B.ι[n]? = some a := by
  obtain ⟨m, e⟩ := x.pre
  rw [e, List.getElem?_append_left (List.getElem?_eq_some_iff.mp h).1]
  exact h
/-- .. but what others own may change -/
structure NxW (tb : List Addr) (A B : Wd) : Prop where
  hid : ∀ b ∈ A.hid, b ∈ B.hid
  hid2 : ∀ b ∈ B.hid, b ∈ A.hid ∨ A.H b = none
  more : ∀ b, B.H b = none → A.H b = none
  pre : ∃ more, B.ι = A.ι ++ more
  keep : ∀ b o, b ∉ A.ι → b ∉ tb → b ∉ A.hid → A.H b = some o → B.H b = some o ∧ b ∉ B.ι
  frz : ∀ b o u, b ∈ A.ι → A.H b = some (.frz o u) → B.H b = some (.frz o u)
theorem Nxt.w (x : Nxt tb A B) : NxW tb A B := ⟨x.hid, x.hid2, x.more, x.pre, fun b o n t _ e => x.keep b o n t e, x.frz⟩
theorem NxW.trans (x : NxW tb A B) (y : NxW tb B C) : NxW tb A C := by
  obtain ⟨m1, e1⟩ := x.pre
  obtain ⟨m2, e2⟩ := y.pre
  refine ⟨fun b z => y.hid b (x.hid b z), fun b z => (y.hid2 b z).elim (fun z => x.hid2 b z) (fun z => .inr (x.more b z)), fun b z => x.more b (y.more b z), ⟨m1 ++ m2, by rw [e2, e1, List.append_assoc]⟩, fun b o n t h e => ?_, fun b o u m e => y.frz b o u (by rw [e1]; exact List.mem_append_left _ m) (x.frz b o u m e)⟩
  obtain ⟨q, n'⟩ := x.keep b o n t h e
  exact y.keep b o n' t (fun z => (x.hid2 b z).elim h fun z => by rw [z] at e; cases e) q
theorem NxW.ix (x : NxW tb A B) {n : Nat} {a : Addr} (h : A.ι[n]? = some a) : B.ι[n]? = some a := by
  obtain ⟨m, e⟩ := x.pre
  rw [e, List.getElem?_append_left (List.getElem?_eq_some_iff.mp h).1]
  exact h
theorem Fz.nxw (x : NxW tb A B) {a : Addr} {u : HO} (h : Fz tb A a u) : Fz tb B a u := by
  obtain ⟨n, r⟩ := h
  have n1 : a ∉ A.ι := fun z => n (.inl z)
  have n2 : a ∉ tb := fun z => n (.inr (.inl z))
  have n3 : a ∉ A.hid := fun z => n (.inr (.inr z))
  rcases r with r | ⟨o, r⟩
  · obtain ⟨q, n'⟩ := x.keep a _ n1 n2 n3 r
    exact ⟨fun z => z.elim n' fun z => z.elim n2 fun z => (x.hid2 a z).elim n3 (fun z => by rw [z] at r; cases r), .inl q⟩
  · obtain ⟨q, n'⟩ := x.keep a _ n1 n2 n3 r
    exact ⟨fun z => z.elim n' fun z => z.elim n2 fun z => (x.hid2 a z).elim n3 (fun z => by rw [z] at r; cases r), .inr ⟨o, q⟩⟩
theorem Fz.nxt (x : Nxt tb A B) {a : Addr} {u : HO} (h : Fz tb A a u) : Fz tb B a u := h.nxw x.w
theorem FzL.nxw (x : NxW tb A B) {a : Addr} {xs : List V} (h : FzL K tb A a xs) : FzL K tb B a xs := h.imp (fun z => z.nxw x) id
theorem FzL.nxt (x : Nxt tb A B) {a : Addr} {xs : List V} (h : FzL K tb A a xs) : FzL K tb B a xs := h.nxw x.w
theorem FzT.nxw (x : NxW tb A B) {a : Addr} {xs : List V} (h : FzT K tb A a xs) : FzT K tb B a xs := h.imp (fun z => z.nxw x) id
theorem FzT.nxt (x : Nxt tb A B) {a : Addr} {xs : List V} (h : FzT K tb A a xs) : FzT K tb B a xs := h.nxw x.w
theorem sqL_h0 {H : Hp} {a : Addr} {xs : List V} (h : SqL K H0 a xs) : SqL K H a xs := by
  rcases h with (h | ⟨o, h⟩) | h
  · cases h
  · cases h
  · exact .inr h
theorem sqT_h0 {H : Hp} {a : Addr} {xs : List V} (h : SqT K H0 a xs) : SqT K H a xs := by
  rcases h with (h | ⟨o, h⟩) | h
  · cases h
  · cases h
  · exact .inr h
theorem Fz.sq {a : Addr} {xs : List V} (h : Fz tb A a (.lst xs)) : SqL K A.H a xs := .inl h.2
theorem FzL.sq {a : Addr} {xs : List V} (h : FzL K tb A a xs) : SqL K A.H a xs := h.elim (fun z => .inl z.2) sqL_h0
theorem FzT.sq {a : Addr} {xs : List V} (h : FzT K tb A a xs) : SqT K A.H a xs := h.elim (fun z => .inl z.2) sqT_h0
mutual
theorem DR.nxw (x : NxW tb A B) : ∀ {v : V} (d : PyData), DR K tb A v d → DR K tb B v d
  | _, .none, h => by cases h; exact .non
  | _, .bool b, h => by cases h; exact .bl b
  | _, .int i, h => by cases h; exact .int i
  | _, .str y, h => by cases h; exact .str y
  | _, .list ds, h => by cases h with | lst f r => exact .lst (f.nxw x) (DRs.nxw x ds r)
  | _, .tuple ds, h => by cases h with | tup f r => exact .tup (f.nxw x) (DRs.nxw x ds r)
  | _, .dict [(.none, .list ds)], h => by cases h with | scr f r => exact .scr (f.nxw x) (DRs.nxw x ds r)
theorem DRs.nxw (x : NxW tb A B) : ∀ {vs : List V} (ds : List PyData), DRs K tb A vs ds → DRs K tb B vs ds
  | _, [], h => by cases h; exact .nil
  | _, d :: ds, h => by cases h with | cons a b => exact .cons (DR.nxw x d a) (DRs.nxw x ds b)
end
theorem DR.nxt (x : Nxt tb A B) {v : V} (d : PyData) (h : DR K tb A v d) : DR K tb B v d := DR.nxw x.w d h
theorem DRs.nxt (x : Nxt tb A B) {vs : List V} (ds : List PyData) (h : DRs K tb A vs ds) : DRs K tb B vs ds := DRs.nxw x.w ds h
mutual
theorem DR.dp : ∀ {v : V} (d : PyData), DR K tb A v d → d.canLay0 = true → Dp K A.H v d
  | _, .none, h, _ => by cases h; exact .non
  | _, .bool b, h, _ => by cases h; exact .bl b
  | _, .int i, h, _ => by cases h; exact .int i
  | _, .str y, h, _ => by cases h; exact .str y
  | _, .list ds, h, c => by cases h with | lst f r => exact .lst f.sq (DRs.dp ds r c)
  | _, .tuple ds, h, c => by cases h with | tup f r => exact .tup f.sq (DRs.dp ds r c)
  | _, .dict _, h, c => absurd (show false = true from c) Bool.false_ne_true
theorem DRs.dp : ∀ {vs : List V} (ds : List PyData), DRs K tb A vs ds → PyData.canLayAll0 ds = true → DpAll K A.H vs ds
  | _, [], h, _ => by cases h; exact .nil
  | _, d :: ds, h, c => by
    have c : (PyData.canLay0 d && PyData.canLayAll0 ds) = true := c
    rw [Bool.and_eq_true] at c
    cases h with | cons a b => exact .cons (DR.dp d a c.1) (DRs.dp ds b c.2)
end
theorem WR.nxw (x : NxW tb A B) {v : V} {w : W} (h : WR K tb A v w) : WR K tb B v w := by
  cases w with
  | d y => exact DR.nxw x y h
  | loc n => obtain ⟨a, e, i⟩ := h; exact ⟨a, e, x.ix i⟩
theorem WR.nxt (x : Nxt tb A B) {v : V} {w : W} (h : WR K tb A v w) : WR K tb B v w := by
  cases w with
  | d y => exact DR.nxt x y h
  | loc n => obtain ⟨a, e, i⟩ := h; exact ⟨a, e, x.ix i⟩
theorem WRs.nxt (x : Nxt tb A B) {vs : List V} {ws : List W} (h : WRs K tb A vs ws) : WRs K tb B vs ws := Paired.mapP h fun _ _ r => r.nxt x
theorem DRs.length {vs : List V} {ds : List PyData} (h : DRs K tb A vs ds) : vs.length = ds.length := by
  induction ds generalizing vs with
  | nil => cases h; rfl
  | cons d ds ih => cases h with | cons a b => simp [ih b]
theorem DRs.get {vs : List V} {ds : List PyData} (h : DRs K tb A vs ds) : ∀ {i : Nat} {v : V}, vs[i]? = some v → ∃ d, ds[i]? = some d ∧ DR K tb A v d := by
  induction ds generalizing vs with
  | nil => intro i v e; cases h; simp at e
  | cons d ds ih =>
    intro i v e
    cases h with
    | cons a b =>
      cases i with
      | zero => simp at e; subst e; exact ⟨d, rfl, a⟩
      | succ i => simp at e; obtain ⟨d', q, r⟩ := ih b e; exact ⟨d', by simpa using q, r⟩
theorem DRs.get' {vs : List V} {ds : List PyData} (h : DRs K tb A vs ds) {i : Nat} {d : PyData} (e : ds[i]? = some d) : ∃ v, vs[i]? = some v ∧ DR K tb A v d := by
  have hl := h.length
  have hi : i < vs.length := by rw [hl]; exact (List.getElem?_eq_some_iff.mp e).1
  obtain ⟨d', q, r⟩ := h.get (List.getElem?_eq_getElem hi)
  rw [e] at q; cases q
  exact ⟨_, List.getElem?_eq_getElem hi, r⟩
theorem DRs.append {vs us : List V} {ds es : List PyData} (h : DRs K tb A vs ds) (g : DRs K tb A us es) : DRs K tb A (vs ++ us) (ds ++ es) := by
  induction ds generalizing vs with
  | nil => cases h; exact g
  | cons d ds ih => cases h with | cons a b => exact .cons a (ih b)
theorem DRs.take {vs : List V} {ds : List PyData} (h : DRs K tb A vs ds) : ∀ n, DRs K tb A (vs.take n) (ds.take n) := by
  induction ds generalizing vs with
  | nil => intro n; cases h; simp; exact .nil
  | cons d ds ih =>
    intro n
    cases h with
    | cons a b =>
      cases n with
      | zero => exact .nil
      | succ n => exact .cons a (ih b n)
theorem DRs.drop {vs : List V} {ds : List PyData} (h : DRs K tb A vs ds) : ∀ n, DRs K tb A (vs.drop n) (ds.drop n) := by
  induction ds generalizing vs with
  | nil => intro n; cases h; simp; exact .nil
  | cons d ds ih =>
    intro n
    cases h with
    | cons a b =>
      cases n with
      | zero => exact .cons a b
      | succ n => exact ih b n
end
/-! ### the objects -/
def OR (K : PySem.W.Frag) (tb : List Addr) (A : Wd) : Ob → Addr → Prop
  | .lst ws, a => ∃ vs, A.H a = some (.lst vs) ∧ WRs K tb A vs ws
  | .dct kvs, a => ∃ vs, A.H a = some (.dK vs) ∧ Paired (fun (p : Key × V) (q : Key × W) => p.1 = q.1 ∧ WR K tb A p.2 q.2) vs kvs
  | .ins C fs, a => ∃ dx vs, A.H a = some (.ins C dx vs) ∧ Paired (fun (p : Str × V) (q : Str × W) => p.1 = q.1 ∧ WR K tb A p.2 q.2) vs fs
  | .ldct kvs, a => ∃ o vs, A.H a = some (.frz o (.dK vs)) ∧ Paired (fun (p : Key × V) (q : Key × W) => p.1 = q.1 ∧ WR K tb A p.2 q.2) vs kvs
structure Rep (K : PySem.W.Frag) (tb : List Addr) (A : Wd) (S : Mem) : Prop where
  len : A.ι.length = S.length
  nd : A.ι.Nodup
  tabs : ∀ P ∈ tb, TabG A.H P
  hd : ∀ b ∈ A.hid, (∃ o, A.H b = some o) ∧ b ∉ A.ι ∧ b ∉ tb
  at_ : ∀ (n : Nat) a ob, A.ι[n]? = some a → S[n]? = some ob → OR K tb A ob a
section
variable {K : PySem.W.Frag} {tb : List Addr} {A B : Wd} {S : Mem}
theorem OR.some {ob : Ob} {a : Addr} (h : OR K tb A ob a) : ∃ o, A.H a = some o ∧ ∀ ps, o ≠ .tbl ps := by
  cases ob with
  | lst ws => obtain ⟨vs, e, _⟩ := h; exact ⟨_, e, fun _ z => nomatch z⟩
  | dct kvs => obtain ⟨vs, e, _⟩ := h; exact ⟨_, e, fun _ z => nomatch z⟩
  | ins C fs => obtain ⟨dx, vs, e, _⟩ := h; exact ⟨_, e, fun _ z => nomatch z⟩
  | ldct kvs => obtain ⟨o, vs, e, _⟩ := h; exact ⟨_, e, fun _ z => nomatch z⟩
theorem Rep.get (R : Rep K tb A S) {n : Nat} {a : Addr} (h : A.ι[n]? = some a) : ∃ ob, S[n]? = some ob ∧ OR K tb A ob a := by
  have hn : n < S.length := by rw [← R.len]; exact (List.getElem?_eq_some_iff.mp h).1
  exact ⟨S[n], List.getElem?_eq_getElem hn, R.at_ n a _ h (List.getElem?_eq_getElem hn)⟩
theorem Rep.addr (R : Rep K tb A S) {n : Nat} {ob : Ob} (h : S[n]? = some ob) : ∃ a, A.ι[n]? = some a ∧ OR K tb A ob a := by
  have hn : n < A.ι.length := by rw [R.len]; exact (List.getElem?_eq_some_iff.mp h).1
  exact ⟨A.ι[n], List.getElem?_eq_getElem hn, R.at_ n _ ob (List.getElem?_eq_getElem hn) h⟩
theorem Rep.mut (R : Rep K tb A S) {a : Addr} (h : a ∈ A.ι) : ∃ o, A.H a = some o ∧ ∀ ps, o ≠ .tbl ps := by
  obtain ⟨n, hn, e⟩ := List.getElem_of_mem h
  obtain ⟨ob, _, q⟩ := R.get (n := n) (a := a) (by rw [List.getElem?_eq_getElem hn, e])
  exact q.some
theorem Rep.fresh (R : Rep K tb A S) {p : Addr} (h : A.H p = none) : ¬ Mu tb A p := by
  rintro (z | z | z)
  · obtain ⟨o, e, _⟩ := R.mut z; rw [h] at e; cases e
  · obtain ⟨ps, e, _⟩ := R.tabs p z; rw [h] at e; cases e
  · obtain ⟨⟨o, e⟩, _⟩ := R.hd p z; rw [h] at e; cases e
theorem Rep.tab_ne (R : Rep K tb A S) {a P : Addr} (h : a ∈ A.ι) (hP : P ∈ tb) : a ≠ P := by
  rintro rfl
  obtain ⟨o, e, m⟩ := R.mut h
  obtain ⟨ps, e', _⟩ := R.tabs a hP
  rw [e] at e'; cases e'; exact m _ rfl
theorem OR.nxt {ob : Ob} {a : Addr} (x : Nxt tb A B) (e : B.H a = A.H a) (h : OR K tb A ob a) : OR K tb B ob a := by
  cases ob with
  | lst ws => obtain ⟨vs, q, r⟩ := h; exact ⟨vs, by rw [e]; exact q, r.nxt x⟩
  | dct kvs => obtain ⟨vs, q, r⟩ := h; exact ⟨vs, by rw [e]; exact q, Paired.mapP r fun _ _ z => ⟨z.1, z.2.nxt x⟩⟩
  | ins C fs => obtain ⟨dx, vs, q, r⟩ := h; exact ⟨dx, vs, by rw [e]; exact q, Paired.mapP r fun _ _ z => ⟨z.1, z.2.nxt x⟩⟩
  | ldct kvs => obtain ⟨o, vs, q, r⟩ := h; exact ⟨o, vs, by rw [e]; exact q, Paired.mapP r fun _ _ z => ⟨z.1, z.2.nxt x⟩⟩
/-- a new object that nobody will change -/
abbrev Wd.put (A : Wd) (p : Addr) (o : HO) : Wd := { A with H := upd A.H p o }
theorem upd_none {H : Hp} {a b : Addr} {o : HO} (h : upd H a o b = none) : H b = none := by
  by_cases e : b = a
  · rw [e, upd_same] at h; cases h
  · rw [upd_ne e] at h; exact h
theorem Nxt.put {p : Addr} (hp : A.H p = none) (o : HO) : Nxt tb A (A.put p o) :=
  ⟨fun _ z => z, fun _ z => .inl z, fun _ z => upd_none z, ⟨[], by simp⟩, fun b u n _ e => ⟨by show upd A.H p o b = _; rw [upd_ne (ne_of_none e hp)]; exact e, n⟩, fun b o' u _ e => by show upd A.H p o b = _; rw [upd_ne (ne_of_none e hp)]; exact e⟩
theorem Rep.put (R : Rep K tb A S) {p : Addr} (hp : A.H p = none) (o : HO) : Rep K tb (A.put p o) S := by
  have st : ∀ {b : Addr} {u : HO}, A.H b = some u → (A.put p o).H b = some u := fun {b u} e => by show upd A.H p o b = _; rw [upd_ne (ne_of_none e hp)]; exact e
  refine ⟨R.len, R.nd, fun P hP => ?_, fun b hb => ?_, fun n a ob e1 e2 => ?_⟩
  · obtain ⟨ps, e, t⟩ := R.tabs P hP; exact ⟨ps, st e, t⟩
  · obtain ⟨⟨o', e⟩, n⟩ := R.hd b hb; exact ⟨⟨o', st e⟩, n⟩
  · have q := R.at_ n a ob e1 e2
    obtain ⟨o', e, _⟩ := q.some
    exact q.nxt (.put hp o) (by rw [st e, e])
theorem Fz.put (R : Rep K tb A S) {p : Addr} (hp : A.H p = none) (o : HO) : Fz tb (A.put p o) p o := ⟨R.fresh hp, .inl upd_same⟩
/-- a new numbered object -/
abbrev Wd.add (A : Wd) (p : Addr) (o : HO) : Wd := { A with H := upd A.H p o, ι := A.ι ++ [p] }
theorem Nxt.add {p : Addr} (hp : A.H p = none) (o : HO) : Nxt tb A (A.add p o) :=
  ⟨fun _ z => z, fun _ z => .inl z, fun _ z => upd_none z, ⟨[p], rfl⟩, fun b u n _ e => ⟨by show upd A.H p o b = _; rw [upd_ne (ne_of_none e hp)]; exact e, fun z => (List.mem_append.mp z).elim n fun z => ne_of_none e hp (List.mem_singleton.mp z)⟩, fun b o' u _ e => by show upd A.H p o b = _; rw [upd_ne (ne_of_none e hp)]; exact e⟩
theorem Rep.add (R : Rep K tb A S) {p : Addr} (hp : A.H p = none) {o : HO} {ob : Ob} (h : OR K tb (A.add p o) ob p) : Rep K tb (A.add p o) (S ++ [ob]) := by
  have st : ∀ {b : Addr} {u : HO}, A.H b = some u → (A.add p o).H b = some u := fun {b u} e => by show upd A.H p o b = _; rw [upd_ne (ne_of_none e hp)]; exact e
  have np : p ∉ A.ι := fun z => R.fresh hp (.inl z)
  refine ⟨by simp [R.len], ?_, fun P hP => ?_, fun b hb => ?_, fun n a ob' e1 e2 => ?_⟩
  · rw [List.nodup_append]
    exact ⟨R.nd, by simp, fun a ha b hb e => np (by rw [List.mem_singleton.mp hb] at e; rw [← e]; exact ha)⟩
  · obtain ⟨ps, e, t⟩ := R.tabs P hP; exact ⟨ps, st e, t⟩
  · obtain ⟨⟨o', e⟩, n, t⟩ := R.hd b hb
    exact ⟨⟨o', st e⟩, fun z => (List.mem_append.mp z).elim n fun z => ne_of_none e hp (List.mem_singleton.mp z), t⟩
  · have e1 : (A.ι ++ [p])[n]? = some a := e1
    by_cases hn : n < A.ι.length
    · rw [List.getElem?_append_left hn] at e1
      rw [List.getElem?_append_left (by rw [← R.len]; exact hn)] at e2
      have q := R.at_ n a ob' e1 e2
      obtain ⟨o', e, _⟩ := q.some
      exact q.nxt (.add hp o) (by rw [st e, e])
    · rw [List.getElem?_append_right (by omega)] at e1
      rw [List.getElem?_append_right (by rw [← R.len]; omega)] at e2
      have hz : n - A.ι.length = 0 := by
        cases hh : n - A.ι.length with
        | zero => rfl
        | succ k => rw [hh] at e1; simp at e1
      rw [hz] at e1
      rw [← R.len, hz] at e2
      simp at e1 e2
      subst e1 e2
      exact h
/-- a numbered object is changed -/
theorem Nxt.set {n : Nat} {a : Addr} {o : HO} (ha : A.ι[n]? = some a) (hm : ∀ o u, A.H a ≠ some (.frz o u)) : Nxt tb A (A.put a o) :=
  ⟨fun _ z => z, fun _ z => .inl z, fun _ z => upd_none z, ⟨[], by simp⟩, fun b u nb _ e => ⟨by show upd A.H a o b = _; rw [upd_ne (fun z => nb (by rw [z]; exact List.mem_of_getElem? ha))]; exact e, nb⟩, fun b o' u _ e => by show upd A.H a o b = _; rw [upd_ne (fun z => hm o' u (by rw [← z]; exact e))]; exact e⟩
theorem Rep.set (R : Rep K tb A S) {n : Nat} {a : Addr} {o : HO} {ob : Ob} (ha : A.ι[n]? = some a) (hf : ∀ o u, A.H a ≠ some (.frz o u)) (h : OR K tb (A.put a o) ob a) : Rep K tb (A.put a o) (S.set n ob) := by
  have hin := List.mem_of_getElem? ha
  have st : ∀ {b : Addr}, b ≠ a → (A.put a o).H b = A.H b := fun {b} e => upd_ne e
  refine ⟨by rw [List.length_set]; exact R.len, R.nd, fun P hP => ?_, fun b hb => ?_, fun m b ob' e1 e2 => ?_⟩
  · obtain ⟨ps, e, t⟩ := R.tabs P hP
    exact ⟨ps, by rw [st (R.tab_ne hin hP).symm]; exact e, t⟩
  · obtain ⟨⟨o', e⟩, n', t⟩ := R.hd b hb
    exact ⟨⟨o', by rw [st (fun z => n' (by rw [z]; exact hin))]; exact e⟩, n', t⟩
  · by_cases hm : m = n
    · subst hm
      have e1 : A.ι[m]? = some b := e1
      rw [ha] at e1; cases e1
      rw [List.getElem?_set_self (by rw [← R.len]; exact (List.getElem?_eq_some_iff.mp ha).1)] at e2
      cases e2
      exact h
    · rw [List.getElem?_set_ne (Ne.symm hm)] at e2
      have hb : b ≠ a := by
        rintro rfl
        obtain ⟨h1, q1⟩ := List.getElem?_eq_some_iff.mp ha
        obtain ⟨h2, q2⟩ := List.getElem?_eq_some_iff.mp e1
        exact hm ((List.getElem_inj R.nd).mp (q2.trans q1.symm))
      exact (R.at_ m b ob' e1 e2).nxt (.set ha hf) (st hb)
/-- a table grows -/
theorem nxt_tab {P : Addr} {H' : Hp} (hP : P ∈ tb) (t : Tabbed P A.H H') (t0 : TabG A.H P) : Nxt tb A { A with H := H' } :=
  ⟨fun _ z => z, fun _ z => .inl z, fun b z => by
    by_cases e : b = P
    · obtain ⟨ps, q, _⟩ := t.1
      rw [e] at z
      have z : H' P = none := z
      rw [q] at z; cases z
    · have z : H' b = none := z
      rw [t.2 b e] at z; exact z, ⟨[], by simp⟩, fun b u n nt e => ⟨by show H' b = _; rw [t.2 b (fun z => nt (by rw [z]; exact hP))]; exact e, n⟩, fun b o u _ e => by show H' b = _; rw [t.2 b (fun z => by obtain ⟨ps, q, _⟩ := t0; rw [z, q] at e; cases e)]; exact e⟩
theorem Rep.tab (R : Rep K tb A S) {P : Addr} {H' : Hp} (hP : P ∈ tb) (t : Tabbed P A.H H') : Rep K tb { A with H := H' } S := by
  refine ⟨R.len, R.nd, fun Q hQ => ?_, fun b hb => ?_, fun n a ob e1 e2 => ?_⟩
  · by_cases e : Q = P
    · rw [e]; exact t.1
    · obtain ⟨ps, q, z⟩ := R.tabs Q hQ
      exact ⟨ps, by show H' Q = _; rw [t.2 Q e]; exact q, z⟩
  · obtain ⟨⟨o', e⟩, n', nt⟩ := R.hd b hb
    exact ⟨⟨o', by show H' b = _; rw [t.2 b (fun z => nt (by rw [z]; exact hP))]; exact e⟩, n', nt⟩
  · exact (R.at_ n a ob e1 e2).nxt (nxt_tab hP t (R.tabs P hP)) (t.2 a (R.tab_ne (List.mem_of_getElem? e1) hP))
end
/-! ### environments and readings -/
abbrev Env' := List (Option W)
def ER (K : PySem.W.Frag) (tb : List Addr) (A : Wd) (σ : L2.St) (ρ : Env') : Prop := ρ.length = σ.length ∧ ∀ (i : Nat) w, ρ[i]? = some (some w) → ∃ v, σ[i]? = some (some v) ∧ WR K tb A v w
abbrev ME := Env' → Mem → Option (W × Mem)
abbrev MT := Env' → Mem → Option (Bool × Mem)
abbrev MA := Env' → Mem → Option (List W × Mem)
inductive Out where
  | nx | bk | ct | rt (w : W)
abbrev MS := Env' → Mem → Option (Out × Env' × Mem)
abbrev MG := W → Env' → Mem → Option (Env' × Mem)
section
variable (K : PySem.W.Frag) (tb : List Addr)
def KE (A : Wd) (w : W) (S' : Mem) (Q : VK) : Prop := ∀ v B, Nxt tb A B → Rep K tb B S' → WR K tb B v w → Q v B.H
def SE (t : TE) (m : ME) : Prop := ∀ A σ ρ S w S' Q, Rep K tb A S → ER K tb A σ ρ → m ρ S = some (w, S') → KE K tb A w S' Q → t σ A.H Q
def ST (t : TT) (m : MT) : Prop := ∀ A σ ρ S b S' (Q : Bool → Hp → Prop), Rep K tb A S → ER K tb A σ ρ → m ρ S = some (b, S') → (∀ B, Nxt tb A B → Rep K tb B S' → Q b B.H) → t σ A.H Q
def SA (t : TA) (m : MA) : Prop := ∀ A σ ρ S ws S' (Q : List V → Hp → Prop), Rep K tb A S → ER K tb A σ ρ → m ρ S = some (ws, S') → (∀ vs B, Nxt tb A B → Rep K tb B S' → WRs K tb B vs ws → Q vs B.H) → t σ A.H Q
/-- what is wanted behind a statement -/
def FinD (D : Ends) (B : Wd) (σ : L2.St) : Out → Prop
  | .nx => D.nx σ B.H
  | .bk => D.bk σ B.H
  | .ct => D.ct σ B.H
  | .rt w => ∃ v, WR K tb B v w ∧ D.rt v B.H
def FinK (D : Ends) (A : Wd) (o : Out) (ρ' : Env') (S' : Mem) : Prop := match o with
  | .nx => ∀ B σ', Nxt tb A B → Rep K tb B S' → ER K tb B σ' ρ' → D.nx σ' B.H
  | .bk => ∀ B σ', Nxt tb A B → Rep K tb B S' → ER K tb B σ' ρ' → D.bk σ' B.H
  | .ct => ∀ B σ', Nxt tb A B → Rep K tb B S' → ER K tb B σ' ρ' → D.ct σ' B.H
  | .rt w => ∀ B v, Nxt tb A B → Rep K tb B S' → WR K tb B v w → D.rt v B.H
def SS (t : TS) (m : MS) : Prop := ∀ A σ ρ S o ρ' S' (D : Ends), Rep K tb A S → ER K tb A σ ρ → m ρ S = some (o, ρ', S') → FinK K tb D A o ρ' S' → t D σ A.H
/-- a target; vs: the slots that it may set -/
def SG (vs : List Nat) (g : TG) (m : MG) : Prop := ∀ A v w σ ρ S ρ' S' (Q : L2.St → Hp → Prop), Rep K tb A S → ER K tb A σ ρ → WR K tb A v w → m w ρ S = some (ρ', S') →
  (∀ B σ', Nxt tb A B → Rep K tb B S' → ER K tb B σ' ρ' → σ'.length = σ.length → (∀ j, j ∉ vs → σ'[j]? = σ[j]?) → Q σ' B.H) → g v σ A.H Q
end
section
variable {K : PySem.W.Frag} {tb : List Addr} {A B : Wd}
theorem ER.nxt {σ : L2.St} {ρ : Env'} (x : Nxt tb A B) (h : ER K tb A σ ρ) : ER K tb B σ ρ := ⟨h.1, fun i w e => by obtain ⟨v, q, r⟩ := h.2 i w e; exact ⟨v, q, r.nxt x⟩⟩
theorem ER.nxw {σ : L2.St} {ρ : Env'} (x : NxW tb A B) (h : ER K tb A σ ρ) : ER K tb B σ ρ := ⟨h.1, fun i w e => by obtain ⟨v, q, r⟩ := h.2 i w e; exact ⟨v, q, r.nxw x⟩⟩
theorem ER.set {σ : L2.St} {ρ : Env'} {v : V} {w : W} (h : ER K tb A σ ρ) (r : WR K tb A v w) (i : Nat) : ER K tb A (σ.set i (some v)) (ρ.set i (some w)) := by
  refine ⟨by rw [List.length_set, List.length_set]; exact h.1, fun j w' e => ?_⟩
  by_cases hj : j = i
  · subst hj
    have hlt : j < ρ.length := by
      have := (List.getElem?_eq_some_iff.mp e).1
      rwa [List.length_set] at this
    rw [List.getElem?_set_self hlt] at e
    cases e
    exact ⟨v, by rw [List.getElem?_set_self (by rw [← h.1]; exact hlt)], r⟩
  · rw [List.getElem?_set_ne (Ne.symm hj)] at e
    obtain ⟨v', q, r'⟩ := h.2 j w' e
    exact ⟨v', by rw [List.getElem?_set_ne (Ne.symm hj)]; exact q, r'⟩
theorem KE.nxt {w : W} {S' : Mem} {Q : VK} (x : Nxt tb A B) (h : KE K tb A w S' Q) : KE K tb B w S' Q := fun v C y R r => h v C (x.trans y) R r
theorem FinK.nxt {D : Ends} {o : Out} {ρ' : Env'} {S' : Mem} (x : Nxt tb A B) (h : FinK K tb D A o ρ' S') : FinK K tb D B o ρ' S' := by
  cases o with
  | nx => exact fun C σ' y R r => h C σ' (x.trans y) R r
  | bk => exact fun C σ' y R r => h C σ' (x.trans y) R r
  | ct => exact fun C σ' y R r => h C σ' (x.trans y) R r
  | rt w => exact fun C v y R r => h C v (x.trans y) R r
end
end Pd
namespace Pd
open PySem PySem.Spec PyProof.Rows L2 GxR Gx
section
variable {K : PySem.W.Frag} {tb : List Addr}
/-! ### expressions -/
def eVar (i : Nat) : ME := fun ρ S => match ρ[i]? with
  | some (some w) => some (w, S)
  | _ => none
def eC (x : PyData) : ME := fun _ S => some (.d x, S)
theorem se_var (i : Nat) : SE K tb (tVar i) (eVar i) := fun A σ ρ S w S' Q R E h q => by
  unfold eVar at h
  split at h
  · rename_i w' e
    cases h
    obtain ⟨v, e1, r⟩ := E.2 i _ e
    exact ⟨v, e1, q v A .refl R r⟩
  · cases h
theorem se_const {v : V} {x : PyData} (h : ∀ A, DR K tb A v x) : SE K tb (tC v) (eC x) := fun A σ ρ S w S' Q R E e q => by
  cases e
  exact q v A .refl R (h A)
theorem se_int {i : Int} : SE K tb (tC (.int i)) (eC (.int i)) := se_const fun _ => .int i
theorem se_str {x : Str} : SE K tb (tC (.str x)) (eC (.str x)) := se_const fun _ => .str x
theorem se_bl {b : Bool} : SE K tb (tC (.bl b)) (eC (.bool b)) := se_const fun _ => .bl b
theorem se_non : SE K tb (tC .non) (eC .none) := se_const fun _ => .non
/-- an operator -/
abbrev F2 := W → W → Mem → Option (W × Mem)
abbrev F1 := W → Mem → Option (W × Mem)
def SR (K : PySem.W.Frag) (tb : List Addr) (r : R2) (f : F2) : Prop := ∀ A x y a b S w S' Q, Rep K tb A S → WR K tb A x a → WR K tb A y b → f a b S = some (w, S') → Pd.KE K tb A w S' Q → r x y A.H Q
def SU (K : PySem.W.Frag) (tb : List Addr) (r : V → Hp → VK → Prop) (f : F1) : Prop := ∀ A x a S w S' Q, Rep K tb A S → WR K tb A x a → f a S = some (w, S') → Pd.KE K tb A w S' Q → r x A.H Q
theorem SR.or {r r' : R2} {f g : F2} (h : SR K tb r f) (h' : SR K tb r' g) : SR K tb (fun x y H Q => r x y H Q ∨ r' x y H Q) (fun a b S => (f a b S).or (g a b S)) := fun A x y a b S w S' Q R ra rb e q => by
  have e : (f a b S).or (g a b S) = some (w, S') := e
  cases hf : f a b S with
  | some z => rw [hf] at e; cases e; exact .inl (h A x y a b S _ _ Q R ra rb hf q)
  | none => rw [hf] at e; exact .inr (h' A x y a b S _ _ Q R ra rb e q)
def eOp (f : F2) (a b : ME) : ME := fun ρ S => (a ρ S).bind fun p => (b ρ p.2).bind fun q => f p.1 q.1 q.2
def eUn (f : F1) (a : ME) : ME := fun ρ S => (a ρ S).bind fun p => f p.1 p.2
theorem se_op {r : R2} {f : F2} {ta tb' : TE} {a b : ME} (hr : SR K tb r f) (ha : SE K tb ta a) (hb : SE K tb tb' b) : SE K tb (tOp r ta tb') (eOp f a b) := fun A σ ρ S w S' Q R E e q => by
  obtain ⟨p, e1, e⟩ := Option.bind_eq_some_iff.mp e
  obtain ⟨z, e2, e⟩ := Option.bind_eq_some_iff.mp e
  refine ha A σ ρ S p.1 p.2 _ R E e1 fun x B N1 R1 r1 => ?_
  exact hb B σ ρ p.2 z.1 z.2 _ R1 (E.nxt N1) e2 fun y C N2 R2 r2 => hr C x y p.1 z.1 z.2 w S' Q R2 (r1.nxt N2) r2 e (q.nxt (N1.trans N2))
theorem se_un {r : V → Hp → VK → Prop} {f : F1} {ta : TE} {a : ME} (hr : SU K tb r f) (ha : SE K tb ta a) : SE K tb (tUn r ta) (eUn f a) := fun A σ ρ S w S' Q R E e q => by
  obtain ⟨p, e1, e⟩ := Option.bind_eq_some_iff.mp e
  exact ha A σ ρ S p.1 p.2 _ R E e1 fun x B N1 R1 r1 => hr B x p.1 p.2 w S' Q R1 r1 e (q.nxt N1)
/-- an operator on ints -/
def oI (g : Int → Int → Option PyData) : F2 := fun a b S => match a, b with
  | .d (.int i), .d (.int j) => (g i j).map fun z => (.d z, S)
  | _, _ => none
theorem WR.int {A : Wd} {x : V} {i : Int} (h : WR K tb A x (.d (.int i))) : x = .int i := by cases (show DR K tb A x _ from h); rfl
theorem WR.str {A : Wd} {x : V} {i : Str} (h : WR K tb A x (.d (.str i))) : x = .str i := by cases (show DR K tb A x _ from h); rfl
theorem WR.bl {A : Wd} {x : V} {i : Bool} (h : WR K tb A x (.d (.bool i))) : x = .bl i := by cases (show DR K tb A x _ from h); rfl
theorem WR.non {A : Wd} {x : V} (h : WR K tb A x (.d .none)) : x = .non := by cases (show DR K tb A x _ from h); rfl
theorem WR.tup {A : Wd} {x : V} {ds : List PyData} (h : WR K tb A x (.d (.tuple ds))) : ∃ a xs, x = .ref a ∧ FzT K tb A a xs ∧ DRs K tb A xs ds := by
  cases (show DR K tb A x _ from h) with | tup f r => exact ⟨_, _, rfl, f, r⟩
theorem WR.lst {A : Wd} {x : V} {ds : List PyData} (h : WR K tb A x (.d (.list ds))) : ∃ a xs, x = .ref a ∧ Fz tb A a (.lst xs) ∧ DRs K tb A xs ds := by
  cases (show DR K tb A x _ from h) with | lst f r => exact ⟨_, _, rfl, f, r⟩
theorem WR.scr {A : Wd} {x : V} {ds : List PyData} (h : WR K tb A x (.d (.dict [(.none, .list ds)]))) : ∃ a xs, x = .ref a ∧ FzL K tb A a xs ∧ DRs K tb A xs ds := by
  cases (show DR K tb A x _ from h) with | scr f r => exact ⟨_, _, rfl, f, r⟩
theorem oI_some {g : Int → Int → Option PyData} {a b : W} {S S' : Mem} {w : W} (h : oI g a b S = some (w, S')) : ∃ i j z, a = .d (.int i) ∧ b = .d (.int j) ∧ g i j = some z ∧ w = .d z ∧ S' = S := by
  unfold oI at h
  split at h
  · rename_i i j
    obtain ⟨z, e1, e2⟩ := Option.map_eq_some_iff.mp h
    cases e2
    exact ⟨i, j, z, rfl, rfl, e1, rfl, rfl⟩
  · cases h
theorem sr_rI0 {g : Int → Int → PyData} {gv : Int → Int → V} (h : ∀ i j A, DR K tb A (gv i j) (g i j)) : SR K tb (rI0 gv) (oI fun i j => some (g i j)) := fun A x y a b S w S' Q R ra rb e q => by
  obtain ⟨i, j, z, rfl, rfl, e1, rfl, rfl⟩ := oI_some e
  cases e1
  obtain rfl := ra.int
  obtain rfl := rb.int
  exact ⟨i, j, rfl, rfl, q _ A .refl R (h i j A)⟩
theorem sr_rI {C : Int → Int → Prop} {c : Int → Int → Bool} {g : Int → Int → PyData} {gv : Int → Int → V} (hc : ∀ i j, c i j = true → C i j) (h : ∀ i j A, DR K tb A (gv i j) (g i j)) :
    SR K tb (rI C gv) (oI fun i j => if c i j = true then some (g i j) else none) := fun A x y a b S w S' Q R ra rb e q => by
  obtain ⟨i, j, z, rfl, rfl, e1, rfl, rfl⟩ := oI_some e
  split at e1
  · rename_i hcc
    cases e1
    obtain rfl := ra.int
    obtain rfl := rb.int
    exact ⟨i, j, rfl, rfl, hc i j hcc, q _ A .refl R (h i j A)⟩
  · cases e1
def oAdd : F2 := oI fun i j => some (.int (i + j))
def oSub : F2 := oI fun i j => some (.int (i - j))
def oLt : F2 := oI fun i j => some (.bool (decide (i < j)))
def oLe : F2 := oI fun i j => some (.bool (decide (i ≤ j)))
def oGt : F2 := oI fun i j => some (.bool (decide (j < i)))
def oGe : F2 := oI fun i j => some (.bool (decide (j ≤ i)))
def oMul : F2 := oI fun i j => if decide (((-(2 ^ 64) < i ∧ i < 2 ^ 64) ∨ (-(2 ^ 64) < j ∧ j < 2 ^ 64)) ∨ i.natAbs.log2 + j.natAbs.log2 < 1000000) = true then some (.int (i * j)) else none
def oDiv : F2 := oI fun i j => if decide (0 < j ∧ j.natAbs.log2 < 9000) = true then some (.int (i / j)) else none
def oMod : F2 := oI fun i j => if decide (0 < j) = true then some (.int (i % j)) else none
theorem sr_add : SR K tb (rI0 fun i j => .int (i + j)) oAdd := sr_rI0 fun _ _ _ => .int _
theorem sr_sub : SR K tb (rI0 fun i j => .int (i - j)) oSub := sr_rI0 fun _ _ _ => .int _
theorem sr_lt : SR K tb (rI0 fun i j => .bl (decide (i < j))) oLt := sr_rI0 fun _ _ _ => .bl _
theorem sr_le : SR K tb (rI0 fun i j => .bl (decide (i ≤ j))) oLe := sr_rI0 fun _ _ _ => .bl _
theorem sr_gt : SR K tb (rI0 fun i j => .bl (decide (j < i))) oGt := sr_rI0 fun _ _ _ => .bl _
theorem sr_ge : SR K tb (rI0 fun i j => .bl (decide (j ≤ i))) oGe := sr_rI0 fun _ _ _ => .bl _
abbrev rMulA : R2 := rI (fun i j => CMul i j ∨ CMulW i j) fun i j => .int (i * j)
theorem sr_mul : SR K tb rMulA oMul := sr_rI (fun i j h => show ((-(2 ^ 64) < i ∧ i < 2 ^ 64) ∨ (-(2 ^ 64) < j ∧ j < 2 ^ 64)) ∨ i.natAbs.log2 + j.natAbs.log2 < 1000000 from of_decide_eq_true h) fun _ _ _ => .int _
theorem op_mulA {X : Cx} : OpR X (binaryOp .Mult) rMulA := fun pins s σ H x y v u Q I rx ry h => by
  obtain ⟨i, j, e1, e2, h | h, q⟩ := h
  · exact op_mul pins s σ H x y v u Q I rx ry ⟨i, j, e1, e2, h, q⟩
  · exact op_mulW pins s σ H x y v u Q I rx ry ⟨i, j, e1, e2, h, q⟩
theorem sr_div : SR K tb (rI CDivW fun i j => .int (i / j)) oDiv := sr_rI (fun i j h => show 0 < j ∧ j.natAbs.log2 < 9000 from of_decide_eq_true h) fun _ _ _ => .int _
theorem sr_mod : SR K tb (rI (fun _ j => 0 < j) fun i j => .int (i % j)) oMod := sr_rI (fun _ _ h => of_decide_eq_true h) fun _ _ _ => .int _
/-- == of data -/
def scalD : PyData → PyData → Bool
  | .none, .none => true | .none, .int _ => true | .int _, .none => true | .none, .bool _ => true | .bool _, .none => true | .none, .str _ => true | .str _, .none => true
  | .int _, .int _ => true | .bool _, .bool _ => true | .str _, .str _ => true
  | .int _, .str _ => true | .str _, .int _ => true | .bool _, .str _ => true | .str _, .bool _ => true
  | _, _ => false
def eqS : PyData → PyData → Bool
  | .none, .none => true
  | .int i, .int j => decide (i = j)
  | .bool i, .bool j => decide (i = j)
  | .str i, .str j => decide (i = j)
  | _, _ => false
def eqP (x y : PyData) : Option Bool := if scalD x y = true then some (eqS x y) else if SeqAt.shaped x = true ∧ SeqAt.shaped y = true then some (PyData.eqv x y) else none
def oEq (n : Bool) : F2 := fun a b S => match a, b with
  | .d x, .d y => (eqP x y).map fun z => (.d (.bool (if n then !z else z)), S)
  | _, _ => none
theorem scal_of {A : Wd} {x y : V} {a b : PyData} (ra : DR K tb A x a) (rb : DR K tb A y b) (h : scalD a b = true) : scal x y = true ∧ decide (x = y) = eqS a b := by
  cases ra <;> cases rb <;> first | exact absurd (show false = true from h) Bool.false_ne_true | exact ⟨rfl, rfl⟩ | exact ⟨rfl, decide_eq_false (fun z => nomatch z)⟩ | (refine ⟨rfl, ?_⟩; show decide _ = decide _; congr 1; simp)
abbrev rEqA (K : PySem.W.Frag) : R2 := fun x y H Q => rEq x y H Q ∨ rEqD K x y H Q
abbrev rNeA (K : PySem.W.Frag) : R2 := fun x y H Q => rNe x y H Q ∨ rNeD K x y H Q
theorem eqP_run {A : Wd} {x y : V} {a b : PyData} {z : Bool} (ra : DR K tb A x a) (rb : DR K tb A y b) (h : eqP a b = some z) :
    (scal x y = true ∧ decide (x = y) = z) ∨ (SeqAt.shaped a = true ∧ SeqAt.shaped b = true ∧ PyData.eqv a b = z) := by
  unfold eqP at h
  split at h
  · rename_i hs
    cases h
    exact .inl (scal_of ra rb hs)
  · split at h
    · rename_i hs
      cases h
      exact .inr ⟨hs.1, hs.2, rfl⟩
    · cases h
theorem oEq_some {n : Bool} {a b : W} {S S' : Mem} {w : W} (h : oEq n a b S = some (w, S')) : ∃ x y z, a = .d x ∧ b = .d y ∧ eqP x y = some z ∧ w = .d (.bool (if n then !z else z)) ∧ S' = S := by
  unfold oEq at h
  split at h
  · rename_i x y
    obtain ⟨z, e1, e2⟩ := Option.map_eq_some_iff.mp h
    cases e2
    exact ⟨x, y, z, rfl, rfl, e1, rfl, rfl⟩
  · cases h
theorem sr_eq : SR K tb (rEqA K) (oEq false) := fun A x y a b S w S' Q R ra rb e q => by
  obtain ⟨u, v, z, rfl, rfl, e1, rfl, rfl⟩ := oEq_some e
  rcases eqP_run (show DR K tb A x u from ra) (show DR K tb A y v from rb) e1 with ⟨h1, h2⟩ | ⟨h1, h2, h3⟩
  · exact .inl ⟨h1, by rw [h2]; exact q _ A .refl R (DR.bl z)⟩
  · exact .inr ⟨u, v, DR.dp u ra (SeqAt.canLay_of_shaped h1), DR.dp v rb (SeqAt.canLay_of_shaped h2), h1, h2, by rw [h3]; exact q _ A .refl R (DR.bl z)⟩
theorem sr_ne : SR K tb (rNeA K) (oEq true) := fun A x y a b S w S' Q R ra rb e q => by
  obtain ⟨u, v, z, rfl, rfl, e1, rfl, rfl⟩ := oEq_some e
  rcases eqP_run (show DR K tb A x u from ra) (show DR K tb A y v from rb) e1 with ⟨h1, h2⟩ | ⟨h1, h2, h3⟩
  · exact .inl ⟨h1, by rw [h2]; exact q _ A .refl R (DR.bl (!z))⟩
  · exact .inr ⟨u, v, DR.dp u ra (SeqAt.canLay_of_shaped h1), DR.dp v rb (SeqAt.canLay_of_shaped h2), h1, h2, by rw [h3]; exact q _ A .refl R (DR.bl (!z))⟩
theorem op_eqA {X : Cx} (hu : X.A.units + 64 < cLine) : OpR X (compareOp .Eq) (rEqA X.K) := fun pins s σ H x y v u Q I rx ry h => h.elim (fun h => op_eq pins s σ H x y v u Q I rx ry h) (fun h => op_eqD hu pins s σ H x y v u Q I rx ry h)
theorem op_neA {X : Cx} (hu : X.A.units + 64 < cLine) : OpR X (compareOp .NotEq) (rNeA X.K) := fun pins s σ H x y v u Q I rx ry h => h.elim (fun h => op_ne pins s σ H x y v u Q I rx ry h) (fun h => op_neD hu pins s σ H x y v u Q I rx ry h)
/-- is None, is not None -/
def isNonW : W → Bool
  | .d .none => true
  | _ => false
def oIsN (n : Bool) : F2 := fun a b S => match b with
  | .d .none => some (.d (.bool (if n then !isNonW a else isNonW a)), S)
  | _ => none
theorem isNon_of {A : Wd} {x : V} {a : W} (h : WR K tb A x a) : decide (x = V.non) = isNonW a := by
  cases a with
  | d y => cases (show DR K tb A x y from h) <;> first | rfl | exact decide_eq_false (fun z => nomatch z)
  | loc n => obtain ⟨a, rfl, _⟩ := h; exact decide_eq_false (fun z => nomatch z)
theorem oIsN_some {n : Bool} {a b : W} {S S' : Mem} {w : W} (h : oIsN n a b S = some (w, S')) : b = .d .none ∧ w = .d (.bool (if n then !isNonW a else isNonW a)) ∧ S' = S := by
  unfold oIsN at h
  split at h
  · cases h; exact ⟨rfl, rfl, rfl⟩
  · cases h
theorem sr_isN : SR K tb (fun x y H Q => y = .non ∧ Q (.bl (decide (x = .non))) H) (oIsN false) := fun A x y a b S w S' Q R ra rb e q => by
  obtain ⟨rfl, rfl, rfl⟩ := oIsN_some e
  exact ⟨rb.non, by rw [isNon_of ra]; exact q _ A .refl R (DR.bl _)⟩
theorem sr_notN : SR K tb (fun x y H Q => y = .non ∧ Q (.bl (!decide (x = .non))) H) (oIsN true) := fun A x y a b S w S' Q R ra rb e q => by
  obtain ⟨rfl, rfl, rfl⟩ := oIsN_some e
  exact ⟨rb.non, by rw [isNon_of ra]; exact q _ A .refl R (DR.bl _)⟩
/-! ### tests -/
def eB (m : ME) : MT := fun ρ S => (m ρ S).bind fun p => match p.1 with
  | .d (.bool b) => some (b, p.2)
  | _ => none
theorem eB_some {m : ME} {ρ : Env'} {S S' : Mem} {b : Bool} (h : eB m ρ S = some (b, S')) : m ρ S = some (.d (.bool b), S') := by
  obtain ⟨p, e1, e⟩ := Option.bind_eq_some_iff.mp h
  obtain ⟨w, S1⟩ := p
  dsimp only at e
  split at e
  · cases e; exact e1
  · cases e
theorem st_of {te : TE} {m : ME} {t : TT} (h : SE K tb te m) (ht : ∀ σ H Q, te σ H (fun x H1 => ∃ k, x = .bl k ∧ Q k H1) → t σ H Q) : ST K tb t (eB m) := fun A σ ρ S b S' Q R E e q => by
  refine ht _ _ _ (h A σ ρ S _ S' _ R E (eB_some e) fun v B N R' r => ?_)
  exact ⟨b, r.bl, q B N R'⟩
theorem st_test {te : TE} {m : ME} (h : SE K tb te m) : ST K tb (tTest te) (eB m) := st_of h fun _ _ _ z => z
theorem st_val {te : TE} {m : ME} (h : SE K tb te m) : ST K tb (tB te) (eB m) := st_of h fun _ _ _ z => z
def eAnd (a b : MT) : MT := fun ρ S => (a ρ S).bind fun p => if p.1 = true then b ρ p.2 else some (false, p.2)
def eOr (a b : MT) : MT := fun ρ S => (a ρ S).bind fun p => if p.1 = true then some (true, p.2) else b ρ p.2
def eNot (a : MT) : MT := fun ρ S => (a ρ S).bind fun p => some (!p.1, p.2)
theorem st_and {t u : TT} {a b : MT} (ha : ST K tb t a) (hb : ST K tb u b) : ST K tb (tAnd t u) (eAnd a b) := fun A σ ρ S c S' Q R E e q => by
  obtain ⟨⟨k, S1⟩, e1, e⟩ := Option.bind_eq_some_iff.mp e
  refine ha A σ ρ S k S1 _ R E e1 fun B N R1 => ?_
  cases k with
  | true => exact hb B σ ρ S1 c S' Q R1 (E.nxt N) e fun C N2 R2 => q C (N.trans N2) R2
  | false => cases e; exact q B N R1
theorem st_or {t u : TT} {a b : MT} (ha : ST K tb t a) (hb : ST K tb u b) : ST K tb (tOr t u) (eOr a b) := fun A σ ρ S c S' Q R E e q => by
  obtain ⟨⟨k, S1⟩, e1, e⟩ := Option.bind_eq_some_iff.mp e
  refine ha A σ ρ S k S1 _ R E e1 fun B N R1 => ?_
  cases k with
  | false => exact hb B σ ρ S1 c S' Q R1 (E.nxt N) e fun C N2 R2 => q C (N.trans N2) R2
  | true => cases e; exact q B N R1
theorem st_not {t : TT} {a : MT} (ha : ST K tb t a) : ST K tb (tNot t) (eNot a) := fun A σ ρ S c S' Q R E e q => by
  obtain ⟨⟨k, S1⟩, e1, e⟩ := Option.bind_eq_some_iff.mp e
  cases e
  exact ha A σ ρ S k _ _ R E e1 fun B N R1 => q B N R1
/-- and, or, not as values -/
def eT (a : MT) : ME := fun ρ S => (a ρ S).bind fun p => some (.d (.bool p.1), p.2)
def eAndV (a b : ME) : ME := fun ρ S => (eB a ρ S).bind fun p => if p.1 = true then b ρ p.2 else some (.d (.bool false), p.2)
def eOrV (a b : ME) : ME := fun ρ S => (eB a ρ S).bind fun p => if p.1 = true then some (.d (.bool true), p.2) else b ρ p.2
def eNotV (a : ME) : ME := fun ρ S => (eB a ρ S).bind fun p => some (.d (.bool (!p.1)), p.2)
theorem se_andV {ta tb' : TE} {a b : ME} (ha : SE K tb ta a) (hb : SE K tb tb' b) : SE K tb (tAndV ta tb') (eAndV a b) := fun A σ ρ S w S' Q R E e q => by
  obtain ⟨⟨k, S1⟩, e1, e⟩ := Option.bind_eq_some_iff.mp e
  refine ha A σ ρ S _ S1 _ R E (eB_some e1) fun v B N R1 r1 => ⟨k, r1.bl, ?_⟩
  cases k with
  | true => exact hb B σ ρ S1 w S' Q R1 (E.nxt N) e (q.nxt N)
  | false => cases e; exact q _ B N R1 (DR.bl false)
theorem se_orV {ta tb' : TE} {a b : ME} (ha : SE K tb ta a) (hb : SE K tb tb' b) : SE K tb (tOrV ta tb') (eOrV a b) := fun A σ ρ S w S' Q R E e q => by
  obtain ⟨⟨k, S1⟩, e1, e⟩ := Option.bind_eq_some_iff.mp e
  refine ha A σ ρ S _ S1 _ R E (eB_some e1) fun v B N R1 r1 => ⟨k, r1.bl, ?_⟩
  cases k with
  | false => exact hb B σ ρ S1 w S' Q R1 (E.nxt N) e (q.nxt N)
  | true => cases e; exact q _ B N R1 (DR.bl true)
theorem se_notV {ta : TE} {a : ME} (ha : SE K tb ta a) : SE K tb (tNotV ta) (eNotV a) := fun A σ ρ S w S' Q R E e q => by
  obtain ⟨⟨k, S1⟩, e1, e⟩ := Option.bind_eq_some_iff.mp e
  cases e
  exact ha A σ ρ S _ _ _ R E (eB_some e1) fun v B N R1 r1 => ⟨k, r1.bl, q _ B N R1 (DR.bl _)⟩
def eIf (c : MT) (a b : ME) : ME := fun ρ S => (c ρ S).bind fun p => if p.1 = true then a ρ p.2 else b ρ p.2
theorem se_if {t : TT} {ta tb' : TE} {c : MT} {a b : ME} (hc : ST K tb t c) (ha : SE K tb ta a) (hb : SE K tb tb' b) : SE K tb (tIf t ta tb') (eIf c a b) := fun A σ ρ S w S' Q R E e q => by
  obtain ⟨⟨k, S1⟩, e1, e⟩ := Option.bind_eq_some_iff.mp e
  refine hc A σ ρ S k S1 _ R E e1 fun B N R1 => ?_
  cases k with
  | true => exact ha B σ ρ S1 w S' Q R1 (E.nxt N) e (q.nxt N)
  | false => exact hb B σ ρ S1 w S' Q R1 (E.nxt N) e (q.nxt N)
/-- a chain of two comparisons -/
def eChain (f g : F2) (a b c : ME) : ME := fun ρ S => (a ρ S).bind fun p => (b ρ p.2).bind fun q => (f p.1 q.1 q.2).bind fun z => match z.1 with
  | .d (.bool true) => (c ρ z.2).bind fun u => g q.1 u.1 u.2
  | .d (.bool false) => some (.d (.bool false), z.2)
  | _ => none
/-! ### arguments, displays -/
def aNil : MA := fun _ S => some ([], S)
def aCons (a : ME) (t : MA) : MA := fun ρ S => (a ρ S).bind fun p => (t ρ p.2).bind fun q => some (p.1 :: q.1, q.2)
theorem sa_nil : SA K tb tNil aNil := fun A σ ρ S ws S' Q R E e q => by cases e; exact q [] A .refl R .nil
theorem sa_cons {ta : TE} {t : TA} {a : ME} {m : MA} (ha : SE K tb ta a) (ht : SA K tb t m) : SA K tb (tCons ta t) (aCons a m) := fun A σ ρ S ws S' Q R E e q => by
  obtain ⟨p, e1, e⟩ := Option.bind_eq_some_iff.mp e
  obtain ⟨z, e2, e⟩ := Option.bind_eq_some_iff.mp e
  cases e
  exact ha A σ ρ S p.1 p.2 _ R E e1 fun x B N R1 r1 => ht B σ ρ p.2 z.1 z.2 _ R1 (E.nxt N) e2 fun xs C N2 R2 r2 => q _ C (N.trans N2) R2 (.cons (r1.nxt N2) r2)
/-- the data of values, if they are data -/
def dOf : List W → Option (List PyData)
  | [] => some []
  | .d x :: ws => (dOf ws).map (x :: ·)
  | .loc _ :: _ => none
theorem drs_of {A : Wd} : ∀ {vs : List V} {ws : List W} {ds : List PyData}, WRs K tb A vs ws → dOf ws = some ds → DRs K tb A vs ds
  | _, [], _, .nil, e => by cases e; exact .nil
  | _, .d x :: ws, _, .cons r t, e => by
    obtain ⟨ds, e1, e2⟩ := Option.map_eq_some_iff.mp e
    subst e2
    exact .cons r (drs_of t e1)
  | _, .loc n :: ws, _, .cons r t, e => by cases e
theorem wrs_of {A : Wd} : ∀ {vs : List V} {ds : List PyData}, DRs K tb A vs ds → WRs K tb A vs (ds.map .d)
  | _, [], h => by cases h; exact .nil
  | _, d :: ds, h => by cases h with | cons a b => exact .cons a (wrs_of b)
theorem dOf_length : ∀ {ws : List W} {ds : List PyData}, dOf ws = some ds → ws.length = ds.length
  | [], _, e => by cases e; rfl
  | .d x :: ws, _, e => by
    obtain ⟨ds, e1, e2⟩ := Option.map_eq_some_iff.mp e
    subst e2
    simp [dOf_length e1]
  | .loc n :: ws, _, e => by cases e
theorem dOf_map : ∀ {ds : List PyData}, dOf (ds.map .d) = some ds
  | [] => rfl
  | d :: ds => by show (dOf (ds.map .d)).map _ = _; rw [dOf_map]; rfl
/-- a tuple; a list that is never changed; a list that may be changed -/
def mkT (ws : List W) (S : Mem) : Option (W × Mem) := (dOf ws).bind fun ds => if ds.length ≤ sizeLine then some (.d (.tuple ds), S) else none
def mkF (ws : List W) (S : Mem) : Option (W × Mem) := (dOf ws).bind fun ds => if ds.length ≤ sizeLine then some (.d (.list ds), S) else none
def mkL (ws : List W) (S : Mem) : Option (W × Mem) := if ws.length ≤ sizeLine then some (.loc S.length, S ++ [.lst ws]) else none
def eTup (a : MA) : ME := fun ρ S => (a ρ S).bind fun p => mkT p.1 p.2
def eLstF (a : MA) : ME := fun ρ S => (a ρ S).bind fun p => mkF p.1 p.2
def eLstL (a : MA) : ME := fun ρ S => (a ρ S).bind fun p => mkL p.1 p.2
theorem WRs.length {A : Wd} {vs : List V} {ws : List W} (h : WRs K tb A vs ws) : vs.length = ws.length := Paired.length h
theorem mkT_run {A : Wd} {vs : List V} {ws : List W} {S S' : Mem} {w : W} {Q : VK} (R : Rep K tb A S) (r : WRs K tb A vs ws) (h : mkT ws S = some (w, S')) (q : Pd.KE K tb A w S' Q) : vs.length ≤ sizeLine ∧ ∀ p, A.H p = none → Q (.ref p) (upd A.H p (.tup vs)) := by
  obtain ⟨ds, e1, e⟩ := Option.bind_eq_some_iff.mp h
  split at e
  · rename_i hl
    cases e
    have rd := drs_of r e1
    refine ⟨by rw [rd.length]; exact hl, fun p hp => ?_⟩
    exact q _ (A.put p (.tup vs)) (.put hp _) (R.put hp _) (DR.tup (.inl (.put R hp _)) (DRs.nxt (.put hp _) ds rd))
  · cases e
theorem mkF_run {A : Wd} {vs : List V} {ws : List W} {S S' : Mem} {w : W} {Q : VK} (R : Rep K tb A S) (r : WRs K tb A vs ws) (h : mkF ws S = some (w, S')) (q : Pd.KE K tb A w S' Q) : vs.length ≤ sizeLine ∧ ∀ p, A.H p = none → Q (.ref p) (upd A.H p (.lst vs)) := by
  obtain ⟨ds, e1, e⟩ := Option.bind_eq_some_iff.mp h
  split at e
  · rename_i hl
    cases e
    have rd := drs_of r e1
    refine ⟨by rw [rd.length]; exact hl, fun p hp => ?_⟩
    exact q _ (A.put p (.lst vs)) (.put hp _) (R.put hp _) (DR.lst (.put R hp _) (DRs.nxt (.put hp _) ds rd))
  · cases e
theorem mkL_run {A : Wd} {vs : List V} {ws : List W} {S S' : Mem} {w : W} {Q : VK} (R : Rep K tb A S) (r : WRs K tb A vs ws) (h : mkL ws S = some (w, S')) (q : Pd.KE K tb A w S' Q) : vs.length ≤ sizeLine ∧ ∀ p, A.H p = none → Q (.ref p) (upd A.H p (.lst vs)) := by
  unfold mkL at h
  split at h
  · rename_i hl
    cases h
    refine ⟨by rw [WRs.length r]; exact hl, fun p hp => ?_⟩
    refine q _ (A.add p (.lst vs)) (.add hp _) (R.add hp ⟨vs, upd_same, r.nxt (.add hp _)⟩) ⟨p, rfl, ?_⟩
    show (A.ι ++ [p])[S.length]? = some p
    rw [← R.len]; simp
  · cases h
theorem se_tup {t : TA} {a : MA} (ha : SA K tb t a) : SE K tb (tTup t) (eTup a) := fun A σ ρ S w S' Q R E e q => by
  obtain ⟨p, e1, e⟩ := Option.bind_eq_some_iff.mp e
  exact ha A σ ρ S p.1 p.2 _ R E e1 fun vs B N R1 r1 => mkT_run R1 r1 e (q.nxt N)
theorem se_lstF {t : TA} {a : MA} (ha : SA K tb t a) : SE K tb (tLst t) (eLstF a) := fun A σ ρ S w S' Q R E e q => by
  obtain ⟨p, e1, e⟩ := Option.bind_eq_some_iff.mp e
  exact ha A σ ρ S p.1 p.2 _ R E e1 fun vs B N R1 r1 => mkF_run R1 r1 e (q.nxt N)
theorem se_lstL {t : TA} {a : MA} (ha : SA K tb t a) : SE K tb (tLst t) (eLstL a) := fun A σ ρ S w S' Q R E e q => by
  obtain ⟨p, e1, e⟩ := Option.bind_eq_some_iff.mp e
  exact ha A σ ρ S p.1 p.2 _ R E e1 fun vs B N R1 r1 => mkL_run R1 r1 e (q.nxt N)
/-! ### statements -/
def sNx : MS := fun ρ S => some (.nx, ρ, S)
def sSeq (a b : MS) : MS := fun ρ S => (a ρ S).bind fun p => match p.1 with
  | .nx => b p.2.1 p.2.2
  | o => some (o, p.2)
def sIf (c : MT) (a b : MS) : MS := fun ρ S => (c ρ S).bind fun p => if p.1 = true then a ρ p.2 else b ρ p.2
def sRet (a : ME) : MS := fun ρ S => (a ρ S).bind fun p => some (.rt p.1, ρ, p.2)
def sDrop (a : ME) : MS := fun ρ S => (a ρ S).bind fun p => some (.nx, ρ, p.2)
def sAsg (a : ME) (g : MG) : MS := fun ρ S => (a ρ S).bind fun p => (g p.1 ρ p.2).bind fun q => some (.nx, q.1, q.2)
def sBrk : MS := fun ρ S => some (.bk, ρ, S)
def sCt : MS := fun ρ S => some (.ct, ρ, S)
def sNone : MS := fun _ _ => none
theorem ss_nil : SS K tb tNext sNx := fun A σ ρ S o ρ' S' D R E e q => by cases e; exact q A σ .refl R E
theorem ss_brk : SS K tb tBreak sBrk := fun A σ ρ S o ρ' S' D R E e q => by cases e; exact q A σ .refl R E
theorem ss_ct : SS K tb tCont sCt := fun A σ ρ S o ρ' S' D R E e q => by cases e; exact q A σ .refl R E
/-- a statement that is never reached -/
theorem ps_none {X : Cx} {st : Stmt} : PS X st tNever := ⟨fun _ _ _ _ _ _ h => h.elim⟩
theorem ss_none : SS K tb tNever sNone := fun A σ ρ S o ρ' S' D R E e q => by cases e
theorem ss_seq {t u : TS} {a b : MS} (ha : SS K tb t a) (hb : SS K tb u b) : SS K tb (tSeq t u) (sSeq a b) := fun A σ ρ S o ρ' S' D R E e q => by
  obtain ⟨⟨o1, ρ1, S1⟩, e1, e⟩ := Option.bind_eq_some_iff.mp e
  refine ha A σ ρ S o1 ρ1 S1 _ R E e1 ?_
  cases o1 with
  | nx => exact fun B σ' N R' E' => hb B σ' ρ1 S1 o ρ' S' D R' E' e (q.nxt N)
  | bk => cases e; exact q
  | ct => cases e; exact q
  | rt w => cases e; exact q
theorem ss_if {c : TT} {t u : TS} {m : MT} {a b : MS} (hc : ST K tb c m) (ha : SS K tb t a) (hb : SS K tb u b) : SS K tb (tIfS c t u) (sIf m a b) := fun A σ ρ S o ρ' S' D R E e q => by
  obtain ⟨⟨k, S1⟩, e1, e⟩ := Option.bind_eq_some_iff.mp e
  refine hc A σ ρ S k S1 _ R E e1 fun B N R1 => ?_
  cases k with
  | true => exact ha B σ ρ S1 o ρ' S' D R1 (E.nxt N) e (q.nxt N)
  | false => exact hb B σ ρ S1 o ρ' S' D R1 (E.nxt N) e (q.nxt N)
theorem ss_ret {te : TE} {a : ME} (ha : SE K tb te a) : SS K tb (tRet te) (sRet a) := fun A σ ρ S o ρ' S' D R E e q => by
  obtain ⟨p, e1, e⟩ := Option.bind_eq_some_iff.mp e
  cases e
  exact ha A σ ρ S p.1 p.2 _ R E e1 fun v B N R1 r => q B v N R1 r
theorem ss_drop {te : TE} {a : ME} (ha : SE K tb te a) : SS K tb (tDrop te) (sDrop a) := fun A σ ρ S o ρ' S' D R E e q => by
  obtain ⟨p, e1, e⟩ := Option.bind_eq_some_iff.mp e
  cases e
  exact ha A σ ρ S p.1 p.2 _ R E e1 fun v B N R1 r => q B σ N R1 (E.nxt N)
theorem ss_asg {te : TE} {a : ME} {g : TG} {m : MG} {vs : List Nat} (ha : SE K tb te a) (hg : SG K tb vs g m) : SS K tb (tAsg te g) (sAsg a m) := fun A σ ρ S o ρ' S' D R E e q => by
  obtain ⟨p, e1, e⟩ := Option.bind_eq_some_iff.mp e
  obtain ⟨z, e2, e⟩ := Option.bind_eq_some_iff.mp e
  cases e
  exact ha A σ ρ S p.1 p.2 _ R E e1 fun v B N R1 r => hg B v p.1 σ ρ p.2 z.1 z.2 _ R1 (E.nxt N) r e2 fun C σ' N2 R2 E2 _ _ => q C σ' (N.trans N2) R2 E2
/-! ### targets -/
def gN (i : Nat) : MG := fun w ρ S => some (ρ.set i (some w), S)
theorem sg_name (i : Nat) : SG K tb [i] (gName i) (gN i) := fun A v w σ ρ S ρ' S' Q R E r e q => by
  cases e
  refine q A _ .refl R (E.set r i) (by rw [List.length_set]) fun j hj => ?_
  rw [List.getElem?_set_ne (fun z => hj (by rw [z]; exact List.mem_singleton.mpr rfl))]
abbrev MGs := List PyData → Env' → Mem → Option (Env' × Mem)
def SGs (K : PySem.W.Frag) (tb : List Addr) (vs : List Nat) (g : TGs) (m : MGs) : Prop := ∀ A xs ds σ ρ S ρ' S' (Q : L2.St → Hp → Prop), Rep K tb A S → ER K tb A σ ρ → DRs K tb A xs ds → m ds ρ S = some (ρ', S') →
  (∀ B σ', Nxt tb A B → Rep K tb B S' → ER K tb B σ' ρ' → σ'.length = σ.length → (∀ j, j ∉ vs → σ'[j]? = σ[j]?) → Q σ' B.H) → g xs σ A.H Q
def gsNil : MGs := fun ds ρ S => match ds with
  | [] => some (ρ, S)
  | _ => none
def gsCons (g : MG) (m : MGs) : MGs := fun ds ρ S => match ds with
  | [] => none
  | d :: ds => (g (.d d) ρ S).bind fun p => m ds p.1 p.2
def gTup' (m : MGs) : MG := fun w ρ S => match w with
  | .d (.tuple ds) => m ds ρ S
  | _ => none
theorem sgs_nil : SGs K tb [] gNil gsNil := fun A xs ds σ ρ S ρ' S' Q R E r e q => by
  unfold gsNil at e
  split at e
  · cases e; cases r; exact ⟨rfl, q A σ .refl R E rfl fun _ _ => rfl⟩
  · cases e
theorem sgs_cons {vs us : List Nat} {g : TG} {u : TGs} {m : MG} {n : MGs} (hg : SG K tb vs g m) (hu : SGs K tb us u n) : SGs K tb (vs ++ us) (gCons g u) (gsCons m n) := fun A xs ds σ ρ S ρ' S' Q R E r e q => by
  cases ds with
  | nil => cases e
  | cons d ds =>
    obtain ⟨p, e1, e⟩ := Option.bind_eq_some_iff.mp e
    cases r with
    | cons a b =>
      refine ⟨_, _, rfl, hg A _ (.d d) σ ρ S p.1 p.2 _ R E a e1 fun B σ' N R1 E1 hl hj => ?_⟩
      refine hu B _ ds σ' p.1 p.2 ρ' S' Q R1 E1 (DRs.nxt N ds b) e fun C σ2 N2 R2 E2 hl2 hj2 => q C σ2 (N.trans N2) R2 E2 (hl2.trans hl) fun j hn => ?_
      rw [List.mem_append, not_or] at hn
      exact (hj2 j hn.2).trans (hj j hn.1)
/-- how many the target takes -/
def SGlen (n : Nat) (m : MGs) : Prop := ∀ ds ρ S r, m ds ρ S = some r → ds.length = n
theorem glen_nil : SGlen 0 gsNil := fun ds ρ S r e => by
  unfold gsNil at e
  split at e
  · rfl
  · cases e
theorem glen_cons {n : Nat} {g : MG} {m : MGs} (h : SGlen n m) : SGlen (n + 1) (gsCons g m) := fun ds ρ S r e => by
  cases ds with
  | nil => cases e
  | cons d ds =>
    obtain ⟨p, e1, e⟩ := Option.bind_eq_some_iff.mp e
    simp [h _ _ _ _ e]
theorem sg_tup {n : Nat} {vs : List Nat} {g : TGs} {m : MGs} (hl : SGlen n m) (h : SGs K tb vs g m) : SG K tb vs (gTup K n g) (gTup' m) := fun A v w σ ρ S ρ' S' Q R E r e q => by
  unfold gTup' at e
  split at e
  · rename_i ds
    obtain ⟨a, xs, rfl, f, rd⟩ := r.tup
    exact ⟨a, xs, rfl, f.sq, by rw [rd.length]; exact hl _ _ _ _ e, h A xs ds σ ρ S ρ' S' Q R E rd e q⟩
  · cases e
end
end Pd
namespace Pd
open PySem PySem.Spec PyProof.Rows L2 GxR Gx
/-! ### defs -/
abbrev MF := List W → Mem → Option (W × Mem)
section
variable {K : PySem.W.Frag} {tb : List Addr}
def spD (K : PySem.W.Frag) (tb : List Addr) (n : Nat) (m : MF) : Sp := fun vs H Q _ => vs.length = n ∧ ∃ (A : Wd) (ws : List W) (S : Mem) (w : W) (S' : Mem), A.H = H ∧ WRs K tb A vs ws ∧ Rep K tb A S ∧ m ws S = some (w, S') ∧ Pd.KE K tb A w S' Q
def Ar (n : Nat) (m : MF) : Prop := ∀ ws S r, m ws S = some r → ws.length = n
def eCall (m : MF) (a : MA) : ME := fun ρ S => (a ρ S).bind fun p => m p.1 p.2
theorem se_call {n : Nat} {m : MF} {t : TA} {a : MA} {E : XK} (h : Ar n m) (ha : SA K tb t a) : SE K tb (tCall (spD K tb n m) [] E t) (eCall m a) := fun A σ ρ S w S' Q R E e q => by
  obtain ⟨p, e1, e⟩ := Option.bind_eq_some_iff.mp e
  refine ha A σ ρ S p.1 p.2 _ R E e1 fun vs B N R1 r1 => ?_
  rw [List.append_nil]
  exact ⟨by rw [WRs.length r1]; exact h _ _ _ e, B, p.1, p.2, w, S', rfl, r1, R1, e, q.nxt N⟩
def mNone : MF := fun _ _ => none
theorem ar_none {n : Nat} : Ar n mNone := fun _ _ _ h => nomatch h
/-- the locations of an object stand below n -/
def wLt (n : Nat) : W → Bool
  | .d _ => true
  | .loc k => decide (k < n)
def obLt (n : Nat) : Ob → Bool
  | .lst ws => ws.all (wLt n)
  | .dct kvs => kvs.all fun p => wLt n p.2
  | .ins _ fs => fs.all fun p => wLt n p.2
  | .ldct kvs => kvs.all fun p => wLt n p.2
/-- a def's end: its own lists are given up, the one that it returns is never changed again -/
def fin (f : Bool) (n : Nat) (w : W) (S : Mem) : Option (W × Mem) := if f = false then some (w, S) else
  if (S.take n).all (obLt n) = true then match w with
    | .d x => some (.d x, S.take n)
    | .loc k => if k < n then some (.loc k, S.take n) else match S[k]? with
      | some (.lst ws) => (dOf ws).map fun ds => (.d (.list ds), S.take n)
      | _ => none
  else none
theorem wLt_wr {A : Wd} {n : Nat} {v : V} {w : W} (R : WR K tb A v w) (h : wLt n w = true) : WR K tb { A with ι := A.ι.take n } v w := by
  cases w with
  | d x =>
    have key : ∀ {a : Addr} {u : HO}, Fz tb A a u → Fz tb { A with ι := A.ι.take n } a u := fun {a u} z => ⟨fun m => z.1 (m.imp (fun y => List.mem_of_mem_take y) id), z.2⟩
    have all : (∀ (v : V) (x : PyData), DR K tb A v x → DR K tb { A with ι := A.ι.take n } v x) := by
      intro v x h
      exact DR.rec (motive_1 := fun v x _ => DR K tb { A with ι := A.ι.take n } v x) (motive_2 := fun vs xs _ => DRs K tb { A with ι := A.ι.take n } vs xs)
        .non .bl .int .str (fun f _ r => .lst (key f) r) (fun f _ r => .scr (f.imp key id) r) (fun f _ r => .tup (f.imp key id) r) .nil (fun _ _ a b => .cons a b) h
    exact all v x R
  | loc k =>
    obtain ⟨a, e, i⟩ := R
    have hk : k < n := of_decide_eq_true h
    exact ⟨a, e, by show (A.ι.take n)[k]? = some a; rw [List.getElem?_take_of_lt hk]; exact i⟩
theorem drs_map {A B : Wd} (all : ∀ (x : PyData) (v : V), DR K tb A v x → DR K tb B v x) : ∀ {vs : List V} {ds : List PyData}, DRs K tb A vs ds → DRs K tb B vs ds
  | _, [], h => by cases h; exact .nil
  | _, d :: ds, h => by cases h with | cons a b => exact .cons (all _ _ a) (drs_map all b)
theorem fin_run {A B : Wd} {S S' : Mem} {f : Bool} {v : V} {w w' : W} {S'' : Mem} {Q : VK} (R0 : Rep K tb A S) (N : Nxt tb A B) (R : Rep K tb B S') (r : WR K tb B v w) (h : fin f S.length w S' = some (w', S'')) (q : Pd.KE K tb A w' S'' Q) : Q v B.H := by
  unfold fin at h
  split at h
  · cases h; exact q v B N R r
  split at h
  · rename_i hall
    obtain ⟨more, em⟩ := N.pre
    have et : B.ι.take S.length = A.ι := by rw [em, ← R0.len, List.take_left]
    let C : Wd := { B with ι := B.ι.take S.length }
    have up : ∀ {b : Addr}, b ∈ A.ι → b ∈ B.ι := fun {b} z => by rw [em]; exact List.mem_append_left _ z
    have NC : Nxt tb A C := ⟨N.hid, N.hid2, N.more, ⟨[], by show B.ι.take S.length = _; rw [et, List.append_nil]⟩, fun b o n t e => ⟨(N.keep b o n t e).1, fun z => n (by have z' : b ∈ B.ι.take S.length := z; rwa [et] at z')⟩, N.frz⟩
    have obC : ∀ {ob : Ob} {a : Addr}, OR K tb B ob a → obLt S.length ob = true → OR K tb C ob a := fun {ob a} z hl => by
      cases ob with
      | lst ws =>
        obtain ⟨vs, e, rr⟩ := z
        refine ⟨vs, e, ?_⟩
        have hl : ws.all (wLt S.length) = true := hl
        clear e h hall
        induction rr with
        | nil => exact .nil
        | cons a b ih =>
          rw [List.all_cons, Bool.and_eq_true] at hl
          exact .cons (wLt_wr a hl.1) (ih hl.2 hl.2)
      | dct kvs =>
        obtain ⟨vs, e, rr⟩ := z
        refine ⟨vs, e, ?_⟩
        have hl : (kvs.all fun p => wLt S.length p.2) = true := hl
        clear e h hall
        induction rr with
        | nil => exact .nil
        | cons a b ih =>
          rw [List.all_cons, Bool.and_eq_true] at hl
          exact .cons ⟨a.1, wLt_wr a.2 hl.1⟩ (ih hl.2 hl.2)
      | ldct kvs =>
        obtain ⟨o, vs, e, rr⟩ := z
        refine ⟨o, vs, e, ?_⟩
        have hl : (kvs.all fun p => wLt S.length p.2) = true := hl
        clear e h hall
        induction rr with
        | nil => exact .nil
        | cons a b ih =>
          rw [List.all_cons, Bool.and_eq_true] at hl
          exact .cons ⟨a.1, wLt_wr a.2 hl.1⟩ (ih hl.2 hl.2)
      | ins CC fs =>
        obtain ⟨dx, vs, e, rr⟩ := z
        refine ⟨dx, vs, e, ?_⟩
        have hl : (fs.all fun p => wLt S.length p.2) = true := hl
        clear e h hall
        induction rr with
        | nil => exact .nil
        | cons a b ih =>
          rw [List.all_cons, Bool.and_eq_true] at hl
          exact .cons ⟨a.1, wLt_wr a.2 hl.1⟩ (ih hl.2 hl.2)
    have RC : Rep K tb C (S'.take S.length) := by
      refine ⟨?_, ?_, R.tabs, fun b hb => ?_, fun n a ob e1 e2 => ?_⟩
      · show (B.ι.take S.length).length = _
        rw [List.length_take, List.length_take, R.len]
      · exact R.nd.sublist (List.take_sublist _ _)
      · obtain ⟨h1, h2, h3⟩ := R.hd b hb
        exact ⟨h1, fun z => h2 (List.mem_of_mem_take z), h3⟩
      · have e1 : (B.ι.take S.length)[n]? = some a := e1
        have hn : n < S.length := by
          have := (List.getElem?_eq_some_iff.mp e1).1
          rw [List.length_take] at this
          omega
        have e2' := e2
        rw [List.getElem?_take_of_lt hn] at e1 e2
        exact obC (R.at_ n a ob e1 e2) (List.all_eq_true.mp hall ob (List.mem_of_getElem? e2'))
    cases w with
    | d x =>
      cases h
      exact q v C NC RC (wLt_wr (w := .d x) r rfl)
    | loc k =>
      dsimp only at h
      split at h
      · rename_i hk
        cases h
        exact q v C NC RC (wLt_wr (w := .loc k) r (decide_eq_true hk))
      · rename_i hk
        split at h
        · rename_i ws ek
          obtain ⟨ds, e1, e2⟩ := Option.map_eq_some_iff.mp h
          cases e2
          obtain ⟨a, rfl, ei⟩ := r
          have o := R.at_ k a _ ei ek
          obtain ⟨vs, ev, rr⟩ := o
          refine q _ C NC RC (DR.lst ⟨?_, .inl ev⟩ ?_)
          · rintro (z | z | z)
            · have z : a ∈ B.ι.take S.length := z
              obtain ⟨j, hj, ej⟩ := List.getElem_of_mem z
              have ej' : (B.ι.take S.length)[j]? = some a := by rw [List.getElem?_eq_getElem hj, ej]
              have hjl : j < S.length := by rw [List.length_take] at hj; omega
              rw [List.getElem?_take_of_lt hjl] at ej'
              obtain ⟨h1, q1⟩ := List.getElem?_eq_some_iff.mp ej'
              obtain ⟨h2, q2⟩ := List.getElem?_eq_some_iff.mp ei
              have := (List.getElem_inj R.nd).mp (q1.trans q2.symm)
              omega
            · exact R.tab_ne (List.mem_of_getElem? ei) z rfl
            · exact (R.hd a z).2.1 (List.mem_of_getElem? ei)
          · have rd := drs_of rr e1
            have all : ∀ (x : PyData) (v : V), DR K tb B v x → DR K tb C v x := fun x v z => wLt_wr (w := .d x) z rfl
            exact drs_map all rd
        · cases h
  · cases h
/-- a def with n parameters, k further names -/
def dfn (n k : Nat) (f : Bool) (body : MS) : MF := fun ws S => if ws.length = n then (body (ws.map some ++ List.replicate k none) S).bind fun p => match p.1 with
    | .nx => fin f S.length (.d .none) p.2.2
    | .rt w => fin f S.length w p.2.2
    | _ => none
  else none
theorem ar_dfn {n k : Nat} {f : Bool} {body : MS} : Ar n (dfn n k f body) := fun ws S r h => by
  unfold dfn at h
  split at h
  · assumption
  · cases h
theorem er_start {A : Wd} {vs : List V} {ws : List W} (r : WRs K tb A vs ws) (k : Nat) : ER K tb A (vs.map some ++ List.replicate k none) (ws.map some ++ List.replicate k none) := by
  refine ⟨by simp [WRs.length r], fun i w e => ?_⟩
  have hl := WRs.length r
  by_cases hi : i < ws.length
  · rw [List.getElem?_append_left (by simpa using hi), List.getElem?_map] at e
    rw [List.getElem?_append_left (by simpa [hl] using hi), List.getElem?_map]
    obtain ⟨w', e1, e2⟩ := Option.map_eq_some_iff.mp e
    cases e2
    have : ∀ {vs : List V} {ws : List W} {i : Nat} {w : W}, WRs K tb A vs ws → ws[i]? = some w → ∃ v, vs[i]? = some v ∧ WR K tb A v w := by
      intro vs ws i w r
      induction r generalizing i with
      | nil => intro e; simp at e
      | cons a b ih =>
        intro e
        cases i with
        | zero => simp at e; subst e; exact ⟨_, rfl, a⟩
        | succ i => simp at e; obtain ⟨v, q, z⟩ := ih e; exact ⟨v, by simpa using q, z⟩
    obtain ⟨v, q, z⟩ := this r e1
    exact ⟨v, by rw [q]; rfl, z⟩
  · rw [List.getElem?_append_right (by simpa using hi), List.getElem?_replicate] at e
    split at e <;> cases e
/-- a def, its code object at c -/
structure FunC (K : PySem.W.Frag) (x qual : Str) (st : Stmt) (f : Addr) (fd : FuncData) (c : Addr) : Prop where
  ex : ∃ (oc : Value) (od : Option Addr) (kV doc pm : Value) (an : Option Addr) (ct : Value) (osl : Array (Option Value)),
    fd = PySem.W.fnOf x qual (defArgs st) (defBody st) (defScope st) .none kV doc pm an (.ref c) ct ∧ K.lookup f = some ⟨oc, od, .func fd, osl⟩ ∧ PySem.W.codeIn K (.ref c) qual = true
  kp : PySem.W.keepIn K (.ref f) = true
variable {P : Program} {w : World} {mg : Str → Option Value} {base : Heap}
theorem def_ok {x qual : Str} {st : Stmt} {f : Addr} {fd : FuncData} {c : Addr} {N ps : List Str} {k : Nat} {fz : Bool} {body : MS} (F : FunC K x qual st f fd c) (S : FnScope N ps (defScope st))
    (hbody : ∀ (A : Around) (outer : List Env) (s : Shared) (H : Hp) (E : XK), Room k (A.deeper (envOfC qual (defScope st) s.heap.objs.size f (.ref c))) →
      ∃ t, PSs (cxOf CX0 P w K mg base N qual (defScope st) f (.ref c) A outer s H E).nox (defBody st) t ∧ SS K tb t body) :
    FnOk P w K mg base CX0 (k + 1) f fd ps (spD K tb ps.length (dfn ps.length (N.length - ps.length) fz body)) := by
  obtain ⟨oc, od, kV, doc, pm, an, ct, osl, rfl, lk, hcd⟩ := F.ex
  refine fn_of lk hcd S (fun vs H Q E h => h.1) fun A outer s H vs Q E hr hsp => ?_
  obtain ⟨t, h, hs⟩ := hbody A outer s H E hr
  refine ⟨t, h.nox, ?_⟩
  obtain ⟨hl, B, ws, S0, w', S', rfl, r, R, e, q⟩ := hsp
  unfold dfn at e
  rw [if_pos (by rw [← WRs.length r, hl])] at e
  obtain ⟨⟨o, ρ', S1⟩, e1, e⟩ := Option.bind_eq_some_iff.mp e
  have hst : L2.start N vs = vs.map some ++ List.replicate (N.length - ps.length) none := by unfold L2.start; rw [hl]
  rw [hst]
  refine hs B _ _ S0 o ρ' S1 _ R (er_start r _) e1 ?_
  cases o with
  | nx => exact fun C σ' N1 R1 E1 => fin_run (v := .non) (w := .d .none) R N1 R1 DR.non e q
  | rt w2 => exact fun C v N1 R1 r1 => fin_run R N1 R1 r1 e q
  | bk => cases e
  | ct => cases e
theorem fn_none {f : Addr} {fd : FuncData} {ps : List Str} {k : Nat} : FnOk P w K mg base CX0 k f fd ps (spD K tb ps.length mNone) :=
  ⟨fun vs H Q E h => h.1, fun A outer s H args us vs Q E hr he hb hv ⟨_, _, _, _, _, _, _, _, _, e, _⟩ => nomatch e⟩
end
end Pd
namespace Pd
open PySem PySem.Spec PyProof.Rows L2 GxR Gx
/-! ### walks -/
/-- what is walked: values, or the list with this number as it stands at each turn -/
inductive Itm where
  | vals (ws : List W)
  | live (n : Nat)
  | rev (n l : Nat)
  | enl (n : Nat)
/-- data with their numbers -/
def numW (us : List PyData) : List W := us.zipIdx.map fun p => W.d (.tuple [.int (p.2 : Int), p.1])
abbrev MI := Env' → Mem → Option (Itm × Mem)
section
variable {K : PySem.W.Frag} {tb : List Addr}
/-- the items as they stand -/
def Itm.now (im : Itm) (S : Mem) (ws : List W) : Prop := match im with
  | .vals us => us = ws
  | .live n => S[n]? = some (.lst ws)
  | .rev n l => ∃ us, S[n]? = some (.lst us) ∧ us.length = l ∧ ws = us.reverse
  | .enl n => ∃ us ds, S[n]? = some (.lst us) ∧ dOf us = some ds ∧ ws = numW ds
def ItOk (K : PySem.W.Frag) (tb : List Addr) (A : Wd) (J : It) (im : Itm) : Prop := ∀ B S ws, NxW tb A B → Rep K tb B S → im.now S ws →
  (∀ i w, ws[i]? = some w → J.go i B.H ∧ ∀ x H2, J.yld i B.H x H2 → ∃ C, C.H = H2 ∧ Nxt tb B C ∧ Rep K tb C S ∧ WR K tb C x w) ∧ ∀ i, ws.length ≤ i → J.stop i B.H
def SI (K : PySem.W.Frag) (tb : List Addr) (wi : TI) (mi : MI) : Prop := ∀ A σ ρ S im S' (R' : It → Hp → Prop), Rep K tb A S → ER K tb A σ ρ → mi ρ S = some (im, S') → (∀ J B, Nxt tb A B → Rep K tb B S' → ItOk K tb B J im → R' J B.H) → wi σ A.H R'
theorem ItOk.nxt {A B : Wd} {J : It} {im : Itm} (x : Nxt tb A B) (h : ItOk K tb A J im) : ItOk K tb B J im := fun C S ws y R e => h C S ws (x.w.trans y) R e
/-- the items at a turn -/
def Itm.at_ (im : Itm) (S : Mem) (i : Nat) : Option (Option W) := match im with
  | .vals ws => some ws[i]?
  | .live n => match S[n]? with
    | some (.lst ws) => some ws[i]?
    | _ => none
  | .rev n l => match S[n]? with
    | some (.lst us) => if us.length = l then some us.reverse[i]? else none
    | _ => none
  | .enl n => match S[n]? with
    | some (.lst us) => (dOf us).map fun ds => (numW ds)[i]?
    | _ => none
def Itm.len (im : Itm) (S : Mem) : Nat := match im with
  | .vals ws => ws.length
  | .live n => match S[n]? with
    | some (.lst ws) => ws.length
    | _ => 0
  | .rev _ l => l
  | .enl n => match S[n]? with
    | some (.lst ws) => ws.length
    | _ => 0
theorem Itm.at_now {im : Itm} {S : Mem} {i : Nat} {o : Option W} (h : im.at_ S i = some o) : ∃ ws, im.now S ws ∧ o = ws[i]? := by
  cases im with
  | vals ws => cases h; exact ⟨ws, rfl, rfl⟩
  | live n =>
    have h : (match S[n]? with | some (.lst ws) => some ws[i]? | _ => none) = some o := h
    split at h
    · rename_i ws e; cases h; exact ⟨ws, e, rfl⟩
    · cases h
  | rev n l =>
    have h : (match S[n]? with | some (.lst us) => if us.length = l then some us.reverse[i]? else none | _ => none) = some o := h
    split at h
    · rename_i us e
      split at h
      · rename_i hl; cases h; exact ⟨us.reverse, ⟨us, e, hl, rfl⟩, rfl⟩
      · cases h
    · cases h
  | enl n =>
    have h : (match S[n]? with | some (.lst us) => (dOf us).map fun ds => (numW ds)[i]? | _ => none) = some o := h
    split at h
    · rename_i us e
      obtain ⟨ds, h1, h2⟩ := Option.map_eq_some_iff.mp h
      exact ⟨numW ds, ⟨us, ds, e, h1, rfl⟩, h2.symm⟩
    · cases h
/-! ### for -/
def forM (im : Itm) (g : MG) (b : MS) : Nat → Nat → MS
  | f, i, ρ, S => match im.at_ S i with
    | none => none
    | some none => some (.nx, ρ, S)
    | some (some w) => match f with
      | 0 => none
      | f + 1 => (g w ρ S).bind fun p => (b p.1 p.2).bind fun q => match q.1 with
        | .bk => some (.nx, q.2)
        | .rt w => some (.rt w, q.2)
        | _ => forM im g b f (i + 1) q.2.1 q.2.2
def sFor (mi : MI) (g : MG) (b : MS) : MS := fun ρ S => (mi ρ S).bind fun p => forM p.1 g b (p.1.len p.2) 0 ρ p.2
theorem ss_for {wi : TI} {g : TG} {tb' : TS} {mi : MI} {mg : MG} {b : MS} {vs : List Nat} (hi : SI K tb wi mi) (hg : SG K tb vs g mg) (hb : SS K tb tb' b) : SS K tb (tFor wi g tb') (sFor mi mg b) := fun A σ ρ S o ρ' S' D R E e q => by
  obtain ⟨⟨im, S1⟩, e1, e⟩ := Option.bind_eq_some_iff.mp e
  refine hi A σ ρ S im S1 _ R E e1 fun J B N R1 ok => ?_
  refine ⟨fun i m σ H => ∃ C ρ1 S2 o ρ' S', C.H = H ∧ Nxt tb B C ∧ Rep K tb C S2 ∧ ER K tb C σ ρ1 ∧ forM im mg b m i ρ1 S2 = some (o, ρ', S') ∧ FinK K tb D C o ρ' S', ⟨_, B, ρ, S1, o, ρ', S', rfl, .refl, R1, E.nxt N, e, q.nxt N⟩, ?_⟩
  rintro i m σ2 _ ⟨C, ρ1, S2, o, ρ', S', rfl, N2, R2, E2, e2, q2⟩
  unfold forM at e2
  split at e2
  · cases e2
  · rename_i ha
    cases e2
    obtain ⟨ws, hw, hz⟩ := Itm.at_now ha
    have st := (ok C S2 ws N2.w R2 hw).2 i (List.getElem?_eq_none_iff.mp hz.symm)
    exact .inl ⟨st, q2 C σ2 .refl R2 E2⟩
  · rename_i w ha
    obtain ⟨ws, hw, hz⟩ := Itm.at_now ha
    obtain ⟨go, yl⟩ := (ok C S2 ws N2.w R2 hw).1 i w hz.symm
    cases m with
    | zero => cases e2
    | succ m =>
      obtain ⟨⟨ρ3, S3⟩, e3, e2⟩ := Option.bind_eq_some_iff.mp e2
      obtain ⟨⟨o4, ρ4, S4⟩, e4, e2⟩ := Option.bind_eq_some_iff.mp e2
      refine .inr ⟨go, fun σ' H' => ∃ C ρ1 S2 o ρ' S', C.H = H' ∧ Nxt tb B C ∧ Rep K tb C S2 ∧ ER K tb C σ' ρ1 ∧ forM im mg b m (i + 1) ρ1 S2 = some (o, ρ', S') ∧ FinK K tb D C o ρ' S', fun σ' H' h => ⟨m, Nat.lt_succ_self m, h⟩, fun x H2 y => ?_⟩
      obtain ⟨C2, rfl, N3, R3, r3⟩ := yl x H2 y
      refine hg C2 x w σ2 ρ1 S2 ρ3 S3 _ R3 (E2.nxt N3) r3 e3 fun C3 σ3 N4 R4 E4 _ _ => ?_
      refine hb C3 σ3 ρ3 S3 o4 ρ4 S4 _ R4 E4 e4 ?_
      have NN := N2.trans (N3.trans N4)
      cases o4 with
      | nx => exact fun C5 σ5 N5 R5 E5 => ⟨C5, ρ4, S4, o, ρ', S', rfl, NN.trans N5, R5, E5, e2, q2.nxt ((N3.trans N4).trans N5)⟩
      | ct => exact fun C5 σ5 N5 R5 E5 => ⟨C5, ρ4, S4, o, ρ', S', rfl, NN.trans N5, R5, E5, e2, q2.nxt ((N3.trans N4).trans N5)⟩
      | bk => cases e2; exact fun C5 σ5 N5 R5 E5 => q2 C5 σ5 ((N3.trans N4).trans N5) R5 E5
      | rt w2 => cases e2; exact fun C5 v N5 R5 r5 => q2 C5 v ((N3.trans N4).trans N5) R5 r5
/-! ### the things that are walked -/
def seqW (w : W) : Option Itm := match w with
  | .d (.list ds) => some (.vals (ds.map .d))
  | .d (.tuple ds) => some (.vals (ds.map .d))
  | .loc n => some (.live n)
  | _ => none
def iTupM (a : ME) : MI := fun ρ S => (a ρ S).bind fun p => match p.1 with
  | .d (.tuple ds) => some (.vals (ds.map .d), p.2)
  | _ => none
def iLstM (a : ME) : MI := fun ρ S => (a ρ S).bind fun p => match p.1 with
  | .d (.list ds) => some (.vals (ds.map .d), p.2)
  | .d (.dict [(.none, .list ds)]) => some (.vals (ds.map .d), p.2)
  | .loc n => match p.2[n]? with
    | some (.lst _) => some (.live n, p.2)
    | _ => none
  | _ => none
def iRngM (lo n : W) (S : Mem) : Option (Itm × Mem) := match lo, n with
  | .d (.int lo), .d (.int n) => if decide (-(2 ^ 62) ≤ lo ∧ lo < 2 ^ 62 ∧ -(2 ^ 62) ≤ n ∧ n < 2 ^ 62) = true then some (.vals ((List.range (n - lo).toNat).map fun (i : Nat) => W.d (.int (lo + (i : Int)))), S) else none
  | _, _ => none
def iRng1M (a : MA) : MI := fun ρ S => (a ρ S).bind fun p => match p.1 with
  | [n] => iRngM (.d (.int 0)) n p.2
  | _ => none
def iRng2M (a : MA) : MI := fun ρ S => (a ρ S).bind fun p => match p.1 with
  | [lo, n] => iRngM lo n p.2
  | _ => none
theorem itt_ok {A : Wd} {a : Addr} {xs : List V} {ds : List PyData} (f : FzT K tb A a xs) (r : DRs K tb A xs ds) : ItOk K tb A (Itt K a) (.vals (ds.map .d)) := fun B S ws N R e => by
  cases (show ds.map W.d = ws from e)
  have f' := (f.nxw N).sq
  have rl := r.length
  refine ⟨fun i w hw => ?_, fun i hi => ⟨xs, f', by rw [List.length_map] at hi; omega⟩⟩
  rw [List.getElem?_map] at hw
  obtain ⟨d, e1, rfl⟩ := Option.map_eq_some_iff.mp hw
  obtain ⟨v, e2, r2⟩ := r.get' e1
  refine ⟨⟨xs, v, f', e2⟩, fun x H2 y => ?_⟩
  obtain ⟨rfl, y⟩ := y
  have := y xs f'
  rw [e2] at this; cases this
  exact ⟨B, rfl, .refl, R, DR.nxw N d r2⟩
theorem itl_ok0 {A : Wd} {a : Addr} {xs : List V} {ds : List PyData} (f : FzL K tb A a xs) (r : DRs K tb A xs ds) : ItOk K tb A (Itl K a) (.vals (ds.map .d)) := fun B S ws N R e => by
  cases (show ds.map W.d = ws from e)
  have f' := (f.nxw N).sq
  have rl := r.length
  refine ⟨fun i w hw => ?_, fun i hi => ⟨xs, f', by rw [List.length_map] at hi; omega⟩⟩
  rw [List.getElem?_map] at hw
  obtain ⟨d, e1, rfl⟩ := Option.map_eq_some_iff.mp hw
  obtain ⟨v, e2, r2⟩ := r.get' e1
  refine ⟨⟨xs, v, f', e2⟩, fun x H2 y => ?_⟩
  obtain ⟨rfl, y⟩ := y
  have := y xs f'
  rw [e2] at this; cases this
  exact ⟨B, rfl, .refl, R, DR.nxw N d r2⟩
theorem itl_ok {A : Wd} {a : Addr} {xs : List V} {ds : List PyData} (f : Fz tb A a (.lst xs)) (r : DRs K tb A xs ds) : ItOk K tb A (Itl K a) (.vals (ds.map .d)) := itl_ok0 (.inl f) r
theorem WRs.get' {A : Wd} {vs : List V} {ws : List W} {i : Nat} {w : W} (r : WRs K tb A vs ws) (e : ws[i]? = some w) : ∃ v, vs[i]? = some v ∧ WR K tb A v w := by
  induction r generalizing i with
  | nil => simp at e
  | cons a b ih =>
    cases i with
    | zero => simp at e; subst e; exact ⟨_, rfl, a⟩
    | succ i => simp at e; obtain ⟨v, q, z⟩ := ih e; exact ⟨v, by simpa using q, z⟩
theorem itl_live {A : Wd} {a : Addr} {n : Nat} (ha : A.ι[n]? = some a) : ItOk K tb A (Itl K a) (.live n) := fun B S ws N R e => by
  have e : S[n]? = some (.lst ws) := e
  obtain ⟨xs, ex, r⟩ := R.at_ n a _ (N.ix ha) e
  have sq : SqL K B.H a xs := .inl (.inl ex)
  have rl := WRs.length r
  refine ⟨fun i w hw => ?_, fun i hi => ⟨xs, sq, by omega⟩⟩
  obtain ⟨v, e2, r2⟩ := WRs.get' r hw
  refine ⟨⟨xs, v, sq, e2⟩, fun x H2 y => ?_⟩
  obtain ⟨rfl, y⟩ := y
  have := y xs sq
  rw [e2] at this; cases this
  exact ⟨B, rfl, .refl, R, r2⟩
theorem itr_ok {A : Wd} {lo : Int} {n : Nat} : ItOk K tb A (Itr lo n) (.vals ((List.range n).map fun (i : Nat) => W.d (.int (lo + (i : Int))))) := fun B S ws N R e => by
  cases (show (List.range n).map (fun (i : Nat) => W.d (.int (lo + (i : Int)))) = ws from e)
  refine ⟨fun i w hw => ?_, fun i hi => (by simpa using hi : n ≤ i)⟩
  rw [List.getElem?_map] at hw
  obtain ⟨d, e1, rfl⟩ := Option.map_eq_some_iff.mp hw
  obtain ⟨hi, e2⟩ := List.getElem?_eq_some_iff.mp e1
  rw [List.getElem_range] at e2
  subst e2
  rw [List.length_range] at hi
  refine ⟨hi, fun x H2 y => ?_⟩
  obtain ⟨rfl, rfl⟩ := y
  exact ⟨B, rfl, .refl, R, DR.int _⟩
theorem si_tup {tl : TE} {a : ME} (ha : SE K tb tl a) : SI K tb (iTup K tl) (iTupM a) := fun A σ ρ S im S' R' R E e q => by
  obtain ⟨⟨w, S1⟩, e1, e⟩ := Option.bind_eq_some_iff.mp e
  refine ha A σ ρ S w S1 _ R E e1 fun v B N R1 r => ?_
  dsimp only at e
  split at e
  · cases e
    obtain ⟨a, xs, rfl, f, rd⟩ := r.tup
    exact ⟨a, rfl, ⟨xs, f.sq⟩, q _ B N R1 (itt_ok f rd)⟩
  · cases e
theorem si_lst {tl : TE} {a : ME} (ha : SE K tb tl a) : SI K tb (iList K tl) (iLstM a) := fun A σ ρ S im S' R' R E e q => by
  obtain ⟨⟨w, S1⟩, e1, e⟩ := Option.bind_eq_some_iff.mp e
  refine ha A σ ρ S w S1 _ R E e1 fun v B N R1 r => ?_
  dsimp only at e
  split at e
  · cases e
    obtain ⟨a, xs, rfl, f, rd⟩ := r.lst
    exact ⟨a, rfl, ⟨xs, f.sq⟩, q _ B N R1 (itl_ok f rd)⟩
  · cases e
    obtain ⟨a, xs, rfl, f, rd⟩ := r.scr
    exact ⟨a, rfl, ⟨xs, f.sq⟩, q _ B N R1 (itl_ok0 f rd)⟩
  · split at e
    · rename_i ws ew
      cases e
      obtain ⟨a, rfl, i⟩ := r
      obtain ⟨vs, ev, _⟩ := R1.at_ _ a _ i ew
      exact ⟨a, rfl, ⟨vs, .inl (.inl ev)⟩, q _ B N R1 (itl_live i)⟩
    · cases e
  · cases e
theorem iRngM_some {a b : W} {S S' : Mem} {im : Itm} (h : iRngM a b S = some (im, S')) : ∃ lo n : Int, a = .d (.int lo) ∧ b = .d (.int n) ∧ (-(2 ^ 62) ≤ lo ∧ lo < 2 ^ 62 ∧ -(2 ^ 62) ≤ n ∧ n < 2 ^ 62) ∧ im = .vals ((List.range (n - lo).toNat).map fun (i : Nat) => W.d (.int (lo + (i : Int)))) ∧ S' = S := by
  unfold iRngM at h
  split at h
  · rename_i lo n
    split at h
    · rename_i hc
      cases h
      exact ⟨lo, n, rfl, rfl, of_decide_eq_true hc, rfl, rfl⟩
    · cases h
  · cases h
theorem si_rng1 {t : TA} {a : MA} (ha : SA K tb t a) : SI K tb (iRng1 t) (iRng1M a) := fun A σ ρ S im S' R' R E e q => by
  obtain ⟨⟨ws, S1⟩, e1, e⟩ := Option.bind_eq_some_iff.mp e
  refine ha A σ ρ S ws S1 _ R E e1 fun vs B N R1 r => ?_
  dsimp only at e
  split at e
  · obtain ⟨lo, n, e2, rfl, hb, rfl, rfl⟩ := iRngM_some e
    cases e2
    cases r with
    | cons r1 r2 =>
      cases r2
      obtain rfl := WR.int r1
      refine ⟨n, rfl, hb.2.2.1, hb.2.2.2, q _ B N R1 ?_⟩
      have := itr_ok (K := K) (tb := tb) (A := B) (lo := 0) (n := (n - 0).toNat)
      rw [Int.sub_zero] at this ⊢
      exact this
  · cases e
theorem si_rng2 {t : TA} {a : MA} (ha : SA K tb t a) : SI K tb (iRng2 t) (iRng2M a) := fun A σ ρ S im S' R' R E e q => by
  obtain ⟨⟨ws, S1⟩, e1, e⟩ := Option.bind_eq_some_iff.mp e
  refine ha A σ ρ S ws S1 _ R E e1 fun vs B N R1 r => ?_
  dsimp only at e
  split at e
  · obtain ⟨lo, n, rfl, rfl, hb, rfl, rfl⟩ := iRngM_some e
    cases r with
    | cons r1 r2 =>
      cases r2 with
      | cons r2 r3 =>
        cases r3
        obtain rfl := WR.int r1
        obtain rfl := WR.int r2
        exact ⟨lo, n, rfl, hb, q _ B N R1 itr_ok⟩
  · cases e
/-! ### comprehensions -/
def wipeE (ρ : Env') : List Nat → Env'
  | [] => ρ
  | v :: vs => (wipeE ρ vs).set v none
theorem wipeE_er {A : Wd} {σ : L2.St} {ρ : Env'} (h : ER K tb A σ ρ) : ∀ vs : List Nat, ER K tb A (wipe σ vs) (wipeE ρ vs)
  | [] => h
  | v :: vs => by
    have ih := wipeE_er h vs
    refine ⟨by show ((wipeE ρ vs).set v none).length = ((wipe σ vs).set v none).length; rw [List.length_set, List.length_set]; exact ih.1, fun i w e => ?_⟩
    have e : ((wipeE ρ vs).set v none)[i]? = some (some w) := e
    show ∃ u, ((wipe σ vs).set v none)[i]? = some (some u) ∧ _
    by_cases hi : v = i
    · subst hi
      have hlt : v < (wipeE ρ vs).length := by
        have := (List.getElem?_eq_some_iff.mp e).1
        rwa [List.length_set] at this
      rw [List.getElem?_set_self hlt] at e
      cases e
    · rw [List.getElem?_set_ne hi] at e ⊢
      exact ih.2 i w e
theorem wipe_get {σ : L2.St} {j : Nat} : ∀ {vs : List Nat}, (wipe σ vs)[j]? = if j ∈ vs then (if j < σ.length then some none else none) else σ[j]?
  | [] => by simp [wipe]
  | v :: vs => by
    show ((wipe σ vs).set v none)[j]? = _
    by_cases hj : v = j
    · subst hj
      by_cases hl : v < (wipe σ vs).length
      · rw [List.getElem?_set_self hl]
        rw [wipe_length] at hl
        simp [hl]
      · rw [List.getElem?_eq_none (by rw [List.length_set]; omega)]
        rw [wipe_length] at hl
        simp [hl]
    · rw [List.getElem?_set_ne hj, wipe_get (vs := vs)]
      have : j ∈ v :: vs ↔ j ∈ vs := by
        rw [List.mem_cons]
        exact ⟨fun z => z.resolve_left (fun z => hj z.symm), .inr⟩
      by_cases hm : j ∈ vs
      · rw [if_pos hm, if_pos (this.mpr hm)]
      · rw [if_neg hm, if_neg (fun z => hm (this.mp z))]
theorem wipe_wipe {σ σ2 : L2.St} {vs : List Nat} (hl : σ2.length = (wipe σ vs).length) (h : ∀ j, j ∉ vs → σ2[j]? = (wipe σ vs)[j]?) : wipe σ2 vs = wipe σ vs := by
  apply List.ext_getElem?
  intro j
  rw [wipe_length] at hl
  rw [wipe_get, wipe_get]
  by_cases hj : j ∈ vs
  · rw [if_pos hj, if_pos hj, hl]
  · rw [if_neg hj, if_neg hj, h j hj, wipe_get, if_neg hj]
def lcM (im : Itm) (g : MG) (t : MT) (e : ME) : Nat → Nat → Env' → Mem → Option (List W × Mem)
  | f, i, ρ, S => match im.at_ S i with
    | none => none
    | some none => some ([], S)
    | some (some w) => match f with
      | 0 => none
      | f + 1 => (g w ρ S).bind fun p => (t p.1 p.2).bind fun q => if q.1 = true then (e p.1 q.2).bind fun r => (lcM im g t e f (i + 1) ρ r.2).bind fun z => some (r.1 :: z.1, z.2) else lcM im g t e f (i + 1) ρ q.2
def eLc (mi : MI) (vs : List Nat) (g : MG) (t : MT) (e : ME) (mk : List W → Mem → Option (W × Mem)) : ME := fun ρ S => (mi ρ S).bind fun p => (lcM p.1 g t e (p.1.len p.2) 0 (wipeE ρ vs) p.2).bind fun q => mk q.1 q.2
def tYesM : MT := fun _ S => some (true, S)
theorem st_yes : ST K tb tYes tYesM := fun A σ ρ S b S' Q R E e q => by cases e; exact q A .refl R
theorem mkF_len {ws : List W} {S S' : Mem} {w : W} (h : mkF ws S = some (w, S')) : ws.length ≤ sizeLine := by
  obtain ⟨ds, e1, e⟩ := Option.bind_eq_some_iff.mp h
  split at e
  · rename_i hl; rw [dOf_length e1]; exact hl
  · cases e
theorem mkL_len {ws : List W} {S S' : Mem} {w : W} (h : mkL ws S = some (w, S')) : ws.length ≤ sizeLine := by
  unfold mkL at h
  split at h
  · assumption
  · cases h
/-- the same data, seen from a world that knows at least what stays -/
theorem dr_key {A C : Wd} (key : ∀ (a : Addr) (u : HO), Fz tb A a u → Fz tb C a u) : ∀ (x : PyData) (v : V), DR K tb A v x → DR K tb C v x := fun x v h =>
  DR.rec (motive_1 := fun v x _ => DR K tb C v x) (motive_2 := fun vs xs _ => DRs K tb C vs xs)
    .non .bl .int .str (fun f _ r => .lst (key _ _ f) r) (fun f _ r => .scr (f.imp (key _ _) id) r) (fun f _ r => .tup (f.imp (key _ _) id) r) .nil (fun _ _ a b => .cons a b) h
theorem wr_key {A C : Wd} (key : ∀ (a : Addr) (u : HO), Fz tb A a u → Fz tb C a u) (hι : ∀ (n : Nat) a, A.ι[n]? = some a → C.ι[n]? = some a) {v : V} {w : W} (h : WR K tb A v w) : WR K tb C v w := by
  cases w with
  | d x => exact dr_key key x v h
  | loc n => obtain ⟨a, e, i⟩ := h; exact ⟨a, e, hι n a i⟩
theorem or_key {A C : Wd} (key : ∀ (a : Addr) (u : HO), Fz tb A a u → Fz tb C a u) (hι : ∀ (n : Nat) a, A.ι[n]? = some a → C.ι[n]? = some a) {ob : Ob} {a : Addr} (e : C.H a = A.H a) (h : OR K tb A ob a) : OR K tb C ob a := by
  cases ob with
  | lst ws => obtain ⟨vs, q, r⟩ := h; exact ⟨vs, by rw [e]; exact q, Paired.mapP r fun _ _ z => wr_key key hι z⟩
  | dct kvs => obtain ⟨vs, q, r⟩ := h; exact ⟨vs, by rw [e]; exact q, Paired.mapP r fun _ _ z => ⟨z.1, wr_key key hι z.2⟩⟩
  | ins CC fs => obtain ⟨dx, vs, q, r⟩ := h; exact ⟨dx, vs, by rw [e]; exact q, Paired.mapP r fun _ _ z => ⟨z.1, wr_key key hι z.2⟩⟩
  | ldct kvs => obtain ⟨o, vs, q, r⟩ := h; exact ⟨o, vs, by rw [e]; exact q, Paired.mapP r fun _ _ z => ⟨z.1, wr_key key hι z.2⟩⟩
/-- a hidden object is changed -/
abbrev Wd.hset (A : Wd) (D : Addr) (o : HO) : Wd := { A with H := upd A.H D o }
theorem hset_key {A : Wd} {D : Addr} {o : HO} (hD : D ∈ A.hid) : ∀ (a : Addr) (u : HO), Fz tb A a u → Fz tb (A.hset D o) a u := fun a u h => by
  have ne : a ≠ D := fun z => h.1 (.inr (.inr (by rw [z]; exact hD)))
  refine ⟨h.1, ?_⟩
  rcases h.2 with r | ⟨ob, r⟩
  · exact .inl (by show upd A.H D o a = _; rw [upd_ne ne]; exact r)
  · exact .inr ⟨ob, by show upd A.H D o a = _; rw [upd_ne ne]; exact r⟩
theorem Rep.hset {A : Wd} {D : Addr} {o : HO} {S : Mem} (R : Rep K tb A S) (hD : D ∈ A.hid) : Rep K tb (A.hset D o) S := by
  obtain ⟨_, h2, h3⟩ := R.hd D hD
  refine ⟨R.len, R.nd, fun P hP => ?_, fun b hb => ?_, fun n a ob e1 e2 => ?_⟩
  · obtain ⟨ps, e, t⟩ := R.tabs P hP
    exact ⟨ps, by show upd A.H D o P = _; rw [upd_ne (fun z => h3 (by rw [← z]; exact hP))]; exact e, t⟩
  · obtain ⟨⟨o', e⟩, n, t⟩ := R.hd b hb
    refine ⟨?_, n, t⟩
    by_cases z : b = D
    · subst z; exact ⟨o, upd_same⟩
    · exact ⟨o', by show upd A.H D o b = _; rw [upd_ne z]; exact e⟩
  · have ne : a ≠ D := fun z => h2 (by rw [← z]; exact List.mem_of_getElem? e1)
    exact or_key (hset_key hD) (fun _ _ z => z) (upd_ne ne) (R.at_ n a ob e1 e2)
theorem nxw_hset {A B : Wd} {D : Addr} {o : HO} (N : NxW tb A B) (hD : D ∈ A.hid) (hi : D ∉ A.ι) : NxW tb A (B.hset D o) :=
  ⟨N.hid, N.hid2, fun b z => N.more b (upd_none z), N.pre, fun b u n t h e => by
    obtain ⟨q, n'⟩ := N.keep b u n t h e
    exact ⟨by show upd B.H D o b = _; rw [upd_ne (fun z => h (by rw [z]; exact hD))]; exact q, n'⟩, fun b o' u m e => by show upd B.H D o b = _; rw [upd_ne (fun z => hi (by rw [← z]; exact m))]; exact N.frz b o' u m e⟩
theorem nxt_hset {A B : Wd} {D : Addr} {o : HO} (N : Nxt tb A B) (hD : A.H D = none) : Nxt tb A (B.hset D o) :=
  ⟨N.hid, N.hid2, fun b z => N.more b (upd_none z), N.pre, fun b u n t e => by
    obtain ⟨q, n'⟩ := N.keep b u n t e
    exact ⟨by show upd B.H D o b = _; rw [upd_ne (ne_of_none e hD)]; exact q, n'⟩, fun b o' u m e => by show upd B.H D o b = _; rw [upd_ne (ne_of_none e hD)]; exact N.frz b o' u m e⟩
theorem Nxt.hidden {A B : Wd} {S : Mem} (N : Nxt tb A B) (R : Rep K tb A S) {D : Addr} {o : HO} (hD : D ∈ A.hid) (e : A.H D = some o) : B.H D = some o := (N.keep D o (R.hd D hD).2.1 (R.hd D hD).2.2 e).1
/-- what becomes of the list that a comprehension makes -/
def SMk (K : PySem.W.Frag) (tb : List Addr) (mk : List W → Mem → Option (W × Mem)) : Prop := (∀ ws S r, mk ws S = some r → ws.length ≤ sizeLine) ∧ ∀ (B C : Wd) (D : Addr) (vs : List V) (ws : List W) (S0 S : Mem) (w : W) (S' : Mem) (Q : VK),
  Rep K tb B S0 → B.H D = none → Nxt tb B C → D ∈ C.hid → C.H D = some (.lst vs) → Rep K tb C S → WRs K tb C vs ws → mk ws S = some (w, S') → Pd.KE K tb B w S' Q → Q (.ref D) C.H
theorem smk_F : SMk K tb mkF := by
  refine ⟨fun ws S r h => mkF_len h, fun B C D vs ws S0 S w S' Q R0 hn N hD e R r h q => ?_⟩
  obtain ⟨ds, e1, e2⟩ := Option.bind_eq_some_iff.mp h
  split at e2
  · cases e2
    let E : Wd := { C with hid := B.hid }
    have key : ∀ (a : Addr) (u : HO), Fz tb C a u → Fz tb E a u := fun a u z => ⟨fun m => z.1 (m.imp id fun m => m.imp id fun m => N.hid a m), z.2⟩
    refine q (.ref D) E ⟨fun _ z => z, fun _ z => .inl z, N.more, N.pre, N.keep, N.frz⟩ ⟨R.len, R.nd, R.tabs, fun b hb => R.hd b (N.hid b hb), fun n a ob z1 z2 => or_key key (fun _ _ z => z) rfl (R.at_ n a ob z1 z2)⟩ (DR.lst ⟨?_, .inl e⟩ (drs_map (dr_key key) (drs_of r e1)))
    obtain ⟨_, h2, h3⟩ := R.hd D hD
    rintro (z | z | z)
    · exact h2 z
    · exact h3 z
    · obtain ⟨⟨o, eo⟩, _⟩ := R0.hd D z
      rw [hn] at eo; cases eo
  · cases e2
theorem smk_L : SMk K tb mkL := by
  refine ⟨fun ws S r h => mkL_len h, fun B C D vs ws S0 S w S' Q R0 hn N hD e R r h q => ?_⟩
  unfold mkL at h
  split at h
  · cases h
    obtain ⟨⟨_, _⟩, h2, h3⟩ := R.hd D hD
    let E : Wd := { H := C.H, hid := B.hid, ι := C.ι ++ [D] }
    have key : ∀ (a : Addr) (u : HO), Fz tb C a u → Fz tb E a u := fun a u z => ⟨fun m => z.1 (by
      rcases m with m | m | m
      · rcases List.mem_append.mp m with m | m
        · exact .inl m
        · rw [List.mem_singleton.mp m]; exact .inr (.inr hD)
      · exact .inr (.inl m)
      · exact .inr (.inr (N.hid a m))), z.2⟩
    have hι : ∀ (n : Nat) a, C.ι[n]? = some a → E.ι[n]? = some a := fun n a z => by
      show (C.ι ++ [D])[n]? = some a
      rw [List.getElem?_append_left (List.getElem?_eq_some_iff.mp z).1]; exact z
    refine q (.ref D) E ⟨fun _ z => z, fun _ z => .inl z, N.more, ?_, fun b o n t eb => ?_, N.frz⟩ ⟨by show (C.ι ++ [D]).length = _; simp [R.len], ?_, R.tabs, fun b hb => ?_, fun n a ob z1 z2 => ?_⟩ ⟨D, rfl, ?_⟩
    · obtain ⟨m, em⟩ := N.pre
      exact ⟨m ++ [D], by show C.ι ++ [D] = _; rw [em, List.append_assoc]⟩
    · obtain ⟨q1, q2⟩ := N.keep b o n t eb
      exact ⟨q1, fun z => (List.mem_append.mp z).elim q2 fun z => ne_of_none eb hn (List.mem_singleton.mp z)⟩
    · show (C.ι ++ [D]).Nodup
      rw [List.nodup_append]
      exact ⟨R.nd, by simp, fun a ha b hb eab => h2 (by rw [List.mem_singleton.mp hb] at eab; rw [← eab]; exact ha)⟩
    · obtain ⟨k1, k2, k3⟩ := R.hd b (N.hid b hb)
      refine ⟨k1, fun z => (List.mem_append.mp z).elim k2 fun z => ?_, k3⟩
      obtain ⟨⟨o, eo⟩, _⟩ := R0.hd b hb
      rw [List.mem_singleton.mp z, hn] at eo; cases eo
    · have z1 : (C.ι ++ [D])[n]? = some a := z1
      by_cases hl : n < C.ι.length
      · rw [List.getElem?_append_left hl] at z1
        rw [List.getElem?_append_left (by rw [← R.len]; exact hl)] at z2
        exact or_key key hι rfl (R.at_ n a ob z1 z2)
      · rw [List.getElem?_append_right (by omega)] at z1
        rw [List.getElem?_append_right (by rw [← R.len]; omega)] at z2
        have hz : n - C.ι.length = 0 := by
          cases hh : n - C.ι.length with
          | zero => rfl
          | succ k => rw [hh] at z1; simp at z1
        rw [hz] at z1
        rw [← R.len, hz] at z2
        simp at z1 z2
        subst z1 z2
        exact ⟨vs, e, Paired.mapP r fun _ _ z => wr_key key hι z⟩
    · show (C.ι ++ [D])[S.length]? = some D
      rw [← R.len]; simp
  · cases h
theorem se_lc {wi : TI} {mg' : TG} {tt : TT} {te : TE} {vs : List Nat} {us : List Nat} {mi : MI} {mg : MG} {mt : MT} {me : ME} {mk : List W → Mem → Option (W × Mem)} (hk : SMk K tb mk) (hi : SI K tb wi mi) (hg : SG K tb us mg' mg) (hsub : ∀ j, j ∈ us → j ∈ vs) (ht : ST K tb tt mt) (he : SE K tb te me) :
    SE K tb (tLc wi mg' tt te vs) (eLc mi vs mg mt me mk) := fun A σ ρ S w S' Q R E e q => by
  obtain ⟨⟨im, S1⟩, e1, e⟩ := Option.bind_eq_some_iff.mp e
  obtain ⟨⟨zs, S2⟩, e2, e3⟩ := Option.bind_eq_some_iff.mp e
  refine hi A σ ρ S im S1 _ R E e1 fun J B N R1 ok D hD => ?_
  have hlen := hk.1 _ _ _ e3
  let B1 : Wd := { H := upd B.H D (.lst []), ι := B.ι, hid := D :: B.hid }
  have nD := R1.fresh hD
  have N1 : Nxt tb B B1 := ⟨fun b z => List.mem_cons_of_mem _ z, fun b z => (List.mem_cons.mp z).elim (fun z => .inr (by rw [z]; exact hD)) .inl, fun b z => upd_none z, ⟨[], by show B.ι = _; simp⟩, fun b o n t e => ⟨by show upd B.H D _ b = _; rw [upd_ne (ne_of_none e hD)]; exact e, n⟩, fun b o' u _ e => by show upd B.H D _ b = _; rw [upd_ne (ne_of_none e hD)]; exact e⟩
  have RB : Rep K tb B1 S1 := by
    have R2 := R1.put hD (.lst [])
    refine ⟨R2.len, R2.nd, R2.tabs, fun b hb => ?_, fun n a ob z1 z2 => ?_⟩
    · rcases List.mem_cons.mp hb with z | z
      · subst z; exact ⟨⟨_, upd_same⟩, fun z => nD (.inl z), fun z => nD (.inr (.inl z))⟩
      · exact R2.hd b z
    · have o := R1.at_ n a ob z1 z2
      obtain ⟨oo, eo, _⟩ := o.some
      exact o.nxt N1 (by show upd B.H D _ a = _; rw [upd_ne (ne_of_none eo hD)])
  have EB := wipeE_er (E.nxt N) vs
  refine ⟨fun i m H => ∃ C acc ws S3 zs', C.H = H ∧ Nxt tb B C ∧ D ∈ C.hid ∧ C.H D = some (.lst acc) ∧ Rep K tb C S3 ∧ WRs K tb C acc ws ∧ lcM im mg mt me m i (wipeE ρ vs) S3 = some (zs', S2) ∧ ws ++ zs' = zs,
    ⟨_, B1, [], [], S1, zs, rfl, N1, List.mem_cons_self, upd_same, RB, .nil, e2, rfl⟩, ?_⟩
  rintro i m _ ⟨C, acc, ws, S3, zs', rfl, N3, hDC, eD, R3, racc, e4, hz⟩
  unfold lcM at e4
  split at e4
  · cases e4
  · rename_i ha
    cases e4
    obtain ⟨us', hu, hz'⟩ := Itm.at_now ha
    rw [List.append_nil] at hz
    subst hz
    exact .inl ⟨(ok C _ us' N3.w R3 hu).2 i (List.getElem?_eq_none_iff.mp hz'.symm), hk.2 B C D acc ws S1 _ w S' Q R1 hD N3 hDC eD R3 racc e3 (q.nxt N)⟩
  · rename_i w1 ha
    obtain ⟨us', hu, hz'⟩ := Itm.at_now ha
    obtain ⟨go, yl⟩ := (ok C S3 us' N3.w R3 hu).1 i w1 hz'.symm
    cases m with
    | zero => cases e4
    | succ m =>
      obtain ⟨⟨ρ5, S5⟩, e5, e4⟩ := Option.bind_eq_some_iff.mp e4
      obtain ⟨⟨k6, S6⟩, e6, e4⟩ := Option.bind_eq_some_iff.mp e4
      refine .inr ⟨go, fun H' => ∃ C acc ws S3 zs', C.H = H' ∧ Nxt tb B C ∧ D ∈ C.hid ∧ C.H D = some (.lst acc) ∧ Rep K tb C S3 ∧ WRs K tb C acc ws ∧ lcM im mg mt me m (i + 1) (wipeE ρ vs) S3 = some (zs', S2) ∧ ws ++ zs' = zs, fun H' h => ⟨m, Nat.lt_succ_self m, h⟩, fun x H2 y => ?_⟩
      obtain ⟨C2, rfl, N4, R4, r4⟩ := yl x H2 y
      have EC : ER K tb C2 (wipe σ vs) (wipeE ρ vs) := EB.nxt (N3.trans N4)
      refine hg C2 x w1 _ _ S3 ρ5 S5 _ R4 EC r4 e5 fun C3 σ3 N5 R5 E5 hl5 hj5 => ⟨wipe_wipe hl5 fun j hj => hj5 j fun z => hj (hsub j z), ?_⟩
      refine ht C3 σ3 ρ5 S5 k6 S6 _ R5 E5 e6 fun C4 N6 R6 => ?_
      have NC := N4.trans (N5.trans N6)
      cases k6 with
      | false =>
        simp only [Bool.false_eq_true, if_false] at e4 ⊢
        exact ⟨C4, acc, ws, S6, zs', rfl, N3.trans NC, NC.hid D hDC, NC.hidden R3 hDC eD, R6, WRs.nxt NC racc, e4, hz⟩
      | true =>
        simp only [if_true] at e4 ⊢
        obtain ⟨⟨y7, S7⟩, e7, e4⟩ := Option.bind_eq_some_iff.mp e4
        obtain ⟨⟨zs8, S8⟩, e8, e4⟩ := Option.bind_eq_some_iff.mp e4
        cases e4
        refine he C4 σ3 ρ5 S6 y7 S7 _ R6 (E5.nxt N6) e7 fun v C5 N7 R7 r7 => ?_
        have NC5 := NC.trans N7
        have hD5 := NC5.hid D hDC
        have eD5 := NC5.hidden R3 hDC eD
        have hac := WRs.length racc
        refine ⟨acc, eD5, ?_, C5.hset D (.lst (acc ++ [v])), acc ++ [v], ws ++ [y7], S7, zs8, rfl, nxt_hset (N3.trans NC5) hD, hD5, upd_same, R7.hset hD5, ?_, e8, by rw [List.append_assoc]; exact hz⟩
        · rw [← hz, List.length_append, List.length_cons] at hlen
          omega
        · exact Paired.snoc (Paired.mapP (WRs.nxt NC5 racc) fun _ _ z => wr_key (hset_key hD5) (fun _ _ z => z) z) (wr_key (hset_key hD5) (fun _ _ z => z) r7)
end
end Pd
namespace Pd
open PySem PySem.Spec PyProof.Rows L2 GxR Gx
section
variable {K : PySem.W.Frag} {tb : List Addr}
/-! ### all(..) -/
def allL (g : MG) (e : ME) : List W → Env' → Mem → Option (Bool × Mem)
  | [], _, S => some (true, S)
  | w :: ws, ρ, S => (g w ρ S).bind fun p => (eB e p.1 p.2).bind fun q => if q.1 = true then allL g e ws ρ q.2 else some (false, q.2)
def eAll (mi : MI) (vs : List Nat) (g : MG) (e : ME) : ME := fun ρ S => (mi ρ S).bind fun p => match p.1 with
  | .vals ws => (allL g e ws (wipeE ρ vs) p.2).bind fun q => some (.d (.bool q.1), q.2)
  | _ => none
theorem se_all {wi : TI} {mg' : TG} {te : TE} {vs us : List Nat} {P : Addr} {mi : MI} {mg : MG} {me : ME} (hP : P ∈ tb) (hi : SI K tb wi mi) (hg : SG K tb us mg' mg) (hsub : ∀ j, j ∈ us → j ∈ vs) (he : SE K tb te me) :
    SE K tb (tAllG P wi mg' te vs) (eAll mi vs mg me) := fun A σ ρ S w S' Q R E e q => by
  obtain ⟨⟨im, S1⟩, e1, e⟩ := Option.bind_eq_some_iff.mp e
  refine hi A σ ρ S im S1 _ R E e1 fun J B N R1 ok => ⟨R1.tabs P hP, fun H2 hT => ?_⟩
  cases im with
  | live n => cases e
  | rev n l => cases e
  | enl n => cases e
  | vals ws =>
    obtain ⟨⟨b, S2⟩, e2, e⟩ := Option.bind_eq_some_iff.mp e
    cases e
    let B1 : Wd := { B with H := H2 }
    have N1 : Nxt tb B B1 := nxt_tab hP hT (R1.tabs _ hP)
    have RB : Rep K tb B1 S1 := R1.tab hP hT
    have EB := wipeE_er (E.nxt (N.trans N1)) vs
    refine ⟨ws.length, fun i H => ∃ C S3, C.H = H ∧ Nxt tb B C ∧ Rep K tb C S3 ∧ i ≤ ws.length ∧ allL mg me (ws.drop i) (wipeE ρ vs) S3 = some (b, S2), ⟨B1, S1, rfl, N1, RB, Nat.zero_le _, e2⟩, ?_⟩
    rintro i _ ⟨C, S3, rfl, N3, R3, hi, e3⟩
    obtain ⟨k1, k2⟩ := ok C S3 ws N3.w R3 rfl
    by_cases hlt : i < ws.length
    · have hd : ws.drop i = ws[i] :: ws.drop (i + 1) := List.drop_eq_getElem_cons hlt
      rw [hd] at e3
      obtain ⟨⟨ρ5, S5⟩, e5, e3⟩ := Option.bind_eq_some_iff.mp e3
      obtain ⟨⟨k6, S6⟩, e6, e3⟩ := Option.bind_eq_some_iff.mp e3
      obtain ⟨go, yl⟩ := k1 i _ (List.getElem?_eq_getElem hlt)
      refine .inr ⟨hlt, go, fun x H' y => ?_⟩
      obtain ⟨C2, rfl, N4, R4, r4⟩ := yl x H' y
      have EC : ER K tb C2 (wipe σ vs) (wipeE ρ vs) := wipeE_er (E.nxt (N.trans (N3.trans N4))) vs
      refine hg C2 x _ _ _ S3 ρ5 S5 _ R4 EC r4 e5 fun C3 σ3 N5 R5 E5 hl5 hj5 => ⟨wipe_wipe hl5 fun j hj => hj5 j fun z => hj (hsub j z), ?_⟩
      refine he C3 σ3 ρ5 S5 _ S6 _ R5 E5 (eB_some e6) fun v C4 N6 R6 r6 => ⟨k6, r6.bl, ?_⟩
      have NC := N3.trans (N4.trans (N5.trans N6))
      cases k6 with
      | true =>
        simp only [if_true] at e3 ⊢
        exact ⟨C4, S6, rfl, NC, R6, hlt, e3⟩
      | false =>
        simp only [Bool.false_eq_true, if_false] at e3 ⊢
        cases e3
        exact q _ C4 (N.trans NC) R6 (DR.bl false)
    · have hi' : i = ws.length := by omega
      subst hi'
      rw [List.drop_of_length_le (Nat.le_refl _)] at e3
      cases e3
      exact .inl ⟨rfl, k2 _ (Nat.le_refl _), q _ C (N.trans N3) R3 (DR.bl true)⟩
/-! ### built-in functions -/
def SC (K : PySem.W.Frag) (tb : List Addr) (r : List V → Hp → VK → Prop) (f : MF) : Prop := ∀ A vs ws S w S' Q, Rep K tb A S → WRs K tb A vs ws → f ws S = some (w, S') → Pd.KE K tb A w S' Q → r vs A.H Q
theorem se_cb {r : List V → Hp → VK → Prop} {f : MF} {t : TA} {a : MA} (hr : SC K tb r f) (ha : SA K tb t a) : SE K tb (tCB r t) (eCall f a) := fun A σ ρ S w S' Q R E e q => by
  obtain ⟨p, e1, e⟩ := Option.bind_eq_some_iff.mp e
  exact ha A σ ρ S p.1 p.2 _ R E e1 fun vs B N R1 r1 => hr B vs p.1 p.2 w S' Q R1 r1 e (q.nxt N)
theorem wrs1 {A : Wd} {vs : List V} {w : W} (r : WRs K tb A vs [w]) : ∃ v, vs = [v] ∧ WR K tb A v w := by
  cases r with | cons a b => cases b; exact ⟨_, rfl, a⟩
/-- the items of a list or tuple, as they stand -/
def items (w : W) (S : Mem) : Option (List W) := match w with
  | .d (.list ds) => some (ds.map .d)
  | .d (.dict [(.none, .list ds)]) => some (ds.map .d)
  | .d (.tuple ds) => some (ds.map .d)
  | .loc n => match S[n]? with
    | some (.lst ws) => some ws
    | _ => none
  | _ => none
theorem items_run {A : Wd} {S : Mem} {v : V} {w : W} {ws : List W} (R : Rep K tb A S) (r : WR K tb A v w) (h : items w S = some ws) : ∃ a xs, v = .ref a ∧ (SqL K A.H a xs ∨ SqT K A.H a xs) ∧ WRs K tb A xs ws := by
  unfold items at h
  split at h
  · cases h
    obtain ⟨a, xs, rfl, f, rd⟩ := r.lst
    exact ⟨a, xs, rfl, .inl f.sq, wrs_of rd⟩
  · cases h
    obtain ⟨a, xs, rfl, f, rd⟩ := r.scr
    exact ⟨a, xs, rfl, .inl f.sq, wrs_of rd⟩
  · cases h
    obtain ⟨a, xs, rfl, f, rd⟩ := r.tup
    exact ⟨a, xs, rfl, .inr f.sq, wrs_of rd⟩
  · split at h
    · rename_i n ws' e
      cases h
      obtain ⟨a, rfl, i⟩ := r
      obtain ⟨vs, ev, rr⟩ := R.at_ _ a _ i e
      exact ⟨a, vs, rfl, .inl (.inl (.inl ev)), rr⟩
    · cases h
  · cases h
def bLen : MF := fun ws S => match ws with
  | [w] => (items w S).bind fun us => some (.d (.int us.length), S)
  | _ => none
theorem sc_len : SC K tb (fun xs H Q => ∃ p ys, xs = [.ref p] ∧ (SqL K H p ys ∨ SqT K H p ys) ∧ Q (.int ys.length) H) bLen := fun A vs ws S w S' Q R r e q => by
  unfold bLen at e
  split at e
  · obtain ⟨us, e1, e2⟩ := Option.bind_eq_some_iff.mp e
    cases e2
    obtain ⟨v, rfl, r1⟩ := wrs1 r
    obtain ⟨a, xs, rfl, sq, rx⟩ := items_run R r1 e1
    exact ⟨a, xs, rfl, sq, by rw [WRs.length rx]; exact q _ A .refl R (DR.int _)⟩
  · cases e
/-- .. of a list -/
def itemsL (w : W) (S : Mem) : Option (List W) := match w with
  | .d (.list ds) => some (ds.map .d)
  | .d (.dict [(.none, .list ds)]) => some (ds.map .d)
  | .loc n => match S[n]? with
    | some (.lst ws) => some ws
    | _ => none
  | _ => none
theorem itemsL_run {A : Wd} {S : Mem} {v : V} {w : W} {ws : List W} (R : Rep K tb A S) (r : WR K tb A v w) (h : itemsL w S = some ws) : ∃ a xs, v = .ref a ∧ SqL K A.H a xs ∧ WRs K tb A xs ws := by
  unfold itemsL at h
  split at h
  · cases h
    obtain ⟨a, xs, rfl, f, rd⟩ := r.lst
    exact ⟨a, xs, rfl, f.sq, wrs_of rd⟩
  · cases h
    obtain ⟨a, xs, rfl, f, rd⟩ := r.scr
    exact ⟨a, xs, rfl, f.sq, wrs_of rd⟩
  · split at h
    · rename_i n ws' e
      cases h
      obtain ⟨a, rfl, i⟩ := r
      obtain ⟨vs, ev, rr⟩ := R.at_ _ a _ i e
      exact ⟨a, vs, rfl, .inl (.inl ev), rr⟩
    · cases h
  · cases h
def bTuple : MF := fun ws S => match ws with
  | [.d (.tuple ds)] => some (.d (.tuple ds), S)
  | [w] => (itemsL w S).bind fun us => (dOf us).bind fun ds => some (.d (.tuple ds), S)
  | _ => none
theorem sc_tuple : SC K tb (fun xs H Q => ∃ p ys, xs = [.ref p] ∧ ((SqL K H p ys ∧ ∀ l, H l = none → Q (.ref l) (upd H l (.tup ys))) ∨ (SqT K H p ys ∧ Q (.ref p) H))) bTuple := fun A vs ws S w S' Q R r e q => by
  unfold bTuple at e
  split at e
  · cases e
    obtain ⟨v, rfl, r1⟩ := wrs1 r
    obtain ⟨a, xs, rfl, f, rd⟩ := r1.tup
    exact ⟨a, xs, rfl, .inr ⟨f.sq, q _ A .refl R r1⟩⟩
  · rename_i w1 hne
    obtain ⟨us, e1, e2⟩ := Option.bind_eq_some_iff.mp e
    obtain ⟨ds, e3, e4⟩ := Option.bind_eq_some_iff.mp e2
    cases e4
    obtain ⟨v, rfl, r1⟩ := wrs1 r
    obtain ⟨a, xs, rfl, sq, rx⟩ := itemsL_run R r1 e1
    exact ⟨a, xs, rfl, .inl ⟨sq, fun l hl => q _ (A.put l (.tup xs)) (.put hl _) (R.put hl _) (DR.tup (.inl (.put R hl _)) (DRs.nxt (.put hl _) ds (drs_of rx e3)))⟩⟩
  · cases e
/-- list(x): never changed again, or changed -/
def bListF : MF := fun ws S => match ws with
  | [w] => (items w S).bind fun us => (dOf us).bind fun ds => some (.d (.list ds), S)
  | _ => none
def bListL : MF := fun ws S => match ws with
  | [w] => (items w S).bind fun us => some (.loc S.length, S ++ [.lst us])
  | _ => none
abbrev rLstOf (K : PySem.W.Frag) : List V → Hp → VK → Prop := fun xs H Q => ∃ p ys, xs = [.ref p] ∧ (SqL K H p ys ∨ SqT K H p ys) ∧ ∀ l, H l = none → Q (.ref l) (upd H l (.lst ys))
theorem sc_listF : SC K tb (rLstOf K) bListF := fun A vs ws S w S' Q R r e q => by
  unfold bListF at e
  split at e
  · obtain ⟨us, e1, e2⟩ := Option.bind_eq_some_iff.mp e
    obtain ⟨ds, e3, e4⟩ := Option.bind_eq_some_iff.mp e2
    cases e4
    obtain ⟨v, rfl, r1⟩ := wrs1 r
    obtain ⟨a, xs, rfl, sq, rx⟩ := items_run R r1 e1
    exact ⟨a, xs, rfl, sq, fun l hl => q _ (A.put l (.lst xs)) (.put hl _) (R.put hl _) (DR.lst (.put R hl _) (DRs.nxt (.put hl _) ds (drs_of rx e3)))⟩
  · cases e
theorem sc_listL : SC K tb (rLstOf K) bListL := fun A vs ws S w S' Q R r e q => by
  unfold bListL at e
  split at e
  · obtain ⟨us, e1, e2⟩ := Option.bind_eq_some_iff.mp e
    cases e2
    obtain ⟨v, rfl, r1⟩ := wrs1 r
    obtain ⟨a, xs, rfl, sq, rx⟩ := items_run R r1 e1
    refine ⟨a, xs, rfl, sq, fun l hl => q _ (A.add l (.lst xs)) (.add hl _) (R.add hl ⟨xs, upd_same, rx.nxt (.add hl _)⟩) ⟨l, rfl, ?_⟩⟩
    show (A.ι ++ [l])[S.length]? = some l
    rw [← R.len]; simp
  · cases e
def bAbs : MF := fun ws S => match ws with
  | [.d (.int i)] => some (.d (.int (if i < 0 then -i else i)), S)
  | _ => none
theorem sc_abs : SC K tb (fun xs H Q => ∃ i, xs = [.int i] ∧ Q (.int (if i < 0 then -i else i)) H) bAbs := fun A vs ws S w S' Q R r e q => by
  unfold bAbs at e
  split at e
  · cases e
    obtain ⟨v, rfl, r1⟩ := wrs1 r
    obtain rfl := WR.int r1
    exact ⟨_, rfl, q _ A .refl R (DR.int _)⟩
  · cases e
def bInt : MF := fun ws S => match ws with
  | [.d (.int i)] => some (.d (.int i), S)
  | [.d (.bool k)] => some (.d (.int (if k then 1 else 0)), S)
  | _ => none
theorem sc_int : SC K tb (fun xs H Q => (∃ i, xs = [.int i] ∧ Q (.int i) H) ∨ ∃ k, xs = [.bl k] ∧ Q (.int (if k then 1 else 0)) H) bInt := fun A vs ws S w S' Q R r e q => by
  unfold bInt at e
  split at e
  · cases e
    obtain ⟨v, rfl, r1⟩ := wrs1 r
    obtain rfl := WR.int r1
    exact .inl ⟨_, rfl, q _ A .refl R (DR.int _)⟩
  · cases e
    obtain ⟨v, rfl, r1⟩ := wrs1 r
    obtain rfl := WR.bl r1
    exact .inr ⟨_, rfl, q _ A .refl R (DR.int _)⟩
  · cases e
def bStr : MF := fun ws S => match ws with
  | [.d (.int i)] => if decide (i.natAbs.log2 < 1920) = true then some (.d (.str (toString i)), S) else none
  | _ => none
theorem sc_str : SC K tb (fun xs H Q => ∃ i, xs = [.int i] ∧ i.natAbs.log2 < 1920 ∧ Q (.str (toString i)) H) bStr := fun A vs ws S w S' Q R r e q => by
  unfold bStr at e
  split at e
  · split at e
    · rename_i hc
      cases e
      obtain ⟨v, rfl, r1⟩ := wrs1 r
      obtain rfl := WR.int r1
      exact ⟨_, rfl, of_decide_eq_true hc, q _ A .refl R (DR.str _)⟩
    · cases e
  · cases e
/-- ints -/
def intsOf : List W → Option (List Int)
  | [] => some []
  | .d (.int i) :: ws => (intsOf ws).map (i :: ·)
  | _ :: _ => none
theorem ints_run {A : Wd} : ∀ {vs : List V} {ws : List W} {ns : List Int}, WRs K tb A vs ws → intsOf ws = some ns → vs = ns.map V.int
  | _, [], _, .nil, e => by cases e; rfl
  | _, .d (.int i) :: ws, _, .cons r t, e => by
    obtain ⟨ns, e1, rfl⟩ := Option.map_eq_some_iff.mp e
    rw [ints_run t e1, WR.int r]; rfl
def bSum : MF := fun ws S => match ws with
  | [w] => (itemsL w S).bind fun us => (intsOf us).bind fun ns => some (.d (.int ns.sum), S)
  | _ => none
theorem sc_sum : SC K tb (rSum K) bSum := fun A vs ws S w S' Q R r e q => by
  unfold bSum at e
  split at e
  · obtain ⟨us, e1, e2⟩ := Option.bind_eq_some_iff.mp e
    obtain ⟨ns, e3, e4⟩ := Option.bind_eq_some_iff.mp e2
    cases e4
    obtain ⟨v, rfl, r1⟩ := wrs1 r
    obtain ⟨a, xs, rfl, sq, rx⟩ := itemsL_run R r1 e1
    rw [ints_run rx e3] at sq
    exact ⟨a, ns, rfl, sq, q _ A .refl R (DR.int _)⟩
  · cases e
def maxI : List Int → Int
  | [] => 0
  | [i] => i
  | i :: r => max i (maxI r)
theorem maxI_le : ∀ {ns : List Int} {y : Int}, y ∈ ns → y ≤ maxI ns
  | [], _, h => by cases h
  | [i], y, h => by simp at h; subst h; exact Int.le_refl _
  | i :: j :: r, y, h => by
    show y ≤ max i (maxI (j :: r))
    rcases List.mem_cons.mp h with rfl | h
    · exact Int.le_max_left _ _
    · exact Int.le_trans (maxI_le h) (Int.le_max_right _ _)
theorem maxI_mem : ∀ {ns : List Int}, ns ≠ [] → maxI ns ∈ ns
  | [], h => absurd rfl h
  | [i], _ => List.mem_singleton.mpr rfl
  | i :: j :: r, _ => by
    show max i (maxI (j :: r)) ∈ _
    rcases Int.le_total i (maxI (j :: r)) with h | h
    · rw [Int.max_eq_right h]; exact List.mem_cons_of_mem _ (maxI_mem (by simp))
    · rw [Int.max_eq_left h]; exact List.mem_cons_self
def bMax : MF := fun ws S => match ws with
  | [w] => (itemsL w S).bind fun us => (intsOf us).bind fun ns => if ns.isEmpty = true then none else some (.d (.int (maxI ns)), S)
  | _ => none
theorem sc_max : SC K tb (rMax K) bMax := fun A vs ws S w S' Q R r e q => by
  unfold bMax at e
  split at e
  · obtain ⟨us, e1, e2⟩ := Option.bind_eq_some_iff.mp e
    obtain ⟨ns, e3, e4⟩ := Option.bind_eq_some_iff.mp e2
    split at e4
    · cases e4
    · rename_i hne
      cases e4
      have hne' : ns ≠ [] := by rintro rfl; exact hne rfl
      obtain ⟨v, rfl, r1⟩ := wrs1 r
      obtain ⟨a, xs, rfl, sq, rx⟩ := itemsL_run R r1 e1
      rw [ints_run rx e3] at sq
      refine ⟨a, ns, rfl, sq, List.length_pos_iff.mpr hne', fun m hm hall => ?_⟩
      have : m = maxI ns := Int.le_antisymm (maxI_le hm) (hall _ (maxI_mem hne'))
      rw [this]
      exact q _ A .refl R (DR.int _)
  · cases e
/-! ### subscripts, slices -/
theorem atI_drs {A : Wd} {xs : List V} {ds : List PyData} {i : Int} {d : PyData} (r : DRs K tb A xs ds) (h : atI ds i = some d) : ∃ v, atI xs i = some v ∧ DR K tb A v d := by
  unfold atI at h ⊢
  rw [r.length]
  obtain ⟨j, e1, e2⟩ := Option.bind_eq_some_iff.mp h
  obtain ⟨v, e3, rv⟩ := r.get' e2
  exact ⟨v, by rw [e1]; exact e3, rv⟩
theorem atI_wrs {A : Wd} {xs : List V} {ds : List W} {i : Int} {d : W} (r : WRs K tb A xs ds) (h : atI ds i = some d) : ∃ v, atI xs i = some v ∧ WR K tb A v d := by
  unfold atI at h ⊢
  rw [WRs.length r]
  obtain ⟨j, e1, e2⟩ := Option.bind_eq_some_iff.mp h
  obtain ⟨v, e3, rv⟩ := WRs.get' r e2
  exact ⟨v, by rw [e1]; exact e3, rv⟩
def oIx : F2 := fun a b S => match b with
  | .d (.int i) => (match a with
    | .d (.tuple ds) => (atI ds i).map fun d => (.d d, S)
    | .d (.str z) => if z.length ≤ sizeLine then (atI z.cps.toList i).map fun c => (.d (.str ⟨#[c]⟩), S) else none
    | a => (itemsL a S).bind fun us => (atI us i).map fun w => (w, S))
  | _ => none
theorem sr_ix : SR K tb (rIx K) oIx := fun A x y a b S w S' Q R ra rb e q => by
  unfold oIx at e
  split at e
  · rename_i i
    obtain rfl := rb.int
    split at e
    · obtain ⟨d, e1, e2⟩ := Option.map_eq_some_iff.mp e
      cases e2
      obtain ⟨p, xs, rfl, f, rd⟩ := ra.tup
      obtain ⟨v, e3, rv⟩ := atI_drs rd e1
      exact .inr (.inl ⟨p, xs, i, v, rfl, rfl, f.sq, e3, q _ A .refl R rv⟩)
    · split at e
      · rename_i hz
        obtain ⟨d, e1, e2⟩ := Option.map_eq_some_iff.mp e
        cases e2
        obtain rfl := ra.str
        exact .inr (.inr ⟨_, i, d, rfl, rfl, hz, e1, q _ A .refl R (DR.str _)⟩)
      · cases e
    · obtain ⟨us, e0, e⟩ := Option.bind_eq_some_iff.mp e
      obtain ⟨d, e1, e2⟩ := Option.map_eq_some_iff.mp e
      cases e2
      obtain ⟨p, xs, rfl, sq, rx⟩ := itemsL_run R ra e0
      obtain ⟨v, e3, rv⟩ := atI_wrs rx e1
      exact .inl ⟨p, xs, i, v, rfl, rfl, sq, e3, q _ A .refl R rv⟩
  · cases e
/-- parts of a slice -/
abbrev MO := Env' → Mem → Option (Option Int × Mem)
def SO (K : PySem.W.Frag) (tb : List Addr) (t : TO) (m : MO) : Prop := ∀ A σ ρ S o S' (Q : Option Int → Hp → Prop), Rep K tb A S → ER K tb A σ ρ → m ρ S = some (o, S') → (∀ B, Nxt tb A B → Rep K tb B S' → Q o B.H) → t σ A.H Q
def pNone : MO := fun _ S => some (none, S)
def pSome (a : ME) : MO := fun ρ S => (a ρ S).bind fun p => match p.1 with
  | .d (.int i) => some (some i, p.2)
  | _ => none
theorem so_none : SO K tb tNoPart pNone := fun A σ ρ S o S' Q R E e q => by cases e; exact q A .refl R
theorem so_some {te : TE} {a : ME} (ha : SE K tb te a) : SO K tb (tPart te) (pSome a) := fun A σ ρ S o S' Q R E e q => by
  obtain ⟨⟨w, S1⟩, e1, e⟩ := Option.bind_eq_some_iff.mp e
  refine ha A σ ρ S w S1 _ R E e1 fun v B N R1 r => ?_
  dsimp only at e
  split at e
  · cases e
    exact ⟨_, r.int, q B N R1⟩
  · cases e
/-- the cut of a list -/
def cutL {α : Type} (xs : List α) (lo hi : Option Int) : List α := (xs.drop (HT.sIx xs.length 0 lo)).take (HT.sIx xs.length xs.length hi - HT.sIx xs.length 0 lo)
theorem drs_cut {A : Wd} {xs : List V} {ds : List PyData} (r : DRs K tb A xs ds) (lo hi : Option Int) : DRs K tb A (cutV xs lo hi) (cutL ds lo hi) := by
  unfold cutV cutL
  rw [r.length]
  exact (r.drop _).take _
theorem wrs_cut {A : Wd} {xs : List V} {ws : List W} (r : WRs K tb A xs ws) (lo hi : Option Int) : WRs K tb A (cutV xs lo hi) (cutL ws lo hi) := by
  unfold cutV cutL
  rw [WRs.length r]
  have d : ∀ {xs : List V} {ws : List W}, WRs K tb A xs ws → ∀ n, WRs K tb A (xs.drop n) (ws.drop n) := fun {xs ws} r => by
    induction r with
    | nil => intro n; simp; exact .nil
    | cons a b ih =>
      intro n
      cases n with
      | zero => exact .cons a b
      | succ n => exact ih n
  have t : ∀ {xs : List V} {ws : List W}, WRs K tb A xs ws → ∀ n, WRs K tb A (xs.take n) (ws.take n) := fun {xs ws} r => by
    induction r with
    | nil => intro n; simp; exact .nil
    | cons a b ih =>
      intro n
      cases n with
      | zero => exact .nil
      | succ n => exact .cons a (ih n)
  exact t (d r _) _
/-- a slice: of a tuple, a text, a list (L: the new list may be changed) -/
def oSl (L : Bool) (w : W) (lo hi : Option Int) (S : Mem) : Option (W × Mem) := match w with
  | .d (.tuple ds) => some (.d (.tuple (cutL ds lo hi)), S)
  | .d (.str z) => if z.length ≤ sizeLine then some (.d (.str (Txt.slice z lo hi)), S) else none
  | w => (itemsL w S).bind fun us => if L = true then some (.loc S.length, S ++ [.lst (cutL us lo hi)]) else (dOf (cutL us lo hi)).map fun ds => (.d (.list ds), S)
abbrev rSlAll (K : PySem.W.Frag) : V → Option Int → Option Int → Hp → VK → Prop := fun x lo hi H Q => rSlA K x lo hi H Q ∨ (rSlL K x lo hi H Q ∨ C8.rSlX x lo hi H Q)
theorem sl_all {X : Cx} : SlR X (rSlAll X.K) := sl_tupA.or (sl_list.or C8.sl_txt)
theorem whole_cut {α : Type} {xs : List α} {lo hi : Option Int} (h : HT.sIx xs.length 0 lo = 0 ∧ HT.sIx xs.length xs.length hi = xs.length) : cutL xs lo hi = xs := by
  unfold cutL
  rw [h.1, h.2]; simp
theorem oSl_run {A : Wd} {L : Bool} {x : V} {a w : W} {lo hi : Option Int} {S S' : Mem} {Q : VK} (R : Rep K tb A S) (ra : WR K tb A x a) (e : oSl L a lo hi S = some (w, S')) (q : Pd.KE K tb A w S' Q) : rSlAll K x lo hi A.H Q := by
  unfold oSl at e
  split at e
  · cases e
    obtain ⟨p, xs, rfl, f, rd⟩ := ra.tup
    refine .inl ⟨p, xs, rfl, f.sq, fun hw => ?_, fun hw p2 hp => ?_⟩
    · have hw' := hw
      rw [rd.length] at hw'
      exact q _ A .refl R (by rw [whole_cut hw']; exact DR.tup f rd)
    · exact q _ (A.put p2 _) (.put hp _) (R.put hp _) (DR.tup (.inl (.put R hp _)) (DRs.nxt (.put hp _) _ (drs_cut rd lo hi)))
  · split at e
    · rename_i hz
      cases e
      obtain rfl := ra.str
      exact .inr (.inr ⟨_, rfl, hz, q _ A .refl R (DR.str _)⟩)
    · cases e
  · obtain ⟨us, e1, e2⟩ := Option.bind_eq_some_iff.mp e
    obtain ⟨p, xs, rfl, sq, rx⟩ := itemsL_run R ra e1
    refine .inr (.inl ⟨p, xs, rfl, sq, fun l hl => ?_⟩)
    split at e2
    · cases e2
      refine q _ (A.add l _) (.add hl _) (R.add hl ⟨_, upd_same, (wrs_cut rx lo hi).nxt (.add hl _)⟩) ⟨l, rfl, ?_⟩
      show (A.ι ++ [l])[S.length]? = some l
      rw [← R.len]; simp
    · obtain ⟨ds, e3, e4⟩ := Option.map_eq_some_iff.mp e2
      cases e4
      exact q _ (A.put l _) (.put hl _) (R.put hl _) (DR.lst (.put R hl _) (DRs.nxt (.put hl _) ds (drs_of (wrs_cut rx lo hi) e3)))
def eSl (L : Bool) (a : ME) (lo hi : MO) : ME := fun ρ S => (a ρ S).bind fun p => (lo ρ p.2).bind fun l => (hi ρ l.2).bind fun h => oSl L p.1 l.1 h.1 h.2
theorem se_sl {L : Bool} {te : TE} {tl th : TO} {a : ME} {lo hi : MO} (ha : SE K tb te a) (hl : SO K tb tl lo) (hh : SO K tb th hi) : SE K tb (tSl (rSlAll K) te tl th) (eSl L a lo hi) := fun A σ ρ S w S' Q R E e q => by
  obtain ⟨p, e1, e⟩ := Option.bind_eq_some_iff.mp e
  obtain ⟨l, e2, e⟩ := Option.bind_eq_some_iff.mp e
  obtain ⟨h, e3, e⟩ := Option.bind_eq_some_iff.mp e
  refine ha A σ ρ S p.1 p.2 _ R E e1 fun x B N R1 r => ?_
  refine hl B σ ρ p.2 l.1 l.2 _ R1 (E.nxt N) e2 fun C N2 R2 => ?_
  refine hh C σ ρ l.2 h.1 h.2 _ R2 (E.nxt (N.trans N2)) e3 fun D N3 R3 => ?_
  exact oSl_run R3 (r.nxt (N2.trans N3)) e (q.nxt (N.trans (N2.trans N3)))
end
end Pd
namespace Pd
open PySem PySem.Spec PyProof.Rows L2 GxR Gx
theorem opOr {X : Cx} {f : Value → Value → Sem Value} {r r' : R2} (h : OpR X f r) (h' : OpR X f r') : OpR X f (fun x y H Q => r x y H Q ∨ r' x y H Q) := by
  intro pins s σ H x y v u Q I rx ry q
  rcases q with q | q
  · exact h pins s σ H x y v u Q I rx ry q
  · exact h' pins s σ H x y v u Q I rx ry q
/-! ### + -/
/-- two lists -/
def rCatL : R2 := fun x y H Q => ∃ l b xs zs, x = .ref l ∧ y = .ref b ∧ Rd H l (.lst xs) ∧ Rd H b (.lst zs) ∧ xs.length + zs.length ≤ sizeLine ∧ ∀ p, H p = none → Q (.ref p) (upd H p (.lst (xs ++ zs)))
section
variable {X : Cx} {pins : List (Addr × Obj)} {σ : L2.St} {H : Hp} {s : Shared}
theorem op_catL : OpR X (binaryOp .Add) rCatL := by
  intro pins s σ H x y v u Q I rx ry h
  obtain ⟨l, b, xs, zs, rfl, rfl, hH, hB, hz, q⟩ := h
  cases rx
  cases ry
  obtain ⟨z, its, n, r, e⟩ := hH.ok I.hok
  obtain ⟨z2, its2, n2, r2, e2⟩ := hB.ok I.hok
  have hl := r.length
  have hl2 := r2.length
  refine PySem.P.add_list e e2 ?_ (by rw [List.size_toArray, List.size_toArray]; omega)
  have ea : its.toArray ++ its2.toArray = (its ++ its2).toArray := by simp
  rw [ea]
  refine ⟨.ref s.heap.objs.size, _, I.laid (t' := s.toks) (o := .lst (xs ++ zs)) (fun b ob q => Heap.get?_push_of_some _ q) (Nat.le_refl _) ?_, rfl, q _ (I.hok.fresh (Nat.le_refl _))⟩
  exact ⟨by rw [List.length_append]; omega, its ++ its2, 0, r.append r2, Heap.get?_push_size _ rfl⟩
end
abbrev rAddS : R2 := fun x y H Q => ∃ i j, x = .str i ∧ y = .str j ∧ i.length + j.length ≤ sizeLine ∧ Q (.str (i ++ j)) H
abbrev rPlus (K : PySem.W.Frag) : R2 := fun x y H Q => rI0 (fun i j => .int (i + j)) x y H Q ∨ (rAddS x y H Q ∨ (rCatA K x y H Q ∨ rCatL x y H Q))
theorem op_plus {X : Cx} : OpR X (binaryOp .Add) (rPlus X.K) := opOr op_add (opOr op_add_str (opOr op_catA op_catL))
/-- +; L: the new list may be changed -/
def oPlus (L : Bool) : F2 := fun a b S => match a, b with
  | .d (.int i), .d (.int j) => some (.d (.int (i + j)), S)
  | .d (.str i), .d (.str j) => if i.length + j.length ≤ sizeLine then some (.d (.str (i ++ j)), S) else none
  | .d (.tuple xs), .d (.tuple ys) => if xs.length + ys.length ≤ sizeLine then some (.d (.tuple (xs ++ ys)), S) else none
  | .d (.list xs), .d (.list ys) => if xs.length + ys.length ≤ sizeLine then (if L = true then some (.loc S.length, S ++ [.lst ((xs ++ ys).map .d)]) else some (.d (.list (xs ++ ys)), S)) else none
  | _, _ => none
section
variable {K : PySem.W.Frag} {tb : List Addr}
theorem sr_plus {L : Bool} : SR K tb (rPlus K) (oPlus L) := fun A x y a b S w S' Q R ra rb e q => by
  unfold oPlus at e
  split at e
  · cases e
    obtain rfl := ra.int
    obtain rfl := rb.int
    exact .inl ⟨_, _, rfl, rfl, q _ A .refl R (DR.int _)⟩
  · split at e
    · rename_i hl
      cases e
      obtain rfl := ra.str
      obtain rfl := rb.str
      exact .inr (.inl ⟨_, _, rfl, rfl, hl, q _ A .refl R (DR.str _)⟩)
    · cases e
  · split at e
    · rename_i ds es hl
      cases e
      obtain ⟨a, xs, rfl, f, rd⟩ := ra.tup
      obtain ⟨b, ys, rfl, g, re⟩ := rb.tup
      have l1 := rd.length
      have l2 := re.length
      refine .inr (.inr (.inl ⟨a, b, xs, ys, rfl, rfl, f.sq, g.sq, by omega, fun z => ?_, fun z z2 => ?_, fun z z2 p hp => ?_⟩))
      · subst z
        have : ds = [] := List.length_eq_zero_iff.mp l1.symm
        subst this
        exact q _ A .refl R rb
      · subst z2
        have : es = [] := List.length_eq_zero_iff.mp l2.symm
        subst this
        rw [List.append_nil] at q
        exact q _ A .refl R ra
      · exact q _ (A.put p _) (.put hp _) (R.put hp _) (DR.tup (.inl (.put R hp _)) (DRs.nxt (.put hp _) _ (rd.append re)))
    · cases e
  · split at e
    · rename_i ds es hl
      obtain ⟨a, xs, rfl, f, rd⟩ := ra.lst
      obtain ⟨b, ys, rfl, g, re⟩ := rb.lst
      have l1 := rd.length
      have l2 := re.length
      refine .inr (.inr (.inr ⟨a, b, xs, ys, rfl, rfl, f.2, g.2, by omega, fun p hp => ?_⟩))
      split at e
      · cases e
        refine q _ (A.add p _) (.add hp _) (R.add hp ⟨_, upd_same, wrs_of (DRs.nxt (.add hp _) _ (rd.append re))⟩) ⟨p, rfl, ?_⟩
        show (A.ι ++ [p])[S.length]? = some p
        rw [← R.len]; simp
      · cases e
        exact q _ (A.put p _) (.put hp _) (R.put hp _) (DR.lst (.put R hp _) (DRs.nxt (.put hp _) _ (rd.append re)))
    · cases e
  · cases e
/-! ### in -/
def flatD : PyData → Bool
  | .none | .bool _ | .int _ | .str _ => true
  | _ => false
theorem flat_of {A : Wd} {v : V} {d : PyData} (r : DR K tb A v d) (h : flatD d = true) : flatV v = true := by
  cases r <;> first | rfl | exact absurd (show false = true from h) Bool.false_ne_true
theorem eqV_of {A : Wd} {v u : V} {d e : PyData} (r : DR K tb A v d) (g : DR K tb A u e) (hd : flatD d = true) (he : flatD e = true) : eqV v u = PyData.eqv d e := by
  cases r <;> first | exact absurd (show false = true from hd) Bool.false_ne_true | (cases g <;> first | exact absurd (show false = true from he) Bool.false_ne_true | rfl)
theorem inV_of {A : Wd} {x : V} {d : PyData} (r : DR K tb A x d) (hd : flatD d = true) : ∀ {xs : List V} {ds : List PyData}, DRs K tb A xs ds → ds.all flatD = true → inV x xs = ds.any (fun y => PyData.eqv y d) ∧ xs.all flatV = true
  | _, [], h, _ => by cases h; exact ⟨rfl, rfl⟩
  | _, e :: es, h, c => by
    rw [List.all_cons, Bool.and_eq_true] at c
    cases h with
    | cons a b =>
      obtain ⟨i1, i2⟩ := inV_of r hd b c.2
      refine ⟨?_, ?_⟩
      · show (eqV _ x || inV x _) = _
        rw [eqV_of a r c.1 hd, i1]; rfl
      · rw [List.all_cons, flat_of a c.1, i2]; rfl
def oIn (n : Bool) : F2 := fun a b S => match a with
  | .d x => (items b S).bind fun us => (dOf us).bind fun ds => if (flatD x && ds.all flatD) = true then some (.d (.bool (if n = true then !ds.any (fun y => PyData.eqv y x) else ds.any fun y => PyData.eqv y x)), S) else none
  | _ => none
theorem sr_in {n : Bool} : SR K tb (rIn K n) (oIn n) := fun A x y a b S w S' Q R ra rb e q => by
  unfold oIn at e
  split at e
  · rename_i d
    obtain ⟨us, e1, e⟩ := Option.bind_eq_some_iff.mp e
    obtain ⟨ds, e2, e⟩ := Option.bind_eq_some_iff.mp e
    split at e
    · rename_i hf
      rw [Bool.and_eq_true] at hf
      cases e
      obtain ⟨p, xs, rfl, sq, rx⟩ := items_run R rb e1
      have rd := drs_of rx e2
      obtain ⟨i1, i2⟩ := inV_of (show DR K tb A x d from ra) hf.1 rd hf.2
      refine ⟨p, xs, rfl, sq, flat_of (show DR K tb A x d from ra) hf.1, i2, ?_⟩
      rw [i1]
      exact q _ A .refl R (DR.bl _)
    · cases e
  · cases e
/-! ### chains -/
theorem se_chain {r r' : R2} {f g : F2} {ta tb' tc : TE} {a b c : ME} (hr : SR K tb r f) (hr' : SR K tb r' g) (ha : SE K tb ta a) (hb : SE K tb tb' b) (hc : SE K tb tc c) : SE K tb (tChain r r' ta tb' tc) (eChain f g a b c) := fun A σ ρ S w S' Q R E e q => by
  obtain ⟨p, e1, e⟩ := Option.bind_eq_some_iff.mp e
  obtain ⟨p2, e2, e⟩ := Option.bind_eq_some_iff.mp e
  obtain ⟨⟨z, S3⟩, e3, e⟩ := Option.bind_eq_some_iff.mp e
  refine ha A σ ρ S p.1 p.2 _ R E e1 fun x B N1 R1 r1 => ?_
  refine hb B σ ρ p.2 p2.1 p2.2 _ R1 (E.nxt N1) e2 fun y C N2 R2 r2 => ?_
  refine hr C x y p.1 p2.1 p2.2 z S3 _ R2 (r1.nxt N2) r2 e3 fun k D N3 R3 r3 => ?_
  dsimp only at e
  split at e
  · obtain ⟨u, e4, e⟩ := Option.bind_eq_some_iff.mp e
    refine ⟨true, WR.bl r3, ?_⟩
    rw [if_pos rfl]
    exact hc D σ ρ S3 u.1 u.2 _ R3 (E.nxt (N1.trans (N2.trans N3))) e4 fun v F N4 R4 r4 => hr' F y v p2.1 u.1 u.2 w S' Q R4 (r2.nxt (N3.trans N4)) r4 e (q.nxt (N1.trans (N2.trans (N3.trans N4))))
  · cases e
    refine ⟨false, WR.bl r3, ?_⟩
    rw [if_neg Bool.false_ne_true]
    exact q _ D (N1.trans (N2.trans N3)) R3 (DR.bl false)
  · cases e
/-! ### methods of lists -/
abbrev MM := W → List W → Mem → Option (W × Mem)
def SM (K : PySem.W.Frag) (tb : List Addr) (r : V → List V → Hp → VK → Prop) (f : MM) : Prop := ∀ A x vs a ws S w S' Q, Rep K tb A S → WR K tb A x a → WRs K tb A vs ws → f a ws S = some (w, S') → Pd.KE K tb A w S' Q → r x vs A.H Q
def lstAt (a : W) (S : Mem) : Option (Nat × List W) := match a with
  | .loc n => match S[n]? with
    | some (.lst ws) => some (n, ws)
    | _ => none
  | _ => none
def eBm (f : MM) (o : ME) (a : MA) : ME := fun ρ S => (o ρ S).bind fun p => (itemsL p.1 p.2).bind fun _ => (a ρ p.2).bind fun q => f p.1 q.1 q.2
theorem se_bm {r : V → List V → Hp → VK → Prop} {f : MM} {to : TE} {t : TA} {o : ME} {a : MA} (hf : SM K tb r f) (ho : SE K tb to o) (ha : SA K tb t a) : SE K tb (tBM K "list" r to t) (eBm f o a) := fun A σ ρ S w S' Q R E e q => by
  obtain ⟨p, e1, e⟩ := Option.bind_eq_some_iff.mp e
  obtain ⟨us, e0, e⟩ := Option.bind_eq_some_iff.mp e
  obtain ⟨z, e2, e⟩ := Option.bind_eq_some_iff.mp e
  refine ho A σ ρ S p.1 p.2 _ R E e1 fun x B N R1 r1 => ?_
  obtain ⟨a, xs, rfl, sq, _⟩ := itemsL_run R1 r1 e0
  exact ⟨.inl ⟨rfl, xs, sq⟩, ha B σ ρ p.2 z.1 z.2 _ R1 (E.nxt N) e2 fun vs C N2 R2 r2 => hf C _ vs p.1 z.1 z.2 w S' Q R2 (r1.nxt N2) r2 e (q.nxt (N.trans N2))⟩
theorem se_bm0 {r : V → List V → Hp → VK → Prop} {f : MM} {to : TE} {o : ME} (hf : SM K tb r f) (ho : SE K tb to o) : SE K tb (tBM0 K "list" r to) (eBm f o aNil) := fun A σ ρ S w S' Q R E e q => by
  obtain ⟨p, e1, e⟩ := Option.bind_eq_some_iff.mp e
  obtain ⟨us, e0, e⟩ := Option.bind_eq_some_iff.mp e
  obtain ⟨z, e2, e⟩ := Option.bind_eq_some_iff.mp e
  cases e2
  refine ho A σ ρ S p.1 p.2 _ R E e1 fun x B N R1 r1 => ?_
  obtain ⟨a, xs, rfl, sq, _⟩ := itemsL_run R1 r1 e0
  exact ⟨.inl ⟨rfl, xs, sq⟩, hf B _ [] p.1 [] p.2 w S' Q R1 r1 .nil e (q.nxt N)⟩
theorem lstAt_run {A : Wd} {S : Mem} {v : V} {w : W} {n : Nat} {ws : List W} (R : Rep K tb A S) (r : WR K tb A v w) (h : lstAt w S = some (n, ws)) : w = .loc n ∧ S[n]? = some (.lst ws) ∧ ∃ a xs, v = .ref a ∧ A.ι[n]? = some a ∧ A.H a = some (.lst xs) ∧ WRs K tb A xs ws := by
  unfold lstAt at h
  split at h
  · split at h
    · rename_i m ws' e
      cases h
      obtain ⟨a, rfl, i⟩ := r
      obtain ⟨vs, ev, rr⟩ := R.at_ _ a _ i e
      exact ⟨rfl, e, a, vs, rfl, i, ev, rr⟩
    · cases h
  · cases h
/-- the list with number n becomes ws -/
theorem lset_run {A : Wd} {S : Mem} {n : Nat} {a : Addr} {ws : List W} {vs v0 : List V} {w : W} {v : V} {Q : VK} (R : Rep K tb A S) (ia : A.ι[n]? = some a) (e0 : A.H a = some (.lst v0)) (r : WRs K tb A vs ws) (rv : WR K tb A v w) (q : Pd.KE K tb A w (S.set n (.lst ws)) Q) : Q v (upd A.H a (.lst vs)) :=
  have hm : ∀ o u, A.H a ≠ some (.frz o u) := fun o u z => by rw [e0] at z; cases z
  q v (A.put a (.lst vs)) (.set ia hm) (R.set ia hm ⟨vs, upd_same, r.nxt (.set ia hm)⟩) (rv.nxt (.set ia hm))
theorem WRs.append {A : Wd} {vs us : List V} {ws zs : List W} (r : WRs K tb A vs ws) (g : WRs K tb A us zs) : WRs K tb A (vs ++ us) (ws ++ zs) := by
  induction r with
  | nil => exact g
  | cons a b ih => exact .cons a ih
def mAppend : MM := fun a ws S => match ws with
  | [w] => (lstAt a S).bind fun p => if p.2.length < sizeLine then some (.d .none, S.set p.1 (.lst (p.2 ++ [w]))) else none
  | _ => none
theorem sm_append : SM K tb rAppend mAppend := fun A x vs a ws S w S' Q R ra rs e q => by
  unfold mAppend at e
  split at e
  · obtain ⟨⟨n, us⟩, e1, e⟩ := Option.bind_eq_some_iff.mp e
    dsimp only at e
    split at e
    · rename_i hl
      cases e
      obtain ⟨rfl, _, p, xs, rfl, ia, ep, rx⟩ := lstAt_run R ra e1
      obtain ⟨v, rfl, rv⟩ := wrs1 rs
      exact ⟨p, xs, v, rfl, rfl, ep, by rw [WRs.length rx]; exact hl, lset_run (v := .non) (w := .d .none) R ia ep (rx.append (.cons rv .nil)) DR.non q⟩
    · cases e
  · cases e
/-- extend by a list -/
def rExtendL : V → List V → Hp → VK → Prop := fun x vs H Q => ∃ l b xs zs, x = .ref l ∧ vs = [.ref b] ∧ H l = some (.lst xs) ∧ Rd H b (.lst zs) ∧ xs.length + zs.length ≤ sizeLine ∧ Q .non (upd H l (.lst (xs ++ zs)))
theorem mt_extendL {X : Cx} : MtM X "list.extend" rExtendL := by
  intro pins s σ H x vs v us Q I rx rv h
  obtain ⟨l, b, xs, zs, rfl, rfl, hH, hB, hz, q⟩ := h
  cases rx
  obtain ⟨u, rfl, ru⟩ := rv.one
  cases ru
  obtain ⟨z, its, n, r, hl, e⟩ := I.lstM hH
  obtain ⟨z2, its2, n2, r2, e2⟩ := hB.ok I.hok
  have hl2 := r2.length
  have hsz : its.toArray.size + its2.toArray.size ≤ sizeLine := by rw [List.size_toArray, List.size_toArray]; omega
  have hlong : ¬ (!its.toArray.isEmpty && Builtin.List.listTooLong (its.toArray.size + its2.toArray.size)) = true := by
    rw [notLongL hsz, Bool.and_false]
    exact Bool.false_ne_true
  refine call_meets F.slot_list_extend ⟨_, e, rfl⟩ F.entry_list_extend (F.args_list_extend_2 _ _)
    (AutoSeq1.list_extend_list_list_0 l its.toArray n b its2.toArray n2 hlong (by simp only [List.size_toArray]; omega) (by simp only [List.size_toArray]; omega)) ⟨e, e2, ?_⟩
  refine ⟨.non, _, I.lset (its' := its ++ its2) hH e (by simp) (r.append r2) ?_, rfl, q⟩
  rw [List.length_append]
  omega
def mExtend : MM := fun a ws S => match ws with
  | [.d (.list ds)] => (lstAt a S).bind fun p => if p.2.length + ds.length ≤ sizeLine then some (.d .none, S.set p.1 (.lst (p.2 ++ ds.map .d))) else none
  | _ => none
theorem sm_extend : SM K tb rExtendL mExtend := fun A x vs a ws S w S' Q R ra rs e q => by
  unfold mExtend at e
  split at e
  · rename_i ds
    obtain ⟨⟨n, us⟩, e1, e⟩ := Option.bind_eq_some_iff.mp e
    dsimp only at e
    split at e
    · rename_i hl
      cases e
      obtain ⟨rfl, _, p, xs, rfl, ia, ep, rx⟩ := lstAt_run R ra e1
      obtain ⟨v, rfl, rv⟩ := wrs1 rs
      obtain ⟨b, zs, rfl, f, rd⟩ := WR.lst rv
      have l1 := rd.length
      exact ⟨p, b, xs, zs, rfl, rfl, ep, f.2, by rw [WRs.length rx]; omega, lset_run (v := .non) (w := .d .none) R ia ep (rx.append (wrs_of rd)) DR.non q⟩
    · cases e
  · cases e
def mPop : MM := fun a ws S => match ws with
  | [] => (lstAt a S).bind fun p => (p.2[p.2.length - 1]?).bind fun w => some (w, S.set p.1 (.lst p.2.dropLast))
  | _ => none
theorem WRs.dropLast {A : Wd} {vs : List V} {ws : List W} (r : WRs K tb A vs ws) : WRs K tb A vs.dropLast ws.dropLast := by
  induction r with
  | nil => exact .nil
  | cons a b ih =>
    cases b with
    | nil => exact .nil
    | cons c d => exact .cons a ih
theorem sm_pop : SM K tb rPop mPop := fun A x vs a ws S w S' Q R ra rs e q => by
  unfold mPop at e
  split at e
  · obtain ⟨⟨n, us⟩, e1, e⟩ := Option.bind_eq_some_iff.mp e
    obtain ⟨w1, e2, e⟩ := Option.bind_eq_some_iff.mp e
    cases e
    obtain ⟨rfl, _, p, xs, rfl, ia, ep, rx⟩ := lstAt_run R ra e1
    cases rs
    obtain ⟨v, e3, rv⟩ := WRs.get' rx e2
    exact ⟨p, xs, v, rfl, rfl, ep, by rw [WRs.length rx]; exact e3, lset_run R ia ep rx.dropLast rv q⟩
  · cases e
def mReverse : MM := fun a ws S => match ws with
  | [] => (lstAt a S).bind fun p => some (.d .none, S.set p.1 (.lst p.2.reverse))
  | _ => none
theorem WRs.reverse {A : Wd} {vs : List V} {ws : List W} (r : WRs K tb A vs ws) : WRs K tb A vs.reverse ws.reverse := by
  induction r with
  | nil => exact .nil
  | cons a b ih => rw [List.reverse_cons, List.reverse_cons]; exact ih.append (.cons a .nil)
theorem sm_reverse : SM K tb rReverse mReverse := fun A x vs a ws S w S' Q R ra rs e q => by
  unfold mReverse at e
  split at e
  · obtain ⟨⟨n, us⟩, e1, e⟩ := Option.bind_eq_some_iff.mp e
    cases e
    obtain ⟨rfl, _, p, xs, rfl, ia, ep, rx⟩ := lstAt_run R ra e1
    cases rs
    exact ⟨p, xs, rfl, rfl, ep, lset_run (v := .non) (w := .d .none) R ia ep rx.reverse DR.non q⟩
  · cases e
/-! ### a[i] = v -/
def gIx (o i : ME) : MG := fun w ρ S => (o ρ S).bind fun p => (i ρ p.2).bind fun z => match z.1 with
  | .d (.int k) => (lstAt p.1 z.2).bind fun l => (ixN l.2.length k).bind fun j => some (ρ, z.2.set l.1 (.lst (l.2.set j w)))
  | _ => none
theorem WRs.set {A : Wd} {vs : List V} {ws : List W} {v : V} {w : W} (r : WRs K tb A vs ws) (rv : WR K tb A v w) : ∀ j, WRs K tb A (vs.set j v) (ws.set j w) := by
  induction r with
  | nil => intro j; exact .nil
  | cons a b ih =>
    intro j
    cases j with
    | zero => exact .cons rv b
    | succ j => exact .cons a (ih j)
theorem sg_ix {to ti : TE} {o i : ME} (ho : SE K tb to o) (hi : SE K tb ti i) : SG K tb [] (gSub to ti rSetL) (gIx o i) := fun A v w σ ρ S ρ' S' Q R E r e q => by
  obtain ⟨p, e1, e⟩ := Option.bind_eq_some_iff.mp e
  obtain ⟨z, e2, e⟩ := Option.bind_eq_some_iff.mp e
  obtain ⟨z1, S2⟩ := z
  dsimp only at e
  split at e
  · rename_i k
    obtain ⟨⟨n, us⟩, e3, e⟩ := Option.bind_eq_some_iff.mp e
    obtain ⟨j, e4, e⟩ := Option.bind_eq_some_iff.mp e
    cases e
    refine ho A σ ρ S p.1 p.2 _ R E e1 fun x B N R1 r1 => ?_
    refine hi B σ ρ p.2 _ S2 _ R1 (E.nxt N) e2 fun y C N2 R2 r2 => ?_
    obtain rfl := WR.int r2
    obtain ⟨_, _, a, xs, rfl, ia, ea, rx⟩ := lstAt_run R2 (r1.nxt N2) e3
    have NN := N.trans N2
    have hm : ∀ o u, C.H a ≠ some (.frz o u) := fun o u z => by rw [ea] at z; cases z
    exact ⟨a, xs, k, j, rfl, rfl, ea, by rw [WRs.length rx]; exact e4, q (C.put a _) σ (NN.trans (.set ia hm)) (R2.set ia hm ⟨_, upd_same, (rx.set (r.nxt NN) j).nxt (.set ia hm)⟩) (E.nxt (NN.trans (.set ia hm))) rfl fun _ _ => rfl⟩
  · cases e
/-! ### isinstance of a written class, by the kind of the data -/
def tyD : W → Option String
  | .d (.tuple _) => some "tuple"
  | .d (.int _) => some "int"
  | .d (.bool _) => some "bool"
  | .d (.str _) => some "str"
  | .d .none => some "NoneType"
  | _ => none
end
end Pd
/-! ### enumerate of a tuple -/
namespace PySem
open Sem (wp)
open AutoSeq1 (wpAny_loadPart')
theorem own_enum_new {v : Value} {o : Obj} {H : Heap → Prop} (B : Begins v o H) :
    Meets (Builtin.«enumerate.__new__» ⟨[.type "enumerate", v], []⟩) (fun _ R s => H s.heap ∧
      R (.ok (.ret (.ref (s.heap.push o).objs.size))) { s with heap := (s.heap.push o).push { cls := .type "enumerate", data := .fields #[.none, .bool false, .ref s.heap.objs.size, rawInt 0, .none, .none] } }) :=
  .of_wp fun prog w A R s h => by
    obtain ⟨hp, g, d, tk, os⟩ := s; obtain ⟨h1, h⟩ := h
    have hsub := sub_enumerate
    have it1 : ∀ {A' : Around} {E : Value → Shared → Prop} {Q : Value → Shared → Prop}, Q (.ref hp.objs.size) ⟨hp.push o, g, d, tk, os⟩ → wpAny (model prog w) A' (pyIter v) Q E ⟨hp, g, d, tk, os⟩ :=
      fun q => B.iter prog w _ _ ⟨hp, g, d, tk, os⟩ _ h1 q
    wp_walk using it1
    refine wpAny_stack_any fun st => wpAny_pure ?_
    split
    · rename_i c _ _ _ _ _
      cases (c == Value.type "enumerate")
      · wp_walk using it1
        exact ⟨_, rfl, h⟩
      · wp_walk using it1
        exact ⟨_, rfl, h⟩
    · wp_walk using it1
      exact ⟨_, rfl, h⟩
section
variable {prog : Program} {w : World} {A : Around} {E : Value → Shared → Prop} {s : Shared}
theorem own_enum_call {v : Value} {o : Obj} {H : Heap → Prop} {Q : Value → Shared → Prop} (B : Begins v o H) (h1 : H s.heap)
    (h : ∀ h', IsEnum h' (s.heap.objs.size + 1) s.heap.objs.size 0 .none → h'.get? s.heap.objs.size = some o → h'.objs.size = s.heap.objs.size + 2 →
      (∀ b o, s.heap.get? b = some o → h'.get? b = some o) → Q (.ref (s.heap.objs.size + 1)) { s with heap := h' }) :
    wpAny (model prog w) A (call (.type "enumerate") [v]) Q E s := by
  refine callType_new F.called_enumerate (by decide) (F.typeCall_enumerate_1 _) (F.newCall_enumerate_1 _) (fun obj => F.args_object_init_2 obj _) F.entry_enumerate_new (own_enum_new B) ⟨h1, ?_⟩
  have hz : (s.heap.push o).objs.size = s.heap.objs.size + 1 := Heap.size_push ..
  show _ ∧ _
  rw [hz]
  have he : IsEnum ((s.heap.push o).push { cls := .type "enumerate", data := .fields #[.none, .bool false, .ref s.heap.objs.size, rawInt 0, .none, .none] }) (s.heap.objs.size + 1) s.heap.objs.size 0 .none := by
    have := Heap.get?_push_size (s.heap.push o) (o := { cls := .type "enumerate", data := .fields #[.none, .bool false, .ref s.heap.objs.size, rawInt 0, .none, .none] }) rfl
    rw [hz] at this; exact this
  exact ⟨⟨_, he, rfl⟩, h _ he (Heap.get?_push_of_some _ (Heap.get?_push_size _ B.free)) (by rw [Heap.size_push, hz]) fun b o x => Heap.get?_push_of_some _ (Heap.get?_push_of_some _ x)⟩
theorem own_enum_end {e it t : Addr} {i : Nat} {k : Int} {items : Array Value} {old : Value} {Q : Option Value → Shared → Prop} (hd : A.in1.handled = none) (he : IsEnum s.heap e it k old) (hit : s.heap.IsTupleIter it t i) (ht : s.heap.IsTuple t items) (hx : items[i]? = none)
    (hQ : ∀ h', Heap.ExtBut it s.heap h' → Q none { s with heap := h' }) : wpAny (model prog w) A (pyNext (.ref e)) Q E s := by
  have ty : s.TypeIs (.ref e) "enumerate" := ⟨_, he, rfl⟩
  unfold pyNext
  refine wpAny_bind (wpAny_attempt (wpAny_callSpecial?_slot (name := Str.ofString "__next__") ty F.slot_enumerate_next (wpAny_call_entry F.slot_enumerate_next ty F.entry_enumerate_next ?_ (F.args_enumerate_next_1 _))))
  show wpAny _ _ (field (.ref e) 2 >>= _) _ _ _
  refine wpAny_bind (wpAny_field he rfl (x := .ref it) rfl (wpAny_bind (wpAny_nextOf_tuple_end hd hit ht hx fun h' x he' ⟨o, ho, hc⟩ => ?_)))
  exact wpAny_bind (wpAny_isInstance (T := "StopIteration") (b := true) ⟨o, ho, hc⟩ isSubtype_stop (wpAny_pure (hQ _ he')))
end
end PySem
namespace L2
open PySem PySem.Spec PyProof.Rows
def Iet (K : PySem.W.Frag) (a : Addr) : It :=
  ⟨fun i H => ∃ (xs : List V) (x : V), SqT K H a xs ∧ xs[i]? = some x, fun i H v H' => ∃ T x, v = .ref T ∧ H T = none ∧ H' = upd H T (.tup [.int (i : Nat), x]) ∧ ∀ xs, SqT K H a xs → xs[i]? = some x, fun i H => ∃ xs : List V, SqT K H a xs ∧ xs.length ≤ i⟩
theorem turn_enumT {P : Program} {w : World} {K : PySem.W.Frag} {elts : List Expr} {kk : Nat} {tpos : Pos} (a e it : Addr) :
    Turn P w K (.Tuple elts kk tpos) (Iet K a) [e, it] e (fun i h => (∃ old, IsEnum h e it ((i : Nat) : Int) old) ∧ h.IsTupleIter it a i ∧ e ≠ it ∧ e ≠ a ∧ a ≠ it) where
  mem := by simp
  obj := fun i h st b hb => by
    obtain ⟨⟨old, he⟩, ⟨o, ho, hc, hd⟩, _⟩ := st
    have e' : b = e ∨ b = it := by simpa using hb
    rcases e' with z | z
    · rw [z]; exact ⟨_, he, fun v q => nomatch q⟩
    · rw [z]; exact ⟨o, ho, fun v q => by rw [hd] at q; cases q⟩
  keep := fun i h h' st k => let ⟨⟨old, he⟩, hi, hne⟩ := st; ⟨⟨old, k e (by simp) _ he⟩, hi.at fun o q => k it (by simp) o q, hne⟩
  item := by
    intro X hP hw hK hc i pins s σ H E I hf st hg
    subst hP hw hK
    obtain ⟨⟨old, he⟩, hit, hne, hea, hai⟩ := st
    obtain ⟨xs, x, hq, hx⟩ := hg
    obtain ⟨its, rv, p, hz⟩ := I.tuple hq
    obtain ⟨u, hu, ru⟩ := rv.get hx
    have hel : e < s.heap.objs.size := Heap.lt_size he
    have hil : it < s.heap.objs.size := by obtain ⟨_, q, _⟩ := hit; exact Heap.lt_size q
    have hd : X.A.in1.handled = none := I.ok.hd hc
    have pt : s.heap.IsTuple a its.toArray := p
    have hi : i < its.toArray.size := by
      have := (List.getElem?_eq_some_iff.mp hu).1
      simpa using this
    refine wpAny_pyNext_enum_itemD (Draws.tuple hd it a hai its.toArray) he ⟨hit, pt⟩ hi hne (by simp [hne, hea]) fun y h' tk hy ho st' hT hsz hk => ?_
    have ey : y = u := by
      have : its.toArray[i]? = some u := by simpa using hu
      rw [this] at hy
      exact (Option.some.inj hy).symm
    subst ey
    refine ⟨_, rfl, wpAny_letOwnedTupleGo_enum (s := { s with heap := h', toks := tk + 1 }) ho fun h'' he' sb => ?_⟩
    have hT2 : h''.get? s.heap.objs.size = some { cls := .type "tuple", data := .seq #[.int i tk, y] } := (sb.2 _ (Nat.ne_of_gt hel)).trans hT
    have new : ObjOk X.prog X.w (upd H s.heap.objs.size (.tup [.int (i : Nat), x])) h'' s.heap.objs.size (.tup [.int (i : Nat), x]) :=
      ⟨by show 2 ≤ sizeLine; decide, [.int i tk, y], .cons ⟨_, rfl⟩ (.cons ru .nil), ⟨_, hT2, rfl, _, rfl⟩⟩
    have I1 : Inv X pins σ (upd H s.heap.objs.size (.tup [.int (i : Nat), x])) { s with heap := h'', toks := tk + 1 } :=
      I.turnedNew (ch := [e, it]) (fun b ob hb q => (sb.2 b (fun z => hb (by simp [z]))).trans (hk b ob (fun z => hb (by simp [z])) (fun z => hb (by simp [z])) q)) hf (Nat.le_refl _) new
    refine ⟨.ref s.heap.objs.size, _, I1, rfl, ⟨_, x, rfl, I.hok.fresh (Nat.le_refl _), rfl, fun ys hy => by rw [I.tuple_inj hy hq]; exact hx⟩, ⟨⟨y, ?_⟩, st'.1.at fun o q => (sb.2 it (Ne.symm hne)).trans q, hne, hea, hai⟩, fun b hb => ?_⟩
    · have e1 : ((i + 1 : Nat) : Int) = (i : Int) + 1 := by omega
      rw [e1]; exact he'
    · have hb' : b < s.heap.objs.size := by
        have e' : b = e ∨ b = it := by simpa using hb
        rcases e' with z | z
        · rw [z]; exact hel
        · rw [z]; exact hil
      rw [upd_ne (Nat.ne_of_lt hb')]
      exact (hf b hb).1
  done := by
    intro X hP hw hK hc i pins s σ H E I hf st hg
    subst hP hw hK
    obtain ⟨⟨old, he⟩, hit, hne, hea, hai⟩ := st
    obtain ⟨xs, hq, hx⟩ := hg
    obtain ⟨its, rv, p, hz⟩ := I.tuple hq
    obtain ⟨f0, f1, f2, f3, f4, f5⟩ := hf it (by simp)
    have hl := rv.length
    have hd : X.A.in1.handled = none := I.ok.hd hc
    have pt : s.heap.IsTuple a its.toArray := p
    refine own_enum_end hd he hit pt (by simp; omega) fun h' eb => ⟨rfl, I.turned (t' := s.toks) (fun b o hb q => eb b o hb q) f0 f1 f3 f4 f5⟩
  self := fun A i s Q E st h => let ⟨⟨_, he⟩, _⟩ := st; wpAny_pyIter_enum he h
def iEnumT (K : PySem.W.Frag) (ta : TA) : TI := fun σ H R => ta σ H fun vs H1 => ∃ a xs, vs = [.ref a] ∧ SqT K H1 a xs ∧ R (Iet K a) H1
theorem pi_enumT {X : Cx} {e : Expr} {ta : TA} {p pos tpos : Pos} {elts : List Expr} {kk : Nat} (hg : Gl X "enumerate") (hm : X.mg "enumerate" = none) (ha : PA X [e] ta) (hs : starEach [e] X.env = [(false, eval e X.env)] := by rfl) :
    PI X (.Tuple elts kk tpos) (.Call (.Name "enumerate" p) [e] [] pos) (iEnumT X.K ta) := by
  refine ⟨fun pins s σ H R I h => ?_⟩
  refine Call_ (ld_blt I hg hm boot_enumerate (PyProof.Rows.callWith_type1 (thn (ha.run pos pins s σ H _ I h) fun us s1 ⟨vs, H1, I1, r1, q1⟩ => ?_) hs rfl))
  obtain ⟨a, xs, rfl, hq, q⟩ := q1
  cases r1 with
  | cons r rr =>
    cases rr
    cases r
    obtain ⟨its, rv, p', hz⟩ := I1.tuple hq
    have pt : s1.heap.IsTuple a its.toArray := p'
    have hal : a < s1.heap.objs.size := by obtain ⟨o, q, _⟩ := pt; exact Heap.lt_size q
    refine own_enum_call (begins_tuple a its.toArray) pt fun h' he hit hsz hk => wpAny_pyIter_enum he ?_
    have I2 : Inv X pins σ H1 { s1 with heap := h' } := I1.kept (t' := s1.toks) hk
    refine ⟨s1.heap.objs.size + 1, [s1.heap.objs.size + 1, s1.heap.objs.size], _, _, H1, rfl, I2, turn_enumT a (s1.heap.objs.size + 1) s1.heap.objs.size, ⟨⟨.none, he⟩, ⟨_, hit, rfl, rfl⟩, Nat.succ_ne_self _, Nat.ne_of_gt (Nat.lt_succ_of_lt hal), Nat.ne_of_lt hal⟩, fun b hb => ?_, q⟩
    have e' : b = s1.heap.objs.size + 1 ∨ b = s1.heap.objs.size := by simpa using hb
    have hle : s1.heap.objs.size ≤ b := by
      rcases e' with z | z
      · rw [z]; exact Nat.le_add_right _ _
      · rw [z]; exact Nat.le_refl _
    exact I1.fpOk hle (I1.hok.fresh hle)
end L2
namespace Pd
open PySem PySem.Spec PyProof.Rows L2 GxR Gx
section
variable {K : PySem.W.Frag} {tb : List Addr}
/-! ### enumerate -/
theorem numW_get {us : List PyData} {i : Nat} {w : W} (h : (numW us)[i]? = some w) : ∃ d, us[i]? = some d ∧ w = .d (.tuple [.int (i : Int), d]) := by
  unfold numW at h
  rw [List.getElem?_map] at h
  obtain ⟨p, e1, e2⟩ := Option.map_eq_some_iff.mp h
  rw [List.getElem?_zipIdx] at e1
  obtain ⟨d, e3, e4⟩ := Option.map_eq_some_iff.mp e1
  subst e4 e2
  refine ⟨d, e3, ?_⟩
  simp
theorem numW_length {us : List PyData} : (numW us).length = us.length := by unfold numW; simp
def iEnumM (a : MA) : MI := fun ρ S => (a ρ S).bind fun p => match p.1 with
  | [.d (.tuple ds)] => some (.vals (numW ds), p.2)
  | _ => none
def iEnumLM (a : MA) : MI := fun ρ S => (a ρ S).bind fun p => match p.1 with
  | [.d (.list ds)] => some (.vals (numW ds), p.2)
  | [.loc n] => match p.2[n]? with
    | some (.lst _) => some (.enl n, p.2)
    | _ => none
  | _ => none
theorem iet_ok {A : Wd} {a : Addr} {xs : List V} {ds : List PyData} (f : FzT K tb A a xs) (r : DRs K tb A xs ds) : ItOk K tb A (Iet K a) (.vals (numW ds)) := fun B S ws N R e => by
  cases (show numW ds = ws from e)
  have f' := (f.nxw N).sq
  have rl := r.length
  refine ⟨fun i w hw => ?_, fun i hi => ⟨xs, f', by rw [numW_length] at hi; omega⟩⟩
  obtain ⟨d, e1, rfl⟩ := numW_get hw
  obtain ⟨v, e2, r2⟩ := r.get' e1
  refine ⟨⟨xs, v, f', e2⟩, fun x H2 y => ?_⟩
  obtain ⟨T, x', rfl, hT, rfl, y⟩ := y
  have := y xs f'
  rw [e2] at this; cases this
  exact ⟨B.put T _, rfl, .put hT _, R.put hT _, DR.tup (.inl (.put R hT _)) (.cons (.int _) (.cons (DR.nxt (.put hT _) d (DR.nxw N d r2)) .nil))⟩
theorem ite_ok {A : Wd} {a : Addr} {xs : List V} {ds : List PyData} (f : Fz tb A a (.lst xs)) (r : DRs K tb A xs ds) : ItOk K tb A (Ite K a) (.vals (numW ds)) := fun B S ws N R e => by
  cases (show numW ds = ws from e)
  have f' : SqL K B.H a xs := (f.nxw N).sq
  have rl := r.length
  refine ⟨fun i w hw => ?_, fun i hi => ⟨xs, f', by rw [numW_length] at hi; omega⟩⟩
  obtain ⟨d, e1, rfl⟩ := numW_get hw
  obtain ⟨v, e2, r2⟩ := r.get' e1
  refine ⟨⟨xs, v, f', e2⟩, fun x H2 y => ?_⟩
  obtain ⟨T, x', rfl, hT, rfl, y⟩ := y
  have := y xs f'
  rw [e2] at this; cases this
  exact ⟨B.put T _, rfl, .put hT _, R.put hT _, DR.tup (.inl (.put R hT _)) (.cons (.int _) (.cons (DR.nxt (.put hT _) d (DR.nxw N d r2)) .nil))⟩
theorem ite_live {A : Wd} {a : Addr} {n : Nat} (ha : A.ι[n]? = some a) : ItOk K tb A (Ite K a) (.enl n) := fun B S ws N R e => by
  obtain ⟨us, ds, e1, e2, rfl⟩ := e
  obtain ⟨xs, ex, r⟩ := R.at_ n a _ (N.ix ha) e1
  have sq : SqL K B.H a xs := .inl (.inl ex)
  have r : DRs K tb B xs ds := drs_of r e2
  have rl := r.length
  refine ⟨fun i w hw => ?_, fun i hi => ⟨xs, sq, by rw [numW_length] at hi; omega⟩⟩
  obtain ⟨d, e3, rfl⟩ := numW_get hw
  obtain ⟨v, e4, r4⟩ := r.get' e3
  refine ⟨⟨xs, v, sq, e4⟩, fun x H2 y => ?_⟩
  obtain ⟨T, x', rfl, hT, rfl, y⟩ := y
  have := y xs sq
  rw [e4] at this; cases this
  exact ⟨B.put T _, rfl, .put hT _, R.put hT _, DR.tup (.inl (.put R hT _)) (.cons (.int _) (.cons (DR.nxt (.put hT _) d r4) .nil))⟩
theorem si_enumT {t : TA} {a : MA} (ha : SA K tb t a) : SI K tb (iEnumT K t) (iEnumM a) := fun A σ ρ S im S' R' R E e q => by
  obtain ⟨⟨ws, S1⟩, e1, e⟩ := Option.bind_eq_some_iff.mp e
  refine ha A σ ρ S ws S1 _ R E e1 fun vs B N R1 r => ?_
  dsimp only at e
  split at e
  · cases e
    obtain ⟨v, rfl, r1⟩ := wrs1 r
    obtain ⟨a, xs, rfl, f, rd⟩ := r1.tup
    exact ⟨a, xs, rfl, f.sq, q _ B N R1 (iet_ok f rd)⟩
  · cases e
theorem si_enum {t : TA} {a : MA} (ha : SA K tb t a) : SI K tb (iEnum K t) (iEnumLM a) := fun A σ ρ S im S' R' R E e q => by
  obtain ⟨⟨ws, S1⟩, e1, e⟩ := Option.bind_eq_some_iff.mp e
  refine ha A σ ρ S ws S1 _ R E e1 fun vs B N R1 r => ?_
  dsimp only at e
  split at e
  · cases e
    obtain ⟨v, rfl, r1⟩ := wrs1 r
    obtain ⟨a, xs, rfl, f, rd⟩ := r1.lst
    exact ⟨a, xs, rfl, f.sq, q _ B N R1 (ite_ok f rd)⟩
  · split at e
    · rename_i n ws' ew
      cases e
      obtain ⟨v, rfl, r1⟩ := wrs1 r
      obtain ⟨a, rfl, i⟩ := r1
      obtain ⟨vs, ev, _⟩ := R1.at_ _ a _ i ew
      exact ⟨a, vs, rfl, .inl (.inl ev), q _ B N R1 (ite_live i)⟩
    · cases e
  · cases e
/-! ### a comprehension with two sources -/
def lc2M (im : Itm) (g : MG) (t : MT) (mi1 : MI) (vs1 : List Nat) (g1 : MG) (t1 : MT) (e : ME) : Nat → Nat → Env' → Mem → Option (List W × Mem)
  | f, i, ρ, S => match im.at_ S i with
    | none => none
    | some none => some ([], S)
    | some (some w) => match f with
      | 0 => none
      | f + 1 => (g w ρ S).bind fun p => (t p.1 p.2).bind fun q => if q.1 = true then (mi1 p.1 q.2).bind fun m => (lcM m.1 g1 t1 e (m.1.len m.2) 0 (wipeE p.1 vs1) m.2).bind fun r => (lc2M im g t mi1 vs1 g1 t1 e f (i + 1) ρ r.2).bind fun z => some (r.1 ++ z.1, z.2)
        else lc2M im g t mi1 vs1 g1 t1 e f (i + 1) ρ q.2
def eLc2 (mi : MI) (vs : List Nat) (g : MG) (t : MT) (mi1 : MI) (vs1 : List Nat) (g1 : MG) (t1 : MT) (e : ME) (mk : List W → Mem → Option (W × Mem)) : ME := fun ρ S => (mi ρ S).bind fun p => (lc2M p.1 g t mi1 vs1 g1 t1 e (p.1.len p.2) 0 (wipeE ρ vs) p.2).bind fun q => mk q.1 q.2
theorem se_lc2 {wi wi1 : TI} {mg' mg1' : TG} {tt tt1 : TT} {te : TE} {vs vs1 us us1 : List Nat} {mi mi1 : MI} {mg mg1 : MG} {mt mt1 : MT} {me : ME} {mk : List W → Mem → Option (W × Mem)} (hk : SMk K tb mk) (hi : SI K tb wi mi) (hg : SG K tb us mg' mg) (hsub : ∀ j, j ∈ us → j ∈ vs) (ht : ST K tb tt mt)
    (hi1 : SI K tb wi1 mi1) (hg1 : SG K tb us1 mg1' mg1) (hsub1 : ∀ j, j ∈ us1 → j ∈ vs1) (ht1 : ST K tb tt1 mt1) (he : SE K tb te me) :
    SE K tb (tLc2 wi mg' tt wi1 mg1' tt1 te vs vs1) (eLc2 mi vs mg mt mi1 vs1 mg1 mt1 me mk) := fun A σ ρ S w S' Q R E e q => by
  obtain ⟨⟨im, S1⟩, e1, e⟩ := Option.bind_eq_some_iff.mp e
  obtain ⟨⟨zs, S2⟩, e2, e3⟩ := Option.bind_eq_some_iff.mp e
  refine hi A σ ρ S im S1 _ R E e1 fun J B N R1 ok D hD => ?_
  have hlen := hk.1 _ _ _ e3
  let B1 : Wd := { H := upd B.H D (.lst []), ι := B.ι, hid := D :: B.hid }
  have nD := R1.fresh hD
  have N1 : Nxt tb B B1 := ⟨fun b z => List.mem_cons_of_mem _ z, fun b z => (List.mem_cons.mp z).elim (fun z => .inr (by rw [z]; exact hD)) .inl, fun b z => upd_none z, ⟨[], by show B.ι = _; simp⟩, fun b o n t e => ⟨by show upd B.H D _ b = _; rw [upd_ne (ne_of_none e hD)]; exact e, n⟩, fun b o' u _ e => by show upd B.H D _ b = _; rw [upd_ne (ne_of_none e hD)]; exact e⟩
  have RB : Rep K tb B1 S1 := by
    have R2 := R1.put hD (.lst [])
    refine ⟨R2.len, R2.nd, R2.tabs, fun b hb => ?_, fun n a ob z1 z2 => ?_⟩
    · rcases List.mem_cons.mp hb with z | z
      · subst z; exact ⟨⟨_, upd_same⟩, fun z => nD (.inl z), fun z => nD (.inr (.inl z))⟩
      · exact R2.hd b z
    · have o := R1.at_ n a ob z1 z2
      obtain ⟨oo, eo, _⟩ := o.some
      exact o.nxt N1 (by show upd B.H D _ a = _; rw [upd_ne (ne_of_none eo hD)])
  have EB := wipeE_er (E.nxt N) vs
  refine ⟨fun i m H => ∃ C acc ws S3 zs', C.H = H ∧ Nxt tb B C ∧ D ∈ C.hid ∧ C.H D = some (.lst acc) ∧ Rep K tb C S3 ∧ WRs K tb C acc ws ∧ lc2M im mg mt mi1 vs1 mg1 mt1 me m i (wipeE ρ vs) S3 = some (zs', S2) ∧ ws ++ zs' = zs,
    ⟨_, B1, [], [], S1, zs, rfl, N1, List.mem_cons_self, upd_same, RB, .nil, e2, rfl⟩, ?_⟩
  rintro i m _ ⟨C, acc, ws, S3, zs', rfl, N3, hDC, eD, R3, racc, e4, hz⟩
  unfold lc2M at e4
  split at e4
  · cases e4
  · rename_i ha
    cases e4
    obtain ⟨us', hu, hz'⟩ := Itm.at_now ha
    rw [List.append_nil] at hz
    subst hz
    exact .inl ⟨(ok C _ us' N3.w R3 hu).2 i (List.getElem?_eq_none_iff.mp hz'.symm), hk.2 B C D acc ws S1 _ w S' Q R1 hD N3 hDC eD R3 racc e3 (q.nxt N)⟩
  · rename_i w1 ha
    obtain ⟨us', hu, hz'⟩ := Itm.at_now ha
    obtain ⟨go, yl⟩ := (ok C S3 us' N3.w R3 hu).1 i w1 hz'.symm
    cases m with
    | zero => cases e4
    | succ m =>
      obtain ⟨⟨ρ5, S5⟩, e5, e4⟩ := Option.bind_eq_some_iff.mp e4
      obtain ⟨⟨k6, S6⟩, e6, e4⟩ := Option.bind_eq_some_iff.mp e4
      refine .inr ⟨go, fun H' => ∃ C acc ws S3 zs', C.H = H' ∧ Nxt tb B C ∧ D ∈ C.hid ∧ C.H D = some (.lst acc) ∧ Rep K tb C S3 ∧ WRs K tb C acc ws ∧ lc2M im mg mt mi1 vs1 mg1 mt1 me m (i + 1) (wipeE ρ vs) S3 = some (zs', S2) ∧ ws ++ zs' = zs, fun H' h => ⟨m, Nat.lt_succ_self m, h⟩, fun x H2 y => ?_⟩
      obtain ⟨C2, rfl, N4, R4, r4⟩ := yl x H2 y
      have EC : ER K tb C2 (wipe σ vs) (wipeE ρ vs) := EB.nxt (N3.trans N4)
      refine hg C2 x w1 _ _ S3 ρ5 S5 _ R4 EC r4 e5 fun C3 σ3 N5 R5 E5 hl5 hj5 => ⟨wipe_wipe hl5 fun j hj => hj5 j fun z => hj (hsub j z), ?_⟩
      refine ht C3 σ3 ρ5 S5 k6 S6 _ R5 E5 e6 fun C4 N6 R6 => ?_
      have NC := N4.trans (N5.trans N6)
      cases k6 with
      | false =>
        simp only [Bool.false_eq_true, if_false] at e4 ⊢
        exact ⟨C4, acc, ws, S6, zs', rfl, N3.trans NC, NC.hid D hDC, NC.hidden R3 hDC eD, R6, WRs.nxt NC racc, e4, hz⟩
      | true =>
        simp only [if_true] at e4 ⊢
        obtain ⟨⟨im1, S7⟩, e7, e4⟩ := Option.bind_eq_some_iff.mp e4
        obtain ⟨⟨ys8, S8⟩, e8, e4⟩ := Option.bind_eq_some_iff.mp e4
        obtain ⟨⟨zs9, S9⟩, e9, e4⟩ := Option.bind_eq_some_iff.mp e4
        cases e4
        refine hi1 C4 σ3 ρ5 S6 im1 S7 _ R6 (E5.nxt N6) e7 fun J1 C5 N7 R7 ok1 => ?_
        have NC5 := NC.trans N7
        have EI := wipeE_er (E5.nxt (N6.trans N7)) vs1
        refine ⟨fun j k H => ∃ F acc' us2 S3' ys', F.H = H ∧ NxW tb C5 F ∧ D ∈ F.hid ∧ F.H D = some (.lst acc') ∧ Rep K tb F S3' ∧ WRs K tb F acc' us2 ∧ lcM im1 mg1 mt1 me k j (wipeE ρ5 vs1) S3' = some (ys', S8) ∧ us2 ++ ys' = ws ++ ys8 ∧ Nxt tb B F,
          ⟨_, C5, acc, ws, S7, ys8, rfl, Nxt.refl.w, NC5.hid D hDC, NC5.hidden R3 hDC eD, R7, WRs.nxt NC5 racc, e8, rfl, N3.trans NC5⟩, ?_⟩
        rintro j k _ ⟨F, acc', us2, S3', ys', rfl, NF, hDF, eDF, RF, raF, eF, hzF, NBF⟩
        unfold lcM at eF
        split at eF
        · cases eF
        · rename_i haF
          cases eF
          obtain ⟨vs', hv, hzv⟩ := Itm.at_now haF
          rw [List.append_nil] at hzF
          subst hzF
          exact .inl ⟨(ok1 F _ vs' NF RF hv).2 j (List.getElem?_eq_none_iff.mp hzv.symm), F, acc', ws ++ ys8, S8, zs9, rfl, NBF, hDF, eDF, RF, raF, e9, by rw [List.append_assoc]; exact hz⟩
        · rename_i wF haF
          obtain ⟨vs', hv, hzv⟩ := Itm.at_now haF
          obtain ⟨goF, ylF⟩ := (ok1 F S3' vs' NF RF hv).1 j wF hzv.symm
          cases k with
          | zero => cases eF
          | succ k =>
            obtain ⟨⟨ρ10, S10⟩, e10, eF⟩ := Option.bind_eq_some_iff.mp eF
            obtain ⟨⟨k11, S11⟩, e11, eF⟩ := Option.bind_eq_some_iff.mp eF
            refine .inr ⟨goF, fun H' => ∃ F acc' us2 S3' ys', F.H = H' ∧ NxW tb C5 F ∧ D ∈ F.hid ∧ F.H D = some (.lst acc') ∧ Rep K tb F S3' ∧ WRs K tb F acc' us2 ∧ lcM im1 mg1 mt1 me k (j + 1) (wipeE ρ5 vs1) S3' = some (ys', S8) ∧ us2 ++ ys' = ws ++ ys8 ∧ Nxt tb B F, fun H' h => ⟨k, Nat.lt_succ_self k, h⟩, fun x1 H3 y1 => ?_⟩
            obtain ⟨F2, rfl, M4, Q4, s4⟩ := ylF x1 H3 y1
            have EF : ER K tb F2 (wipe σ3 vs1) (wipeE ρ5 vs1) := (EI.nxw NF).nxt M4
            refine hg1 F2 x1 wF _ _ S3' ρ10 S10 _ Q4 EF s4 e10 fun F3 σ10 M5 Q5 E10 hl10 hj10 => ⟨wipe_wipe hl10 fun j hj => hj10 j fun z => hj (hsub1 j z), ?_⟩
            refine ht1 F3 σ10 ρ10 S10 k11 S11 _ Q5 E10 e11 fun F4 M6 Q6 => ?_
            have MC := M4.trans (M5.trans M6)
            cases k11 with
            | false =>
              simp only [Bool.false_eq_true, if_false] at eF ⊢
              exact ⟨F4, acc', us2, S11, ys', rfl, NF.trans MC.w, MC.hid D hDF, MC.hidden RF hDF eDF, Q6, WRs.nxt MC raF, eF, hzF, NBF.trans MC⟩
            | true =>
              simp only [if_true] at eF ⊢
              obtain ⟨⟨y12, S12⟩, e12, eF⟩ := Option.bind_eq_some_iff.mp eF
              obtain ⟨⟨zs13, S13⟩, e13, eF⟩ := Option.bind_eq_some_iff.mp eF
              cases eF
              refine he F4 σ10 ρ10 S11 y12 S12 _ Q6 (E10.nxt M6) e12 fun v F5 M7 Q7 r7 => ?_
              have MC5 := MC.trans M7
              have hD5 := MC5.hid D hDF
              have eD5 := MC5.hidden RF hDF eDF
              have hac := WRs.length raF
              refine ⟨acc', eD5, ?_, F5.hset D (.lst (acc' ++ [v])), acc' ++ [v], us2 ++ [y12], S12, zs13, rfl, nxw_hset (NF.trans MC5.w) (NC5.hid D hDC) (R7.hd D (NC5.hid D hDC)).2.1, hD5, upd_same, Q7.hset hD5, ?_, e13, by rw [List.append_assoc]; exact hzF, nxt_hset (NBF.trans MC5) hD⟩
              · have h1 := congrArg List.length hzF
                have h2 : ws.length + (ys8.length + zs9.length) = zs.length := by have := congrArg List.length hz; simpa using this
                have h3 : zs.length ≤ sizeLine := hlen
                have h4 : us2.length + (zs13.length + 1) = ws.length + ys8.length := by simpa using h1
                omega
              · exact Paired.snoc (Paired.mapP (WRs.nxt MC5 raF) fun _ _ z => wr_key (hset_key hD5) (fun _ _ z => z) z) (wr_key (hset_key hD5) (fun _ _ z => z) r7)
end
end Pd
/-! max(l, default=d) of a list of ints: by the library's max over data -/
namespace Pd
open PySem PySem.Spec PyProof.Rows L2 GxR Gx
section
variable {K : PySem.W.Frag} {tb : List Addr}
/-! ### max(.., default=..) -/
def rMaxD (K : PySem.W.Frag) : List V → List V → Hp → VK → Prop := fun vs zs H Q => ∃ (a : Addr) (ns : List Int) (d : V), vs = [V.ref a] ∧ zs = [d] ∧ SqL K H a (ns.map V.int) ∧ (ns = [] → Q d H) ∧ ∀ m, m ∈ ns → (∀ y, y ∈ ns → y ≤ m) → Q (.int m) H
theorem ints_alike (ns : List Int) : PySem.W.AlikeAll (ns.map PyData.int) := by
  constructor
  · intro x hx y hy
    obtain ⟨i, _, rfl⟩ := List.mem_map.mp hx
    obtain ⟨j, _, rfl⟩ := List.mem_map.mp hy
    rfl
  · intro x hx
    obtain ⟨i, _, rfl⟩ := List.mem_map.mp hx
    exact PyData.noConfusion
theorem ints_flat : ∀ ns : List Int, PyData.depthAll (ns.map PyData.int) = 0
  | [] => rfl
  | n :: ns => by
    show max 0 (PyData.depthAll (ns.map PyData.int)) = 0
    rw [ints_flat ns]; rfl
theorem fold_max (n : Int) : ∀ ns : List Int, ns.foldl max n ∈ n :: ns ∧ ∀ y ∈ n :: ns, y ≤ ns.foldl max n := by
  intro ns
  induction ns generalizing n with
  | nil => exact ⟨List.mem_singleton.mpr rfl, fun y hy => by rw [List.mem_singleton.mp hy]; exact Int.le_refl _⟩
  | cons k r ih =>
    obtain ⟨h1, h2⟩ := ih (max n k)
    rw [List.foldl_cons]
    constructor
    · rcases List.mem_cons.mp h1 with h | h
      · rw [h]
        rcases Int.le_total n k with g | g
        · rw [Int.max_eq_right g]; exact List.mem_cons_of_mem _ List.mem_cons_self
        · rw [Int.max_eq_left g]; exact List.mem_cons_self
      · exact List.mem_cons_of_mem _ (List.mem_cons_of_mem _ h)
    · intro y hy
      have hm := h2 _ List.mem_cons_self
      rcases List.mem_cons.mp hy with rfl | hy
      · exact Int.le_trans (Int.le_max_left _ _) hm
      · rcases List.mem_cons.mp hy with rfl | hy
        · exact Int.le_trans (Int.le_max_right _ _) hm
        · exact h2 y (List.mem_cons_of_mem _ hy)
theorem ck_maxD {X : Cx} (hc : X.calm = true) (hu : X.A.units + 1 < cLine) : CallRK X (.builtin "max") ["default"] (rMaxD X.K) := by
  intro pins s σ H xs zs us ws Q I r1 r2 h
  obtain ⟨a, ns, d, rfl, rfl, hs, q0, q⟩ := h
  obtain ⟨its, rv, hl, _⟩ := I.list hs
  rw [Vals.ref1 r1]
  obtain ⟨u, rfl, ru⟩ := vals1 r2
  refine PySem.W.max_list_default (xs := ns.map .int) (as := []) (I.ok.hd hc) hl.isList (IntsAre.reads _ rv.ints) (ints_alike ns) (by rw [ints_flat]; exact hu) (fun e h' tk hk => ?_) fun y ys i v h' tk bs e _ rd hk => ?_
  · exact ⟨d, H, I.kept hk, ru, q0 (List.map_eq_nil_iff.mp e)⟩
  · obtain ⟨n, rest, rfl, rfl, rfl⟩ := List.map_eq_cons_iff.mp e
    rw [PySem.W.maxD_ints] at rd
    cases rd
    obtain ⟨h1, h2⟩ := fold_max n rest
    exact ⟨.int _, H, I.kept hk, ⟨_, rfl⟩, q _ h1 h2⟩
abbrev MK := List W → List W → Mem → Option (W × Mem)
def SCK (K : PySem.W.Frag) (tb : List Addr) (r : List V → List V → Hp → VK → Prop) (f : MK) : Prop := ∀ A vs zs ws us S w S' Q, Rep K tb A S → WRs K tb A vs ws → WRs K tb A zs us → f ws us S = some (w, S') → Pd.KE K tb A w S' Q → r vs zs A.H Q
def eCallK (f : MK) (a k : MA) : ME := fun ρ S => (a ρ S).bind fun p => (k ρ p.2).bind fun q => f p.1 q.1 q.2
theorem se_cbk {r : List V → List V → Hp → VK → Prop} {f : MK} {t tk : TA} {a k : MA} (hr : SCK K tb r f) (ha : SA K tb t a) (hk : SA K tb tk k) : SE K tb (tCKw r t tk) (eCallK f a k) := fun A σ ρ S w S' Q R E e q => by
  obtain ⟨p, e1, e⟩ := Option.bind_eq_some_iff.mp e
  obtain ⟨z, e2, e⟩ := Option.bind_eq_some_iff.mp e
  exact ha A σ ρ S p.1 p.2 _ R E e1 fun vs B N R1 r1 => hk B σ ρ p.2 z.1 z.2 _ R1 (E.nxt N) e2 fun zs C N2 R2 r2 => hr C vs zs p.1 z.1 z.2 w S' Q R2 (WRs.nxt N2 r1) r2 e (q.nxt (N.trans N2))
def bMaxD : MK := fun ws us S => match ws, us with
  | [w], [d] => (itemsL w S).bind fun us => (intsOf us).bind fun ns => some (if ns.isEmpty = true then d else .d (.int (maxI ns)), S)
  | _, _ => none
theorem sk_maxD : SCK K tb (rMaxD K) bMaxD := fun A vs zs ws us S w S' Q R r1 r2 e q => by
  unfold bMaxD at e
  split at e
  · obtain ⟨us', e1, e2⟩ := Option.bind_eq_some_iff.mp e
    obtain ⟨ns, e3, e4⟩ := Option.bind_eq_some_iff.mp e2
    cases e4
    obtain ⟨v, rfl, q1⟩ := wrs1 r1
    obtain ⟨d, rfl, q2⟩ := wrs1 r2
    obtain ⟨a, xs, rfl, sq, rx⟩ := itemsL_run R q1 e1
    rw [ints_run rx e3] at sq
    refine ⟨a, ns, d, rfl, rfl, sq, fun hz => ?_, fun m hm hall => ?_⟩
    · subst hz
      exact q _ A .refl R q2
    · have hne : ns ≠ [] := by rintro rfl; cases hm
      have hm' : m = maxI ns := Int.le_antisymm (maxI_le hm) (hall _ (maxI_mem hne))
      have he : ns.isEmpty = false := by cases ns with | nil => exact absurd rfl hne | cons a b => rfl
      rw [he] at q
      rw [hm']
      exact q _ A .refl R (DR.int _)
  · cases e
/-! ### is of bools -/
def oIsBl : F2 := fun a b S => match a, b with
  | .d (.bool x), .d (.bool y) => some (.d (.bool (decide (x = y))), S)
  | _, _ => none
theorem sr_isBl : SR K tb rIsB oIsBl := fun A x y a b S w S' Q R ra rb e q => by
  unfold oIsBl at e
  split at e
  · cases e
    exact ⟨_, _, ra.bl, rb.bl, q _ A .refl R (DR.bl _)⟩
  · cases e
theorem op_isBool {X : Cx} : OpR X (compareOp .Is) rIsB := op_isBl
/-! ### unary minus -/
def oNeg : F1 := fun a S => match a with
  | .d (.int i) => some (.d (.int (-i)), S)
  | _ => none
theorem su_neg : SU K tb (rU fun i => .int (-i)) oNeg := fun A x a S w S' Q R ra e q => by
  unfold oNeg at e
  split at e
  · cases e
    exact ⟨_, ra.int, q _ A .refl R (DR.int _)⟩
  · cases e
end
/-! ### the top -/
structure DfC (K : PySem.W.Frag) (mg : Str → Option Value) (x : Str) (st : Stmt) (ps : List Str) where
  f : Addr
  fd : FuncData
  c : Addr
  F : FunC K x x st f fd c
  g : mg x = some (.ref f)
  b : Binds K fd ps []
theorem bt_sum : bootBuiltins "sum" = some (.builtin "sum") := by decide +kernel
theorem bt_max : bootBuiltins "max" = some (.builtin "max") := by decide +kernel
theorem bt_all : bootBuiltins "all" = some (.builtin "all") := by decide +kernel
section
variable {X : Cx} {K : PySem.W.Frag}
theorem pi_tupK {tg l : Expr} {tl : TE} (hK : X.K = K) (hl : PE X l tl) : PI X tg l (iTup K tl) := by subst hK; exact pi_tup hl
theorem pi_lstK {tg l : Expr} {tl : TE} (hK : X.K = K) (hl : PE X l tl) : PI X tg l (iList K tl) := by subst hK; exact pi_list hl
theorem pi_enumTK {e : Expr} {ta : TA} {p pos tpos : Pos} {elts : List Expr} {kk : Nat} (hK : X.K = K) (hg : Gl X "enumerate") (hm : X.mg "enumerate" = none) (ha : PA X [e] ta) (hs : starEach [e] X.env = [(false, eval e X.env)] := by rfl) :
    PI X (.Tuple elts kk tpos) (.Call (.Name "enumerate" p) [e] [] pos) (iEnumT K ta) := by subst hK; exact pi_enumT hg hm ha hs
theorem pi_enumLK {e : Expr} {ta : TA} {p pos tpos : Pos} {elts : List Expr} {kk : Nat} (hK : X.K = K) (hg : Gl X "enumerate") (hm : X.mg "enumerate" = none) (ha : PA X [e] ta) (hs : starEach [e] X.env = [(false, eval e X.env)] := by rfl) :
    PI X (.Tuple elts kk tpos) (.Call (.Name "enumerate" p) [e] [] pos) (iEnum K ta) := by subst hK; exact pi_enum hg hm ha hs
theorem ix_seqK (hK : X.K = K) : IxR X (rIx K) := by subst hK; exact ix_seq
theorem sl_allK (hK : X.K = K) : SlR X (rSlAll K) := by subst hK; exact sl_all
theorem op_plusK (hK : X.K = K) : OpR X (binaryOp .Add) (rPlus K) := by subst hK; exact op_plus
theorem op_eqAK (hK : X.K = K) (hu : X.A.units + 64 < cLine) : OpR X (compareOp .Eq) (rEqA K) := by subst hK; exact op_eqA hu
theorem op_neAK (hK : X.K = K) (hu : X.A.units + 64 < cLine) : OpR X (compareOp .NotEq) (rNeA K) := by subst hK; exact op_neA hu
theorem op_inK (hK : X.K = K) : OpR X (compareOp .In) (rIn K false) := by subst hK; exact op_in_seq
theorem op_ninK (hK : X.K = K) : OpR X (compareOp .NotIn) (rIn K true) := by subst hK; exact op_notIn_seq
theorem cr_lenK (hK : X.K = K) : CallR X (.builtin "len") (fun xs H Q => ∃ p ys, xs = [.ref p] ∧ (SqL K H p ys ∨ SqT K H p ys) ∧ Q (.int ys.length) H) := by subst hK; exact call_len_seq
theorem cr_tupK (hK : X.K = K) : CallR X (.type "tuple") (fun xs H Q => ∃ p ys, xs = [.ref p] ∧ ((SqL K H p ys ∧ ∀ l, H l = none → Q (.ref l) (upd H l (.tup ys))) ∨ (SqT K H p ys ∧ Q (.ref p) H))) := by subst hK; exact call_tuple_of
theorem cr_lstK (hK : X.K = K) : CallR X (.type "list") (rLstOf K) := by subst hK; exact call_list_of
theorem cr_sumK (hK : X.K = K) (hc : X.calm = true) : CallR X (.builtin "sum") (rSum K) := by subst hK; exact cr_sum hc
theorem cr_maxK (hK : X.K = K) (hc : X.calm = true) : CallR X (.builtin "max") (rMax K) := by subst hK; exact cr_max hc
theorem ck_maxDK (hK : X.K = K) (hc : X.calm = true) (hu : X.A.units + 64 < cLine) : CallRK X (.builtin "max") ["default"] (rMaxD K) := by subst hK; exact ck_maxD hc (by omega)
theorem pg_tupK {es : List Expr} {kk : Nat} {pos : Pos} {t : TGs} (h : ∀ K', X.K = K' → PG X (.Tuple es kk pos) (gTup K' es.length t)) (hK : X.K = K) : PG X (.Tuple es kk pos) (gTup K es.length t) := h K hK
end
theorem nodot (N : List Str) (h : (".0" : Str) ∉ N) : ∀ i : Nat, N[i]? ≠ some (".0" : Str) := fun i e => h (List.mem_of_getElem? e)
theorem dr_con {K : PySem.W.Frag} {tb : List Addr} {a : Addr} {xs : List V} {ds : List PyData} (h : SqT K H0 a xs) (r : ∀ A, DRs K tb A xs ds) : ∀ A, DR K tb A (.ref a) (.tuple ds) := fun A => .tup (.inr h) (r A)
end Pd
/-! instances and dicts -/
namespace Pd
open PySem PySem.Spec PyProof.Rows L2 GxR Gx
section
variable {K : PySem.W.Frag} {tb : List Addr}
/-! ### attributes -/
abbrev FW := List (Str × W)
def insAt (w : W) (S : Mem) : Option (Nat × Addr × FW) := match w with
  | .loc n => match S[n]? with
    | some (.ins C fs) => some (n, C, fs)
    | _ => none
  | _ => none
abbrev PF (K : PySem.W.Frag) (tb : List Addr) (A : Wd) : List (Str × V) → FW → Prop := Paired fun p q => p.1 = q.1 ∧ WR K tb A p.2 q.2
theorem insAt_run {A : Wd} {S : Mem} {v : V} {w : W} {n : Nat} {C : Addr} {fs : FW} (R : Rep K tb A S) (r : WR K tb A v w) (h : insAt w S = some (n, C, fs)) :
    ∃ a dx vs, v = .ref a ∧ w = .loc n ∧ A.ι[n]? = some a ∧ A.H a = some (.ins C dx vs) ∧ PF K tb A vs fs := by
  unfold insAt at h
  split at h
  · rename_i m
    split at h
    · rename_i e
      cases h
      obtain ⟨a, rfl, ia⟩ := r
      obtain ⟨ob, e2, q⟩ := R.get ia
      rw [e] at e2; cases e2
      obtain ⟨dx, vs, ea, p⟩ := q
      exact ⟨a, dx, vs, rfl, rfl, ia, ea, p⟩
    · cases h
  · cases h
theorem PF.some {A : Wd} {vs : List (Str × V)} {fs : FW} (p : PF K tb A vs fs) {f : Str} {w : W} (h : fs.lookup f = some w) : ∃ v, vs.lookup f = some v ∧ WR K tb A v w := by
  induction p with
  | nil => cases h
  | @cons a b as bs r _ ih =>
    obtain ⟨x, v⟩ := a
    obtain ⟨y, u⟩ := b
    obtain ⟨rfl, r⟩ := r
    rw [List.lookup_cons] at h ⊢
    split at h
    · rename_i e; cases h; rw [e]; exact ⟨v, rfl, r⟩
    · rename_i e; rw [e]; exact ih h
theorem PF.none {A : Wd} {vs : List (Str × V)} {fs : FW} (p : PF K tb A vs fs) {f : Str} (h : fs.lookup f = none) : vs.lookup f = none := by
  induction p with
  | nil => rfl
  | @cons a b as bs r _ ih =>
    obtain ⟨x, v⟩ := a
    obtain ⟨y, u⟩ := b
    obtain ⟨rfl, r⟩ := r
    rw [List.lookup_cons] at h ⊢
    split at h
    · cases h
    · rename_i e; rw [e]; exact ih h
def putW (f : Str) (w : W) : FW → FW
  | [] => [(f, w)]
  | (g, x) :: r => if g = f then (g, w) :: r else (g, x) :: putW f w r
theorem PF.put {A : Wd} {vs : List (Str × V)} {fs : FW} (p : PF K tb A vs fs) {f : Str} {v : V} {w : W} (r : WR K tb A v w) : PF K tb A (putF f v vs) (putW f w fs) := by
  induction p with
  | nil => exact .cons ⟨rfl, r⟩ .nil
  | @cons a b as bs q t ih =>
    obtain ⟨x, v'⟩ := a
    obtain ⟨y, u⟩ := b
    obtain ⟨rfl, q⟩ := q
    show Paired _ (if x = f then _ else _) (if x = f then _ else _)
    by_cases e : x = f
    · rw [if_pos e, if_pos e]; exact .cons ⟨rfl, r⟩ t
    · rw [if_neg e, if_neg e]; exact .cons ⟨rfl, q⟩ ih
theorem PF.nxt {A B : Wd} {vs : List (Str × V)} {fs : FW} (x : Nxt tb A B) (p : PF K tb A vs fs) : PF K tb B vs fs := Paired.mapP p fun _ _ z => ⟨z.1, z.2.nxt x⟩
theorem PF.length {A : Wd} {vs : List (Str × V)} {fs : FW} (p : PF K tb A vs fs) : vs.length = fs.length := Paired.length p
def eFld (C : Addr) (o : ME) (f : Str) : ME := fun ρ S => (o ρ S).bind fun p => (insAt p.1 p.2).bind fun q => if q.2.1 = C then (q.2.2.lookup f).map fun w => (w, p.2) else none
theorem se_fld {C : Addr} {ta : TE} {o : ME} {f : Str} (c : Cls K C) (hn : NoAttr K C f) (ho : SE K tb ta o) : SE K tb (tFld K ta f) (eFld C o f) := fun A σ ρ S w S' Q R E e q => by
  obtain ⟨p, e1, g1⟩ := Option.bind_eq_some_iff.mp e
  obtain ⟨⟨n, C', fs⟩, e2, g2⟩ := Option.bind_eq_some_iff.mp g1
  dsimp only at g2
  split at g2
  · rename_i hC
    subst hC
    obtain ⟨u, e3, e4⟩ := Option.map_eq_some_iff.mp g2
    cases e4
    refine ho A σ ρ S p.1 p.2 _ R E e1 fun x B N R1 r1 => ?_
    obtain ⟨a, dx, vs, rfl, _, ia, ea, pf⟩ := insAt_run R1 r1 e2
    obtain ⟨v, hv, rv⟩ := pf.some e3
    exact ⟨a, C', dx, vs, v, rfl, ea, c, hn, hv, q v B N R1 rv⟩
  · cases g2
def sFldW (C : Addr) (o : ME) (f : Str) (x : ME) : MS := fun ρ S => (x ρ S).bind fun p => (o ρ p.2).bind fun z => (insAt z.1 z.2).bind fun q => if q.2.1 = C ∧ q.2.2.length < 1000 then some (.nx, ρ, z.2.set q.1 (.ins C (putW f p.1 q.2.2))) else none
theorem ss_fld {C : Addr} {ta tv : TE} {o x : ME} {f : Str} (c : Cls K C) (hn : NoAttr K C f) (ho : SE K tb ta o) (hx : SE K tb tv x) : SS K tb (sFld K ta tv f) (sFldW C o f x) := fun A σ ρ S ou ρ' S' D R E e q => by
  obtain ⟨p, e1, g1⟩ := Option.bind_eq_some_iff.mp e
  obtain ⟨z, e2, g2⟩ := Option.bind_eq_some_iff.mp g1
  obtain ⟨⟨n, C', fs⟩, e3, g3⟩ := Option.bind_eq_some_iff.mp g2
  dsimp only at g3
  split at g3
  · rename_i hC
    obtain ⟨hC, hl⟩ := hC
    subst hC
    cases g3
    refine hx A σ ρ S p.1 p.2 _ R E e1 fun y B N R1 r1 => ?_
    refine ho B σ ρ p.2 z.1 z.2 _ R1 (E.nxt N) e2 fun ov B2 N2 R2 r2 => ?_
    obtain ⟨a, dx, vs, rfl, _, ia, ea, pf⟩ := insAt_run R2 r2 e3
    refine ⟨a, C', dx, vs, rfl, ea, c, hn, by rw [pf.length]; exact hl, ?_⟩
    have hm : ∀ o u, B2.H a ≠ some (.frz o u) := fun o u z => by rw [ea] at z; cases z
    have NN := N.trans (N2.trans (Nxt.set (o := .ins C' dx (putF f y vs)) ia hm))
    exact q (B2.put a _) σ NN (R2.set ia hm ⟨dx, _, upd_same, ((pf.put (r1.nxt N2)).nxt (.set ia hm))⟩) (E.nxt NN)
  · cases g3
/-- o.f += x, ints -/
def sFldAugW (C : Addr) (o : ME) (f : Str) (x : ME) : MS := fun ρ S => (o ρ S).bind fun z => (insAt z.1 z.2).bind fun q => match q.2.2.lookup f with
  | some (.d (.int i)) => (x ρ z.2).bind fun p => (insAt z.1 p.2).bind fun q2 => match p.1 with
    | .d (.int j) => if q.2.1 = C ∧ q2.2.1 = C ∧ q2.2.2.length < 1000 then some (.nx, ρ, p.2.set q2.1 (.ins C (putW f (.d (.int (i + j))) q2.2.2))) else none
    | _ => none
  | _ => none
theorem ss_fldaug {C : Addr} {ta tv : TE} {o x : ME} {f : Str} (c : Cls K C) (hn : NoAttr K C f) (ho : SE K tb ta o) (hx : SE K tb tv x) : SS K tb (sFldAug K ta tv rAdd f) (sFldAugW C o f x) := fun A σ ρ S ou ρ' S' D R E e q => by
  obtain ⟨z, e1, g1⟩ := Option.bind_eq_some_iff.mp e
  obtain ⟨⟨n, C', fs⟩, e2, g2⟩ := Option.bind_eq_some_iff.mp g1
  dsimp only at g2
  split at g2
  · rename_i i hi
    obtain ⟨⟨p, S1⟩, e3, g3⟩ := Option.bind_eq_some_iff.mp g2
    obtain ⟨⟨n2, C2, fs2⟩, e4, g4⟩ := Option.bind_eq_some_iff.mp g3
    dsimp only at g4 e4
    split at g4
    · rename_i j
      split at g4
      · rename_i hC
        obtain ⟨h1, h2, h3⟩ := hC
        subst h1
        cases g4
        refine ho A σ ρ S z.1 z.2 _ R E e1 fun ov B N R1 r1 => ?_
        obtain ⟨a, dx, vs, rfl, hw, ia, ea, pf⟩ := insAt_run R1 r1 e2
        obtain ⟨v, hv, rv⟩ := pf.some hi
        obtain rfl := WR.int rv
        refine ⟨a, C', dx, vs, _, rfl, ea, c, hn, hv, ?_⟩
        refine hx B σ ρ z.2 _ S1 _ R1 (E.nxt N) e3 fun y B2 N2 R2 r2 => ?_
        obtain rfl := WR.int r2
        refine ⟨i, j, rfl, rfl, ?_⟩
        obtain ⟨a2, dx2, vs2, h5, _, ia2, ea2, pf2⟩ := insAt_run R2 (r1.nxt N2) e4
        cases h5
        subst h2
        refine ⟨dx2, vs2, ea2, by rw [pf2.length]; exact h3, ?_⟩
        have hm : ∀ o u, B2.H a ≠ some (.frz o u) := fun o u z => by rw [ea2] at z; cases z
        have NN := N.trans (N2.trans (Nxt.set (o := .ins C2 dx2 (putF f (.int (i + j)) vs2)) ia2 hm))
        exact q (B2.put a _) σ NN (R2.set ia2 hm ⟨dx2, _, upd_same, ((pf2.put (show WR K tb B2 (.int (i + j)) (.d (.int (i + j))) from DR.int _)).nxt (.set ia2 hm))⟩) (E.nxt NN)
      · cases g4
    · cases g4
  · cases g2
/-- o.m(..) -/
def eMeth (C : Addr) (m : Str) (f : MF) (o : ME) (a : MA) : ME := fun ρ S => (o ρ S).bind fun p => (insAt p.1 p.2).bind fun q => if q.2.1 = C ∧ q.2.2.lookup m = none then (a ρ p.2).bind fun z => f (p.1 :: z.1) z.2 else none
theorem se_meth {n : Nat} {C : Addr} {m : Str} {f : MF} {ta : TE} {t : TA} {o : ME} {a : MA} {E : XK} (h : Ar n f) (ho : SE K tb ta o) (ha : SA K tb t a) : SE K tb (tMeth C m (spD K tb n f) [] E ta t) (eMeth C m f o a) := fun A σ ρ S w S' Q R Er e q => by
  obtain ⟨p, e1, g1⟩ := Option.bind_eq_some_iff.mp e
  obtain ⟨⟨k, C', fs⟩, e2, g2⟩ := Option.bind_eq_some_iff.mp g1
  dsimp only at g2
  split at g2
  · rename_i hC
    obtain ⟨h1, h2⟩ := hC
    subst h1
    obtain ⟨z, e3, g3⟩ := Option.bind_eq_some_iff.mp g2
    refine ho A σ ρ S p.1 p.2 _ R Er e1 fun x B N R1 r1 => ?_
    obtain ⟨a', dx, vs, rfl, _, ia, ea, pf⟩ := insAt_run R1 r1 e2
    refine ⟨a', dx, vs, rfl, ea, pf.none h2, ?_⟩
    refine ha B σ ρ p.2 z.1 z.2 _ R1 (Er.nxt N) e3 fun us B2 N2 R2 r2 => ?_
    rw [List.append_nil]
    have rr : WRs K tb B2 (.ref a' :: us) (p.1 :: z.1) := .cons (r1.nxt N2) r2
    exact ⟨by rw [WRs.length rr]; exact h _ _ _ g3, B2, _, _, w, S', rfl, rr, R2, g3, q.nxt (N.trans N2)⟩
  · cases g2
/-- C(..) -/
def eMake (C : Addr) (f : MF) (a : MA) : ME := fun ρ S => (a ρ S).bind fun z => (f (.loc z.2.length :: z.1) (z.2 ++ [.ins C []])).bind fun r => match r.1 with
  | .d .none => some (.loc z.2.length, r.2)
  | _ => none
theorem se_make {n : Nat} {C : Addr} {f : MF} {t : TA} {a : MA} {E : XK} (h : Ar n f) (ha : SA K tb t a) : SE K tb (tMake C (spD K tb n f) [] E t) (eMake C f a) := fun A σ ρ S w S' Q R Er e q => by
  obtain ⟨z, e1, g1⟩ := Option.bind_eq_some_iff.mp e
  obtain ⟨⟨r, S2⟩, e2, g2⟩ := Option.bind_eq_some_iff.mp g1
  dsimp only at g2
  split at g2
  · cases g2
    refine ha A σ ρ S z.1 z.2 _ R Er e1 fun us B N R1 r1 x dx hx hdx hne => ?_
    rw [List.append_nil]
    let B1 := B.put dx (.own x)
    have hx1 : B1.H x = none := by show upd B.H dx _ x = none; rw [upd_ne (Ne.symm hne)]; exact hx
    let B2 := B1.add x (.ins C dx [])
    have N2 : Nxt tb B B2 := (Nxt.put hdx _).trans (.add hx1 _)
    have R2 : Rep K tb B2 (z.2 ++ [.ins C []]) := (R1.put hdx _).add hx1 ⟨dx, [], upd_same, .nil⟩
    have ix : B2.ι[z.2.length]? = some x := by show (B.ι ++ [x])[z.2.length]? = _; rw [← R1.len]; simp
    have rr : WRs K tb B2 (.ref x :: us) (.loc z.2.length :: z.1) := .cons ⟨x, rfl, ix⟩ (r1.nxt N2)
    refine ⟨by rw [WRs.length rr]; exact h _ _ _ e2, B2, _, _, _, _, rfl, rr, R2, e2, fun v B3 N3 R3 r3 => ⟨WR.non r3, ?_⟩⟩
    exact q (.ref x) B3 (N.trans (N2.trans N3)) R3 ⟨x, rfl, N3.ix ix⟩
  · cases g2
/-! ### dicts -/
abbrev KW := List (Key × W)
def keyW : W → Option Key
  | .d (.int i) => some (.inl i)
  | .d (.str s) => some (.inr s)
  | _ => none
theorem keyW_run {A : Wd} {v : V} {w : W} {k : Key} (r : WR K tb A v w) (h : keyW w = some k) : v = kV k := by
  unfold keyW at h
  split at h
  · cases h; exact WR.int r
  · cases h; exact WR.str r
  · cases h
def dctAt (w : W) (S : Mem) : Option (Nat × KW) := match w with
  | .loc n => match S[n]? with
    | some (.dct kvs) => some (n, kvs)
    | _ => none
  | _ => none
abbrev PK' (K : PySem.W.Frag) (tb : List Addr) (A : Wd) : List (Key × V) → KW → Prop := Paired fun p q => p.1 = q.1 ∧ WR K tb A p.2 q.2
theorem dctAt_run {A : Wd} {S : Mem} {v : V} {w : W} {n : Nat} {kvs : KW} (R : Rep K tb A S) (r : WR K tb A v w) (h : dctAt w S = some (n, kvs)) : ∃ a vs, v = .ref a ∧ w = .loc n ∧ A.ι[n]? = some a ∧ A.H a = some (.dK vs) ∧ PK' K tb A vs kvs := by
  unfold dctAt at h
  split at h
  · rename_i m
    split at h
    · rename_i e
      cases h
      obtain ⟨a, rfl, ia⟩ := r
      obtain ⟨ob, e2, q⟩ := R.get ia
      rw [e] at e2; cases e2
      obtain ⟨vs, ea, p⟩ := q
      exact ⟨a, vs, rfl, rfl, ia, ea, p⟩
    · cases h
  · cases h
def valW (kvs : KW) (k : Key) : Option W := (kvs.find? fun kv => decide (kv.1 = k)).map (·.2)
def putD (kvs : KW) (k : Key) (w : W) : KW := if (kvs.any fun kv => decide (kv.1 = k)) = true then kvs.map (fun kv => if kv.1 = k then (kv.1, w) else kv) else kvs ++ [(k, w)]
theorem PK'.nxt {A B : Wd} {vs : List (Key × V)} {kvs : KW} (x : Nxt tb A B) (p : PK' K tb A vs kvs) : PK' K tb B vs kvs := Paired.mapP p fun _ _ z => ⟨z.1, z.2.nxt x⟩
theorem PK'.val {A : Wd} {vs : List (Key × V)} {kvs : KW} (p : PK' K tb A vs kvs) (k : Key) : (∀ w, valW kvs k = some w → ∃ v, valV vs k = some v ∧ WR K tb A v w) ∧ (valW kvs k = none → valV vs k = none) := by
  induction p with
  | nil => exact ⟨(fun w h => nomatch h), fun _ => rfl⟩
  | @cons a b as bs r _ ih =>
    obtain ⟨x, v⟩ := a
    obtain ⟨y, u⟩ := b
    obtain ⟨e, r⟩ := r
    cases (show x = y from e)
    unfold valW valV at ih ⊢
    rw [List.find?_cons, List.find?_cons]
    by_cases hk : x = k
    · simp only [hk, decide_true]
      exact ⟨fun w h => by cases h; exact ⟨v, rfl, r⟩, fun h => nomatch h⟩
    · simp only [hk, decide_false]
      exact ih
theorem PK'.any {A : Wd} {vs : List (Key × V)} {kvs : KW} (p : PK' K tb A vs kvs) (k : Key) : (vs.any fun kv => decide (kv.1 = k)) = kvs.any fun kv => decide (kv.1 = k) := by
  induction p with
  | nil => rfl
  | @cons a b as bs r _ ih => rw [List.any_cons, List.any_cons, ih, r.1]
theorem PK'.put {A : Wd} {vs : List (Key × V)} {kvs : KW} (p : PK' K tb A vs kvs) {k : Key} {v : V} {w : W} (r : WR K tb A v w) : PK' K tb A (putK vs k v) (putD kvs k w) := by
  unfold putK putD
  rw [p.any k]
  split
  · induction p with
    | nil => exact .nil
    | @cons a b as bs q t ih =>
      rw [List.map_cons, List.map_cons]
      refine .cons ?_ (by
        by_cases ht : (bs.any fun kv => decide (kv.1 = k)) = true
        · exact ih ht
        · have h1 : ∀ (l : List (Key × V)) (m : KW), PK' K tb A l m → (m.any fun kv => decide (kv.1 = k)) = false → PK' K tb A (l.map fun kv => if kv.1 = k then (kv.1, v) else kv) (m.map fun kv => if kv.1 = k then (kv.1, w) else kv) := by
            intro l m z
            induction z with
            | nil => intro _; exact .nil
            | @cons a b as bs q t ih =>
              intro h
              rw [List.any_cons, Bool.or_eq_false_iff] at h
              rw [List.map_cons, List.map_cons]
              refine .cons ?_ (ih h.2)
              have hb : ¬ b.1 = k := of_decide_eq_false h.1
              rw [if_neg (by rw [q.1]; exact hb), if_neg hb]
              exact q
          exact h1 _ _ t (Bool.eq_false_iff.mpr ht))
      by_cases hk : b.1 = k
      · rw [if_pos (by rw [q.1]; exact hk), if_pos hk]; exact ⟨q.1, r⟩
      · rw [if_neg (by rw [q.1]; exact hk), if_neg hk]; exact q
  · exact Paired.snoc p ⟨rfl, r⟩
theorem PK'.length {A : Wd} {vs : List (Key × V)} {kvs : KW} (p : PK' K tb A vs kvs) : vs.length = kvs.length := Paired.length p
def eDNew : ME := fun _ S => some (.loc S.length, S ++ [.dct []])
theorem se_dnew : SE K tb tDNewK eDNew := fun A σ ρ S w S' Q R E e q => by
  cases e
  intro p hp
  refine q _ (A.add p (.dK [])) (.add hp _) (R.add hp ⟨[], upd_same, .nil⟩) ⟨p, rfl, ?_⟩
  show (A.ι ++ [p])[S.length]? = some p
  rw [← R.len]; simp
def eDGet (o i : ME) : ME := fun ρ S => (o ρ S).bind fun p => (i ρ p.2).bind fun z => (dctAt p.1 z.2).bind fun d => (keyW z.1).bind fun k => (valW d.2 k).map fun w => (w, z.2)
theorem se_dget {td ty : TE} {o i : ME} (ho : SE K tb td o) (hi : SE K tb ty i) : SE K tb (tDGet td ty) (eDGet o i) := fun A σ ρ S w S' Q R E e q => by
  obtain ⟨p, e1, g1⟩ := Option.bind_eq_some_iff.mp e
  obtain ⟨z, e2, g2⟩ := Option.bind_eq_some_iff.mp g1
  obtain ⟨⟨n, kvs⟩, e3, g3⟩ := Option.bind_eq_some_iff.mp g2
  obtain ⟨k, e4, g4⟩ := Option.bind_eq_some_iff.mp g3
  obtain ⟨u, e5, e6⟩ := Option.map_eq_some_iff.mp g4
  cases e6
  refine ho A σ ρ S p.1 p.2 _ R E e1 fun x B N R1 r1 => ?_
  refine hi B σ ρ p.2 z.1 z.2 _ R1 (E.nxt N) e2 fun y B2 N2 R2 r2 => ?_
  obtain ⟨a, vs, rfl, _, ia, ea, pk⟩ := dctAt_run R2 (r1.nxt N2) e3
  obtain rfl := keyW_run r2 e4
  obtain ⟨v, hv, rv⟩ := (pk.val k).1 _ e5
  exact ⟨a, v, rfl, by rw [← hv]; exact DGet.k ea, q v B2 (N.trans N2) R2 rv⟩
/-- k in d, k not in d -/
def eDIn (n : Bool) (i o : ME) : ME := fun ρ S => (i ρ S).bind fun z => (o ρ z.2).bind fun p => (dctAt p.1 p.2).bind fun d => (keyW z.1).bind fun k => some (.d (.bool (if n then !(valW d.2 k).isSome else (valW d.2 k).isSome)), p.2)
theorem isS {A : Wd} {vs : List (Key × V)} {kvs : KW} (pk : PK' K tb A vs kvs) (k : Key) : (valV vs k).isSome = (valW kvs k).isSome := by
  cases h : valW kvs k with
  | none => rw [(pk.val k).2 h]; rfl
  | some w => obtain ⟨v, hv, _⟩ := (pk.val k).1 w h; rw [hv]; rfl
theorem se_din {td ty : TE} {o i : ME} (hi : SE K tb ty i) (ho : SE K tb td o) : SE K tb (tDIn ty td) (eDIn false i o) := fun A σ ρ S w S' Q R E e q => by
  obtain ⟨z, e1, g1⟩ := Option.bind_eq_some_iff.mp e
  obtain ⟨p, e2, g2⟩ := Option.bind_eq_some_iff.mp g1
  obtain ⟨⟨n, kvs⟩, e3, g3⟩ := Option.bind_eq_some_iff.mp g2
  obtain ⟨k, e4, g4⟩ := Option.bind_eq_some_iff.mp g3
  cases g4
  refine hi A σ ρ S z.1 z.2 _ R E e1 fun y B N R1 r1 => ?_
  refine ho B σ ρ z.2 p.1 p.2 _ R1 (E.nxt N) e2 fun x B2 N2 R2 r2 => ?_
  obtain ⟨a, vs, rfl, _, ia, ea, pk⟩ := dctAt_run R2 r2 e3
  obtain rfl := keyW_run (r1.nxt N2) e4
  exact ⟨a, _, rfl, DGet.k ea, by rw [isS pk k]; exact q _ B2 (N.trans N2) R2 (DR.bl _)⟩
theorem se_dnin {td ty : TE} {o i : ME} (hi : SE K tb ty i) (ho : SE K tb td o) : SE K tb (tDNotIn ty td) (eDIn true i o) := fun A σ ρ S w S' Q R E e q => by
  obtain ⟨z, e1, g1⟩ := Option.bind_eq_some_iff.mp e
  obtain ⟨p, e2, g2⟩ := Option.bind_eq_some_iff.mp g1
  obtain ⟨⟨n, kvs⟩, e3, g3⟩ := Option.bind_eq_some_iff.mp g2
  obtain ⟨k, e4, g4⟩ := Option.bind_eq_some_iff.mp g3
  cases g4
  refine hi A σ ρ S z.1 z.2 _ R E e1 fun y B N R1 r1 => ?_
  refine ho B σ ρ z.2 p.1 p.2 _ R1 (E.nxt N) e2 fun x B2 N2 R2 r2 => ?_
  obtain ⟨a, vs, rfl, _, ia, ea, pk⟩ := dctAt_run R2 r2 e3
  obtain rfl := keyW_run (r1.nxt N2) e4
  exact ⟨a, _, rfl, DGet.k ea, by rw [isS pk k]; exact q _ B2 (N.trans N2) R2 (DR.bl _)⟩
def sDPutW (o i x : ME) : MS := fun ρ S => (x ρ S).bind fun v => (o ρ v.2).bind fun p => (i ρ p.2).bind fun z => (dctAt p.1 z.2).bind fun d => (keyW z.1).bind fun k => if d.2.length < sizeLine then some (.nx, ρ, z.2.set d.1 (.dct (putD d.2 k v.1))) else none
theorem ss_dput {td ty tv : TE} {o i x : ME} (ho : SE K tb td o) (hi : SE K tb ty i) (hx : SE K tb tv x) : SS K tb (sDPut td ty tv) (sDPutW o i x) := fun A σ ρ S ou ρ' S' D R E e q => by
  obtain ⟨v, e0, g1⟩ := Option.bind_eq_some_iff.mp e
  obtain ⟨p, e1, g2⟩ := Option.bind_eq_some_iff.mp g1
  obtain ⟨z, e2, g3⟩ := Option.bind_eq_some_iff.mp g2
  obtain ⟨⟨n, kvs⟩, e3, g4⟩ := Option.bind_eq_some_iff.mp g3
  obtain ⟨k, e4, g5⟩ := Option.bind_eq_some_iff.mp g4
  dsimp only at g5
  split at g5
  · rename_i hl
    cases g5
    refine hx A σ ρ S v.1 v.2 _ R E e0 fun y B0 N0 R0 r0 => ?_
    refine ho B0 σ ρ v.2 p.1 p.2 _ R0 (E.nxt N0) e1 fun d B N R1 r1 => ?_
    refine hi B σ ρ p.2 z.1 z.2 _ R1 (E.nxt (N0.trans N)) e2 fun kv B2 N2 R2 r2 => ?_
    obtain ⟨a, vs, rfl, _, ia, ea, pk⟩ := dctAt_run R2 (r1.nxt N2) e3
    obtain rfl := keyW_run r2 e4
    have hm : ∀ o u, B2.H a ≠ some (.frz o u) := fun o u z => by rw [ea] at z; cases z
    have NN := (N0.trans (N.trans N2)).trans (Nxt.set (o := .dK (putK vs k y)) ia hm)
    exact ⟨a, _, rfl, DPut.k ea (by rw [pk.length]; exact hl), q (B2.put a _) σ NN (R2.set ia hm ⟨_, upd_same, (pk.put (r0.nxt (N.trans N2))).nxt (.set ia hm)⟩) (E.nxt NN)⟩
  · cases g5
end
end Pd
namespace Pd
open PySem PySem.Spec PyProof.Rows L2 GxR Gx
section
variable {K : PySem.W.Frag} {tb : List Addr}
/-! ### an object that is made while nobody sees it -/
theorem hide {B : Wd} {D : Addr} {S : Mem} (R : Rep K tb B S) (hD : B.H D = none) (o : HO) : Nxt tb B { H := upd B.H D o, ι := B.ι, hid := D :: B.hid } ∧ Rep K tb { H := upd B.H D o, ι := B.ι, hid := D :: B.hid } S := by
  have nD := R.fresh hD
  have N1 : Nxt tb B { H := upd B.H D o, ι := B.ι, hid := D :: B.hid } :=
    ⟨fun b z => List.mem_cons_of_mem _ z, fun b z => (List.mem_cons.mp z).elim (fun z => .inr (by rw [z]; exact hD)) .inl, fun b z => upd_none z, ⟨[], by show B.ι = _; simp⟩, fun b u n t e => ⟨by show upd B.H D o b = _; rw [upd_ne (ne_of_none e hD)]; exact e, n⟩, fun b o' u _ e => by show upd B.H D o b = _; rw [upd_ne (ne_of_none e hD)]; exact e⟩
  have R2 := R.put hD o
  refine ⟨N1, R2.len, R2.nd, R2.tabs, fun b hb => ?_, fun n a ob z1 z2 => ?_⟩
  · rcases List.mem_cons.mp hb with z | z
    · subst z; exact ⟨⟨_, upd_same⟩, fun z => nD (.inl z), fun z => nD (.inr (.inl z))⟩
    · exact R2.hd b z
  · have q := R.at_ n a ob z1 z2
    obtain ⟨oo, eo, _⟩ := q.some
    exact q.nxt N1 (by show upd B.H D o a = _; rw [upd_ne (ne_of_none eo hD)])
theorem unhide {B C : Wd} {D : Addr} {S0 S : Mem} {ob : Ob} (R0 : Rep K tb B S0) (hn : B.H D = none) (N : Nxt tb B C) (hD : D ∈ C.hid) (R : Rep K tb C S) (hob : OR K tb C ob D) :
    Nxt tb B { H := C.H, ι := C.ι ++ [D], hid := B.hid } ∧ Rep K tb { H := C.H, ι := C.ι ++ [D], hid := B.hid } (S ++ [ob]) ∧ (C.ι ++ [D])[S.length]? = some D := by
  obtain ⟨_, h2, h3⟩ := R.hd D hD
  have key : ∀ (a : Addr) (u : HO), Fz tb C a u → Fz tb { H := C.H, ι := C.ι ++ [D], hid := B.hid } a u := fun a u z => ⟨fun m => z.1 (by
    rcases m with m | m | m
    · rcases List.mem_append.mp m with m | m
      · exact .inl m
      · rw [List.mem_singleton.mp m]; exact .inr (.inr hD)
    · exact .inr (.inl m)
    · exact .inr (.inr (N.hid a m))), z.2⟩
  have hι : ∀ (n : Nat) a, C.ι[n]? = some a → (C.ι ++ [D])[n]? = some a := fun n a z => by
    rw [List.getElem?_append_left (List.getElem?_eq_some_iff.mp z).1]; exact z
  refine ⟨⟨fun _ z => z, fun _ z => .inl z, N.more, ?_, fun b o n t eb => ?_, N.frz⟩, ⟨by show (C.ι ++ [D]).length = _; simp [R.len], ?_, R.tabs, fun b hb => ?_, fun n a ob' z1 z2 => ?_⟩, by rw [← R.len]; simp⟩
  · obtain ⟨m, em⟩ := N.pre
    exact ⟨m ++ [D], by show C.ι ++ [D] = _; rw [em, List.append_assoc]⟩
  · obtain ⟨q1, q2⟩ := N.keep b o n t eb
    exact ⟨q1, fun z => (List.mem_append.mp z).elim q2 fun z => ne_of_none eb hn (List.mem_singleton.mp z)⟩
  · show (C.ι ++ [D]).Nodup
    rw [List.nodup_append]
    exact ⟨R.nd, by simp, fun a ha b hb eab => h2 (by rw [List.mem_singleton.mp hb] at eab; rw [← eab]; exact ha)⟩
  · obtain ⟨k1, k2, k3⟩ := R.hd b (N.hid b hb)
    refine ⟨k1, fun z => (List.mem_append.mp z).elim k2 fun z => ?_, k3⟩
    obtain ⟨⟨o, eo⟩, _⟩ := R0.hd b hb
    rw [List.mem_singleton.mp z, hn] at eo; cases eo
  · have z1 : (C.ι ++ [D])[n]? = some a := z1
    by_cases hl : n < C.ι.length
    · rw [List.getElem?_append_left hl] at z1
      rw [List.getElem?_append_left (by rw [← R.len]; exact hl)] at z2
      exact or_key key hι rfl (R.at_ n a ob' z1 z2)
    · rw [List.getElem?_append_right (by omega)] at z1
      rw [List.getElem?_append_right (by rw [← R.len]; omega)] at z2
      have hz : n - C.ι.length = 0 := by
        cases hh : n - C.ι.length with
        | zero => rfl
        | succ k => rw [hh] at z1; simp at z1
      rw [hz] at z1
      rw [← R.len, hz] at z2
      simp at z1 z2
      subst z1 z2
      exact or_key key hι rfl hob
/-! ### {k: v, ..} -/
abbrev MPs := Env' → Mem → Option (KW × Mem)
def SPs (K : PySem.W.Frag) (tb : List Addr) (trs : List (TE × TE)) (mp : MPs) : Prop := ∀ A σ ρ S kvs S' (Q : List (V × V) → Hp → Prop), Rep K tb A S → ER K tb A σ ρ → mp ρ S = some (kvs, S') →
  (∀ vs B, Nxt tb A B → Rep K tb B S' → PK' K tb B vs kvs → Q (vs.map fun kv => (kV kv.1, kv.2)) B.H) → tPairs trs σ A.H Q
def pNil : MPs := fun _ S => some ([], S)
def pCons (k v : ME) (r : MPs) : MPs := fun ρ S => (k ρ S).bind fun p => (keyW p.1).bind fun key => (v ρ p.2).bind fun z => (r ρ z.2).bind fun t => some ((key, z.1) :: t.1, t.2)
theorem sp_nil : SPs K tb [] pNil := fun A σ ρ S kvs S' Q R E e q => by
  cases e
  exact q [] A .refl R .nil
theorem sp_cons {tk tv : TE} {trs : List (TE × TE)} {k v : ME} {r : MPs} (hk : SE K tb tk k) (hv : SE K tb tv v) (hr : SPs K tb trs r) : SPs K tb ((tk, tv) :: trs) (pCons k v r) := fun A σ ρ S kvs S' Q R E e q => by
  obtain ⟨p, e1, g1⟩ := Option.bind_eq_some_iff.mp e
  obtain ⟨key, e2, g2⟩ := Option.bind_eq_some_iff.mp g1
  obtain ⟨z, e3, g3⟩ := Option.bind_eq_some_iff.mp g2
  obtain ⟨t, e4, g4⟩ := Option.bind_eq_some_iff.mp g3
  cases g4
  refine hk A σ ρ S p.1 p.2 _ R E e1 fun x B N R1 r1 => ?_
  obtain rfl := keyW_run r1 e2
  refine hv B σ ρ p.2 z.1 z.2 _ R1 (E.nxt N) e3 fun y B2 N2 R2 r2 => ?_
  exact hr B2 σ ρ z.2 t.1 t.2 _ R2 (E.nxt (N.trans N2)) e4 fun vs B3 N3 R3 pk => q ((key, y) :: vs) B3 (N.trans (N2.trans N3)) R3 (.cons ⟨rfl, r2.nxt N3⟩ pk)
def mergeD (kvs more : KW) : KW := more.foldl (fun acc kv => putD acc kv.1 kv.2) kvs
theorem pk_merge {A : Wd} {ms : List (Key × V)} {more : KW} (p : PK' K tb A ms more) : ∀ {vs : List (Key × V)} {kvs : KW}, PK' K tb A vs kvs → PK' K tb A (mergeK vs ms) (mergeD kvs more) := by
  induction p with
  | nil => intro vs kvs q; exact q
  | @cons a b as bs r t ih =>
    intro vs kvs q
    obtain ⟨k, v⟩ := a
    obtain ⟨k', w⟩ := b
    obtain ⟨e, r⟩ := r
    cases (show k = k' from e)
    exact ih (q.put r)
def eDisp (mp : MPs) : ME := fun ρ S => (mp ρ S).bind fun r => if r.1.length ≤ 15 then some (.loc r.2.length, r.2 ++ [.dct (mergeD [] r.1)]) else none
theorem se_disp {trs : List (TE × TE)} {mp : MPs} (h : SPs K tb trs mp) : SE K tb (tDisp trs) (eDisp mp) := fun A σ ρ S w S' Q R E e q => by
  obtain ⟨r, e1, g1⟩ := Option.bind_eq_some_iff.mp e
  split at g1
  · rename_i hl
    cases g1
    intro p hp
    obtain ⟨N1, R1⟩ := hide R hp (.dK [])
    refine h _ σ ρ S r.1 r.2 _ R1 (E.nxt N1) e1 fun vs C N2 R2 pk => ?_
    have hD : p ∈ C.hid := N2.hid p List.mem_cons_self
    have eD : C.H p = some (.dK []) := N2.hidden R1 List.mem_cons_self upd_same
    refine ⟨eD, vs, rfl, by rw [pk.length]; exact hl, ?_⟩
    let C2 := C.hset p (.dK (mergeK [] vs))
    have R3 : Rep K tb C2 r.2 := R2.hset hD
    have N3 : Nxt tb A C2 := nxt_hset (N1.trans N2) hp
    have pm : PK' K tb C2 (mergeK [] vs) (mergeD [] r.1) := Paired.mapP (pk_merge pk .nil) fun _ _ z => ⟨z.1, wr_key (hset_key hD) (fun _ _ z => z) z.2⟩
    obtain ⟨N4, R4, i4⟩ := unhide (ob := .dct (mergeD [] r.1)) R hp N3 hD R3 ⟨_, upd_same, pm⟩
    exact q (.ref p) _ N4 R4 ⟨p, rfl, i4⟩
  · cases g1
/-! ### {k: v for ..} -/
def dcM (im : Itm) (g : MG) (t : MT) (k v : ME) : Nat → Nat → Env' → KW → Mem → Option (KW × Mem)
  | f, i, ρ, acc, S => match im.at_ S i with
    | none => none
    | some none => some (acc, S)
    | some (some w) => match f with
      | 0 => none
      | f + 1 => (g w ρ S).bind fun p => (t p.1 p.2).bind fun q => if q.1 = true then (k p.1 q.2).bind fun r => (keyW r.1).bind fun key => (v p.1 r.2).bind fun z => if acc.length < sizeLine then dcM im g t k v f (i + 1) ρ (putD acc key z.1) z.2 else none
        else dcM im g t k v f (i + 1) ρ acc q.2
def eDc (mi : MI) (vs : List Nat) (g : MG) (t : MT) (k v : ME) : ME := fun ρ S => (mi ρ S).bind fun p => (dcM p.1 g t k v (p.1.len p.2) 0 (wipeE ρ vs) [] p.2).bind fun q => some (.loc q.2.length, q.2 ++ [.dct q.1])
theorem se_dc {wi : TI} {mg' : TG} {tt : TT} {tk tv : TE} {vs us : List Nat} {mi : MI} {mg : MG} {mt : MT} {mk mv : ME} (hi : SI K tb wi mi) (hg : SG K tb us mg' mg) (hsub : ∀ j, j ∈ us → j ∈ vs) (ht : ST K tb tt mt) (hk : SE K tb tk mk) (hv : SE K tb tv mv) :
    SE K tb (tDc wi mg' tt tk tv vs) (eDc mi vs mg mt mk mv) := fun A σ ρ S w S' Q R E e q => by
  obtain ⟨⟨im, S1⟩, e1, g1⟩ := Option.bind_eq_some_iff.mp e
  obtain ⟨⟨zs, S2⟩, e2, g2⟩ := Option.bind_eq_some_iff.mp g1
  cases g2
  refine hi A σ ρ S im S1 _ R E e1 fun J B N R1 ok D hD => ?_
  obtain ⟨N1, RB⟩ := hide R1 hD (.dK [])
  have EB := wipeE_er (E.nxt N) vs
  refine ⟨fun i m H => ∃ C acc ws S3, C.H = H ∧ Nxt tb B C ∧ D ∈ C.hid ∧ C.H D = some (.dK acc) ∧ Rep K tb C S3 ∧ PK' K tb C acc ws ∧ dcM im mg mt mk mv m i (wipeE ρ vs) ws S3 = some (zs, S2),
    ⟨_, _, [], [], S1, rfl, N1, List.mem_cons_self, upd_same, RB, .nil, e2⟩, ?_⟩
  rintro i m _ ⟨C, acc, ws, S3, rfl, N3, hDC, eD, R3, racc, e4⟩
  unfold dcM at e4
  split at e4
  · cases e4
  · rename_i ha
    cases e4
    obtain ⟨us', hu, hz'⟩ := Itm.at_now ha
    obtain ⟨N4, R4, i4⟩ := unhide (ob := .dct zs) R1 hD N3 hDC R3 ⟨_, eD, racc⟩
    exact .inl ⟨(ok C _ us' N3.w R3 hu).2 i (List.getElem?_eq_none_iff.mp hz'.symm), q (.ref D) { H := C.H, ι := C.ι ++ [D], hid := B.hid } (N.trans N4) R4 ⟨D, rfl, i4⟩⟩
  · rename_i w1 ha
    obtain ⟨us', hu, hz'⟩ := Itm.at_now ha
    obtain ⟨go, yl⟩ := (ok C S3 us' N3.w R3 hu).1 i w1 hz'.symm
    cases m with
    | zero => cases e4
    | succ m =>
      obtain ⟨⟨ρ5, S5⟩, e5, e4⟩ := Option.bind_eq_some_iff.mp e4
      obtain ⟨⟨k6, S6⟩, e6, e4⟩ := Option.bind_eq_some_iff.mp e4
      refine .inr ⟨go, fun H' => ∃ C acc ws S3, C.H = H' ∧ Nxt tb B C ∧ D ∈ C.hid ∧ C.H D = some (.dK acc) ∧ Rep K tb C S3 ∧ PK' K tb C acc ws ∧ dcM im mg mt mk mv m (i + 1) (wipeE ρ vs) ws S3 = some (zs, S2), fun H' h => ⟨m, Nat.lt_succ_self m, h⟩, fun x H2 y => ?_⟩
      obtain ⟨C2, rfl, N4, R4, r4⟩ := yl x H2 y
      have EC : ER K tb C2 (wipe σ vs) (wipeE ρ vs) := EB.nxt (N3.trans N4)
      refine hg C2 x w1 _ _ S3 ρ5 S5 _ R4 EC r4 e5 fun C3 σ3 N5 R5 E5 hl5 hj5 => ⟨wipe_wipe hl5 fun j hj => hj5 j fun z => hj (hsub j z), ?_⟩
      refine ht C3 σ3 ρ5 S5 k6 S6 _ R5 E5 e6 fun C4 N6 R6 => ?_
      have NC := N4.trans (N5.trans N6)
      cases k6 with
      | false =>
        simp only [Bool.false_eq_true, if_false] at e4 ⊢
        exact ⟨C4, acc, ws, S6, rfl, N3.trans NC, NC.hid D hDC, NC.hidden R3 hDC eD, R6, racc.nxt NC, e4⟩
      | true =>
        simp only [if_true] at e4 ⊢
        obtain ⟨⟨r7, S7⟩, e7, e4⟩ := Option.bind_eq_some_iff.mp e4
        obtain ⟨key, e8, e4⟩ := Option.bind_eq_some_iff.mp e4
        obtain ⟨⟨r9, S9⟩, e9, e4⟩ := Option.bind_eq_some_iff.mp e4
        dsimp only at e4 e8 e9
        split at e4
        · rename_i hsz
          refine hk C4 σ3 ρ5 S6 r7 S7 _ R6 (E5.nxt N6) e7 fun ky C5 N7 R7 rk => ?_
          obtain rfl := keyW_run rk e8
          refine hv C5 σ3 ρ5 S7 r9 S9 _ R7 (E5.nxt (N6.trans N7)) e9 fun z C6 N8 R8 rz => ?_
          have NC2 := NC.trans (N7.trans N8)
          have eD6 := NC2.hidden R3 hDC eD
          have hD6 := NC2.hid D hDC
          have pk6 := racc.nxt NC2
          refine ⟨acc, key, rfl, eD6, by rw [racc.length]; exact hsz, C6.hset D _, _, _, S9, rfl, nxt_hset (N3.trans NC2) hD, hD6, upd_same, R8.hset hD6, ?_, e4⟩
          exact Paired.mapP (pk6.put rz) fun _ _ z => ⟨z.1, wr_key (hset_key hD6) (fun _ _ z => z) z.2⟩
        · cases e4
/-! ### reversed -/
def iRevM (e : ME) : MI := fun ρ S => (e ρ S).bind fun p => match p.1 with
  | .d (.list ds) => some (.vals (ds.reverse.map .d), p.2)
  | .d (.tuple ds) => some (.vals (ds.reverse.map .d), p.2)
  | .loc n => match p.2[n]? with
    | some (.lst ws) => some (.rev n ws.length, p.2)
    | _ => none
  | _ => none
theorem rev_at {α : Type} {xs : List α} {i : Nat} : xs.reverse[i]? = if i < xs.length then xs[xs.length - 1 - i]? else none := by
  by_cases h : i < xs.length
  · rw [if_pos h, List.getElem?_reverse h]
  · rw [if_neg h, List.getElem?_eq_none_iff.mpr (by simp; omega)]
theorem WRs.get2 {A : Wd} {vs : List V} {ws : List W} {i : Nat} {v : V} (r : WRs K tb A vs ws) (e : vs[i]? = some v) : ∃ w, ws[i]? = some w ∧ WR K tb A v w := by
  have hl := WRs.length r
  have hi : i < ws.length := by rw [← hl]; exact (List.getElem?_eq_some_iff.mp e).1
  obtain ⟨v', e2, r2⟩ := WRs.get' r (List.getElem?_eq_getElem hi)
  rw [e] at e2; cases e2
  exact ⟨_, List.getElem?_eq_getElem hi, r2⟩
theorem si_rev {te : TE} {e : ME} (he : SE K tb te e) : SI K tb (RT.iRevA K te) (iRevM e) := fun A σ ρ S im S' R' R E h q => by
  obtain ⟨⟨w, S1⟩, e1, g1⟩ := Option.bind_eq_some_iff.mp h
  refine he A σ ρ S w S1 _ R E e1 fun v B N R1 r => ?_
  dsimp only at g1
  split at g1
  · cases g1
    obtain ⟨a, xs, rfl, f, rd⟩ := r.lst
    refine ⟨a, xs, rfl, .inl ⟨f.sq, q _ B N R1 fun C S2 ws NC RC e => ?_⟩⟩
    cases e
    have f' : SqL K C.H a xs := (f.nxw NC).sq
    have hl := rd.length
    refine ⟨fun i w hw => ?_, fun i hi => by simp at hi; show xs.length ≤ i; omega⟩
    rw [List.getElem?_map, rev_at] at hw
    split at hw
    · rename_i hi
      obtain ⟨d, e2, rfl⟩ := Option.map_eq_some_iff.mp hw
      obtain ⟨x, e3, r3⟩ := rd.get' e2
      rw [← hl] at e3
      refine ⟨⟨by omega, xs, x, f', e3⟩, fun y H2 ⟨eH, z⟩ => ?_⟩
      have := z xs f'
      rw [e3] at this; cases this
      subst eH
      exact ⟨C, rfl, .refl, RC, DR.nxw NC d r3⟩
    · cases hw
  · cases g1
    obtain ⟨a, xs, rfl, f, rd⟩ := r.tup
    refine ⟨a, xs, rfl, .inr ⟨f.sq, q _ B N R1 fun C S2 ws NC RC e => ?_⟩⟩
    cases e
    have f' := (f.nxw NC).sq
    have hl := rd.length
    refine ⟨fun i w hw => ?_, fun i hi => by simp at hi; show xs.length ≤ i; omega⟩
    rw [List.getElem?_map, rev_at] at hw
    split at hw
    · rename_i hi
      obtain ⟨d, e2, rfl⟩ := Option.map_eq_some_iff.mp hw
      obtain ⟨x, e3, r3⟩ := rd.get' e2
      rw [← hl] at e3
      refine ⟨⟨by omega, xs, x, f', e3⟩, fun y H2 ⟨eH, z⟩ => ?_⟩
      have := z xs f'
      rw [e3] at this; cases this
      subst eH
      exact ⟨C, rfl, .refl, RC, DR.nxw NC d r3⟩
    · cases hw
  · rename_i n
    split at g1
    · rename_i us0 eS
      cases g1
      obtain ⟨a, rfl, ia⟩ := r
      obtain ⟨ob, eo, oR⟩ := R1.get ia
      rw [eS] at eo; cases eo
      obtain ⟨vs, ea, rv⟩ := oR
      refine ⟨a, vs, rfl, .inl ⟨.inl (.inl ea), q _ B N R1 fun C S2 ws NC RC e => ?_⟩⟩
      obtain ⟨us, e5, hl5, rfl⟩ := e
      obtain ⟨ob2, eo2, oR2⟩ := RC.get (NC.ix ia)
      rw [e5] at eo2; cases eo2
      obtain ⟨vs2, ea2, rv2⟩ := oR2
      have l1 := WRs.length rv
      have l2 := WRs.length rv2
      have sq2 : SqL K C.H a vs2 := .inl (.inl ea2)
      refine ⟨fun i w hw => ?_, fun i hi => by simp at hi; show vs.length ≤ i; omega⟩
      rw [rev_at] at hw
      split at hw
      · rename_i hi
        have hx : us.length - 1 - i < vs2.length := by omega
        have e3 := List.getElem?_eq_getElem hx
        obtain ⟨w', e6, r6⟩ := WRs.get2 rv2 e3
        rw [hw] at e6; cases e6
        have e7 : vs2[vs.length - 1 - i]? = some vs2[us.length - 1 - i] := by rw [show vs.length - 1 - i = us.length - 1 - i by omega]; exact e3
        refine ⟨⟨by omega, vs2, _, sq2, e7⟩, fun y H2 ⟨eH, z⟩ => ?_⟩
        have := z vs2 sq2
        rw [e7] at this; cases this
        subst eH
        exact ⟨C, rfl, .refl, RC, r6⟩
      · cases hw
    · cases g1
  · cases g1
/-! ### keywords -/
def eCallKw (f : MF) (pm : List W → List W → List W) (a k : MA) : ME := fun ρ S => (a ρ S).bind fun p => (k ρ p.2).bind fun z => f (pm p.1 z.1) z.2
theorem se_callkw {n : Nat} {f : MF} {t tk : TA} {a k : MA} {E : XK} {gV : List V → List V → List V} {pm : List W → List W → List W} (h : Ar n f) (hp : ∀ (A : Wd) vs us zs ws, WRs K tb A vs us → WRs K tb A zs ws → WRs K tb A (gV vs zs) (pm us ws)) (ha : SA K tb t a) (hk : SA K tb tk k) :
    SE K tb (tCallK (spD K tb n f) gV E t tk) (eCallKw f pm a k) := fun A σ ρ S w S' Q R Er e q => by
  obtain ⟨p, e1, g1⟩ := Option.bind_eq_some_iff.mp e
  obtain ⟨z, e2, g2⟩ := Option.bind_eq_some_iff.mp g1
  refine ha A σ ρ S p.1 p.2 _ R Er e1 fun vs B N R1 r1 => ?_
  refine hk B σ ρ p.2 z.1 z.2 _ R1 (Er.nxt N) e2 fun zs B2 N2 R2 r2 => ?_
  have rr := hp B2 _ _ _ _ (r1.nxt N2) r2
  exact ⟨by rw [WRs.length rr]; exact h _ _ _ g2, B2, _, _, w, S', rfl, rr, R2, g2, q.nxt (N.trans N2)⟩
theorem wrs_app {A : Wd} {vs zs : List V} {us ws : List W} (h : WRs K tb A vs us) (g : WRs K tb A zs ws) : WRs K tb A (vs ++ zs) (us ++ ws) := by
  induction h with
  | nil => exact g
  | cons a _ ih => exact .cons a ih
/-! ### isinstance(x, int), isinstance(x, bool) -/
def isK : W → Bool → Option Bool
  | .d (.int _), false => some true
  | .d (.int _), true => some false
  | .d (.bool _), false => some true
  | .d (.bool _), true => some true
  | .d (.str _), _ => some false
  | _, _ => none
def tyN : Bool → String
  | false => "int"
  | true => "bool"
/-- T: false for int, true for bool -/
def eIs (T : Bool) (o : ME) : ME := fun ρ S => (o ρ S).bind fun p => (isK p.1 T).map fun b => (.d (.bool b), p.2)
theorem kit1 : kitB "int" "int" = some true := by decide +kernel
theorem kit2 : kitB "int" "bool" = some false := by decide +kernel
theorem kit3 : kitB "bool" "int" = some true := by decide +kernel
theorem kit4 : kitB "bool" "bool" = some true := by decide +kernel
theorem kit5 : kitB "str" "int" = some false := by decide +kernel
theorem kit6 : kitB "str" "bool" = some false := by decide +kernel
theorem isK_run {A : Wd} {v : V} {w : W} {T b : Bool} (r : WR K tb A v w) (h : isK w T = some b) : ∃ t, TyX K A.H v t ∧ PySem.W.kitOne K t (.type (tyN T)) = some b := by
  unfold isK at h
  split at h
  · cases h; obtain rfl := WR.int r; exact ⟨_, .base (.int _), kit_ty kit1⟩
  · cases h; obtain rfl := WR.int r; exact ⟨_, .base (.int _), kit_ty kit2⟩
  · cases h; obtain rfl := WR.bl r; exact ⟨_, .base (.bl _), kit_ty kit3⟩
  · cases h; obtain rfl := WR.bl r; exact ⟨_, .base (.bl _), kit_ty kit4⟩
  · cases h
    obtain rfl := WR.str r
    cases T
    · exact ⟨_, .base (.str _), kit_ty kit5⟩
    · exact ⟨_, .base (.str _), kit_ty kit6⟩
  · cases h
theorem se_is {T : Bool} {te : TE} {o : ME} (ho : SE K tb te o) : SE K tb (tCB (rIsi K) (tCons te (tCons (tC (.ty (tyN T))) tNil))) (eIs T o) := fun A σ ρ S w S' Q R E e q => by
  obtain ⟨p, e1, g1⟩ := Option.bind_eq_some_iff.mp e
  obtain ⟨b, e2, e3⟩ := Option.map_eq_some_iff.mp g1
  cases e3
  refine ho A σ ρ S p.1 p.2 _ R E e1 fun x B N R1 r1 => ?_
  obtain ⟨t, ht, hk⟩ := isK_run r1 e2
  exact ⟨x, _, t, _, b, rfl, .ty _, ht, hk, q _ B N R1 (DR.bl b)⟩
end
end Pd
namespace Pd
open PySem PySem.Spec PyProof.Rows L2 GxR Gx
section
variable {X : Cx} {K : PySem.W.Frag}
theorem pe_fldK {e : Expr} {f : Str} {pos : Pos} {ta : TE} (hK : X.K = K) (he : PE X e ta) (hb : attributeBase e f X.env (eval e X.env) = eval e X.env) : PE X (.Attribute e f pos) (tFld K ta f) := by subst hK; exact pe_fld he hb
theorem ps_fldK {o value : Expr} {f : Str} {pos pos' : Pos} {ta tv : TE} (hK : X.K = K) (ha : PE X o ta) (hv : PE X value tv) (hs : swapsWith value (some (.Attribute o f pos')) pos.line X.env = pure false) : PS X (.Assign [.Attribute o f pos'] value pos) (sFld K ta tv f) := by subst hK; exact ps_fld ha hv hs
theorem ps_fldaugK {o value : Expr} {f : Str} {pos tpos : Pos} {ta tv : TE} (hK : X.K = K) (ha : PE X o ta) (hv : PE X value tv) : PS X (.AugAssign (.Attribute o f tpos) .Add value pos) (sFldAug K ta tv rAdd f) := by subst hK; exact ps_fldaug ha hv in_add
theorem pi_revK {tg e : Expr} {te : TE} {p pos : Pos} (hK : X.K = K) (hg : Gl X "reversed") (hm : X.mg "reversed" = none) (he : PE X e te) (hs : starEach [e] X.env = (false, eval e X.env) :: starEach [] X.env := by rfl) : PI X tg (.Call (.Name "reversed" p) [e] [] pos) (RT.iRevA K te) := by
  subst hK; exact RT.pi_revA hg hm he hs
theorem cr_isiK (hK : X.K = K) : CallR X (.builtin "isinstance") (rIsi K) := by subst hK; exact call_isi
/-- == of two dicts whose values are data -/
def EqDa (K : PySem.W.Frag) (H : Hp) (x y : V) : Prop := ∃ d, Dp K H x d ∧ Dp K H y d ∧ d.canLay0 = true ∧ d.depth ≤ 30
abbrev rEqDct (K : PySem.W.Frag) : R2 := fun x y H Q => EqR K H (EqDa K H) x y ∧ Q (.bl true) H
theorem op_eqDct (hK : X.K = K) (hu : X.A.units + 64 < cLine) : OpR X (compareOp .Eq) (rEqDct K) := by
  subst hK
  rintro pins s σ H x y v u Q I rx ry ⟨h, q⟩
  refine eqR_run I (A := X.A) (Nat.lt_of_le_of_lt (Nat.le_add_right _ _) hu) (fun a b v' u' ⟨d, hx, hy, hl, hd⟩ ra rb E Q' q' => ?_) h rx ry _ _ ⟨.bl true, H, I, rfl, q⟩
  obtain ⟨as, r1⟩ := Dp.reads I d a v' hx ra
  obtain ⟨bs, r2⟩ := Dp.reads I d b u' hy rb
  refine SeqAt.eqBoolOverData X.prog X.w X.A.in1 E s v' u' d d as bs Q' r1 r2 hl hl ?_ (by rw [SeqAt.eqv_refl d hl]; exact q')
  show X.A.units + 1 + min d.depth d.depth < cLine
  rw [Nat.min_self]
  omega
end
section
variable {K : PySem.W.Frag} {tb : List Addr}
def SameD (ks ls : KW) : Prop := ks.length = ls.length ∧ ∀ p ∈ ks, ∃ x, p.2 = .d x ∧ valW ls p.1 = some (.d x) ∧ x.canLay0 = true ∧ x.depth ≤ 30
open Classical in
noncomputable def oEqDct : F2 := fun a b S => (dctAt a S).bind fun p => (dctAt b S).bind fun q => if SameD p.2 q.2 then some (.d (.bool true), S) else none
theorem sr_eqDct : SR K tb (rEqDct K) oEqDct := fun A x y a b S w S' Q R ra rb e q => by
  obtain ⟨⟨n, ks⟩, e1, g1⟩ := Option.bind_eq_some_iff.mp e
  obtain ⟨⟨m, ls⟩, e2, g2⟩ := Option.bind_eq_some_iff.mp g1
  dsimp only at g2
  split at g2
  · rename_i hs
    cases g2
    obtain ⟨a1, vs, rfl, _, ia, ea, pk⟩ := dctAt_run R ra e1
    obtain ⟨b1, us, rfl, _, ib, eb, pl⟩ := dctAt_run R rb e2
    obtain ⟨hl, hs⟩ := hs
    refine ⟨.inr ⟨a1, b1, vs, us, rfl, rfl, ea, eb, by rw [pk.length, pl.length]; exact hl, fun p hp => ?_⟩, q _ A .refl R (DR.bl true)⟩
    have mem : ∀ {l : List (Key × V)} {m : KW}, PK' K tb A l m → ∀ p ∈ l, ∃ p' ∈ m, p.1 = p'.1 ∧ WR K tb A p.2 p'.2 := by
      intro l m z
      induction z with
      | nil => intro p hp; cases hp
      | cons h _ ih =>
        intro p hp
        rcases List.mem_cons.mp hp with rfl | hp
        · exact ⟨_, List.mem_cons_self, h⟩
        · obtain ⟨p', hm, r⟩ := ih p hp
          exact ⟨p', List.mem_cons_of_mem _ hm, r⟩
    obtain ⟨p', hm, h1, h2⟩ := mem pk p hp
    obtain ⟨d, hd, hv, hc, hdp⟩ := hs p' hm
    obtain ⟨v, hv2, rv⟩ := (pl.val p'.1).1 _ hv
    rw [hd] at h2
    exact ⟨v, by rw [h1]; exact hv2, d, DR.dp d h2 hc, DR.dp d rv hc, hc, hdp⟩
  · cases g2
theorem pss_none {X : Cx} {body : List Stmt} : PSs X body tNever := ⟨fun _ _ _ _ _ _ h => h.elim⟩
end
/-- one argument by place, two by name -/
def g12 {α : Type} : List α → List α → List α
  | [u], [v, w] => [u, v, w]
  | _, _ => []
theorem g12_len {α : Type} {us ws : List α} (h : (g12 us ws).length = 3) : ∃ u v w, us = [u] ∧ ws = [v, w] := by
  unfold g12 at h
  split at h
  · exact ⟨_, _, _, rfl, rfl⟩
  · cases h
theorem g12_rel {α β : Type} {R : α → β → Prop} {vs zs : List α} {us ws : List β} (h : Paired R vs us) (g : Paired R zs ws) : Paired R (g12 vs zs) (g12 us ws) := by
  cases h with
  | nil => exact .nil
  | cons a t =>
    cases t with
    | cons _ _ => exact .nil
    | nil =>
      cases g with
      | nil => exact .nil
      | cons b t =>
        cases t with
        | nil => exact .nil
        | cons c t =>
          cases t with
          | nil => exact .cons a (.cons b (.cons c .nil))
          | cons _ _ => exact .nil
/-- a method of the text -/
structure DfM (K : PySem.W.Frag) (C : Addr) (x qual : Str) (st : Stmt) (ps : List Str) where
  f : Addr
  fd : FuncData
  c : Addr
  F : FunC K x qual st f fd c
  m : Meth K C x f
  b : Binds K fd ps []
/-- a def with parameters that are named in every call -/
structure DfK (K : PySem.W.Frag) (mg : Str → Option Value) (x : Str) (st : Stmt) (ps ks : List Str) where
  f : Addr
  fd : FuncData
  c : Addr
  F : FunC K x x st f fd c
  g : mg x = some (.ref f)
  b : KBinds K fd ps ks g12 g12
end Pd
/-! insert; a dict of the module that stays -/
namespace Pd
open PySem PySem.Spec PyProof.Rows L2 GxR Gx
section
variable {K : PySem.W.Frag} {tb : List Addr}
abbrev rInsert : V → List V → Hp → VK → Prop := fun x vs H Q => ∃ (l : Addr) (xs : List V) (i : Int) (y : V), x = .ref l ∧ vs = [.int i, y] ∧ H l = some (.lst xs) ∧ xs.length < sizeLine ∧ 0 ≤ i ∧ i < 2 ^ 63 ∧
  Q .non (upd H l (.lst (xs.take i.toNat ++ [y] ++ xs.drop i.toNat)))
def mInsert : MM := fun a ws S => match ws with
  | [.d (.int i), w] => (lstAt a S).bind fun p => if decide (p.2.length < sizeLine ∧ 0 ≤ i ∧ i < 2 ^ 63) = true then some (.d .none, S.set p.1 (.lst (p.2.take i.toNat ++ [w] ++ p.2.drop i.toNat))) else none
  | _ => none
theorem wrs_take {A : Wd} {vs : List V} {ws : List W} (r : WRs K tb A vs ws) : ∀ n, WRs K tb A (vs.take n) (ws.take n) ∧ WRs K tb A (vs.drop n) (ws.drop n) := by
  induction r with
  | nil => intro n; simp only [List.take_nil, List.drop_nil]; exact ⟨.nil, .nil⟩
  | cons a b ih =>
    intro n
    cases n with
    | zero => exact ⟨.nil, .cons a b⟩
    | succ n => exact ⟨.cons a (ih n).1, (ih n).2⟩
theorem sm_insert : SM K tb rInsert mInsert := fun A x vs a ws S w S' Q R ra rs e q => by
  unfold mInsert at e
  split at e
  · rename_i i w1
    obtain ⟨⟨n, us⟩, e1, e⟩ := Option.bind_eq_some_iff.mp e
    dsimp only at e
    split at e
    · rename_i hc
      obtain ⟨hl, h0, h1⟩ := of_decide_eq_true hc
      cases e
      obtain ⟨rfl, _, p, xs, rfl, ia, ep, rx⟩ := lstAt_run R ra e1
      cases rs with
      | cons r1 t =>
        cases t with
        | cons r2 t =>
          cases t
          obtain rfl := WR.int r1
          obtain ⟨k1, k2⟩ := wrs_take rx i.toNat
          exact ⟨p, xs, i, _, rfl, rfl, ep, by rw [WRs.length rx]; exact hl, h0, h1, lset_run (v := .non) (w := .d .none) R ia ep (wrs_app (wrs_app k1 (.cons r2 .nil)) k2) DR.non q⟩
    · cases e
  · cases e
/-- c[k], c a dict of the module with text keys -/
def eIxC (tbl : List (Str × PyData)) (i : ME) : ME := fun ρ S => (i ρ S).bind fun p => match p.1 with
  | .d (.str z) => (tbl.lookup z).map fun d => (.d d, p.2)
  | _ => none
theorem se_ixC {w : World} {a : Addr} {tbl : List (Str × PyData)} {ti : TE} {i : ME} (h : ∀ z d, tbl.lookup z = some d → ∃ v, KDct K w a z v ∧ ∀ A, DR K tb A v d) (hi : SE K tb ti i) : SE K tb (tOp (rIxD K w) (tC (.ref a)) ti) (eIxC tbl i) := fun A σ ρ S wv S' Q R E e q => by
  obtain ⟨⟨x, S1⟩, e1, g1⟩ := Option.bind_eq_some_iff.mp e
  dsimp only at g1
  split at g1
  · rename_i z
    obtain ⟨d, e2, e3⟩ := Option.map_eq_some_iff.mp g1
    cases e3
    refine hi A σ ρ S _ _ _ R E e1 fun y B N R1 r1 => ?_
    obtain rfl := WR.str r1
    obtain ⟨v, hk, hd⟩ := h z d e2
    exact ⟨a, z, v, rfl, rfl, hk, q v B N R1 (hd B)⟩
  · cases g1
end
/-! isinstance(x, tuple) -/
def isT : W → Option Bool
  | .d (.tuple _) => some true
  | .d (.int _) => some false
  | .d (.bool _) => some false
  | .d (.str _) => some false
  | .d .none => some false
  | _ => none
theorem kitT1 : kitB "tuple" "tuple" = some true := by decide +kernel
theorem kitT2 : kitB "int" "tuple" = some false := by decide +kernel
theorem kitT3 : kitB "bool" "tuple" = some false := by decide +kernel
theorem kitT4 : kitB "str" "tuple" = some false := by decide +kernel
theorem kitT5 : kitB "NoneType" "tuple" = some false := by decide +kernel
theorem isT_run {K : PySem.W.Frag} {tb : List Addr} {A : Wd} {v : V} {w : W} {b : Bool} (r : WR K tb A v w) (h : isT w = some b) : ∃ t, TyX K A.H v t ∧ PySem.W.kitOne K t (.type "tuple") = some b := by
  unfold isT at h
  split at h
  · cases h
    obtain ⟨a, xs, rfl, f, _⟩ := WR.tup r
    rcases f.sq with (e | ⟨o, e⟩) | ⟨o, its, n, hl, hc, _⟩
    · exact ⟨_, .base (.tup e), kit_ty kitT1⟩
    · exact ⟨_, .fTuple e, kit_ty kitT1⟩
    · exact ⟨_, .kTuple hl hc, kit_ty kitT1⟩
  · cases h; obtain rfl := WR.int r; exact ⟨_, .base (.int _), kit_ty kitT2⟩
  · cases h; obtain rfl := WR.bl r; exact ⟨_, .base (.bl _), kit_ty kitT3⟩
  · cases h; obtain rfl := WR.str r; exact ⟨_, .base (.str _), kit_ty kitT4⟩
  · cases h; obtain rfl := WR.non r; exact ⟨_, .base .non, kit_ty kitT5⟩
  · cases h
def eIsT (o : ME) : ME := fun ρ S => (o ρ S).bind fun p => (isT p.1).map fun b => (.d (.bool b), p.2)
theorem se_isT {K : PySem.W.Frag} {tb : List Addr} {te : TE} {o : ME} (ho : SE K tb te o) : SE K tb (tCB (rIsi K) (tCons te (tCons (tC (.ty "tuple")) tNil))) (eIsT o) := fun A σ ρ S w S' Q R E e q => by
  obtain ⟨p, e1, g1⟩ := Option.bind_eq_some_iff.mp e
  obtain ⟨b, e2, e3⟩ := Option.map_eq_some_iff.mp g1
  cases e3
  refine ho A σ ρ S p.1 p.2 _ R E e1 fun x B N R1 r1 => ?_
  obtain ⟨t, ht, hk⟩ := isT_run r1 e2
  exact ⟨x, _, t, _, b, rfl, .ty _, ht, hk, q _ B N R1 (DR.bl b)⟩
/-! isinstance(x, str), isinstance(x, list) -/
def isSt : W → Option Bool
  | .d (.str _) => some true
  | .d (.int _) => some false
  | .d (.bool _) => some false
  | .d (.tuple _) => some false
  | _ => none
theorem kitS1 : kitB "str" "str" = some true := by decide +kernel
theorem kitS2 : kitB "int" "str" = some false := by decide +kernel
theorem kitS3 : kitB "bool" "str" = some false := by decide +kernel
theorem kitS4 : kitB "tuple" "str" = some false := by decide +kernel
theorem kitL1 : kitB "list" "list" = some true := by decide +kernel
theorem isSt_run {K : PySem.W.Frag} {tb : List Addr} {A : Wd} {v : V} {w : W} {b : Bool} (r : WR K tb A v w) (h : isSt w = some b) : ∃ t, TyX K A.H v t ∧ PySem.W.kitOne K t (.type "str") = some b := by
  unfold isSt at h
  split at h
  · cases h; obtain rfl := WR.str r; exact ⟨_, .base (.str _), kit_ty kitS1⟩
  · cases h; obtain rfl := WR.int r; exact ⟨_, .base (.int _), kit_ty kitS2⟩
  · cases h; obtain rfl := WR.bl r; exact ⟨_, .base (.bl _), kit_ty kitS3⟩
  · cases h
    obtain ⟨a, xs, rfl, f, _⟩ := WR.tup r
    rcases f.sq with (e | ⟨o, e⟩) | ⟨o, its, n, hl, hc, _⟩
    · exact ⟨_, .base (.tup e), kit_ty kitS4⟩
    · exact ⟨_, .fTuple e, kit_ty kitS4⟩
    · exact ⟨_, .kTuple hl hc, kit_ty kitS4⟩
  · cases h
def eIsS (o : ME) : ME := fun ρ S => (o ρ S).bind fun p => (isSt p.1).map fun b => (.d (.bool b), p.2)
theorem se_isS {K : PySem.W.Frag} {tb : List Addr} {te : TE} {o : ME} (ho : SE K tb te o) : SE K tb (tCB (rIsi K) (tCons te (tCons (tC (.ty "str")) tNil))) (eIsS o) := fun A σ ρ S w S' Q R E e q => by
  obtain ⟨p, e1, g1⟩ := Option.bind_eq_some_iff.mp e
  obtain ⟨b, e2, e3⟩ := Option.map_eq_some_iff.mp g1
  cases e3
  refine ho A σ ρ S p.1 p.2 _ R E e1 fun x B N R1 r1 => ?_
  obtain ⟨t, ht, hk⟩ := isSt_run r1 e2
  exact ⟨x, _, t, _, b, rfl, .ty _, ht, hk, q _ B N R1 (DR.bl b)⟩
/-- of a list that may be changed -/
def eIsL (o : ME) : ME := fun ρ S => (o ρ S).bind fun p => (lstAt p.1 p.2).map fun _ => (.d (.bool true), p.2)
theorem se_isL {K : PySem.W.Frag} {tb : List Addr} {te : TE} {o : ME} (ho : SE K tb te o) : SE K tb (tCB (rIsi K) (tCons te (tCons (tC (.ty "list")) tNil))) (eIsL o) := fun A σ ρ S w S' Q R E e q => by
  obtain ⟨p, e1, g1⟩ := Option.bind_eq_some_iff.mp e
  obtain ⟨l, e2, e3⟩ := Option.map_eq_some_iff.mp g1
  cases e3
  refine ho A σ ρ S p.1 p.2 _ R E e1 fun x B N R1 r1 => ?_
  obtain ⟨n, us⟩ := l
  obtain ⟨_, _, a, xs, rfl, _, ea, _⟩ := lstAt_run R1 r1 e2
  exact ⟨_, _, _, _, true, rfl, .ty _, .base (.lst ea), kit_ty kitL1, q _ B N R1 (DR.bl true)⟩
def oPow : F2 := oI fun i j => if decide (0 ≤ j ∧ j ≤ 1000000 ∧ i.natAbs < 2 ^ 64) = true then some (.int (i ^ j.toNat)) else none
theorem sr_pow {K : PySem.W.Frag} {tb : List Addr} : SR K tb (rI CPow fun i j => .int (i ^ j.toNat)) oPow := sr_rI (fun i j h => show 0 ≤ j ∧ j ≤ 1000000 ∧ i.natAbs < 2 ^ 64 from of_decide_eq_true h) fun _ _ _ => .int _
theorem ix_kdictK {X : Cx} {K : PySem.W.Frag} {w : World} (hK : X.K = K) (hw : X.w = w) : IxR X (rIxD K w) := by subst hK; subst hw; exact ix_kdict
end Pd
/-! list(reversed(xs)) -/
namespace Lv
open PySem PySem.Spec PyProof.Rows RT
section
variable {prog : Program} {w : World} {A : Around} {E : Value → Shared → Prop} {s : Shared}
theorem made_from_rev {it l : Addr} {items : Array Value} {Q : Value → Shared → Prop} (hd : A.handled = none) (ri : s.heap.IsRevIter it l ((items.size : Int) - 1)) (li : s.heap.IsList l items) (ne : l ≠ it) (sz : items.size ≤ sizeLine)
    (fin : ∀ (h' : Heap) (tk : Nat) (acc : Array Value) (c' : Nat), (∀ b o, b ≠ it → s.heap.get? b = some o → h'.get? b = some o) → h'.get? s.heap.objs.size = some { cls := .type "list", dict := none, data := .seq acc c', slots := #[] } →
      ItemsOf (fun i v => items[items.size - 1 - i]? = some v) acc items.size → Q (.ref s.heap.objs.size) { s with heap := h', toks := tk }) : wpAny (model prog w) A (call (.type "list") [.ref it]) Q E s := by
  have walk := (Walks.listRev (prog := prog) (w := w) (A := A.in1.in1) hd it l ne items).toS
  obtain ⟨o1, at1, _⟩ := id ri
  obtain ⟨o2, at2, _⟩ := id li
  have d1 : s.heap.objs.size ≠ it := (Nat.ne_of_lt (Heap.lt_size at1)).symm
  have d2 : s.heap.objs.size ≠ l := (Nat.ne_of_lt (Heap.lt_size at2)).symm
  have away : s.heap.objs.size ∉ [it, l] := fun m => by
    rcases List.mem_cons.mp m with m | m
    · exact d1 m
    · exact d2 (List.mem_singleton.mp m)
  refine callType_codes (Q₁ := fun obj t => obj = .ref s.heap.objs.size ∧ t = { s with heap := s.heap.push { cls := .type "list", data := .seq #[] } }) F.called_list (F.typeCall_list_1 _) F.entry_list_init (code_list_new _ ⟨rfl, rfl⟩) fun obj t ht => ?_
  obtain ⟨rfl, rfl⟩ := ht
  have new0 : (s.heap.push { cls := .type "list", data := .seq #[] }).get? s.heap.objs.size = some { cls := .type "list", data := .seq #[] } := Heap.get?_push_size _ rfl
  refine ⟨⟨_, new0, rfl⟩, F.args_list_init_2 _ _, ?_⟩
  show wpAny _ A.in1.in1 (do let old ← Builtin.List.listItems (.ref s.heap.objs.size); Builtin.List.listUpdate (.ref s.heap.objs.size) (fun _ => #[]); letGo old.toList.reverse; Builtin.List.listExtendWith (.ref s.heap.objs.size) (.ref it) .none) _ _ _
  refine wpAny_bind ?_
  unfold Builtin.List.listItems
  refine wpAny_bind (wpAny_seqItems new0 rfl (wpAny_pure ?_))
  refine wpAny_bind (show wpAny _ _ (updateSeq s.heap.objs.size fun _ => #[]) _ _ _ from wpAny_updateSeq new0 rfl ?_)
  have old1 : ∀ b o, b ≠ s.heap.objs.size → s.heap.get? b = some o → ((s.heap.push { cls := .type "list", data := .seq #[] }).update s.heap.objs.size (Obj.mapSeq fun _ => (#[] : Array Value))).get? b = some o := fun b o nb e => (Heap.get?_update_other _ _ nb.symm).trans (Heap.get?_push_of_some _ e)
  have new1 := Heap.get?_update_self (Obj.mapSeq fun _ => (#[] : Array Value)) new0 rfl
  refine wpAny_bind (wpAny_letGo ?_)
  generalize hh1 : (s.heap.push { cls := .type "list", data := .seq #[] }).update s.heap.objs.size (Obj.mapSeq fun _ => (#[] : Array Value)) = h1 at old1 new1
  have ri1 : h1.IsRevIter it l ((items.size : Int) - 1) := ri.at fun o e => old1 it o d1.symm e
  have li1 : h1.IsList l items := li.at fun o e => old1 l o d2.symm e
  have ty : ({ s with heap := h1 } : Shared).TypeIs (.ref it) "list_reverseiterator" := Heap.IsRevIter.typeIs (s := { s with heap := h1 }) ri1
  have same : Builtin.List.listSameRef (.ref s.heap.objs.size) (.ref it) = false := by simp [Builtin.List.listSameRef, d1]
  unfold Builtin.List.listExtendWith
  refine wpAny_bind (wpAny_typeOf ty ?_)
  rw [if_neg (by rw [same]; decide)]
  refine wpAny_bind (wpAny_pyIter_revIter (s := { s with heap := h1 }) ri1 (wpAny_bind (wpAny_holding ?_)))
  unfold Builtin.List.listLengthHint
  refine wpAny_bind (wpAny_specialOf ty nolen_lri ?_)
  show wpAny _ A.in1.in1 (specialOf (Value.ref it) (Str.ofString "__length_hint__") >>= _) _ _ _
  refine wpAny_bind (wpAny_specialOf ty hint_lri ?_)
  generalize named : ("list_reverseiterator.__length_hint__" : String) = nm
  wp_delta
  rw [show splitId nm = some ("list_reverseiterator", "__length_hint__") from by subst named; decide +kernel]
  subst named
  refine wpAny_bind (wpAny_isInstance (b := true) ty (by rw [isSubtype_type]; kernel_rfl) (wpAny_pure ?_))
  rw [if_neg (by decide)]
  have zero : ((items.size : Nat) : Int) - 1 - ((0 : Nat) : Int) = (items.size : Int) - 1 := by omega
  refine wpAny_pure ⟨plainId_quiet F.plain_extend_loop _, codeAny_extend_loopS walk sz _ away _ items.size 0 _ _ _ rfl (Nat.zero_le _) ⟨Nat.zero_le _, by rw [zero]; exact ri1, li1⟩ new1 (ItemsOf.nil _) fun t acc c' mv at' its => ?_⟩
  refine ⟨rfl, ?_⟩
  rw [Moved.eq_with mv] at at' ⊢
  refine fin _ _ acc c' (fun b o nb e => mv.heap b o (fun m => ?_) (old1 b o (fun z => ?_) e)) at' its
  · rcases List.mem_cons.mp m with z | z
    · rw [z] at e; exact absurd (Heap.lt_size e) (Nat.lt_irrefl _)
    · exact nb (List.mem_singleton.mp z)
  · rw [z] at e; exact absurd (Heap.lt_size e) (Nat.lt_irrefl _)
end
end Lv
namespace Lv
open PySem PySem.Spec PyProof.Rows L2 RT
section
variable {X : Cx}
def tLstRev (K : PySem.W.Frag) (te : TE) : TE := fun σ H Q => te σ H fun v H1 => ∃ (a : Addr) (xs : List V), v = .ref a ∧ SqL K H1 a xs ∧ ∀ q, H1 q = none → Q (.ref q) (upd H1 q (.lst xs.reverse))
theorem pe_lstRev {e : Expr} {te : TE} {p p2 pos pos2 : Pos} (calm : X.calm = true) (gl : Gl X "list") (zl : X.mg "list" = none) (gr : Gl X "reversed") (zr : X.mg "reversed" = none) (val : PE X e te)
    (one : starEach [e] X.env = (false, eval e X.env) :: starEach [] X.env := by rfl)
    (two : starEach [.Call (.Name "reversed" p2) [e] [] pos2] X.env = (false, eval (.Call (.Name "reversed" p2) [e] [] pos2) X.env) :: starEach [] X.env := by rfl) :
    PE X (.Call (.Name "list" p) [.Call (.Name "reversed" p2) [e] [] pos2] [] pos) (tLstRev X.K te) := by
  refine ⟨fun pins s σ H Q inv want => ?_⟩
  refine Call_ (ld_blt inv gl zl PyProof.Rows.boot_list (PyProof.Rows.callWith_type1 (args_cons (Call_ (ld_blt inv gr zr PyProof.Rows.boot_reversed (PyProof.Rows.callWith_type1 (args_cons (thn (val.run pins s σ H _ inv want) fun u t ⟨v, H1, J, rel, got⟩ => args_nil ?_) one) one rfl))) two) two rfl))
  obtain ⟨a, xs, rfl, seq, got⟩ := got
  obtain rfl : u = Value.ref a := rel
  obtain ⟨its, rv, pl, sz⟩ := J.list seq
  refine call_reversed_list pl.isList (args_nil ?_)
  have li := pl.isList
  obtain ⟨ol, hol, _⟩ := id li
  have ne : a ≠ t.heap.objs.size := Nat.ne_of_lt (Heap.lt_size hol)
  have len : its.toArray.size ≤ sizeLine := by rw [List.size_toArray, ← rv.length]; exact sz
  refine made_from_rev (s := { t with heap := t.heap.push (revObj a ((its.toArray.size : Int) - 1)) }) (J.ok.hd calm) ⟨_, Heap.get?_push_size _ rfl, rfl, rfl⟩ (li.push _) ne len fun h' tk acc c' keep at' its' => ?_
  have up : t.heap.objs.size ≤ (t.heap.push (revObj a ((its.toArray.size : Int) - 1))).objs.size := by rw [Heap.size_push]; exact Nat.le_succ _
  have kp : ∀ b o, t.heap.get? b = some o → h'.get? b = some o := fun b o e => keep b o (Nat.ne_of_lt (Heap.lt_size e)) (Heap.get?_push_of_some _ e)
  refine ⟨.ref _, _, J.laid (t' := tk) kp up (show ObjOk X.prog X.w _ h' _ (.lst xs.reverse) from ⟨by rw [List.length_reverse]; exact sz, acc.toList, c', vals_rev rv its', ?_⟩), rfl, got _ (J.hok.fresh up)⟩
  rw [Array.toArray_toList]
  exact at'
theorem pe_lstRevK {K : PySem.W.Frag} (hK : X.K = K) {e : Expr} {te : TE} {p p2 pos pos2 : Pos} (calm : X.calm = true) (gl : Gl X "list") (zl : X.mg "list" = none) (gr : Gl X "reversed") (zr : X.mg "reversed" = none) (val : PE X e te)
    (one : starEach [e] X.env = (false, eval e X.env) :: starEach [] X.env := by rfl)
    (two : starEach [.Call (.Name "reversed" p2) [e] [] pos2] X.env = (false, eval (.Call (.Name "reversed" p2) [e] [] pos2) X.env) :: starEach [] X.env := by rfl) :
    PE X (.Call (.Name "list" p) [.Call (.Name "reversed" p2) [e] [] pos2] [] pos) (tLstRev K te) := by subst hK; exact pe_lstRev calm gl zl gr zr val one two
/-- a walk over a list or over a tuple -/
theorem pi_seqK {K : PySem.W.Frag} {tg l : Expr} {tl : TE} (hK : X.K = K) (hl : PE X l tl) : PI X tg l (fun σ H R => iList K tl σ H R ∨ iTup K tl σ H R) := by
  subst hK
  exact ⟨fun pins s σ H R I q => q.elim ((pi_list hl).run pins s σ H R I) ((pi_tup hl).run pins s σ H R I)⟩
end
end Lv
namespace Pd
open PySem PySem.Spec PyProof.Rows L2 GxR Gx
section
variable {K : PySem.W.Frag} {tb : List Addr}
def iSeqM (a : ME) : MI := fun ρ S => (a ρ S).bind fun p => match p.1 with
  | .d (.tuple ds) => some (.vals (ds.map .d), p.2)
  | .d (.list ds) => some (.vals (ds.map .d), p.2)
  | .loc n => match p.2[n]? with
    | some (.lst _) => some (.live n, p.2)
    | _ => none
  | _ => none
theorem si_seq {tl : TE} {a : ME} (ha : SE K tb tl a) : SI K tb (fun σ H R => iList K tl σ H R ∨ iTup K tl σ H R) (iSeqM a) := fun A σ ρ S im S' R' R E e q => by
  obtain ⟨⟨w, S1⟩, e1, e⟩ := Option.bind_eq_some_iff.mp e
  dsimp only at e
  split at e
  · exact .inr (si_tup ha A σ ρ S im S' R' R E (by show (a ρ S).bind _ = _; rw [e1]; exact e) q)
  · exact .inl (si_lst ha A σ ρ S im S' R' R E (by show (a ρ S).bind _ = _; rw [e1]; exact e) q)
  · exact .inl (si_lst ha A σ ρ S im S' R' R E (by show (a ρ S).bind _ = _; rw [e1]; exact e) q)
  · cases e
def eLstRev (a : ME) : ME := fun ρ S => (a ρ S).bind fun p => (itemsL p.1 p.2).bind fun us => (dOf us).bind fun ds => some (.d (.list ds.reverse), p.2)
theorem DRs.reverse {A : Wd} : ∀ {vs : List V} {ds : List PyData}, DRs K tb A vs ds → DRs K tb A vs.reverse ds.reverse
  | _, [], h => by cases h; exact .nil
  | _, d :: ds, h => by
    cases h with
    | cons a b => rw [List.reverse_cons, List.reverse_cons]; exact (DRs.reverse b).append (.cons a .nil)
theorem se_lstRev {te : TE} {a : ME} (ha : SE K tb te a) : SE K tb (Lv.tLstRev K te) (eLstRev a) := fun A σ ρ S w S' Q R E e q => by
  obtain ⟨p, e1, g1⟩ := Option.bind_eq_some_iff.mp e
  obtain ⟨us, e2, g2⟩ := Option.bind_eq_some_iff.mp g1
  obtain ⟨ds, e3, g3⟩ := Option.bind_eq_some_iff.mp g2
  cases g3
  refine ha A σ ρ S p.1 p.2 _ R E e1 fun v B N R1 r1 => ?_
  obtain ⟨x, xs, rfl, sq, rx⟩ := itemsL_run R1 r1 e2
  refine ⟨x, xs, rfl, sq, fun l hl => q _ (B.put l (.lst xs.reverse)) (N.trans (.put hl _)) (R1.put hl _) (DR.lst (.put R1 hl _) ?_)⟩
  exact DRs.nxt (.put hl _) ds.reverse (drs_of rx e3).reverse
/-! ### len of a text, too -/
def bLenX : MF := fun ws S => match ws with
  | [.d (.str z)] => if z.length ≤ sizeLine then some (.d (.int z.length), S) else none
  | ws => bLen ws S
abbrev rLenX (K : PySem.W.Frag) : List V → Hp → VK → Prop := fun xs H Q => (∃ p ys, xs = [.ref p] ∧ (SqL K H p ys ∨ SqT K H p ys) ∧ Q (.int ys.length) H) ∨ ∃ z, xs = [.str z] ∧ z.length ≤ sizeLine ∧ Q (.int z.length) H
theorem cr_lenXK {X : Cx} (hK : X.K = K) : CallR X (.builtin "len") (rLenX K) := by subst hK; exact call_len_seq.or call_len_str
theorem sc_lenX : SC K tb (rLenX K) bLenX := fun A vs ws S w S' Q R r e q => by
  unfold bLenX at e
  split at e
  · rename_i z
    split at e
    · rename_i hz
      cases e
      obtain ⟨v, rfl, r1⟩ := wrs1 r
      obtain rfl := WR.str r1
      exact .inr ⟨z, rfl, hz, q _ A .refl R (DR.int _)⟩
    · cases e
  · exact .inl (sc_len A vs _ S w S' Q R r e q)
end
end Pd
/-! word in D, D a written dict of the module with text keys -/
namespace Pd
open PySem PySem.Spec PyProof.Rows L2 GxR Gx
def rInD (K : PySem.W.Frag) (d : Addr) : R2 := fun x y H Q => ∃ (z : Str) (r : Option Value), x = .str z ∧ y = .ref d ∧ PySem.W.nsIn K d z = some r ∧ Q (.bl r.isSome) H
theorem op_inCK {X : Cx} {K : PySem.W.Frag} {w : World} {d : Addr} {es : Array DictEntry} {n : Nat} (hK : X.K = K) (hw : X.w = w) (D : KDict K w d es n) : OpR X (compareOp .In) (rInD K d) := by subst hK; subst hw; exact op_in_kd D
def inC (S : Mem) : Bool → Bool → Option (W × Mem)
  | true, _ => some (.d (.bool true), S)
  | false, true => some (.d (.bool false), S)
  | false, false => none
def eInC (ks os : List Str) (i : ME) : ME := fun ρ S => (i ρ S).bind fun p => match p.1 with
  | .d (.str z) => inC p.2 (ks.any fun k => decide (k = z)) (os.any fun k => decide (k = z))
  | _ => none
theorem any_mem {ks : List Str} {z : Str} (h : (ks.any fun k => decide (k = z)) = true) : z ∈ ks := by
  obtain ⟨k, hk, e⟩ := List.any_eq_true.mp h
  rw [← of_decide_eq_true e]; exact hk
section
variable {K : PySem.W.Frag} {tb : List Addr}
theorem se_inC {a : Addr} {ks os : List Str} {ti : TE} {i : ME} (h : ∀ z ∈ ks, ∃ u, PySem.W.nsIn K a z = some (some u)) (g : ∀ z ∈ os, PySem.W.nsIn K a z = some none) (hi : SE K tb ti i) : SE K tb (tOp (rInD K a) ti (tC (.ref a))) (eInC ks os i) := fun A σ ρ S wv S' Q R E e q => by
  obtain ⟨⟨x, S1⟩, e1, g1⟩ := Option.bind_eq_some_iff.mp e
  dsimp only at g1
  split at g1
  · rename_i z
    cases hk : ks.any (fun k => decide (k = z)) with
    | true =>
      rw [hk] at g1
      cases g1
      refine hi A σ ρ S _ _ _ R E e1 fun y B N R1 r1 => ?_
      obtain rfl := WR.str r1
      obtain ⟨u, hu⟩ := h z (any_mem hk)
      exact ⟨z, some u, rfl, rfl, hu, q _ B N R1 (DR.bl true)⟩
    | false =>
      cases ho : os.any (fun k => decide (k = z)) with
      | true =>
        rw [hk, ho] at g1
        cases g1
        refine hi A σ ρ S _ _ _ R E e1 fun y B N R1 r1 => ?_
        obtain rfl := WR.str r1
        exact ⟨z, none, rfl, rfl, g z (any_mem ho), q _ B N R1 (DR.bl false)⟩
      | false => rw [hk, ho] at g1; cases g1
  · cases g1
end
/-- a table of the module, told key by key -/
theorem dct_tab {K : PySem.W.Frag} {w : World} {tb : List Addr} {a : Addr} {es : Array DictEntry} {n : Nat} (hl : K.lookup a = some ⟨.type "dict", none, .dict es n, #[]⟩) (hk : PySem.W.KeysLit w.params es.toList) {tbl : List (Str × PyData)}
    (h : ∀ p ∈ tbl, ∃ u v, PySem.W.nsIn K a p.1 = some (some u) ∧ RelV v u ∧ ∀ A, DR K tb A v p.2) (z : Str) (d : PyData) (e : tbl.lookup z = some d) : ∃ v, KDct K w a z v ∧ ∀ A, DR K tb A v d := by
  have hm : (z, d) ∈ tbl := by
    clear h hk hl
    induction tbl with
    | nil => cases e
    | cons p t ih =>
      obtain ⟨x, y⟩ := p
      rw [List.lookup_cons] at e
      split at e
      · rename_i hb
        cases e
        rw [eq_of_beq hb]; exact List.mem_cons_self
      · exact List.mem_cons_of_mem _ (ih e)
  obtain ⟨u, v, h1, h2, h3⟩ := h _ hm
  exact ⟨v, ⟨es, n, u, hl, hk, h1, h2⟩, h3⟩
end Pd
/-! dict(d), len(d), isinstance(d, dict); word not in D -/
namespace Pd
open PySem PySem.Spec PyProof.Rows L2 GxR Gx
abbrev rDictOf : List V → Hp → VK → Prop := fun xs H Q => ∃ (a : Addr) (kvs : List (Key × V)), xs = [.ref a] ∧ L2.Rd H a (.dK kvs) ∧ ∀ p, H p = none → Q (.ref p) (upd H p (.dK kvs))
def bDict : MF := fun ws S => match ws with
  | [w] => (dctAt w S).bind fun d => some (.loc S.length, S ++ [.dct d.2])
  | _ => none
def bLenD : MF := fun ws S => match ws with
  | [w] => (dctAt w S).map fun d => (.d (.int d.2.length), S)
  | _ => none
section
variable {K : PySem.W.Frag} {tb : List Addr}
theorem sc_dict : SC K tb rDictOf bDict := fun A vs ws S w S' Q R r e q => by
  unfold bDict at e
  split at e
  · obtain ⟨⟨n, kvs⟩, e1, e2⟩ := Option.bind_eq_some_iff.mp e
    cases e2
    obtain ⟨v, rfl, r1⟩ := wrs1 r
    obtain ⟨a, us, rfl, _, _, ea, pk⟩ := dctAt_run R r1 e1
    refine ⟨a, us, rfl, .of ea, fun l hl => q _ (A.add l (.dK us)) (.add hl _) (R.add hl ⟨us, upd_same, ?_⟩) ⟨l, rfl, ?_⟩⟩
    · exact Paired.mapP pk fun _ _ h => ⟨h.1, h.2.nxt (.add hl _)⟩
    · show (A.ι ++ [l])[S.length]? = some l
      rw [← R.len]; simp
  · cases e
abbrev rLenD : List V → Hp → VK → Prop := fun xs H Q => ∃ a kvs, xs = [V.ref a] ∧ H a = some (.dK kvs) ∧ Q (.int kvs.length) H
theorem sc_lenD : SC K tb rLenD bLenD := fun A vs ws S w S' Q R r e q => by
  unfold bLenD at e
  split at e
  · obtain ⟨⟨n, kvs⟩, e1, e2⟩ := Option.map_eq_some_iff.mp e
    cases e2
    obtain ⟨v, rfl, r1⟩ := wrs1 r
    obtain ⟨a, us, rfl, _, _, ea, pk⟩ := dctAt_run R r1 e1
    refine ⟨a, us, rfl, ea, ?_⟩
    rw [PK'.length pk]
    exact q _ A .refl R (DR.int _)
  · cases e
theorem kitD1 : kitB "dict" "dict" = some true := by decide +kernel
def eIsD (o : ME) : ME := fun ρ S => (o ρ S).bind fun p => (dctAt p.1 p.2).map fun _ => (.d (.bool true), p.2)
theorem se_isD {te : TE} {o : ME} (ho : SE K tb te o) : SE K tb (tCB (rIsi K) (tCons te (tCons (tC (.ty "dict")) tNil))) (eIsD o) := fun A σ ρ S w S' Q R E e q => by
  obtain ⟨p, e1, g1⟩ := Option.bind_eq_some_iff.mp e
  obtain ⟨⟨n, kvs⟩, e2, e3⟩ := Option.map_eq_some_iff.mp g1
  cases e3
  refine ho A σ ρ S p.1 p.2 _ R E e1 fun x B N R1 r1 => ?_
  obtain ⟨a, us, rfl, _, _, ea, _⟩ := dctAt_run R1 r1 e2
  exact ⟨_, _, _, _, true, rfl, .ty _, .base (.dK ea), kit_ty kitD1, q _ B N R1 (DR.bl true)⟩
/-- word not in D -/
def rNInD (K : PySem.W.Frag) (d : Addr) : R2 := fun x y H Q => ∃ (z : Str) (r : Option Value), x = .str z ∧ y = .ref d ∧ PySem.W.nsIn K d z = some r ∧ Q (.bl (!r.isSome)) H
theorem op_ninCK {X : Cx} {w : World} {d : Addr} {es : Array DictEntry} {n : Nat} (hK : X.K = K) (hw : X.w = w) (D : KDict K w d es n) : OpR X (compareOp .NotIn) (rNInD K d) := by subst hK; subst hw; exact op_notIn_kd D
def ninC (S : Mem) : Bool → Bool → Option (W × Mem)
  | true, _ => some (.d (.bool false), S)
  | false, true => some (.d (.bool true), S)
  | false, false => none
def eNInC (ks os : List Str) (i : ME) : ME := fun ρ S => (i ρ S).bind fun p => match p.1 with
  | .d (.str z) => ninC p.2 (ks.any fun k => decide (k = z)) (os.any fun k => decide (k = z))
  | _ => none
theorem se_ninC {a : Addr} {ks os : List Str} {ti : TE} {i : ME} (h : ∀ z ∈ ks, ∃ u, PySem.W.nsIn K a z = some (some u)) (g : ∀ z ∈ os, PySem.W.nsIn K a z = some none) (hi : SE K tb ti i) : SE K tb (tOp (rNInD K a) ti (tC (.ref a))) (eNInC ks os i) := fun A σ ρ S wv S' Q R E e q => by
  obtain ⟨⟨x, S1⟩, e1, g1⟩ := Option.bind_eq_some_iff.mp e
  dsimp only at g1
  split at g1
  · rename_i z
    cases hk : ks.any (fun k => decide (k = z)) with
    | true =>
      rw [hk] at g1
      cases g1
      refine hi A σ ρ S _ _ _ R E e1 fun y B N R1 r1 => ?_
      obtain rfl := WR.str r1
      obtain ⟨u, hu⟩ := h z (any_mem hk)
      exact ⟨z, some u, rfl, rfl, hu, q _ B N R1 (DR.bl false)⟩
    | false =>
      cases ho : os.any (fun k => decide (k = z)) with
      | true =>
        rw [hk, ho] at g1
        cases g1
        refine hi A σ ρ S _ _ _ R E e1 fun y B N R1 r1 => ?_
        obtain rfl := WR.str r1
        exact ⟨z, none, rfl, rfl, g z (any_mem ho), q _ B N R1 (DR.bl true)⟩
      | false => rw [hk, ho] at g1; cases g1
  · cases g1
end
end Pd
/-! isinstance(d, list), d a list that is not changed again -/
namespace Pd
open PySem PySem.Spec PyProof.Rows L2 GxR Gx
def isLd : W → Option Bool
  | .d (.list _) => some true
  | _ => none
def eIsLd (o : ME) : ME := fun ρ S => (o ρ S).bind fun p => (isLd p.1).map fun b => (.d (.bool b), p.2)
section
variable {K : PySem.W.Frag} {tb : List Addr}
theorem isLd_run {A : Wd} {v : V} {w : W} {b : Bool} (r : WR K tb A v w) (h : isLd w = some b) : ∃ t, TyX K A.H v t ∧ PySem.W.kitOne K t (.type "list") = some b := by
  unfold isLd at h
  split at h
  · cases h
    obtain ⟨a, xs, rfl, f, _⟩ := WR.lst r
    rcases f.2 with e | ⟨o, e⟩
    · exact ⟨_, .base (.lst e), kit_ty kitL1⟩
    · exact ⟨_, .base (.frz e), kit_ty kitL1⟩
  · cases h
theorem se_isLd {te : TE} {o : ME} (ho : SE K tb te o) : SE K tb (tCB (rIsi K) (tCons te (tCons (tC (.ty "list")) tNil))) (eIsLd o) := fun A σ ρ S w S' Q R E e q => by
  obtain ⟨p, e1, g1⟩ := Option.bind_eq_some_iff.mp e
  obtain ⟨b, e2, e3⟩ := Option.map_eq_some_iff.mp g1
  cases e3
  refine ho A σ ρ S p.1 p.2 _ R E e1 fun x B N R1 r1 => ?_
  obtain ⟨t, ht, hk⟩ := isLd_run r1 e2
  exact ⟨x, _, t, _, b, rfl, .ty _, ht, hk, q _ B N R1 (DR.bl b)⟩
end
end Pd
/-! tuple(zip(a, b)) of two tuples, and a walk over such a zip -/
namespace Lv
open PySem PySem.Spec PyProof.Rows L2 RT
section
variable {prog : Program} {w : World} {A : Around} {E : Value → Shared → Prop} {s : Shared} {z TI TO T i1 i2 l1 l2 : Addr} {f : Bool} {oT : Obj} {k : Nat} {xs ys : Array Value} {x y : Value}
/-- the next pair, while the last one lives -/
theorem pair_next {Q : Value → Shared → Prop} (D : ZipApart z TI TO i1 i2 l1 l2) (hz : IsZipHeld s.heap z TI TO T f) (hT : s.heap.get? T = some oT) (hTI : IsPair s.heap TI (.ref i1) (.ref i2))
    (h1 : s.heap.IsTupleIter i1 l1 k) (h2 : s.heap.IsTupleIter i2 l2 k) (g1 : s.heap.IsTuple l1 xs) (g2 : s.heap.IsTuple l2 ys) (hx : xs[k]? = some x) (hy : ys[k]? = some y)
    (q : ∀ h', IsZipHeld h' z TI TO T true → h'.IsTupleIter i1 l1 (k + 1) → h'.IsTupleIter i2 l2 (k + 1) → IsPair h' s.heap.objs.size x y → h'.objs.size = s.heap.objs.size + 1 →
      (∀ c o, c ≠ z → c ≠ i1 → c ≠ i2 → s.heap.get? c = some o → h'.get? c = some o) → Q (.ref s.heap.objs.size) { s with heap := h' }) :
    wpAny (model prog w) A (Builtin.«zip.__next__» { pos := [.ref z] }) (fun fin s' => ∃ v, fin = .done (.ret v) ∧ Q v s') E s := by
  show wpAny _ _ (field (Value.ref z) 2 >>= _) _ _ _
  refine wpAny_bind (wpAny_field hz rfl rfl ?_)
  show wpAny _ _ (field (Value.ref z) 3 >>= _) _ _ _
  refine wpAny_bind (wpAny_field hz rfl rfl (wpAny_bind (wpAny_seqItems hTI rfl ?_)))
  show wpAny _ _ (Builtin.SmallTypes.ownedTupleIsFree (Value.ref z) >>= _) _ _ _
  refine wpAny_bind (wpAny_tupleHeld_zip hz hT fun a1 z1 k1 => ?_)
  simp only [Bool.false_eq_true, if_false]
  refine wpAny_bind ?_
  rw [← Array.forIn_toList]
  simp only [List.forIn_cons, List.forIn_nil]
  have b1 := Heap.SameBut.extBut k1
  refine wpAny_bind (wpAny_bind (wpAny_holding ?_))
  show wpAny _ _ (Builtin.SmallTypes.nextOf (Value.ref i1) >>= _) _ _ _
  refine wpAny_bind (RZ.nextOf_tuple_item (h1.extBut b1 D.i1z) (g1.extBut b1 D.l1z) hx fun a2 n1 k2 => ?_)
  have b2 := Heap.SameBut.extBut k2
  refine wpAny_pure (wpAny_pure (wpAny_bind (wpAny_bind (wpAny_holding ?_))))
  show wpAny _ _ (Builtin.SmallTypes.nextOf (Value.ref i2) >>= _) _ _ _
  refine wpAny_bind (RZ.nextOf_tuple_item ((h2.extBut b1 D.i2z).extBut b2 D.i12.symm) ((g2.extBut b1 D.l2z).extBut b2 D.l2i1) hy fun a3 n2 k3 => ?_)
  have b3 := Heap.SameBut.extBut k3
  refine wpAny_pure (wpAny_pure (wpAny_pure ?_))
  show wpAny _ _ (newTuple [x, y] >>= _) _ _ _
  refine wpAny_bind (wpAny_newTuple (wpAny_pure ⟨_, rfl, ?_⟩) (by show 2 ≤ sizeLine; decide))
  have hs : a3.objs.size = s.heap.objs.size := by rw [k3.1, k2.1, k1.1]
  have hk : ∀ c o, c ≠ z → c ≠ i1 → c ≠ i2 → s.heap.get? c = some o → a3.get? c = some o := fun c o c1 c2 c3 e => b3 c o c3 (b2 c o c2 (b1 c o c1 e))
  have hz3 : IsZipHeld a3 z TI TO T true := b3 z _ D.i2z.symm (b2 z _ D.i1z.symm z1)
  show Q (.ref a3.objs.size) _
  rw [hs]
  refine q _ (Heap.get?_push_of_some _ hz3) ((n1.extBut b3 D.i12).at fun o e => Heap.get?_push_of_some _ e) (n2.at fun o e => Heap.get?_push_of_some _ e) ?_ (by rw [Heap.size_push, hs]) fun c o c1 c2 c3 e => Heap.get?_push_of_some _ (hk c o c1 c2 c3 e)
  rw [← hs]
  exact Heap.get?_push_size _ rfl
/-- .. and its end -/
theorem pair_end {Q : Fin → Shared → Prop} (hh : A.handled = none) (D : ZipApart z TI TO i1 i2 l1 l2) (hz : IsZipHeld s.heap z TI TO T f) (hT : s.heap.get? T = some oT) (hTI : IsPair s.heap TI (.ref i1) (.ref i2))
    (h1 : s.heap.IsTupleIter i1 l1 k) (g1 : s.heap.IsTuple l1 xs) (hx : xs[k]? = none)
    (q : ∀ (h' : Heap) (e : Addr), (∀ c o, c ≠ z → c ≠ i1 → s.heap.get? c = some o → h'.get? c = some o) → (∃ o, h'.get? e = some o ∧ o.cls = .type "StopIteration") → E (.ref e) { s with heap := h' }) :
    wpAny (model prog w) A (Builtin.«zip.__next__» { pos := [.ref z] }) Q E s := by
  show wpAny _ _ (field (Value.ref z) 2 >>= _) _ _ _
  refine wpAny_bind (wpAny_field hz rfl rfl ?_)
  show wpAny _ _ (field (Value.ref z) 3 >>= _) _ _ _
  refine wpAny_bind (wpAny_field hz rfl rfl (wpAny_bind (wpAny_seqItems hTI rfl ?_)))
  show wpAny _ _ (Builtin.SmallTypes.ownedTupleIsFree (Value.ref z) >>= _) _ _ _
  refine wpAny_bind (wpAny_tupleHeld_zip hz hT fun a1 z1 k1 => ?_)
  simp only [Bool.false_eq_true, if_false]
  refine wpAny_bind ?_
  rw [← Array.forIn_toList]
  simp only [List.forIn_cons, List.forIn_nil]
  have b1 := Heap.SameBut.extBut k1
  refine wpAny_bind (wpAny_bind (wpAny_holding ?_))
  show wpAny _ _ (Builtin.SmallTypes.nextOf (Value.ref i1) >>= _) _ _ _
  exact wpAny_bind (RZ.nextOf_tuple_end hh (h1.extBut b1 D.i1z) (g1.extBut b1 D.l1z) hx fun a2 e k2 he => q a2 e (fun c o c1 c2 g => k2 c o c2 (b1 c o c1 g)) he)

theorem next_pair {Q : Option Value → Shared → Prop} (D : ZipApart z TI TO i1 i2 l1 l2) (hz : IsZipHeld s.heap z TI TO T f) (hT : s.heap.get? T = some oT) (hTI : IsPair s.heap TI (.ref i1) (.ref i2))
    (h1 : s.heap.IsTupleIter i1 l1 k) (h2 : s.heap.IsTupleIter i2 l2 k) (g1 : s.heap.IsTuple l1 xs) (g2 : s.heap.IsTuple l2 ys) (hx : xs[k]? = some x) (hy : ys[k]? = some y)
    (q : ∀ h', IsZipHeld h' z TI TO T true → h'.IsTupleIter i1 l1 (k + 1) → h'.IsTupleIter i2 l2 (k + 1) → IsPair h' s.heap.objs.size x y → h'.objs.size = s.heap.objs.size + 1 →
      (∀ c o, c ≠ z → c ≠ i1 → c ≠ i2 → s.heap.get? c = some o → h'.get? c = some o) → Q (some (.ref s.heap.objs.size)) { s with heap := h' }) : wpAny (model prog w) A (pyNext (.ref z)) Q E s := by
  have ty : s.TypeIs (.ref z) "zip" := ⟨_, hz, rfl⟩
  unfold pyNext
  exact wpAny_bind (wpAny_attempt (wpAny_callSpecial?_slot ty F.slot_zip_next (wpAny_call_entry F.slot_zip_next ty F.entry_zip_next
    (pair_next D hz hT hTI h1 h2 g1 g2 hx hy fun h' a1 a2 a3 a4 a5 a6 => wpAny_pure (q h' a1 a2 a3 a4 a5 a6)) (F.args_zip_next_1 _))))
theorem next_end {Q : Option Value → Shared → Prop} (hh : A.handled = none) (D : ZipApart z TI TO i1 i2 l1 l2) (hz : IsZipHeld s.heap z TI TO T f) (hT : s.heap.get? T = some oT) (hTI : IsPair s.heap TI (.ref i1) (.ref i2))
    (h1 : s.heap.IsTupleIter i1 l1 k) (g1 : s.heap.IsTuple l1 xs) (hx : xs[k]? = none)
    (q : ∀ (h' : Heap), (∀ c o, c ≠ z → c ≠ i1 → s.heap.get? c = some o → h'.get? c = some o) → Q none { s with heap := h' }) : wpAny (model prog w) A (pyNext (.ref z)) Q E s := by
  have ty : s.TypeIs (.ref z) "zip" := ⟨_, hz, rfl⟩
  unfold pyNext
  exact wpAny_bind (wpAny_attempt (wpAny_callSpecial?_slot ty F.slot_zip_next (wpAny_call_entry F.slot_zip_next ty F.entry_zip_next
    (pair_end hh D hz hT hTI h1 g1 hx fun h' e a1 ⟨o, ho, hc⟩ => wpAny_bind (wpAny_isInstance ⟨o, ho, hc⟩ isSubtype_stop (wpAny_pure (q h' a1)))) (F.args_zip_next_1 _))))
/-- where the pairs are that are made already -/
structure Zs (z TI TO i1 i2 l1 l2 S : Addr) (xs ys : Array Value) (b h : Heap) (Ts : List Addr) : Prop where
  zp : (Ts = [] ∧ IsZip h z TI TO .none ∧ ∃ u v, IsPair h TO u v) ∨ ∃ T f oT, IsZipHeld h z TI TO T f ∧ h.get? T = some oT
  ti : IsPair h TI (.ref i1) (.ref i2)
  n1 : h.IsTupleIter i1 l1 Ts.length
  n2 : h.IsTupleIter i2 l2 Ts.length
  g1 : h.IsTuple l1 xs
  g2 : h.IsTuple l2 ys
  pr : ∀ (j : Nat) (T : Addr), Ts[j]? = some T → b.objs.size ≤ T ∧ ∃ x y, xs[j]? = some x ∧ ys[j]? = some y ∧ IsPair h T x y
  nd : Ts.Nodup
  kp : ∀ c o, b.get? c = some o → h.get? c = some o
  sz : b.objs.size ≤ h.objs.size
  acc : ∃ c, h.get? S = some { cls := .type "list", dict := none, data := .seq (Ts.map Value.ref).toArray c, slots := #[] }
/-- the places apart -/
structure Zd (z TI TO i1 i2 l1 l2 S : Addr) (b : Heap) : Prop where
  D : ZipApart z TI TO i1 i2 l1 l2
  bz : b.objs.size ≤ z
  bO : b.objs.size ≤ TO
  b1 : b.objs.size ≤ i1
  b2 : b.objs.size ≤ i2
  bS : b.objs.size ≤ S
  Sz : S ≠ z
  SI : S ≠ TI
  SO : S ≠ TO
  S1 : S ≠ i1
  S2 : S ≠ i2
  Sl : S ≠ l1
  Sm : S ≠ l2
theorem lt_of {h : Heap} {a : Addr} {o : Obj} (e : h.get? a = some o) : a < h.objs.size := Heap.lt_size e
theorem ne_of {h : Heap} {a c : Addr} {o : Obj} (e : h.get? a = some o) (l : h.objs.size ≤ c) : a ≠ c := Nat.ne_of_lt (Nat.lt_of_lt_of_le (Heap.lt_size e) l)
theorem pair_ne {h : Heap} {T a : Addr} {o : Obj} {x y : Value} (p : IsPair h T x y) (e : h.get? a = some o) (hc : o.cls ≠ .type "tuple") : T ≠ a := by
  rintro rfl
  have p : h.get? T = some _ := p
  rw [e] at p
  cases p
  exact hc rfl
theorem zip_nt : Value.type "zip" ≠ Value.type "tuple" := fun h => by injection h with h; revert h; decide
theorem lst_nt : Value.type "list" ≠ Value.type "tuple" := fun h => by injection h with h; revert h; decide
theorem it_nt {o : Obj} (h : o.cls = .type "tuple_iterator") : o.cls ≠ Value.type "tuple" := fun g => by rw [h] at g; injection g with g; revert g; decide
theorem zip_loop {S : Addr} {b : Heap} {res : Value} {R : Result → Shared → Prop} (hh : A.in1.handled = none) (Z : Zd z TI TO i1 i2 l1 l2 S b) (hl : xs.size = ys.size) (hn : xs.size ≤ sizeLine) :
    ∀ (m : Nat) (Ts : List Addr) (s : Shared), xs.size - Ts.length = m → Ts.length ≤ xs.size → Zs z TI TO i1 i2 l1 l2 S xs ys b s.heap Ts →
      (∀ (h' : Heap) (Us : List Addr), Us.length = xs.size → Us.Nodup → (∀ (j : Nat) (T : Addr), Us[j]? = some T → b.objs.size ≤ T ∧ ∃ x y, xs[j]? = some x ∧ ys[j]? = some y ∧ IsPair h' T x y) → (∀ c o, b.get? c = some o → h'.get? c = some o) →
        (∃ c, h'.get? S = some { cls := .type "list", dict := none, data := .seq (Us.map Value.ref).toArray c, slots := #[] }) → R (.ok (.ret res)) { s with heap := h' }) →
      codeAny (model prog w) A (.builtin "list.extend.loop" { pos := [.ref S, .ref z, res] }) R s
  | 0, Ts, s, hm, ht, I, q => by
    have hlen : Ts.length = xs.size := by omega
    refine codeAny_builtin F.entry_extend_loop ?_
    rw [Around.under_plainId F.plain_extend_loop]
    show wpAny _ _ (pyNext (Value.ref z) >>= _) _ _ _
    refine wpAny_bind ?_
    obtain ⟨c0, hS⟩ := I.acc
    have hx : xs[Ts.length]? = none := Array.getElem?_eq_none (by omega)
    have fin : ∀ h' : Heap, (∀ c o, c ≠ z → c ≠ TO → c ≠ i1 → c ≠ i2 → s.heap.get? c = some o → h'.get? c = some o) → (∀ T ∈ Ts, T ≠ z ∧ T ≠ TO ∧ T ≠ i1 ∧ T ≠ i2) → R (.ok (.ret res)) { s with heap := h' } := fun h' hk hT =>
      q h' Ts hlen I.nd (fun j T hj => by
        obtain ⟨p1, x, y, p2, p3, p4⟩ := I.pr j T hj
        obtain ⟨t1, t2, t3, t4⟩ := hT T (List.mem_of_getElem? hj)
        exact ⟨p1, x, y, p2, p3, hk T _ t1 t2 t3 t4 p4⟩) (fun c o e => hk c o (ne_of e Z.bz) (ne_of e Z.bO) (ne_of e Z.b1) (ne_of e Z.b2) (I.kp c o e)) ⟨c0, hk S _ Z.Sz Z.SO Z.S1 Z.S2 hS⟩
    rcases I.zp with ⟨hnil, hz, u, v, hO⟩ | ⟨T, f, oT, hz, hT⟩
    · subst hnil
      refine RZ.pyNext_zipT_end hh Z.D hz I.ti hO I.n1 I.n2 I.g1 I.g2 (.inl hx) fun h' hk => wpAny_pure (fin h' hk fun T hT => absurd hT List.not_mem_nil)
    · refine next_end hh Z.D hz hT I.ti I.n1 I.g1 hx fun h' hk => wpAny_pure (q h' Ts hlen I.nd (fun j T hj => ?_) (fun c o e => ?_) ⟨c0, hk S _ Z.Sz Z.S1 hS⟩)
      · obtain ⟨p1, x, y, p2, p3, p4⟩ := I.pr j T hj
        obtain ⟨o1, e1, c1, _⟩ := I.n1
        exact ⟨p1, x, y, p2, p3, hk T _ (pair_ne p4 hz zip_nt) (pair_ne p4 e1 (it_nt c1)) p4⟩
      · exact hk c o (ne_of e Z.bz) (ne_of e Z.b1) (I.kp c o e)
  | m + 1, Ts, s, hm, ht, I, q => by
    have hlt : Ts.length < xs.size := by omega
    have hlt2 : Ts.length < ys.size := by omega
    refine codeAny_builtin F.entry_extend_loop ?_
    rw [Around.under_plainId F.plain_extend_loop]
    show wpAny _ _ (pyNext (Value.ref z) >>= _) _ _ _
    refine wpAny_bind ?_
    obtain ⟨c0, hS⟩ := I.acc
    have hx : xs[Ts.length]? = some xs[Ts.length] := Array.getElem?_eq_getElem hlt
    have hy : ys[Ts.length]? = some ys[Ts.length] := Array.getElem?_eq_getElem hlt2
    have go : ∀ (h' : Heap), (∃ T f oT, IsZipHeld h' z TI TO T f ∧ h'.get? T = some oT) → h'.IsTupleIter i1 l1 (Ts.length + 1) → h'.IsTupleIter i2 l2 (Ts.length + 1) → IsPair h' s.heap.objs.size xs[Ts.length] ys[Ts.length] → h'.objs.size = s.heap.objs.size + 1 →
        (∀ c o, c ≠ z → c ≠ TO → c ≠ i1 → c ≠ i2 → s.heap.get? c = some o → h'.get? c = some o) → (∀ T ∈ Ts, ∀ o, s.heap.get? T = some o → h'.get? T = some o) →
        wpAny (model prog w) A.in1 (do Builtin.List.listUpdate (.ref S) fun x => x.push (.ref s.heap.objs.size); again (Code.builtin "list.extend.loop" { pos := [.ref S, .ref z, res] }))
          (fun fin s' => match fin with | Fin.done f => R (.ok f) s' | Fin.again c' => c'.quiet = true ∧ codeAny (model prog w) A c' R s') (fun e s' => R (.error e) s') { s with heap := h' } := fun h' hz n1 n2 hp hsz hk hTs => by
      have hS' := hk S _ Z.Sz Z.SO Z.S1 Z.S2 hS
      have hlS := lt_of hS'
      have sS : S < s.heap.objs.size := lt_of hS
      refine wpAny_bind (show wpAny _ _ (updateSeq S fun x => x.push (.ref s.heap.objs.size)) _ _ _ from wpAny_updateSeq hS' rfl (wpAny_pure ⟨plainId_quiet F.plain_extend_loop _, ?_⟩) (by rw [List.size_toArray, List.length_map]; omega) (by rw [Array.size_push, List.size_toArray, List.length_map]; omega))
      have ot : ∀ c o, c ≠ S → h'.get? c = some o → (h'.update S (Obj.mapSeq fun x => x.push (.ref s.heap.objs.size))).get? c = some o := fun c o hc e => (Heap.get?_update_other _ _ hc.symm).trans e
      have new := Heap.get?_update_self (Obj.mapSeq fun x => x.push (.ref s.heap.objs.size)) hS' rfl
      obtain ⟨T0, f0, o0, z0, t0⟩ := hz
      have nS : ∀ c, c ≠ S → c ≠ S := fun _ h => h
      refine zip_loop hh Z hl hn m (Ts ++ [s.heap.objs.size]) { s with heap := h'.update S (Obj.mapSeq fun x => x.push (.ref s.heap.objs.size)) } (by rw [List.length_append, List.length_singleton]; omega) (by rw [List.length_append, List.length_singleton]; omega) ⟨.inr ?_, ?_, ?_, ?_, ?_, ?_, ?_, ?_, ?_, ?_, ?_⟩ ?_
      · by_cases h : T0 = S
        · subst h
          exact ⟨T0, f0, _, ot _ _ Z.Sz.symm z0, new⟩
        · exact ⟨T0, f0, o0, ot _ _ Z.Sz.symm z0, ot _ _ h t0⟩
      · exact ot _ _ Z.SI.symm (hk _ _ Z.D.TIz Z.D.TITO Z.D.TIi1 Z.D.TIi2 I.ti)
      · rw [List.length_append, List.length_singleton]; exact n1.at fun o e => ot _ _ Z.S1.symm e
      · rw [List.length_append, List.length_singleton]; exact n2.at fun o e => ot _ _ Z.S2.symm e
      · exact I.g1.at fun o e => ot _ _ Z.Sl.symm (hk _ _ Z.D.l1z Z.D.l1TO Z.D.l1i1 Z.D.l1i2 e)
      · exact I.g2.at fun o e => ot _ _ Z.Sm.symm (hk _ _ Z.D.l2z Z.D.l2TO Z.D.l2i1 Z.D.l2i2 e)
      · intro j T hj
        by_cases hjl : j < Ts.length
        · rw [List.getElem?_append_left hjl] at hj
          obtain ⟨p1, x, y, p2, p3, p4⟩ := I.pr j T hj
          exact ⟨p1, x, y, p2, p3, ot _ _ (pair_ne p4 hS lst_nt) (hTs T (List.mem_of_getElem? hj) _ p4)⟩
        · rw [List.getElem?_append_right (by omega)] at hj
          have hj0 : j = Ts.length := by
            have := (List.getElem?_eq_some_iff.mp hj).1
            simp at this; omega
          subst hj0
          rw [Nat.sub_self] at hj
          cases hj
          exact ⟨I.sz, _, _, hx, hy, ot _ _ (Nat.ne_of_gt sS) hp⟩
      · refine List.nodup_append.mpr ⟨I.nd, by simp, fun a ha c hc => ?_⟩
        rw [List.mem_singleton.mp hc]
        obtain ⟨j, hj⟩ := List.getElem?_of_mem ha
        obtain ⟨_, x, y, _, _, p4⟩ := I.pr j a hj
        exact Nat.ne_of_lt (lt_of p4)
      · intro c o e
        exact ot _ _ (ne_of e Z.bS) (hk c o (ne_of e Z.bz) (ne_of e Z.bO) (ne_of e Z.b1) (ne_of e Z.b2) (I.kp c o e))
      · show b.objs.size ≤ (h'.update S _).objs.size
        rw [Heap.size_update, hsz]
        have := I.sz
        omega
      · have e : ((Ts ++ [s.heap.objs.size]).map Value.ref).toArray = ((Ts.map Value.ref).toArray).push (.ref s.heap.objs.size) := by simp
        rw [e]
        exact ⟨_, new⟩
      · intro h2 Us u1 u2 u3 u4 u5
        exact q h2 Us u1 u2 u3 u4 u5
    rcases I.zp with ⟨hnil, hz, u, v, hO⟩ | ⟨T, f, oT, hz, hT⟩
    · subst hnil
      exact RZ.pyNext_zipT_item Z.D hz I.ti hO I.n1 I.n2 I.g1 I.g2 hx hy fun h' a1 a2 a3 a4 a5 a6 a7 => go h' ⟨_, _, _, a1, a5⟩ a3 a4 a5 a6 a7 fun T hT => absurd hT List.not_mem_nil
    · refine next_pair Z.D hz hT I.ti I.n1 I.n2 I.g1 I.g2 hx hy fun h' a1 a2 a3 a4 a5 a6 => go h' ?_ a2 a3 a4 a5 (fun c o c1 _ c3 c4 e => a6 c o c1 c3 c4 e) fun U hU o e => ?_
      · by_cases hTz : T = z
        · subst hTz; exact ⟨_, _, _, a1, a1⟩
        by_cases hT1 : T = i1
        · subst hT1; obtain ⟨o, ho, _⟩ := a2; exact ⟨_, _, _, a1, ho⟩
        by_cases hT2 : T = i2
        · subst hT2; obtain ⟨o, ho, _⟩ := a3; exact ⟨_, _, _, a1, ho⟩
        exact ⟨_, _, _, a1, a6 T _ hTz hT1 hT2 hT⟩
      · obtain ⟨j, hj⟩ := List.getElem?_of_mem hU
        obtain ⟨_, x, y, _, _, p4⟩ := I.pr j U hj
        obtain ⟨o1, e1, d1, _⟩ := I.n1
        obtain ⟨o2, e2, d2, _⟩ := I.n2
        exact a6 U o (pair_ne p4 hz zip_nt) (pair_ne p4 e1 (it_nt d1)) (pair_ne p4 e2 (it_nt d2)) e
/-- what is made of a zip that was just begun -/
structure Zn (z TI TO i1 i2 l1 l2 : Addr) (xs ys : Array Value) (b h : Heap) : Prop where
  D : ZipApart z TI TO i1 i2 l1 l2
  bz : b.objs.size ≤ z
  bO : b.objs.size ≤ TO
  b1 : b.objs.size ≤ i1
  b2 : b.objs.size ≤ i2
  hz : IsZip h z TI TO .none
  hO : ∃ u v, IsPair h TO u v
  ti : IsPair h TI (.ref i1) (.ref i2)
  n1 : h.IsTupleIter i1 l1 0
  n2 : h.IsTupleIter i2 l2 0
  g1 : h.IsTuple l1 xs
  g2 : h.IsTuple l2 ys
  kp : ∀ c o, b.get? c = some o → h.get? c = some o
  sz : b.objs.size ≤ h.objs.size
theorem nolen_zip : typeLookup (Value.type "zip") (Str.ofString "__len__") = pure none := by
  rw [typeLookup_type, builtinLookup_eq_fast]; rfl
theorem nohint_zip : typeLookup (Value.type "zip") (Str.ofString "__length_hint__") = pure none := by
  rw [typeLookup_type, builtinLookup_eq_fast]; rfl
theorem at_tup {h h' : Heap} {a : Addr} {xs : Array Value} (g : h.IsTuple a xs) (k : ∀ o, h.get? a = some o → h'.get? a = some o) : h'.IsTuple a xs := g.at k
theorem collect_zip {b : Heap} {Q : List Value → Shared → Prop} (hh : A.handled = none) (Z : Zn z TI TO i1 i2 l1 l2 xs ys b s.heap) (hl : xs.size = ys.size) (hn : xs.size ≤ sizeLine)
    (q : ∀ (h' : Heap) (Us : List Addr), Us.length = xs.size → Us.Nodup → (∀ (j : Nat) (T : Addr), Us[j]? = some T → b.objs.size ≤ T ∧ ∃ x y, xs[j]? = some x ∧ ys[j]? = some y ∧ IsPair h' T x y) → (∀ c o, b.get? c = some o → h'.get? c = some o) → b.objs.size ≤ h'.objs.size →
        Q (Us.map Value.ref) { s with heap := h' }) : wpAny (model prog w) A (collect (.ref z)) Q E s := by
  have lz := lt_of Z.hz
  obtain ⟨u, v, hO⟩ := Z.hO
  have lO := lt_of hO
  have lI := lt_of Z.ti
  obtain ⟨o1, e1, c1, d1⟩ := id Z.n1
  obtain ⟨o2, e2, c2, d2⟩ := id Z.n2
  obtain ⟨o3, e3, _⟩ := id Z.g1
  obtain ⟨o4, e4, _⟩ := id Z.g2
  unfold collect
  refine wpAny_bind (wpAny_runValue (codeAny_builtin F.entry_proto_collect ?_))
  rw [Around.under_plainId F.plain_proto_collect]
  show wpAny _ _ (newObj (.type "list") (Data.seq #[]) >>= _) _ _ _
  refine wpAny_bind (wpAny_newObj_type (wpAny_pure ⟨plainId_quiet F.plain_list_iadd _, codeAny_builtin F.entry_list_iadd ?_⟩))
  rw [Around.under_plainId F.plain_list_iadd]
  show wpAny _ _ (Builtin.List.listExtendWith (.ref s.heap.objs.size) (.ref z) (.ref s.heap.objs.size)) _ _ _
  have new0 : (s.heap.push { cls := .type "list", data := .seq #[] }).get? s.heap.objs.size = some { cls := .type "list", data := .seq #[] } := Heap.get?_push_size _ rfl
  have old0 : ∀ c o, s.heap.get? c = some o → (s.heap.push { cls := .type "list", data := .seq #[] }).get? c = some o := fun c o e => Heap.get?_push_of_some _ e
  have ty : ({ s with heap := s.heap.push { cls := .type "list", data := .seq #[] } } : Shared).TypeIs (.ref z) "zip" := ⟨_, old0 _ _ Z.hz, rfl⟩
  have ne : s.heap.objs.size ≠ z := Nat.ne_of_gt lz
  have same : Builtin.List.listSameRef (.ref s.heap.objs.size) (.ref z) = false := by simp [Builtin.List.listSameRef, ne]
  unfold Builtin.List.listExtendWith
  refine wpAny_bind (wpAny_typeOf ty ?_)
  rw [if_neg (by rw [same]; decide)]
  refine wpAny_bind (wpAny_pyIter_zip (old0 _ _ Z.hz) (wpAny_bind (wpAny_holding ?_)))
  unfold Builtin.List.listLengthHint
  refine wpAny_bind (wpAny_specialOf ty nolen_zip ?_)
  show wpAny _ _ (specialOf (Value.ref z) (Str.ofString "__length_hint__") >>= _) _ _ _
  refine wpAny_bind (wpAny_specialOf ty nohint_zip (wpAny_pure ?_))
  rw [if_pos (by rfl)]
  refine wpAny_bind (wpAny_rule ?_)
  show wpAny _ _ (Builtin.List.listTouch (.ref s.heap.objs.size) >>= _) _ _ _
  refine wpAny_bind ?_
  unfold Builtin.List.listTouch
  have up1 := Heap.get?_update_self (Obj.mapSeq fun x => x.push Value.none) new0 rfl
  refine wpAny_bind (show wpAny _ _ (updateSeq s.heap.objs.size fun x => x.push Value.none) _ _ _ from wpAny_updateSeq new0 rfl ?_ (by simp) (by simp))
  refine show wpAny _ _ (updateSeq s.heap.objs.size fun x => x.pop) _ _ _ from wpAny_updateSeq up1 rfl ?_ (by simp [sizeLine_eq]) (by simp)
  have up2 := Heap.get?_update_self (Obj.mapSeq fun x => x.pop) up1 rfl
  generalize hhh : (((s.heap.push { cls := .type "list", data := .seq #[] }).update s.heap.objs.size (Obj.mapSeq fun x => x.push Value.none)).update s.heap.objs.size (Obj.mapSeq fun x => x.pop)) = h2 at up2 ⊢
  have old : ∀ c o, c ≠ s.heap.objs.size → s.heap.get? c = some o → h2.get? c = some o := fun c o hc e => by
    rw [← hhh]
    exact (Heap.get?_update_other _ _ hc.symm).trans ((Heap.get?_update_other _ _ hc.symm).trans (old0 c o e))
  have hsz : h2.objs.size = s.heap.objs.size + 1 := by rw [← hhh, Heap.size_update, Heap.size_update, Heap.size_push]
  have old1 : ∀ c o, s.heap.get? c = some o → h2.get? c = some o := fun c o e => old c o (Nat.ne_of_lt (lt_of e)) e
  refine wpAny_pure ⟨plainId_quiet F.plain_extend_loop _, ?_⟩
  refine zip_loop (S := s.heap.objs.size) (b := b) (xs := xs) (ys := ys) hh ⟨Z.D, Z.bz, Z.bO, Z.b1, Z.b2, Z.sz, ne, Nat.ne_of_gt lI, Nat.ne_of_gt lO, Nat.ne_of_gt (lt_of e1), Nat.ne_of_gt (lt_of e2), Nat.ne_of_gt (lt_of e3), Nat.ne_of_gt (lt_of e4)⟩ hl hn _ [] { s with heap := h2 } rfl (Nat.zero_le _) ⟨.inl ⟨rfl, old1 _ _ Z.hz, u, v, old1 _ _ hO⟩, old1 _ _ Z.ti, Z.n1.at fun o e => old1 _ _ e, Z.n2.at fun o e => old1 _ _ e, Z.g1.at fun o e => old1 _ _ e, Z.g2.at fun o e => old1 _ _ e, (fun j T h => by cases h), List.nodup_nil, fun c o e => old1 _ _ (Z.kp c o e), ?_, ?_⟩ ?_
  · show b.objs.size ≤ h2.objs.size
    rw [hsz]
    exact Nat.le_succ_of_le Z.sz
  · exact ⟨_, up2⟩
  · rintro h' Us u1 u2 u3 u4 ⟨c, hc⟩
    show wpAny _ _ (load s.heap.objs.size >>= _) _ _ _
    refine wpAny_bind (wpAny_load hc ?_)
    have := q h' Us u1 u2 u3 u4 (Nat.le_trans Z.sz (Nat.le_of_lt (lt_of hc)))
    exact wpAny_pure (by simpa using this)
theorem made_tuple {b : Heap} {Q : Value → Shared → Prop} (hh : A.handled = none) (Z : Zn z TI TO i1 i2 l1 l2 xs ys b s.heap) (hl : xs.size = ys.size) (hn : xs.size ≤ sizeLine)
    (q : ∀ (h' : Heap) (Us : List Addr), Us.length = xs.size → Us.Nodup → (∀ (j : Nat) (T : Addr), Us[j]? = some T → b.objs.size ≤ T ∧ ∃ x y, xs[j]? = some x ∧ ys[j]? = some y ∧ IsPair h' T x y) → (∀ c o, b.get? c = some o → h'.get? c = some o) → b.objs.size ≤ h'.objs.size →
        Q (.ref h'.objs.size) { s with heap := h'.push { cls := .type "tuple", data := .seq (Us.map Value.ref).toArray } }) : wpAny (model prog w) A (call (.type "tuple") [.ref z]) Q E s := by
  refine callType_codes (Q₁ := fun v t => t.TypeIs v "tuple" ∧ Q v t) F.called_tuple (F.typeCall_tuple_1 _) F.entry_object_init (codeAny_of_tree ?_) fun obj s₁ h₁ =>
    ⟨h₁.1, F.args_object_init_2 obj _, object_init_meets F.called_tuple.init.lookup F.called_tuple.made (by decide) prog w _ _ s₁ ⟨h₁.1, rfl, h₁.2⟩⟩
  refine wpAny_bind (wpAny_of_eq (F.newCall_tuple_1 (.ref z)) (wpAny_pure ⟨plainId_quiet F.plain_tuple_new _, codeAny_builtin F.entry_tuple_new ?_⟩))
  rw [Around.under_plainId F.plain_tuple_new]
  have ty : s.TypeIs (.ref z) "zip" := ⟨_, Z.hz, rfl⟩
  show wpAny _ _ (isType (Value.type "tuple") >>= _) _ _ _
  refine wpAny_bind (show wpAny _ _ (pure true) _ _ _ from wpAny_pure (wpAny_ite_false rfl (wpAny_bind (wpAny_of_eq sub_tuple_self ?_))))
  refine wpAny_ite_false rfl (wpAny_ite_false rfl (wpAny_bind (wpAny_of_eq madeHere_tuple (wpAny_bind (wpAny_of_eq init_tuple_lookup (wpAny_ite_true rfl (wpAny_bind ?_)))))))
  show wpAny _ _ (if _ then pure () else _) _ _ _
  refine wpAny_ite_true rfl ?_
  refine wpAny_pure ?_
  show wpAny _ _ (checkCount "tuple" 0 1 1 >>= _) _ _ _
  refine wpAny_bind ?_
  unfold checkCount
  refine wpAny_ite_false rfl ?_
  refine wpAny_ite_false rfl ?_
  refine wpAny_ite_false rfl ?_
  refine wpAny_pure ?_
  dsimp only
  refine wpAny_ite_true rfl ?_
  show wpAny _ _ (Builtin.Tuple.tupleIsExact (.ref z) >>= _) _ _ _
  refine wpAny_bind ?_
  show wpAny _ _ (typeOf (Value.ref z) >>= _) _ _ _
  refine wpAny_bind (wpAny_typeOf ty (wpAny_pure ?_))
  refine wpAny_ite_false rfl ?_
  refine wpAny_bind ?_
  refine collect_zip hh Z hl hn fun h' Us u1 u2 u3 u4 u5 => ?_
  show wpAny _ _ (newObj (.type "tuple") (Data.seq (Us.map Value.ref).toArray) >>= _) _ _ _
  refine wpAny_bind (wpAny_newObj_type (wpAny_pure ⟨⟨_, Heap.get?_push_size _ rfl, rfl⟩, ?_⟩) (by show (Us.map Value.ref).toArray.size ≤ sizeLine; rw [List.size_toArray, List.length_map, u1]; exact hn))
  exact q h' Us u1 u2 u3 u4 u5
end
section
variable {X : Cx}
/-- pairs of things at new places -/
def updP : Hp → List Addr → List V → List V → Hp
  | H, T :: Ts, x :: xs, y :: ys => updP (upd H T (.tup [x, y])) Ts xs ys
  | H, _, _, _ => H
theorem hok_new {P : Program} {w : World} {H : Hp} {h : Heap} {a : Addr} {o : HO} (g : HOk P w H h) (hn : H a = none) (new : ObjOk P w (upd H a o) h a o) : HOk P w (upd H a o) h := fun b u e => by
  by_cases hb : b = a
  · subst hb
    rw [upd_same] at e
    cases e
    exact new
  · rw [upd_ne hb] at e
    exact (g b u e).stay (fun c v _ q => q) (fun c q => by rw [upd_ne (ne_of_none q hn)]; exact q) (fun c xs q => by rw [upd_ne (ne_of_none q hn)]; exact q)
theorem hok_pairs {P : Program} {w : World} {h : Heap} : ∀ (Ts : List Addr) (xs ys : List V) (us vs : List Value) (H : Hp), Vals xs us → Vals ys vs → Ts.length = xs.length → Ts.length = ys.length → Ts.Nodup → (∀ T ∈ Ts, H T = none) →
    (∀ (j : Nat) (T : Addr), Ts[j]? = some T → ∃ x y, us[j]? = some x ∧ vs[j]? = some y ∧ IsPair h T x y) → HOk P w H h → HOk P w (updP H Ts xs ys) h ∧ ∀ b, b ∉ Ts → updP H Ts xs ys b = H b
  | [], xs, ys, us, vs, H, _, _, _, _, _, _, _, g => ⟨by cases xs <;> exact g, fun b _ => by cases xs <;> rfl⟩
  | T :: Ts, x :: xs, y :: ys, _, _, H, .cons (b := u) rx rxs, .cons (b := v) ry rys, h1, h2, nd, hn, hp, g => by
    obtain ⟨n1, n2⟩ := List.nodup_cons.mp nd
    have hT := hn T List.mem_cons_self
    obtain ⟨u', v', e1, e2, hpr⟩ := hp 0 T rfl
    cases e1; cases e2
    have g' : HOk P w (upd H T (.tup [x, y])) h := hok_new g hT ⟨by show 2 ≤ sizeLine; decide, [u, v], .cons rx (.cons ry .nil), ⟨_, hpr, rfl, _, rfl⟩⟩
    obtain ⟨r1, r2⟩ := hok_pairs Ts xs ys _ _ (upd H T (.tup [x, y])) rxs rys (by simpa using h1) (by simpa using h2) n2 (fun U hU => by
      rw [upd_ne (fun e => n1 (by rw [← e]; exact hU))]
      exact hn U (List.mem_cons_of_mem _ hU)) (fun j U hj => hp (j + 1) U hj) g'
    exact ⟨r1, fun b hb => by
      rw [List.mem_cons, not_or] at hb
      exact (r2 b hb.2).trans (upd_ne hb.1)⟩
  | T :: Ts, [], _, _, _, _, _, _, h1, _, _, _, _, _ => by simp at h1
  | T :: Ts, _ :: _, [], _, _, _, _, _, _, h2, _, _, _, _ => by simp at h2
def tTupZip (K : PySem.W.Frag) (ta : TA) : TE := fun σ H Q => ta σ H fun vs H1 => ∃ (a b : Addr) (xs ys : List V), vs = [.ref a, .ref b] ∧ SqT K H1 a xs ∧ SqT K H1 b ys ∧ xs.length = ys.length ∧
  ∀ (Ts : List Addr) (q : Addr), Ts.length = xs.length → Ts.Nodup → (∀ T ∈ Ts, H1 T = none) → H1 q = none → q ∉ Ts → Q (.ref q) (upd (updP H1 Ts xs ys) q (.tup (Ts.map .ref)))
theorem vals_refs : ∀ Ts : List Addr, Vals (Ts.map V.ref) (Ts.map Value.ref)
  | [] => .nil
  | _ :: Ts => .cons rfl (vals_refs Ts)
theorem inv_pairs {pins : List (Addr × Obj)} {σ : L2.St} {H : Hp} {s : Shared} {h' : Heap} {xs ys : List V} {us vs : List Value} {Ts : List Addr} (I : Inv X pins σ H s) (rx : Vals xs us) (ry : Vals ys vs) (h1 : Ts.length = xs.length) (h2 : Ts.length = ys.length) (hn : xs.length ≤ sizeLine) (nd : Ts.Nodup)
    (hp : ∀ (j : Nat) (T : Addr), Ts[j]? = some T → s.heap.objs.size ≤ T ∧ ∃ x y, us[j]? = some x ∧ vs[j]? = some y ∧ IsPair h' T x y) (kp : ∀ c o, s.heap.get? c = some o → h'.get? c = some o) (sz : s.heap.objs.size ≤ h'.objs.size) :
    (∀ T ∈ Ts, H T = none) ∧ H h'.objs.size = none ∧ h'.objs.size ∉ Ts ∧ Inv X pins σ (upd (updP H Ts xs ys) h'.objs.size (.tup (Ts.map .ref))) { s with heap := h'.push { cls := .type "tuple", data := .seq (Ts.map Value.ref).toArray } } := by
  have kp2 : ∀ c o, h'.get? c = some o → (h'.push { cls := .type "tuple", data := .seq (Ts.map Value.ref).toArray }).get? c = some o := fun c o e => Heap.get?_push_of_some _ e
  have f1 : ∀ T ∈ Ts, H T = none := fun T hT => by
    obtain ⟨j, hj⟩ := List.getElem?_of_mem hT
    exact I.hok.fresh (hp j T hj).1
  have f2 : H h'.objs.size = none := I.hok.fresh sz
  have f3 : h'.objs.size ∉ Ts := fun hT => by
    obtain ⟨j, hj⟩ := List.getElem?_of_mem hT
    obtain ⟨_, x, y, _, _, p⟩ := hp j _ hj
    exact Nat.lt_irrefl _ (lt_of p)
  have g0 : HOk X.prog X.w H (h'.push { cls := .type "tuple", data := .seq (Ts.map Value.ref).toArray }) := I.hok.kept fun c o e => kp2 c o (kp c o e)
  obtain ⟨g1, g2⟩ := hok_pairs Ts xs ys us vs H rx ry h1 h2 nd f1 (fun j T hj => by obtain ⟨_, x, y, e1, e2, p⟩ := hp j T hj; exact ⟨x, y, e1, e2, kp2 _ _ p⟩) g0
  have e3 : updP H Ts xs ys h'.objs.size = none := (g2 _ f3).trans f2
  have g3 := hok_new (o := .tup (Ts.map V.ref)) g1 e3 ⟨by rw [List.length_map, h1]; exact hn, Ts.map Value.ref, vals_refs Ts, ⟨_, Heap.get?_push_size _ rfl, rfl, _, rfl⟩⟩
  have same : ∀ b, (b < s.heap.objs.size) → upd (updP H Ts xs ys) h'.objs.size (.tup (Ts.map .ref)) b = H b := fun b hb => by
    rw [upd_ne (Nat.ne_of_lt (Nat.lt_of_lt_of_le hb sz))]
    exact g2 b fun hT => by
      obtain ⟨j, hj⟩ := List.getElem?_of_mem hT
      exact Nat.lt_irrefl _ (Nat.lt_of_lt_of_le hb (hp j b hj).1)
  have lt : ∀ b o, H b = some o → b < s.heap.objs.size := fun b o e => I.hok.lt e
  refine ⟨f1, f2, f3, I.un (t' := s.toks) ⟨fun b o e n _ _ => kp2 b o (kp b o e), fun b o e n _ _ => ⟨o.slots, kp2 b o (kp b o e)⟩, fun b o e n _ => ?_, fun b o e _ => ⟨o, kp2 b o (kp b o e)⟩, fun b xs e => ?_, fun b o u e => ?_, fun b ps e => ⟨#[], ?_⟩⟩ g3⟩
  · exact (same b (lt_of e)).trans n
  · exact (same b (lt b _ e)).trans e
  · exact (same b (lt b _ e)).trans e
  · rw [Array.append_empty]; exact (same b (lt b _ e)).trans e
theorem pe_tupZip {e e2 : Expr} {ta : TA} {p p2 pos pos2 : Pos} (calm : X.calm = true) (gl : Gl X "tuple") (zl : X.mg "tuple" = none) (gr : Gl X "zip") (zr : X.mg "zip" = none) (ha : PA X [e, e2] ta)
    (hs : starEach [e, e2] X.env = (false, eval e X.env) :: starEach [e2] X.env := by rfl) (hpl : ((backTo pos2 (starEach [e2] X.env)).any fun x => x.1) = false := by rfl)
    (two : starEach [.Call (.Name "zip" p2) [e, e2] [] pos2] X.env = (false, eval (.Call (.Name "zip" p2) [e, e2] [] pos2) X.env) :: starEach [] X.env := by rfl) :
    PE X (.Call (.Name "tuple" p) [.Call (.Name "zip" p2) [e, e2] [] pos2] [] pos) (tTupZip X.K ta) := by
  refine ⟨fun pins s σ H Q inv want => ?_⟩
  refine Call_ (ld_blt inv gl zl boot_tuple (PyProof.Rows.callWith_type1 (args_cons (Call_ (ld_blt inv gr zr boot_zip (PyProof.Rows.callWith_type1 (thn (ha.run pos2 pins s σ H _ inv want) fun us s1 ⟨vs, H1, I1, r1, q1⟩ => ?_) hs hpl))) two) two rfl))
  obtain ⟨a, b, xs, ys, rfl, sa, sb, hl, q⟩ := q1
  cases r1 with
  | cons r rr =>
    cases rr with
    | cons r2 rr =>
      cases rr
      cases r
      cases r2
      obtain ⟨its, rv, pa, za⟩ := I1.tuple sa
      obtain ⟨jts, rw_, pb, zb⟩ := I1.tuple sb
      have pa' : s1.heap.IsTuple a its.toArray := pa
      have pb' : s1.heap.IsTuple b jts.toArray := pb
      have la := rv.length
      have lb := rw_.length
      obtain ⟨oa, ea, _⟩ := id pa'
      obtain ⟨ob, eb, _⟩ := id pb'
      have ha : @LT.lt Nat _ a s1.heap.objs.size := lt_of ea
      have hb : @LT.lt Nat _ b s1.heap.objs.size := lt_of eb
      refine RZ.call_zipT pa' pb' fun h' z1 z2 z3 z4 z5 z6 z7 => args_nil ?_
      have D : ZipApart (s1.heap.objs.size + 4) (s1.heap.objs.size + 2) (s1.heap.objs.size + 3) s1.heap.objs.size (s1.heap.objs.size + 1) a b := by
        constructor <;> (show ¬ (_ = _)) <;> intro h <;> (have h : (_ : Nat) = _ := h) <;> omega
      refine made_tuple (s := { s1 with heap := h' }) (b := s1.heap) (xs := its.toArray) (ys := jts.toArray) (I1.ok.hd calm) ⟨D, Nat.le_add_right _ _, Nat.le_add_right _ _, Nat.le_refl _, Nat.le_add_right _ _, z1, ⟨_, _, z3⟩, z2, z4, z5, pa'.at fun o e => z7 _ _ e, pb'.at fun o e => z7 _ _ e, z7, by show s1.heap.objs.size ≤ h'.objs.size; rw [z6]; exact Nat.le_add_right _ _⟩ (by rw [List.size_toArray, List.size_toArray, ← la, ← lb, hl]) (by rw [List.size_toArray, ← la]; exact za) fun h2 Us u1 u2 u3 u4 u5 => ?_
      have u1' : Us.length = xs.length := by rw [u1, List.size_toArray, la]
      obtain ⟨f1, f2, f3, J⟩ := inv_pairs (h' := h2) (Ts := Us) I1 rv rw_ u1' (u1'.trans hl) za u2 (fun j T hj => by
        obtain ⟨p1, x, y, p2, p3, p4⟩ := u3 j T hj
        exact ⟨p1, x, y, by simpa using p2, by simpa using p3, p4⟩) u4 u5
      exact ⟨.ref h2.objs.size, _, J, rfl, q Us _ u1' u2 f1 f2 f3⟩
theorem pe_tupZipK {K : PySem.W.Frag} (hK : X.K = K) {e e2 : Expr} {ta : TA} {p p2 pos pos2 : Pos} (calm : X.calm = true) (gl : Gl X "tuple") (zl : X.mg "tuple" = none) (gr : Gl X "zip") (zr : X.mg "zip" = none) (ha : PA X [e, e2] ta)
    (hs : starEach [e, e2] X.env = (false, eval e X.env) :: starEach [e2] X.env := by rfl) (hpl : ((backTo pos2 (starEach [e2] X.env)).any fun x => x.1) = false := by rfl)
    (two : starEach [.Call (.Name "zip" p2) [e, e2] [] pos2] X.env = (false, eval (.Call (.Name "zip" p2) [e, e2] [] pos2) X.env) :: starEach [] X.env := by rfl) :
    PE X (.Call (.Name "tuple" p) [.Call (.Name "zip" p2) [e, e2] [] pos2] [] pos) (tTupZip K ta) := by subst hK; exact pe_tupZip calm gl zl gr zr ha hs hpl two
theorem pi_zipAK {K : PySem.W.Frag} (hK : X.K = K) {e e2 : Expr} {ta : TA} {p pos tpos : Pos} {elts : List Expr} {kk : Nat} (hg : Gl X "zip") (hm : X.mg "zip" = none) (ha : PA X [e, e2] ta)
    (hs : starEach [e, e2] X.env = (false, eval e X.env) :: starEach [e2] X.env := by rfl) (hpl : ((backTo pos (starEach [e2] X.env)).any fun x => x.1) = false := by rfl) :
    PI X (.Tuple elts kk tpos) (.Call (.Name "zip" p) [e, e2] [] pos) (RZ.iZipA K ta) := by subst hK; exact RZ.pi_zipA hg hm ha hs hpl
end
end Lv
/-! a list that is changed == a list that is not -/
namespace Pd
open PySem PySem.Spec PyProof.Rows L2 GxR Gx
def oEqL : F2 := fun a b S => match b with
  | .d (.list ds) => (lstAt a S).bind fun l => (dOf l.2).bind fun us => if SeqAt.shaped (.list us) = true ∧ SeqAt.shaped (.list ds) = true then some (.d (.bool (PyData.eqv (.list us) (.list ds))), S) else none
  | _ => none
section
variable {K : PySem.W.Frag} {tb : List Addr}
theorem sr_eqL : SR K tb (rEqA K) oEqL := fun A x y a b S w S' Q R ra rb e q => by
  unfold oEqL at e
  split at e
  · rename_i ds
    obtain ⟨⟨n, ws⟩, e1, e⟩ := Option.bind_eq_some_iff.mp e
    obtain ⟨us, e2, e⟩ := Option.bind_eq_some_iff.mp e
    split at e
    · rename_i hs
      cases e
      obtain ⟨_, _, p, xs, rfl, _, ep, rx⟩ := lstAt_run R ra e1
      have hd : Dp K A.H (.ref p) (.list us) := .lst (.inl (.inl ep)) (DRs.dp us (drs_of rx e2) (SeqAt.canLay_of_shaped hs.1))
      exact .inr ⟨_, _, hd, DR.dp _ rb (SeqAt.canLay_of_shaped hs.2), hs.1, hs.2, q _ A .refl R (DR.bl _)⟩
    · cases e
  · cases e
end
end Pd
/-! the mirrors of zip -/
namespace Pd
open PySem PySem.Spec PyProof.Rows L2 GxR Gx
section
variable {K : PySem.W.Frag} {tb : List Addr}
def zipD : List PyData → List PyData → List PyData
  | d :: ds, e :: es => .tuple [d, e] :: zipD ds es
  | _, _ => []
def zipW (ds es : List PyData) : List W := (zipD ds es).map W.d
def iZipM (a : MA) : MI := fun ρ S => (a ρ S).bind fun p => match p.1 with
  | [.d (.tuple ds), .d (.tuple es)] => if ds.length = es.length then some (.vals (zipW ds es), p.2) else none
  | _ => none
def eTupZip (a : MA) : ME := fun ρ S => (a ρ S).bind fun p => match p.1 with
  | [.d (.tuple ds), .d (.tuple es)] => if ds.length = es.length then some (.d (.tuple (zipD ds es)), p.2) else none
  | _ => none
theorem zipD_get : ∀ {ds es : List PyData} {i : Nat} {w : PyData}, (zipD ds es)[i]? = some w → ∃ d e, ds[i]? = some d ∧ es[i]? = some e ∧ w = .tuple [d, e]
  | d :: ds, e :: es, 0, w, h => by cases h; exact ⟨d, e, rfl, rfl, rfl⟩
  | d :: ds, e :: es, i + 1, w, h => zipD_get (ds := ds) (es := es) h
  | [], es, i, w, h => by cases h
  | _ :: _, [], i, w, h => by cases h
theorem zipD_len : ∀ {ds es : List PyData}, ds.length = es.length → (zipD ds es).length = ds.length
  | [], [], _ => rfl
  | d :: ds, e :: es, h => by
    rw [zipD, List.length_cons, List.length_cons, zipD_len (by simpa using h)]
theorem itz_ok {A : Wd} {a b : Addr} {xs ys : List V} {ds es : List PyData} (f : FzT K tb A a xs) (g : FzT K tb A b ys) (r : DRs K tb A xs ds) (r' : DRs K tb A ys es) (hl : ds.length = es.length) : ItOk K tb A (RZ.ItzT K a b) (.vals (zipW ds es)) := fun B S ws N R e => by
  cases (show zipW ds es = ws from e)
  have f' := (f.nxw N).sq
  have g' := (g.nxw N).sq
  have rl := r.length
  have rl' := r'.length
  refine ⟨fun i w hw => ?_, fun i hi => ⟨xs, ys, f', g', .inl (by unfold zipW at hi; rw [List.length_map, zipD_len hl] at hi; omega)⟩⟩
  unfold zipW at hw
  rw [List.getElem?_map] at hw
  obtain ⟨_, hw1, rfl⟩ := Option.map_eq_some_iff.mp hw
  obtain ⟨d, e, e1, e2, rfl⟩ := zipD_get hw1
  obtain ⟨v, e3, r3⟩ := r.get' e1
  obtain ⟨u, e4, r4⟩ := r'.get' e2
  refine ⟨⟨xs, ys, v, u, f', g', e3, e4⟩, fun x H2 y => ?_⟩
  obtain ⟨T, x', y', rfl, hT, rfl, y1, y2⟩ := y
  have y1 := y1 xs f'
  have y2 := y2 ys g'
  rw [e3] at y1; cases y1
  rw [e4] at y2; cases y2
  exact ⟨B.put T _, rfl, .put hT _, R.put hT _, DR.tup (.inl (.put R hT _)) (.cons (DR.nxt (.put hT _) d (DR.nxw N d r3)) (.cons (DR.nxt (.put hT _) e (DR.nxw N e r4)) .nil))⟩
theorem wrs2 {A : Wd} {vs : List V} {a b : W} (h : WRs K tb A vs [a, b]) : ∃ v u, vs = [v, u] ∧ WR K tb A v a ∧ WR K tb A u b := by
  cases h with
  | cons r rr =>
    cases rr with
    | cons r2 rr =>
      cases rr
      exact ⟨_, _, rfl, r, r2⟩
theorem si_zipT {t : TA} {a : MA} (ha : SA K tb t a) : SI K tb (RZ.iZipA K t) (iZipM a) := fun A σ ρ S im S' R' R E e q => by
  obtain ⟨⟨ws, S1⟩, e1, e⟩ := Option.bind_eq_some_iff.mp e
  refine ha A σ ρ S ws S1 _ R E e1 fun vs B N R1 r => ?_
  dsimp only at e
  split at e
  · split at e
    · rename_i hl
      cases e
      obtain ⟨v, u, rfl, r1, r2⟩ := wrs2 r
      obtain ⟨a, xs, rfl, f, rd⟩ := r1.tup
      obtain ⟨b, ys, rfl, f2, rd2⟩ := r2.tup
      exact ⟨a, b, xs, ys, rfl, .inr ⟨f.sq, f2.sq, q _ B N R1 (itz_ok f f2 rd rd2 hl)⟩⟩
    · cases e
  · cases e
theorem updP_ne {b : Addr} : ∀ (Ts : List Addr) (xs ys : List V) (H : Hp), b ∉ Ts → Lv.updP H Ts xs ys b = H b
  | [], xs, ys, H, _ => by cases xs <;> rfl
  | T :: Ts, [], _, _, _ => rfl
  | T :: Ts, _ :: _, [], _, _ => rfl
  | T :: Ts, x :: xs, y :: ys, H, h => by
    rw [List.mem_cons, not_or] at h
    exact (updP_ne Ts xs ys (upd H T (.tup [x, y])) h.2).trans (upd_ne h.1)
theorem rep_pairs : ∀ (Ts : List Addr) (xs ys : List V) (ds es : List PyData) (A : Wd) (S : Mem), Rep K tb A S → DRs K tb A xs ds → DRs K tb A ys es → Ts.length = ds.length → Ts.length = es.length → Ts.Nodup → (∀ T ∈ Ts, A.H T = none) →
    ∃ B, B.H = Lv.updP A.H Ts xs ys ∧ Nxt tb A B ∧ Rep K tb B S ∧ DRs K tb B (Ts.map .ref) (zipD ds es)
  | [], xs, ys, ds, es, A, S, R, r1, r2, h1, h2, _, _ => by
    have : ds = [] := List.eq_nil_of_length_eq_zero h1.symm
    subst this
    exact ⟨A, by cases xs <;> rfl, .refl, R, .nil⟩
  | T :: Ts, xs, ys, ds, es, A, S, R, r1, r2, h1, h2, nd, hn => by
    match ds, es, r1, r2, h1, h2 with
    | d :: ds, e :: es, .cons (vs := xs) (v := x) a1 b1, .cons (vs := ys) (v := y) a2 b2, h1, h2 =>
      obtain ⟨n1, n2⟩ := List.nodup_cons.mp nd
      have hT := hn T List.mem_cons_self
      have N1 : Nxt tb A (A.put T (.tup [x, y])) := .put hT _
      have R1 := R.put hT (.tup [x, y])
      have dr : DR K tb (A.put T (.tup [x, y])) (.ref T) (.tuple [d, e]) := DR.tup (.inl (.put R hT _)) (.cons (DR.nxt N1 d a1) (.cons (DR.nxt N1 e a2) .nil))
      obtain ⟨B, b1', b2', b3', b4'⟩ := rep_pairs Ts xs ys ds es (A.put T (.tup [x, y])) S R1 (DRs.nxt N1 ds b1) (DRs.nxt N1 es b2) (by simpa using h1) (by simpa using h2) n2 fun U hU => by
        show upd A.H T _ U = none
        rw [upd_ne (fun e => n1 (by rw [← e]; exact hU))]
        exact hn U (List.mem_cons_of_mem _ hU)
      exact ⟨B, b1', N1.trans b2', b3', .cons (DR.nxt b2' _ dr) b4'⟩
    | [], _, _, _, h1, _ => simp at h1
    | _ :: _, [], _, _, _, h2 => simp at h2
theorem se_tupZip {t : TA} {a : MA} (ha : SA K tb t a) : SE K tb (Lv.tTupZip K t) (eTupZip a) := fun A σ ρ S w S' Q R E e q => by
  obtain ⟨⟨ws, S1⟩, e1, e⟩ := Option.bind_eq_some_iff.mp e
  refine ha A σ ρ S ws S1 _ R E e1 fun vs B N R1 r => ?_
  dsimp only at e
  split at e
  · rename_i ds es
    split at e
    · rename_i hl
      cases e
      obtain ⟨v, u, rfl, r1, r2⟩ := wrs2 r
      obtain ⟨a, xs, rfl, f, rd⟩ := r1.tup
      obtain ⟨b, ys, rfl, f2, rd2⟩ := r2.tup
      have l1 := rd.length
      have l2 := rd2.length
      refine ⟨a, b, xs, ys, rfl, f.sq, f2.sq, by omega, fun Ts p h1 h2 h3 h4 h5 => ?_⟩
      obtain ⟨C, c1, c2, c3, c4⟩ := rep_pairs Ts xs ys ds es B _ R1 rd rd2 (by omega) (by omega) h2 h3
      have hp : C.H p = none := by
        rw [c1]
        exact (updP_ne Ts xs ys B.H h5).trans h4
      rw [← c1]
      exact q _ (C.put p (.tup (Ts.map .ref))) ((N.trans c2).trans (.put hp _)) (c3.put hp _) (DR.tup (.inl (.put c3 hp _)) (DRs.nxt (.put hp _) _ c4))
    · cases e
  · cases e
/-! ### extend by a tuple -/
def rExtendT (K : PySem.W.Frag) : V → List V → Hp → VK → Prop := fun x vs H Q => ∃ (l b : Addr) (xs zs : List V), x = .ref l ∧ vs = [.ref b] ∧ H l = some (.lst xs) ∧ SqT K H b zs ∧ xs.length + zs.length ≤ sizeLine ∧ Q .non (upd H l (.lst (xs ++ zs)))
theorem mt_extendTK {X : Cx} {K : PySem.W.Frag} (hK : X.K = K) : MtM X "list.extend" (rExtendT K) := by
  subst hK
  intro pins s σ H x vs v us Q I rx rv h
  obtain ⟨l, b, xs, zs, rfl, rfl, hH, hB, hz, q⟩ := h
  cases rx
  obtain ⟨u, rfl, ru⟩ := rv.one
  cases ru
  obtain ⟨z, its, n, r, hl, e⟩ := I.lstM hH
  obtain ⟨its2, r2, e2, _⟩ := I.tuple hB
  obtain ⟨o2, g1, g2, n2, g3⟩ := e2
  have hl2 := r2.length
  have hsz : its.toArray.size + its2.toArray.size ≤ sizeLine := by rw [List.size_toArray, List.size_toArray]; omega
  have hlong : ¬ (!its.toArray.isEmpty && Builtin.List.listTooLong (its.toArray.size + its2.toArray.size)) = true := by
    rw [notLongL hsz, Bool.and_false]
    exact Bool.false_ne_true
  refine wpAny_call_entry F.slot_list_extend ⟨_, e, rfl⟩ F.entry_list_extend ?_ (F.args_list_extend_2 _ _)
  show wpAny _ _ (Builtin.List.listExtendWith (.ref l) (.ref b) .none) _ _ _
  unfold Builtin.List.listExtendWith
  refine wpAny_bind (wpAny_typeOf (T := "tuple") ⟨o2, g1, g2⟩ ?_)
  rw [if_pos (by simp)]
  unfold Builtin.List.listItems
  refine wpAny_bind (wpAny_bind (wpAny_seqItems g1 g3 (wpAny_pure ?_)))
  refine wpAny_bind (wpAny_bind (wpAny_seqItems e rfl (wpAny_pure ?_)))
  rw [if_neg hlong]
  refine wpAny_bind (show wpAny _ _ (updateSeq l fun x => x ++ its2.toArray) _ _ _ from wpAny_updateSeq e rfl (wpAny_pure ?_) (by simp only [List.size_toArray] at hsz ⊢; omega) (by rw [Array.size_append]; omega))
  refine ⟨.none, rfl, .non, _, I.lset (its' := its ++ its2) hH e (by simp) (r.append r2) ?_, rfl, q⟩
  rw [List.length_append]
  omega
def mExtendT : MM := fun a ws S => match ws with
  | [.d (.tuple ds)] => (lstAt a S).bind fun p => if p.2.length + ds.length ≤ sizeLine then some (.d .none, S.set p.1 (.lst (p.2 ++ ds.map .d))) else none
  | _ => none
theorem sm_extendT : SM K tb (rExtendT K) mExtendT := fun A x vs a ws S w S' Q R ra rs e q => by
  unfold mExtendT at e
  split at e
  · rename_i ds
    obtain ⟨⟨n, us⟩, e1, e⟩ := Option.bind_eq_some_iff.mp e
    dsimp only at e
    split at e
    · rename_i hl
      cases e
      obtain ⟨rfl, _, p, xs, rfl, ia, ep, rx⟩ := lstAt_run R ra e1
      obtain ⟨v, rfl, rv⟩ := wrs1 rs
      obtain ⟨b, zs, rfl, f, rd⟩ := WR.tup rv
      have l1 := rd.length
      exact ⟨p, b, xs, zs, rfl, rfl, ep, f.sq, by rw [WRs.length rx]; omega, lset_run (v := .non) (w := .d .none) R ia ep (rx.append (wrs_of rd)) DR.non q⟩
    · cases e
  · cases e
end
end Pd
/-! a dict that a loop walks: locked as long as it is walked -/
namespace Pd
open PySem PySem.Spec PyProof.Rows L2 GxR Gx
section
variable {K : PySem.W.Frag} {tb : List Addr}
/-- a dict's lock is taken away -/
theorem unlock_key {C : Wd} {n : Nat} {a : Addr} {o : HO} (ia : C.ι[n]? = some a) : ∀ (b : Addr) (u : HO), Fz tb C b u → Fz tb (C.put a o) b u := fun b u h => by
  have ne : b ≠ a := fun z => h.1 (.inl (by rw [z]; exact List.mem_of_getElem? ia))
  refine ⟨h.1, ?_⟩
  rcases h.2 with r | ⟨ob, r⟩
  · exact .inl (by show upd C.H a o b = _; rw [upd_ne ne]; exact r)
  · exact .inr ⟨ob, by show upd C.H a o b = _; rw [upd_ne ne]; exact r⟩
theorem unlock_wr {C : Wd} {n : Nat} {a : Addr} {o : HO} (ia : C.ι[n]? = some a) {v : V} {w : W} (h : WR K tb C v w) : WR K tb (C.put a o) v w := wr_key (unlock_key ia) (fun _ _ z => z) h
theorem unlock_er {C : Wd} {n : Nat} {a : Addr} {o : HO} (ia : C.ι[n]? = some a) {σ : L2.St} {ρ : Env'} (h : ER K tb C σ ρ) : ER K tb (C.put a o) σ ρ := ⟨h.1, fun i w e => by
  obtain ⟨v, e1, r⟩ := h.2 i w e
  exact ⟨v, e1, unlock_wr ia r⟩⟩
theorem unlock_rep {C : Wd} {S : Mem} {n : Nat} {a : Addr} {o : HO} {ob : Ob} (R : Rep K tb C S) (ia : C.ι[n]? = some a) (h : OR K tb (C.put a o) ob a) : Rep K tb (C.put a o) (S.set n ob) := by
  have hin := List.mem_of_getElem? ia
  have st : ∀ {b : Addr}, b ≠ a → (C.put a o).H b = C.H b := fun {b} e => upd_ne e
  refine ⟨by rw [List.length_set]; exact R.len, R.nd, fun P hP => ?_, fun b hb => ?_, fun m b ob' e1 e2 => ?_⟩
  · obtain ⟨ps, e, t⟩ := R.tabs P hP
    exact ⟨ps, by rw [st (R.tab_ne hin hP).symm]; exact e, t⟩
  · obtain ⟨⟨o', e⟩, n', t⟩ := R.hd b hb
    exact ⟨⟨o', by rw [st (fun z => n' (by rw [z]; exact hin))]; exact e⟩, n', t⟩
  · by_cases hm : m = n
    · subst hm
      have e1 : C.ι[m]? = some b := e1
      rw [ia] at e1; cases e1
      rw [List.getElem?_set_self (by rw [← R.len]; exact (List.getElem?_eq_some_iff.mp ia).1)] at e2
      cases e2
      exact h
    · rw [List.getElem?_set_ne (Ne.symm hm)] at e2
      have hb : b ≠ a := by
        rintro rfl
        obtain ⟨h1, q1⟩ := List.getElem?_eq_some_iff.mp ia
        obtain ⟨h2, q2⟩ := List.getElem?_eq_some_iff.mp e1
        exact hm ((List.getElem_inj R.nd).mp (q2.trans q1.symm))
      exact or_key (unlock_key ia) (fun _ _ z => z) (st hb) (R.at_ m b ob' e1 e2)
/-- what stood before the lock, and what stands behind it -/
theorem unlock_nxt {A C : Wd} {n : Nat} {a : Addr} {vs : List (Key × V)} {od : Obj} (ia : A.ι[n]? = some a) (ea : A.H a = some (.dK vs)) (N : Nxt tb (A.put a (.frz od (.dK vs))) C) : Nxt tb A (C.put a (.dK vs)) := by
  have hm : ∀ o u, A.H a ≠ some (.frz o u) := fun o u z => by rw [ea] at z; cases z
  have M := (Nxt.set (tb := tb) (o := .frz od (.dK vs)) ia hm).trans N
  have ne : ∀ {b}, b ∉ A.ι → b ≠ a := fun h z => h (by rw [z]; exact List.mem_of_getElem? ia)
  exact ⟨M.hid, M.hid2, fun b z => M.more b (upd_none z), M.pre, fun b o n t e => by
    obtain ⟨q, n'⟩ := M.keep b o n t e
    exact ⟨by show upd C.H a _ b = _; rw [upd_ne (ne n)]; exact q, n'⟩, fun b o u m e => by
    show upd C.H a _ b = _
    rw [upd_ne (fun z => hm o u (by rw [← z]; exact e))]
    exact M.frz b o u m e⟩
/-- the dict with this number is locked while b runs -/
def sLock (tg : Env' → Mem → Option Nat) (b : MS) : MS := fun ρ S => (tg ρ S).bind fun n => match S[n]? with
  | some (.dct kvs) => (b ρ (S.set n (.ldct kvs))).bind fun q => match q.2.2[n]? with
    | some (.ldct kvs') => some (q.1, q.2.1, q.2.2.set n (.dct kvs'))
    | _ => none
  | _ => none
theorem ss_lock {t : TS} {b : MS} {tg : Env' → Mem → Option Nat} (hb : SS K tb t b) : SS K tb (tLock t) (sLock tg b) := fun A σ ρ S o ρ' S' D R E e q => by
  obtain ⟨n, _, e⟩ := Option.bind_eq_some_iff.mp e
  split at e
  · rename_i kvs hS
    obtain ⟨⟨o1, ρ1, S1⟩, e1, e⟩ := Option.bind_eq_some_iff.mp e
    dsimp only at e
    split at e
    · rename_i kvs' hS1
      cases e
      obtain ⟨a, ia, vs, ea, pk⟩ := R.addr hS
      have hm : ∀ o u, A.H a ≠ some (.frz o u) := fun o u z => by rw [ea] at z; cases z
      refine ⟨a, .dK vs, ea, trivial, fun od => ?_⟩
      have N1 : Nxt tb A (A.put a (.frz od (.dK vs))) := .set ia hm
      have R1 : Rep K tb (A.put a (.frz od (.dK vs))) (S.set n (.ldct kvs)) := R.set ia hm ⟨od, vs, upd_same, PK'.nxt N1 pk⟩
      have key : ∀ {C : Wd}, Nxt tb (A.put a (.frz od (.dK vs))) C → Rep K tb C S1 → C.ι[n]? = some a ∧ C.H a = some (.frz od (.dK vs)) ∧ Rep K tb (C.put a (.dK vs)) (S1.set n (.dct kvs')) := fun {C} NC RC => by
        have iC : C.ι[n]? = some a := NC.ix ia
        have eC : C.H a = some (.frz od (.dK vs)) := NC.frz a od _ (List.mem_of_getElem? ia) upd_same
        obtain ⟨od', vs', e2, pk'⟩ := RC.at_ n a _ iC hS1
        rw [eC] at e2
        cases e2
        exact ⟨iC, eC, unlock_rep RC iC ⟨vs, upd_same, Paired.mapP pk' fun _ _ z => ⟨z.1, unlock_wr iC z.2⟩⟩⟩
      refine hb (A.put a (.frz od (.dK vs))) σ ρ _ o ρ' S1 _ R1 (E.nxt N1) e1 ?_
      cases o with
      | nx => exact fun C σ' NC RC EC => by obtain ⟨iC, eC, RU⟩ := key NC RC; exact ⟨eC, q (C.put a (.dK vs)) σ' (unlock_nxt ia ea NC) RU (unlock_er iC EC)⟩
      | bk => exact fun C σ' NC RC EC => by obtain ⟨iC, eC, RU⟩ := key NC RC; exact ⟨eC, q (C.put a (.dK vs)) σ' (unlock_nxt ia ea NC) RU (unlock_er iC EC)⟩
      | ct => exact fun C σ' NC RC EC => by obtain ⟨iC, eC, RU⟩ := key NC RC; exact ⟨eC, q (C.put a (.dK vs)) σ' (unlock_nxt ia ea NC) RU (unlock_er iC EC)⟩
      | rt w => exact fun C v NC RC r => by obtain ⟨iC, eC, RU⟩ := key NC RC; exact ⟨eC, q (C.put a (.dK vs)) v (unlock_nxt ia ea NC) RU (unlock_wr iC r)⟩
    · cases e
  · cases e
/-- the dict that a name holds -/
def lkV (i : Nat) : Env' → Mem → Option Nat := fun ρ _ => match ρ[i]? with
  | some (some (.loc n)) => some n
  | _ => none
/-! ### its keys -/
def keyD : Key → PyData
  | .inl i => .int i
  | .inr x => .str x
theorem keyD_dr {A : Wd} (k : Key) : DR K tb A (kV k) (keyD k) := by
  cases k with
  | inl i => exact .int i
  | inr x => exact .str x
theorem pk_get {A : Wd} : ∀ {vs : List (Key × V)} {kvs : KW}, PK' K tb A vs kvs → ∀ {i : Nat} {kv : Key × W}, kvs[i]? = some kv → ∃ pv, vs[i]? = some pv ∧ pv.1 = kv.1
  | _, _, .nil, i, kv, h => by cases h
  | _, _, .cons a b, 0, kv, h => by cases h; exact ⟨_, rfl, a.1⟩
  | _, _, .cons a b, i + 1, kv, h => pk_get b (i := i) h
def iKeysM (a : ME) : MI := fun ρ S => (a ρ S).bind fun p => match p.1 with
  | .loc n => match p.2[n]? with
    | some (.ldct kvs) => some (.vals ((kvs.map fun kv => keyD kv.1).map .d), p.2)
    | _ => none
  | _ => none
theorem si_keys {te : TE} {a : ME} (ha : SE K tb te a) : SI K tb (iKeys te) (iKeysM a) := fun A σ ρ S im S' R' R E e q => by
  obtain ⟨p, e1, e⟩ := Option.bind_eq_some_iff.mp e
  refine ha A σ ρ S p.1 p.2 _ R E e1 fun v B N R1 r1 => ?_
  split at e
  · rename_i n hw
    split at e
    · rename_i kvs hS
      cases e
      rw [hw] at r1
      obtain ⟨d, rfl, ia⟩ := r1
      obtain ⟨o, vs, ed, pk⟩ := R1.at_ n d _ ia hS
      refine ⟨d, o, rfl, .inl ⟨vs, ed, q _ B N R1 fun C S2 ws NC RC hn => ?_⟩⟩
      cases (show (kvs.map fun kv => keyD kv.1).map W.d = ws from hn)
      have eC : C.H d = some (.frz o (.dK vs)) := NC.frz d o _ (List.mem_of_getElem? ia) ed
      have hl : vs.length = kvs.length := pk.length
      refine ⟨fun i w hw => ?_, fun i hi => ⟨eC, by rw [List.length_map, List.length_map] at hi; omega⟩⟩
      rw [List.getElem?_map, List.getElem?_map] at hw
      obtain ⟨_, h1, rfl⟩ := Option.map_eq_some_iff.mp hw
      obtain ⟨kv, h2, rfl⟩ := Option.map_eq_some_iff.mp h1
      have hi := (List.getElem?_eq_some_iff.mp h2).1
      refine ⟨⟨eC, by omega⟩, fun x H2 y => ?_⟩
      obtain ⟨rfl, k, u, hk, rfl⟩ := y
      have e5 : k = kv.1 := by
        obtain ⟨pv, h4, h5⟩ := pk_get pk h2
        rw [hk] at h4
        cases h4
        exact h5
      exact ⟨C, rfl, .refl, RC, by rw [e5]; exact keyD_dr kv.1⟩
    · cases e
  · cases e
/-! ### reading a dict that is locked, or not -/
def dctAtR (w : W) (S : Mem) : Option KW := match w with
  | .loc n => match S[n]? with
    | some (.dct kvs) => some kvs
    | some (.ldct kvs) => some kvs
    | _ => none
  | _ => none
theorem dctAtR_run {A : Wd} {S : Mem} {v : V} {w : W} {kvs : KW} (R : Rep K tb A S) (r : WR K tb A v w) (h : dctAtR w S = some kvs) : ∃ a vs, v = .ref a ∧ Rd A.H a (.dK vs) ∧ PK' K tb A vs kvs := by
  unfold dctAtR at h
  split at h
  · rename_i m
    obtain ⟨a, rfl, ia⟩ := r
    split at h
    · rename_i e
      cases h
      obtain ⟨vs, ea, p⟩ := R.at_ _ _ _ ia e
      exact ⟨a, vs, rfl, .inl ea, p⟩
    · rename_i e
      cases h
      obtain ⟨o, vs, ea, p⟩ := R.at_ _ _ _ ia e
      exact ⟨a, vs, rfl, .inr ⟨o, ea⟩, p⟩
    · cases h
  · cases h
def eDGetR (o i : ME) : ME := fun ρ S => (o ρ S).bind fun p => (i ρ p.2).bind fun z => (dctAtR p.1 z.2).bind fun d => (keyW z.1).bind fun k => (valW d k).map fun w => (w, z.2)
theorem se_dgetR {td ty : TE} {o i : ME} (ho : SE K tb td o) (hi : SE K tb ty i) : SE K tb (tDGet td ty) (eDGetR o i) := fun A σ ρ S w S' Q R E e q => by
  obtain ⟨p, e1, g1⟩ := Option.bind_eq_some_iff.mp e
  obtain ⟨z, e2, g2⟩ := Option.bind_eq_some_iff.mp g1
  obtain ⟨kvs, e3, g3⟩ := Option.bind_eq_some_iff.mp g2
  obtain ⟨k, e4, g4⟩ := Option.bind_eq_some_iff.mp g3
  obtain ⟨u, e5, e6⟩ := Option.map_eq_some_iff.mp g4
  cases e6
  refine ho A σ ρ S p.1 p.2 _ R E e1 fun x B N R1 r1 => ?_
  refine hi B σ ρ p.2 z.1 z.2 _ R1 (E.nxt N) e2 fun y B2 N2 R2 r2 => ?_
  obtain ⟨a, vs, rfl, rd, pk⟩ := dctAtR_run R2 (r1.nxt N2) e3
  obtain rfl := keyW_run r2 e4
  obtain ⟨v, hv, rv⟩ := (pk.val k).1 _ e5
  exact ⟨a, v, rfl, .inl ⟨vs, k, rd, rfl, hv.symm⟩, q v B2 (N.trans N2) R2 rv⟩
end
end Pd
/-! list.remove of tuples of numbers, while, truth of lists, del of a dict's key -/
namespace Lv
open PySem PySem.Spec PyProof.Rows L2 RT
def IsI (h : Heap) (ks : List Int) (a : Addr) : Prop := ∃ o its n, h.get? a = some o ∧ o.cls = .type "tuple" ∧ o.data = .seq its n ∧ Vals (ks.map V.int) its.toList
theorem items_int {prog : Program} {w : World} : ∀ {ks : List Int} {its : List Value}, Vals (ks.map V.int) its → PySem.ItemsAre (intKind prog w) ks its
  | [], [], _ => .nil
  | k :: ks, v :: its, .cons a b => by
    obtain ⟨t, rfl⟩ := a
    refine .cons ?_ (items_int b)
    show Value.isInt k (.int k t) = true
    simp [Value.isInt]
theorem IsI.key {prog : Program} {w : World} {h : Heap} {ks : List Int} {a : Addr} (g : IsI h ks a) : IsTupleKey (intKind prog w) h ks a := by
  obtain ⟨o, its, n, e1, e2, e3, e4⟩ := g
  exact ⟨o, its, n, e1, e2, e3, items_int e4⟩
section
variable {prog : Program} {w : World} {A : Around} {s : Shared} {l b : Addr} {items : Array Value} {n j : Nat} {kss : List (List Int)} {k : List Int} {R : Result → Shared → Prop}
theorem remove_loop (hu : A.units + 1 < cLine) (hl : s.heap.get? l = some { cls := .type "list", dict := none, data := .seq items n, slots := #[] }) (hb : IsI s.heap k b) (hs : items.size ≤ sizeLine)
    (hi : ∀ (m : Nat) (ks : List Int), kss[m]? = some ks → ∃ a, items[m]? = some (.ref a) ∧ IsI s.heap ks a) (hj : kss[j]? = some k) (hn : ∀ m, m < j → kss[m]? ≠ some k)
    (q : R (.ok (.ret .none)) { s with heap := s.heap.update l (Obj.mapSeq fun xs => xs.eraseIdxIfInBounds j) }) :
    ∀ (d i : Nat), j - i = d → i ≤ j → codeAny (model prog w) A (.builtin "list.remove.loop" { pos := [.ref l, .ref b, rawInt (i : Int)] }) R s
  | d, i, hd, hij => by
    have hjl := (List.getElem?_eq_some_iff.mp hj).1
    have hil : i < kss.length := by omega
    obtain ⟨a, ea, ia⟩ := hi i _ (List.getElem?_eq_getElem hil)
    refine codeAny_builtin MeetsSeq.entry_remove_loop ?_
    rw [Around.under_plainId MeetsSeq.plain_remove_loop]
    show wpAny _ _ (Builtin.List.listItems (.ref l) >>= _) _ _ _
    unfold Builtin.List.listItems
    refine wpAny_bind (wpAny_bind (wpAny_seqItems hl rfl (wpAny_pure ?_)))
    have e1 : items[((i : Int)).toNat]? = some (.ref a) := by rw [Int.toNat_natCast]; exact ea
    rw [e1]
    refine wpAny_bind (wpAny_eqBool_tuple hu ia.key hb.key ?_)
    by_cases he : kss[i] = k
    · rw [decide_eq_true he, if_pos rfl]
      have : i = j := by
        by_cases h : i < j
        · exact absurd (by rw [List.getElem?_eq_getElem hil, he]) (hn i h)
        · omega
      subst this
      refine wpAny_bind (show wpAny _ _ (updateSeq l fun x => x.eraseIdxIfInBounds ((i : Int)).toNat) _ _ _ from wpAny_updateSeq hl rfl (wpAny_pure ?_) hs (by
        have : (items.eraseIdxIfInBounds ((i : Int)).toNat).size ≤ items.size := by
          unfold Array.eraseIdxIfInBounds
          split
          · rw [Array.size_eraseIdx]; omega
          · exact Nat.le_refl _
        omega))
      rw [Int.toNat_natCast]
      exact q
    · rw [decide_eq_false he, if_neg (by simp)]
      have hlt : i < j := by
        by_cases h : i = j
        · subst h
          rw [List.getElem?_eq_getElem hil] at hj
          cases hj
          exact absurd rfl he
        · omega
      refine wpAny_pure ⟨plainId_quiet MeetsSeq.plain_remove_loop _, ?_⟩
      have := remove_loop hu hl hb hs hi hj hn q (j - (i + 1)) (i + 1) rfl (by omega)
      rw [show ((i : Int) + 1) = ((i + 1 : Nat) : Int) by omega]
      exact this
  termination_by d i => j - i
end
section
variable {X : Cx} {K : PySem.W.Frag}
/-- a list of tuples of numbers -/
inductive TIs (K : PySem.W.Frag) (H : Hp) : List V → List (List Int) → Prop
  | nil : TIs K H [] []
  | cons {a : Addr} {ks : List Int} {xs : List V} {kss : List (List Int)} : SqT K H a (ks.map V.int) → TIs K H xs kss → TIs K H (.ref a :: xs) (ks :: kss)
theorem TIs.len {H : Hp} : ∀ {xs : List V} {kss : List (List Int)}, TIs K H xs kss → xs.length = kss.length
  | _, _, .nil => rfl
  | _, _, .cons _ b => by rw [List.length_cons, List.length_cons, b.len]
theorem TIs.get {H : Hp} : ∀ {xs : List V} {kss : List (List Int)}, TIs K H xs kss → ∀ {m : Nat} {ks : List Int}, kss[m]? = some ks → ∃ a, xs[m]? = some (.ref a) ∧ SqT K H a (ks.map V.int)
  | _, _, .nil, m, ks, h => by cases h
  | _, _, .cons a b, 0, ks, h => by cases h; exact ⟨_, rfl, a⟩
  | _, _, .cons a b, m + 1, ks, h => b.get (m := m) h
def rRemT (K : PySem.W.Frag) : V → List V → Hp → VK → Prop := fun x vs H Q => ∃ (l b : Addr) (xs : List V) (kss : List (List Int)) (k : List Int) (j : Nat), x = .ref l ∧ vs = [.ref b] ∧ H l = some (.lst xs) ∧ TIs K H xs kss ∧ SqT K H b (k.map V.int) ∧ kss[j]? = some k ∧ (∀ m, m < j → kss[m]? ≠ some k) ∧ Q .non (upd H l (.lst (xs.eraseIdx j)))
theorem vals_erase {xs : List V} {us : List Value} (h : Vals xs us) : ∀ j, Vals (xs.eraseIdx j) (us.eraseIdx j) := by
  induction h with
  | nil => intro j; exact .nil
  | @cons a b as bs r _ ih =>
    intro j
    cases j with
    | zero => assumption
    | succ j => exact .cons r (ih j)
theorem vals_at {xs : List V} {us : List Value} (h : Vals xs us) : ∀ {m : Nat} {v : V}, xs[m]? = some v → ∃ u, us[m]? = some u ∧ L2.RelV v u := by
  induction h with
  | nil => intro m v h; cases h
  | @cons a b as bs r _ ih =>
    intro m v h
    cases m with
    | zero => cases h; exact ⟨_, rfl, r⟩
    | succ m => exact ih (m := m) h
theorem mt_removeTK (hK : X.K = K) (hu : X.A.units + 64 < cLine) : MtM X "list.remove" (rRemT K) := by
  subst hK
  intro pins s σ H x vs v us Q I rx rv h
  obtain ⟨l, b, xs, kss, k, j, rfl, rfl, hH, ht, hb, hj, hn, q⟩ := h
  cases rx
  obtain ⟨u, rfl, ru⟩ := rv.one
  cases ru
  obtain ⟨z, its, n, r, hl, e⟩ := I.lstM hH
  have isI : ∀ {a : Addr} {ks : List Int}, SqT X.K H a (ks.map V.int) → IsI s.heap ks a := fun {a ks} h => by
    obtain ⟨jts, r2, e2, _⟩ := I.tuple h
    obtain ⟨o2, g1, g2, n2, g3⟩ := e2
    exact ⟨o2, _, n2, g1, g2, g3, r2⟩
  refine call_meets (S := fun A' R s' => s' = s ∧ A'.units = X.A.units ∧ R (.ok (.ret .none)) { s with heap := s.heap.update l (Obj.mapSeq fun xs => xs.eraseIdxIfInBounds j) }) F.slot_list_remove ⟨_, e, rfl⟩ F.entry_list_remove (F.args_list_remove_2 _ _) (fun prog w A' R s' hs' => ?_) ⟨rfl, rfl, ?_⟩
  · obtain ⟨rfl, hun, hq⟩ := hs'
    show wpAny _ _ (selfAndOne "list.remove" { pos := [Value.ref l, Value.ref b] } >>= _) _ _ _
    unfold selfAndOne
    refine wpAny_bind (wpAny_bind ?_)
    show wpAny _ _ (if _ then pure () else _) _ _ _
    refine wpAny_ite_true rfl ?_
    refine wpAny_pure ?_
    refine wpAny_pure ?_
    refine wpAny_pure ⟨plainId_quiet MeetsSeq.plain_remove_loop _, ?_⟩
    exact remove_loop (kss := kss) (k := k) (j := j) (by omega) e (isI hb) (by rw [List.size_toArray]; omega) (fun m ks hm => by
      obtain ⟨a, ha, sq⟩ := ht.get hm
      obtain ⟨u, hu1, hu2⟩ := vals_at r ha
      cases hu2
      exact ⟨a, by rw [List.getElem?_toArray]; exact hu1, isI sq⟩) hj hn hq (j - 0) 0 rfl (Nat.zero_le _)
  · refine ⟨.non, _, I.lset (its' := its.eraseIdx j) hH e ?_ (vals_erase r j) ?_, rfl, q⟩
    · simp
    · have := List.length_eraseIdx_le xs j
      omega
def tTruK (K : PySem.W.Frag) (ta : TE) : TT := fun σ H Q => ta σ H fun x H' => ∃ k, TruV K x H' k ∧ Q k H'
theorem pt_truthK (hK : X.K = K) {a : Expr} {ta : TE} (h : PE X a ta) (he : ∀ whole : Sem Value, PySem.isTrue a X.env whole = (do let v ← whole; standAt a.pos; holding [v] (truthy v)) := by intro _; rfl) : PT X a (tTruK K ta) := by subst hK; exact pt_truth h he
end
end Lv
namespace Pd
open PySem PySem.Spec PyProof.Rows L2 GxR Gx
section
variable {K : PySem.W.Frag} {tb : List Addr}
/-! ### while -/
def whileM (t : MT) (b : MS) : Nat → MS
  | 0, _, _ => none
  | f + 1, ρ, S => (t ρ S).bind fun p => if p.1 = true then (b ρ p.2).bind fun q => match q.1 with
    | .bk => some (.nx, q.2)
    | .rt w => some (.rt w, q.2)
    | _ => whileM t b f q.2.1 q.2.2 else some (.nx, ρ, p.2)
theorem ss_while {tc : TT} {tb' : TS} {t : MT} {b : MS} {f : Nat} (ht : ST K tb tc t) (hb : SS K tb tb' b) : SS K tb (tWhile tc tb') (whileM t b f) := fun A σ ρ S o ρ' S' D R E e q => by
  refine ⟨fun m σ H => ∃ C ρ1 S2 o ρ' S', C.H = H ∧ Nxt tb A C ∧ Rep K tb C S2 ∧ ER K tb C σ ρ1 ∧ whileM t b m ρ1 S2 = some (o, ρ', S') ∧ FinK K tb D C o ρ' S', ⟨f, A, ρ, S, o, ρ', S', rfl, .refl, R, E, e, q⟩, ?_⟩
  rintro m σ2 _ ⟨C, ρ1, S2, o, ρ', S', rfl, N2, R2, E2, e2, q2⟩
  cases m with
  | zero => cases e2
  | succ m =>
    obtain ⟨⟨c, S3⟩, e3, e2⟩ := Option.bind_eq_some_iff.mp e2
    refine ht C σ2 ρ1 S2 c S3 _ R2 E2 e3 fun C3 N3 R3 => ?_
    cases c with
    | false =>
      simp only [Bool.false_eq_true, if_false] at e2 ⊢
      cases e2
      exact q2 C3 σ2 N3 R3 (E2.nxt N3)
    | true =>
      simp only [if_true] at e2 ⊢
      obtain ⟨⟨o4, ρ4, S4⟩, e4, e2⟩ := Option.bind_eq_some_iff.mp e2
      refine ⟨fun σ' H' => ∃ C ρ1 S2 o ρ' S', C.H = H' ∧ Nxt tb A C ∧ Rep K tb C S2 ∧ ER K tb C σ' ρ1 ∧ whileM t b m ρ1 S2 = some (o, ρ', S') ∧ FinK K tb D C o ρ' S', fun σ' H' h => ⟨m, Nat.lt_succ_self m, h⟩, ?_⟩
      refine hb C3 σ2 ρ1 S3 o4 ρ4 S4 _ R3 (E2.nxt N3) e4 ?_
      have NN := N2.trans N3
      cases o4 with
      | nx => exact fun C5 σ5 N5 R5 E5 => ⟨C5, ρ4, S4, o, ρ', S', rfl, NN.trans N5, R5, E5, e2, q2.nxt (N3.trans N5)⟩
      | ct => exact fun C5 σ5 N5 R5 E5 => ⟨C5, ρ4, S4, o, ρ', S', rfl, NN.trans N5, R5, E5, e2, q2.nxt (N3.trans N5)⟩
      | bk => cases e2; exact fun C5 σ5 N5 R5 E5 => q2 C5 σ5 (N3.trans N5) R5 E5
      | rt w2 => cases e2; exact fun C5 v N5 R5 r5 => q2 C5 v (N3.trans N5) R5 r5
/-! ### the truth of a list -/
def eTru (a : ME) : MT := fun ρ S => (a ρ S).bind fun p => match p.1 with
  | .d (.list ds) => some (!ds.isEmpty, p.2)
  | _ => none
theorem st_tru {te : TE} {a : ME} (ha : SE K tb te a) : ST K tb (Lv.tTruK K te) (eTru a) := fun A σ ρ S b S' Q R E e q => by
  obtain ⟨p, e1, e⟩ := Option.bind_eq_some_iff.mp e
  refine ha A σ ρ S p.1 p.2 _ R E e1 fun v B N R1 r1 => ?_
  split at e
  · rename_i ds hw
    cases e
    rw [hw] at r1
    obtain ⟨a, xs, rfl, f, rd⟩ := r1.lst
    have hl := rd.length
    refine ⟨!xs.isEmpty, .inl ⟨xs, f.sq, rfl⟩, ?_⟩
    have : xs.isEmpty = ds.isEmpty := by
      cases xs with
      | nil => cases ds with
        | nil => rfl
        | cons => simp at hl
      | cons => cases ds with
        | nil => simp at hl
        | cons => rfl
    rw [this]
    exact q B N R1
  · cases e
/-! ### del d[k] -/
def delD (kvs : KW) (k : Key) : KW := kvs.filter fun kv => decide (kv.1 ≠ k)
def sDDelM (o i : ME) : MS := fun ρ S => (o ρ S).bind fun p => (i ρ p.2).bind fun z => (dctAt p.1 z.2).bind fun d => (keyW z.1).bind fun k => if (valW d.2 k).isSome = true then some (.nx, ρ, z.2.set d.1 (.dct (delD d.2 k))) else none
theorem PK'.del {A : Wd} {vs : List (Key × V)} {kvs : KW} (p : PK' K tb A vs kvs) (k : Key) : PK' K tb A (dropK vs k) (delD kvs k) := by
  unfold dropK delD
  induction p with
  | nil => exact .nil
  | @cons a b as bs r _ ih =>
    rw [List.filter_cons, List.filter_cons]
    by_cases h : b.1 ≠ k
    · rw [if_pos (by rw [r.1]; exact decide_eq_true h), if_pos (decide_eq_true h)]; exact .cons r ih
    · rw [if_neg (by rw [r.1]; simpa using h), if_neg (by simpa using h)]; exact ih
theorem ss_ddel {td ty : TE} {o i : ME} (ho : SE K tb td o) (hi : SE K tb ty i) : SS K tb (sDDel td ty) (sDDelM o i) := fun A σ ρ S o' ρ' S' D R E e q => by
  obtain ⟨p, e1, g1⟩ := Option.bind_eq_some_iff.mp e
  obtain ⟨z, e2, g2⟩ := Option.bind_eq_some_iff.mp g1
  obtain ⟨⟨n, kvs⟩, e3, g3⟩ := Option.bind_eq_some_iff.mp g2
  obtain ⟨k, e4, g4⟩ := Option.bind_eq_some_iff.mp g3
  dsimp only at g4
  split at g4
  · rename_i hk
    cases g4
    refine ho A σ ρ S p.1 p.2 _ R E e1 fun x B N R1 r1 => ?_
    refine hi B σ ρ p.2 z.1 z.2 _ R1 (E.nxt N) e2 fun y B2 N2 R2 r2 => ?_
    obtain ⟨a, vs, rfl, _, ia, ea, pk⟩ := dctAt_run R2 (r1.nxt N2) e3
    obtain rfl := keyW_run r2 e4
    have hm : ∀ o u, B2.H a ≠ some (.frz o u) := fun o u z => by rw [ea] at z; cases z
    have NN := (N.trans N2).trans (Nxt.set (o := .dK (dropK vs k)) ia hm)
    exact ⟨a, vs, k, rfl, ea, rfl, by rw [isS pk k]; exact hk, q (B2.put a _) σ NN (R2.set ia hm ⟨_, upd_same, (pk.del k).nxt (.set ia hm)⟩) (E.nxt NN)⟩
  · cases g4
/-! ### list.remove -/
def intsD : PyData → Option (List Int)
  | .tuple ds => ds.mapM fun d => match d with
    | .int i => some i
    | _ => none
  | _ => none
def mRemove : MM := fun a ws S => match ws with
  | [.d y] => (lstAt a S).bind fun p => (dOf p.2).bind fun ds => (ds.mapM intsD).bind fun kss => (intsD y).bind fun k => (kss.idxOf? k).bind fun j => some (.d .none, S.set p.1 (.lst (p.2.eraseIdx j)))
  | _ => none
theorem ints_dr {A : Wd} : ∀ {ds : List PyData} {vs : List V} {ks : List Int}, (ds.mapM fun d => match d with | .int i => some i | _ => none) = some ks → DRs K tb A vs ds → vs = ks.map V.int
  | [], vs, ks, h, r => by
    cases r
    cases h
    rfl
  | d :: ds, vs, ks, h, r => by
    cases r with
    | cons a b =>
      rw [List.mapM_cons] at h
      obtain ⟨i, h1, h⟩ := Option.bind_eq_some_iff.mp h
      obtain ⟨is, h2, h⟩ := Option.bind_eq_some_iff.mp h
      cases h
      split at h1
      · cases h1
        cases a
        rw [ints_dr h2 b]
        rfl
      · cases h1
theorem intsD_dr {A : Wd} {v : V} {d : PyData} {ks : List Int} (h : intsD d = some ks) (r : DR K tb A v d) : ∃ a, v = .ref a ∧ SqT K A.H a (ks.map V.int) := by
  unfold intsD at h
  split at h
  · cases r with
    | tup f rd =>
      have := ints_dr h rd
      subst this
      exact ⟨_, rfl, f.sq⟩
  · cases h
theorem tis_dr {A : Wd} : ∀ {ds : List PyData} {vs : List V} {kss : List (List Int)}, ds.mapM intsD = some kss → DRs K tb A vs ds → Lv.TIs K A.H vs kss
  | [], vs, kss, h, r => by
    cases r
    cases h
    exact .nil
  | d :: ds, vs, kss, h, r => by
    cases r with
    | cons a b =>
      rw [List.mapM_cons] at h
      obtain ⟨i, h1, h⟩ := Option.bind_eq_some_iff.mp h
      obtain ⟨is, h2, h⟩ := Option.bind_eq_some_iff.mp h
      cases h
      obtain ⟨a', rfl, sq⟩ := intsD_dr h1 a
      exact .cons sq (tis_dr h2 b)
theorem wrs_erase {A : Wd} {vs : List V} {ws : List W} (h : WRs K tb A vs ws) : ∀ j, WRs K tb A (vs.eraseIdx j) (ws.eraseIdx j) := by
  induction h with
  | nil => intro j; exact .nil
  | @cons a b as bs r _ ih =>
    intro j
    cases j with
    | zero => assumption
    | succ j => exact .cons r (ih j)
theorem idx_of {α : Type} [BEq α] [LawfulBEq α] {k : α} : ∀ {l : List α} {j : Nat}, l.idxOf? k = some j → l[j]? = some k ∧ ∀ m, m < j → l[m]? ≠ some k
  | [], j, h => by simp at h
  | a :: l, j, h => by
    rw [List.idxOf?_cons] at h
    split at h
    · rename_i e
      cases h
      exact ⟨by rw [eq_of_beq e]; rfl, fun m h => absurd h (Nat.not_lt_zero _)⟩
    · rename_i e
      obtain ⟨i, h1, rfl⟩ := Option.map_eq_some_iff.mp h
      obtain ⟨h2, h3⟩ := idx_of h1
      refine ⟨h2, fun m hm => ?_⟩
      cases m with
      | zero => intro h; cases h; exact e (beq_self_eq_true _)
      | succ m => exact h3 m (by omega)
theorem sm_removeT : SM K tb (Lv.rRemT K) mRemove := fun A x vs a ws S w S' Q R ra rs e q => by
  unfold mRemove at e
  split at e
  · rename_i y
    obtain ⟨⟨n, us⟩, e1, e⟩ := Option.bind_eq_some_iff.mp e
    obtain ⟨ds, e2, e⟩ := Option.bind_eq_some_iff.mp e
    obtain ⟨kss, e3, e⟩ := Option.bind_eq_some_iff.mp e
    obtain ⟨k, e4, e⟩ := Option.bind_eq_some_iff.mp e
    obtain ⟨j, e5, e⟩ := Option.bind_eq_some_iff.mp e
    cases e
    obtain ⟨rfl, _, p, xs, rfl, ia, ep, rx⟩ := lstAt_run R ra e1
    obtain ⟨v, rfl, rv⟩ := wrs1 rs
    obtain ⟨b, rfl, sb⟩ := intsD_dr e4 rv
    obtain ⟨h1, h2⟩ := idx_of e5
    exact ⟨p, b, xs, kss, k, j, rfl, rfl, ep, tis_dr e3 (drs_of rx e2), sb, h1, h2, lset_run (v := .non) (w := .d .none) R ia ep (wrs_erase rx j) DR.non q⟩
  · cases e
/-! ### x += e, for numbers -/
def sAugM (i : Nat) (e : ME) : MS := fun ρ S => match ρ[i]? with
  | some (some (.d (.int x))) => (e ρ S).bind fun p => match p.1 with
    | .d (.int y) => some (.nx, ρ.set i (some (.d (.int (x + y)))), p.2)
    | _ => none
  | _ => none
theorem ss_aug {te : TE} {e : ME} {i : Nat} (he : SE K tb te e) : SS K tb (tAug i te (ipI fun i j => i + j)) (sAugM i e) := fun A σ ρ S o ρ' S' D R E h q => by
  unfold sAugM at h
  split at h
  · rename_i x hx
    obtain ⟨p, e1, h⟩ := Option.bind_eq_some_iff.mp h
    split at h
    · rename_i y hy
      cases h
      obtain ⟨v, hv, rv⟩ := E.2 i _ hx
      obtain rfl := WR.int rv
      refine ⟨_, hv, he A σ ρ S p.1 p.2 _ R E e1 fun u B N R1 r1 => ?_⟩
      rw [hy] at r1
      obtain rfl := WR.int r1
      exact ⟨x, y, rfl, rfl, q B _ N R1 ((E.nxt N).set (show WR K tb B (.int (x + y)) (.d (.int (x + y))) from DR.int _) i)⟩
    · cases h
  · cases h
end
end Pd
namespace k30
open PySem L2 Pd
abbrev Bk := Int × Int
def blkD (b : Bk) : PyData := .tuple [.int b.1, .int b.2]
/-- blocks in their order, apart from one another -/
def So : Int → List Bk → Prop
  | _, [] => True
  | lo, b :: r => lo ≤ b.1 ∧ 0 < b.2 ∧ So (b.1 + b.2) r
/-- where a block of this size is put, and how many stand before it -/
def low (size : Int) : Int → List Bk → Nat × Int
  | a, [] => (0, a)
  | a, b :: r => if b.1 - a < size then ((low size (b.1 + b.2) r).1 + 1, (low size (b.1 + b.2) r).2) else (0, a)
theorem So.mono : ∀ {lo lo' : Int} {bs : List Bk}, So lo bs → lo' ≤ lo → So lo' bs
  | _, _, [], _, _ => trivial
  | _, _, b :: r, ⟨h1, h2, h3⟩, l => ⟨by omega, h2, h3⟩
theorem So.ge : ∀ {lo : Int} {bs : List Bk}, So lo bs → ∀ b ∈ bs, lo ≤ b.1 ∧ 0 < b.2
  | _, b :: r, ⟨h1, h2, h3⟩, c, hc => by
    rcases List.mem_cons.mp hc with rfl | hc
    · exact ⟨h1, h2⟩
    · have := So.ge h3 c hc
      exact ⟨by omega, this.2⟩
theorem low_ge (size : Int) : ∀ {lo : Int} {bs : List Bk}, So lo bs → lo ≤ (low size lo bs).2
  | lo, [], _ => Int.le_refl _
  | lo, b :: r, ⟨h1, h2, h3⟩ => by
    rw [low]
    split
    · have := low_ge size h3
      show lo ≤ (low size (b.1 + b.2) r).2
      omega
    · exact Int.le_refl _
theorem low_len (size : Int) : ∀ {lo : Int} {bs : List Bk}, (low size lo bs).1 ≤ bs.length
  | lo, [] => Nat.le_refl _
  | lo, b :: r => by
    rw [low]
    split
    · have := low_len size (lo := b.1 + b.2) (bs := r)
      show (low size (b.1 + b.2) r).1 + 1 ≤ r.length + 1
      omega
    · exact Nat.zero_le _
theorem low_end {size m : Int} : ∀ {lo : Int} {bs : List Bk}, (∀ b ∈ bs, b.1 + b.2 ≤ m) → lo ≤ m → (low size lo bs).2 ≤ m
  | lo, [], _, h => h
  | lo, b :: r, hb, h => by
    rw [low]
    split
    · exact low_end (fun c hc => hb c (List.mem_cons_of_mem _ hc)) (hb b List.mem_cons_self)
    · exact h
theorem low_before {size : Int} (hs : 0 < size) : ∀ {lo : Int} {bs : List Bk}, So lo bs → bs.filter (fun b => decide (b.1 < (low size lo bs).2)) = bs.take (low size lo bs).1
  | lo, [], _ => rfl
  | lo, b :: r, ⟨h1, h2, h3⟩ => by
    rw [low]
    split
    · have hg := low_ge size h3
      show (b :: r).filter (fun c => decide (c.1 < (low size (b.1 + b.2) r).2)) = _
      rw [List.filter_cons, if_pos (decide_eq_true (by omega)), low_before hs h3]
      rfl
    · rename_i hn
      show (b :: r).filter (fun c => decide (c.1 < lo)) = []
      rw [List.filter_eq_nil_iff]
      intro c hc h
      have := of_decide_eq_true h
      rcases List.mem_cons.mp hc with rfl | hc
      · omega
      · have := So.ge h3 c hc; omega
theorem low_after {size : Int} (hs : 0 < size) : ∀ {lo : Int} {bs : List Bk}, So lo bs → bs.filter (fun b => decide ((low size lo bs).2 < b.1)) = bs.drop (low size lo bs).1
  | lo, [], _ => rfl
  | lo, b :: r, ⟨h1, h2, h3⟩ => by
    rw [low]
    split
    · have hg := low_ge size h3
      show (b :: r).filter (fun c => decide ((low size (b.1 + b.2) r).2 < c.1)) = _
      rw [List.filter_cons, if_neg (by rw [decide_eq_false (by omega)]; simp), low_after hs h3]
      rfl
    · rename_i hn
      show (b :: r).filter (fun c => decide (lo < c.1)) = b :: r
      rw [List.filter_eq_self]
      intro c hc
      refine decide_eq_true ?_
      rcases List.mem_cons.mp hc with rfl | hc
      · omega
      · have := So.ge h3 c hc; omega
def ins (size lo : Int) (bs : List Bk) : List Bk := bs.take (low size lo bs).1 ++ [((low size lo bs).2, size)] ++ bs.drop (low size lo bs).1
theorem ins_so {size : Int} (hs : 0 < size) : ∀ {lo : Int} {bs : List Bk}, So lo bs → So lo (ins size lo bs)
  | lo, [], _ => ⟨Int.le_refl _, hs, trivial⟩
  | lo, b :: r, ⟨h1, h2, h3⟩ => by
    unfold ins
    rw [low]
    split
    · exact ⟨h1, h2, ins_so hs h3⟩
    · exact ⟨Int.le_refl _, hs, ⟨by show lo + size ≤ b.1; omega, h2, h3⟩⟩
def Ib (bs : List Bk) (c : Int) : Prop := ∃ b ∈ bs, b.1 ≤ c ∧ c < b.1 + b.2
theorem ins_mem {size lo : Int} {bs : List Bk} {b : Bk} : b ∈ ins size lo bs ↔ b ∈ bs ∨ b = ((low size lo bs).2, size) := by
  unfold ins
  rw [List.append_assoc, List.mem_append, List.mem_append, List.mem_singleton]
  constructor
  · rintro (h | h | h)
    · exact .inl (List.mem_of_mem_take h)
    · exact .inr h
    · exact .inl (List.mem_of_mem_drop h)
  · rintro (h | h)
    · rw [← List.take_append_drop (low size lo bs).1 bs] at h
      rcases List.mem_append.mp h with h | h
      · exact .inl h
      · exact .inr (.inr h)
    · exact .inr (.inl h)
theorem ins_in {size lo c : Int} {bs : List Bk} : Ib (ins size lo bs) c ↔ Ib bs c ∨ ((low size lo bs).2 ≤ c ∧ c < (low size lo bs).2 + size) := by
  unfold Ib
  constructor
  · rintro ⟨b, hb, h⟩
    rcases ins_mem.mp hb with hb | rfl
    · exact .inl ⟨b, hb, h⟩
    · exact .inr h
  · rintro (⟨b, hb, h⟩ | h)
    · exact ⟨b, ins_mem.mpr (.inl hb), h⟩
    · exact ⟨_, ins_mem.mpr (.inr rfl), h⟩
theorem So.apart : ∀ {lo : Int} {bs : List Bk}, So lo bs → ∀ {a b : Bk}, a ∈ bs → b ∈ bs → a = b ∨ a.1 + a.2 ≤ b.1 ∨ b.1 + b.2 ≤ a.1
  | lo, c :: r, ⟨h1, h2, h3⟩, a, b, ha, hb => by
    rcases List.mem_cons.mp ha with e1 | ha2 <;> rcases List.mem_cons.mp hb with e2 | hb2
    · exact .inl (e1.trans e2.symm)
    · subst e1; exact .inr (.inl (So.ge h3 b hb2).1)
    · subst e2; exact .inr (.inr (So.ge h3 a ha2).1)
    · exact So.apart h3 ha2 hb2
theorem So.uniq {lo : Int} {bs : List Bk} (h : So lo bs) {a b : Bk} (ha : a ∈ bs) (hb : b ∈ bs) (e : a.1 = b.1) : a = b := by
  have g1 := (h.ge a ha).2
  have g2 := (h.ge b hb).2
  rcases h.apart ha hb with h | h | h
  · exact h
  · omega
  · omega
theorem So.filter {p : Bk → Bool} : ∀ {lo : Int} {bs : List Bk}, So lo bs → So lo (bs.filter p)
  | lo, [], _ => trivial
  | lo, b :: r, ⟨h1, h2, h3⟩ => by
    rw [List.filter_cons]
    split
    · exact ⟨h1, h2, So.filter h3⟩
    · exact (So.filter h3).mono (by omega)
/-- without a block -/
def rem (g : Bk) (bs : List Bk) : List Bk := bs.filter fun b => decide (b.1 ≠ g.1)
theorem rem_in {lo c : Int} {bs : List Bk} {g : Bk} (h : So lo bs) (hg : g ∈ bs) : Ib (rem g bs) c ↔ Ib bs c ∧ ¬ (g.1 ≤ c ∧ c < g.1 + g.2) := by
  constructor
  · rintro ⟨b, hb, h1⟩
    obtain ⟨hb1, hb2⟩ := List.mem_filter.mp hb
    have hne := of_decide_eq_true hb2
    refine ⟨⟨b, hb1, h1⟩, fun h2 => ?_⟩
    rcases h.apart hb1 hg with e | e | e
    · exact hne (by rw [e])
    · omega
    · omega
  · rintro ⟨⟨b, hb, h1⟩, h2⟩
    refine ⟨b, List.mem_filter.mpr ⟨hb, decide_eq_true fun e => h2 ?_⟩, h1⟩
    rw [← h.uniq hb hg e]
    exact h1
theorem found {lo : Int} {g : Bk} : ∀ {bs : List Bk}, So lo bs → g ∈ bs → bs.filter (fun b => decide (b.1 = g.1)) = [g]
  | b :: r, h, hg => by
    obtain ⟨h1, h2, h3⟩ := h
    rw [List.filter_cons]
    rcases List.mem_cons.mp hg with e | hg'
    · subst e
      rw [if_pos (decide_eq_true rfl)]
      congr 1
      rw [List.filter_eq_nil_iff]
      intro c hc he
      have := of_decide_eq_true he
      have := (So.ge h3 c hc).1
      omega
    · have := (So.ge h3 g hg').1
      rw [if_neg (by rw [decide_eq_false (by omega)]; simp)]
      exact found h3 hg'
theorem idx_rem {g : Bk} : ∀ {lo : Int} {bs : List Bk}, So lo bs → g ∈ bs → ∃ j, (bs.map fun b => [b.1, b.2]).idxOf? [g.1, g.2] = some j ∧ bs.eraseIdx j = rem g bs
  | lo, b :: r, ⟨h1, h2, h3⟩, hg => by
    unfold rem
    rw [List.map_cons, List.idxOf?_cons, List.filter_cons]
    rcases List.mem_cons.mp hg with e | hg'
    · subst e
      refine ⟨0, by rw [if_pos (beq_self_eq_true _)], ?_⟩
      rw [if_neg (by simp), List.eraseIdx_cons_zero]
      symm
      rw [List.filter_eq_self]
      intro c hc
      have := (So.ge h3 c hc).1
      exact decide_eq_true (by omega)
    · have hge := (So.ge h3 g hg').1
      obtain ⟨j, e1, e2⟩ := idx_rem h3 hg'
      refine ⟨j + 1, ?_, ?_⟩
      · rw [if_neg (by simp; omega), e1]; rfl
      · rw [if_pos (decide_eq_true (by omega)), List.eraseIdx_cons_succ, e2]; rfl
theorem map_ints : ∀ bs : List Bk, (bs.map blkD).mapM intsD = some (bs.map fun b => [b.1, b.2])
  | [] => rfl
  | b :: bs => by
    rw [List.map_cons, List.mapM_cons, map_ints bs]
    rfl
/-! ### the cells -/
theorem valW_put_same (kvs : KW) (k : Key) (w : W) : valW (putD kvs k w) k = some w := by
  unfold putD
  split
  · rename_i h
    unfold valW
    induction kvs with
    | nil => cases h
    | cons p r ih =>
      rw [List.map_cons, List.find?_cons]
      by_cases e : p.1 = k
      · simp only [e, if_true, decide_true, Option.map_some]
      · rw [List.any_cons, decide_eq_false e, Bool.false_or] at h
        rw [if_neg e]
        simp only [decide_eq_false e]
        exact ih h
  · rename_i h
    unfold valW
    rw [List.find?_append]
    have : (kvs.find? fun kv => decide (kv.1 = k)) = none := by
      rw [List.find?_eq_none]
      intro p hp hk
      exact h (List.any_eq_true.mpr ⟨p, hp, hk⟩)
    rw [this]
    simp
theorem valW_put_ne {kvs : KW} {k j : Key} {w : W} (hne : j ≠ k) : valW (putD kvs k w) j = valW kvs j := by
  unfold putD
  split
  · rename_i hh
    clear hh
    unfold valW
    induction kvs with
    | nil => rfl
    | cons p r ih =>
      rw [List.map_cons, List.find?_cons, List.find?_cons]
      by_cases e : p.1 = k
      · have h2 : ¬ p.1 = j := fun z => hne (z.symm.trans e)
        have h3 : (decide (k = j)) = false := decide_eq_false (fun z => hne z.symm)
        simpa [e, h3] using ih
      · rw [if_neg e]
        by_cases e2 : p.1 = j
        · simp only [decide_eq_true e2]
        · simp only [decide_eq_false e2]
          exact ih
  · unfold valW
    rw [List.find?_append]
    cases (kvs.find? fun kv => decide (kv.1 = j)) with
    | some _ => rfl
    | none =>
      have h3 : (decide (k = j)) = false := decide_eq_false (fun z => hne z.symm)
      simp [h3]
theorem valW_put (kvs : KW) (k j : Key) (w : W) : valW (putD kvs k w) j = if j = k then some w else valW kvs j := by
  by_cases h : j = k
  · subst h; rw [if_pos rfl]; exact valW_put_same _ _ _
  · rw [if_neg h]; exact valW_put_ne h
theorem put_len {kvs : KW} {k : Key} {w : W} : (putD kvs k w).length ≤ kvs.length + 1 := by
  unfold putD
  split
  · rw [List.length_map]; omega
  · rw [List.length_append]; simp
theorem valW_del (kvs : KW) (k j : Key) : valW (delD kvs k) j = if j = k then none else valW kvs j := by
  unfold valW delD
  rw [List.find?_filter]
  by_cases h : j = k
  · subst h
    rw [if_pos rfl]
    have : (kvs.find? fun kv => decide (kv.1 ≠ j) && decide (kv.1 = j)) = none := by
      rw [List.find?_eq_none]
      intro p _ hp
      simp at hp
    simp [this]
  · rw [if_neg h]
    congr 1
    refine congrArg (fun f => List.find? f kvs) (funext fun p => ?_)
    by_cases e : p.1 = j
    · simp [e, h]
    · simp [e]
theorem del_len {kvs : KW} {k : Key} : (delD kvs k).length ≤ kvs.length := List.length_filter_le _ _
end k30
namespace Pd
open PySem PySem.Spec PyProof.Rows L2 GxR Gx
theorem eqP_str (x y : Str) : eqP (.str x) (.str y) = some (decide (x = y)) := rfl
theorem eqP_int (x y : Int) : eqP (.int x) (.int y) = some (decide (x = y)) := rfl
theorem eqP_bool (x y : Bool) : eqP (.bool x) (.bool y) = some (decide (x = y)) := rfl
theorem atI_0 {α : Type} {v : α} {us : List α} : atI (v :: us) 0 = some v := atI_nat (j := 0) rfl
theorem atI_1 {α : Type} {v x : α} {us : List α} : atI (v :: x :: us) 1 = some x := atI_nat (j := 1) rfl
theorem atI_2 {α : Type} {v x y : α} {us : List α} : atI (v :: x :: y :: us) 2 = some y := atI_nat (j := 2) rfl
theorem atI_3 {α : Type} {v x y z : α} {us : List α} : atI (v :: x :: y :: z :: us) 3 = some z := atI_nat (j := 3) rfl
theorem atI_4 {α : Type} {v x y z u : α} {us : List α} : atI (v :: x :: y :: z :: u :: us) 4 = some u := atI_nat (j := 4) rfl
theorem atI_at {α : Type} {xs : List α} {i : Nat} {x : α} (h : xs[i]? = some x) : atI xs (i : Int) = some x := atI_nat (j := i) h
theorem atI_ok {α : Type} {xs : List α} {i : Int} (h0 : 0 ≤ i) (h1 : i < (xs.length : Int)) : ∃ x, xs[i.toNat]? = some x ∧ atI xs i = some x := by
  have hk : i.toNat < xs.length := by omega
  refine ⟨xs[i.toNat], List.getElem?_eq_getElem hk, ?_⟩
  have q := atI_at (xs := xs) (i := i.toNat) (List.getElem?_eq_getElem hk)
  rwa [show ((i.toNat : Nat) : Int) = i by omega] at q
theorem oIx_tup {ds : List PyData} {i : Int} {S : Mem} : oIx (.d (.tuple ds)) (.d (.int i)) S = (atI ds i).map fun d => (.d d, S) := rfl
theorem oIx_list {ds : List PyData} {i : Int} {S : Mem} : oIx (.d (.list ds)) (.d (.int i)) S = (atI (ds.map W.d) i).map fun d => (d, S) := rfl
theorem oIx_loc {n : Nat} {ws : List W} {i : Int} {S : Mem} (h : S[n]? = some (.lst ws)) : oIx (.loc n) (.d (.int i)) S = (atI ws i).map fun d => (d, S) := by
  show (itemsL (.loc n) S).bind _ = _
  simp only [itemsL, h]
  rfl
theorem itemsL_loc {n : Nat} {ws : List W} {S : Mem} (h : S[n]? = some (.lst ws)) : itemsL (.loc n) S = some ws := by
  simp only [itemsL, h]
theorem items_loc {n : Nat} {ws : List W} {S : Mem} (h : S[n]? = some (.lst ws)) : items (.loc n) S = some ws := by
  simp only [items, h]
theorem lstAt_loc {n : Nat} {ws : List W} {S : Mem} (h : S[n]? = some (.lst ws)) : lstAt (.loc n) S = some (n, ws) := by
  simp only [lstAt, h]
theorem oEq_d {n : Bool} {x y : PyData} {S : Mem} {b : Bool} (h : eqP x y = some b) : oEq n (.d x) (.d y) S = some (.d (.bool (if n then !b else b)), S) := by
  show (eqP x y).map _ = _
  rw [h]; rfl
/-- a for over values: each turn carries the state on -/
theorem forM_vals {g : MG} {b : MS} {ws : List W} (Inv : Nat → Env' → Mem → Prop)
    (step : ∀ i w ρ S, ws[i]? = some w → Inv i ρ S → ∃ ρ1 S1 ρ2 S2, g w ρ S = some (ρ1, S1) ∧ b ρ1 S1 = some (.nx, ρ2, S2) ∧ Inv (i + 1) ρ2 S2) :
    ∀ (k i : Nat) ρ S, ws.length - i = k → i ≤ ws.length → Inv i ρ S → ∃ ρ' S', forM (.vals ws) g b k i ρ S = some (.nx, ρ', S') ∧ Inv ws.length ρ' S' := by
  intro k
  induction k with
  | zero =>
    intro i ρ S hk hi h
    have e : i = ws.length := by omega
    subst e
    refine ⟨ρ, S, ?_, h⟩
    unfold forM
    have : (Itm.vals ws).at_ S ws.length = some none := by show some ws[ws.length]? = _; simp
    rw [this]
  | succ k ih =>
    intro i ρ S hk hi h
    have hlt : i < ws.length := by omega
    obtain ⟨ρ1, S1, ρ2, S2, e1, e2, h2⟩ := step i ws[i] ρ S (List.getElem?_eq_getElem hlt) h
    obtain ⟨ρ', S', e3, h3⟩ := ih (i + 1) ρ2 S2 (by omega) hlt h2
    refine ⟨ρ', S', ?_, h3⟩
    unfold forM
    have : (Itm.vals ws).at_ S i = some (some ws[i]) := by show some ws[i]? = _; simp [hlt]
    rw [this]
    simp only [e1, e2, Option.bind_some]
    exact e3
/-- .. or hands out a result -/
theorem forM_ret {g : MG} {b : MS} {ws : List W} (Inv : Nat → Env' → Mem → Prop) (Rt : W → Mem → Prop)
    (step : ∀ i w ρ S, ws[i]? = some w → Inv i ρ S → ∃ ρ1 S1, g w ρ S = some (ρ1, S1) ∧ ((∃ ρ2 S2, b ρ1 S1 = some (.nx, ρ2, S2) ∧ Inv (i + 1) ρ2 S2) ∨ ∃ r ρ2 S2, b ρ1 S1 = some (.rt r, ρ2, S2) ∧ Rt r S2)) :
    ∀ (k i : Nat) ρ S, ws.length - i = k → i ≤ ws.length → Inv i ρ S → (∃ ρ' S', forM (.vals ws) g b k i ρ S = some (.nx, ρ', S') ∧ Inv ws.length ρ' S') ∨ ∃ r ρ' S', forM (.vals ws) g b k i ρ S = some (.rt r, ρ', S') ∧ Rt r S' := by
  intro k
  induction k with
  | zero =>
    intro i ρ S hk hi h
    have e : i = ws.length := by omega
    subst e
    refine .inl ⟨ρ, S, ?_, h⟩
    unfold forM
    have : (Itm.vals ws).at_ S ws.length = some none := by show some ws[ws.length]? = _; simp
    rw [this]
  | succ k ih =>
    intro i ρ S hk hi h
    have hlt : i < ws.length := by omega
    have ha : (Itm.vals ws).at_ S i = some (some ws[i]) := by show some ws[i]? = _; simp [hlt]
    obtain ⟨ρ1, S1, e1, h1⟩ := step i ws[i] ρ S (List.getElem?_eq_getElem hlt) h
    rcases h1 with ⟨ρ2, S2, e2, h2⟩ | ⟨r, ρ2, S2, e2, h2⟩
    · rcases ih (i + 1) ρ2 S2 (by omega) hlt h2 with ⟨ρ', S', e3, h3⟩ | ⟨r, ρ', S', e3, h3⟩
      · refine .inl ⟨ρ', S', ?_, h3⟩
        unfold forM
        rw [ha]
        simp only [e1, e2, Option.bind_some]
        exact e3
      · refine .inr ⟨r, ρ', S', ?_, h3⟩
        unfold forM
        rw [ha]
        simp only [e1, e2, Option.bind_some]
        exact e3
    · refine .inr ⟨r, ρ2, S2, ?_, h2⟩
      unfold forM
      rw [ha]
      simp only [e1, e2, Option.bind_some]
/-- a comprehension over values, the element a function of the item that leaves the state alone -/
theorem lcM_vals {g : MG} {e : ME} {ws us : List W} {ρ : Env'} {S : Mem} (hl : us.length = ws.length) (step : ∀ (i : Nat) w u, ws[i]? = some w → us[i]? = some u → ∃ ρ1, g w ρ S = some (ρ1, S) ∧ e ρ1 S = some (u, S)) :
    ∀ (k i : Nat), ws.length - i = k → i ≤ ws.length → lcM (.vals ws) g tYesM e k i ρ S = some (us.drop i, S) := by
  intro k
  induction k with
  | zero =>
    intro i hk hi
    have e : i = ws.length := by omega
    subst e
    unfold lcM
    have : (Itm.vals ws).at_ S ws.length = some none := by show some ws[ws.length]? = _; simp
    rw [this, List.drop_of_length_le (by omega)]
  | succ k ih =>
    intro i hk hi
    have hlt : i < ws.length := by omega
    have hlu : i < us.length := by omega
    obtain ⟨ρ1, e1, e2⟩ := step i ws[i] us[i] (List.getElem?_eq_getElem hlt) (List.getElem?_eq_getElem hlu)
    have h3 := ih (i + 1) (by omega) hlt
    unfold lcM
    have ha : (Itm.vals ws).at_ S i = some (some ws[i]) := by show some ws[i]? = _; simp [hlt]
    rw [ha]
    simp only [e1, e2, tYesM, Option.bind_some, if_true, h3]
    rw [List.drop_eq_getElem_cons hlu]
/-- .. the state goes on -/
theorem lcM_st {g : MG} {e : ME} {ws : List W} {ρ : Env'} (Inv : Nat → List W → Mem → Prop) (step : ∀ (i : Nat) w acc S, ws[i]? = some w → Inv i acc S → ∃ ρ1 u S', g w ρ S = some (ρ1, S) ∧ e ρ1 S = some (u, S') ∧ Inv (i + 1) (acc ++ [u]) S') :
    ∀ (k i : Nat) acc S, ws.length - i = k → i ≤ ws.length → Inv i acc S → ∃ us S', lcM (.vals ws) g tYesM e k i ρ S = some (us, S') ∧ Inv ws.length (acc ++ us) S' := by
  intro k
  induction k with
  | zero =>
    intro i acc S hk hi h
    have e : i = ws.length := by omega
    subst e
    refine ⟨[], S, ?_, by rw [List.append_nil]; exact h⟩
    unfold lcM
    have : (Itm.vals ws).at_ S ws.length = some none := by show some ws[ws.length]? = _; simp
    rw [this]
  | succ k ih =>
    intro i acc S hk hi h
    have hlt : i < ws.length := by omega
    obtain ⟨ρ1, u, S', e1, e2, h2⟩ := step i ws[i] acc S (List.getElem?_eq_getElem hlt) h
    obtain ⟨us, S2, e3, h3⟩ := ih (i + 1) _ S' (by omega) hlt h2
    refine ⟨u :: us, S2, ?_, by rw [List.append_assoc] at h3; exact h3⟩
    unfold lcM
    have ha : (Itm.vals ws).at_ S i = some (some ws[i]) := by show some ws[i]? = _; simp [hlt]
    rw [ha]
    simp only [e1, e2, tYesM, Option.bind_some, if_true, e3]
/-- .. with a test -/
theorem lcM_if {g : MG} {t : MT} {e : ME} {ws : List W} {ρ : Env'} {S : Mem} (p : W → Bool) (step : ∀ (i : Nat) w, ws[i]? = some w → ∃ ρ1, g w ρ S = some (ρ1, S) ∧ t ρ1 S = some (p w, S) ∧ e ρ1 S = some (w, S)) :
    ∀ (k i : Nat), ws.length - i = k → i ≤ ws.length → lcM (.vals ws) g t e k i ρ S = some ((ws.drop i).filter p, S) := by
  intro k
  induction k with
  | zero =>
    intro i hk hi
    have e : i = ws.length := by omega
    subst e
    unfold lcM
    have : (Itm.vals ws).at_ S ws.length = some none := by show some ws[ws.length]? = _; simp
    rw [this, List.drop_of_length_le (by omega)]
    rfl
  | succ k ih =>
    intro i hk hi
    have hlt : i < ws.length := by omega
    obtain ⟨ρ1, e1, e2, e3⟩ := step i ws[i] (List.getElem?_eq_getElem hlt)
    have h3 := ih (i + 1) (by omega) hlt
    unfold lcM
    have ha : (Itm.vals ws).at_ S i = some (some ws[i]) := by show some ws[i]? = _; simp [hlt]
    rw [ha, List.drop_eq_getElem_cons hlt]
    cases hp : p ws[i] with
    | true => simp only [e1, e2, e3, hp, Option.bind_some, if_true, h3, List.filter_cons]
    | false => simp only [e1, e2, hp, Option.bind_some, Bool.false_eq_true, if_false, h3, List.filter_cons]
/-- all(..) over values -/
theorem allL_vals {g : MG} {e : ME} {ρ : Env'} {S : Mem} (p : W → Bool) : ∀ {ws : List W}, (∀ w ∈ ws, ∃ ρ1, g w ρ S = some (ρ1, S) ∧ e ρ1 S = some (.d (.bool (p w)), S)) → allL g e ws ρ S = some (ws.all p, S)
  | [], _ => rfl
  | w :: ws, h => by
    obtain ⟨ρ1, e1, e2⟩ := h w List.mem_cons_self
    have ih := allL_vals p (ws := ws) fun x hx => h x (List.mem_cons_of_mem _ hx)
    unfold allL
    have e3 : eB e ρ1 S = some (p w, S) := by unfold eB; rw [e2]; rfl
    rw [e1]
    simp only [Option.bind_some, e3]
    cases hp : p w with
    | true => simp only [if_true, ih, List.all_cons, hp, Bool.true_and]
    | false => simp only [Bool.false_eq_true, if_false, List.all_cons, hp, Bool.false_and]
end Pd
namespace Pd
open PySem PySem.Spec PyProof.Rows L2 GxR Gx
section
variable {ρ ρ1 ρ2 : Env'} {S S1 S2 S3 : Mem} {w x y z : W} {a b c : MS} {e e1 e2 e3 : ME} {t u : MT} {m n : MA} {f : F2} {g : MG} {r : Option (Out × Env' × Mem)} {k : Bool} {ws us : List W}
theorem v_nx (h : a ρ S = some (.nx, ρ1, S1)) (q : b ρ1 S1 = r) : sSeq a b ρ S = r := by unfold sSeq; rw [h]; exact q
theorem v_rt (h : a ρ S = some (.rt w, ρ1, S1)) : sSeq a b ρ S = some (.rt w, ρ1, S1) := by unfold sSeq; rw [h]; rfl
theorem v_bk (h : a ρ S = some (.bk, ρ1, S1)) : sSeq a b ρ S = some (.bk, ρ1, S1) := by unfold sSeq; rw [h]; rfl
theorem v_ifT (h : t ρ S = some (true, S1)) (q : a ρ S1 = r) : sIf t a b ρ S = r := by unfold sIf; rw [h]; exact q
theorem v_ifF (h : t ρ S = some (false, S1)) (q : b ρ S1 = r) : sIf t a b ρ S = r := by unfold sIf; rw [h]; exact q
theorem v_ret (h : e ρ S = some (w, S1)) : sRet e ρ S = some (.rt w, ρ, S1) := by unfold sRet; rw [h]; rfl
theorem v_drop (h : e ρ S = some (w, S1)) : sDrop e ρ S = some (.nx, ρ, S1) := by unfold sDrop; rw [h]; rfl
theorem v_asg (h : e ρ S = some (w, S1)) (q : g w ρ S1 = some (ρ2, S2)) : sAsg e g ρ S = some (.nx, ρ2, S2) := by unfold sAsg; rw [h]; simp only [Option.bind_some, q]
theorem v_op {o : Option (W × Mem)} (h1 : e1 ρ S = some (x, S1)) (h2 : e2 ρ S1 = some (y, S2)) (h3 : f x y S2 = o) : eOp f e1 e2 ρ S = o := by unfold eOp; rw [h1]; simp only [Option.bind_some, h2, h3]
theorem v_call {q : MF} {o : Option (W × Mem)} (h1 : m ρ S = some (ws, S1)) (h2 : q ws S1 = o) : eCall q m ρ S = o := by unfold eCall; rw [h1]; simp only [Option.bind_some, h2]
theorem v_cons (h1 : e ρ S = some (x, S1)) (h2 : m ρ S1 = some (ws, S2)) : aCons e m ρ S = some (x :: ws, S2) := by unfold aCons; rw [h1]; simp only [Option.bind_some, h2]
theorem v_tup {o : Option (W × Mem)} (h : m ρ S = some (ws, S1)) (q : mkT ws S1 = o) : eTup m ρ S = o := by unfold eTup; rw [h]; exact q
theorem v_lstF {o : Option (W × Mem)} (h : m ρ S = some (ws, S1)) (q : mkF ws S1 = o) : eLstF m ρ S = o := by unfold eLstF; rw [h]; exact q
theorem v_lstL {o : Option (W × Mem)} (h : m ρ S = some (ws, S1)) (q : mkL ws S1 = o) : eLstL m ρ S = o := by unfold eLstL; rw [h]; exact q
theorem v_b (h : e ρ S = some (.d (.bool k), S1)) : eB e ρ S = some (k, S1) := by unfold eB; rw [h]; rfl
theorem v_orT (h : t ρ S = some (true, S1)) : eOr t u ρ S = some (true, S1) := by unfold eOr; rw [h]; rfl
theorem v_orF {o : Option (Bool × Mem)} (h : t ρ S = some (false, S1)) (q : u ρ S1 = o) : eOr t u ρ S = o := by unfold eOr; rw [h]; exact q
theorem v_andF (h : t ρ S = some (false, S1)) : eAnd t u ρ S = some (false, S1) := by unfold eAnd; rw [h]; rfl
theorem v_andT {o : Option (Bool × Mem)} (h : t ρ S = some (true, S1)) (q : u ρ S1 = o) : eAnd t u ρ S = o := by unfold eAnd; rw [h]; exact q
theorem v_not (h : t ρ S = some (k, S1)) : eNot t ρ S = some (!k, S1) := by unfold eNot; rw [h]; rfl
theorem v_ieT {o : Option (W × Mem)} (h : t ρ S = some (true, S1)) (q : e1 ρ S1 = o) : eIf t e1 e2 ρ S = o := by unfold eIf; rw [h]; exact q
theorem v_ieF {o : Option (W × Mem)} (h : t ρ S = some (false, S1)) (q : e2 ρ S1 = o) : eIf t e1 e2 ρ S = o := by unfold eIf; rw [h]; exact q
theorem v_all {mi : MI} {vs : List Nat} (h : mi ρ S = some (.vals ws, S1)) (q : allL g e ws (wipeE ρ vs) S1 = some (k, S2)) : eAll mi vs g e ρ S = some (.d (.bool k), S2) := by unfold eAll; rw [h]; simp only [Option.bind_some, q]
theorem v_itup {ds : List PyData} (h : e ρ S = some (.d (.tuple ds), S1)) : iTupM e ρ S = some (.vals (ds.map .d), S1) := by unfold iTupM; rw [h]; rfl
theorem v_ilst {ds : List PyData} (h : e ρ S = some (.d (.list ds), S1)) : iLstM e ρ S = some (.vals (ds.map .d), S1) := by unfold iLstM; rw [h]; rfl
theorem v_rng1 {i : Int} (h : m ρ S = some ([.d (.int i)], S1)) (h1 : -(2 ^ 62) ≤ i) (h2 : i < 2 ^ 62) : iRng1M m ρ S = some (.vals ((List.range i.toNat).map fun (j : Nat) => W.d (.int (0 + (j : Int)))), S1) := by
  unfold iRng1M; rw [h]
  show iRngM (.d (.int 0)) (.d (.int i)) S1 = _
  unfold iRngM
  simp only []
  rw [if_pos (decide_eq_true ⟨by decide, by decide, h1, h2⟩), Int.sub_zero]
theorem v_lc {mi : MI} {vs : List Nat} {im : Itm} {mk : List W → Mem → Option (W × Mem)} {o : Option (W × Mem)} (h : mi ρ S = some (im, S1)) (q : lcM im g t e (im.len S1) 0 (wipeE ρ vs) S1 = some (us, S2)) (p : mk us S2 = o) : eLc mi vs g t e mk ρ S = o := by
  unfold eLc; rw [h]; simp only [Option.bind_some, q, p]
theorem v_for {mi : MI} {im : Itm} (h : mi ρ S = some (im, S1)) (q : forM im g a (im.len S1) 0 ρ S1 = r) : sFor mi g a ρ S = r := by unfold sFor; rw [h]; exact q
theorem v_def {np k : Nat} {body : MS} {o : Option (W × Mem)} {ws : List W} {fz : Bool} (hl : ws.length = np) (h : body (ws.map some ++ List.replicate k none) S = some (.rt w, ρ1, S1)) (q : fin fz S.length w S1 = o) : dfn np k fz body ws S = o := by
  unfold dfn; rw [if_pos hl, h]; exact q
theorem v_defN {np k : Nat} {body : MS} {o : Option (W × Mem)} {ws : List W} {fz : Bool} (hl : ws.length = np) (h : body (ws.map some ++ List.replicate k none) S = some (.nx, ρ1, S1)) (q : fin fz S.length (.d .none) S1 = o) : dfn np k fz body ws S = o := by
  unfold dfn; rw [if_pos hl, h]; exact q
theorem fin_f {n : Nat} : fin false n w S = some (w, S) := rfl
theorem v_bm {q : MM} {o : Option (W × Mem)} {us : List W} (h1 : e ρ S = some (x, S1)) (h0 : itemsL x S1 = some us) (h2 : m ρ S1 = some (ws, S2)) (h3 : q x ws S2 = o) : eBm q e m ρ S = o := by unfold eBm; rw [h1]; simp only [Option.bind_some, h0, h2, h3]
theorem dOf_cons {d : PyData} {ds : List PyData} (h : dOf ws = some ds) : dOf (.d d :: ws) = some (d :: ds) := by show (dOf ws).map _ = _; rw [h]; rfl
theorem mkT_d {ds : List PyData} (h : ds.length ≤ sizeLine) : mkT (ds.map .d) S = some (.d (.tuple ds), S) := by unfold mkT; rw [dOf_map]; simp only [Option.bind_some]; rw [if_pos h]
theorem mkF_d {ds : List PyData} (h : ds.length ≤ sizeLine) : mkF (ds.map .d) S = some (.d (.list ds), S) := by unfold mkF; rw [dOf_map]; simp only [Option.bind_some]; rw [if_pos h]
theorem allL_map {α : Type} {h : α → W} {p : α → Bool} : ∀ {xs : List α}, (∀ a ∈ xs, ∃ ρ1, g (h a) ρ S = some (ρ1, S) ∧ e ρ1 S = some (.d (.bool (p a)), S)) → allL g e (xs.map h) ρ S = some (xs.all p, S)
  | [], _ => rfl
  | a :: xs, hx => by
    obtain ⟨ρ1, q1, q2⟩ := hx a List.mem_cons_self
    have ih := allL_map (xs := xs) fun x hm => hx x (List.mem_cons_of_mem _ hm)
    show (g (h a) ρ S).bind _ = _
    rw [q1]
    simp only [Option.bind_some, v_b q2]
    cases hp : p a with
    | true => simp only [if_true, ih, List.all_cons, hp, Bool.true_and]
    | false => simp only [Bool.false_eq_true, if_false, List.all_cons, hp, Bool.false_and]
/-- a comprehension over the images of xs whose element leaves the state alone -/
theorem lcM_map {α : Type} {h u : α → W} {xs : List α} (hx : ∀ a ∈ xs, ∃ ρ1, g (h a) ρ S = some (ρ1, S) ∧ e ρ1 S = some (u a, S)) : lcM (.vals (xs.map h)) g tYesM e (Itm.len (.vals (xs.map h)) S) 0 ρ S = some (xs.map u, S) := by
  have := lcM_vals (g := g) (e := e) (ws := xs.map h) (us := xs.map u) (ρ := ρ) (S := S) (by simp) (fun i w v e1 e2 => by
    rw [List.getElem?_map] at e1 e2
    obtain ⟨a, q1, rfl⟩ := Option.map_eq_some_iff.mp e1
    rw [q1] at e2
    cases e2
    exact hx a (List.mem_of_getElem? q1)) (xs.map h).length 0 (by simp) (Nat.zero_le _)
  rw [List.drop_zero] at this
  exact this
theorem lcM_mapIf {α : Type} {h : α → W} {p : α → Bool} {xs : List α} (hx : ∀ a ∈ xs, ∃ ρ1, g (h a) ρ S = some (ρ1, S) ∧ t ρ1 S = some (p a, S) ∧ e ρ1 S = some (h a, S)) : lcM (.vals (xs.map h)) g t e (Itm.len (.vals (xs.map h)) S) 0 ρ S = some ((xs.filter p).map h, S) := by
  have gen : ∀ (ys : List α) (i : Nat), i + ys.length = xs.length → xs.drop i = ys → lcM (.vals (xs.map h)) g t e ys.length i ρ S = some ((ys.filter p).map h, S) := by
    intro ys
    induction ys with
    | nil =>
      intro i hi hd
      unfold lcM
      have : (Itm.vals (xs.map h)).at_ S i = some none := by show some (xs.map h)[i]? = _; simp at hi ⊢; omega
      simp only [this]
      rfl
    | cons y ys ih =>
      intro i hi hd
      have hlt : i < xs.length := by simp at hi; omega
      have hy : xs[i] = y := by
        have := List.drop_eq_getElem_cons hlt
        rw [hd] at this
        exact (List.cons.inj this).1.symm
      have hd' : xs.drop (i + 1) = ys := by
        have := List.drop_eq_getElem_cons hlt
        rw [hd] at this
        exact (List.cons.inj this).2.symm
      obtain ⟨ρ1, q1, q2, q3⟩ := hx y (by rw [← hy]; exact List.getElem_mem hlt)
      have ih' := ih (i + 1) (by simp at hi ⊢; omega) hd'
      have ha : (Itm.vals (xs.map h)).at_ S i = some (some (h y)) := by show some (xs.map h)[i]? = _; rw [List.getElem?_map, List.getElem?_eq_getElem hlt, hy]; rfl
      show lcM _ _ _ _ (ys.length + 1) _ _ _ = _
      unfold lcM
      simp only [ha, q1, q2, q3, Option.bind_some]
      cases hp : p y with
      | true => simp only [if_true, ih', Option.bind_some, List.filter_cons, hp, List.map_cons]
      | false => simp only [Bool.false_eq_true, if_false, ih', List.filter_cons, hp]
  have := gen xs 0 (by simp) (by simp)
  show lcM _ _ _ _ (xs.map h).length _ _ _ = _
  rw [List.length_map]
  exact this
theorem v_callK {q : List W → List W → Mem → Option (W × Mem)} {vs : List W} {o : Option (W × Mem)} (h1 : m ρ S = some (ws, S1)) (h2 : n ρ S1 = some (vs, S2)) (h3 : q ws vs S2 = o) : eCallK q m n ρ S = o := by unfold eCallK; rw [h1]; simp only [Option.bind_some, h2, h3]
theorem mkF_1 {d : PyData} : mkF [.d d] S = some (.d (.list [d]), S) := rfl
theorem mkT_1 {d : PyData} : mkT [.d d] S = some (.d (.tuple [d]), S) := rfl
theorem lcM_one {u : W} {h : W} (hx : ∃ ρ1, g h ρ S = some (ρ1, S) ∧ e ρ1 S = some (u, S)) : lcM (.vals [h]) g tYesM e (Itm.len (.vals [h]) S) 0 ρ S = some ([u], S) := lcM_map (xs := [()]) (h := fun _ => h) (u := fun _ => u) fun _ _ => hx
end
end Pd
/-! running mirrors forward: Ok o Q, "o is some x, and Q x"; frames say what is still to be run -/
namespace Pd
open PySem PySem.Spec PyProof.Rows L2 GxR Gx
def Ok {α : Type} (o : Option α) (Q : α → Prop) : Prop := ∃ x, o = some x ∧ Q x
theorem Ok.mono {α : Type} {o : Option α} {Q R : α → Prop} (h : Ok o Q) (q : ∀ x, Q x → R x) : Ok o R := by
  obtain ⟨x, e, hx⟩ := h
  exact ⟨x, e, q x hx⟩
theorem Ok.eq {α : Type} {o : Option α} {x : α} {Q : α → Prop} (h : o = some x) (q : Q x) : Ok o Q := ⟨x, h, q⟩
theorem k_some {α : Type} {x : α} {Q : α → Prop} : Ok (some x) Q ↔ Q x := ⟨fun ⟨_, e, h⟩ => by cases e; exact h, fun h => ⟨x, rfl, h⟩⟩
theorem k_none {α : Type} {Q : α → Prop} : Ok none Q ↔ False := ⟨fun h => (by obtain ⟨_, e, _⟩ := h; cases e), False.elim⟩
theorem k_bind {α β : Type} {o : Option α} {f : α → Option β} {Q : β → Prop} : Ok (o.bind f) Q ↔ Ok o fun x => Ok (f x) Q :=
  ⟨fun ⟨y, e, h⟩ => by obtain ⟨x, e1, e2⟩ := Option.bind_eq_some_iff.mp e; exact ⟨x, e1, y, e2, h⟩, fun ⟨x, e1, y, e2, h⟩ => ⟨y, by rw [e1]; exact e2, h⟩⟩
theorem k_map {α β : Type} {o : Option α} {f : α → β} {Q : β → Prop} : Ok (o.map f) Q ↔ Ok o fun x => Q (f x) :=
  ⟨fun ⟨y, e, h⟩ => by obtain ⟨x, e1, e2⟩ := Option.map_eq_some_iff.mp e; cases e2; exact ⟨x, e1, h⟩, fun ⟨x, e1, h⟩ => ⟨f x, by rw [e1]; rfl, h⟩⟩
theorem k_if {α : Type} {c : Prop} [Decidable c] {o : Option α} {Q : α → Prop} : Ok (if c then o else none) Q ↔ c ∧ Ok o Q := by
  by_cases h : c
  · simp [h]
  · simp [h, k_none]
theorem bind_fr {α β : Type} {o : Option α} {f : α → Option β} {Q : β → Prop} {R : α → Prop} (h : ∀ x, R x ↔ Ok (f x) Q) : Ok (o.bind f) Q ↔ Ok o R := by
  rw [k_bind]
  exact ⟨fun z => z.mono fun x y => (h x).mpr y, fun z => z.mono fun x y => (h x).mp y⟩
theorem bind2 {α β : Type} {o : Option α} {f : α → Option β} {Q : β → Prop} {p : Prop} (R : α → Prop) (hp : p = Ok o R) (h : ∀ x, R x ↔ Ok (f x) Q) : p ↔ Ok (o.bind f) Q := by
  rw [hp]
  exact (bind_fr h).symm
theorem some2 {α : Type} (x : α) (Q : α → Prop) {p : Prop} (h : p = Q x) : p ↔ Ok (some x) Q := by rw [h]; exact k_some.symm
theorem none2 {α : Type} {Q : α → Prop} {p : Prop} (h : p = False) : p ↔ Ok none Q := by rw [h]; exact k_none.symm
abbrev WM := W × Mem
abbrev OR' := Out × Env' × Mem
section
variable {ρ : Env'} {S : Mem} {a b c e e1 e2 : ME} {s t u : MS} {m n : MA} {f : F2} {g : MG} {p q : MT} {Q : WM → Prop} {P : OR' → Prop} {B : Bool × Mem → Prop} {L : List W × Mem → Prop} {G : Env' × Mem → Prop}
/-! ### statements -/
def Kseq (b : MS) (Q : OR' → Prop) (p : OR') : Prop := match p.1 with
  | .nx => Ok (b p.2.1 p.2.2) Q
  | _ => Q p
theorem k_seq : Ok (sSeq s t ρ S) P ↔ Ok (s ρ S) (Kseq t P) := bind_fr fun x => by
  obtain ⟨o, r⟩ := x
  cases o with
  | nx => exact Iff.rfl
  | bk => exact some2 _ _ rfl
  | ct => exact some2 _ _ rfl
  | rt w => exact some2 _ _ rfl
theorem k_seq_nx : Kseq t P (.nx, ρ, S) ↔ Ok (t ρ S) P := .rfl
theorem k_seq_rt {w : W} : Kseq t P (.rt w, ρ, S) ↔ P (.rt w, ρ, S) := .rfl
theorem k_seq_bk : Kseq t P (.bk, ρ, S) ↔ P (.bk, ρ, S) := .rfl
theorem k_seq_ct : Kseq t P (.ct, ρ, S) ↔ P (.ct, ρ, S) := .rfl
def Kif (s t : MS) (ρ : Env') (P : OR' → Prop) (p : Bool × Mem) : Prop := match p.1 with
  | true => Ok (s ρ p.2) P
  | false => Ok (t ρ p.2) P
theorem k_sif : Ok (sIf p s t ρ S) P ↔ Ok (p ρ S) (Kif s t ρ P) := bind_fr fun x => by obtain ⟨k, S⟩ := x; cases k <;> exact Iff.rfl
theorem k_if_t : Kif s t ρ P (true, S) ↔ Ok (s ρ S) P := .rfl
theorem k_if_f : Kif s t ρ P (false, S) ↔ Ok (t ρ S) P := .rfl
def Kret (ρ : Env') (P : OR' → Prop) (p : WM) : Prop := P (.rt p.1, ρ, p.2)
theorem k_ret : Ok (sRet a ρ S) P ↔ Ok (a ρ S) (Kret ρ P) := bind_fr fun x => some2 _ _ rfl
theorem k_ret_ {w : W} : Kret ρ P (w, S) ↔ P (.rt w, ρ, S) := .rfl
def Kdrop (ρ : Env') (P : OR' → Prop) (p : WM) : Prop := P (.nx, ρ, p.2)
theorem k_drop : Ok (sDrop a ρ S) P ↔ Ok (a ρ S) (Kdrop ρ P) := bind_fr fun x => some2 _ _ rfl
theorem k_drop_ {w : W} : Kdrop ρ P (w, S) ↔ P (.nx, ρ, S) := .rfl
def Kst (P : OR' → Prop) (p : Env' × Mem) : Prop := P (.nx, p.1, p.2)
def Kasg (g : MG) (ρ : Env') (P : OR' → Prop) (p : WM) : Prop := Ok (g p.1 ρ p.2) (Kst P)
theorem k_asg : Ok (sAsg a g ρ S) P ↔ Ok (a ρ S) (Kasg g ρ P) := bind_fr fun x => by
  exact bind2 (Kst P) rfl fun y => some2 _ _ rfl
theorem k_asg_ {w : W} : Kasg g ρ P (w, S) ↔ Ok (g w ρ S) (Kst P) := .rfl
theorem k_st_ : Kst P (ρ, S) ↔ P (.nx, ρ, S) := .rfl
theorem k_nx : Ok (sNx ρ S) P ↔ P (.nx, ρ, S) := k_some
theorem k_brk : Ok (sBrk ρ S) P ↔ P (.bk, ρ, S) := k_some
theorem k_ct : Ok (sCt ρ S) P ↔ P (.ct, ρ, S) := k_some
def Kfor (g : MG) (s : MS) (ρ : Env') (P : OR' → Prop) (p : Itm × Mem) : Prop := Ok (forM p.1 g s (p.1.len p.2) 0 ρ p.2) P
theorem k_for {mi : MI} : Ok (sFor mi g s ρ S) P ↔ Ok (mi ρ S) (Kfor g s ρ P) := bind_fr fun x => Iff.rfl
theorem k_for_ {im : Itm} : Kfor g s ρ P (im, S) ↔ Ok (forM im g s (im.len S) 0 ρ S) P := .rfl
/-! ### targets -/
theorem k_gN {i : Nat} {w : W} : Ok (gN i w ρ S) G ↔ G (ρ.set i (some w), S) := k_some
theorem k_gTup {ms : MGs} {ds : List PyData} : Ok (gTup' ms (.d (.tuple ds)) ρ S) G ↔ Ok (ms ds ρ S) G := .rfl
def Kgs (ms : MGs) (ds : List PyData) (G : Env' × Mem → Prop) (p : Env' × Mem) : Prop := Ok (ms ds p.1 p.2) G
theorem k_gsC {ms : MGs} {d : PyData} {ds : List PyData} : Ok (gsCons g ms (d :: ds) ρ S) G ↔ Ok (g (.d d) ρ S) (Kgs ms ds G) := bind_fr fun x => Iff.rfl
theorem k_gs_ {ms : MGs} {ds : List PyData} : Kgs ms ds G (ρ, S) ↔ Ok (ms ds ρ S) G := .rfl
theorem k_gsN : Ok (gsNil [] ρ S) G ↔ G (ρ, S) := k_some
def Kgi2 (w o : W) (ρ : Env') (G : Env' × Mem → Prop) (p : WM) : Prop := Ok (match p.1 with
  | .d (.int k) => (lstAt o p.2).bind fun l => (ixN l.2.length k).bind fun j => some (ρ, p.2.set l.1 (.lst (l.2.set j w)))
  | _ => none) G
def Kgi1 (w : W) (i : ME) (ρ : Env') (G : Env' × Mem → Prop) (p : WM) : Prop := Ok (i ρ p.2) (Kgi2 w p.1 ρ G)
theorem k_gIx {w : W} : Ok (gIx a b w ρ S) G ↔ Ok (a ρ S) (Kgi1 w b ρ G) := bind_fr fun x => bind2 _ rfl fun y => Iff.rfl
theorem k_gi1_ {w x : W} : Kgi1 w b ρ G (x, S) ↔ Ok (b ρ S) (Kgi2 w x ρ G) := .rfl
def Kg4 (n : Nat) (ws : List W) (w : W) (S : Mem) (ρ : Env') (G : Env' × Mem → Prop) : Option Nat → Prop
  | some j => G (ρ, S.set n (.lst (ws.set j w)))
  | none => False
def Kg3 (n : Nat) (k : Int) (w : W) (S : Mem) (ρ : Env') (G : Env' × Mem → Prop) : Option Ob → Prop
  | some (.lst ws) => Kg4 n ws w S ρ G (ixN ws.length k)
  | _ => False
theorem k_gi2_ {w : W} {k : Int} {l : Nat} : Kgi2 w (.loc l) ρ G (.d (.int k), S) ↔ Kg3 l k w S ρ G S[l]? := by
  unfold Kgi2 lstAt
  cases h : S[l]? with
  | none => simp only [h, Option.bind_none, k_none, Kg3]
  | some o => cases o with
    | lst ws =>
      simp only [h, Option.bind_some, Kg3]
      cases hj : ixN ws.length k with
      | none => simp only [hj, Option.bind_none, k_none, Kg4]
      | some j => simp only [hj, Option.bind_some, k_some, Kg4]
    | dct _ => simp only [h, Option.bind_none, k_none, Kg3]
    | ldct _ => simp only [h, Option.bind_none, k_none, Kg3]
    | ins _ _ => simp only [h, Option.bind_none, k_none, Kg3]
theorem k_g3_ {n : Nat} {k : Int} {w : W} {ws : List W} : Kg3 n k w S ρ G (some (.lst ws)) ↔ Kg4 n ws w S ρ G (ixN ws.length k) := .rfl
theorem k_g4_ {n j : Nat} {w : W} {ws : List W} : Kg4 n ws w S ρ G (some j) ↔ G (ρ, S.set n (.lst (ws.set j w))) := .rfl
/-! ### values -/
def KV (Q : WM → Prop) (S : Mem) : Option (Option W) → Prop
  | some (some w) => Q (w, S)
  | _ => False
theorem k_var {i : Nat} : Ok (eVar i ρ S) Q ↔ KV Q S ρ[i]? := by
  unfold eVar
  cases h : ρ[i]? with
  | none => exact k_none
  | some o => cases o with
    | none => exact k_none
    | some w => exact k_some
theorem k_V_ {w : W} : KV Q S (some (some w)) ↔ Q (w, S) := .rfl
theorem k_c {x : PyData} : Ok (eC x ρ S) Q ↔ Q (.d x, S) := k_some
def Kop2 (f : F2) (x : W) (Q : WM → Prop) (p : WM) : Prop := Ok (f x p.1 p.2) Q
def Kop1 (f : F2) (b : ME) (ρ : Env') (Q : WM → Prop) (p : WM) : Prop := Ok (b ρ p.2) (Kop2 f p.1 Q)
theorem k_op : Ok (eOp f a b ρ S) Q ↔ Ok (a ρ S) (Kop1 f b ρ Q) := bind_fr fun x => bind2 _ rfl fun y => Iff.rfl
theorem k_op1_ {x : W} : Kop1 f b ρ Q (x, S) ↔ Ok (b ρ S) (Kop2 f x Q) := .rfl
theorem k_op2_ {x y : W} : Kop2 f x Q (y, S) ↔ Ok (f x y S) Q := .rfl
def Kun (f : F1) (Q : WM → Prop) (p : WM) : Prop := Ok (f p.1 p.2) Q
theorem k_un {f : F1} : Ok (eUn f a ρ S) Q ↔ Ok (a ρ S) (Kun f Q) := bind_fr fun x => Iff.rfl
theorem k_un_ {f : F1} {x : W} : Kun f Q (x, S) ↔ Ok (f x S) Q := .rfl
def KB (B : Bool × Mem → Prop) (p : WM) : Prop := Ok (match p.1 with
  | .d (.bool b) => some (b, p.2)
  | _ => none) B
theorem k_eB : Ok (eB a ρ S) B ↔ Ok (a ρ S) (KB B) := bind_fr fun x => Iff.rfl
theorem k_B_ {k : Bool} : KB B (.d (.bool k), S) ↔ B (k, S) := k_some
def Kand (q : MT) (ρ : Env') (B : Bool × Mem → Prop) (p : Bool × Mem) : Prop := match p.1 with
  | true => Ok (q ρ p.2) B
  | false => B (false, p.2)
theorem k_and : Ok (eAnd p q ρ S) B ↔ Ok (p ρ S) (Kand q ρ B) := bind_fr fun x => by obtain ⟨k, S⟩ := x; cases k; exact some2 _ _ rfl; exact Iff.rfl
theorem k_and_t : Kand q ρ B (true, S) ↔ Ok (q ρ S) B := .rfl
theorem k_and_f : Kand q ρ B (false, S) ↔ B (false, S) := .rfl
def Kor (q : MT) (ρ : Env') (B : Bool × Mem → Prop) (p : Bool × Mem) : Prop := match p.1 with
  | true => B (true, p.2)
  | false => Ok (q ρ p.2) B
theorem k_or : Ok (eOr p q ρ S) B ↔ Ok (p ρ S) (Kor q ρ B) := bind_fr fun x => by obtain ⟨k, S⟩ := x; cases k; exact Iff.rfl; exact some2 _ _ rfl
theorem k_or_t : Kor q ρ B (true, S) ↔ B (true, S) := .rfl
theorem k_or_f : Kor q ρ B (false, S) ↔ Ok (q ρ S) B := .rfl
def Knot (B : Bool × Mem → Prop) (p : Bool × Mem) : Prop := B (!p.1, p.2)
theorem k_not : Ok (eNot p ρ S) B ↔ Ok (p ρ S) (Knot B) := bind_fr fun x => some2 _ _ rfl
theorem k_not_ {k : Bool} : Knot B (k, S) ↔ B (!k, S) := .rfl
def KT (Q : WM → Prop) (p : Bool × Mem) : Prop := Q (.d (.bool p.1), p.2)
theorem k_eT : Ok (eT p ρ S) Q ↔ Ok (p ρ S) (KT Q) := bind_fr fun x => some2 _ _ rfl
theorem k_T_ {k : Bool} : KT Q (k, S) ↔ Q (.d (.bool k), S) := .rfl
def KandV (b : ME) (ρ : Env') (Q : WM → Prop) (p : Bool × Mem) : Prop := match p.1 with
  | true => Ok (b ρ p.2) Q
  | false => Q (.d (.bool false), p.2)
theorem k_andV : Ok (eAndV a b ρ S) Q ↔ Ok (eB a ρ S) (KandV b ρ Q) := bind_fr fun x => by obtain ⟨k, S⟩ := x; cases k; exact some2 _ _ rfl; exact Iff.rfl
theorem k_andV_t : KandV b ρ Q (true, S) ↔ Ok (b ρ S) Q := .rfl
theorem k_andV_f : KandV b ρ Q (false, S) ↔ Q (.d (.bool false), S) := .rfl
def KorV (b : ME) (ρ : Env') (Q : WM → Prop) (p : Bool × Mem) : Prop := match p.1 with
  | true => Q (.d (.bool true), p.2)
  | false => Ok (b ρ p.2) Q
theorem k_orV : Ok (eOrV a b ρ S) Q ↔ Ok (eB a ρ S) (KorV b ρ Q) := bind_fr fun x => by obtain ⟨k, S⟩ := x; cases k; exact Iff.rfl; exact some2 _ _ rfl
theorem k_orV_t : KorV b ρ Q (true, S) ↔ Q (.d (.bool true), S) := .rfl
theorem k_orV_f : KorV b ρ Q (false, S) ↔ Ok (b ρ S) Q := .rfl
def KnotV (Q : WM → Prop) (p : Bool × Mem) : Prop := Q (.d (.bool (!p.1)), p.2)
theorem k_notV : Ok (eNotV a ρ S) Q ↔ Ok (eB a ρ S) (KnotV Q) := bind_fr fun x => some2 _ _ rfl
theorem k_notV_ {k : Bool} : KnotV Q (k, S) ↔ Q (.d (.bool (!k)), S) := .rfl
def KeIf (a b : ME) (ρ : Env') (Q : WM → Prop) (p : Bool × Mem) : Prop := match p.1 with
  | true => Ok (a ρ p.2) Q
  | false => Ok (b ρ p.2) Q
theorem k_eIf : Ok (eIf p a b ρ S) Q ↔ Ok (p ρ S) (KeIf a b ρ Q) := bind_fr fun x => by obtain ⟨k, S⟩ := x; cases k <;> exact Iff.rfl
theorem k_eIf_t : KeIf a b ρ Q (true, S) ↔ Ok (a ρ S) Q := .rfl
theorem k_eIf_f : KeIf a b ρ Q (false, S) ↔ Ok (b ρ S) Q := .rfl
/-! ### rows of values, calls -/
theorem k_aN : Ok (aNil ρ S) L ↔ L ([], S) := k_some
def Kcs2 (w : W) (L : List W × Mem → Prop) (p : List W × Mem) : Prop := L (w :: p.1, p.2)
def Kcs1 (m : MA) (ρ : Env') (L : List W × Mem → Prop) (p : WM) : Prop := Ok (m ρ p.2) (Kcs2 p.1 L)
theorem k_aC : Ok (aCons a m ρ S) L ↔ Ok (a ρ S) (Kcs1 m ρ L) := bind_fr fun x => bind2 _ rfl fun y => some2 _ _ rfl
theorem k_cs1_ {w : W} : Kcs1 m ρ L (w, S) ↔ Ok (m ρ S) (Kcs2 w L) := .rfl
theorem k_cs2_ {w : W} {ws : List W} : Kcs2 w L (ws, S) ↔ L (w :: ws, S) := .rfl
def Kcall (f : MF) (Q : WM → Prop) (p : List W × Mem) : Prop := Ok (f p.1 p.2) Q
theorem k_call {f : MF} : Ok (eCall f m ρ S) Q ↔ Ok (m ρ S) (Kcall f Q) := bind_fr fun x => Iff.rfl
theorem k_call_ {f : MF} {ws : List W} : Kcall f Q (ws, S) ↔ Ok (f ws S) Q := .rfl
theorem k_tup : Ok (eTup m ρ S) Q ↔ Ok (m ρ S) (Kcall mkT Q) := bind_fr fun x => Iff.rfl
theorem k_lstF : Ok (eLstF m ρ S) Q ↔ Ok (m ρ S) (Kcall mkF Q) := bind_fr fun x => Iff.rfl
theorem k_lstL : Ok (eLstL m ρ S) Q ↔ Ok (m ρ S) (Kcall mkL Q) := bind_fr fun x => Iff.rfl
def Kkw2 (f : List W → List W → Mem → Option (W × Mem)) (ws : List W) (Q : WM → Prop) (p : List W × Mem) : Prop := Ok (f ws p.1 p.2) Q
def Kkw1 (f : List W → List W → Mem → Option (W × Mem)) (n : MA) (ρ : Env') (Q : WM → Prop) (p : List W × Mem) : Prop := Ok (n ρ p.2) (Kkw2 f p.1 Q)
theorem k_callK {f : MK} : Ok (eCallK f m n ρ S) Q ↔ Ok (m ρ S) (Kkw1 f n ρ Q) := bind_fr fun x => bind2 _ rfl fun y => Iff.rfl
theorem k_callKw {f : MF} {pm : List W → List W → List W} : Ok (eCallKw f pm m n ρ S) Q ↔ Ok (m ρ S) (Kkw1 (fun a b => f (pm a b)) n ρ Q) := bind_fr fun x => bind2 _ rfl fun y => Iff.rfl
theorem k_kw1_ {f : List W → List W → Mem → Option (W × Mem)} {ws : List W} : Kkw1 f n ρ Q (ws, S) ↔ Ok (n ρ S) (Kkw2 f ws Q) := .rfl
theorem k_kw2_ {f : List W → List W → Mem → Option (W × Mem)} {ws us : List W} : Kkw2 f ws Q (us, S) ↔ Ok (f ws us S) Q := .rfl
/-! ### a def -/
def Kdef (fz : Bool) (n : Nat) (Q : WM → Prop) (p : OR') : Prop := match p.1 with
  | .nx => Ok (fin fz n (.d .none) p.2.2) Q
  | .rt w => Ok (fin fz n w p.2.2) Q
  | _ => False
theorem k_dfn {np k : Nat} {fz : Bool} {ws : List W} : Ok (dfn np k fz s ws S) Q ↔ ws.length = np ∧ Ok (s (ws.map some ++ List.replicate k none) S) (Kdef fz S.length Q) := by
  unfold dfn
  rw [k_if]
  refine and_congr_right fun _ => bind_fr fun x => ?_
  obtain ⟨o, r⟩ := x
  cases o with
  | nx => exact Iff.rfl
  | bk => exact none2 rfl
  | ct => exact none2 rfl
  | rt w => exact Iff.rfl
theorem k_def_nx {k : Nat} {fz : Bool} : Kdef fz k Q (.nx, ρ, S) ↔ Ok (fin fz k (.d .none) S) Q := .rfl
theorem k_def_rt {k : Nat} {fz : Bool} {w : W} : Kdef fz k Q (.rt w, ρ, S) ↔ Ok (fin fz k w S) Q := .rfl
theorem k_finF {k : Nat} {w : W} : Ok (fin false k w S) Q ↔ Q (w, S) := k_some
theorem k_finT {k : Nat} {x : PyData} : Ok (fin true k (.d x) S) Q ↔ (S.take k).all (obLt k) = true ∧ Q (.d x, S.take k) := by
  unfold fin
  rw [if_neg (by decide)]
  by_cases h : (S.take k).all (obLt k) = true
  · rw [if_pos h]; exact ⟨fun z => ⟨h, k_some.mp z⟩, fun z => k_some.mpr z.2⟩
  · rw [if_neg h]; exact ⟨fun z => (k_none.mp z).elim, fun z => (h z.1).elim⟩
/-! ### parts of seqs -/
def Kix3 (L : Bool) (w : W) (lo : Option Int) (Q : WM → Prop) (p : Option Int × Mem) : Prop := Ok (oSl L w lo p.1 p.2) Q
def Kix2 (L : Bool) (w : W) (hi : MO) (ρ : Env') (Q : WM → Prop) (p : Option Int × Mem) : Prop := Ok (hi ρ p.2) (Kix3 L w p.1 Q)
def Kix1 (L : Bool) (lo hi : MO) (ρ : Env') (Q : WM → Prop) (p : WM) : Prop := Ok (lo ρ p.2) (Kix2 L p.1 hi ρ Q)
theorem k_sl {k : Bool} {lo hi : MO} : Ok (eSl k a lo hi ρ S) Q ↔ Ok (a ρ S) (Kix1 k lo hi ρ Q) := bind_fr fun x => bind2 _ rfl fun y => bind2 _ rfl fun z => Iff.rfl
theorem k_ix1_ {k : Bool} {w : W} {lo hi : MO} : Kix1 k lo hi ρ Q (w, S) ↔ Ok (lo ρ S) (Kix2 k w hi ρ Q) := .rfl
theorem k_ix2_ {k : Bool} {w : W} {lo : Option Int} {hi : MO} : Kix2 k w hi ρ Q (lo, S) ↔ Ok (hi ρ S) (Kix3 k w lo Q) := .rfl
theorem k_ix3_ {k : Bool} {w : W} {lo hi : Option Int} : Kix3 k w lo Q (hi, S) ↔ Ok (oSl k w lo hi S) Q := .rfl
theorem k_pN {R : Option Int × Mem → Prop} : Ok (pNone ρ S) R ↔ R (none, S) := k_some
def KpS (R : Option Int × Mem → Prop) (p : WM) : Prop := Ok (match p.1 with
  | .d (.int i) => some (some i, p.2)
  | _ => none) R
theorem k_pS {R : Option Int × Mem → Prop} : Ok (pSome a ρ S) R ↔ Ok (a ρ S) (KpS R) := bind_fr fun x => Iff.rfl
theorem k_pS_ {R : Option Int × Mem → Prop} {i : Int} : KpS R (.d (.int i), S) ↔ R (some i, S) := k_some
/-! ### things that are walked -/
section
variable {I : Itm × Mem → Prop}
def Kit (h : W → Mem → Option (Itm × Mem)) (I : Itm × Mem → Prop) (p : WM) : Prop := Ok (h p.1 p.2) I
def itT : W → Mem → Option (Itm × Mem) := fun w S => match w with
  | .d (.tuple ds) => some (.vals (ds.map .d), S)
  | _ => none
def itL : W → Mem → Option (Itm × Mem) := fun w S => match w with
  | .d (.list ds) => some (.vals (ds.map .d), S)
  | .d (.dict [(.none, .list ds)]) => some (.vals (ds.map .d), S)
  | .loc n => match S[n]? with
    | some (.lst _) => some (.live n, S)
    | _ => none
  | _ => none
def itR : W → Mem → Option (Itm × Mem) := fun w S => match w with
  | .d (.list ds) => some (.vals (ds.reverse.map .d), S)
  | .d (.tuple ds) => some (.vals (ds.reverse.map .d), S)
  | .loc n => match S[n]? with
    | some (.lst ws) => some (.rev n ws.length, S)
    | _ => none
  | _ => none
theorem k_iT : Ok (iTupM a ρ S) I ↔ Ok (a ρ S) (Kit itT I) := bind_fr fun x => Iff.rfl
theorem k_iL : Ok (iLstM a ρ S) I ↔ Ok (a ρ S) (Kit itL I) := bind_fr fun x => Iff.rfl
theorem k_iR : Ok (iRevM a ρ S) I ↔ Ok (a ρ S) (Kit itR I) := bind_fr fun x => Iff.rfl
theorem k_it_T {ds : List PyData} : Kit itT I (.d (.tuple ds), S) ↔ I (.vals (ds.map .d), S) := k_some
theorem k_it_L {ds : List PyData} : Kit itL I (.d (.list ds), S) ↔ I (.vals (ds.map .d), S) := k_some
theorem k_it_Ls {ds : List PyData} : Kit itL I (.d (.dict [(.none, .list ds)]), S) ↔ I (.vals (ds.map .d), S) := k_some
def Kil (n : Nat) (S : Mem) (I : Itm × Mem → Prop) : Option Ob → Prop
  | some (.lst _) => I (.live n, S)
  | _ => False
theorem k_it_Ll {n : Nat} : Kit itL I (.loc n, S) ↔ Kil n S I S[n]? := by
  unfold Kit itL
  cases h : S[n]? with
  | none => simp only [h, k_none, Kil]
  | some o => cases o <;> simp only [h, k_none, k_some, Kil]
theorem k_il_ {n : Nat} {ws : List W} : Kil n S I (some (.lst ws)) ↔ I (.live n, S) := .rfl
theorem k_it_R {ds : List PyData} : Kit itR I (.d (.list ds), S) ↔ I (.vals (ds.reverse.map .d), S) := k_some
theorem k_it_Rt {ds : List PyData} : Kit itR I (.d (.tuple ds), S) ↔ I (.vals (ds.reverse.map .d), S) := k_some
def Kir (n : Nat) (S : Mem) (I : Itm × Mem → Prop) : Option Ob → Prop
  | some (.lst ws) => I (.rev n ws.length, S)
  | _ => False
theorem k_it_Rl {n : Nat} : Kit itR I (.loc n, S) ↔ Kir n S I S[n]? := by
  unfold Kit itR
  cases h : S[n]? with
  | none => simp only [h, k_none, Kir]
  | some o => cases o <;> simp only [h, k_none, k_some, Kir]
theorem k_ir_ {n : Nat} {ws : List W} : Kir n S I (some (.lst ws)) ↔ I (.rev n ws.length, S) := .rfl
def Kr1 (I : Itm × Mem → Prop) (p : List W × Mem) : Prop := Ok (match p.1 with
  | [n] => iRngM (.d (.int 0)) n p.2
  | _ => none) I
def Kr2 (I : Itm × Mem → Prop) (p : List W × Mem) : Prop := Ok (match p.1 with
  | [lo, n] => iRngM lo n p.2
  | _ => none) I
theorem k_r1 : Ok (iRng1M m ρ S) I ↔ Ok (m ρ S) (Kr1 I) := bind_fr fun x => Iff.rfl
theorem k_r2 : Ok (iRng2M m ρ S) I ↔ Ok (m ρ S) (Kr2 I) := bind_fr fun x => Iff.rfl
def rngW (lo n : Int) : List W := (List.range (n - lo).toNat).map fun (i : Nat) => W.d (.int (lo + (i : Int)))
theorem k_rng {lo n : Int} : Ok (iRngM (.d (.int lo)) (.d (.int n)) S) I ↔ (-(2 ^ 62) ≤ lo ∧ lo < 2 ^ 62 ∧ -(2 ^ 62) ≤ n ∧ n < 2 ^ 62) ∧ I (.vals (rngW lo n), S) := by
  unfold iRngM
  simp only [k_if, k_some, decide_eq_true_eq]
  exact Iff.rfl
theorem k_r1_ {n : Int} : Kr1 I ([.d (.int n)], S) ↔ (-(2 ^ 62) ≤ n ∧ n < 2 ^ 62) ∧ I (.vals (rngW 0 n), S) := by
  show Ok (iRngM (.d (.int 0)) (.d (.int n)) S) I ↔ _
  rw [k_rng]
  exact and_congr_left fun _ => ⟨fun h => h.2.2, fun h => ⟨by decide, by decide, h⟩⟩
theorem k_r2_ {lo n : Int} : Kr2 I ([.d (.int lo), .d (.int n)], S) ↔ (-(2 ^ 62) ≤ lo ∧ lo < 2 ^ 62 ∧ -(2 ^ 62) ≤ n ∧ n < 2 ^ 62) ∧ I (.vals (rngW lo n), S) := k_rng
def Ke (I : Itm × Mem → Prop) (p : List W × Mem) : Prop := Ok (match p.1 with
  | [.d (.tuple ds)] => some (.vals (numW ds), p.2)
  | _ => none) I
theorem k_e : Ok (iEnumM m ρ S) I ↔ Ok (m ρ S) (Ke I) := bind_fr fun x => Iff.rfl
theorem k_e_ {ds : List PyData} : Ke I ([.d (.tuple ds)], S) ↔ I (.vals (numW ds), S) := k_some
end
/-! ### comprehensions -/
def Klc2 (mk : List W → Mem → Option (W × Mem)) (Q : WM → Prop) (p : List W × Mem) : Prop := Ok (mk p.1 p.2) Q
def Klc1 (g : MG) (t : MT) (e : ME) (mk : List W → Mem → Option (W × Mem)) (ρ : Env') (Q : WM → Prop) (p : Itm × Mem) : Prop := Ok (lcM p.1 g t e (p.1.len p.2) 0 ρ p.2) (Klc2 mk Q)
theorem k_lc {mi : MI} {vs : List Nat} {mk : List W → Mem → Option (W × Mem)} : Ok (eLc mi vs g p e mk ρ S) Q ↔ Ok (mi ρ S) (Klc1 g p e mk (wipeE ρ vs) Q) := bind_fr fun x => bind2 _ rfl fun y => Iff.rfl
theorem k_lc1_ {mk : List W → Mem → Option (W × Mem)} {im : Itm} : Klc1 g p e mk ρ Q (im, S) ↔ Ok (lcM im g p e (im.len S) 0 ρ S) (Klc2 mk Q) := .rfl
theorem k_lc2_ {mk : List W → Mem → Option (W × Mem)} {ws : List W} : Klc2 mk Q (ws, S) ↔ Ok (mk ws S) Q := .rfl
theorem k_yes : Ok (tYesM ρ S) B ↔ B (true, S) := k_some
def Kall2 (Q : WM → Prop) (p : Bool × Mem) : Prop := Q (.d (.bool p.1), p.2)
def Kall1 (g : MG) (e : ME) (ρ : Env') (Q : WM → Prop) (p : Itm × Mem) : Prop := Ok (match p.1 with
  | .vals ws => (allL g e ws ρ p.2).bind fun q => some (.d (.bool q.1), q.2)
  | _ => none) Q
theorem k_all {mi : MI} {vs : List Nat} : Ok (eAll mi vs g e ρ S) Q ↔ Ok (mi ρ S) (Kall1 g e (wipeE ρ vs) Q) := bind_fr fun x => Iff.rfl
theorem k_all1_ {ws : List W} : Kall1 g e ρ Q (.vals ws, S) ↔ Ok (allL g e ws ρ S) (Kall2 Q) := bind_fr fun x => some2 _ _ rfl
theorem k_all2_ {k : Bool} : Kall2 Q (k, S) ↔ Q (.d (.bool k), S) := .rfl
/-! ### methods of lists -/
def Kbm2 (f : MM) (x : W) (Q : WM → Prop) (p : List W × Mem) : Prop := Ok (f x p.1 p.2) Q
def Kbm1 (f : MM) (m : MA) (ρ : Env') (Q : WM → Prop) (p : WM) : Prop := Ok ((itemsL p.1 p.2).bind fun _ => (m ρ p.2).bind fun q => f p.1 q.1 q.2) Q
theorem k_bm {f : MM} : Ok (eBm f a m ρ S) Q ↔ Ok (a ρ S) (Kbm1 f m ρ Q) := bind_fr fun x => Iff.rfl
def Kbml (f : MM) (n : Nat) (m : MA) (ρ : Env') (S : Mem) (Q : WM → Prop) : Option Ob → Prop
  | some (.lst _) => Ok (m ρ S) (Kbm2 f (.loc n) Q)
  | _ => False
theorem k_bm1l {f : MM} {n : Nat} : Kbm1 f m ρ Q (.loc n, S) ↔ Kbml f n m ρ S Q S[n]? := by
  unfold Kbm1 itemsL
  cases h : S[n]? with
  | none => simp only [h, Option.bind_none, k_none, Kbml]
  | some o => cases o with
    | lst ws => simp only [h, Option.bind_some, Kbml]; exact bind_fr fun y => Iff.rfl
    | dct _ => simp only [h, Option.bind_none, k_none, Kbml]
    | ldct _ => simp only [h, Option.bind_none, k_none, Kbml]
    | ins _ _ => simp only [h, Option.bind_none, k_none, Kbml]
theorem k_bml_ {f : MM} {n : Nat} {ws : List W} : Kbml f n m ρ S Q (some (.lst ws)) ↔ Ok (m ρ S) (Kbm2 f (.loc n) Q) := .rfl
theorem k_bm2_ {f : MM} {x : W} {ws : List W} : Kbm2 f x Q (ws, S) ↔ Ok (f x ws S) Q := .rfl
/-- what is done with the list at n -/
def Kat (F : List W → Option WM) (Q : WM → Prop) : Option Ob → Prop
  | some (.lst ws) => Ok (F ws) Q
  | _ => False
theorem k_at {n : Nat} {F : List W → Option WM} : Ok ((lstAt (.loc n) S).bind fun p => F p.2) Q ↔ Kat F Q S[n]? := by
  unfold lstAt
  cases h : S[n]? with
  | none => simp only [h, Option.bind_none, k_none, Kat]
  | some o => cases o <;> simp only [h, Option.bind_none, Option.bind_some, k_none, Kat]
def FApp (n : Nat) (w : W) (S : Mem) (ws : List W) : Option WM := if ws.length < sizeLine then some (.d .none, S.set n (.lst (ws ++ [w]))) else none
theorem k_at2 {n : Nat} {F : Nat → List W → Option WM} : Ok ((lstAt (.loc n) S).bind fun p => F p.1 p.2) Q ↔ Kat (F n) Q S[n]? := by
  unfold lstAt
  cases h : S[n]? with
  | none => simp only [h, Option.bind_none, k_none, Kat]
  | some o => cases o <;> simp only [h, Option.bind_none, Option.bind_some, k_none, Kat]
theorem k_app {n : Nat} {w : W} : Ok (mAppend (.loc n) [w] S) Q ↔ Kat (FApp n w S) Q S[n]? := k_at2 (F := fun k ws => FApp k w S ws)
theorem k_app_ {n : Nat} {w : W} {ws : List W} : Kat (FApp n w S) Q (some (.lst ws)) ↔ ws.length < sizeLine ∧ Q (.d .none, S.set n (.lst (ws ++ [w]))) := by
  show Ok (if _ then _ else _) Q ↔ _
  rw [k_if, k_some]
def FExt (n : Nat) (ds : List PyData) (S : Mem) (ws : List W) : Option WM := if ws.length + ds.length ≤ sizeLine then some (.d .none, S.set n (.lst (ws ++ ds.map .d))) else none
theorem k_ext {n : Nat} {ds : List PyData} : Ok (mExtend (.loc n) [.d (.list ds)] S) Q ↔ Kat (FExt n ds S) Q S[n]? := k_at2 (F := fun k ws => FExt k ds S ws)
theorem k_ext_ {n : Nat} {ds : List PyData} {ws : List W} : Kat (FExt n ds S) Q (some (.lst ws)) ↔ ws.length + ds.length ≤ sizeLine ∧ Q (.d .none, S.set n (.lst (ws ++ ds.map .d))) := by
  show Ok (if _ then _ else _) Q ↔ _
  rw [k_if, k_some]
def FPop (n : Nat) (S : Mem) (ws : List W) : Option WM := (ws[ws.length - 1]?).bind fun w => some (w, S.set n (.lst ws.dropLast))
theorem k_pop {n : Nat} : Ok (mPop (.loc n) [] S) Q ↔ Kat (FPop n S) Q S[n]? := k_at2 (F := fun k ws => FPop k S ws)
theorem k_pop_ {n : Nat} {ws : List W} {w : W} : Kat (FPop n S) Q (some (.lst (ws ++ [w]))) ↔ Q (w, S.set n (.lst ws)) := by
  show Ok (Option.bind _ _) Q ↔ _
  have e : (ws ++ [w])[(ws ++ [w]).length - 1]? = some w := by simp
  rw [e, List.dropLast_concat]
  exact k_some
def FRev (n : Nat) (S : Mem) (ws : List W) : Option WM := some (.d .none, S.set n (.lst ws.reverse))
theorem k_rev {n : Nat} : Ok (mReverse (.loc n) [] S) Q ↔ Kat (FRev n S) Q S[n]? := k_at2 (F := fun k ws => FRev k S ws)
theorem k_rev_ {n : Nat} {ws : List W} : Kat (FRev n S) Q (some (.lst ws)) ↔ Q (.d .none, S.set n (.lst ws.reverse)) := k_some
def FIns (n : Nat) (i : Int) (w : W) (S : Mem) (ws : List W) : Option WM := if decide (ws.length < sizeLine ∧ 0 ≤ i ∧ i < 2 ^ 63) = true then some (.d .none, S.set n (.lst (ws.take i.toNat ++ [w] ++ ws.drop i.toNat))) else none
theorem k_ins {n : Nat} {i : Int} {w : W} : Ok (mInsert (.loc n) [.d (.int i), w] S) Q ↔ Kat (FIns n i w S) Q S[n]? := k_at2 (F := fun k ws => FIns k i w S ws)
theorem k_ins_ {n : Nat} {i : Int} {w : W} {ws : List W} : Kat (FIns n i w S) Q (some (.lst ws)) ↔ (ws.length < sizeLine ∧ 0 ≤ i ∧ i < 2 ^ 63) ∧ Q (.d .none, S.set n (.lst (ws.take i.toNat ++ [w] ++ ws.drop i.toNat))) := by
  show Ok (if _ then _ else _) Q ↔ _
  rw [k_if, k_some, decide_eq_true_eq]
/-! ### what the operators and the functions give -/
def KmkT (Q : WM → Prop) (S : Mem) : Option (List PyData) → Prop
  | some ds => ds.length ≤ sizeLine ∧ Q (.d (.tuple ds), S)
  | none => False
theorem k_mkT {ws : List W} : Ok (mkT ws S) Q ↔ KmkT Q S (dOf ws) := by
  unfold mkT
  cases h : dOf ws with
  | none => simp only [Option.bind_none, k_none, KmkT]
  | some ds => simp only [Option.bind_some, k_if, k_some, KmkT]
theorem k_mkT_ {ds : List PyData} : KmkT Q S (some ds) ↔ ds.length ≤ sizeLine ∧ Q (.d (.tuple ds), S) := .rfl
def KmkF (Q : WM → Prop) (S : Mem) : Option (List PyData) → Prop
  | some ds => ds.length ≤ sizeLine ∧ Q (.d (.list ds), S)
  | none => False
theorem k_mkF {ws : List W} : Ok (mkF ws S) Q ↔ KmkF Q S (dOf ws) := by
  unfold mkF
  cases h : dOf ws with
  | none => simp only [Option.bind_none, k_none, KmkF]
  | some ds => simp only [Option.bind_some, k_if, k_some, KmkF]
theorem k_mkF_ {ds : List PyData} : KmkF Q S (some ds) ↔ ds.length ≤ sizeLine ∧ Q (.d (.list ds), S) := .rfl
theorem k_mkL {ws : List W} : Ok (mkL ws S) Q ↔ ws.length ≤ sizeLine ∧ Q (.loc S.length, S ++ [.lst ws]) := by
  unfold mkL; rw [k_if, k_some]
theorem dOf_nil : dOf [] = some [] := rfl
theorem dOf_c {x : PyData} {ws : List W} : dOf (.d x :: ws) = (dOf ws).map (x :: ·) := rfl
theorem k_add {L : Bool} {i j : Int} : Ok (oPlus L (.d (.int i)) (.d (.int j)) S) Q ↔ Q (.d (.int (i + j)), S) := k_some
theorem k_addS {L : Bool} {i j : Str} : Ok (oPlus L (.d (.str i)) (.d (.str j)) S) Q ↔ i.length + j.length ≤ sizeLine ∧ Q (.d (.str (i ++ j)), S) := by
  show Ok (if _ then _ else _) Q ↔ _
  rw [k_if, k_some]
theorem k_addT {L : Bool} {i j : List PyData} : Ok (oPlus L (.d (.tuple i)) (.d (.tuple j)) S) Q ↔ i.length + j.length ≤ sizeLine ∧ Q (.d (.tuple (i ++ j)), S) := by
  show Ok (if _ then _ else _) Q ↔ _
  rw [k_if, k_some]
theorem k_addL {i j : List PyData} : Ok (oPlus false (.d (.list i)) (.d (.list j)) S) Q ↔ i.length + j.length ≤ sizeLine ∧ Q (.d (.list (i ++ j)), S) := by
  show Ok (if _ then _ else _) Q ↔ _
  rw [k_if]
  simp only [Bool.false_eq_true, if_false, k_some]
theorem k_addLL {i j : List PyData} : Ok (oPlus true (.d (.list i)) (.d (.list j)) S) Q ↔ i.length + j.length ≤ sizeLine ∧ Q (.loc S.length, S ++ [.lst ((i ++ j).map .d)]) := by
  show Ok (if _ then _ else _) Q ↔ _
  rw [k_if]
  simp only [if_true, k_some]
theorem k_sub {i j : Int} : Ok (oSub (.d (.int i)) (.d (.int j)) S) Q ↔ Q (.d (.int (i - j)), S) := k_some
theorem k_lt {i j : Int} : Ok (oLt (.d (.int i)) (.d (.int j)) S) Q ↔ Q (.d (.bool (decide (i < j))), S) := k_some
theorem k_le {i j : Int} : Ok (oLe (.d (.int i)) (.d (.int j)) S) Q ↔ Q (.d (.bool (decide (i ≤ j))), S) := k_some
theorem k_gt {i j : Int} : Ok (oGt (.d (.int i)) (.d (.int j)) S) Q ↔ Q (.d (.bool (decide (j < i))), S) := k_some
theorem k_ge {i j : Int} : Ok (oGe (.d (.int i)) (.d (.int j)) S) Q ↔ Q (.d (.bool (decide (j ≤ i))), S) := k_some
theorem k_mul {i j : Int} : Ok (oMul (.d (.int i)) (.d (.int j)) S) Q ↔ (((-(2 ^ 64) < i ∧ i < 2 ^ 64) ∨ (-(2 ^ 64) < j ∧ j < 2 ^ 64)) ∨ i.natAbs.log2 + j.natAbs.log2 < 1000000) ∧ Q (.d (.int (i * j)), S) := by
  show Ok ((if _ then _ else _ : Option PyData).map _) Q ↔ _
  rw [k_map, k_if, k_some, decide_eq_true_eq]
theorem k_div {i j : Int} : Ok (oDiv (.d (.int i)) (.d (.int j)) S) Q ↔ (0 < j ∧ j.natAbs.log2 < 9000) ∧ Q (.d (.int (i / j)), S) := by
  show Ok ((if _ then _ else _ : Option PyData).map _) Q ↔ _
  rw [k_map, k_if, k_some, decide_eq_true_eq]
theorem k_mod {i j : Int} : Ok (oMod (.d (.int i)) (.d (.int j)) S) Q ↔ 0 < j ∧ Q (.d (.int (i % j)), S) := by
  show Ok ((if _ then _ else _ : Option PyData).map _) Q ↔ _
  rw [k_map, k_if, k_some, decide_eq_true_eq]
theorem k_pow {i j : Int} : Ok (oPow (.d (.int i)) (.d (.int j)) S) Q ↔ (0 ≤ j ∧ j ≤ 1000000 ∧ i.natAbs < 2 ^ 64) ∧ Q (.d (.int (i ^ j.toNat)), S) := by
  show Ok ((if _ then _ else _ : Option PyData).map _) Q ↔ _
  rw [k_map, k_if, k_some, decide_eq_true_eq]
theorem k_neg {i : Int} : Ok (oNeg (.d (.int i)) S) Q ↔ Q (.d (.int (-i)), S) := k_some
theorem k_eqI {n : Bool} {i j : Int} : Ok (oEq n (.d (.int i)) (.d (.int j)) S) Q ↔ Q (.d (.bool (if n then !decide (i = j) else decide (i = j))), S) := k_some
theorem k_eqS {n : Bool} {i j : Str} : Ok (oEq n (.d (.str i)) (.d (.str j)) S) Q ↔ Q (.d (.bool (if n then !decide (i = j) else decide (i = j))), S) := k_some
theorem k_eqB {n : Bool} {i j : Bool} : Ok (oEq n (.d (.bool i)) (.d (.bool j)) S) Q ↔ Q (.d (.bool (if n then !decide (i = j) else decide (i = j))), S) := k_some
theorem k_eqIS {n : Bool} {i : Int} {j : Str} : Ok (oEq n (.d (.int i)) (.d (.str j)) S) Q ↔ Q (.d (.bool (if n then true else false)), S) := k_some
theorem k_eqSI {n : Bool} {i : Int} {j : Str} : Ok (oEq n (.d (.str j)) (.d (.int i)) S) Q ↔ Q (.d (.bool (if n then true else false)), S) := k_some
theorem k_eqT {n : Bool} {i j : List PyData} : Ok (oEq n (.d (.tuple i)) (.d (.tuple j)) S) Q ↔ (SeqAt.shaped (.tuple i) = true ∧ SeqAt.shaped (.tuple j) = true) ∧ Q (.d (.bool (if n then !PyData.eqv (.tuple i) (.tuple j) else PyData.eqv (.tuple i) (.tuple j))), S) := by
  show Ok ((eqP _ _).map _) Q ↔ _
  rw [k_map]
  unfold eqP
  rw [if_neg (show ¬ (scalD (.tuple i) (.tuple j) = true) from fun z => nomatch z), k_if, k_some]
theorem k_isN {n : Bool} {x : W} : Ok (oIsN n x (.d .none) S) Q ↔ Q (.d (.bool (if n then !isNonW x else isNonW x)), S) := k_some
theorem k_isBl {x y : Bool} : Ok (oIsBl (.d (.bool x)) (.d (.bool y)) S) Q ↔ Q (.d (.bool (decide (x = y))), S) := k_some
def Kix (Q : WM → Prop) (S : Mem) : Option PyData → Prop
  | some d => Q (.d d, S)
  | none => False
def KiW (Q : WM → Prop) (S : Mem) : Option W → Prop
  | some d => Q (d, S)
  | none => False
def KiL (Q : WM → Prop) (S : Mem) (i : Int) : Option Ob → Prop
  | some (.lst ws) => KiW Q S (atI ws i)
  | _ => False
theorem k_ixT {ds : List PyData} {i : Int} : Ok (oIx (.d (.tuple ds)) (.d (.int i)) S) Q ↔ Kix Q S (atI ds i) := by
  rw [oIx_tup]
  cases atI ds i with
  | none => exact k_none
  | some d => exact k_some
theorem k_ixL {ds : List PyData} {i : Int} : Ok (oIx (.d (.list ds)) (.d (.int i)) S) Q ↔ KiW Q S (atI (ds.map W.d) i) := by
  rw [oIx_list]
  cases atI (ds.map W.d) i with
  | none => exact k_none
  | some d => exact k_some
theorem k_ixl {n : Nat} {i : Int} : Ok (oIx (.loc n) (.d (.int i)) S) Q ↔ KiL Q S i S[n]? := by
  show Ok ((itemsL (.loc n) S).bind _) Q ↔ _
  unfold itemsL
  cases h : S[n]? with
  | none => simp only [h, Option.bind_none, k_none, KiL]
  | some o => cases o with
    | lst ws =>
      simp only [h, Option.bind_some, KiL]
      cases hj : atI ws i with
      | none => simp only [hj, Option.map_none, k_none, KiW]
      | some j => simp only [hj, Option.map_some, k_some, KiW]
    | dct _ => simp only [h, Option.bind_none, k_none, KiL]
    | ldct _ => simp only [h, Option.bind_none, k_none, KiL]
    | ins _ _ => simp only [h, Option.bind_none, k_none, KiL]
theorem k_ix_ {d : PyData} : Kix Q S (some d) ↔ Q (.d d, S) := .rfl
theorem k_iW_ {d : W} : KiW Q S (some d) ↔ Q (d, S) := .rfl
theorem k_iL_ {i : Int} {ws : List W} : KiL Q S i (some (.lst ws)) ↔ KiW Q S (atI ws i) := .rfl
theorem k_lenT {ds : List PyData} : Ok (bLen [.d (.tuple ds)] S) Q ↔ Q (.d (.int ds.length), S) := by
  unfold bLen items
  simp only [Option.bind_some, k_some, List.length_map]
theorem k_lenL {ds : List PyData} : Ok (bLen [.d (.list ds)] S) Q ↔ Q (.d (.int ds.length), S) := by
  unfold bLen items
  simp only [Option.bind_some, k_some, List.length_map]
def Kl (Q : List W → Prop) : Option Ob → Prop
  | some (.lst ws) => Q ws
  | _ => False
def Qlen (Q : WM → Prop) (S : Mem) (ws : List W) : Prop := Q (.d (.int ws.length), S)
theorem k_lenl {n : Nat} : Ok (bLen [.loc n] S) Q ↔ Kl (Qlen Q S) S[n]? := by
  unfold bLen items
  cases h : S[n]? with
  | none => simp only [h, Option.bind_none, k_none, Kl]
  | some o => cases o <;> simp only [h, Option.bind_none, Option.bind_some, k_none, k_some, Kl, Qlen]
theorem k_lenl_ {ws : List W} : Kl (Qlen Q S) (some (.lst ws)) ↔ Q (.d (.int ws.length), S) := .rfl
def Qtup (Q : WM → Prop) (S : Mem) (ws : List W) : Prop := Kix (fun p => Q p) S ((dOf ws).map .tuple)
theorem k_tupl {n : Nat} : Ok (bTuple [.loc n] S) Q ↔ Kl (Qtup Q S) S[n]? := by
  unfold bTuple itemsL
  cases h : S[n]? with
  | none => simp only [h, Option.bind_none, k_none, Kl]
  | some o => cases o with
    | lst ws =>
      simp only [h, Option.bind_some, Kl, Qtup]
      cases dOf ws with
      | none => exact k_none
      | some ds => exact k_some
    | dct _ => simp only [h, Option.bind_none, k_none, Kl]
    | ldct _ => simp only [h, Option.bind_none, k_none, Kl]
    | ins _ _ => simp only [h, Option.bind_none, k_none, Kl]
theorem k_tupl_ {ds : List PyData} : Kl (Qtup Q S) (some (.lst (ds.map .d))) ↔ Q (.d (.tuple ds), S) := by
  show Kix _ _ ((dOf (ds.map .d)).map _) ↔ _
  rw [dOf_map]; exact Iff.rfl
theorem k_tupl0 : Kl (Qtup Q S) (some (.lst [])) ↔ Q (.d (.tuple []), S) := .rfl
def Qlst (Q : WM → Prop) (S : Mem) (ws : List W) : Prop := Kix (fun p => Q p) S ((dOf ws).map .list)
theorem k_lstFl {n : Nat} : Ok (bListF [.loc n] S) Q ↔ Kl (Qlst Q S) S[n]? := by
  unfold bListF items
  cases h : S[n]? with
  | none => simp only [h, Option.bind_none, k_none, Kl]
  | some o => cases o with
    | lst ws =>
      simp only [h, Option.bind_some, Kl, Qlst]
      cases dOf ws with
      | none => exact k_none
      | some ds => exact k_some
    | dct _ => simp only [h, Option.bind_none, k_none, Kl]
    | ldct _ => simp only [h, Option.bind_none, k_none, Kl]
    | ins _ _ => simp only [h, Option.bind_none, k_none, Kl]
theorem k_lstFl_ {ds : List PyData} : Kl (Qlst Q S) (some (.lst (ds.map .d))) ↔ Q (.d (.list ds), S) := by
  show Kix _ _ ((dOf (ds.map .d)).map _) ↔ _
  rw [dOf_map]; exact Iff.rfl
def QlsL (Q : WM → Prop) (S : Mem) (ws : List W) : Prop := Q (.loc S.length, S ++ [.lst ws])
theorem k_lstLl {n : Nat} : Ok (bListL [.loc n] S) Q ↔ Kl (QlsL Q S) S[n]? := by
  unfold bListL items
  cases h : S[n]? with
  | none => simp only [h, Option.bind_none, k_none, Kl]
  | some o => cases o <;> simp only [h, Option.bind_none, Option.bind_some, k_none, k_some, Kl, QlsL]
theorem k_lstLl_ {ws : List W} : Kl (QlsL Q S) (some (.lst ws)) ↔ Q (.loc S.length, S ++ [.lst ws]) := .rfl
def QslL (Q : WM → Prop) (S : Mem) (lo hi : Option Int) (ws : List W) : Prop := Q (.loc S.length, S ++ [.lst (cutL ws lo hi)])
theorem k_slLl {n : Nat} {lo hi : Option Int} : Ok (oSl true (.loc n) lo hi S) Q ↔ Kl (QslL Q S lo hi) S[n]? := by
  unfold oSl itemsL
  cases h : S[n]? with
  | none => simp only [h, Option.bind_none, k_none, Kl]
  | some o => cases o <;> simp only [h, Option.bind_none, Option.bind_some, if_true, k_none, k_some, Kl, QslL]
theorem k_slLl_ {lo hi : Option Int} {ws : List W} : Kl (QslL Q S lo hi) (some (.lst ws)) ↔ Q (.loc S.length, S ++ [.lst (cutL ws lo hi)]) := .rfl
def QslF (Q : WM → Prop) (S : Mem) (lo hi : Option Int) (ws : List W) : Prop := Kix (fun p => Q p) S ((dOf (cutL ws lo hi)).map .list)
theorem k_slFl {n : Nat} {lo hi : Option Int} : Ok (oSl false (.loc n) lo hi S) Q ↔ Kl (QslF Q S lo hi) S[n]? := by
  unfold oSl itemsL
  cases h : S[n]? with
  | none => simp only [h, Option.bind_none, k_none, Kl]
  | some o => cases o with
    | lst ws =>
      simp only [h, Option.bind_some, Kl, QslF, Bool.false_eq_true, if_false]
      cases dOf (cutL ws lo hi) with
      | none => exact k_none
      | some ds => exact k_some
    | dct _ => simp only [h, Option.bind_none, k_none, Kl]
    | ldct _ => simp only [h, Option.bind_none, k_none, Kl]
    | ins _ _ => simp only [h, Option.bind_none, k_none, Kl]
theorem k_tupT {ds : List PyData} : Ok (bTuple [.d (.tuple ds)] S) Q ↔ Q (.d (.tuple ds), S) := k_some
theorem k_tupL {ds : List PyData} : Ok (bTuple [.d (.list ds)] S) Q ↔ Q (.d (.tuple ds), S) := by
  unfold bTuple itemsL
  simp only [Option.bind_some, dOf_map, k_some]
theorem k_lstFT {ds : List PyData} : Ok (bListF [.d (.tuple ds)] S) Q ↔ Q (.d (.list ds), S) := by
  unfold bListF items
  simp only [Option.bind_some, dOf_map, k_some]
theorem k_lstFL {ds : List PyData} : Ok (bListF [.d (.list ds)] S) Q ↔ Q (.d (.list ds), S) := by
  unfold bListF items
  simp only [Option.bind_some, dOf_map, k_some]
theorem k_lstLT {ds : List PyData} : Ok (bListL [.d (.tuple ds)] S) Q ↔ Q (.loc S.length, S ++ [.lst (ds.map .d)]) := by
  unfold bListL items
  simp only [Option.bind_some, k_some]
theorem k_lstLL {ds : List PyData} : Ok (bListL [.d (.list ds)] S) Q ↔ Q (.loc S.length, S ++ [.lst (ds.map .d)]) := by
  unfold bListL items
  simp only [Option.bind_some, k_some]
theorem k_lstLs {ds : List PyData} : Ok (bListL [.d (.dict [(.none, .list ds)])] S) Q ↔ Q (.loc S.length, S ++ [.lst (ds.map .d)]) := by
  unfold bListL items
  simp only [Option.bind_some, k_some]
theorem k_abs {i : Int} : Ok (bAbs [.d (.int i)] S) Q ↔ Q (.d (.int (if i < 0 then -i else i)), S) := k_some
theorem k_int {i : Int} : Ok (bInt [.d (.int i)] S) Q ↔ Q (.d (.int i), S) := k_some
theorem k_intB {k : Bool} : Ok (bInt [.d (.bool k)] S) Q ↔ Q (.d (.int (if k then 1 else 0)), S) := k_some
theorem k_str {i : Int} : Ok (bStr [.d (.int i)] S) Q ↔ i.natAbs.log2 < 1920 ∧ Q (.d (.str (toString i)), S) := by
  show Ok (if _ then _ else _) Q ↔ _
  rw [k_if, k_some, decide_eq_true_eq]
theorem k_slT {L : Bool} {ds : List PyData} {lo hi : Option Int} : Ok (oSl L (.d (.tuple ds)) lo hi S) Q ↔ Q (.d (.tuple (cutL ds lo hi)), S) := k_some
theorem k_slLs {ds : List PyData} {lo hi : Option Int} : Ok (oSl false (.d (.dict [(.none, .list ds)])) lo hi S) Q ↔ Q (.d (.list (cutL ds lo hi)), S) := by
  unfold oSl itemsL
  simp only [Option.bind_some, Bool.false_eq_true, if_false]
  rw [show cutL (ds.map W.d) lo hi = (cutL ds lo hi).map W.d by unfold cutL; rw [List.length_map, ← List.map_drop, ← List.map_take], dOf_map]
  exact k_some
theorem k_slL {ds : List PyData} {lo hi : Option Int} : Ok (oSl false (.d (.list ds)) lo hi S) Q ↔ Q (.d (.list (cutL ds lo hi)), S) := by
  unfold oSl itemsL
  simp only [Option.bind_some, Bool.false_eq_true, if_false]
  rw [show cutL (ds.map W.d) lo hi = (cutL ds lo hi).map W.d by unfold cutL; rw [List.length_map, ← List.map_drop, ← List.map_take], dOf_map]
  exact k_some
def KisB (T : Bool) (Q : WM → Prop) (p : WM) : Prop := Ok ((isK p.1 T).map fun b => ((.d (.bool b) : W), p.2)) Q
theorem k_is {T : Bool} : Ok (eIs T a ρ S) Q ↔ Ok (a ρ S) (KisB T Q) := bind_fr fun x => Iff.rfl
theorem k_is_iT {i : Int} : KisB false Q (.d (.int i), S) ↔ Q (.d (.bool true), S) := k_some
theorem k_is_iB {i : Int} : KisB true Q (.d (.int i), S) ↔ Q (.d (.bool false), S) := k_some
theorem k_is_b {i T : Bool} : KisB T Q (.d (.bool i), S) ↔ Q (.d (.bool true), S) := by cases T <;> exact k_some
theorem k_is_s {i : Str} {T : Bool} : KisB T Q (.d (.str i), S) ↔ Q (.d (.bool false), S) := by cases T <;> exact k_some
def KisT (h : W → Option Bool) (Q : WM → Prop) (p : WM) : Prop := Ok ((h p.1).map fun b => ((.d (.bool b) : W), p.2)) Q
theorem k_isT : Ok (eIsT a ρ S) Q ↔ Ok (a ρ S) (KisT isT Q) := bind_fr fun x => Iff.rfl
theorem k_isS : Ok (eIsS a ρ S) Q ↔ Ok (a ρ S) (KisT isSt Q) := bind_fr fun x => Iff.rfl
theorem k_isT_t {ds : List PyData} : KisT isT Q (.d (.tuple ds), S) ↔ Q (.d (.bool true), S) := k_some
theorem k_isT_i {i : Int} : KisT isT Q (.d (.int i), S) ↔ Q (.d (.bool false), S) := k_some
theorem k_isT_b {i : Bool} : KisT isT Q (.d (.bool i), S) ↔ Q (.d (.bool false), S) := k_some
theorem k_isT_s {i : Str} : KisT isT Q (.d (.str i), S) ↔ Q (.d (.bool false), S) := k_some
theorem k_isT_n : KisT isT Q (.d .none, S) ↔ Q (.d (.bool false), S) := k_some
theorem k_isS_s {i : Str} : KisT isSt Q (.d (.str i), S) ↔ Q (.d (.bool true), S) := k_some
theorem k_isS_i {i : Int} : KisT isSt Q (.d (.int i), S) ↔ Q (.d (.bool false), S) := k_some
theorem k_isS_b {i : Bool} : KisT isSt Q (.d (.bool i), S) ↔ Q (.d (.bool false), S) := k_some
theorem k_isS_t {ds : List PyData} : KisT isSt Q (.d (.tuple ds), S) ↔ Q (.d (.bool false), S) := k_some
def KisL (Q : WM → Prop) (p : WM) : Prop := Ok ((lstAt p.1 p.2).map fun _ => ((.d (.bool true) : W), p.2)) Q
theorem k_isL : Ok (eIsL a ρ S) Q ↔ Ok (a ρ S) (KisL Q) := bind_fr fun x => Iff.rfl
def QisL (Q : WM → Prop) (S : Mem) (_ : List W) : Prop := Q (.d (.bool true), S)
theorem k_isL_ {n : Nat} : KisL Q (.loc n, S) ↔ Kl (QisL Q S) S[n]? := by
  unfold KisL lstAt
  cases h : S[n]? with
  | none => simp only [h, Option.map_none, k_none, Kl]
  | some o => cases o <;> simp only [h, Option.map_none, Option.map_some, k_none, k_some, Kl, QisL]
theorem k_isL2 {ws : List W} : Kl (QisL Q S) (some (.lst ws)) ↔ Q (.d (.bool true), S) := .rfl
end
/-! ### walks -/
def Kturn (g : MG) (b : MS) (Nx : Env' → Mem → Prop) (P : OR' → Prop) (q : OR') : Prop := match q.1 with
  | .bk => P (.nx, q.2)
  | .rt w => P (.rt w, q.2)
  | _ => Nx q.2.1 q.2.2
section
variable {ρ : Env'} {S : Mem} {g : MG} {b : MS} {P : OR' → Prop} {Nx : Env' → Mem → Prop}
theorem k_turn_nx : Kturn g b Nx P (.nx, ρ, S) ↔ Nx ρ S := .rfl
theorem k_turn_ct : Kturn g b Nx P (.ct, ρ, S) ↔ Nx ρ S := .rfl
theorem k_turn_bk : Kturn g b Nx P (.bk, ρ, S) ↔ P (.nx, ρ, S) := .rfl
theorem k_turn_rt {w : W} : Kturn g b Nx P (.rt w, ρ, S) ↔ P (.rt w, ρ, S) := .rfl
def Kg (b : MS) (P : OR' → Prop) (p : Env' × Mem) : Prop := Ok (b p.1 p.2) P
theorem k_g_ {P : OR' → Prop} : Kg b P (ρ, S) ↔ Ok (b ρ S) P := .rfl
/-- a for: what is left to be walked -/
theorem for_it {im : Itm} {n : Nat} (Inv : Nat → Env' → Mem → Prop)
    (step : ∀ i ρ S, i < n → Inv i ρ S → ∃ w, im.at_ S i = some (some w) ∧ Ok (g w ρ S) (Kg b (Kturn g b (Inv (i + 1)) P)))
    (stop : ∀ ρ S, Inv n ρ S → im.at_ S n = some none ∧ P (.nx, ρ, S)) : ∀ (k i : Nat) ρ S, i + k = n → Inv i ρ S → Ok (forM im g b k i ρ S) P := by
  intro k
  induction k with
  | zero =>
    intro i ρ S hi h
    have e : i = n := by omega
    subst e
    obtain ⟨h1, h2⟩ := stop ρ S h
    unfold forM
    rw [h1]
    exact k_some.mpr h2
  | succ k ih =>
    intro i ρ S hi h
    obtain ⟨w, h1, x, e1, y, e2, h2⟩ := step i ρ S (by omega) h
    obtain ⟨ρ1, S1⟩ := x
    obtain ⟨o, ρ2, S2⟩ := y
    unfold forM
    rw [h1]
    simp only [e1, Option.bind_some, e2]
    cases o with
    | nx => exact ih (i + 1) ρ2 S2 (by omega) h2
    | ct => exact ih (i + 1) ρ2 S2 (by omega) h2
    | bk => exact k_some.mpr h2
    | rt w => exact k_some.mpr h2
theorem for_vals {ws : List W} (Inv : Nat → Env' → Mem → Prop) (h0 : Inv 0 ρ S)
    (step : ∀ i w ρ S, ws[i]? = some w → Inv i ρ S → Ok (g w ρ S) (Kg b (Kturn g b (Inv (i + 1)) P)))
    (stop : ∀ ρ S, Inv ws.length ρ S → P (.nx, ρ, S)) : Ok (forM (.vals ws) g b (Itm.len (.vals ws) S) 0 ρ S) P :=
  for_it (im := .vals ws) (n := ws.length) Inv (fun i ρ S hi h => ⟨ws[i], by show some ws[i]? = _; rw [List.getElem?_eq_getElem hi], step i ws[i] ρ S (List.getElem?_eq_getElem hi) h⟩)
    (fun ρ S h => ⟨by show some ws[ws.length]? = _; rw [List.getElem?_eq_none (Nat.le_refl _)], stop ρ S h⟩) ws.length 0 ρ S (by omega) h0
/-- .. by the list that is left -/
theorem for_rest : ∀ (ws : List W) (Inv : List W → Env' → Mem → Prop) (ρ : Env') (S : Mem), Inv ws ρ S →
    (∀ w rest ρ S, Inv (w :: rest) ρ S → Ok (g w ρ S) (Kg b (Kturn g b (Inv rest) P))) →
    (∀ ρ S, Inv [] ρ S → P (.nx, ρ, S)) → Ok (forM (.vals ws) g b (Itm.len (.vals ws) S) 0 ρ S) P := by
  intro ws Inv ρ S h0 step stop
  refine for_vals (fun i => Inv (ws.drop i)) (by rw [List.drop_zero]; exact h0) (fun i w ρ S hw h => ?_) (fun ρ S h => stop ρ S (by rwa [List.drop_length] at h))
  have hlt : i < ws.length := (List.getElem?_eq_some_iff.mp hw).1
  have e : ws[i] = w := (List.getElem?_eq_some_iff.mp hw).2
  rw [List.drop_eq_getElem_cons hlt, e] at h
  exact step w _ ρ S h
/-- the list walked is the one that lies at n, and stays -/
theorem for_live {ws : List W} {n : Nat} (Inv : Nat → Env' → Mem → Prop) (h0 : Inv 0 ρ S) (hl : S[n]? = some (.lst ws))
    (at_ : ∀ i ρ S, Inv i ρ S → S[n]? = some (.lst ws))
    (step : ∀ i w ρ S, ws[i]? = some w → Inv i ρ S → Ok (g w ρ S) (Kg b (Kturn g b (Inv (i + 1)) P)))
    (stop : ∀ ρ S, Inv ws.length ρ S → P (.nx, ρ, S)) : Ok (forM (.live n) g b (Itm.len (.live n) S) 0 ρ S) P := by
  have e : Itm.len (.live n) S = ws.length := by show (match S[n]? with | some (.lst ws) => ws.length | _ => 0) = _; rw [hl]
  rw [e]
  refine for_it (im := .live n) (n := ws.length) Inv (fun i ρ S hi h => ⟨ws[i], ?_, step i ws[i] ρ S (List.getElem?_eq_getElem hi) h⟩) (fun ρ S h => ⟨?_, stop ρ S h⟩) ws.length 0 ρ S (by omega) h0
  · show (match S[n]? with | some (.lst ws) => some ws[i]? | _ => none) = _
    rw [at_ i ρ S h]
    simp only [List.getElem?_eq_getElem hi]
  · unfold Itm.at_
    simp only [at_ _ ρ S h, List.getElem?_eq_none (Nat.le_refl _)]
/-! ### comprehensions -/
def Klt (e : ME) (ρ : Env') (Y : W → Mem → Prop) (N : Mem → Prop) (q : Bool × Mem) : Prop := match q.1 with
  | true => Ok (e ρ q.2) fun r => Y r.1 r.2
  | false => N q.2
def Klg (t : MT) (e : ME) (Y : W → Mem → Prop) (N : Mem → Prop) (p : Env' × Mem) : Prop := Ok (t p.1 p.2) (Klt e p.1 Y N)
variable {t : MT} {e : ME} {Y : W → Mem → Prop} {N : Mem → Prop}
theorem k_lg_ : Klg t e Y N (ρ, S) ↔ Ok (t ρ S) (Klt e ρ Y N) := .rfl
def KY (Y : W → Mem → Prop) (p : WM) : Prop := Y p.1 p.2
theorem k_lt_t : Klt e ρ Y N (true, S) ↔ Ok (e ρ S) (KY Y) := .rfl
theorem k_lt_f : Klt e ρ Y N (false, S) ↔ N S := .rfl
theorem k_Y_ {w : W} : KY Y (w, S) ↔ Y w S := .rfl
/-- each item gives one more value, or none -/
theorem lc_it {im : Itm} {n : Nat} {L : List W × Mem → Prop} (Inv : Nat → List W → Mem → Prop)
    (step : ∀ i us S, i < n → Inv i us S → ∃ w, im.at_ S i = some (some w) ∧ Ok (g w ρ S) (Klg t e (fun v S' => Inv (i + 1) (us ++ [v]) S') (fun S' => Inv (i + 1) us S')))
    (stop : ∀ us S, Inv n us S → im.at_ S n = some none ∧ L (us, S)) : ∀ (k i : Nat) us S, i + k = n → Inv i us S → ∃ vs S', lcM im g t e k i ρ S = some (vs, S') ∧ L (us ++ vs, S') := by
  intro k
  induction k with
  | zero =>
    intro i us S hi h
    have e : i = n := by omega
    subst e
    obtain ⟨h1, h2⟩ := stop us S h
    unfold lcM
    rw [h1]
    exact ⟨[], S, rfl, by rw [List.append_nil]; exact h2⟩
  | succ k ih =>
    intro i us S hi h
    obtain ⟨w, h1, x, e1, y, e2, h2⟩ := step i us S (by omega) h
    obtain ⟨ρ1, S1⟩ := x
    obtain ⟨c, S2⟩ := y
    unfold lcM
    rw [h1]
    have e2 : t ρ1 S1 = some (c, S2) := e2
    simp only [e1, Option.bind_some, e2]
    cases c with
    | true =>
      obtain ⟨⟨v, S3⟩, e3, h3⟩ := h2
      have e3 : e ρ1 S2 = some (v, S3) := e3
      simp only [e3, Option.bind_some, if_true]
      obtain ⟨vs, S4, e4, h4⟩ := ih (i + 1) _ S3 (by omega) h3
      rw [e4]
      exact ⟨v :: vs, S4, rfl, by rwa [List.append_assoc] at h4⟩
    | false =>
      simp only [Bool.false_eq_true, if_false]
      exact ih (i + 1) us S2 (by omega) h2
theorem lc_vals {ws : List W} {L : List W × Mem → Prop} (Inv : Nat → List W → Mem → Prop) (h0 : Inv 0 [] S)
    (step : ∀ i w us S, ws[i]? = some w → Inv i us S → Ok (g w ρ S) (Klg t e (fun v S' => Inv (i + 1) (us ++ [v]) S') (fun S' => Inv (i + 1) us S')))
    (stop : ∀ us S, Inv ws.length us S → L (us, S)) : Ok (lcM (.vals ws) g t e (Itm.len (.vals ws) S) 0 ρ S) L := by
  obtain ⟨vs, S', e1, h⟩ := lc_it (im := .vals ws) (n := ws.length) (L := L) (ρ := ρ) Inv (fun i us S hi h => ⟨ws[i], by show some ws[i]? = _; rw [List.getElem?_eq_getElem hi], step i ws[i] us S (List.getElem?_eq_getElem hi) h⟩)
    (fun us S h => ⟨by show some ws[ws.length]? = _; rw [List.getElem?_eq_none (Nat.le_refl _)], stop us S h⟩) ws.length 0 [] S (by omega) h0
  exact ⟨_, e1, h⟩
theorem lc_live {ws : List W} {n : Nat} {L : List W × Mem → Prop} (Inv : Nat → List W → Mem → Prop) (h0 : Inv 0 [] S) (hl : S[n]? = some (.lst ws))
    (at_ : ∀ i us S, Inv i us S → S[n]? = some (.lst ws))
    (step : ∀ i w us S, ws[i]? = some w → Inv i us S → Ok (g w ρ S) (Klg t e (fun v S' => Inv (i + 1) (us ++ [v]) S') (fun S' => Inv (i + 1) us S')))
    (stop : ∀ us S, Inv ws.length us S → L (us, S)) : Ok (lcM (.live n) g t e (Itm.len (.live n) S) 0 ρ S) L := by
  have e0 : Itm.len (.live n) S = ws.length := by show (match S[n]? with | some (.lst ws) => ws.length | _ => 0) = _; rw [hl]
  rw [e0]
  obtain ⟨vs, S', e1, h⟩ := lc_it (im := .live n) (n := ws.length) (L := L) (ρ := ρ) Inv (fun i us S hi h => ⟨ws[i], by
      show (match S[n]? with | some (.lst ws) => some ws[i]? | _ => none) = _
      rw [at_ i us S h]
      simp only [List.getElem?_eq_getElem hi], step i ws[i] us S (List.getElem?_eq_getElem hi) h⟩)
    (fun us S h => ⟨by
      unfold Itm.at_
      simp only [at_ _ us S h, List.getElem?_eq_none (Nat.le_refl _)], stop us S h⟩) ws.length 0 [] S (by omega) h0
  exact ⟨_, e1, h⟩
end
/-- all(..) -/
def Kal (e : ME) (B : Bool → Mem → Prop) (p : Env' × Mem) : Prop := Ok (eB e p.1 p.2) fun q => B q.1 q.2
theorem all_vals {ρ : Env'} {g : MG} {e : ME} {B : Bool × Mem → Prop} : ∀ (ws : List W) (S : Mem) (Iv : List W → Mem → Prop), Iv ws S →
    (∀ w rest S, Iv (w :: rest) S → Ok (g w ρ S) fun p => Ok (eB e p.1 p.2) fun q => (q.1 = true → Iv rest q.2) ∧ (q.1 = false → B (false, q.2))) →
    (∀ S, Iv [] S → B (true, S)) → Ok (allL g e ws ρ S) B
  | [], S, Iv, h0, _, stop => k_some.mpr (stop S h0)
  | w :: ws, S, Iv, h0, step, stop => by
    obtain ⟨⟨ρ1, S1⟩, e1, ⟨k, S2⟩, e2, h⟩ := step w ws S h0
    show Ok ((g w ρ S).bind _) B
    rw [e1]
    have e2 : eB e ρ1 S1 = some (k, S2) := e2
    simp only [Option.bind_some, e2]
    cases k with
    | true => simp only [if_true]; exact all_vals ws S2 Iv (h.1 rfl) step stop
    | false => simp only [Bool.false_eq_true, if_false]; exact k_some.mpr (h.2 rfl)
theorem sz_le {n : Nat} (h : n ≤ 16777216) : n ≤ sizeLine := h
theorem sz_lt {n : Nat} (h : n < 16777216) : n < sizeLine := h
end Pd
namespace Pd
open PySem
theorem ofStr_eq {s t : String} : ((Str.ofString s) = (Str.ofString t)) = (s = t) := by
  refine propext ⟨fun h => ?_, fun h => by rw [h]⟩
  rw [Str.ofString_eq_toList, Str.ofString_eq_toList] at h
  have h1 : s.toList.map Char.toNat = t.toList.map Char.toNat := by
    have := congrArg (fun z : Str => z.cps.toList) h
    simpa using this
  have h2 : s.toList = t.toList := by
    have inj : ∀ (a b : List Char), a.map Char.toNat = b.map Char.toNat → a = b := by
      intro a
      induction a with
      | nil => intro b e; cases b with | nil => rfl | cons _ _ => cases e
      | cons x xs ih =>
        intro b e
        cases b with
        | nil => cases e
        | cons y ys =>
          rw [List.map_cons, List.map_cons] at e
          obtain ⟨e1, e2⟩ := List.cons.inj e
          have : x = y := Char.ext (UInt32.toNat_inj.mp e1)
          rw [this, ih ys e2]
    exact inj _ _ h1
  exact String.toList_inj.mp h2
open L2 in
theorem ixN_0 {n : Nat} : ixN (n + 1) 0 = some 0 := by unfold ixN; rw [if_pos (by decide), if_pos (by omega)]; rfl
open L2 in
theorem ixN_1 {n : Nat} : ixN (n + 2) 1 = some 1 := by unfold ixN; rw [if_pos (by decide), if_pos (by omega)]; rfl
open L2 in
theorem ixN_2 {n : Nat} : ixN (n + 3) 2 = some 2 := by unfold ixN; rw [if_pos (by decide), if_pos (by omega)]; rfl
open L2 in
theorem ixN_3 {n : Nat} : ixN (n + 4) 3 = some 3 := by unfold ixN; rw [if_pos (by decide), if_pos (by omega)]; rfl
open L2 in
theorem ixN_4 {n : Nat} : ixN (n + 5) 4 = some 4 := by unfold ixN; rw [if_pos (by decide), if_pos (by omega)]; rfl
open L2 in
theorem ixN_5 {n : Nat} : ixN (n + 6) 5 = some 5 := by unfold ixN; rw [if_pos (by decide), if_pos (by omega)]; rfl
open L2 in
theorem ixN_6 {n : Nat} : ixN (n + 7) 6 = some 6 := by unfold ixN; rw [if_pos (by decide), if_pos (by omega)]; rfl
open L2 in
theorem ixN_ok {n : Nat} {i : Int} (h0 : 0 ≤ i) (h1 : i < n) : ixN n i = some i.toNat := by
  unfold ixN
  rw [if_pos h0, if_pos h1]
theorem cut63 {α β : Type} (f : α → β) (xs : List α) : cutL (xs.map f) none (some 63) = (xs.take 63).map f := by
  unfold cutL
  rw [HT.sIx_none, show (some (63 : Int)) = some ((63 : Nat) : Int) from rfl, HT.sIx_nat, List.drop_zero, Nat.sub_zero, List.length_map, ← List.map_take]
  congr 1
  by_cases h : xs.length ≤ 63
  · rw [Nat.min_eq_right h, List.take_of_length_le (Nat.le_refl _), List.take_of_length_le h]
  · rw [Nat.min_eq_left (by omega)]
theorem Kif.mono {s t : MS} {ρ : Env'} {R Q : OR' → Prop} {p : Bool × Mem} (h : Kif s t ρ R p) (q : ∀ x, R x → Q x) : Kif s t ρ Q p := by
  obtain ⟨k, S⟩ := p
  cases k with
  | true => exact Ok.mono h q
  | false => exact Ok.mono h q
theorem cutT {α : Type} {u : List α} {n : Nat} : cutL u none (some (n : Int)) = u.take n := by
  unfold cutL
  rw [HT.sIx_none, HT.sIx_nat, List.drop_zero, Nat.sub_zero]
  by_cases h : u.length ≤ n
  · rw [Nat.min_eq_right h, List.take_of_length_le (Nat.le_refl _), List.take_of_length_le h]
  · rw [Nat.min_eq_left (by omega)]
def iW (i : Int) : W := .d (.int i)
theorem rng_get {lo n : Int} {i : Nat} {w : W} (h : (rngW lo n)[i]? = some w) : w = .d (.int (lo + (i : Int))) ∧ (i : Int) < n - lo := by
  unfold rngW at h
  rw [List.getElem?_map] at h
  obtain ⟨j, e1, rfl⟩ := Option.map_eq_some_iff.mp h
  obtain ⟨hi, e2⟩ := List.getElem?_eq_some_iff.mp e1
  rw [List.getElem_range] at e2
  subst e2
  rw [List.length_range] at hi
  exact ⟨rfl, by omega⟩
theorem rng_len {lo n : Int} : (rngW lo n).length = (n - lo).toNat := by unfold rngW; rw [List.length_map, List.length_range]
/-- a comprehension whose items leave the state alone -/
theorem lc_filter {α : Type} {ρ : Env'} {S : Mem} {g : MG} {t : MT} {e : ME} {L : List W × Mem → Prop} {xs : List α} (f u : α → W) (p : α → Bool)
    (step : ∀ a ∈ xs, ∀ (R : W → Mem → Prop) (N : Mem → Prop), (p a = true → R (u a) S) → (p a = false → N S) → Ok (g (f a) ρ S) (Klg t e R N)) (q : L ((xs.filter p).map u, S)) : Ok (lcM (.vals (xs.map f)) g t e (Itm.len (.vals (xs.map f)) S) 0 ρ S) L := by
  refine lc_vals (fun i us S' => S' = S ∧ us = ((xs.take i).filter p).map u) ⟨rfl, by simp⟩ ?_ ?_
  · rintro i w us S' hw ⟨rfl, rfl⟩
    rw [List.getElem?_map] at hw
    obtain ⟨a, ha, rfl⟩ := Option.map_eq_some_iff.mp hw
    have ht : xs.take (i + 1) = xs.take i ++ [a] := by rw [List.take_add_one, ha]; rfl
    refine step a (List.mem_of_getElem? ha) _ _ (fun hp => ⟨rfl, ?_⟩) (fun hp => ⟨rfl, ?_⟩)
    · rw [ht, List.filter_append, List.map_append]
      simp [hp]
    · rw [ht, List.filter_append, List.map_append]
      simp [hp]
  · rintro us S' ⟨rfl, rfl⟩
    rw [List.length_map, List.take_length]
    exact q
theorem lc_map {α : Type} {ρ : Env'} {S : Mem} {g : MG} {e : ME} {L : List W × Mem → Prop} {xs : List α} (f u : α → W)
    (step : ∀ a ∈ xs, ∀ (R : W → Mem → Prop) (N : Mem → Prop), R (u a) S → Ok (g (f a) ρ S) (Klg tYesM e R N)) (q : L (xs.map u, S)) : Ok (lcM (.vals (xs.map f)) g tYesM e (Itm.len (.vals (xs.map f)) S) 0 ρ S) L := by
  refine lc_filter f u (fun _ => true) (fun a ha R N h _ => step a ha R N (h rfl)) ?_
  rw [List.filter_eq_self.mpr fun _ _ => rfl]
  exact q
theorem sz_l0 : 0 ≤ sizeLine ↔ True := iff_true_intro (sz_le (by decide))
theorem sz_l1 : 1 ≤ sizeLine ↔ True := iff_true_intro (sz_le (by decide))
theorem sz_l2 : 2 ≤ sizeLine ↔ True := iff_true_intro (sz_le (by decide))
theorem sz_l3 : 3 ≤ sizeLine ↔ True := iff_true_intro (sz_le (by decide))
theorem sz_l4 : 4 ≤ sizeLine ↔ True := iff_true_intro (sz_le (by decide))
theorem sz_l5 : 5 ≤ sizeLine ↔ True := iff_true_intro (sz_le (by decide))
theorem sz_l6 : 6 ≤ sizeLine ↔ True := iff_true_intro (sz_le (by decide))
theorem sz_l7 : 7 ≤ sizeLine ↔ True := iff_true_intro (sz_le (by decide))
theorem sz_l8 : 8 ≤ sizeLine ↔ True := iff_true_intro (sz_le (by decide))
theorem sz_l9 : 9 ≤ sizeLine ↔ True := iff_true_intro (sz_le (by decide))
theorem sz_l10 : 10 ≤ sizeLine ↔ True := iff_true_intro (sz_le (by decide))
theorem sz_l11 : 11 ≤ sizeLine ↔ True := iff_true_intro (sz_le (by decide))
theorem sz_l12 : 12 ≤ sizeLine ↔ True := iff_true_intro (sz_le (by decide))
theorem sz_l13 : 13 ≤ sizeLine ↔ True := iff_true_intro (sz_le (by decide))
theorem sz_k0 : 0 < sizeLine ↔ True := iff_true_intro (sz_lt (by decide))
theorem sz_k1 : 1 < sizeLine ↔ True := iff_true_intro (sz_lt (by decide))
theorem sz_k2 : 2 < sizeLine ↔ True := iff_true_intro (sz_lt (by decide))
theorem sz_k3 : 3 < sizeLine ↔ True := iff_true_intro (sz_lt (by decide))
theorem sz_k4 : 4 < sizeLine ↔ True := iff_true_intro (sz_lt (by decide))
theorem sz_k5 : 5 < sizeLine ↔ True := iff_true_intro (sz_lt (by decide))
theorem sz_k6 : 6 < sizeLine ↔ True := iff_true_intro (sz_lt (by decide))
theorem sz_k7 : 7 < sizeLine ↔ True := iff_true_intro (sz_lt (by decide))
theorem sz_k8 : 8 < sizeLine ↔ True := iff_true_intro (sz_lt (by decide))
theorem sz_k9 : 9 < sizeLine ↔ True := iff_true_intro (sz_lt (by decide))
theorem sz_k10 : 10 < sizeLine ↔ True := iff_true_intro (sz_lt (by decide))
theorem sz_k11 : 11 < sizeLine ↔ True := iff_true_intro (sz_lt (by decide))
theorem sz_k12 : 12 < sizeLine ↔ True := iff_true_intro (sz_lt (by decide))
theorem sz_k13 : 13 < sizeLine ↔ True := iff_true_intro (sz_lt (by decide))
theorem get_e0 {α : Type} {S r : List α} {x : α} : (S ++ x :: r)[S.length]? = some x := by rw [List.getElem?_append_right (Nat.le_refl _), Nat.sub_self]; rfl
theorem get_e1 {α : Type} {S r : List α} {x y : α} : (S ++ x :: y :: r)[S.length + 1]? = some y := by rw [List.getElem?_append_right (Nat.le_add_right _ _), Nat.add_sub_cancel_left]; rfl
theorem get_e2 {α : Type} {S r : List α} {x y z : α} : (S ++ x :: y :: z :: r)[S.length + 2]? = some z := by rw [List.getElem?_append_right (Nat.le_add_right _ _), Nat.add_sub_cancel_left]; rfl
theorem set_e0 {α : Type} {S r : List α} {x y : α} : (S ++ x :: r).set S.length y = S ++ y :: r := by rw [List.set_append_right _ _ (Nat.le_refl _), Nat.sub_self]; rfl
theorem set_e1 {α : Type} {S r : List α} {x y z : α} : (S ++ x :: y :: r).set (S.length + 1) z = S ++ x :: z :: r := by rw [List.set_append_right _ _ (Nat.le_add_right _ _), Nat.add_sub_cancel_left]; rfl
theorem set_e2 {α : Type} {S r : List α} {x y z u : α} : (S ++ x :: y :: z :: r).set (S.length + 2) u = S ++ x :: y :: u :: r := by rw [List.set_append_right _ _ (Nat.le_add_right _ _), Nat.add_sub_cancel_left]; rfl
theorem take_e {α : Type} {S r : List α} : (S ++ r).take S.length = S := List.take_left
/-- every object names objects that are there -/
def Cl (S : Mem) : Prop := S.all (obLt S.length) = true
theorem wLt_mono {m n : Nat} (h : m ≤ n) {w : W} (g : wLt m w = true) : wLt n w = true := by
  cases w with
  | d _ => rfl
  | loc k => exact decide_eq_true (Nat.lt_of_lt_of_le (of_decide_eq_true g) h)
theorem obLt_mono {m n : Nat} (h : m ≤ n) {o : Ob} (g : obLt m o = true) : obLt n o = true := by
  cases o with
  | lst ws => exact List.all_eq_true.mpr fun w hw => wLt_mono h (List.all_eq_true.mp g w hw)
  | dct kvs => exact List.all_eq_true.mpr fun w hw => wLt_mono h (List.all_eq_true.mp g w hw)
  | ins _ fs => exact List.all_eq_true.mpr fun w hw => wLt_mono h (List.all_eq_true.mp g w hw)
  | ldct kvs => exact List.all_eq_true.mpr fun w hw => wLt_mono h (List.all_eq_true.mp g w hw)
theorem Cl.add {S : Mem} {o : Ob} (h : Cl S) (g : obLt (S.length + 1) o = true) : Cl (S ++ [o]) := by
  unfold Cl at *
  rw [List.length_append, List.all_append, Bool.and_eq_true]
  refine ⟨List.all_eq_true.mpr fun x hx => obLt_mono (Nat.le_add_right _ _) (List.all_eq_true.mp h x hx), ?_⟩
  simp only [List.all_cons, List.all_nil, Bool.and_true]
  exact g
theorem Cl.set {S : Mem} {o : Ob} {n : Nat} (h : Cl S) (g : obLt S.length o = true) : Cl (S.set n o) := by
  unfold Cl at *
  rw [List.length_set]
  refine List.all_eq_true.mpr fun x hx => ?_
  rcases List.mem_or_eq_of_mem_set hx with hx | rfl
  · exact List.all_eq_true.mp h x hx
  · exact g
theorem lt_lst {n : Nat} {ds : List PyData} : obLt n (.lst (ds.map .d)) = true := List.all_eq_true.mpr fun w hw => by
  obtain ⟨d, _, rfl⟩ := List.mem_map.mp hw
  rfl
theorem lt_nil {n : Nat} : obLt n (.lst []) = true := rfl
theorem fin_lst {k n : Nat} {S : Mem} {ds : List PyData} {Q : WM → Prop} (hk : n ≤ k) (hS : S[k]? = some (.lst (ds.map .d))) (hc : (S.take n).all (obLt n) = true) (q : Q (.d (.list ds), S.take n)) : Ok (fin true n (.loc k) S) Q := by
  unfold fin
  rw [if_neg (by decide), if_pos hc]
  dsimp only
  rw [if_neg (by omega), hS]
  show Ok ((dOf (ds.map W.d)).map _) Q
  rw [dOf_map]
  exact k_some.mpr q
open L2 in
theorem atI_5 {α : Type} {a b c d e f : α} {us : List α} : atI (a :: b :: c :: d :: e :: f :: us) 5 = some f := atI_nat (j := 5) rfl
open L2 in
theorem atI_6 {α : Type} {a b c d e f g : α} {us : List α} : atI (a :: b :: c :: d :: e :: f :: g :: us) 6 = some g := atI_nat (j := 6) rfl
end Pd
/-! frames of instances, dicts and more -/
namespace Pd
open PySem PySem.Spec PyProof.Rows L2 GxR Gx
section
variable {ρ : Env'} {S : Mem} {a b c e o i : ME} {s t : MS} {m n : MA} {f : MF} {g : MG} {Q : WM → Prop} {P : OR' → Prop} {C : Addr} {x : Str}
/-! ### membership in a row of texts and numbers -/
theorem k_inT {ng : Bool} {x : PyData} {ds : List PyData} : Ok (oIn ng (.d x) (.d (.tuple ds)) S) Q ↔ (flatD x && ds.all flatD) = true ∧ Q (.d (.bool (if ng = true then !ds.any (fun y => PyData.eqv y x) else ds.any fun y => PyData.eqv y x)), S) := by
  unfold oIn items
  simp only [Option.bind_some, dOf_map, k_if, k_some]
theorem k_inL {ng : Bool} {x : PyData} {ds : List PyData} : Ok (oIn ng (.d x) (.d (.list ds)) S) Q ↔ (flatD x && ds.all flatD) = true ∧ Q (.d (.bool (if ng = true then !ds.any (fun y => PyData.eqv y x) else ds.any fun y => PyData.eqv y x)), S) := by
  unfold oIn items
  simp only [Option.bind_some, dOf_map, k_if, k_some]
theorem eqv_str {a b : Str} : PyData.eqv (.str a) (.str b) = decide (a = b) := by
  show (a == b) = _
  by_cases h : a = b
  · subst h; simp
  · rw [decide_eq_false h]; exact beq_eq_false_iff_ne.mpr h
theorem eqv_int {a b : Int} : PyData.eqv (.int a) (.int b) = decide (a = b) := by
  show (a == b) = _
  by_cases h : a = b
  · subst h; simp
  · rw [decide_eq_false h]; exact beq_eq_false_iff_ne.mpr h
theorem eqv_is {a : Int} {b : Str} : PyData.eqv (.int a) (.str b) = false := rfl
theorem eqv_si {a : Int} {b : Str} : PyData.eqv (.str b) (.int a) = false := rfl
theorem flat_s {x : Str} : flatD (.str x) = true := rfl
theorem flat_i {x : Int} : flatD (.int x) = true := rfl
/-! ### instances -/
def Kfl2 (C : Addr) (x : Str) (S : Mem) (Q : WM → Prop) : Option Ob → Prop
  | some (.ins C' fs) => C' = C ∧ KiW Q S (fs.lookup x)
  | _ => False
def Kfl (C : Addr) (x : Str) (Q : WM → Prop) (p : WM) : Prop := Ok ((insAt p.1 p.2).bind fun q => if q.2.1 = C then (q.2.2.lookup x).map fun w => (w, p.2) else none) Q
theorem k_fld : Ok (eFld C o x ρ S) Q ↔ Ok (o ρ S) (Kfl C x Q) := bind_fr fun y => Iff.rfl
theorem k_fl_ {k : Nat} : Kfl C x Q (.loc k, S) ↔ Kfl2 C x S Q S[k]? := by
  unfold Kfl insAt
  cases h : S[k]? with
  | none => simp only [h, Option.bind_none, k_none, Kfl2]
  | some ob => cases ob with
    | lst _ => simp only [h, Option.bind_none, k_none, Kfl2]
    | dct _ => simp only [h, Option.bind_none, k_none, Kfl2]
    | ldct _ => simp only [h, Option.bind_none, k_none, Kfl2]
    | ins C' fs =>
      simp only [h, Option.bind_some, k_if, Kfl2]
      refine and_congr_right fun _ => ?_
      cases fs.lookup x with
      | none => exact k_none
      | some w => exact k_some
theorem k_fl2 {fs : FW} : Kfl2 C x S Q (some (.ins C fs)) ↔ KiW Q S (fs.lookup x) := ⟨fun h => h.2, fun h => ⟨rfl, h⟩⟩
def KfpO (C : Addr) (x : Str) (v : W) (k : Nat) (S : Mem) (ρ : Env') (P : OR' → Prop) : Option Ob → Prop
  | some (.ins C' fs) => C' = C ∧ fs.length < 1000 ∧ P (.nx, ρ, S.set k (.ins C (putW x v fs)))
  | _ => False
def Kfp2 (C : Addr) (x : Str) (v : W) (ρ : Env') (P : OR' → Prop) (z : WM) : Prop := Ok ((insAt z.1 z.2).bind fun q => if q.2.1 = C ∧ q.2.2.length < 1000 then some (.nx, ρ, z.2.set q.1 (.ins C (putW x v q.2.2))) else none) P
def Kfp1 (C : Addr) (o : ME) (x : Str) (ρ : Env') (P : OR' → Prop) (p : WM) : Prop := Ok (o ρ p.2) (Kfp2 C x p.1 ρ P)
theorem k_fldput : Ok (sFldW C o x e ρ S) P ↔ Ok (e ρ S) (Kfp1 C o x ρ P) := bind_fr fun y => bind2 _ rfl fun z => Iff.rfl
theorem k_fp1_ {v : W} : Kfp1 C o x ρ P (v, S) ↔ Ok (o ρ S) (Kfp2 C x v ρ P) := .rfl
theorem k_fp2_ {v : W} {k : Nat} : Kfp2 C x v ρ P (.loc k, S) ↔ KfpO C x v k S ρ P S[k]? := by
  unfold Kfp2 insAt
  cases h : S[k]? with
  | none => simp only [h, Option.bind_none, k_none, KfpO]
  | some ob => cases ob with
    | lst _ => simp only [h, Option.bind_none, k_none, KfpO]
    | dct _ => simp only [h, Option.bind_none, k_none, KfpO]
    | ldct _ => simp only [h, Option.bind_none, k_none, KfpO]
    | ins C' fs => simp only [h, Option.bind_some, k_if, k_some, KfpO, and_assoc]
theorem k_fpO {v : W} {k : Nat} {fs : FW} : KfpO C x v k S ρ P (some (.ins C fs)) ↔ fs.length < 1000 ∧ P (.nx, ρ, S.set k (.ins C (putW x v fs))) := ⟨fun h => h.2, fun h => ⟨rfl, h⟩⟩
/-- o.f += e -/
def KfaO (C : Addr) (x : Str) (i j : Int) (k : Nat) (S : Mem) (ρ : Env') (P : OR' → Prop) : Option Ob → Prop
  | some (.ins C' fs) => C' = C ∧ fs.length < 1000 ∧ P (.nx, ρ, S.set k (.ins C (putW x (.d (.int (i + j))) fs)))
  | _ => False
def Kfa2 (C : Addr) (x : Str) (i : Int) (k : Nat) (ρ : Env') (P : OR' → Prop) (p : WM) : Prop := match p.1 with
  | .d (.int j) => KfaO C x i j k p.2 ρ P p.2[k]?
  | _ => False
def Kfa1 (C : Addr) (x : Str) (e : ME) (k : Nat) (S : Mem) (ρ : Env') (P : OR' → Prop) : Option Ob → Prop
  | some (.ins C' fs) => C' = C ∧ match fs.lookup x with
    | some (.d (.int i)) => Ok (e ρ S) (Kfa2 C x i k ρ P)
    | _ => False
  | _ => False
def Kfa (C : Addr) (x : Str) (e : ME) (ρ : Env') (P : OR' → Prop) (z : WM) : Prop := match z.1 with
  | .loc k => Kfa1 C x e k z.2 ρ P z.2[k]?
  | _ => False
theorem k_fldaug_ {k : Nat} {fs : FW} {i : Int} (h : S[k]? = some (.ins C fs)) (hi : fs.lookup x = some (.d (.int i))) (g : Ok (e ρ S) (Kfa2 C x i k ρ P)) (ho : o ρ S = some (.loc k, S)) : Ok (sFldAugW C o x e ρ S) P := by
  obtain ⟨⟨w, S1⟩, e1, g1⟩ := g
  unfold Kfa2 at g1
  dsimp only at g1
  split at g1
  · rename_i j
    cases h2 : S1[k]? with
    | none => rw [h2] at g1; exact g1.elim
    | some ob =>
      rw [h2] at g1
      cases ob with
      | lst _ => exact g1.elim
      | dct _ => exact g1.elim
      | ldct _ => exact g1.elim
      | ins C2 fs2 =>
        obtain ⟨rfl, hl, hp⟩ := g1
        refine ⟨_, ?_, hp⟩
        unfold sFldAugW
        rw [ho]
        simp only [Option.bind_some, insAt, h, hi, e1, h2]
        rw [if_pos ⟨trivial, trivial, hl⟩]
  · exact g1.elim
theorem k_fa2_ {i j : Int} {k : Nat} : Kfa2 C x i k ρ P (.d (.int j), S) ↔ KfaO C x i j k S ρ P S[k]? := .rfl
theorem k_faO {i j : Int} {k : Nat} {fs : FW} : KfaO C x i j k S ρ P (some (.ins C fs)) ↔ fs.length < 1000 ∧ P (.nx, ρ, S.set k (.ins C (putW x (.d (.int (i + j))) fs))) := ⟨fun h => h.2, fun h => ⟨rfl, h⟩⟩
/-- o.m(..) -/
def Kms (f : MF) (v : W) (Q : WM → Prop) (p : List W × Mem) : Prop := Ok (f (v :: p.1) p.2) Q
def KmO (C : Addr) (x : Str) (f : MF) (m : MA) (k : Nat) (ρ : Env') (S : Mem) (Q : WM → Prop) : Option Ob → Prop
  | some (.ins C' fs) => C' = C ∧ fs.lookup x = none ∧ Ok (m ρ S) (Kms f (.loc k) Q)
  | _ => False
def Km (C : Addr) (x : Str) (f : MF) (m : MA) (ρ : Env') (Q : WM → Prop) (p : WM) : Prop := Ok ((insAt p.1 p.2).bind fun q => if q.2.1 = C ∧ q.2.2.lookup x = none then (m ρ p.2).bind fun z => f (p.1 :: z.1) z.2 else none) Q
theorem k_meth : Ok (eMeth C x f o m ρ S) Q ↔ Ok (o ρ S) (Km C x f m ρ Q) := bind_fr fun y => Iff.rfl
theorem k_m_ {k : Nat} : Km C x f m ρ Q (.loc k, S) ↔ KmO C x f m k ρ S Q S[k]? := by
  unfold Km insAt
  cases h : S[k]? with
  | none => simp only [h, Option.bind_none, k_none, KmO]
  | some ob => cases ob with
    | lst _ => simp only [h, Option.bind_none, k_none, KmO]
    | dct _ => simp only [h, Option.bind_none, k_none, KmO]
    | ldct _ => simp only [h, Option.bind_none, k_none, KmO]
    | ins C' fs =>
      simp only [h, Option.bind_some, KmO, k_if, and_assoc]
      refine and_congr_right fun _ => and_congr_right fun _ => bind_fr fun y => Iff.rfl
theorem k_mO {k : Nat} {fs : FW} : KmO C x f m k ρ S Q (some (.ins C fs)) ↔ fs.lookup x = none ∧ Ok (m ρ S) (Kms f (.loc k) Q) := ⟨fun h => h.2, fun h => ⟨rfl, h⟩⟩
theorem k_ms_ {v : W} {ws : List W} : Kms f v Q (ws, S) ↔ Ok (f (v :: ws) S) Q := .rfl
/-- C(..) -/
def Kmk2 (k : Nat) (Q : WM → Prop) (p : WM) : Prop := p.1 = .d .none ∧ Q (.loc k, p.2)
def Kmk (C : Addr) (f : MF) (Q : WM → Prop) (p : List W × Mem) : Prop := Ok (f (.loc p.2.length :: p.1) (p.2 ++ [.ins C []])) (Kmk2 p.2.length Q)
theorem k_make : Ok (eMake C f m ρ S) Q ↔ Ok (m ρ S) (Kmk C f Q) := bind_fr fun z => bind2 _ rfl fun r => by
  obtain ⟨w, S1⟩ := r
  unfold Kmk2
  dsimp only
  split
  · exact ⟨fun h => k_some.mpr h.2, fun h => ⟨rfl, k_some.mp h⟩⟩
  · rename_i h
    exact ⟨fun z => (h z.1).elim, fun z => (k_none.mp z).elim⟩
theorem k_mk_ {ws : List W} : Kmk C f Q (ws, S) ↔ Ok (f (.loc S.length :: ws) (S ++ [.ins C []])) (Kmk2 S.length Q) := .rfl
theorem k_mk2_ {k : Nat} : Kmk2 k Q (.d .none, S) ↔ Q (.loc k, S) := ⟨fun h => h.2, fun h => ⟨rfl, h⟩⟩
/-! ### dicts -/
theorem k_dnew : Ok (eDNew ρ S) Q ↔ Q (.loc S.length, S ++ [.dct []]) := k_some
def Kdg2 (z : W) (S : Mem) (Q : WM → Prop) : Option Ob → Prop
  | some (.dct kvs) => match keyW z with
    | some k => KiW Q S (valW kvs k)
    | none => False
  | _ => False
def Kdg1 (p : W) (Q : WM → Prop) (z : WM) : Prop := Ok ((dctAt p z.2).bind fun d => (keyW z.1).bind fun k => (valW d.2 k).map fun w => (w, z.2)) Q
def Kdg (i : ME) (ρ : Env') (Q : WM → Prop) (p : WM) : Prop := Ok (i ρ p.2) (Kdg1 p.1 Q)
theorem k_dget : Ok (eDGet o i ρ S) Q ↔ Ok (o ρ S) (Kdg i ρ Q) := bind_fr fun y => bind2 _ rfl fun z => Iff.rfl
theorem k_dg_ {p : W} : Kdg i ρ Q (p, S) ↔ Ok (i ρ S) (Kdg1 p Q) := .rfl
theorem k_dg1_ {k : Nat} {z : W} : Kdg1 (.loc k) Q (z, S) ↔ Kdg2 z S Q S[k]? := by
  unfold Kdg1 dctAt
  cases h : S[k]? with
  | none => simp only [h, Option.bind_none, k_none, Kdg2]
  | some ob => cases ob with
    | lst _ => simp only [h, Option.bind_none, k_none, Kdg2]
    | ins _ _ => simp only [h, Option.bind_none, k_none, Kdg2]
    | ldct _ => simp only [h, Option.bind_none, k_none, Kdg2]
    | dct kvs =>
      simp only [h, Option.bind_some, Kdg2]
      cases keyW z with
      | none => exact k_none
      | some key =>
        simp only [Option.bind_some]
        cases valW kvs key with
        | none => exact k_none
        | some w => exact k_some
theorem k_dg2s {z : Str} {kvs : KW} : Kdg2 (.d (.str z)) S Q (some (.dct kvs)) ↔ KiW Q S (valW kvs (.inr z)) := .rfl
theorem k_dg2i {z : Int} {kvs : KW} : Kdg2 (.d (.int z)) S Q (some (.dct kvs)) ↔ KiW Q S (valW kvs (.inl z)) := .rfl
def Kdi2 (ng : Bool) (z : W) (S : Mem) (Q : WM → Prop) : Option Ob → Prop
  | some (.dct kvs) => match keyW z with
    | some k => Q (.d (.bool (if ng then !(valW kvs k).isSome else (valW kvs k).isSome)), S)
    | none => False
  | _ => False
def Kdi1 (ng : Bool) (z : W) (Q : WM → Prop) (p : WM) : Prop := Ok ((dctAt p.1 p.2).bind fun d => (keyW z).bind fun k => some (.d (.bool (if ng then !(valW d.2 k).isSome else (valW d.2 k).isSome)), p.2)) Q
def Kdi (ng : Bool) (o : ME) (ρ : Env') (Q : WM → Prop) (z : WM) : Prop := Ok (o ρ z.2) (Kdi1 ng z.1 Q)
theorem k_din {ng : Bool} : Ok (eDIn ng i o ρ S) Q ↔ Ok (i ρ S) (Kdi ng o ρ Q) := bind_fr fun y => bind2 _ rfl fun z => Iff.rfl
theorem k_di_ {ng : Bool} {z : W} : Kdi ng o ρ Q (z, S) ↔ Ok (o ρ S) (Kdi1 ng z Q) := .rfl
theorem k_di1_ {ng : Bool} {k : Nat} {z : W} : Kdi1 ng z Q (.loc k, S) ↔ Kdi2 ng z S Q S[k]? := by
  unfold Kdi1 dctAt
  cases h : S[k]? with
  | none => simp only [h, Option.bind_none, k_none, Kdi2]
  | some ob => cases ob with
    | lst _ => simp only [h, Option.bind_none, k_none, Kdi2]
    | ins _ _ => simp only [h, Option.bind_none, k_none, Kdi2]
    | ldct _ => simp only [h, Option.bind_none, k_none, Kdi2]
    | dct kvs =>
      simp only [h, Option.bind_some, Kdi2]
      cases keyW z with
      | none => exact k_none
      | some key => exact k_some
theorem k_di2s {ng : Bool} {z : Str} {kvs : KW} : Kdi2 ng (.d (.str z)) S Q (some (.dct kvs)) ↔ Q (.d (.bool (if ng then !(valW kvs (.inr z)).isSome else (valW kvs (.inr z)).isSome)), S) := .rfl
def KdpO (v z : W) (k : Nat) (S : Mem) (ρ : Env') (P : OR' → Prop) : Option Ob → Prop
  | some (.dct kvs) => match keyW z with
    | some key => kvs.length < sizeLine ∧ P (.nx, ρ, S.set k (.dct (putD kvs key v)))
    | none => False
  | _ => False
def Kdp3 (v p : W) (ρ : Env') (P : OR' → Prop) (z : WM) : Prop := Ok ((dctAt p z.2).bind fun d => (keyW z.1).bind fun k => if d.2.length < sizeLine then some (.nx, ρ, z.2.set d.1 (.dct (putD d.2 k v))) else none) P
def Kdp2 (v : W) (i : ME) (ρ : Env') (P : OR' → Prop) (p : WM) : Prop := Ok (i ρ p.2) (Kdp3 v p.1 ρ P)
def Kdp1 (o i : ME) (ρ : Env') (P : OR' → Prop) (v : WM) : Prop := Ok (o ρ v.2) (Kdp2 v.1 i ρ P)
theorem k_dput : Ok (sDPutW o i e ρ S) P ↔ Ok (e ρ S) (Kdp1 o i ρ P) := bind_fr fun v => bind2 _ rfl fun p => bind2 _ rfl fun z => Iff.rfl
theorem k_dp1_ {v : W} : Kdp1 o i ρ P (v, S) ↔ Ok (o ρ S) (Kdp2 v i ρ P) := .rfl
theorem k_dp2_ {v p : W} : Kdp2 v i ρ P (p, S) ↔ Ok (i ρ S) (Kdp3 v p ρ P) := .rfl
theorem k_dp3_ {v z : W} {k : Nat} : Kdp3 v (.loc k) ρ P (z, S) ↔ KdpO v z k S ρ P S[k]? := by
  unfold Kdp3 dctAt
  cases h : S[k]? with
  | none => simp only [h, Option.bind_none, k_none, KdpO]
  | some ob => cases ob with
    | lst _ => simp only [h, Option.bind_none, k_none, KdpO]
    | ins _ _ => simp only [h, Option.bind_none, k_none, KdpO]
    | ldct _ => simp only [h, Option.bind_none, k_none, KdpO]
    | dct kvs =>
      simp only [h, Option.bind_some, KdpO]
      cases keyW z with
      | none => exact k_none
      | some key => simp only [Option.bind_some, k_if, k_some]
theorem k_dpOs {v : W} {z : Str} {k : Nat} {kvs : KW} : KdpO v (.d (.str z)) k S ρ P (some (.dct kvs)) ↔ kvs.length < sizeLine ∧ P (.nx, ρ, S.set k (.dct (putD kvs (.inr z) v))) := .rfl
theorem k_dpOi {v : W} {z : Int} {k : Nat} {kvs : KW} : KdpO v (.d (.int z)) k S ρ P (some (.dct kvs)) ↔ kvs.length < sizeLine ∧ P (.nx, ρ, S.set k (.dct (putD kvs (.inl z) v))) := .rfl
def Kps (Q : WM → Prop) (r : KW × Mem) : Prop := r.1.length ≤ 15 ∧ Q (.loc r.2.length, r.2 ++ [.dct (mergeD [] r.1)])
theorem k_disp {mp : MPs} : Ok (eDisp mp ρ S) Q ↔ Ok (mp ρ S) (Kps Q) := bind_fr fun r => by
  unfold Kps
  rw [k_if, k_some]
theorem k_ps_ {kvs : KW} : Kps Q (kvs, S) ↔ kvs.length ≤ 15 ∧ Q (.loc S.length, S ++ [.dct (mergeD [] kvs)]) := .rfl
section
variable {R : KW × Mem → Prop}
theorem k_psN : Ok (pNil ρ S) R ↔ R ([], S) := k_some
def Kpc3 (key : Key) (v : W) (R : KW × Mem → Prop) (t : KW × Mem) : Prop := R ((key, v) :: t.1, t.2)
def Kpc2 (key : Key) (r : MPs) (ρ : Env') (R : KW × Mem → Prop) (z : WM) : Prop := Ok (r ρ z.2) (Kpc3 key z.1 R)
def Kpc1 (v : ME) (r : MPs) (ρ : Env') (R : KW × Mem → Prop) (p : WM) : Prop := match keyW p.1 with
  | some key => Ok (v ρ p.2) (Kpc2 key r ρ R)
  | none => False
theorem k_pC {k v : ME} {r : MPs} : Ok (pCons k v r ρ S) R ↔ Ok (k ρ S) (Kpc1 v r ρ R) := bind_fr fun p => by
  unfold Kpc1
  cases keyW p.1 with
  | none => exact k_none.symm
  | some key =>
    show Ok (v ρ p.2) (Kpc2 key r ρ R) ↔ Ok ((v ρ p.2).bind fun z => (r ρ z.2).bind fun t => some ((key, z.1) :: t.1, t.2)) R
    exact (bind_fr (R := Kpc2 key r ρ R) fun z => bind2 (Kpc3 key z.1 R) rfl fun t => some2 ((key, z.1) :: t.1, t.2) R rfl).symm
theorem k_pc1s {v : ME} {r : MPs} {z : Str} : Kpc1 v r ρ R (.d (.str z), S) ↔ Ok (v ρ S) (Kpc2 (.inr z) r ρ R) := .rfl
theorem k_pc2_ {key : Key} {r : MPs} {v : W} : Kpc2 key r ρ R (v, S) ↔ Ok (r ρ S) (Kpc3 key v R) := .rfl
theorem k_pc3_ {key : Key} {v : W} {kvs : KW} : Kpc3 key v R (kvs, S) ↔ R ((key, v) :: kvs, S) := .rfl
end
/-! ### more -/
def Kixc (tbl : List (Str × PyData)) (Q : WM → Prop) (p : WM) : Prop := Ok (match p.1 with
  | .d (.str z) => (tbl.lookup z).map fun d => (.d d, p.2)
  | _ => none) Q
theorem k_ixc {tbl : List (Str × PyData)} : Ok (eIxC tbl i ρ S) Q ↔ Ok (i ρ S) (Kixc tbl Q) := bind_fr fun y => Iff.rfl
theorem k_ixc_ {tbl : List (Str × PyData)} {z : Str} : Kixc tbl Q (.d (.str z), S) ↔ Kix Q S (tbl.lookup z) := by
  unfold Kixc
  dsimp only
  cases tbl.lookup z with
  | none => exact k_none
  | some d => exact k_some
def Klr (Q : WM → Prop) (p : WM) : Prop := Ok ((itemsL p.1 p.2).bind fun us => (dOf us).bind fun ds => some (.d (.list ds.reverse), p.2)) Q
theorem k_lstRev : Ok (eLstRev a ρ S) Q ↔ Ok (a ρ S) (Klr Q) := bind_fr fun y => Iff.rfl
theorem k_lr_ {ds : List PyData} : Klr Q (.d (.list ds), S) ↔ Q (.d (.list ds.reverse), S) := by
  unfold Klr itemsL
  simp only [Option.bind_some, dOf_map, k_some]
theorem intsOf_map : ∀ ns : List Int, intsOf (ns.map fun i => W.d (.int i)) = some ns
  | [] => rfl
  | n :: ns => by show (intsOf (ns.map fun i => W.d (.int i))).map _ = _; rw [intsOf_map ns]; rfl
theorem k_sum {ns : List Int} : Ok (bSum [.d (.list (ns.map .int))] S) Q ↔ Q (.d (.int ns.sum), S) := by
  unfold bSum itemsL
  simp only [Option.bind_some, List.map_map]
  rw [show (W.d ∘ PyData.int) = fun i => W.d (.int i) from rfl, intsOf_map]
  exact k_some
theorem k_max {ns : List Int} (h : ns ≠ []) : Ok (bMax [.d (.list (ns.map .int))] S) Q ↔ Q (.d (.int (maxI ns)), S) := by
  unfold bMax itemsL
  simp only [Option.bind_some, List.map_map]
  rw [show (W.d ∘ PyData.int) = fun i => W.d (.int i) from rfl, intsOf_map]
  simp only [Option.bind_some]
  rw [if_neg (by simpa using h)]
  exact k_some
def KiS (Q : WM → Prop) (S : Mem) : Option Nat → Prop
  | some c => Q (.d (.str ⟨#[c]⟩), S)
  | none => False
theorem k_ixS {z : Str} {i : Int} : Ok (oIx (.d (.str z)) (.d (.int i)) S) Q ↔ z.length ≤ sizeLine ∧ KiS Q S (atI z.cps.toList i) := by
  show Ok (if z.length ≤ sizeLine then (atI z.cps.toList i).map fun c => (W.d (.str ⟨#[c]⟩), S) else none) Q ↔ _
  rw [k_if]
  refine and_congr_right fun _ => ?_
  cases atI z.cps.toList i with
  | none => exact k_none
  | some c => exact k_some
theorem k_iS_ {c : Nat} : KiS Q S (some c) ↔ Q (.d (.str ⟨#[c]⟩), S) := .rfl
/-! ### a walk over a list or a tuple -/
def itS : W → Mem → Option (Itm × Mem) := fun w S => match w with
  | .d (.tuple ds) => some (.vals (ds.map .d), S)
  | .d (.list ds) => some (.vals (ds.map .d), S)
  | .loc n => match S[n]? with
    | some (.lst _) => some (.live n, S)
    | _ => none
  | _ => none
section
variable {a : ME} {I : Itm × Mem → Prop}
theorem k_iS : Ok (iSeqM a ρ S) I ↔ Ok (a ρ S) (Kit itS I) := bind_fr fun x => Iff.rfl
theorem k_it_ST {ds : List PyData} : Kit itS I (.d (.tuple ds), S) ↔ I (.vals (ds.map .d), S) := k_some
theorem k_it_SL {ds : List PyData} : Kit itS I (.d (.list ds), S) ↔ I (.vals (ds.map .d), S) := k_some
theorem k_it_Sl {n : Nat} : Kit itS I (.loc n, S) ↔ Kil n S I S[n]? := by
  unfold Kit itS
  cases h : S[n]? with
  | none => simp only [h, k_none, Kil]
  | some o => cases o <;> simp only [h, k_none, k_some, Kil]
end
/-! ### a < b < c -/
def Kch4 (h : F2) (y : W) (Q : WM → Prop) (u : WM) : Prop := Ok (h y u.1 u.2) Q
def Kch3 (h : F2) (c : ME) (y : W) (ρ : Env') (Q : WM → Prop) (z : WM) : Prop := Ok (match z.1 with
  | .d (.bool true) => (c ρ z.2).bind fun u => h y u.1 u.2
  | .d (.bool false) => some (.d (.bool false), z.2)
  | _ => none) Q
def Kch2 (k h : F2) (c : ME) (x : W) (ρ : Env') (Q : WM → Prop) (q : WM) : Prop := Ok (k x q.1 q.2) (Kch3 h c q.1 ρ Q)
def Kch1 (k h : F2) (b c : ME) (ρ : Env') (Q : WM → Prop) (p : WM) : Prop := Ok (b ρ p.2) (Kch2 k h c p.1 ρ Q)
theorem k_chain {k h : F2} : Ok (eChain k h a b c ρ S) Q ↔ Ok (a ρ S) (Kch1 k h b c ρ Q) := bind_fr fun p => bind2 _ rfl fun q => bind2 _ rfl fun z => Iff.rfl
theorem k_ch1_ {k h : F2} {x : W} : Kch1 k h b c ρ Q (x, S) ↔ Ok (b ρ S) (Kch2 k h c x ρ Q) := .rfl
theorem k_ch2_ {k h : F2} {x y : W} : Kch2 k h c x ρ Q (y, S) ↔ Ok (k x y S) (Kch3 h c y ρ Q) := .rfl
theorem k_ch3t {h : F2} {y : W} : Kch3 h c y ρ Q (.d (.bool true), S) ↔ Ok (c ρ S) (Kch4 h y Q) := bind_fr fun u => Iff.rfl
theorem k_ch3f {h : F2} {y : W} : Kch3 h c y ρ Q (.d (.bool false), S) ↔ Q (.d (.bool false), S) := k_some
theorem k_ch4_ {h : F2} {y u : W} : Kch4 h y Q (u, S) ↔ Ok (h y u S) Q := .rfl
theorem k_lenXL {ds : List PyData} : Ok (bLenX [.d (.list ds)] S) Q ↔ Q (.d (.int ds.length), S) := k_lenL
theorem k_lenXT {ds : List PyData} : Ok (bLenX [.d (.tuple ds)] S) Q ↔ Q (.d (.int ds.length), S) := k_lenT
theorem k_lenXl {n : Nat} : Ok (bLenX [.loc n] S) Q ↔ Kl (Qlen Q S) S[n]? := k_lenl
theorem k_lenXS {z : Str} : Ok (bLenX [.d (.str z)] S) Q ↔ z.length ≤ sizeLine ∧ Q (.d (.int z.length), S) := by
  show Ok (if z.length ≤ sizeLine then some _ else none) Q ↔ _
  rw [k_if, k_some]
end
end Pd
namespace Pd
open PySem PySem.Spec PyProof.Rows L2 GxR Gx
section
variable {ρ : Env'} {S : Mem} {i : ME} {Q : WM → Prop} {ks os : List Str} {z : Str} {b : Bool}
def Kic2 (Q : WM → Prop) (S : Mem) (b1 b2 : Bool) : Prop := Ok (inC S b1 b2) Q
def Kic (ks os : List Str) (Q : WM → Prop) (p : WM) : Prop := Ok (match p.1 with
  | .d (.str z) => inC p.2 (ks.any fun k => decide (k = z)) (os.any fun k => decide (k = z))
  | _ => none) Q
theorem k_inC : Ok (eInC ks os i ρ S) Q ↔ Ok (i ρ S) (Kic ks os Q) := bind_fr fun x => Iff.rfl
theorem k_ic_ : Kic ks os Q (.d (.str z), S) ↔ Kic2 Q S (ks.any fun k => decide (k = z)) (os.any fun k => decide (k = z)) := .rfl
theorem k_ic_t : Kic2 Q S true b ↔ Q (.d (.bool true), S) := k_some
theorem k_ic_f : Kic2 Q S false true ↔ Q (.d (.bool false), S) := k_some
end
end Pd
namespace Pd
open PySem PySem.Spec PyProof.Rows L2 GxR Gx
section
variable {ρ : Env'} {S : Mem} {i a : ME} {Q : WM → Prop} {ks os : List Str} {z : Str} {b : Bool} {n : Nat} {kvs : KW}
/-! ### dicts: a copy, the length, isinstance -/
def KbD (Q : WM → Prop) (S : Mem) : Option Ob → Prop
  | some (.dct kvs) => Q (.loc S.length, S ++ [.dct kvs])
  | _ => False
theorem k_bDict : Ok (bDict [.loc n] S) Q ↔ KbD Q S S[n]? := by
  unfold bDict dctAt
  cases h : S[n]? with
  | none => simp only [h, Option.bind_none, k_none, KbD]
  | some o => cases o <;> simp only [h, Option.bind_none, Option.bind_some, k_none, k_some, KbD]
theorem k_bDict_ : KbD Q S (some (.dct kvs)) ↔ Q (.loc S.length, S ++ [.dct kvs]) := .rfl
def KbL (Q : WM → Prop) (S : Mem) : Option Ob → Prop
  | some (.dct kvs) => Q (.d (.int kvs.length), S)
  | _ => False
theorem k_bLenD : Ok (bLenD [.loc n] S) Q ↔ KbL Q S S[n]? := by
  unfold bLenD dctAt
  cases h : S[n]? with
  | none => simp only [h, Option.map_none, k_none, KbL]
  | some o => cases o <;> simp only [h, Option.map_none, Option.map_some, k_none, k_some, KbL]
theorem k_bLenD_ : KbL Q S (some (.dct kvs)) ↔ Q (.d (.int kvs.length), S) := .rfl
def KisD (Q : WM → Prop) (p : WM) : Prop := Ok ((dctAt p.1 p.2).map fun _ => ((.d (.bool true) : W), p.2)) Q
theorem k_isD : Ok (eIsD a ρ S) Q ↔ Ok (a ρ S) (KisD Q) := bind_fr fun x => Iff.rfl
def KisDo (Q : WM → Prop) (S : Mem) : Option Ob → Prop
  | some (.dct _) => Q (.d (.bool true), S)
  | _ => False
theorem k_isD_ : KisD Q (.loc n, S) ↔ KisDo Q S S[n]? := by
  unfold KisD dctAt
  cases h : S[n]? with
  | none => simp only [h, Option.map_none, k_none, KisDo]
  | some o => cases o <;> simp only [h, Option.map_none, Option.map_some, k_none, k_some, KisDo]
theorem k_isD2 : KisDo Q S (some (.dct kvs)) ↔ Q (.d (.bool true), S) := .rfl
/-! ### word not in D -/
def Kni2 (Q : WM → Prop) (S : Mem) (b1 b2 : Bool) : Prop := Ok (ninC S b1 b2) Q
def Kni (ks os : List Str) (Q : WM → Prop) (p : WM) : Prop := Ok (match p.1 with
  | .d (.str z) => ninC p.2 (ks.any fun k => decide (k = z)) (os.any fun k => decide (k = z))
  | _ => none) Q
theorem k_ninC : Ok (eNInC ks os i ρ S) Q ↔ Ok (i ρ S) (Kni ks os Q) := bind_fr fun x => Iff.rfl
theorem k_ni_ : Kni ks os Q (.d (.str z), S) ↔ Kni2 Q S (ks.any fun k => decide (k = z)) (os.any fun k => decide (k = z)) := .rfl
theorem k_ni_t : Kni2 Q S true b ↔ Q (.d (.bool false), S) := k_some
theorem k_ni_f : Kni2 Q S false true ↔ Q (.d (.bool true), S) := k_some
end
/-! ### comprehensions of two fors -/
section
variable {ρ : Env'} {S : Mem} {g g1 : MG} {t t1 : MT} {mi mi1 : MI} {vs vs1 : List Nat} {e : ME} {mk : List W → Mem → Option (W × Mem)} {Q : WM → Prop} {R : List W → Mem → Prop} {im : Itm} {L : List W × Mem → Prop}
def Klc21 (g : MG) (t : MT) (mi1 : MI) (vs1 : List Nat) (g1 : MG) (t1 : MT) (e : ME) (mk : List W → Mem → Option (W × Mem)) (ρ : Env') (Q : WM → Prop) (p : Itm × Mem) : Prop := Ok (lc2M p.1 g t mi1 vs1 g1 t1 e (p.1.len p.2) 0 ρ p.2) (Klc2 mk Q)
theorem k_lcc : Ok (eLc2 mi vs g t mi1 vs1 g1 t1 e mk ρ S) Q ↔ Ok (mi ρ S) (Klc21 g t mi1 vs1 g1 t1 e mk (wipeE ρ vs) Q) := bind_fr fun x => bind2 _ rfl fun y => Iff.rfl
theorem k_lcc_ : Klc21 g t mi1 vs1 g1 t1 e mk ρ Q (im, S) ↔ Ok (lc2M im g t mi1 vs1 g1 t1 e (im.len S) 0 ρ S) (Klc2 mk Q) := .rfl
def Kl2r (R : List W → Mem → Prop) (p : List W × Mem) : Prop := R p.1 p.2
theorem k_l2r_ {ws : List W} : Kl2r R (ws, S) ↔ R ws S := .rfl
def Kl2m (vs1 : List Nat) (g1 : MG) (t1 : MT) (e : ME) (ρ : Env') (R : List W → Mem → Prop) (p : Itm × Mem) : Prop := Ok (lcM p.1 g1 t1 e (p.1.len p.2) 0 (wipeE ρ vs1) p.2) (Kl2r R)
theorem k_l2m_ : Kl2m vs1 g1 t1 e ρ R (im, S) ↔ Ok (lcM im g1 t1 e (im.len S) 0 (wipeE ρ vs1) S) (Kl2r R) := .rfl
def Kl2t (mi1 : MI) (vs1 : List Nat) (g1 : MG) (t1 : MT) (e : ME) (ρ : Env') (R : List W → Mem → Prop) (q : Bool × Mem) : Prop := match q.1 with
  | true => Ok (mi1 ρ q.2) (Kl2m vs1 g1 t1 e ρ R)
  | false => R [] q.2
theorem k_l2t_t : Kl2t mi1 vs1 g1 t1 e ρ R (true, S) ↔ Ok (mi1 ρ S) (Kl2m vs1 g1 t1 e ρ R) := .rfl
theorem k_l2t_f : Kl2t mi1 vs1 g1 t1 e ρ R (false, S) ↔ R [] S := .rfl
def Kl2 (t : MT) (mi1 : MI) (vs1 : List Nat) (g1 : MG) (t1 : MT) (e : ME) (R : List W → Mem → Prop) (p : Env' × Mem) : Prop := Ok (t p.1 p.2) (Kl2t mi1 vs1 g1 t1 e p.1 R)
theorem k_l2_ : Kl2 t mi1 vs1 g1 t1 e R (ρ, S) ↔ Ok (t ρ S) (Kl2t mi1 vs1 g1 t1 e ρ R) := .rfl
theorem lc2_vals {ws : List W} (Inv : Nat → List W → Mem → Prop) (h0 : Inv 0 [] S)
    (step : ∀ i w us S, ws[i]? = some w → Inv i us S → Ok (g w ρ S) (Kl2 t mi1 vs1 g1 t1 e fun xs S' => Inv (i + 1) (us ++ xs) S'))
    (stop : ∀ us S, Inv ws.length us S → L (us, S)) : Ok (lc2M (.vals ws) g t mi1 vs1 g1 t1 e (Itm.len (.vals ws) S) 0 ρ S) L := by
  have key : ∀ (k i : Nat) us S, i + k = ws.length → Inv i us S → ∃ xs S', lc2M (.vals ws) g t mi1 vs1 g1 t1 e k i ρ S = some (xs, S') ∧ L (us ++ xs, S') := by
    intro k
    induction k with
    | zero =>
      intro i us S hi h
      have e0 : i = ws.length := by omega
      subst e0
      have h1 : Itm.at_ (.vals ws) S ws.length = some none := by show some ws[ws.length]? = _; rw [List.getElem?_eq_none (Nat.le_refl _)]
      unfold lc2M
      rw [h1]
      exact ⟨[], S, rfl, by rw [List.append_nil]; exact stop us S h⟩
    | succ k ih =>
      intro i us S hi h
      have hlt : i < ws.length := by omega
      have h1 : Itm.at_ (.vals ws) S i = some (some ws[i]) := by show some ws[i]? = _; rw [List.getElem?_eq_getElem hlt]
      obtain ⟨⟨ρ1, S1⟩, e1, ⟨c, S2⟩, e2, h2⟩ := step i ws[i] us S (List.getElem?_eq_getElem hlt) h
      unfold lc2M
      rw [h1]
      have e2 : t ρ1 S1 = some (c, S2) := e2
      simp only [e1, Option.bind_some, e2]
      cases c with
      | true =>
        obtain ⟨⟨im, S3⟩, e3, ⟨xs, S4⟩, e4, h4⟩ := h2
        have e3 : mi1 ρ1 S2 = some (im, S3) := e3
        have e4 : lcM im g1 t1 e (im.len S3) 0 (wipeE ρ1 vs1) S3 = some (xs, S4) := e4
        simp only [e3, Option.bind_some, e4, if_true]
        obtain ⟨ys, S5, e5, h5⟩ := ih (i + 1) (us ++ xs) S4 (by omega) h4
        rw [e5]
        exact ⟨xs ++ ys, S5, rfl, by rwa [List.append_assoc] at h5⟩
      | false =>
        simp only [Bool.false_eq_true, if_false]
        have h2 : Inv (i + 1) (us ++ []) S2 := h2
        rw [List.append_nil] at h2
        exact ih (i + 1) us S2 (by omega) h2
  obtain ⟨xs, S', e1, h⟩ := key ws.length 0 [] S (by omega) h0
  exact ⟨_, e1, h⟩
/-- .. whose parts leave the memory as it is -/
theorem lc2_map {α : Type} {xs : List α} (f : α → W) (u : α → List W)
    (step : ∀ (j : Nat) (a : α), xs[j]? = some a → ∀ (R : List W → Mem → Prop), R (u a) S → Ok (g (f a) ρ S) (Kl2 t mi1 vs1 g1 t1 e R)) (q : L ((xs.map u).flatten, S)) : Ok (lc2M (.vals (xs.map f)) g t mi1 vs1 g1 t1 e (Itm.len (.vals (xs.map f)) S) 0 ρ S) L := by
  refine lc2_vals (fun i us S' => S' = S ∧ us = ((xs.take i).map u).flatten) ⟨rfl, by simp⟩ ?_ ?_
  · rintro i w us S' hw ⟨rfl, rfl⟩
    rw [List.getElem?_map] at hw
    obtain ⟨a, ha, rfl⟩ := Option.map_eq_some_iff.mp hw
    have ht : xs.take (i + 1) = xs.take i ++ [a] := by rw [List.take_add_one, ha]; rfl
    refine step i a ha _ ⟨rfl, ?_⟩
    rw [ht, List.map_append, List.flatten_append]
    simp
  · rintro us S' ⟨rfl, rfl⟩
    rw [List.length_map, List.take_length]
    exact q
end
end Pd
namespace Pd
open PySem PySem.Spec PyProof.Rows L2 GxR Gx
section
variable {ρ : Env'} {S : Mem} {a : ME} {Q : WM → Prop} {ds : List PyData}
def KisLd (Q : WM → Prop) (p : WM) : Prop := Ok ((isLd p.1).map fun b => (.d (.bool b), p.2)) Q
theorem k_isLd : Ok (eIsLd a ρ S) Q ↔ Ok (a ρ S) (KisLd Q) := bind_fr fun x => Iff.rfl
theorem k_isLd_ : KisLd Q (.d (.list ds), S) ↔ Q (.d (.bool true), S) := k_some
end
end Pd
namespace Pd
open PySem PySem.Spec PyProof.Rows L2 GxR Gx
section
variable {ρ : Env'} {S : Mem} {m : MA} {g : MG} {b : MS} {I : Itm × Mem → Prop} {P : OR' → Prop} {Q : WM → Prop}
/-! ### enumerate over a list that lives on -/
def Kel (I : Itm × Mem → Prop) (p : List W × Mem) : Prop := Ok (match p.1 with
  | [.d (.list ds)] => some (.vals (numW ds), p.2)
  | [.loc n] => match p.2[n]? with
    | some (.lst _) => some (.enl n, p.2)
    | _ => none
  | _ => none) I
theorem k_enl : Ok (iEnumLM m ρ S) I ↔ Ok (m ρ S) (Kel I) := bind_fr fun x => Iff.rfl
def Ken (n : Nat) (S : Mem) (I : Itm × Mem → Prop) : Option Ob → Prop
  | some (.lst _) => I (.enl n, S)
  | _ => False
theorem k_el_ {n : Nat} : Kel I ([.loc n], S) ↔ Ken n S I S[n]? := by
  unfold Kel
  cases h : S[n]? with
  | none => simp only [h, k_none, Ken]
  | some o => cases o <;> simp only [h, k_none, k_some, Ken]
theorem k_en_ {n : Nat} {ws : List W} : Ken n S I (some (.lst ws)) ↔ I (.enl n, S) := .rfl
theorem k_di2i {ng : Bool} {z : Int} {kvs : KW} : Kdi2 ng (.d (.int z)) S Q (some (.dct kvs)) ↔ Q (.d (.bool (if ng then !(valW kvs (.inl z)).isSome else (valW kvs (.inl z)).isSome)), S) := .rfl
theorem dOf_map' : ∀ {ds : List PyData}, dOf (ds.map W.d) = some ds
  | [] => rfl
  | d :: ds => by
    show ((dOf (ds.map W.d)).map fun l => d :: l) = _
    rw [dOf_map']; rfl
theorem numW_at {ds : List PyData} {i : Nat} : (numW ds)[i]? = ds[i]?.map fun d => W.d (.tuple [.int (i : Int), d]) := by
  unfold numW
  rw [List.getElem?_map, List.getElem?_zipIdx]
  cases ds[i]? with
  | none => rfl
  | some d => simp
theorem for_enl {ds : List PyData} {n : Nat} (Inv : Nat → Env' → Mem → Prop) (h0 : Inv 0 ρ S) (hl : S[n]? = some (.lst (ds.map .d)))
    (at_ : ∀ i ρ S, Inv i ρ S → S[n]? = some (.lst (ds.map .d)))
    (step : ∀ i d ρ S, ds[i]? = some d → Inv i ρ S → Ok (g (.d (.tuple [.int (i : Int), d])) ρ S) (Kg b (Kturn g b (Inv (i + 1)) P)))
    (stop : ∀ ρ S, Inv ds.length ρ S → P (.nx, ρ, S)) : Ok (forM (.enl n) g b (Itm.len (.enl n) S) 0 ρ S) P := by
  have e : Itm.len (.enl n) S = ds.length := by show (match S[n]? with | some (.lst ws) => ws.length | _ => 0) = _; rw [hl]; exact List.length_map _
  rw [e]
  have key : ∀ i ρ S, Inv i ρ S → Itm.at_ (.enl n) S i = some (ds[i]?.map fun d => W.d (.tuple [.int (i : Int), d])) := fun i ρ S h => by
    show (match S[n]? with | some (.lst us) => (dOf us).map fun ds => (numW ds)[i]? | _ => none) = _
    rw [at_ i ρ S h]
    show (dOf (ds.map W.d)).map _ = _
    rw [dOf_map']
    show some ((numW ds)[i]?) = _
    rw [numW_at]
  refine for_it (im := .enl n) (n := ds.length) Inv (fun i ρ S hi h => ⟨_, ?_, step i ds[i] ρ S (List.getElem?_eq_getElem hi) h⟩) (fun ρ S h => ⟨?_, stop ρ S h⟩) ds.length 0 ρ S (by omega) h0
  · rw [key i ρ S h, List.getElem?_eq_getElem hi]; rfl
  · rw [key _ ρ S h, List.getElem?_eq_none (Nat.le_refl _)]; rfl
end
end Pd
namespace Pd
open PySem PySem.Spec PyProof.Rows L2 GxR Gx
section
variable {ρ : Env'} {S : Mem} {m : MA} {I : Itm × Mem → Prop} {Q : WM → Prop} {ds es : List PyData}
def Kzp (I : Itm × Mem → Prop) (p : List W × Mem) : Prop := Ok (match p.1 with
  | [.d (.tuple ds), .d (.tuple es)] => if ds.length = es.length then some (.vals (zipW ds es), p.2) else none
  | _ => none) I
theorem k_zip : Ok (iZipM m ρ S) I ↔ Ok (m ρ S) (Kzp I) := bind_fr fun x => Iff.rfl
theorem k_zp_ : Kzp I ([.d (.tuple ds), .d (.tuple es)], S) ↔ ds.length = es.length ∧ I (.vals (zipW ds es), S) := by
  unfold Kzp
  dsimp only
  rw [k_if, k_some]
def Ktz (Q : WM → Prop) (p : List W × Mem) : Prop := Ok (match p.1 with
  | [.d (.tuple ds), .d (.tuple es)] => if ds.length = es.length then some (.d (.tuple (zipD ds es)), p.2) else none
  | _ => none) Q
theorem k_tzip : Ok (eTupZip m ρ S) Q ↔ Ok (m ρ S) (Ktz Q) := bind_fr fun x => Iff.rfl
theorem k_tz_ : Ktz Q ([.d (.tuple ds), .d (.tuple es)], S) ↔ ds.length = es.length ∧ Q (.d (.tuple (zipD ds es)), S) := by
  unfold Ktz
  dsimp only
  rw [k_if, k_some]
def FExtT (n : Nat) (ds : List PyData) (S : Mem) (us : List W) : Option WM := if us.length + ds.length ≤ sizeLine then some (.d .none, S.set n (.lst (us ++ ds.map .d))) else none
theorem k_extT {n : Nat} {ds : List PyData} : Ok (mExtendT (.loc n) [.d (.tuple ds)] S) Q ↔ Kat (FExtT n ds S) Q S[n]? := k_at2 (F := fun k ws => FExtT k ds S ws)
theorem k_extT_ {n : Nat} {ds : List PyData} {ws : List W} : Kat (FExtT n ds S) Q (some (.lst ws)) ↔ ws.length + ds.length ≤ sizeLine ∧ Q (.d .none, S.set n (.lst (ws ++ ds.map .d))) := by
  unfold Kat FExtT
  dsimp only
  rw [k_if, k_some]
end
end Pd
namespace Pd
open PySem PySem.Spec PyProof.Rows L2 GxR Gx
section
variable {ρ : Env'} {S : Mem} {a o i : ME} {s : MS} {I : Itm × Mem → Prop} {P : OR' → Prop} {Q : WM → Prop} {kvs : KW} {n : Nat}
theorem lock_ok {j : Nat} (h : ρ[j]? = some (some (.loc n))) (hS : S[n]? = some (.dct kvs)) (q : Ok (s ρ (S.set n (.ldct kvs))) (fun q => ∃ o ρ', q = (o, ρ', S.set n (.ldct kvs)) ∧ P (o, ρ', S))) : Ok (sLock (lkV j) s ρ S) P := by
  obtain ⟨_, e, o, ρ', rfl, hp⟩ := q
  have hn := (List.getElem?_eq_some_iff.mp hS).1
  refine ⟨(o, ρ', S), ?_, hp⟩
  unfold sLock lkV
  simp only [h, Option.bind_some, hS, e]
  rw [List.getElem?_set_self hn]
  have : (S.set n (.ldct kvs)).set n (.dct kvs) = S := by
    rw [List.set_set]
    exact List.ext_getElem? fun m => by
      by_cases hm : m = n
      · subst hm; rw [List.getElem?_set_self hn, hS]
      · rw [List.getElem?_set_ne (Ne.symm hm)]
  simp only [this]
def itK : W → Mem → Option (Itm × Mem) := fun w S => match w with
  | .loc n => match S[n]? with
    | some (.ldct kvs) => some (.vals ((kvs.map fun kv => keyD kv.1).map .d), S)
    | _ => none
  | _ => none
theorem k_keys : Ok (iKeysM a ρ S) I ↔ Ok (a ρ S) (Kit itK I) := bind_fr fun x => Iff.rfl
def KilK (S : Mem) (I : Itm × Mem → Prop) : Option Ob → Prop
  | some (.ldct kvs) => I (.vals ((kvs.map fun kv => keyD kv.1).map .d), S)
  | _ => False
theorem k_it_K : Kit itK I (.loc n, S) ↔ KilK S I S[n]? := by
  unfold Kit itK
  cases h : S[n]? with
  | none => simp only [h, k_none, KilK]
  | some o => cases o <;> simp only [h, k_none, k_some, KilK]
theorem k_ilK_ : KilK S I (some (.ldct kvs)) ↔ I (.vals ((kvs.map fun kv => keyD kv.1).map .d), S) := .rfl
def KdgR1 (p : W) (Q : WM → Prop) (z : WM) : Prop := Ok ((dctAtR p z.2).bind fun d => (keyW z.1).bind fun k => (valW d k).map fun w => (w, z.2)) Q
def KdgR (i : ME) (ρ : Env') (Q : WM → Prop) (p : WM) : Prop := Ok (i ρ p.2) (KdgR1 p.1 Q)
theorem k_dgetR : Ok (eDGetR o i ρ S) Q ↔ Ok (o ρ S) (KdgR i ρ Q) := bind_fr fun y => bind2 _ rfl fun z => Iff.rfl
theorem k_dgR_ {p : W} : KdgR i ρ Q (p, S) ↔ Ok (i ρ S) (KdgR1 p Q) := .rfl
def KdgR2 (z : Str) (S : Mem) (Q : WM → Prop) : Option Ob → Prop
  | some (.dct kvs) => KiW Q S (valW kvs (.inr z))
  | some (.ldct kvs) => KiW Q S (valW kvs (.inr z))
  | _ => False
theorem k_dgR1_ {z : Str} : KdgR1 (.loc n) Q (.d (.str z), S) ↔ KdgR2 z S Q S[n]? := by
  unfold KdgR1 dctAtR
  cases h : S[n]? with
  | none => simp only [h, Option.bind_none, k_none, KdgR2]
  | some ob => cases ob with
    | lst _ => simp only [h, Option.bind_none, k_none, KdgR2]
    | ins _ _ => simp only [h, Option.bind_none, k_none, KdgR2]
    | dct kvs =>
      simp only [h, Option.bind_some, KdgR2, keyW]
      cases valW kvs (.inr z) with
      | none => exact k_none
      | some w => exact k_some
    | ldct kvs =>
      simp only [h, Option.bind_some, KdgR2, keyW]
      cases valW kvs (.inr z) with
      | none => exact k_none
      | some w => exact k_some
theorem k_dgR2d {z : Str} : KdgR2 z S Q (some (.dct kvs)) ↔ KiW Q S (valW kvs (.inr z)) := .rfl
theorem k_dgR2l {z : Str} : KdgR2 z S Q (some (.ldct kvs)) ↔ KiW Q S (valW kvs (.inr z)) := .rfl
end
end Pd
namespace Pd
open PySem PySem.Spec PyProof.Rows L2 GxR Gx
section
variable {ρ : Env'} {S : Mem} {a o i e : ME} {s b : MS} {t : MT} {P : OR' → Prop} {Q : WM → Prop} {B : Bool × Mem → Prop} {kvs : KW} {n : Nat}
theorem while_ok (Inv : Nat → Env' → Mem → Prop) (step : ∀ n ρ S, Inv n ρ S → ∃ c : Bool, Ok (t ρ S) (fun p => p = (c, S)) ∧ (c = true → ∃ m, n = m + 1 ∧ Ok (b ρ S) (fun q => q.1 = .nx ∧ Inv m q.2.1 q.2.2)) ∧ (c = false → P (.nx, ρ, S))) :
    ∀ (n f : Nat) (ρ : Env') (S : Mem), n < f → Inv n ρ S → Ok (whileM t b f ρ S) P
  | n, 0, ρ, S, hf, _ => absurd hf (Nat.not_lt_zero _)
  | n, f + 1, ρ, S, hf, h => by
    obtain ⟨c, ⟨_, e1, rfl⟩, h1, h0⟩ := step n ρ S h
    cases c with
    | false =>
      refine ⟨_, ?_, h0 rfl⟩
      unfold whileM
      rw [e1]
      rfl
    | true =>
      obtain ⟨m, rfl, ⟨o, ρ2, S2⟩, e2, h2, h3⟩ := h1 rfl
      cases (show o = .nx from h2)
      obtain ⟨r, e3, h4⟩ := while_ok Inv step m f ρ2 S2 (by omega) h3
      refine ⟨r, ?_, h4⟩
      unfold whileM
      rw [e1]
      simp only [Option.bind_some, if_true]
      rw [e2]
      exact e3
def KTru (B : Bool × Mem → Prop) (p : WM) : Prop := Ok (match p.1 with
  | .d (.list ds) => some (!ds.isEmpty, p.2)
  | _ => none) B
theorem k_tru : Ok (eTru a ρ S) B ↔ Ok (a ρ S) (KTru B) := bind_fr fun x => Iff.rfl
theorem k_tru_ {ds : List PyData} : KTru B (.d (.list ds), S) ↔ B (!ds.isEmpty, S) := k_some
def KaugO (x y : Int) (i : Nat) (ρ : Env') (P : OR' → Prop) (S : Mem) : Prop := P (.nx, ρ.set i (some (.d (.int (x + y)))), S)
def Kaug2 (x : Int) (i : Nat) (ρ : Env') (P : OR' → Prop) (p : WM) : Prop := Ok (match p.1 with
  | .d (.int y) => some (.nx, ρ.set i (some (.d (.int (x + y)))), p.2)
  | _ => none) P
def Kaug (i : Nat) (e : ME) (ρ : Env') (S : Mem) (P : OR' → Prop) : Option (Option W) → Prop
  | some (some (.d (.int x))) => Ok (e ρ S) (Kaug2 x i ρ P)
  | _ => False
theorem aug_ok {x y : Int} {j : Nat} (h : ρ[j]? = some (some (.d (.int x)))) (q : Ok (e ρ S) (fun p => p.1 = .d (.int y) ∧ P (.nx, ρ.set j (some (.d (.int (x + y)))), p.2))) : Ok (sAugM j e ρ S) P := by
  obtain ⟨⟨w, S1⟩, e1, h1, h2⟩ := q
  cases (show w = .d (.int y) from h1)
  refine ⟨_, ?_, h2⟩
  unfold sAugM
  simp only [h, e1, Option.bind_some]
theorem del_ok {k : Int} (ho : Ok (o ρ S) (fun p => p = (.loc n, S))) (hi : Ok (i ρ S) (fun p => p = (.d (.int k), S))) (hS : S[n]? = some (.dct kvs)) (hk : (valW kvs (.inl k)).isSome = true) (q : P (.nx, ρ, S.set n (.dct (delD kvs (.inl k))))) : Ok (sDDelM o i ρ S) P := by
  obtain ⟨_, e1, rfl⟩ := ho
  obtain ⟨_, e2, rfl⟩ := hi
  refine ⟨_, ?_, q⟩
  unfold sDDelM
  simp only [e1, Option.bind_some, e2, dctAt, hS, keyW, hk, if_true]
end
end Pd
/-! mirrors that raise: an error is a result of its own -/
namespace Pd
open PySem PySem.Spec PyProof.Rows L2 GxR Gx
/-- an error: its class, its fields (none: it has no dict) -/
structure Ex where
  C : Addr
  fs : Option FW
inductive RS where
  | fin (o : Out) (ρ : Env') (S : Mem)
  | exc (x : Ex) (ρ : Env') (S : Mem)
inductive RV where
  | val (w : W) (S : Mem)
  | exc (x : Ex) (S : Mem)
abbrev MSx := Env' → Mem → Option RS
abbrev MEx := Env' → Mem → Option RV
abbrev MFx := List W → Mem → Option RV
section
variable (K : PySem.W.Frag) (tb : List Addr)
def XD (B : Wd) (d : Option Addr) : Option FW → Prop
  | none => d = none
  | some fs => ∃ dd vs, d = some dd ∧ ¬ Mu tb B dd ∧ B.H dd = some (.xd vs) ∧ PF K tb B vs fs
def KX (A : Wd) (x : Ex) (S' : Mem) (E : XK) : Prop := ∀ B d, Nxt tb A B → Rep K tb B S' → XD K tb B d x.fs → E (.ref x.C) d B.H
def WK (A : Wd) (x : Ex) (ρ' : Env') (S' : Mem) (W : WX) : Prop := ∀ B σ' d, Nxt tb A B → Rep K tb B S' → ER K tb B σ' ρ' → XD K tb B d x.fs → W (.ref x.C) d σ' B.H
def RSK (D : Ends) (W : WX) (A : Wd) : RS → Prop
  | .fin o ρ' S' => FinK K tb D A o ρ' S'
  | .exc x ρ' S' => WK K tb A x ρ' S' W
def RVK (Q : VK) (E : XK) (A : Wd) : RV → Prop
  | .val w S' => KE K tb A w S' Q
  | .exc x S' => KX K tb A x S' E
def SSx (t : WX → TS) (m : MSx) : Prop := ∀ A σ ρ S r (W : WX) (D : Ends), Rep K tb A S → ER K tb A σ ρ → m ρ S = some r → RSK K tb D W A r → t W D σ A.H
def SEx (t : (L2.St → XK) → TE) (m : MEx) : Prop := ∀ A σ ρ S r (E : L2.St → XK) Q, Rep K tb A S → ER K tb A σ ρ → m ρ S = some r → RVK K tb Q (E σ) A r → t E σ A.H Q
def spDx (n : Nat) (m : MFx) : Sp := fun vs H Q E => vs.length = n ∧ ∃ (A : Wd) (ws : List W) (S : Mem) (r : RV), A.H = H ∧ WRs K tb A vs ws ∧ Rep K tb A S ∧ m ws S = some r ∧ RVK K tb Q E A r
end
def ArX (n : Nat) (m : MFx) : Prop := ∀ ws S r, m ws S = some r → ws.length = n
def liftS (m : MS) : MSx := fun ρ S => (m ρ S).map fun p => .fin p.1 p.2.1 p.2.2
def sSeqX (a b : MSx) : MSx := fun ρ S => (a ρ S).bind fun r => match r with
  | .fin .nx ρ1 S1 => b ρ1 S1
  | r => some r
def sIfX (c : MT) (a b : MSx) : MSx := fun ρ S => (c ρ S).bind fun p => if p.1 = true then a ρ p.2 else b ρ p.2
def sDropX (e : MEx) : MSx := fun ρ S => (e ρ S).map fun r => match r with
  | .val _ S' => .fin .nx ρ S'
  | .exc x S' => .exc x ρ S'
def sRetX (e : MEx) : MSx := fun ρ S => (e ρ S).map fun r => match r with
  | .val w S' => .fin (.rt w) ρ S'
  | .exc x S' => .exc x ρ S'
def sAsgX (e : MEx) (g : MG) : MSx := fun ρ S => (e ρ S).bind fun r => match r with
  | .val w S' => (g w ρ S').map fun z => .fin .nx z.1 z.2
  | .exc x S' => some (.exc x ρ S')
def eCallX (m : MFx) (a : MA) : MEx := fun ρ S => (a ρ S).bind fun p => m p.1 p.2
def eMethX (C : Addr) (m : Str) (f : MFx) (o : ME) (a : MA) : MEx := fun ρ S => (o ρ S).bind fun p => (insAt p.1 p.2).bind fun q => if q.2.1 = C ∧ q.2.2.lookup m = none then (a ρ p.2).bind fun z => f (p.1 :: z.1) z.2 else none
/-- raise C(..), C's own __init__ keeping its arguments under these names -/
def sRaiseX (C : Addr) (fl : List Str) (a : MA) : MSx := fun ρ S => (a ρ S).bind fun p => if p.1.length = fl.length ∧ fl.length ≤ 900 then some (.exc ⟨C, some (fl.zip p.1).reverse⟩ ρ p.2) else none
/-- an __init__ that keeps its arguments -/
def spInit (C : Addr) (fl : List Str) : Sp := fun vs H Q _ => ∃ a us, vs = .ref a :: us ∧ us.length = fl.length ∧ H a = some (exo a C none) ∧ ∀ dx, H dx = none → Q .non (upd (upd H dx (exd dx (fl.zip us).reverse)) a (exo a C (some dx)))
def tMethX (C : Addr) (m : Str) (sp : Sp) (ta : TE) (t : TA) (E : L2.St → XK) : TE := fun σ H Q => ta σ H fun x H1 => ∃ a dx fs, x = .ref a ∧ H1 a = some (.ins C dx fs) ∧ fs.lookup m = none ∧ t σ H1 fun vs H2 => sp (x :: vs) H2 Q (E σ)
section
variable {K : PySem.W.Frag} {tb : List Addr}
theorem RSK.nxt {D : Ends} {W : WX} {A B : Wd} {r : RS} (N : Nxt tb A B) (h : RSK K tb D W A r) : RSK K tb D W B r := by
  cases r with
  | fin o ρ S => exact FinK.nxt N h
  | exc x ρ S => exact fun C σ' d M R E X => h C σ' d (N.trans M) R E X
theorem RVK.nxt {Q : VK} {E : XK} {A B : Wd} {r : RV} (N : Nxt tb A B) (h : RVK K tb Q E A r) : RVK K tb Q E B r := by
  cases r with
  | val w S => exact KE.nxt N h
  | exc x S => exact fun C d M R X => h C d (N.trans M) R X
theorem ssx_lift {t : TS} {m : MS} (h : SS K tb t m) : SSx K tb (fun _ => t) (liftS m) := fun A σ ρ S r W D R E e q => by
  obtain ⟨⟨o, ρ', S'⟩, e1, rfl⟩ := Option.map_eq_some_iff.mp e
  exact h A σ ρ S o ρ' S' D R E e1 q
theorem ssx_seq {t u : WX → TS} {a b : MSx} (ha : SSx K tb t a) (hb : SSx K tb u b) : SSx K tb (fun W => tSeq (t W) (u W)) (sSeqX a b) := fun A σ ρ S r W D R E e q => by
  obtain ⟨r1, e1, e2⟩ := Option.bind_eq_some_iff.mp e
  refine ha A σ ρ S r1 W _ R E e1 ?_
  cases r1 with
  | exc x ρ1 S1 => cases e2; exact q
  | fin o ρ1 S1 =>
    cases o with
    | nx => exact fun B σ' N R' E' => hb B σ' ρ1 S1 r W D R' E' e2 (q.nxt N)
    | bk => cases e2; exact q
    | ct => cases e2; exact q
    | rt w => cases e2; exact q
theorem ssx_if {c : TT} {t u : WX → TS} {m : MT} {a b : MSx} (hc : ST K tb c m) (ha : SSx K tb t a) (hb : SSx K tb u b) : SSx K tb (fun W => tIfS c (t W) (u W)) (sIfX m a b) := fun A σ ρ S r W D R E e q => by
  obtain ⟨⟨k, S1⟩, e1, e2⟩ := Option.bind_eq_some_iff.mp e
  refine hc A σ ρ S k S1 _ R E e1 fun B N R1 => ?_
  cases k with
  | true => exact ha B σ ρ S1 r W D R1 (E.nxt N) e2 (q.nxt N)
  | false => exact hb B σ ρ S1 r W D R1 (E.nxt N) e2 (q.nxt N)
theorem ssx_drop {t : (L2.St → XK) → TE} {a : MEx} (ha : SEx K tb t a) : SSx K tb (fun W => tDrop (t (WE W))) (sDropX a) := fun A σ ρ S r W D R E e q => by
  obtain ⟨r1, e1, rfl⟩ := Option.map_eq_some_iff.mp e
  refine ha A σ ρ S r1 _ _ R E e1 ?_
  cases r1 with
  | val w S1 => exact fun v B N R1 _ => q B σ N R1 (E.nxt N)
  | exc x S1 => exact fun B d N R1 X => q B σ d N R1 (E.nxt N) X
theorem ssx_ret {t : (L2.St → XK) → TE} {a : MEx} (ha : SEx K tb t a) : SSx K tb (fun W => tRet (t (WE W))) (sRetX a) := fun A σ ρ S r W D R E e q => by
  obtain ⟨r1, e1, rfl⟩ := Option.map_eq_some_iff.mp e
  refine ha A σ ρ S r1 _ _ R E e1 ?_
  cases r1 with
  | val w S1 => exact fun v B N R1 rv => q B v N R1 rv
  | exc x S1 => exact fun B d N R1 X => q B σ d N R1 (E.nxt N) X
theorem ssx_asg {t : (L2.St → XK) → TE} {a : MEx} {g : TG} {m : MG} {vs : List Nat} (ha : SEx K tb t a) (hg : SG K tb vs g m) : SSx K tb (fun W => tAsg (t (WE W)) g) (sAsgX a m) := fun A σ ρ S r W D R E e q => by
  obtain ⟨r1, e1, e2⟩ := Option.bind_eq_some_iff.mp e
  refine ha A σ ρ S r1 _ _ R E e1 ?_
  cases r1 with
  | val w S1 =>
    obtain ⟨⟨ρ2, S2⟩, e3, rfl⟩ := Option.map_eq_some_iff.mp e2
    exact fun v B N R1 rv => hg B v w σ ρ S1 ρ2 S2 _ R1 (E.nxt N) rv e3 fun C σ' N2 R2 E2 _ _ => q C σ' (N.trans N2) R2 E2
  | exc x S1 => cases e2; exact fun B d N R1 X => q B σ d N R1 (E.nxt N) X
theorem sex_call {n : Nat} {m : MFx} {t : TA} {a : MA} (h : ArX n m) (ha : SA K tb t a) : SEx K tb (fun E => tCallS (spDx K tb n m) E t) (eCallX m a) := fun A σ ρ S r E Q R Er e q => by
  obtain ⟨p, e1, e2⟩ := Option.bind_eq_some_iff.mp e
  exact ha A σ ρ S p.1 p.2 _ R Er e1 fun vs B N R1 r1 => ⟨by rw [WRs.length r1]; exact h _ _ _ e2, B, p.1, p.2, r, rfl, r1, R1, e2, q.nxt N⟩
theorem sex_meth {n : Nat} {C : Addr} {m : Str} {f : MFx} {ta : TE} {t : TA} {o : ME} {a : MA} (h : ArX n f) (ho : SE K tb ta o) (ha : SA K tb t a) : SEx K tb (tMethX C m (spDx K tb n f) ta t) (eMethX C m f o a) := fun A σ ρ S r E Q R Er e q => by
  obtain ⟨p, e1, g1⟩ := Option.bind_eq_some_iff.mp e
  obtain ⟨⟨k, C', fs⟩, e2, g2⟩ := Option.bind_eq_some_iff.mp g1
  dsimp only at g2
  split at g2
  · rename_i hC
    obtain ⟨h1, h2⟩ := hC
    subst h1
    obtain ⟨z, e3, g3⟩ := Option.bind_eq_some_iff.mp g2
    refine ho A σ ρ S p.1 p.2 _ R Er e1 fun x B N R1 r1 => ?_
    obtain ⟨a', dx, vs, rfl, _, ia, ea, pf⟩ := insAt_run R1 r1 e2
    refine ⟨a', dx, vs, rfl, ea, pf.none h2, ?_⟩
    refine ha B σ ρ p.2 z.1 z.2 _ R1 (Er.nxt N) e3 fun us B2 N2 R2 r2 => ?_
    have rr : WRs K tb B2 (.ref a' :: us) (p.1 :: z.1) := .cons (r1.nxt N2) r2
    exact ⟨by rw [WRs.length rr]; exact h _ _ _ g3, B2, _, _, r, rfl, rr, R2, g3, q.nxt (N.trans N2)⟩
  · cases g2
/-! ### raise -/
theorem Paired.snoc {α β : Type} {F : α → β → Prop} {a : α} {b : β} (r : F a b) : ∀ {l₁ : List α} {l₂ : List β}, Paired F l₁ l₂ → Paired F (l₁ ++ [a]) (l₂ ++ [b])
  | _, _, .nil => .cons r .nil
  | _, _, .cons x t => .cons x (Paired.snoc r t)
theorem Paired.rev {α β : Type} {F : α → β → Prop} : ∀ {l₁ : List α} {l₂ : List β}, Paired F l₁ l₂ → Paired F l₁.reverse l₂.reverse
  | _, _, .nil => .nil
  | _, _, .cons x t => by rw [List.reverse_cons, List.reverse_cons]; exact Paired.snoc x (Paired.rev t)
theorem pf_zip {A : Wd} : ∀ {fl : List Str} {vs : List V} {ws : List W}, WRs K tb A vs ws → PF K tb A (fl.zip vs) (fl.zip ws)
  | [], _, _, _ => by rw [List.zip_nil_left, List.zip_nil_left]; exact .nil
  | f :: fl, _, _, .nil => .nil
  | f :: fl, _, _, .cons x t => .cons ⟨rfl, x⟩ (pf_zip t)
theorem ssx_raise {C : Addr} {fl : List Str} {ta : TA} {a : MA} (ha : SA K tb ta a) : SSx K tb (fun W _ σ H => tMkO C (spInit C fl) [] ta σ H fun cls d H' => W cls d σ H') (sRaiseX C fl a) := fun A σ ρ S r W D R E e q => by
  obtain ⟨p, e1, e2⟩ := Option.bind_eq_some_iff.mp e
  split at e2
  · rename_i hl
    cases e2
    refine ha A σ ρ S p.1 p.2 _ R E e1 fun vs B N R1 r1 => ?_
    have hvl : vs.length = fl.length := (WRs.length r1).trans hl.1
    refine ⟨by omega, fun a ha0 => ⟨a, vs ++ [], rfl, by rw [List.append_nil]; exact hvl, upd_same, fun dx hdx => ?_⟩⟩
    have hne : dx ≠ a := fun z => by rw [z, upd_same] at hdx; cases hdx
    rw [upd_ne hne] at hdx
    refine ⟨rfl, dx, _, upd_same, (upd_ne hne).trans upd_same, hdx, ?_⟩
    rw [List.append_nil]
    have eH : upd (del (upd (upd (upd B.H a (exo a C none)) dx (exd dx (fl.zip vs).reverse)) a (exo a C (some dx))) a) dx (.xd (fl.zip vs).reverse) = (B.put dx (.xd (fl.zip vs).reverse)).H := by
      funext b
      show _ = upd B.H dx _ b
      by_cases h1 : b = dx
      · rw [h1, upd_same, upd_same]
      · rw [upd_ne h1, upd_ne h1]
        by_cases h2 : b = a
        · rw [h2, del_same, ha0]
        · rw [del_ne h2, upd_ne h2, upd_ne h1, upd_ne h2]
    rw [eH]
    have NP := Nxt.put (tb := tb) (A := B) hdx (.xd (fl.zip vs).reverse)
    exact q _ σ (some dx) (N.trans NP) (R1.put hdx _) (E.nxt (N.trans NP)) ⟨dx, _, rfl, (Fz.put R1 hdx _).1, upd_same, Paired.rev (pf_zip (r1.nxt NP))⟩
  · cases e2
end
end Pd
/-! defs that raise, try, what a suite asks of its error -/
namespace Pd
open PySem PySem.Spec PyProof.Rows L2 L2H GxR Gx
def dfnx (n k : Nat) (f : Bool) (body : MSx) : MFx := fun ws S => if ws.length = n then (body (ws.map some ++ List.replicate k none) S).bind fun r => match r with
    | .fin .nx _ S' => (fin f S.length (.d .none) S').map fun p => .val p.1 p.2
    | .fin (.rt w) _ S' => (fin f S.length w S').map fun p => .val p.1 p.2
    | .fin _ _ _ => none
    | .exc x _ S' => if f = false then some (.exc x S') else none
  else none
theorem arx_dfnx {n k : Nat} {f : Bool} {body : MSx} : ArX n (dfnx n k f body) := fun ws S r h => by
  unfold dfnx at h
  split at h
  · assumption
  · cases h
section
variable {K : PySem.W.Frag} {tb : List Addr}
variable {P : Program} {w : World} {mg : Str → Option Value} {base : Heap}
theorem def_okx {x qual : Str} {st : Stmt} {f : Addr} {fd : FuncData} {c : Addr} {N ps : List Str} {k : Nat} {fz : Bool} {body : MSx} (F : FunC K x qual st f fd c) (S : FnScope N ps (defScope st))
    (hbody : ∀ (A : Around) (outer : List Env) (s : Shared) (H : Hp) (E : XK), Room k (A.deeper (envOfC qual (defScope st) s.heap.objs.size f (.ref c))) →
      ∃ t : WX → TS, (∀ W, Takes (cxOf (L2.CX P w) P w K mg base N qual (defScope st) f (.ref c) A outer s H E) W → PSs (cxOf (L2.CX P w) P w K mg base N qual (defScope st) f (.ref c) A outer s H E) (defBody st) (t W)) ∧ SSx K tb t body) :
    FnOk P w K mg base (L2.CX P w) (k + 1) f fd ps (spDx K tb ps.length (dfnx ps.length (N.length - ps.length) fz body)) := by
  obtain ⟨oc, od, kV, doc, pm, an, ct, osl, rfl, lk, hcd⟩ := F.ex
  refine fn_of lk hcd S (fun vs H Q E h => h.1) fun A outer s H vs Q E hr hsp => ?_
  obtain ⟨t, h, hs⟩ := hbody A outer s H E hr
  refine ⟨t (fun cls d _ H => E cls d H), h _ (takes_of rfl rfl rfl rfl), ?_⟩
  obtain ⟨hl, B, ws, S0, r0, rfl, r, R, e, q⟩ := hsp
  unfold dfnx at e
  rw [if_pos (by rw [← WRs.length r, hl])] at e
  obtain ⟨r1, e1, e⟩ := Option.bind_eq_some_iff.mp e
  have hst : L2.start N vs = vs.map some ++ List.replicate (N.length - ps.length) none := by unfold L2.start; rw [hl]
  rw [hst]
  refine hs B _ _ S0 r1 _ _ R (er_start r _) e1 ?_
  cases r1 with
  | exc x ρ' S1 =>
    dsimp only at e
    split at e
    · cases e
      exact fun C σ' d N1 R1 E1 X => q C d N1 R1 X
    · cases e
  | fin o ρ' S1 =>
    cases o with
    | nx =>
      obtain ⟨p, e2, rfl⟩ := Option.map_eq_some_iff.mp e
      exact fun C σ' N1 R1 E1 => fin_run (v := .non) (w := .d .none) R N1 R1 DR.non e2 q
    | rt w2 =>
      obtain ⟨p, e2, rfl⟩ := Option.map_eq_some_iff.mp e
      exact fun C v N1 R1 r1 => fin_run R N1 R1 r1 e2 q
    | bk => cases e
    | ct => cases e
/-! ### try -/
def sTryX (body : MSx) (h : Ex → MS) (i : Nat) : MS := fun ρ S => (body ρ S).bind fun r => match r with
  | .fin o ρ' S' => some (o, ρ', S')
  | .exc x ρ' S' => if i < ρ'.length then (h x (ρ'.set i none) S').map fun p => (p.1, p.2.1.set i none, p.2.2) else none
def SHx (K : PySem.W.Frag) (tb : List Addr) (i : Nat) (x : Ex) (ts : Addr → Value → Option Addr → TS) (m : MS) : Prop := ∀ A σ ρ S d a o ρ' S' (D : Ends), Rep K tb A S → ER K tb A σ ρ → XD K tb A d x.fs → A.H a = none → σ[i]? = some (some (.ref a)) →
  m ρ S = some (o, ρ', S') → FinK K tb D A o ρ' S' → ts a (.ref x.C) d D σ A.H
theorem ER.clr {A : Wd} {σ : L2.St} {ρ : Env'} {i : Nat} (h : ER K tb A σ ρ) (v : Option V) : ER K tb A (σ.set i v) (ρ.set i none) := by
  refine ⟨by rw [List.length_set, List.length_set]; exact h.1, fun j w e => ?_⟩
  by_cases hj : j = i
  · subst hj
    have hlt : j < ρ.length := by
      have := (List.getElem?_eq_some_iff.mp e).1
      rwa [List.length_set] at this
    rw [List.getElem?_set_self hlt] at e
    cases e
  · rw [List.getElem?_set_ne (Ne.symm hj)] at e
    obtain ⟨v, q, r⟩ := h.2 j w e
    exact ⟨v, by rw [List.getElem?_set_ne (Ne.symm hj)]; exact q, r⟩
theorem ss_try {t : WX → TS} {body : MSx} {c : Value} {i : Nat} {ts : Addr → Value → Option Addr → TS} {h : Ex → MS} (hb : SSx K tb t body)
    (hx : ∀ x ρ S r, h x ρ S = some r → PySem.W.exmOne K (.ref x.C) c = some true) (hh : ∀ x, SHx K tb i x ts (h x)) : SS K tb (fun D σ H => t (wAs K c i ts (fun _ _ _ _ => False) D) D σ H) (sTryX body h i) := fun A σ ρ S o ρ' S' D R E e q => by
  obtain ⟨r1, e1, e2⟩ := Option.bind_eq_some_iff.mp e
  refine hb A σ ρ S r1 _ D R E e1 ?_
  cases r1 with
  | fin o1 ρ1 S1 => cases e2; exact q
  | exc x ρ1 S1 =>
    dsimp only at e2
    split at e2
    · rename_i hi
      obtain ⟨⟨o2, ρ2, S2⟩, e3, e4⟩ := Option.map_eq_some_iff.mp e2
      cases e4
      intro B σ' d N R1 E1 X
      refine ⟨true, hx _ _ _ _ e3, fun _ a ha => ?_, fun z => nomatch z⟩
      refine hh x B _ _ S1 d a o2 ρ2 S2 _ R1 (E1.clr _) X ha (List.getElem?_set_self (by rw [← E1.1]; exact hi)) e3 ?_
      cases o2 with
      | nx => exact fun C σ2 N2 R2 E2 => q C _ (N.trans N2) R2 (E2.clr none)
      | bk => exact fun C σ2 N2 R2 E2 => q C _ (N.trans N2) R2 (E2.clr none)
      | ct => exact fun C σ2 N2 R2 E2 => q C _ (N.trans N2) R2 (E2.clr none)
      | rt w => exact fun C v N2 R2 r2 => q C v (N.trans N2) R2 r2
    · cases e2
end
/-! ### o.m(..) that may raise -/
section
variable {X : Cx} {CX : CXT} {k : Nat} {f C : Addr} {fd : FuncData} {ps : List Str} {sp : Sp} {E : L2.St → XK} {m : Str} {pos apos : Pos} {e o : Expr} {es : List Expr} {ta : TE} {t : TA}
theorem pe_methX {pl : Sem Bool} (ho : PE X o ta) (c : Cls X.K C) (hm : Meth X.K C m f) (F : FnOk X.prog X.w X.K X.mg X.base CX k f fd ps sp) (hr : Room k X.A) (hb : Binds X.K fd ps []) (hx : ∀ σ, PassesAt CX X σ (E σ)) (ha : PA X (e :: es) t)
    (h1 : starEach (e :: es) X.env = (false, eval e X.env) :: starEach es X.env := by rfl) (h2 : (backTo pos (starEach es X.env)).any (·.1) = false := by rfl)
    (h3 : eval (.Call (.Attribute o m apos) (e :: es) [] pos) X.env = (do
      let ov ← eval o X.env
      standAt apos.atName
      let (f, first) ← holding [ov] (getMethod ov m pl)
      callWith pos f first (backTo pos (starEach (e :: es) X.env)) (backToKw pos (keywordEach [] X.env))) := by rfl) :
    PE X (.Call (.Attribute o m apos) (e :: es) [] pos) (tMethX C m sp ta t E) := ⟨fun pins s σ H Q I h =>
  PySem.W.methodCall_KW (pl := pl) (thn (ho.run pins s σ H _ I h) fun u s1 ⟨_, H1, I1, rx, a, dx, fs, ex, ea, l, q⟩ => by
    cases ex
    cases (show u = Value.ref a from rx)
    exact getmeth_ok I1 ea c hm l (PySem.W.callWith_K (first := [.ref a]) (h₀ := X.base) I.ok.mod.kin hm.kp (thn (ha.run pos pins s1 σ H1 _ I1 q) fun us s2 ⟨vs, H2, I2, r, q2⟩ =>
      ⟨I2.kIn, run_fnS (us := .ref a :: us) (vs := .ref a :: vs) F hr hb (hx σ) I2 (.cons rfl r) q2⟩) h1 h2)) h3⟩
end
/-! ### isinstance of a caught error, with or without a dict; a def that is handed it -/
def XDl (H : Hp) (d : Option Addr) : Prop := d = none ∨ ∃ dd fs, d = some dd ∧ H dd = some (.xd fs)
theorem XD.l {K : PySem.W.Frag} {tb : List Addr} {B : Wd} {d : Option Addr} {fs : Option FW} (h : XD K tb B d fs) : XDl B.H d := by
  cases fs with
  | none => exact .inl h
  | some fs => obtain ⟨dd, vs, e, _, q, _⟩ := h; exact .inr ⟨dd, vs, e, q⟩
def rIsX (K : PySem.W.Frag) (D a : Addr) (d : Option Addr) : List V → Hp → VK → Prop := fun xs H Q => ∃ (c : V) (cv : Value) (b : Bool), xs = [.ref a, c] ∧ (∀ u, RelV c u → u = cv) ∧ PySem.W.kitOne K (.ref D) cv = some b ∧ XDl H d ∧ Q (.bl b) H
theorem call_isX {Y : Cx} {a D : Addr} {d : Option Addr} {oe : Obj} (C : ExcC Y.K D) (hp : (a, oe) ∈ Y.pn) (hz : Zc (.ref D) d oe) (hf : ∃ vs, oe.data = .fields vs) : CallR Y (.builtin "isinstance") (rIsX Y.K D a d) := by
  intro pins s σ H xs us Q I r h
  obtain ⟨c, cv, b, rfl, hcv, e, hd, q⟩ := h
  cases r with
  | cons r1 r =>
    cases r with
    | cons r2 r =>
      cases r
      cases r1
      have ec := hcv _ r2
      subst ec
      obtain ⟨hget, _⟩ := I.pin (a, oe) (List.mem_append.mpr (.inl hp))
      obtain ⟨vs, hv⟩ := hf
      obtain ⟨h1, h2⟩ := hz
      have nc : PySem.W.notCls oe = true := by unfold PySem.W.notCls; rw [hv] <;> rfl
      obtain ⟨od, J⟩ : ∃ od, PySem.W.InstAt s.heap a oe D od := by
        rcases hd with rfl | ⟨dd, fs, rfl, ed⟩
        · exact ⟨none, hget, h1, nc, by rw [h2]; trivial⟩
        · have hx : ObjOk Y.prog Y.w H s.heap dd (.xd fs) := I.hok dd _ ed
          obtain ⟨mA, hns, _⟩ := hx
          obtain ⟨od, ho, _⟩ := lookIn_ns hns
          exact ⟨some od, hget, h1, nc, by rw [h2]; exact ho⟩
      have hcl : (PySem.W.clsIn Y.K D).isSome = true := by
        have := C.hd
        obtain ⟨cd, hc, _⟩ := PySem.W.any_some this
        rw [hc]; rfl
      exact PySem.W.kia_one (PySem.W.kitx_exc hcl C.hg C.hk C.hs C.ha C.hn C.ht C.hm) I.kIn J e (fun z => nomatch z) fun tk => ⟨.bl b, H, I.kept (t' := tk) fun _ _ z => z, rfl, q⟩
/-- a def with one parameter that is handed the error of a suite: class C, dict d; it tells ans -/
structure FnX (P : Program) (w : World) (K : PySem.W.Frag) (mg : Str → Option Value) (base : Heap) (k : Nat) (f : Addr) (fd : FuncData) (n : Str) (C : Addr) (ans : V) : Prop where
  run : ∀ (A : Around) (outer : List Env) (s : Shared) (H : Hp) (args : Args) (Q : VK) (p : Addr × Obj) (d : Option Addr), RoomH k A → PinOk outer H s p → Zc (.ref C) d p.2 → XDl H d → (∃ vs, p.2.data = .fields vs) → Env0 P w K mg base A outer s H → BindsTo s fd args [(n, .ref p.1)] → Q ans H →
    codeAny (model P w) A (.call (.ref f) args) (CR CX0 outer P w H s Q (fun _ _ _ => False)) s
theorem fnX_of {P : Program} {w : World} {K : PySem.W.Frag} {mg : Str → Option Value} {base : Heap} {x qual n : Str} {st : Stmt} {f c : Addr} {fd : FuncData} {C : Addr} {ans : V} (F : FunC K x qual st f fd c) (S : FnScope [n] [n] (defScope st))
    (hbody : ∀ (A : Around) (outer : List Env) (s : Shared) (H : Hp) (Q : VK) (p : Addr × Obj) (d : Option Addr), Zc (.ref C) d p.2 → XDl H d → (∃ vs, p.2.data = .fields vs) → Q ans H →
      ∃ t, PSs (cxH CX0 P w K mg base [n] qual (defScope st) f (.ref c) A outer s H (fun _ _ _ => False) p) (defBody st) t ∧ t { nx := fun _ H' => Q .non H', rt := Q } [some (.ref p.1)] H) : FnX P w K mg base 1 f fd n C ans := by
  obtain ⟨oc, od, kV, doc, pm, an, ct, osl, rfl, lk, hcd⟩ := F.ex
  refine ⟨fun A outer s H args Q p d hr hpin hz hd hf e0 hb q => ?_⟩
  have KX : K.In s.heap := e0.mod.kin.keeps fun b o e => (e0.bs b o e).1
  have lim : s.heap.NoLimit := e0.mod.nolimit.keeps fun b o e => (e0.bs b o e).1
  have hkind : ∀ y ∈ ([n] : List Str).zip [Value.ref p.1], (defScope st).names.lookup y.1 = some .local ∨ ((defScope st).names.lookup y.1 = some .cell ∧ ((cellsFrom (s.heap.objs.size + 1) (defScope st).names []).lookup y.1).isSome = true) := fun ⟨m, v⟩ hy =>
    (S.par m (List.of_mem_zip hy).1).imp id fun q => ⟨q, PySem.W.cellsFrom_some _ _ _ (.inl q)⟩
  refine codeAny_call_function hr.depth (KX _ _ lk) rfl S.co S.gen rfl (PySem.W.codeRec_of KX hcd) (hb _ _ _ _ ?_)
  refine wpAny_newFunctionEnv_cells S.kind hkind fun env he s1 x => ?_
  subst he
  refine ⟨lim.keeps x.toInCall.keep, codeAny_func ?_⟩
  obtain ⟨t, ht, hq⟩ := hbody A outer s H Q p d hz hd hf q
  have I := inv_startH (CX := CX0) (E := fun _ _ _ => False) (vs := [V.ref p.1]) (us := [Value.ref p.1]) S hpin e0 rfl (.cons rfl .nil) x
  refine wpAny_mono (ht.run [] s1 _ H _ I hq) (fun fl s' hs => ?_) fun e s' hs => hs
  cases fl with
  | ret u => exact hs.elim fun v hs => hs.elim fun σ' hs => hs.elim fun H' hs => ⟨v, H', hs.1.os, hs.1.bare, hs.1.base, hs.1.hok, hs.2.1, hs.2.2⟩
  | next => exact hs.elim fun σ' hs => hs.elim fun H' hs => ⟨V.non, H', hs.1.os, hs.1.bare, hs.1.base, hs.1.hok, rfl, hs.2⟩
  | brk => exact hs.elim fun _ hs => hs.elim fun _ hs => hs.2.elim
  | cont => exact hs.elim fun _ hs => hs.elim fun _ hs => hs.2.elim
def tCallX (a : Addr) (d : Option Addr) (ans : V) (t : TA) : TE := fun σ H Q => t σ H fun vs H1 => vs = [.ref a] ∧ XDl H1 d ∧ Q ans H1
theorem pe_callX {Y : Cx} {k : Nat} {f C a : Addr} {d : Option Addr} {fd : FuncData} {oe : Obj} {ans : V} {x n : Str} {q pos : Pos} {e : Expr} {t : TA} (F : FnX Y.prog Y.w Y.K Y.mg Y.base k f fd n C ans) (hr : RoomH k Y.A) (hp : (a, oe) ∈ Y.pn) (hz : Zc (.ref C) d oe) (hf : ∃ vs, oe.data = .fields vs)
    (hg : Gl Y x) (hm : Y.mg x = some (.ref f)) (hk : PySem.W.keepIn Y.K (.ref f) = true) (hb : Binds Y.K fd [n] []) (ha : PA Y [e] t)
    (hdb : (x == ("__debug__" : Str)) = false := by decide) (hst : starEach [e] Y.env = (false, eval e Y.env) :: starEach [] Y.env := by rfl) (hpl : (backTo pos (starEach [] Y.env)).any (·.1) = false := by rfl) :
    PE Y (.Call (.Name x q) [e] [] pos) (tCallX a d ans t) := by
  refine ⟨fun pins s σ H Q I h => wpAny_Call_Name_kw (ld_glob I hg hm ?_ hdb)⟩
  refine PySem.W.callWith_K (h₀ := Y.base) I.ok.mod.kin hk (thn (ha.run pos pins s σ H _ I h) fun us s1 ⟨vs, H1, I1, r, ev, hd, q⟩ => ⟨I1.kIn, ?_⟩) hst hpl
  subst ev
  cases r with
  | cons r1 rr =>
    cases rr
    cases r1
    have b := hb s1 [.ref a] I1.kIn rfl
    rw [List.append_nil] at b
    obtain ⟨p1, p2, p3, p4, p5⟩ := I1.pin (a, oe) (List.mem_append_left _ hp)
    have hpin : PinOk Y.stack H1 s1 (a, oe) := ⟨p1, p2, fun hm => (List.mem_cons.mp (I1.stkSub a hm)).elim p3 p4, p5⟩
    refine wpAny_call (codeAny_mono (F.run Y.A Y.stack s1 H1 ⟨[.ref a], []⟩ Q (a, oe) d hr hpin hz hd hf I1.env0 b q) fun rr s' hq => ?_)
    cases rr with
    | error ee => exact False.elim hq
    | ok fl =>
      cases fl with
      | ret u => exact I1.after hq
      | _ => exact False.elim hq
/-! ### an error's __init__ that keeps its arguments -/
section
variable {P : Program} {w : World} {K : PySem.W.Frag} {mg : Str → Option Value} {base : Heap}
theorem init1_ok {x qual a1 f1 : Str} {st : Stmt} {f c C : Addr} {fd : FuncData} (F : FunC K x qual st f fd c) (S : FnScope ["self", a1] ["self", a1] (defScope st)) (T : OexC K C) (h1 : PySem.W.findIn K (.ref C) f1 = some none)
    (hbody : ∀ (A : Around) (outer : List Env) (s : Shared) (H : Hp) (E : XK), PSs (cxOf CX0 P w K mg base ["self", a1] qual (defScope st) f (.ref c) A outer s H E) (defBody st) (tOst K f1 (tVar 0) (tVar 1))) :
    FnOk P w K mg base CX0 1 f fd ["self", a1] (spInit C [f1]) := by
  obtain ⟨oc, od, kV, doc, pm, an, ct, osl, rfl, lk, hcd⟩ := F.ex
  refine fn_of lk hcd S (fun vs H Q E h => by obtain ⟨a, us, rfl, hl, _⟩ := h; rw [List.length_cons, hl]; rfl) fun A outer s H vs Q E hr hsp => ⟨_, hbody A outer s H E, ?_⟩
  obtain ⟨a, us, rfl, hl, ea, q⟩ := hsp
  match us, hl with
  | [y], _ =>
    refine ⟨y, rfl, .ref a, rfl, a, C, rfl, T, h1, .inl ⟨ea, fun dx hdx hne => ?_⟩⟩
    exact q dx hdx
end
end Pd
namespace k31
open PySem PySem.Spec PyProof.Rows L2 GxR Gx Pd
def b_Memory_init (C_Memory C_NotAllocated : Addr)  : MS :=
    (sSeq (sFldW C_Memory (eVar 0) "numbers" eDNew)
    (sFldW C_Memory (eVar 0) "rows" (eLstL aNil)))
def m_Memory_init (C_Memory C_NotAllocated : Addr) : MF := dfn 1 0 false (b_Memory_init C_Memory C_NotAllocated)
theorem ar_Memory_init {C_Memory C_NotAllocated : Addr} : Ar 1 (m_Memory_init C_Memory C_NotAllocated) := ar_dfn
def b_Memory_allocate (C_Memory C_NotAllocated : Addr)  : MS :=
    (sSeq (sAsg (eC (.int (1))) (gN 2))
    (sSeq (sAsg (eC (.int (0))) (gN 3))
    (sSeq (whileM (eAnd (eB (eOp oLt (eVar 3) (eCall bLen (aCons (eFld C_Memory (eVar 0) "rows") aNil)))) (eB (eOp oLt (eOp oSub (eOp oIx (eOp oIx (eFld C_Memory (eVar 0) "rows") (eVar 3)) (eC (.int (0)))) (eVar 2)) (eVar 1)))) (sSeq (sAsg (eOp (oPlus false) (eOp oIx (eOp oIx (eFld C_Memory (eVar 0) "rows") (eVar 3)) (eC (.int (0)))) (eOp oIx (eOp oIx (eFld C_Memory (eVar 0) "rows") (eVar 3)) (eC (.int (1))))) (gN 2))
    (sAugM 3 (eC (.int (1))))) 100)
    (sSeq (sDrop (eBm mInsert (eFld C_Memory (eVar 0) "rows") (aCons (eVar 3) (aCons (eTup (aCons (eVar 2) (aCons (eVar 1) aNil))) aNil))))
    (sSeq (sFor (iRng2M (aCons (eVar 2) (aCons (eOp (oPlus false) (eVar 2) (eVar 1)) aNil))) (gN 4) (sDPutW (eFld C_Memory (eVar 0) "numbers") (eVar 4) (eC (.int (0)))))
    (sRet (eVar 2)))))))
def m_Memory_allocate (C_Memory C_NotAllocated : Addr) : MF := dfn 2 3 false (b_Memory_allocate C_Memory C_NotAllocated)
theorem ar_Memory_allocate {C_Memory C_NotAllocated : Addr} : Ar 2 (m_Memory_allocate C_Memory C_NotAllocated) := ar_dfn
def b_Memory_release (C_Memory C_NotAllocated : Addr)  : MS :=
    (sSeq (sAsg (eLc (iLstM (eFld C_Memory (eVar 0) "rows")) [4] (gN 4) (eB (eOp (oEq false) (eOp oIx (eVar 4) (eC (.int (0)))) (eVar 1))) (eVar 4) mkF) (gN 2))
    (sSeq (sIf (eNot (eTru (eVar 2))) sNone sNx)
    (sSeq (sDrop (eBm mRemove (eFld C_Memory (eVar 0) "rows") (aCons (eOp oIx (eVar 2) (eC (.int (0)))) aNil)))
    (sFor (iRng2M (aCons (eVar 1) (aCons (eOp (oPlus false) (eVar 1) (eOp oIx (eOp oIx (eVar 2) (eC (.int (0)))) (eC (.int (1))))) aNil))) (gN 3) (sDDelM (eFld C_Memory (eVar 0) "numbers") (eVar 3))))))
def bx_Memory_release (C_Memory C_NotAllocated : Addr) : MSx :=
    (sSeqX (liftS (sAsg (eLc (iLstM (eFld C_Memory (eVar 0) "rows")) [4] (gN 4) (eB (eOp (oEq false) (eOp oIx (eVar 4) (eC (.int (0)))) (eVar 1))) (eVar 4) mkF) (gN 2)))
    (sSeqX (sIfX (eNot (eTru (eVar 2))) (sRaiseX C_NotAllocated ["address"] (aCons (eVar 1) aNil)) (liftS sNx))
    (sSeqX (liftS (sDrop (eBm mRemove (eFld C_Memory (eVar 0) "rows") (aCons (eOp oIx (eVar 2) (eC (.int (0)))) aNil))))
    (liftS (sFor (iRng2M (aCons (eVar 1) (aCons (eOp (oPlus false) (eVar 1) (eOp oIx (eOp oIx (eVar 2) (eC (.int (0)))) (eC (.int (1))))) aNil))) (gN 3) (sDDelM (eFld C_Memory (eVar 0) "numbers") (eVar 3)))))))
def m_Memory_release (C_Memory C_NotAllocated : Addr) : MF := dfn 2 3 false (b_Memory_release C_Memory C_NotAllocated)
def mx_Memory_release (C_Memory C_NotAllocated : Addr) : MFx := dfnx 2 3 false (bx_Memory_release C_Memory C_NotAllocated)
theorem ar_Memory_release {C_Memory C_NotAllocated : Addr} : Ar 2 (m_Memory_release C_Memory C_NotAllocated) := ar_dfn
theorem arx_Memory_release {C_Memory C_NotAllocated : Addr} : ArX 2 (mx_Memory_release C_Memory C_NotAllocated) := arx_dfnx
def b_Memory_require_block (C_Memory C_NotAllocated : Addr)  : MS :=
    (sIf (eB (eDIn true (eVar 1) (eFld C_Memory (eVar 0) "numbers"))) sNone sNx)
def bx_Memory_require_block (C_Memory C_NotAllocated : Addr) : MSx :=
    (sIfX (eB (eDIn true (eVar 1) (eFld C_Memory (eVar 0) "numbers"))) (sRaiseX C_NotAllocated ["address"] (aCons (eVar 1) aNil)) (liftS sNx))
def m_Memory_require_block (C_Memory C_NotAllocated : Addr) : MF := dfn 2 0 false (b_Memory_require_block C_Memory C_NotAllocated)
def mx_Memory_require_block (C_Memory C_NotAllocated : Addr) : MFx := dfnx 2 0 false (bx_Memory_require_block C_Memory C_NotAllocated)
theorem ar_Memory_require_block {C_Memory C_NotAllocated : Addr} : Ar 2 (m_Memory_require_block C_Memory C_NotAllocated) := ar_dfn
theorem arx_Memory_require_block {C_Memory C_NotAllocated : Addr} : ArX 2 (mx_Memory_require_block C_Memory C_NotAllocated) := arx_dfnx
def b_Memory_read (C_Memory C_NotAllocated : Addr)  : MS :=
    (sSeq (sDrop (eMeth C_Memory "require_block" (m_Memory_require_block C_Memory C_NotAllocated) (eVar 0) (aCons (eVar 1) aNil)))
    (sRet (eDGet (eFld C_Memory (eVar 0) "numbers") (eVar 1))))
def bx_Memory_read (C_Memory C_NotAllocated : Addr) : MSx :=
    (sSeqX (sDropX (eMethX C_Memory "require_block" (mx_Memory_require_block C_Memory C_NotAllocated) (eVar 0) (aCons (eVar 1) aNil)))
    (liftS (sRet (eDGet (eFld C_Memory (eVar 0) "numbers") (eVar 1)))))
def m_Memory_read (C_Memory C_NotAllocated : Addr) : MF := dfn 2 0 false (b_Memory_read C_Memory C_NotAllocated)
def mx_Memory_read (C_Memory C_NotAllocated : Addr) : MFx := dfnx 2 0 false (bx_Memory_read C_Memory C_NotAllocated)
theorem ar_Memory_read {C_Memory C_NotAllocated : Addr} : Ar 2 (m_Memory_read C_Memory C_NotAllocated) := ar_dfn
theorem arx_Memory_read {C_Memory C_NotAllocated : Addr} : ArX 2 (mx_Memory_read C_Memory C_NotAllocated) := arx_dfnx
def b_Memory_write (C_Memory C_NotAllocated : Addr)  : MS :=
    (sSeq (sDrop (eMeth C_Memory "require_block" (m_Memory_require_block C_Memory C_NotAllocated) (eVar 0) (aCons (eVar 1) aNil)))
    (sDPutW (eFld C_Memory (eVar 0) "numbers") (eVar 1) (eVar 2)))
def bx_Memory_write (C_Memory C_NotAllocated : Addr) : MSx :=
    (sSeqX (sDropX (eMethX C_Memory "require_block" (mx_Memory_require_block C_Memory C_NotAllocated) (eVar 0) (aCons (eVar 1) aNil)))
    (liftS (sDPutW (eFld C_Memory (eVar 0) "numbers") (eVar 1) (eVar 2))))
def m_Memory_write (C_Memory C_NotAllocated : Addr) : MF := dfn 3 0 false (b_Memory_write C_Memory C_NotAllocated)
def mx_Memory_write (C_Memory C_NotAllocated : Addr) : MFx := dfnx 3 0 false (bx_Memory_write C_Memory C_NotAllocated)
theorem ar_Memory_write {C_Memory C_NotAllocated : Addr} : Ar 3 (m_Memory_write C_Memory C_NotAllocated) := ar_dfn
theorem arx_Memory_write {C_Memory C_NotAllocated : Addr} : ArX 3 (mx_Memory_write C_Memory C_NotAllocated) := arx_dfnx
def b_Memory_blocks (C_Memory C_NotAllocated : Addr)  : MS :=
    (sRet (eCall bListF (aCons (eFld C_Memory (eVar 0) "rows") aNil)))
def m_Memory_blocks (C_Memory C_NotAllocated : Addr) : MF := dfn 1 0 false (b_Memory_blocks C_Memory C_NotAllocated)
theorem ar_Memory_blocks {C_Memory C_NotAllocated : Addr} : Ar 1 (m_Memory_blocks C_Memory C_NotAllocated) := ar_dfn
def exI (f : Str) (x : Ex) : Option Int := match x.fs with
  | none => none
  | some fs => match List.lookup f fs with
    | some (.d (.int i)) => some i
    | _ => none
def h_law_raises (C_Memory C_NotAllocated : Addr) (x : Ex) : MS := if x.C = C_NotAllocated then sRet (fun ρ S => (exI "address" x).bind fun i => (eVar 2 ρ S).bind fun p => match p.1 with
  | .d (.int j) => some (.d (.bool (decide (i = j))), p.2)
  | _ => none) else fun _ _ => none
def b_law_raises (C_Memory C_NotAllocated : Addr) : MS :=
    (sSeq (sTryX (sIfX (eB (eOp (oEq false) (eVar 1) (eC (.int (0))))) (sDropX (eMethX C_Memory "read" (mx_Memory_read C_Memory C_NotAllocated) (eVar 0) (aCons (eVar 2) aNil))) (sIfX (eB (eOp (oEq false) (eVar 1) (eC (.int (1))))) (sDropX (eMethX C_Memory "write" (mx_Memory_write C_Memory C_NotAllocated) (eVar 0) (aCons (eVar 2) (aCons (eC (.int (7))) aNil)))) (sDropX (eMethX C_Memory "release" (mx_Memory_release C_Memory C_NotAllocated) (eVar 0) (aCons (eVar 2) aNil))))) (h_law_raises C_Memory C_NotAllocated) 3) (sRet (eC (.bool false))))
def m_law_raises (C_Memory C_NotAllocated : Addr) : MF := dfn 3 1 false (b_law_raises C_Memory C_NotAllocated)
theorem ar_law_raises {C_Memory C_NotAllocated : Addr} : Ar 3 (m_law_raises C_Memory C_NotAllocated) := ar_dfn
def b_law_agrees (C_Memory C_NotAllocated : Addr)  : MS :=
    (sSeq (sFor (iRng2M (aCons (eOp oSub (eC (.int (0))) (eC (.int (3)))) (aCons (eOp (oPlus false) (eVar 3) (eC (.int (3)))) aNil))) (gN 4) (sSeq (sIf (eB (eDIn false (eVar 4) (eVar 1))) (sIf (eB (eOp (oEq true) (eMeth C_Memory "read" (m_Memory_read C_Memory C_NotAllocated) (eVar 0) (aCons (eVar 4) aNil)) (eDGetR (eVar 1) (eVar 4)))) (sRet (eC (.bool false))) sNx) (sIf (eOr (eNot (eB (eCall (m_law_raises C_Memory C_NotAllocated) (aCons (eVar 0) (aCons (eC (.int (0))) (aCons (eVar 4) aNil)))))) (eNot (eB (eCall (m_law_raises C_Memory C_NotAllocated) (aCons (eVar 0) (aCons (eC (.int (1))) (aCons (eVar 4) aNil))))))) (sRet (eC (.bool false))) sNx))
    (sIf (eAnd (eB (eOp (oIn true) (eVar 4) (eVar 2))) (eNot (eB (eCall (m_law_raises C_Memory C_NotAllocated) (aCons (eVar 0) (aCons (eC (.int (2))) (aCons (eVar 4) aNil))))))) (sRet (eC (.bool false))) sNx)))
    (sSeq (sLock (lkV 1) (sFor (iKeysM (eVar 1)) (gN 4) (sIf (eB (eOp (oEq true) (eMeth C_Memory "read" (m_Memory_read C_Memory C_NotAllocated) (eVar 0) (aCons (eVar 4) aNil)) (eDGetR (eVar 1) (eVar 4)))) (sRet (eC (.bool false))) sNx)))
    (sRet (eC (.bool true)))))
def m_law_agrees (C_Memory C_NotAllocated : Addr) : MF := dfn 4 1 false (b_law_agrees C_Memory C_NotAllocated)
theorem ar_law_agrees {C_Memory C_NotAllocated : Addr} : Ar 4 (m_law_agrees C_Memory C_NotAllocated) := ar_dfn
def b_law (C_Memory C_NotAllocated : Addr)  : MS :=
    (sSeq (sAsg (eMake C_Memory (m_Memory_init C_Memory C_NotAllocated) aNil) (gN 1))
    (sSeq (sAsg (eMake C_Memory (m_Memory_init C_Memory C_NotAllocated) aNil) (gN 2))
    (sSeq (sAsg eDNew (gN 3))
    (sSeq (sAsg eDNew (gN 4))
    (sSeq (sAsg (eLstL aNil) (gN 5))
    (sSeq (sAsg (eLstL aNil) (gN 6))
    (sSeq (sFor (iLstM (eSl false (eVar 0) pNone (pSome (eC (.int (6)))))) (gN 7) (sSeq (sAsg (eOp (oPlus false) (eC (.int (1))) (eOp oMod (eCall bInt (aCons (eVar 7) aNil)) (eC (.int (8))))) (gN 8))
    (sSeq (sAsg (eMeth C_Memory "allocate" (m_Memory_allocate C_Memory C_NotAllocated) (eVar 1) (aCons (eVar 8) aNil)) (gN 9))
    (sSeq (sDrop (eBm mAppend (eVar 5) (aCons (eVar 9) aNil)))
    (sSeq (sFor (iRng1M (aCons (eVar 8) aNil)) (gN 10) (sDPutW (eVar 3) (eOp (oPlus false) (eVar 9) (eVar 10)) (eC (.int (0)))))
    (sSeq (sAsg (eMeth C_Memory "allocate" (m_Memory_allocate C_Memory C_NotAllocated) (eVar 2) (aCons (eOp oSub (eC (.int (9))) (eVar 8)) aNil)) (gN 9))
    (sSeq (sDrop (eBm mAppend (eVar 6) (aCons (eVar 9) aNil)))
    (sFor (iRng1M (aCons (eOp oSub (eC (.int (9))) (eVar 8)) aNil)) (gN 10) (sDPutW (eVar 4) (eOp (oPlus false) (eVar 9) (eVar 10)) (eC (.int (0))))))))))))
    (sSeq (sAsg (eOp (oPlus false) (eOp (oPlus false) (eCall bLenD (aCons (eVar 3) aNil)) (eCall bLenD (aCons (eVar 4) aNil))) (eC (.int (1)))) (gN 11))
    (sSeq (sLock (lkV 3) (sAsg (eLc (iKeysM (eVar 3)) [12] (gN 12) tYesM (eVar 12) mkF) (gN 13)))
    (sSeq (sLock (lkV 4) (sAsg (eLc (iKeysM (eVar 4)) [12] (gN 12) tYesM (eVar 12) mkF) (gN 14)))
    (sSeq (sFor (iLstM (eSl false (eVar 0) pNone (pSome (eC (.int (50)))))) (gN 7) (sSeq (sIf (eB (eOp oGt (eCall bLen (aCons (eVar 13) aNil)) (eC (.int (0))))) (sSeq (sAsg (eOp oIx (eVar 13) (eOp oMod (eCall bInt (aCons (eVar 7) aNil)) (eCall bLen (aCons (eVar 13) aNil)))) (gN 12))
    (sSeq (sAsg (eOp oSub (eOp oMod (eOp oDiv (eCall bInt (aCons (eVar 7) aNil)) (eC (.int (7)))) (eC (.int (4294967296)))) (eC (.int (2147483648)))) (gN 15))
    (sSeq (sDrop (eMeth C_Memory "write" (m_Memory_write C_Memory C_NotAllocated) (eVar 1) (aCons (eVar 12) (aCons (eVar 15) aNil))))
    (sDPutW (eVar 3) (eVar 12) (eVar 15))))) sNx)
    (sIf (eAnd (eB (eOp oGt (eCall bLen (aCons (eVar 6) aNil)) (eC (.int (0))))) (eB (eOp (oEq false) (eOp oMod (eCall bInt (aCons (eVar 7) aNil)) (eC (.int (3)))) (eC (.int (0)))))) (sSeq (sAsg (eOp oIx (eVar 14) (eOp oMod (eOp oDiv (eCall bInt (aCons (eVar 7) aNil)) (eC (.int (3)))) (eCall bLen (aCons (eVar 14) aNil)))) (gN 12))
    (sSeq (sDrop (eMeth C_Memory "write" (m_Memory_write C_Memory C_NotAllocated) (eVar 2) (aCons (eVar 12) (aCons (eOp oMod (eCall bInt (aCons (eVar 7) aNil)) (eC (.int (100000)))) aNil))))
    (sDPutW (eVar 4) (eVar 12) (eOp oMod (eCall bInt (aCons (eVar 7) aNil)) (eC (.int (100000))))))) sNx)))
    (sSeq (sIf (eB (eOp oGt (eCall bLen (aCons (eVar 5) aNil)) (eC (.int (1))))) (sSeq (sDrop (eMeth C_Memory "release" (m_Memory_release C_Memory C_NotAllocated) (eVar 1) (aCons (eOp oIx (eVar 5) (eC (.int (1)))) aNil)))
    (sSeq (sAsg (eOp (oPlus false) (eC (.int (1))) (eOp oMod (eCall bInt (aCons (eOp oIx (eVar 0) (eC (.int (1)))) aNil)) (eC (.int (8))))) (gN 8))
    (sSeq (sAsg eDNew (gN 16))
    (sSeq (sLock (lkV 3) (sFor (iKeysM (eVar 3)) (gN 12) (sIf (eOr (eB (eOp oLt (eVar 12) (eOp oIx (eVar 5) (eC (.int (1)))))) (eB (eOp oGe (eVar 12) (eOp (oPlus false) (eOp oIx (eVar 5) (eC (.int (1)))) (eVar 8))))) (sDPutW (eVar 16) (eVar 12) (eDGetR (eVar 3) (eVar 12))) sNx)))
    (sSeq (sAsg (eVar 16) (gN 3))
    (sAsg (eLc (iLstM (eVar 5)) [9] (gN 9) (eB (eDIn false (eVar 9) (eVar 3))) (eVar 9) mkL) (gN 5))))))) sNx)
    (sSeq (sAsg (eMeth C_Memory "allocate" (m_Memory_allocate C_Memory C_NotAllocated) (eVar 1) (aCons (eOp (oPlus false) (eC (.int (1))) (eOp oMod (eCall bLen (aCons (eVar 0) aNil)) (eC (.int (3))))) aNil)) (gN 9))
    (sSeq (sFor (iRng1M (aCons (eOp (oPlus false) (eC (.int (1))) (eOp oMod (eCall bLen (aCons (eVar 0) aNil)) (eC (.int (3))))) aNil)) (gN 10) (sSeq (sIf (eB (eDIn false (eOp (oPlus false) (eVar 9) (eVar 10)) (eVar 3))) (sRet (eC (.bool false))) sNx)
    (sDPutW (eVar 3) (eOp (oPlus false) (eVar 9) (eVar 10)) (eC (.int (0))))))
    (sSeq (sDrop (eBm mAppend (eVar 5) (aCons (eVar 9) aNil)))
    (sRet (eAndV (eCall (m_law_agrees C_Memory C_NotAllocated) (aCons (eVar 1) (aCons (eVar 3) (aCons (eVar 5) (aCons (eVar 11) aNil))))) (eCall (m_law_agrees C_Memory C_NotAllocated) (aCons (eVar 2) (aCons (eVar 4) (aCons (eVar 6) (aCons (eVar 11) aNil))))))))))))))))))))))
def m_law (C_Memory C_NotAllocated : Addr) : MF := dfn 1 16 false (b_law C_Memory C_NotAllocated)
theorem ar_law {C_Memory C_NotAllocated : Addr} : Ar 1 (m_law C_Memory C_NotAllocated) := ar_dfn
end k31
namespace k31
open PySem L2 Pd k30
local macro_rules | `(tactic| boot_fact) => `(tactic| simp only [k_some, k_seq, k_seq_nx, k_seq_rt, k_seq_bk, k_seq_ct, k_sif, k_if_t, k_if_f, k_ret, k_ret_, k_drop, k_drop_, k_asg, k_asg_, k_st_, k_nx, k_brk, k_ct, k_for, k_for_, k_gN, k_gTup, k_gsC, k_gs_, k_gsN, k_gIx, k_gi1_, k_gi2_, k_g3_, k_g4_, k_var, k_V_, k_c, k_op, k_op1_, k_op2_, k_un, k_un_, k_eB, k_B_, k_and, k_and_t, k_and_f, k_or, k_or_t, k_or_f, k_not, k_not_, k_eT, k_T_, k_andV, k_andV_t, k_andV_f, k_orV, k_orV_t, k_orV_f, k_notV, k_notV_, k_eIf, k_eIf_t, k_eIf_f, k_aN, k_aC, k_cs1_, k_cs2_, k_call, k_call_, k_tup, k_lstF, k_lstL, k_callK, k_callKw, k_kw1_, k_kw2_, k_dfn, k_def_nx, k_def_rt, k_finF, k_finT, k_sl, k_ix1_, k_ix2_, k_ix3_, k_pN, k_pS, k_pS_, k_iT, k_iL, k_iR, k_it_T, k_it_L, k_it_Ls, k_it_Ll, k_il_, k_it_R, k_it_Rt, k_it_Rl, k_ir_, k_r1, k_r2, k_rng, k_r1_, k_r2_, k_e, k_e_, k_lc, k_lc1_, k_lc2_, k_yes, k_all, k_all1_, k_all2_, k_bm, k_bm1l, k_bml_, k_bm2_, k_app, k_app_, k_ext, k_ext_, k_pop, k_pop_, k_rev, k_rev_, k_ins, k_ins_, k_mkT, k_mkT_, k_mkF, k_mkF_, k_mkL, k_add, k_addS, k_addT, k_addL, k_addLL, k_sub, k_lt, k_le, k_gt, k_ge, k_mul, k_div, k_mod, k_pow, k_neg, k_eqI, k_eqS, k_eqB, k_eqIS, k_eqSI, k_eqT, k_isN, k_isBl, k_ixT, k_ixL, k_ixl, k_ix_, k_iW_, k_iL_, k_lenT, k_lenL, k_lenl, k_lenl_, k_tupl, k_tupl_, k_tupl0, k_lstFl, k_lstFl_, k_lstLl, k_lstLl_, k_slLl, k_slLl_, k_slFl, k_tupT, k_tupL, k_lstFT, k_lstFL, k_lstLT, k_lstLL, k_lstLs, k_abs, k_int, k_intB, k_str, k_slT, k_slLs, k_slL, k_is, k_is_iT, k_is_iB, k_is_b, k_is_s, k_isT, k_isS, k_isT_t, k_isT_i, k_isT_b, k_isT_s, k_isT_n, k_isS_s, k_isS_i, k_isS_b, k_isS_t, k_isL, k_isL_, k_isL2, k_turn_nx, k_turn_ct, k_turn_bk, k_turn_rt, k_g_, k_lg_, k_lt_t, k_lt_f, k_Y_, k_inT, k_inL, k_fld, k_fl_, k_fl2, k_fldput, k_fp1_, k_fp2_, k_fpO, k_fldaug_, k_fa2_, k_faO, k_meth, k_m_, k_mO, k_ms_, k_make, k_mk_, k_mk2_, k_dnew, k_dget, k_dg_, k_dg1_, k_dg2s, k_dg2i, k_din, k_di_, k_di1_, k_di2s, k_dput, k_dp1_, k_dp2_, k_dp3_, k_dpOs, k_dpOi, k_disp, k_ps_, k_psN, k_pC, k_pc1s, k_pc2_, k_pc3_, k_ixc, k_ixc_, k_lstRev, k_lr_, k_sum, k_max, k_ixS, k_iS_, k_iS, k_it_ST, k_it_SL, k_it_Sl, k_chain, k_ch1_, k_ch2_, k_ch3t, k_ch3f, k_ch4_, k_lenXL, k_lenXT, k_lenXl, k_lenXS, k_inC, k_ic_, k_ic_t, k_ic_f, k_bDict, k_bDict_, k_bLenD, k_bLenD_, k_isD, k_isD_, k_isD2, k_ninC, k_ni_, k_ni_t, k_ni_f, k_lcc, k_lcc_, k_l2r_, k_l2m_, k_l2t_t, k_l2t_f, k_l2_, k_isLd, k_isLd_, k_keys, k_it_K, k_ilK_, k_dgetR, k_dgR_, k_dgR1_, k_dgR2d, k_dgR2l, k_tru, k_tru_, List.getElem?_cons_zero, List.getElem?_cons_succ, List.set_cons_zero, List.set_cons_succ, List.map_cons, List.map_nil, List.replicate_succ, List.replicate_zero, List.cons_append, List.nil_append, List.length_cons, List.length_nil, dOf_c, dOf_nil, Option.map_some, Option.map_none, atI_0, atI_1, atI_2, atI_3, atI_4, atI_5, atI_6, ixN_0, ixN_1, ixN_2, ixN_3, ixN_4, ixN_5, ixN_6, Bool.not_true, Bool.not_false, Bool.or_true, Bool.true_or, Bool.or_false, Bool.false_or, Bool.and_true, Bool.true_and, Bool.and_false, Bool.false_and, if_true, if_false, Bool.false_eq_true, decide_true, decide_false, true_and, and_true, ofStr_eq, wipeE, eq_self, cutT, and_self, Bool.or_self, Bool.and_self, ite_true, ite_false, get_e0, get_e1, get_e2, set_e0, set_e1, set_e2, take_e, List.length_append, List.append_assoc, sz_l0, sz_l1, sz_l2, sz_l3, sz_l4, sz_l5, sz_l6, sz_l7, sz_l8, sz_l9, sz_l10, sz_l11, sz_l12, sz_l13, sz_k0, sz_k1, sz_k2, sz_k3, sz_k4, sz_k5, sz_k6, sz_k7, sz_k8, sz_k9, sz_k10, sz_k11, sz_k12, sz_k13, List.all_cons, List.all_nil, List.any_cons, List.any_nil, flat_s, flat_i, eqv_str, eqv_int, eqv_is, eqv_si, reduceIte, Nat.reduceAdd, Nat.reduceEqDiff, Nat.reduceLT, Int.reduceAdd, Int.reduceSub, Int.reduceLT, Int.reduceLE, Int.reduceEq, String.reduceEq, reduceCtorEq, Nat.reduceLeDiff, Nat.zero_le])
theorem k_di2i {ng : Bool} {z : Int} {S : Mem} {Q : WM → Prop} {kvs : KW} : Kdi2 ng (.d (.int z)) S Q (some (.dct kvs)) ↔ Q (.d (.bool (if ng then !(valW kvs (.inl z)).isSome else (valW kvs (.inl z)).isSome)), S) := .rfl
theorem lc_liveF {α : Type} {ρ : Env'} {S : Mem} {g : MG} {t : MT} {e : ME} {L : List W × Mem → Prop} {n : Nat} {xs : List α} (f u : α → W) (p : α → Bool) (hl : S[n]? = some (.lst (xs.map f)))
    (step : ∀ a ∈ xs, ∀ (R : W → Mem → Prop) (N : Mem → Prop), (p a = true → R (u a) S) → (p a = false → N S) → Ok (g (f a) ρ S) (Klg t e R N)) (q : L ((xs.filter p).map u, S)) : Ok (lcM (.live n) g t e (Itm.len (.live n) S) 0 ρ S) L := by
  refine lc_live (fun i us S' => S' = S ∧ us = ((xs.take i).filter p).map u) ⟨rfl, by simp⟩ hl (fun i us S' h => by rw [h.1]; exact hl) ?_ ?_
  · rintro i w us S' hw ⟨rfl, rfl⟩
    rw [List.getElem?_map] at hw
    obtain ⟨a, ha, rfl⟩ := Option.map_eq_some_iff.mp hw
    have ht : xs.take (i + 1) = xs.take i ++ [a] := by rw [List.take_add_one, ha]; rfl
    refine step a (List.mem_of_getElem? ha) _ _ (fun hp => ⟨rfl, ?_⟩) (fun hp => ⟨rfl, ?_⟩)
    · rw [ht, List.filter_append, List.map_append]
      simp [hp]
    · rw [ht, List.filter_append, List.map_append]
      simp [hp]
  · rintro us S' ⟨rfl, rfl⟩
    rw [List.length_map, List.take_length]
    exact q
theorem set_same {α : Type} {l : List α} {n : Nat} {x : α} (h : l[n]? = some x) : l.set n x = l := by
  refine List.ext_getElem? fun i => ?_
  by_cases e : n = i
  · subst e; rw [List.getElem?_set_self (List.getElem?_eq_some_iff.mp h).1]; exact h.symm
  · rw [List.getElem?_set_ne e]
def FM (n m : Nat) : FW := [("numbers", .loc n), ("rows", .loc m)]
theorem atI_at' {α : Type} {ws : List α} {i : Nat} {x : α} (h : ws[i]? = some x) : atI ws (i : Int) = some x := by
  unfold atI
  rw [ixN_ok (by omega) (by have := (List.getElem?_eq_some_iff.mp h).1; omega)]
  exact h
theorem beq_eq_decide {a b : Str} : (a == b) = decide (a = b) := by
  by_cases h : a = b
  · subst h; simp
  · rw [decide_eq_false h]; exact beq_eq_false_iff_ne.mpr h
section
variable {n m : Nat}
theorem l_numbers : List.lookup ("numbers" : Str) (FM n m) = some (.loc n) := by simp only [FM, List.lookup_cons, beq_eq_decide, ofStr_eq, String.reduceEq, decide_true, decide_false]
theorem l_rows : List.lookup ("rows" : Str) (FM n m) = some (.loc m) := by simp only [FM, List.lookup_cons, beq_eq_decide, ofStr_eq, String.reduceEq, decide_true, decide_false]
theorem l_rb : List.lookup ("require_block" : Str) (FM n m) = none := by simp only [FM, List.lookup_cons, beq_eq_decide, ofStr_eq, String.reduceEq, decide_true, decide_false]; rfl
theorem l_al : List.lookup ("allocate" : Str) (FM n m) = none := by simp only [FM, List.lookup_cons, beq_eq_decide, ofStr_eq, String.reduceEq, decide_true, decide_false]; rfl
theorem l_re : List.lookup ("release" : Str) (FM n m) = none := by simp only [FM, List.lookup_cons, beq_eq_decide, ofStr_eq, String.reduceEq, decide_true, decide_false]; rfl
theorem l_rd : List.lookup ("read" : Str) (FM n m) = none := by simp only [FM, List.lookup_cons, beq_eq_decide, ofStr_eq, String.reduceEq, decide_true, decide_false]; rfl
theorem l_wr : List.lookup ("write" : Str) (FM n m) = none := by simp only [FM, List.lookup_cons, beq_eq_decide, ofStr_eq, String.reduceEq, decide_true, decide_false]; rfl
end
abbrev rowsO (bs : List Bk) : Ob := .lst ((bs.map blkD).map W.d)
/-- a memory at its places -/
structure Mo (C : Addr) (S : Mem) (o n m : Nat) (kvs : KW) (bs : List Bk) : Prop where
  ho : S[o]? = some (.ins C (FM n m))
  hn : S[n]? = some (.dct kvs)
  hm : S[m]? = some (rowsO bs)
section
variable {C N : Addr} {S : Mem} {o n m : Nat} {kvs : KW} {bs : List Bk}
theorem Mo.ne {C : Addr} {S : Mem} {o n m : Nat} {kvs : KW} {bs : List Bk} (h : Mo C S o n m kvs bs) : o ≠ n ∧ o ≠ m ∧ n ≠ m := by
  obtain ⟨h1, h2, h3⟩ := h
  refine ⟨?_, ?_, ?_⟩ <;> rintro rfl
  · rw [h1] at h2; cases h2
  · rw [h1] at h3; cases h3
  · rw [h2] at h3; cases h3
theorem Mo.setN (h : Mo C S o n m kvs bs) (kvs' : KW) : Mo C (S.set n (.dct kvs')) o n m kvs' bs := by
  obtain ⟨a, b, c⟩ := h.ne
  exact ⟨by rw [List.getElem?_set_ne (Ne.symm a)]; exact h.ho, List.getElem?_set_self (List.getElem?_eq_some_iff.mp h.hn).1, by rw [List.getElem?_set_ne c]; exact h.hm⟩
theorem Mo.setM (h : Mo C S o n m kvs bs) (bs' : List Bk) : Mo C (S.set m (rowsO bs')) o n m kvs bs' := by
  obtain ⟨a, b, c⟩ := h.ne
  exact ⟨by rw [List.getElem?_set_ne (Ne.symm b)]; exact h.ho, by rw [List.getElem?_set_ne (Ne.symm c)]; exact h.hn, List.getElem?_set_self (List.getElem?_eq_some_iff.mp h.hm).1⟩
/-- what else is set leaves it -/
theorem Mo.setO (h : Mo C S o n m kvs bs) {k : Nat} (x : Ob) (h1 : k ≠ o) (h2 : k ≠ n) (h3 : k ≠ m) : Mo C (S.set k x) o n m kvs bs :=
  ⟨by rw [List.getElem?_set_ne h1]; exact h.ho, by rw [List.getElem?_set_ne h2]; exact h.hn, by rw [List.getElem?_set_ne h3]; exact h.hm⟩
theorem Mo.app (h : Mo C S o n m kvs bs) (r : Mem) : Mo C (S ++ r) o n m kvs bs :=
  ⟨by rw [List.getElem?_append_left (List.getElem?_eq_some_iff.mp h.ho).1]; exact h.ho, by rw [List.getElem?_append_left (List.getElem?_eq_some_iff.mp h.hn).1]; exact h.hn, by rw [List.getElem?_append_left (List.getElem?_eq_some_iff.mp h.hm).1]; exact h.hm⟩
theorem read_ok (h : Mo C S o n m kvs bs) {c : Int} {w : W} (hv : valW kvs (.inl c) = some w) : Ok (m_Memory_read C N [.loc o, .d (.int c)] S) fun p => p = (w, S) := by
  unfold m_Memory_read b_Memory_read m_Memory_require_block b_Memory_require_block
  repeat (first | simp only [h.ho, h.hn, l_numbers, l_rb, hv, k_di2i, Option.isSome_some] | boot_fact)
theorem write_ok (h : Mo C S o n m kvs bs) {c v : Int} {w : W} (hv : valW kvs (.inl c) = some w) (hl : kvs.length < 5000) : Ok (m_Memory_write C N [.loc o, .d (.int c), .d (.int v)] S) fun p => p = (.d .none, S.set n (.dct (putD kvs (.inl c) (.d (.int v))))) := by
  unfold m_Memory_write b_Memory_write m_Memory_require_block b_Memory_require_block
  repeat (first | simp only [h.ho, h.hn, l_numbers, l_rb, hv, k_di2i, Option.isSome_some] | boot_fact)
  exact sz_lt (by omega)
theorem allocate_ok (h : Mo C S o n m kvs bs) {size : Int} (hso : So 1 bs) (h0 : 0 < size) (h90 : size ≤ 90) (hbl : bs.length ≤ 40) (hend : ∀ b ∈ bs, b.1 + b.2 ≤ 4001) (hkl : kvs.length ≤ 4000) :
    Ok (m_Memory_allocate C N [.loc o, .d (.int size)] S) fun p => ∃ kvs', p = (.d (.int (low size 1 bs).2), (S.set m (rowsO (ins size 1 bs))).set n (.dct kvs')) ∧ (∀ c : Int, valW kvs' (.inl c) = if (low size 1 bs).2 ≤ c ∧ c < (low size 1 bs).2 + size then some (.d (.int 0)) else valW kvs (.inl c)) ∧ kvs'.length ≤ kvs.length + size.toNat := by
  unfold m_Memory_allocate b_Memory_allocate
  boot_fact
  refine Ok.mono (Q := fun q => ∃ (k : Nat) (a : Int) (x4 : Option W), q = (.nx, [some (.loc o), some (.d (.int size)), some (.d (.int a)), some (.d (.int (k : Int))), x4], S) ∧ low size 1 bs = (k, a)) ?_ ?_
  · refine while_ok (fun n ρ S' => S = S' ∧ ∃ (pre rest : List Bk) (a : Int) (x4 : Option W), bs = pre ++ rest ∧ rest.length = n ∧ So a rest ∧ low size 1 bs = (pre.length + (low size a rest).1, (low size a rest).2) ∧ ρ = [some (.loc o), some (.d (.int size)), some (.d (.int a)), some (.d (.int (pre.length : Int))), x4]) ?_ bs.length 100 _ _ (by omega) ⟨rfl, [], bs, 1, none, rfl, rfl, hso, by simp, rfl⟩
    rintro k ρ _ ⟨rfl, pre, rest, a, x4, hbs, hn, hsr, hlow, rfl⟩
    have hbl2 : ((bs.map blkD).map W.d).length = bs.length := by rw [List.length_map, List.length_map]
    cases rest with
    | nil =>
      have hpl : bs.length = pre.length := by rw [hbs, List.append_nil]
      refine ⟨false, ?_, (fun h => by cases h), fun _ => ⟨_, _, _, rfl, hlow⟩⟩
      repeat (first | simp only [h.ho, h.hm, l_rows] | boot_fact)
      rw [hbl2, decide_eq_false (by omega)]
      boot_fact
    | cons g rest =>
      have hpl : bs.length = pre.length + (rest.length + 1) := by rw [hbs, List.length_append, List.length_cons]
      obtain ⟨s1, s2, s3⟩ := hsr
      have hat : atI ((bs.map blkD).map W.d) (pre.length : Int) = some (.d (.tuple [.int g.1, .int g.2])) := atI_at' (by
        rw [List.getElem?_map, List.getElem?_map, hbs, List.getElem?_append_right (Nat.le_refl _), Nat.sub_self]; rfl)
      have test : ∀ {c : Bool}, c = decide (g.1 - a < size) → Ok ((eAnd (eB (eOp oLt (eVar 3) (eCall bLen (aCons (eFld (C) (eVar 0) "rows") aNil)))) (eB (eOp oLt (eOp oSub (eOp oIx (eOp oIx (eFld (C) (eVar 0) "rows") (eVar 3)) (eC (.int (0)))) (eVar 2)) (eVar 1)))) [some (.loc o), some (.d (.int size)), some (.d (.int a)), some (.d (.int (pre.length : Int))), x4] S) (fun p => p = (c, S)) := by
        rintro _ rfl
        repeat (first | simp only [h.ho, h.hm, l_rows] | boot_fact)
        rw [hbl2, decide_eq_true (show (pre.length : Int) < (bs.length : Int) by omega)]
        repeat (first | simp only [h.ho, h.hm, l_rows, hat] | boot_fact)
      by_cases hg : g.1 - a < size
      · rw [low, if_pos hg] at hlow
        refine ⟨true, test (decide_eq_true hg).symm, fun _ => ⟨rest.length, by rw [← hn]; rfl, ?_⟩, (fun h => by cases h)⟩
        repeat (first | simp only [h.ho, h.hm, l_rows, hat] | boot_fact)
        refine aug_ok (x := (pre.length : Int)) (y := 1) rfl ?_
        boot_fact
        refine ⟨pre ++ [g], rest, g.1 + g.2, x4, by rw [hbs, List.append_assoc]; rfl, rfl, s3, ?_, ?_⟩
        · rw [hlow, List.length_append, List.length_singleton]
          show (pre.length + ((low size (g.1 + g.2) rest).1 + 1), _) = _
          rw [show pre.length + ((low size (g.1 + g.2) rest).1 + 1) = pre.length + 1 + (low size (g.1 + g.2) rest).1 by omega]
        · rw [List.length_append, List.length_singleton]
          rfl
      · rw [low, if_neg hg] at hlow
        exact ⟨false, test (decide_eq_false hg).symm, (fun h => by cases h), fun _ => ⟨_, _, _, rfl, hlow⟩⟩
  rintro _ ⟨k, a, x4, rfl, hlow⟩
  have hk : k ≤ bs.length := by have := low_len size (lo := 1) (bs := bs); rw [hlow] at this; exact this
  have ha1 : 1 ≤ a := by have := low_ge size hso; rw [hlow] at this; exact this
  have ha2 : a ≤ 4001 := by have := low_end (size := size) hend (by omega : (1 : Int) ≤ 4001); rw [hlow] at this; exact this
  have hins : ((bs.map blkD).map W.d).take k ++ [W.d (.tuple [.int a, .int size])] ++ ((bs.map blkD).map W.d).drop k = ((ins size 1 bs).map blkD).map W.d := by
    unfold ins
    rw [hlow]
    simp only [List.map_append, List.map_take, List.map_drop, List.map_cons, List.map_nil]
    rfl
  repeat (first | simp only [h.ho, h.hm, l_rows] | boot_fact)
  rw [Int.toNat_natCast, List.append_assoc, List.singleton_append] at *
  refine ⟨⟨sz_lt (by rw [List.length_map, List.length_map]; omega), by omega, by omega⟩, ⟨by omega, by omega, by omega, by omega⟩, ?_⟩
  rw [hins]
  have h1 := h.setM (ins size 1 bs)
  generalize S.set m (rowsO (ins size 1 bs)) = S1 at h1 ⊢
  refine for_vals (fun j ρ S => ∃ (kvs' : KW) (x4 : Option W), ρ = [some (.loc o), some (.d (.int size)), some (.d (.int a)), some (.d (.int (k : Int))), x4] ∧ S = S1.set n (.dct kvs') ∧ (∀ c : Int, valW kvs' (.inl c) = if a ≤ c ∧ c < a + j then some (.d (.int 0)) else valW kvs (.inl c)) ∧ kvs'.length ≤ kvs.length + j) ⟨kvs, x4, rfl, (set_same h1.hn).symm, fun c => by rw [if_neg (by omega)], by omega⟩ ?_ ?_
  · rintro j w ρ S' hw ⟨kvs', x4, rfl, rfl, hv, hl⟩
    obtain ⟨rfl, hj⟩ := rng_get hw
    have h2 := h1.setN kvs'
    repeat (first | simp only [h2.ho, h2.hn, l_numbers, List.set_set] | boot_fact)
    refine ⟨sz_lt (by omega), putD kvs' (.inl (a + (j : Int))) (.d (.int 0)), _, rfl, rfl, fun c => ?_, ?_⟩
    · rw [valW_put]
      by_cases hc : c = a + (j : Int)
      · subst hc
        rw [if_pos rfl, if_pos (by omega)]
      · rw [if_neg (fun z => hc (Sum.inl.inj z)), hv]
        by_cases h : a ≤ c ∧ c < a + (j : Int)
        · rw [if_pos h, if_pos (by omega)]
        · rw [if_neg h, if_neg (by omega)]
    · have := put_len (kvs := kvs') (k := .inl (a + (j : Int))) (w := .d (.int 0))
      omega
  · rintro ρ S' ⟨kvs', x4, rfl, rfl, hv, hl⟩
    rw [rng_len] at hv hl
    boot_fact
    refine ⟨kvs', ?_, fun c => ?_, by omega⟩
    · rw [hlow]
    · rw [hlow, hv, show a + ((a + size - a).toNat : Int) = a + size by omega]
theorem found_none {c : Int} : ∀ {bs : List Bk}, (∀ b ∈ bs, b.1 ≠ c) → bs.filter (fun b => decide (b.1 = c)) = []
  | bs, h => List.filter_eq_nil_iff.mpr fun b hb hc => h b hb (of_decide_eq_true hc)
theorem erase_map {α β : Type} (f : α → β) : ∀ (l : List α) (j : Nat), (l.map f).eraseIdx j = (l.eraseIdx j).map f
  | [], _ => rfl
  | _ :: _, 0 => rfl
  | x :: l, j + 1 => by rw [List.map_cons, List.eraseIdx_cons_succ, erase_map f l j]; rfl
theorem remove_eq (h : Mo C S o n m kvs bs) {g : Bk} (hso : So 1 bs) (hg : g ∈ bs) : mRemove (.loc m) [W.d (.tuple [.int g.1, .int g.2])] S = some (.d .none, S.set m (rowsO (rem g bs))) := by
  obtain ⟨j, e1, e2⟩ := idx_rem hso hg
  have hI : intsD (.tuple [.int g.1, .int g.2]) = some [g.1, g.2] := rfl
  unfold mRemove
  simp only [lstAt, h.hm, Option.bind_some, dOf_map, map_ints, hI, e1, erase_map, e2]
theorem release_ok (h : Mo C S o n m kvs bs) {g : Bk} (hso : So 1 bs) (hg : g ∈ bs) (hbl : bs.length ≤ 40) (hg1 : 1 ≤ g.1) (hge : g.1 + g.2 ≤ 4001) (hg2 : 0 < g.2) (hin : ∀ c : Int, Ib bs c → (valW kvs (.inl c)).isSome = true) :
    Ok (m_Memory_release C N [.loc o, .d (.int g.1)] S) fun p => ∃ kvs', p = (.d .none, (S.set m (rowsO (rem g bs))).set n (.dct kvs')) ∧ (∀ c : Int, valW kvs' (.inl c) = if g.1 ≤ c ∧ c < g.1 + g.2 then none else valW kvs (.inl c)) ∧ kvs'.length ≤ kvs.length := by
  unfold m_Memory_release b_Memory_release
  repeat (first | simp only [h.ho, h.hm, l_rows] | boot_fact)
  refine lc_liveF (xs := bs) (fun b => W.d (blkD b)) (fun b => W.d (blkD b)) (fun b => decide (b.1 = g.1)) (by rw [show (fun b => W.d (blkD b)) = W.d ∘ blkD from rfl, ← List.map_map]; exact h.hm) (fun b hb R N h1 h2 => ?_) ?_
  · unfold blkD at h1 ⊢
    boot_fact
    cases hd : decide (b.1 = g.1) with
    | true => boot_fact; exact h1 hd
    | false => boot_fact; exact h2 hd
  rw [found hso hg, List.map_singleton]
  unfold blkD
  repeat (first | simp only [h.ho, h.hm, l_rows] | boot_fact)
  simp only [List.isEmpty_cons]
  repeat (first | simp only [h.ho, h.hm, l_rows] | boot_fact)
  refine ⟨_, remove_eq h hso hg, ?_⟩
  have h1 := h.setM (rem g bs)
  generalize S.set m (rowsO (rem g bs)) = S1 at h1 ⊢
  repeat (first | simp only [h1.ho, h1.hm, l_rows] | boot_fact)
  refine ⟨by omega, ?_⟩
  refine for_vals (fun j ρ S => ∃ (kvs' : KW) (x3 x4 : Option W), ρ = [some (.loc o), some (.d (.int g.1)), some (W.d (PyData.list [PyData.tuple [PyData.int g.1, PyData.int g.2]])), x3, x4] ∧ S = S1.set n (.dct kvs') ∧ (∀ c : Int, valW kvs' (.inl c) = if g.1 ≤ c ∧ c < g.1 + j then none else valW kvs (.inl c)) ∧ kvs'.length ≤ kvs.length) ⟨kvs, none, none, rfl, (set_same h1.hn).symm, fun c => by rw [if_neg (by omega)], Nat.le_refl _⟩ ?_ ?_
  · rintro j w ρ S' hw ⟨kvs', x3, x4, rfl, rfl, hv, hl⟩
    obtain ⟨rfl, hj⟩ := rng_get hw
    have h2 := h1.setN kvs'
    boot_fact
    refine del_ok (n := n) (kvs := kvs') (k := g.1 + (j : Int)) ?_ ?_ h2.hn ?_ ?_
    · repeat (first | simp only [h2.ho, h2.hn, l_numbers] | boot_fact)
    · boot_fact
    · rw [hv, if_neg (by omega)]
      exact hin _ ⟨g, hg, by omega, by omega⟩
    · refine ⟨delD kvs' (.inl (g.1 + (j : Int))), _, _, rfl, by rw [List.set_set], fun c => ?_, Nat.le_trans del_len hl⟩
      rw [valW_del]
      by_cases hc : c = g.1 + (j : Int)
      · subst hc
        rw [if_pos rfl, if_pos (by omega)]
      · rw [if_neg (fun z => hc (Sum.inl.inj z)), hv]
        by_cases h : g.1 ≤ c ∧ c < g.1 + (j : Int)
        · rw [if_pos h, if_pos (by omega)]
        · rw [if_neg h, if_neg (by omega)]
  · rintro ρ S' ⟨kvs', x3, x4, rfl, rfl, hv, hl⟩
    rw [rng_len] at hv
    boot_fact
    refine ⟨kvs', rfl, fun c => ?_, hl⟩
    rw [hv, show g.1 + ((g.1 + g.2 - g.1).toNat : Int) = g.1 + g.2 by omega]
/-! ### what raises -/
theorem dfnx_exc {n k : Nat} {body : MSx} {ws : List W} {S S' : Mem} {x : Ex} {ρ : Env'} (hl : ws.length = n) (hb : body (ws.map some ++ List.replicate k none) S = some (.exc x ρ S')) : dfnx n k false body ws S = some (.exc x S') := by
  unfold dfnx
  rw [if_pos hl, hb]
  rfl
theorem dfn_rt {n k : Nat} {body : MS} {ws : List W} {S S' : Mem} {w : W} {ρ : Env'} (hl : ws.length = n) (hb : body (ws.map some ++ List.replicate k none) S = some (.rt w, ρ, S')) : dfn n k false body ws S = some (w, S') := by
  unfold dfn
  rw [if_pos hl, hb]
  rfl
def exN (N : Addr) (c : Int) : Ex := ⟨N, some [("address", .d (.int c))]⟩
theorem methX_eq {C : Addr} {m : Str} {f : MFx} {o : ME} {a : MA} {ρ : Env'} {S : Mem} {w : W} {k : Nat} {fs : FW} {ws : List W} (h1 : o ρ S = some (w, S)) (h2 : insAt w S = some (k, C, fs)) (h3 : fs.lookup m = none) (h4 : a ρ S = some (ws, S)) : eMethX C m f o a ρ S = f (w :: ws) S := by
  unfold eMethX
  simp only [h1, h2, h3, h4, Option.bind_some, and_self, if_true]
theorem insAt_mo (h : Mo C S o n m kvs bs) : insAt (.loc o) S = some (o, C, FM n m) := by
  unfold insAt
  simp only [h.ho]
theorem x_require (h : Mo C S o n m kvs bs) {c : Int} (hv : valW kvs (.inl c) = none) : mx_Memory_require_block C N [.loc o, .d (.int c)] S = some (.exc (exN N c) S) := by
  obtain ⟨_, e, rfl⟩ : Ok (eB (eDIn true (eVar 1) (eFld C (eVar 0) "numbers")) [some (.loc o), some (.d (.int c))] S) (fun p => p = (true, S)) := by
    repeat (first | simp only [h.ho, h.hn, l_numbers, hv, k_di2i, Option.isSome_none] | boot_fact)
  refine dfnx_exc (ρ := [some (.loc o), some (.d (.int c))]) rfl ?_
  unfold bx_Memory_require_block sIfX
  simp only [List.map_cons, List.map_nil, List.replicate_zero, List.append_nil, e, Option.bind_some, if_true]
  rfl
theorem x_read (h : Mo C S o n m kvs bs) {c : Int} (hv : valW kvs (.inl c) = none) : mx_Memory_read C N [.loc o, .d (.int c)] S = some (.exc (exN N c) S) := by
  refine dfnx_exc (ρ := [some (.loc o), some (.d (.int c))]) rfl ?_
  unfold bx_Memory_read sSeqX sDropX
  simp only [List.map_cons, List.map_nil, List.replicate_zero, List.append_nil]
  rw [methX_eq (w := .loc o) (ws := [.d (.int c)]) rfl (insAt_mo h) l_rb rfl, x_require h hv]
  rfl
theorem x_write (h : Mo C S o n m kvs bs) {c v : Int} (hv : valW kvs (.inl c) = none) : mx_Memory_write C N [.loc o, .d (.int c), .d (.int v)] S = some (.exc (exN N c) S) := by
  refine dfnx_exc (ρ := [some (.loc o), some (.d (.int c)), some (.d (.int v))]) rfl ?_
  unfold bx_Memory_write sSeqX sDropX
  simp only [List.map_cons, List.map_nil, List.replicate_zero, List.append_nil]
  rw [methX_eq (w := .loc o) (ws := [.d (.int c)]) rfl (insAt_mo h) l_rb rfl, x_require h hv]
  rfl
theorem x_release (h : Mo C S o n m kvs bs) {c : Int} (hv : ∀ b ∈ bs, b.1 ≠ c) : mx_Memory_release C N [.loc o, .d (.int c)] S = some (.exc (exN N c) S) := by
  obtain ⟨_, e, rfl⟩ : Ok ((sAsg (eLc (iLstM (eFld (C) (eVar 0) "rows")) [4] (gN 4) (eB (eOp (oEq false) (eOp oIx (eVar 4) (eC (.int (0)))) (eVar 1))) (eVar 4) mkF) (gN 2)) [some (.loc o), some (.d (.int c)), none, none, none] S) (fun p => p = (.nx, [some (.loc o), some (.d (.int c)), some (.d (.list [])), none, none], S)) := by
    repeat (first | simp only [h.ho, h.hm, l_rows] | boot_fact)
    refine lc_liveF (xs := bs) (fun b => W.d (blkD b)) (fun b => W.d (blkD b)) (fun b => decide (b.1 = c)) (by rw [show (fun b => W.d (blkD b)) = W.d ∘ blkD from rfl, ← List.map_map]; exact h.hm) (fun b hb R N h1 h2 => ?_) ?_
    · unfold blkD at h1 ⊢
      boot_fact
      cases hd : decide (b.1 = c) with
      | true => boot_fact; exact h1 hd
      | false => boot_fact; exact h2 hd
    rw [found_none hv]
    boot_fact
  refine dfnx_exc (ρ := [some (.loc o), some (.d (.int c)), some (.d (.list [])), none, none]) rfl ?_
  unfold bx_Memory_release sSeqX liftS
  simp only [List.map_cons, List.map_nil, List.replicate_succ, List.replicate_zero, List.cons_append, List.nil_append, e, Option.map_some, Option.bind_some]
  rfl
theorem raises_ok (h : Mo C S o n m kvs bs) {c k : Int} (hk : (k = 0 ∨ k = 1) ∧ valW kvs (.inl c) = none ∨ k = 2 ∧ ∀ b ∈ bs, b.1 ≠ c) : Ok (m_law_raises C N [.loc o, .d (.int k), .d (.int c)] S) fun p => p = (.d (.bool true), S) := by
  have hx : exI "address" (exN N c) = some c := by simp [exI, exN, List.lookup]
  have hh : ∀ ρ : Env', ρ[2]? = some (some (.d (.int c))) → h_law_raises C N (exN N c) ρ S = some (.rt (.d (.bool true)), ρ, S) := fun ρ hρ => by
    unfold h_law_raises
    rw [if_pos (show (exN N c).C = N from rfl)]
    unfold sRet eVar
    simp only [hx, hρ, Option.bind_some, decide_true]
  refine ⟨_, dfn_rt (ρ := [some (.loc o), some (.d (.int k)), some (.d (.int c)), none]) rfl ?_, rfl⟩
  have step : ∀ (b : MSx), b [some (.loc o), some (.d (.int k)), some (.d (.int c)), none] S = some (.exc (exN N c) [some (.loc o), some (.d (.int k)), some (.d (.int c)), none] S) → sSeq (sTryX b (h_law_raises C N) 3) (sRet (eC (.bool false))) [some (.loc o), some (.d (.int k)), some (.d (.int c)), none] S = some (.rt (.d (.bool true)), [some (.loc o), some (.d (.int k)), some (.d (.int c)), none], S) := fun b hb => by
    unfold sSeq sTryX
    rw [hb]
    simp only [Option.bind_some]
    rw [if_pos (show 3 < [some (W.loc o), some (W.d (.int k)), some (W.d (.int c)), none].length from (show 3 < 4 by decide)), hh _ rfl]
    rfl
  refine step _ ?_
  rcases hk with ⟨rfl | rfl, hv⟩ | ⟨rfl, hv⟩
  · show (sDropX _ _ _) = _
    unfold sDropX
    rw [methX_eq (w := .loc o) (ws := [.d (.int c)]) rfl (insAt_mo h) l_rd rfl, x_read h hv]
    rfl
  · show (sDropX _ _ _) = _
    unfold sDropX
    rw [methX_eq (w := .loc o) (ws := [.d (.int c), .d (.int 7)]) rfl (insAt_mo h) l_wr rfl, x_write h hv]
    rfl
  · show (sDropX _ _ _) = _
    unfold sDropX
    rw [methX_eq (w := .loc o) (ws := [.d (.int c)]) rfl (insAt_mo h) l_re rfl, x_release h hv]
    rfl
theorem in_live {ng : Bool} {c : Int} {sts : List Int} {t : Nat} {S : Mem} {Q : WM → Prop} (ht : S[t]? = some (.lst ((sts.map PyData.int).map W.d))) (q : Q (.d (.bool (if ng = true then !decide (c ∈ sts) else decide (c ∈ sts))), S)) : Ok (oIn ng (.d (.int c)) (.loc t) S) Q := by
  have e : (sts.map PyData.int).any (fun y => PyData.eqv y (.int c)) = decide (c ∈ sts) := by
    rw [Bool.eq_iff_iff, List.any_eq_true, decide_eq_true_iff]
    constructor
    · rintro ⟨y, hy, h⟩
      obtain ⟨z, hz, rfl⟩ := List.mem_map.mp hy
      rw [eqv_int] at h
      rwa [of_decide_eq_true h] at hz
    · exact fun h => ⟨.int c, List.mem_map.mpr ⟨c, h, rfl⟩, by rw [eqv_int]; exact decide_eq_true rfl⟩
  refine ⟨_, ?_, q⟩
  unfold oIn items
  simp only [ht, Option.bind_some, dOf_map]
  rw [if_pos, e]
  rw [Bool.and_eq_true]
  exact ⟨rfl, List.all_eq_true.mpr fun y hy => by obtain ⟨z, _, rfl⟩ := List.mem_map.mp hy; rfl⟩
theorem dgetR_int {S : Mem} {n : Nat} {kvs : KW} {z : Int} {w : W} {Q : WM → Prop} (h : S[n]? = some (.dct kvs) ∨ S[n]? = some (.ldct kvs)) (hv : valW kvs (.inl z) = some w) (q : Q (w, S)) : KdgR1 (.loc n) Q (.d (.int z), S) := by
  unfold KdgR1 dctAtR
  refine ⟨_, ?_, q⟩
  rcases h with h | h <;> simp only [h, Option.bind_some, keyW, hv, Option.map_some]
theorem agrees_ok (h : Mo C S o n m kvs bs) {d t : Nat} {due : KW} {sts : List Int} {top : Int} (hd : S[d]? = some (.dct due)) (hdn : d ≠ n) (ht : S[t]? = some (.lst ((sts.map PyData.int).map W.d))) (heq : ∀ c : Int, valW kvs (.inl c) = valW due (.inl c)) (hst : ∀ c : Int, c ∈ sts ↔ ∃ b ∈ bs, b.1 = c)
    (hk : ∀ p ∈ due, ∃ k, p.1 = .inl k) (hvi : ∀ (c : Int) w, valW due (.inl c) = some w → ∃ i, w = .d (.int i)) (h0 : 0 ≤ top) (h1 : top ≤ 5000) : Ok (m_law_agrees C N [.loc o, .loc d, .loc t, .d (.int top)] S) fun p => p = (.d (.bool true), S) := by
  unfold m_law_agrees b_law_agrees
  boot_fact
  refine ⟨by omega, ?_⟩
  refine for_vals (fun j ρ S' => S = S' ∧ ∃ x4, ρ = [some (.loc o), some (.loc d), some (.loc t), some (.d (.int top)), x4]) ⟨rfl, _, rfl⟩ ?_ ?_
  · rintro j w ρ _ hw ⟨rfl, x4, rfl⟩
    obtain ⟨rfl, hj⟩ := rng_get hw
    repeat (first | simp only [hd, k_di2i] | boot_fact)
    generalize (-3 + (j : Int)) = c
    cases hv : valW due (.inl c) with
    | some w =>
      obtain ⟨i, rfl⟩ := hvi c w hv
      simp only [Option.isSome_some]
      repeat (first | simp only [h.ho, l_rd] | boot_fact)
      refine (read_ok h ((heq c).trans hv)).mono ?_
      rintro _ rfl
      boot_fact
      refine dgetR_int (.inl hd) hv ?_
      boot_fact
      refine in_live ht ?_
      by_cases hm : c ∈ sts
      · rw [decide_eq_true hm]
        boot_fact
        first | exact ⟨rfl, _, rfl⟩ | exact ⟨_, rfl⟩
      · rw [decide_eq_false hm]
        boot_fact
        refine (raises_ok h (.inr ⟨rfl, fun b hb e => hm ((hst c).mpr ⟨b, hb, e⟩)⟩)).mono ?_
        rintro _ rfl
        boot_fact
        first | exact ⟨rfl, _, rfl⟩ | exact ⟨_, rfl⟩
    | none =>
      simp only [Option.isSome_none]
      boot_fact
      refine (raises_ok h (.inl ⟨.inl rfl, (heq c).trans hv⟩)).mono ?_
      rintro _ rfl
      boot_fact
      refine (raises_ok h (.inl ⟨.inr rfl, (heq c).trans hv⟩)).mono ?_
      rintro _ rfl
      boot_fact
      refine in_live ht ?_
      by_cases hm : c ∈ sts
      · rw [decide_eq_true hm]
        boot_fact
        first | exact ⟨rfl, _, rfl⟩ | exact ⟨_, rfl⟩
      · rw [decide_eq_false hm]
        boot_fact
        refine (raises_ok h (.inr ⟨rfl, fun b hb e => hm ((hst c).mpr ⟨b, hb, e⟩)⟩)).mono ?_
        rintro _ rfl
        boot_fact
        first | exact ⟨rfl, _, rfl⟩ | exact ⟨_, rfl⟩
  · rintro ρ _ ⟨rfl, x4, rfl⟩
    have hdo : d ≠ o := by rintro rfl; rw [h.ho] at hd; cases hd
    have hdm : d ≠ m := by rintro rfl; rw [h.hm] at hd; cases hd
    have hL : (S.set d (.ldct due))[d]? = some (.ldct due) := List.getElem?_set_self (List.getElem?_eq_some_iff.mp hd).1
    have hM := h.setO (.ldct due) hdo hdn hdm
    boot_fact
    refine lock_ok (n := d) (kvs := due) rfl hd ?_
    generalize S.set d (.ldct due) = S1 at hL hM ⊢
    repeat (first | simp only [hL] | boot_fact)
    refine for_vals (fun j ρ S' => S1 = S' ∧ ∃ x4, ρ = [some (.loc o), some (.loc d), some (.loc t), some (.d (.int top)), x4]) ⟨rfl, _, rfl⟩ ?_ ?_
    · rintro j w ρ _ hw ⟨rfl, x4, rfl⟩
      rw [List.getElem?_map, List.getElem?_map] at hw
      obtain ⟨_, hw1, rfl⟩ := Option.map_eq_some_iff.mp hw
      obtain ⟨p, hp, rfl⟩ := Option.map_eq_some_iff.mp hw1
      have hp := List.mem_of_getElem? hp
      obtain ⟨c, hc⟩ := hk p hp
      obtain ⟨w, hv⟩ : ∃ w, valW due (.inl c) = some w := by
        unfold valW
        cases hf : due.find? fun kv => decide (kv.1 = .inl c) with
        | some q => exact ⟨_, rfl⟩
        | none => exact absurd (decide_eq_true hc) (by simpa using List.find?_eq_none.mp hf p hp)
      obtain ⟨i, rfl⟩ := hvi c w hv
      rw [hc]
      simp only [keyD]
      repeat (first | simp only [hM.ho, l_rd] | boot_fact)
      refine (read_ok hM ((heq c).trans hv)).mono ?_
      rintro _ rfl
      boot_fact
      refine dgetR_int (.inr hL) hv ?_
      boot_fact
      first | exact ⟨rfl, _, rfl⟩ | exact ⟨_, rfl⟩
    · rintro ρ _ ⟨rfl, x4, rfl⟩
      refine ⟨_, _, rfl, ?_⟩
      boot_fact
theorem low_fresh {size : Int} (hs : 0 < size) : ∀ {lo : Int} {bs : List Bk}, So lo bs → ∀ b ∈ bs, b.1 + b.2 ≤ (low size lo bs).2 ∨ (low size lo bs).2 + size ≤ b.1
  | lo, c :: r, ⟨h1, h2, h3⟩, b, hb => by
    rw [low]
    split
    · rcases List.mem_cons.mp hb with rfl | hb
      · exact .inl (low_ge size h3)
      · exact low_fresh hs h3 b hb
    · rename_i hn
      refine .inr ?_
      rcases List.mem_cons.mp hb with rfl | hb
      · show lo + size ≤ b.1; omega
      · have := (So.ge h3 b hb).1; show lo + size ≤ b.1; omega
theorem put_len' {kvs : KW} {k : Key} {w : W} (h : (valW kvs k).isSome = true) : (putD kvs k w).length = kvs.length := by
  unfold putD
  split
  · rw [List.length_map]
  · rename_i hn
    unfold valW at h
    rw [Option.isSome_map] at h
    obtain ⟨p, hp⟩ := Option.isSome_iff_exists.mp h
    exact absurd (List.any_eq_true.mpr ⟨p, List.mem_of_find?_eq_some hp, List.find?_some hp⟩) hn
/-- a memory and what the law keeps of it -/
structure Sm (kvs due : KW) (bs : List Bk) (sts : List Int) (i : Nat) : Prop where
  so : So 1 bs
  len : bs.length ≤ i
  en : ∀ b ∈ bs, b.1 + b.2 ≤ 1 + 9 * (i : Int)
  kl : kvs.length ≤ 9 * i
  dl : due.length ≤ 9 * i
  cells : ∀ c : Int, (valW kvs (.inl c)).isSome = true ↔ Ib bs c
  eq : ∀ c : Int, valW kvs (.inl c) = valW due (.inl c)
  keys : ∀ p ∈ due, ∃ k, p.1 = .inl k
  nums : ∀ (c : Int) w, valW due (.inl c) = some w → ∃ i, w = .d (.int i)
  sts : ∀ c : Int, c ∈ sts ↔ ∃ b ∈ bs, b.1 = c
theorem put_keys {due : KW} (h : ∀ p ∈ due, ∃ k, p.1 = .inl k) (c : Int) (w : W) : ∀ p ∈ putD due (.inl c) w, ∃ k, p.1 = .inl k := by
  intro p hp
  unfold putD at hp
  split at hp
  · obtain ⟨q, hq, rfl⟩ := List.mem_map.mp hp
    split
    · exact h q hq
    · exact h q hq
  · rcases List.mem_append.mp hp with hp | hp
    · exact h p hp
    · rw [List.mem_singleton.mp hp]; exact ⟨c, rfl⟩
theorem Sm.alloc {kvs kvs' due due' : KW} {bs : List Bk} {sts : List Int} {i : Nat} {size : Int} (H : Sm kvs due bs sts i) (h0 : 0 < size) (h9 : size ≤ 9)
    (hv : ∀ c : Int, valW kvs' (.inl c) = if (low size 1 bs).2 ≤ c ∧ c < (low size 1 bs).2 + size then some (.d (.int 0)) else valW kvs (.inl c)) (hl : kvs'.length ≤ kvs.length + size.toNat)
    (hv2 : ∀ c : Int, valW due' (.inl c) = if (low size 1 bs).2 ≤ c ∧ c < (low size 1 bs).2 + size then some (.d (.int 0)) else valW due (.inl c)) (hl2 : due'.length ≤ due.length + size.toNat) (hk : ∀ p ∈ due', ∃ k, p.1 = .inl k) :
    Sm kvs' due' (ins size 1 bs) (sts ++ [(low size 1 bs).2]) (i + 1) := by
  have h1 := H.kl
  have h2 := H.dl
  have h3 := H.len
  have h4 := low_end (size := size) H.en (by omega : (1 : Int) ≤ 1 + 9 * (i : Int))
  refine ⟨ins_so h0 H.so, ?_, fun b hb => ?_, by omega, by omega, fun c => ?_, fun c => ?_, hk, fun c w hw => ?_, fun c => ?_⟩
  · have := low_len size (lo := 1) (bs := bs)
    unfold ins
    rw [List.length_append, List.length_append, List.length_take, List.length_drop, List.length_singleton]
    omega
  · rcases ins_mem.mp hb with h | rfl
    · have := H.en b h; omega
    · show (low size 1 bs).2 + size ≤ _
      omega
  · rw [hv, ins_in, ← H.cells c]
    by_cases h : (low size 1 bs).2 ≤ c ∧ c < (low size 1 bs).2 + size
    · rw [if_pos h]; exact ⟨fun _ => .inr h, fun _ => rfl⟩
    · rw [if_neg h]; exact ⟨.inl, fun h2 => h2.resolve_right h⟩
  · rw [hv, hv2, H.eq]
  · rw [hv2] at hw
    split at hw
    · cases hw; exact ⟨0, rfl⟩
    · exact H.nums c w hw
  · rw [List.mem_append, List.mem_singleton, H.sts c]
    constructor
    · rintro (⟨b, hb, e⟩ | e)
      · exact ⟨b, ins_mem.mpr (.inl hb), e⟩
      · exact ⟨_, ins_mem.mpr (.inr rfl), e.symm⟩
    · rintro ⟨b, hb, e⟩
      rcases ins_mem.mp hb with hb | rfl
      · exact .inl ⟨b, hb, e⟩
      · exact .inr e.symm
theorem Sm.fresh {kvs due : KW} {bs : List Bk} {sts : List Int} {i : Nat} {size : Int} (H : Sm kvs due bs sts i) (h0 : 0 < size) {c : Int} (h1 : (low size 1 bs).2 ≤ c) (h2 : c < (low size 1 bs).2 + size) : valW due (.inl c) = none := by
  rw [← H.eq]
  cases hv : valW kvs (.inl c) with
  | none => rfl
  | some w =>
    obtain ⟨b, hb, h3, h4⟩ := (H.cells c).mp (by rw [hv]; rfl)
    rcases low_fresh h0 H.so b hb with h | h <;> omega
abbrev M10 (C : Addr) (k1 : KW) (b1 : List Bk) (k2 : KW) (b2 : List Bk) (due oth : KW) (s1 s2 : List Int) : Mem := [.ins C (FM 1 2), .dct k1, rowsO b1, .ins C (FM 4 5), .dct k2, rowsO b2, .dct due, .dct oth, .lst ((s1.map PyData.int).map W.d), .lst ((s2.map PyData.int).map W.d)]
theorem app_int (s : List Int) (a : Int) : ((s.map PyData.int).map W.d) ++ [W.d (.int a)] = ((s ++ [a]).map PyData.int).map W.d := by simp
theorem cut6 {α : Type} (xs : List α) : cutL xs none (some 6) = xs.take 6 := by
  unfold cutL
  simp [HT.sIx]
theorem cut50 {α : Type} (xs : List α) : cutL xs none (some 50) = xs.take 50 := by
  unfold cutL
  simp [HT.sIx]
end
theorem val_some {due : KW} {p : Key × W} (hp : p ∈ due) {c : Int} (hc : p.1 = .inl c) : (valW due (.inl c)).isSome = true := by
  unfold valW
  cases hf : due.find? fun kv => decide (kv.1 = .inl c) with
  | some q => rfl
  | none => exact absurd (decide_eq_true hc) (by simpa using List.find?_eq_none.mp hf p hp)
theorem keys_ints : ∀ {due : KW}, (∀ p ∈ due, ∃ k, p.1 = .inl k) → ∃ cs : List Int, (due.map fun kv => keyD kv.1) = cs.map PyData.int ∧ cs.length = due.length ∧ (∀ c ∈ cs, ∃ p ∈ due, p.1 = .inl c) ∧ ∀ p ∈ due, ∃ c ∈ cs, p.1 = .inl c
  | [], _ => ⟨[], rfl, rfl, (fun c h => nomatch h), (fun c h => nomatch h)⟩
  | p :: r, h => by
    obtain ⟨k, hk⟩ := h p List.mem_cons_self
    obtain ⟨cs, e1, e2, e3, e4⟩ := keys_ints fun q hq => h q (List.mem_cons_of_mem _ hq)
    refine ⟨k :: cs, ?_, ?_, fun c hc => ?_, fun q hq => ?_⟩
    · rw [List.map_cons, e1, hk]; rfl
    · rw [List.length_cons, List.length_cons, e2]
    · rcases List.mem_cons.mp hc with rfl | hc
      · exact ⟨p, List.mem_cons_self, hk⟩
      · obtain ⟨q, hq, e⟩ := e3 c hc; exact ⟨q, List.mem_cons_of_mem _ hq, e⟩
    · rcases List.mem_cons.mp hq with rfl | hq
      · exact ⟨k, List.mem_cons_self, hk⟩
      · obtain ⟨c, hc, e⟩ := e4 q hq; exact ⟨c, List.mem_cons_of_mem _ hc, e⟩
theorem Sm.write {kvs due : KW} {bs : List Bk} {sts : List Int} {i : Nat} (H : Sm kvs due bs sts i) {c v : Int} (hc : Ib bs c) : Sm (putD kvs (.inl c) (.d (.int v))) (putD due (.inl c) (.d (.int v))) bs sts i := by
  have h1 := (H.cells c).mpr hc
  have h2 : (valW due (.inl c)).isSome = true := by rw [← H.eq]; exact h1
  refine ⟨H.so, H.len, H.en, by rw [put_len' h1]; exact H.kl, by rw [put_len' h2]; exact H.dl, fun x => ?_, fun x => ?_, put_keys H.keys _ _, fun x w hw => ?_, H.sts⟩
  · rw [valW_put]
    by_cases e : x = c
    · subst e; rw [if_pos rfl]; exact ⟨fun _ => hc, fun _ => rfl⟩
    · rw [if_neg (fun z => e (Sum.inl.inj z))]; exact H.cells x
  · rw [valW_put, valW_put, H.eq]
  · rw [valW_put] at hw
    split at hw
    · cases hw; exact ⟨v, rfl⟩
    · exact H.nums x w hw
theorem Sm.release {kvs kvs' due kept : KW} {bs : List Bk} {sts : List Int} {i : Nat} {g : Bk} (H : Sm kvs due bs sts i) (hg : g ∈ bs) (hv : ∀ c : Int, valW kvs' (.inl c) = if g.1 ≤ c ∧ c < g.1 + g.2 then none else valW kvs (.inl c)) (hl : kvs'.length ≤ kvs.length)
    (hv2 : ∀ c : Int, valW kept (.inl c) = if g.1 ≤ c ∧ c < g.1 + g.2 then none else valW due (.inl c)) (hl2 : kept.length ≤ due.length) (hk : ∀ p ∈ kept, ∃ k, p.1 = .inl k) : Sm kvs' kept (rem g bs) (sts.filter fun c => (valW kept (.inl c)).isSome) i := by
  have h1 := H.kl
  have h2 := H.dl
  have h3 := H.len
  have cells : ∀ c : Int, (valW kvs' (.inl c)).isSome = true ↔ Ib (rem g bs) c := fun c => by
    rw [hv, rem_in H.so hg, ← H.cells c]
    by_cases h : g.1 ≤ c ∧ c < g.1 + g.2
    · rw [if_pos h]
      exact ⟨(fun z => nomatch z), fun z => absurd h z.2⟩
    · rw [if_neg h]
      exact ⟨fun z => ⟨z, h⟩, fun z => z.1⟩
  have eq : ∀ c : Int, valW kvs' (.inl c) = valW kept (.inl c) := fun c => by rw [hv, hv2, H.eq]
  have hll := List.length_filter_le (fun b : Bk => decide (b.1 ≠ g.1)) bs
  refine ⟨H.so.filter, by show (bs.filter _).length ≤ i; omega, fun b hb => H.en b (List.mem_filter.mp hb).1, by omega, by omega, cells, eq, hk, fun c w hw => ?_, fun c => ?_⟩
  · rw [hv2] at hw
    split at hw
    · cases hw
    · exact H.nums c w hw
  · rw [List.mem_filter, H.sts c]
    constructor
    · rintro ⟨⟨b, hb, rfl⟩, hs⟩
      obtain ⟨b', hb', h4, h5⟩ := (cells b.1).mp (by rw [eq]; exact hs)
      have hb0 := (List.mem_filter.mp hb').1
      have hp := (H.so.ge b hb).2
      rcases H.so.apart hb hb0 with e | e | e
      · exact ⟨b', hb', by rw [e]⟩
      · omega
      · omega
    · rintro ⟨b, hb, rfl⟩
      have hb0 := (List.mem_filter.mp hb).1
      have hp := (H.so.ge b hb0).2
      exact ⟨⟨b, hb0, rfl⟩, by rw [← eq]; exact (cells b.1).mpr ⟨b, hb, Int.le_refl _, by omega⟩⟩
theorem lock_okG {ρ : Env'} {S : Mem} {s : MS} {P : OR' → Prop} {kvs : KW} {n j : Nat} (h : ρ[j]? = some (some (.loc n))) (hS : S[n]? = some (.dct kvs)) (q : Ok (s ρ (S.set n (.ldct kvs))) (fun q => q.2.2[n]? = some (.ldct kvs) ∧ P (q.1, q.2.1, q.2.2.set n (.dct kvs)))) : Ok (sLock (lkV j) s ρ S) P := by
  obtain ⟨q0, e, h1, hp⟩ := q
  refine ⟨_, ?_, hp⟩
  unfold sLock lkV
  simp only [h, Option.bind_some, hS, e, h1]
theorem k_ixS {ds : List PyData} {i : Int} {S : Mem} {Q : WM → Prop} : Ok (oIx (.d (.dict [(.none, .list ds)])) (.d (.int i)) S) Q ↔ KiW Q S (atI (ds.map W.d) i) := by
  show Ok (oIx (.d (.list ds)) (.d (.int i)) S) Q ↔ _
  exact k_ixL
theorem k_lenS {ds : List PyData} {S : Mem} {Q : WM → Prop} : Ok (bLen [.d (.dict [(.none, .list ds)])] S) Q ↔ Q (.d (.int ds.length), S) := by
  unfold bLen items
  simp only [Option.bind_some, k_some, List.length_map]
theorem get_ne {S : Mem} {i j : Nat} {x y : Ob} (h : S[j]? = some y) (n : i ≠ j) : (S.set i x)[j]? = some y := by rw [List.getElem?_set_ne n]; exact h
theorem tail_ok {C N : Addr} {S : Mem} {k1 k2 due oth : KW} {b1 b2 : List Bk} {s1 s2 ns : List Int} {i1 i2 d t : Nat} {top : Int} {x7 x8 x9 x10 x12 x13 x14 x15 x16 : Option W} (m1 : Mo C S 0 1 2 k1 b1) (m2 : Mo C S 3 4 5 k2 b2) (hd : S[d]? = some (.dct due)) (ho : S[7]? = some (.dct oth)) (ht : S[t]? = some (.lst ((s1.map PyData.int).map W.d))) (hs : S[9]? = some (.lst ((s2.map PyData.int).map W.d)))
    (hdd : d = 6 ∨ d = 10) (htt : t = 8 ∨ t = 11) (H1 : Sm k1 due b1 s1 i1) (H2 : Sm k2 oth b2 s2 i2) (hi1 : i1 ≤ 7) (hi2 : i2 ≤ 7) (hsl : s1.length ≤ 7) (htp : 0 ≤ top ∧ top ≤ 5000) :
    Ok ((sSeq (sAsg (eMeth (C) "allocate" (m_Memory_allocate (C) (N)) (eVar 1) (aCons (eOp (oPlus false) (eC (.int (1))) (eOp oMod (eCall bLen (aCons (eVar 0) aNil)) (eC (.int (3))))) aNil)) (gN 9)) (sSeq (sFor (iRng1M (aCons (eOp (oPlus false) (eC (.int (1))) (eOp oMod (eCall bLen (aCons (eVar 0) aNil)) (eC (.int (3))))) aNil)) (gN 10) (sSeq (sIf (eB (eDIn false (eOp (oPlus false) (eVar 9) (eVar 10)) (eVar 3))) (sRet (eC (.bool false))) sNx) (sDPutW (eVar 3) (eOp (oPlus false) (eVar 9) (eVar 10)) (eC (.int (0)))))) (sSeq (sDrop (eBm mAppend (eVar 5) (aCons (eVar 9) aNil))) (sRet (eAndV (eCall (m_law_agrees (C) (N)) (aCons (eVar 1) (aCons (eVar 3) (aCons (eVar 5) (aCons (eVar 11) aNil))))) (eCall (m_law_agrees (C) (N)) (aCons (eVar 2) (aCons (eVar 4) (aCons (eVar 6) (aCons (eVar 11) aNil)))))))))) [some (.d (.dict [(.none, .list (ns.map .int))])), some (.loc 0), some (.loc 3), some (.loc d), some (.loc 7), some (.loc t), some (.loc 9), x7, x8, x9, x10, some (.d (.int top)), x12, x13, x14, x15, x16] S) fun q => q.1 = .rt (.d (.bool true)) := by
  have hE1 := H1.en
  have hK1 := H1.kl
  have hD1 := H1.dl
  have hL1 := H1.len
  repeat (first | simp only [m1.ho, l_al, k_lenS] | boot_fact)
  rw [List.length_map]
  generalize hsize : 1 + (ns.length : Int) % 3 = size
  have hs0 : 0 < size := by omega
  have hs9 : size ≤ 3 := by omega
  refine (allocate_ok m1 H1.so hs0 (by omega) (by omega) (fun b hb => by have := hE1 b hb; omega) (by omega)).mono ?_
  rintro _ ⟨k1', rfl, hv1, hl1⟩
  have n1 : d ≠ 1 ∧ d ≠ 2 ∧ d ≠ 0 ∧ d ≠ 3 ∧ d ≠ 4 ∧ d ≠ 5 ∧ d ≠ 7 ∧ d ≠ 9 := by omega
  have n2 : t ≠ 1 ∧ t ≠ 2 ∧ t ≠ 0 ∧ t ≠ 3 ∧ t ≠ 4 ∧ t ≠ 5 ∧ t ≠ 7 ∧ t ≠ 9 ∧ t ≠ d := by omega
  have m1' := (m1.setM (ins size 1 b1)).setN k1'
  have m2' := (m2.setO (k := 2) (rowsO (ins size 1 b1)) (by decide) (by decide) (by decide)).setO (k := 1) (.dct k1') (by decide) (by decide) (by decide)
  have hd' := get_ne (i := 1) (x := .dct k1') (get_ne (i := 2) (x := rowsO (ins size 1 b1)) hd (by omega)) (by omega)
  have ho' := get_ne (i := 1) (x := .dct k1') (get_ne (i := 2) (x := rowsO (ins size 1 b1)) ho (by omega)) (by omega)
  have ht' := get_ne (i := 1) (x := .dct k1') (get_ne (i := 2) (x := rowsO (ins size 1 b1)) ht (by omega)) (by omega)
  have hs' := get_ne (i := 1) (x := .dct k1') (get_ne (i := 2) (x := rowsO (ins size 1 b1)) hs (by omega)) (by omega)
  clear m1 m2 hd ho ht hs
  generalize (S.set 2 (rowsO (ins size 1 b1))).set 1 (.dct k1') = S1 at m1' m2' hd' ho' ht' hs' ⊢
  have ha1 := low_ge size H1.so
  have ha2 := low_end (size := size) hE1 (by omega : (1 : Int) ≤ 1 + 9 * (i1 : Int))
  repeat (first | simp only [k_lenS] | boot_fact)
  rw [List.length_map, hsize]
  refine ⟨by omega, ?_⟩
  refine for_vals (fun j ρ S => ∃ (due' : KW) (x10 : Option W), ρ = [some (.d (.dict [(.none, .list (ns.map .int))])), some (.loc 0), some (.loc 3), some (.loc d), some (.loc 7), some (.loc t), some (.loc 9), x7, x8, some (.d (.int (low size 1 b1).2)), x10, some (.d (.int top)), x12, x13, x14, x15, x16] ∧ S = S1.set d (.dct due') ∧ (∀ c : Int, valW due' (.inl c) = if (low size 1 b1).2 ≤ c ∧ c < (low size 1 b1).2 + j then some (.d (.int 0)) else valW due (.inl c)) ∧ due'.length ≤ due.length + j ∧ ∀ p ∈ due', ∃ k, p.1 = .inl k) ⟨due, _, rfl, (set_same hd').symm, fun c => by rw [if_neg (by omega)], by omega, H1.keys⟩ ?_ ?_
  · rintro j w ρ S hw ⟨due', x10, rfl, rfl, hv, hl, hk⟩
    obtain ⟨rfl, hj⟩ := rng_get hw
    have hS := List.getElem?_set_self (a := Ob.dct due') (List.getElem?_eq_some_iff.mp hd').1
    have hnone : valW due' (.inl ((low size 1 b1).2 + (0 + (j : Int)))) = none := by
      rw [hv, if_neg (by omega)]
      exact H1.fresh hs0 (by omega) (by omega)
    repeat (first | simp only [hS, k_di2i, hnone, Option.isSome_none, List.set_set] | boot_fact)
    refine ⟨sz_lt (by omega), putD due' (.inl ((low size 1 b1).2 + (0 + (j : Int)))) (.d (.int 0)), _, rfl, rfl, fun c => ?_, ?_, put_keys hk _ _⟩
    · rw [valW_put]
      by_cases hc : c = (low size 1 b1).2 + (0 + (j : Int))
      · subst hc
        rw [if_pos rfl, if_pos (by omega)]
      · rw [if_neg (fun z => hc (Sum.inl.inj z)), hv]
        by_cases h : (low size 1 b1).2 ≤ c ∧ c < (low size 1 b1).2 + (j : Int)
        · rw [if_pos h, if_pos (by omega)]
        · rw [if_neg h, if_neg (by omega)]
    · have := put_len (kvs := due') (k := .inl ((low size 1 b1).2 + (0 + (j : Int)))) (w := .d (.int 0))
      omega
  · rintro ρ S ⟨due1, x10, rfl, rfl, hu1, hul1, huk1⟩
    rw [rng_len, show (size - 0).toNat = size.toNat by omega] at hul1
    rw [rng_len, show ((size - 0).toNat : Int) = size by omega] at hu1
    have H1' := H1.alloc hs0 (by omega) hv1 hl1 hu1 hul1 huk1
    have hd2 := List.getElem?_set_self (a := Ob.dct due1) (List.getElem?_eq_some_iff.mp hd').1
    have m1'' := m1'.setO (k := d) (.dct due1) (by omega) (by omega) (by omega)
    have m2'' := m2'.setO (k := d) (.dct due1) (by omega) (by omega) (by omega)
    have ho'' := get_ne (i := d) (x := .dct due1) ho' (by omega)
    have ht'' := get_ne (i := d) (x := .dct due1) ht' (by omega)
    have hs'' := get_ne (i := d) (x := .dct due1) hs' (by omega)
    clear m1' m2' hd' ho' ht' hs'
    generalize S1.set d (.dct due1) = S2 at m1'' m2'' hd2 ho'' ht'' hs'' ⊢
    repeat (first | simp only [ht''] | boot_fact)
    rw [app_int]
    refine ⟨sz_lt (by rw [List.length_map, List.length_map]; omega), ?_⟩
    have ht3 := List.getElem?_set_self (a := Ob.lst (((s1 ++ [(low size 1 b1).2]).map PyData.int).map W.d)) (List.getElem?_eq_some_iff.mp ht'').1
    have m1 := m1''.setO (k := t) (Ob.lst (((s1 ++ [(low size 1 b1).2]).map PyData.int).map W.d)) (by omega) (by omega) (by omega)
    have m2 := m2''.setO (k := t) (Ob.lst (((s1 ++ [(low size 1 b1).2]).map PyData.int).map W.d)) (by omega) (by omega) (by omega)
    have ho := get_ne (i := t) (x := Ob.lst (((s1 ++ [(low size 1 b1).2]).map PyData.int).map W.d)) ho'' (by omega)
    have hd := get_ne (i := t) (x := Ob.lst (((s1 ++ [(low size 1 b1).2]).map PyData.int).map W.d)) hd2 (by omega)
    have hs := get_ne (i := t) (x := Ob.lst (((s1 ++ [(low size 1 b1).2]).map PyData.int).map W.d)) hs'' (by omega)
    generalize S2.set t (.lst (((s1 ++ [(low size 1 b1).2]).map PyData.int).map W.d)) = S3 at m1 m2 hd ho ht3 hs ⊢
    refine (agrees_ok m1 hd (by omega) ht3 H1'.eq H1'.sts H1'.keys H1'.nums htp.1 htp.2).mono ?_
    rintro _ rfl
    boot_fact
    refine (agrees_ok m2 ho (by decide) hs H2.eq H2.sts H2.keys H2.nums htp.1 htp.2).mono ?_
    rintro _ rfl
    boot_fact
theorem law_ok (C N : Addr) (ns : List Int) : ∃ S', m_law C N [.d (.dict [(.none, .list (ns.map .int))])] [] = some (.d (.bool true), S') := by
  suffices h : Ok (m_law C N [.d (.dict [(.none, .list (ns.map .int))])] []) (fun p => p.1 = .d (.bool true)) by
    obtain ⟨⟨w, S'⟩, e, rfl⟩ := h
    exact ⟨S', e⟩
  have p1 : putW ("numbers" : Str) (W.loc 1) [] = [(("numbers" : Str), W.loc 1)] := rfl
  have p2 : putW ("rows" : Str) (W.loc 2) [(("numbers" : Str), W.loc 1)] = FM 1 2 := by simp only [FM, putW, ofStr_eq, String.reduceEq, if_false]
  have p3 : putW ("numbers" : Str) (W.loc 4) [] = [(("numbers" : Str), W.loc 4)] := rfl
  have p4 : putW ("rows" : Str) (W.loc 5) [(("numbers" : Str), W.loc 4)] = FM 4 5 := by simp only [FM, putW, ofStr_eq, String.reduceEq, if_false]
  unfold m_law b_law m_Memory_init b_Memory_init
  repeat (first | simp only [p1, p2, p3, p4] | boot_fact)
  rw [cut6, ← List.map_take]
  let D : Option W := some (.d (.dict [(.none, .list (ns.map .int))]))
  refine for_vals (fun i ρ S => ∃ (k1 k2 due oth : KW) (b1 b2 : List Bk) (s1 s2 : List Int) (x7 x8 x9 x10 : Option W), ρ = [D, some (.loc 0), some (.loc 3), some (.loc 6), some (.loc 7), some (.loc 8), some (.loc 9), x7, x8, x9, x10, none, none, none, none, none, none] ∧ S = M10 C k1 b1 k2 b2 due oth s1 s2 ∧
    Sm k1 due b1 s1 i ∧ Sm k2 oth b2 s2 i ∧ s1.length = i ∧ s2.length = i ∧ ∀ (j : Nat) (c : Int), s1[j]? = some c → ∃ q, ns[j]? = some q ∧ (c, 1 + q % 8) ∈ b1)
    ⟨[], [], [], [], [], [], [], [], none, none, none, none, rfl, rfl, ?_, ?_, rfl, rfl, ?_⟩ ?_ ?_
  · exact ⟨trivial, Nat.le_refl _, (fun b h => nomatch h), Nat.zero_le _, Nat.zero_le _, fun c => ⟨(fun h => nomatch h), fun ⟨b, h, _⟩ => nomatch h⟩, fun _ => rfl, (fun p h => nomatch h), (fun c w h => nomatch h), fun c => ⟨(fun h => nomatch h), fun ⟨b, h, _⟩ => nomatch h⟩⟩
  · exact ⟨trivial, Nat.le_refl _, (fun b h => nomatch h), Nat.zero_le _, Nat.zero_le _, fun c => ⟨(fun h => nomatch h), fun ⟨b, h, _⟩ => nomatch h⟩, fun _ => rfl, (fun p h => nomatch h), (fun c w h => nomatch h), fun c => ⟨(fun h => nomatch h), fun ⟨b, h, _⟩ => nomatch h⟩⟩
  · intro j c h
    rw [List.getElem?_nil] at h
    cases h
  · rintro i w ρ S hw ⟨k1, k2, due, oth, b1, b2, s1, s2, x7, x8, x9, x10, rfl, rfl, H1, H2, l1, l2, hsz⟩
    rw [List.getElem?_map, List.getElem?_map] at hw
    obtain ⟨_, hw1, rfl⟩ := Option.map_eq_some_iff.mp hw
    obtain ⟨q, hq, rfl⟩ := Option.map_eq_some_iff.mp hw1
    have hi : i < 6 := by have := (List.getElem?_eq_some_iff.mp hq).1; rw [List.length_take] at this; omega
    rw [List.getElem?_take_of_lt hi] at hq
    have hE1 := H1.en
    have hK1 := H1.kl
    have hD1 := H1.dl
    have hL1 := H1.len
    have hE2 := H2.en
    have hK2 := H2.kl
    have hD2 := H2.dl
    have hL2 := H2.len
    simp only [D]
    boot_fact
    refine ⟨by decide, ?_⟩
    repeat (first | simp only [l_al] | boot_fact)
    generalize hsize : 1 + q % 8 = size
    have hs0 : 0 < size := by omega
    have hs9 : size ≤ 8 := by omega
    refine (allocate_ok (S := M10 C k1 b1 k2 b2 due oth s1 s2) ⟨rfl, rfl, rfl⟩ H1.so hs0 (by omega) (by omega) (fun b hb => by have := hE1 b hb; omega) (by omega)).mono ?_
    rintro _ ⟨k1', rfl, hv1, hl1⟩
    boot_fact
    have ha1 := low_ge size H1.so
    have ha2 := low_end (size := size) hE1 (by omega : (1 : Int) ≤ 1 + 9 * (i : Int))
    rw [app_int]
    refine ⟨sz_lt (by rw [List.length_map, List.length_map]; omega), by omega, ?_⟩
    refine for_vals (fun j ρ S => ∃ (due' : KW) (x10 : Option W), ρ = [D, some (.loc 0), some (.loc 3), some (.loc 6), some (.loc 7), some (.loc 8), some (.loc 9), some (.d (.int q)), some (.d (.int size)), some (.d (.int (low size 1 b1).2)), x10, none, none, none, none, none, none] ∧ S = M10 C k1' (ins size 1 b1) k2 b2 due' oth (s1 ++ [(low size 1 b1).2]) s2 ∧ (∀ c : Int, valW due' (.inl c) = if (low size 1 b1).2 ≤ c ∧ c < (low size 1 b1).2 + j then some (.d (.int 0)) else valW due (.inl c)) ∧ due'.length ≤ due.length + j ∧ ∀ p ∈ due', ∃ k, p.1 = .inl k) ⟨due, _, rfl, rfl, fun c => by rw [if_neg (by omega)], by omega, H1.keys⟩ ?_ ?_
    · rintro j w ρ S hw ⟨due', x10, rfl, rfl, hv, hl, hk⟩
      obtain ⟨rfl, hj⟩ := rng_get hw
      boot_fact
      refine ⟨sz_lt (by omega), putD due' (.inl ((low size 1 b1).2 + (0 + (j : Int)))) (.d (.int 0)), _, rfl, rfl, fun c => ?_, ?_, put_keys hk _ _⟩
      · rw [valW_put]
        by_cases hc : c = (low size 1 b1).2 + (0 + (j : Int))
        · subst hc
          rw [if_pos rfl, if_pos (by omega)]
        · rw [if_neg (fun z => hc (Sum.inl.inj z)), hv]
          by_cases h : (low size 1 b1).2 ≤ c ∧ c < (low size 1 b1).2 + (j : Int)
          · rw [if_pos h, if_pos (by omega)]
          · rw [if_neg h, if_neg (by omega)]
      · have := put_len (kvs := due') (k := .inl ((low size 1 b1).2 + (0 + (j : Int)))) (w := .d (.int 0))
        omega
    rintro ρ S ⟨due1, x10, rfl, rfl, hu1, hul1, huk1⟩
    rw [rng_len, show (size - 0).toNat = size.toNat by omega] at hul1
    rw [rng_len, show ((size - 0).toNat : Int) = size by omega] at hu1
    have H1' := H1.alloc hs0 (by omega) hv1 hl1 hu1 hul1 huk1
    simp only [D]
    repeat (first | simp only [l_al] | boot_fact)
    refine (allocate_ok (S := M10 C k1' (ins size 1 b1) k2 b2 due1 oth (s1 ++ [(low size 1 b1).2]) s2) (o := 3) (n := 4) (m := 5) ⟨rfl, rfl, rfl⟩ H2.so (show 0 < 9 - size by omega) (by omega) (by omega) (fun b hb => by have := hE2 b hb; omega) (by omega)).mono ?_
    rintro _ ⟨k2', rfl, hv2, hl2⟩
    boot_fact
    rw [app_int]
    refine ⟨sz_lt (by rw [List.length_map, List.length_map]; omega), by omega, ?_⟩
    have ha3 := low_ge (9 - size) H2.so
    have ha4 := low_end (size := 9 - size) hE2 (by omega : (1 : Int) ≤ 1 + 9 * (i : Int))
    refine for_vals (fun j ρ S => ∃ (due' : KW) (x10 : Option W), ρ = [D, some (.loc 0), some (.loc 3), some (.loc 6), some (.loc 7), some (.loc 8), some (.loc 9), some (.d (.int q)), some (.d (.int size)), some (.d (.int (low (9 - size) 1 b2).2)), x10, none, none, none, none, none, none] ∧ S = M10 C k1' (ins size 1 b1) k2' (ins (9 - size) 1 b2) due1 due' (s1 ++ [(low size 1 b1).2]) (s2 ++ [(low (9 - size) 1 b2).2]) ∧ (∀ c : Int, valW due' (.inl c) = if (low (9 - size) 1 b2).2 ≤ c ∧ c < (low (9 - size) 1 b2).2 + j then some (.d (.int 0)) else valW oth (.inl c)) ∧ due'.length ≤ oth.length + j ∧ ∀ p ∈ due', ∃ k, p.1 = .inl k) ⟨oth, _, rfl, rfl, fun c => by rw [if_neg (by omega)], by omega, H2.keys⟩ ?_ ?_
    · rintro j w ρ S hw ⟨due', x10, rfl, rfl, hv, hl, hk⟩
      obtain ⟨rfl, hj⟩ := rng_get hw
      boot_fact
      refine ⟨sz_lt (by omega), putD due' (.inl ((low (9 - size) 1 b2).2 + (0 + (j : Int)))) (.d (.int 0)), _, rfl, rfl, fun c => ?_, ?_, put_keys hk _ _⟩
      · rw [valW_put]
        by_cases hc : c = (low (9 - size) 1 b2).2 + (0 + (j : Int))
        · subst hc
          rw [if_pos rfl, if_pos (by omega)]
        · rw [if_neg (fun z => hc (Sum.inl.inj z)), hv]
          by_cases h : (low (9 - size) 1 b2).2 ≤ c ∧ c < (low (9 - size) 1 b2).2 + (j : Int)
          · rw [if_pos h, if_pos (by omega)]
          · rw [if_neg h, if_neg (by omega)]
      · have := put_len (kvs := due') (k := .inl ((low (9 - size) 1 b2).2 + (0 + (j : Int)))) (w := .d (.int 0))
        omega
    rintro ρ S ⟨oth1, x10, rfl, rfl, hu2, hul2, huk2⟩
    rw [rng_len, show (9 - size - 0).toNat = (9 - size).toNat by omega] at hul2
    rw [rng_len, show ((9 - size - 0).toNat : Int) = 9 - size by omega] at hu2
    have H2' := H2.alloc (show 0 < 9 - size by omega) (by omega) hv2 hl2 hu2 hul2 huk2
    refine ⟨_, _, _, _, _, _, _, _, _, _, _, _, rfl, rfl, H1', H2', by rw [List.length_append]; simp; omega, by rw [List.length_append]; simp; omega, fun j c hj => ?_⟩
    by_cases hj2 : j < s1.length
    · rw [List.getElem?_append_left hj2] at hj
      obtain ⟨q2, h1, h2⟩ := hsz j c hj
      exact ⟨q2, h1, ins_mem.mpr (.inl h2)⟩
    · have := (List.getElem?_eq_some_iff.mp hj).1
      rw [List.length_append, List.length_singleton] at this
      have e : j = s1.length := by omega
      subst e
      rw [List.getElem?_append_right (Nat.le_refl _), Nat.sub_self] at hj
      cases hj
      exact ⟨q, by rw [l1]; exact hq, by rw [hsize]; exact ins_mem.mpr (.inr rfl)⟩
  · rintro ρ S ⟨k1, k2, due, oth, b1, b2, s1, s2, x7, x8, x9, x10, rfl, rfl, H1, H2, l1, l2, hsz⟩
    simp only [D]
    have hi6 : (((ns.take 6).map PyData.int).map W.d).length ≤ 6 := by rw [List.length_map, List.length_map, List.length_take]; omega
    generalize (((ns.take 6).map PyData.int).map W.d).length = i at H1 H2 l1 l2 hi6
    have hdl1 := H1.dl
    have hdl2 := H2.dl
    have hkl1 := H1.kl
    have hkl2 := H2.kl
    obtain ⟨cs1, e1, n1, c1, d1⟩ := keys_ints H1.keys
    obtain ⟨cs2, e2, n2, c2, d2⟩ := keys_ints H2.keys
    boot_fact
    refine lock_ok (n := 6) (kvs := due) rfl rfl ?_
    boot_fact
    rw [e1, show (cs1.map PyData.int).map W.d = cs1.map (fun c => W.d (.int c)) from List.map_map]
    refine lc_map (fun c => W.d (.int c)) (fun c => W.d (.int c)) (fun c _ R N r => by boot_fact; exact r) ?_
    rw [show cs1.map (fun c => W.d (.int c)) = (cs1.map PyData.int).map W.d from List.map_map.symm]
    boot_fact
    rw [dOf_map]
    boot_fact
    refine ⟨sz_le (by rw [List.length_map]; omega), _, _, rfl, ?_⟩
    boot_fact
    refine lock_ok (n := 7) (kvs := oth) rfl rfl ?_
    boot_fact
    rw [e2, show (cs2.map PyData.int).map W.d = cs2.map (fun c => W.d (.int c)) from List.map_map]
    refine lc_map (fun c => W.d (.int c)) (fun c => W.d (.int c)) (fun c _ R N r => by boot_fact; exact r) ?_
    rw [show cs2.map (fun c => W.d (.int c)) = (cs2.map PyData.int).map W.d from List.map_map.symm]
    boot_fact
    rw [dOf_map]
    boot_fact
    refine ⟨sz_le (by rw [List.length_map]; omega), _, _, rfl, ?_⟩
    boot_fact
    rw [cut50, ← List.map_take]
    have hI1 : ∀ c ∈ cs1, Ib b1 c := fun c hc => (H1.cells c).mp (by obtain ⟨p, hp, e⟩ := c1 c hc; rw [H1.eq]; exact val_some hp e)
    have hI2 : ∀ c ∈ cs2, Ib b2 c := fun c hc => (H2.cells c).mp (by obtain ⟨p, hp, e⟩ := c2 c hc; rw [H2.eq]; exact val_some hp e)
    have hne2 : 0 < s2.length → 0 < cs2.length := fun h => by
      obtain ⟨b, hb, e⟩ := (H2.sts _).mp (List.getElem_mem h)
      have hv := (H2.cells b.1).mpr ⟨b, hb, Int.le_refl _, by have := (H2.so.ge b hb).2; omega⟩
      rw [H2.eq] at hv
      cases oth with
      | nil => cases hv
      | cons p r => rw [n2]; exact Nat.succ_pos _
    clear e1 e2 c1 c2 d1 d2
    generalize htop : ((due.length : Int) + (oth.length : Int) + 1) = top
    have htp : 0 ≤ top ∧ top ≤ 5000 := by omega
    have hnl1 : cs1.length ≤ 54 := by omega
    have hnl2 : cs2.length ≤ 54 := by omega
    clear htop hdl1 hdl2 hkl1 hkl2 n1 n2
    generalize hA : (sIf (eB (eOp oGt (eCall bLen (aCons (eVar 13) aNil)) (eC (.int (0))))) (sSeq (sAsg (eOp oIx (eVar 13) (eOp oMod (eCall bInt (aCons (eVar 7) aNil)) (eCall bLen (aCons (eVar 13) aNil)))) (gN 12)) (sSeq (sAsg (eOp oSub (eOp oMod (eOp oDiv (eCall bInt (aCons (eVar 7) aNil)) (eC (.int (7)))) (eC (.int (4294967296)))) (eC (.int (2147483648)))) (gN 15)) (sSeq (sDrop (eMeth (C) "write" (m_Memory_write (C) (N)) (eVar 1) (aCons (eVar 12) (aCons (eVar 15) aNil)))) (sDPutW (eVar 3) (eVar 12) (eVar 15))))) sNx) = sA
    generalize hB : (sIf (eAnd (eB (eOp oGt (eCall bLen (aCons (eVar 6) aNil)) (eC (.int (0))))) (eB (eOp (oEq false) (eOp oMod (eCall bInt (aCons (eVar 7) aNil)) (eC (.int (3)))) (eC (.int (0)))))) (sSeq (sAsg (eOp oIx (eVar 14) (eOp oMod (eOp oDiv (eCall bInt (aCons (eVar 7) aNil)) (eC (.int (3)))) (eCall bLen (aCons (eVar 14) aNil)))) (gN 12)) (sSeq (sDrop (eMeth (C) "write" (m_Memory_write (C) (N)) (eVar 2) (aCons (eVar 12) (aCons (eOp oMod (eCall bInt (aCons (eVar 7) aNil)) (eC (.int (100000)))) aNil)))) (sDPutW (eVar 4) (eVar 12) (eOp oMod (eCall bInt (aCons (eVar 7) aNil)) (eC (.int (100000))))))) sNx) = sB
    generalize hT : (sSeq (sIf (eB (eOp oGt (eCall bLen (aCons (eVar 5) aNil)) (eC (.int (1))))) (sSeq (sDrop (eMeth (C) "release" (m_Memory_release (C) (N)) (eVar 1) (aCons (eOp oIx (eVar 5) (eC (.int (1)))) aNil))) (sSeq (sAsg (eOp (oPlus false) (eC (.int (1))) (eOp oMod (eCall bInt (aCons (eOp oIx (eVar 0) (eC (.int (1)))) aNil)) (eC (.int (8))))) (gN 8)) (sSeq (sAsg eDNew (gN 16)) (sSeq (sLock (lkV 3) (sFor (iKeysM (eVar 3)) (gN 12) (sIf (eOr (eB (eOp oLt (eVar 12) (eOp oIx (eVar 5) (eC (.int (1)))))) (eB (eOp oGe (eVar 12) (eOp (oPlus false) (eOp oIx (eVar 5) (eC (.int (1)))) (eVar 8))))) (sDPutW (eVar 16) (eVar 12) (eDGetR (eVar 3) (eVar 12))) sNx))) (sSeq (sAsg (eVar 16) (gN 3)) (sAsg (eLc (iLstM (eVar 5)) [9] (gN 9) (eB (eDIn false (eVar 9) (eVar 3))) (eVar 9) mkL) (gN 5))))))) sNx) (sSeq (sAsg (eMeth (C) "allocate" (m_Memory_allocate (C) (N)) (eVar 1) (aCons (eOp (oPlus false) (eC (.int (1))) (eOp oMod (eCall bLen (aCons (eVar 0) aNil)) (eC (.int (3))))) aNil)) (gN 9)) (sSeq (sFor (iRng1M (aCons (eOp (oPlus false) (eC (.int (1))) (eOp oMod (eCall bLen (aCons (eVar 0) aNil)) (eC (.int (3))))) aNil)) (gN 10) (sSeq (sIf (eB (eDIn false (eOp (oPlus false) (eVar 9) (eVar 10)) (eVar 3))) (sRet (eC (.bool false))) sNx) (sDPutW (eVar 3) (eOp (oPlus false) (eVar 9) (eVar 10)) (eC (.int (0)))))) (sSeq (sDrop (eBm mAppend (eVar 5) (aCons (eVar 9) aNil))) (sRet (eAndV (eCall (m_law_agrees (C) (N)) (aCons (eVar 1) (aCons (eVar 3) (aCons (eVar 5) (aCons (eVar 11) aNil))))) (eCall (m_law_agrees (C) (N)) (aCons (eVar 2) (aCons (eVar 4) (aCons (eVar 6) (aCons (eVar 11) aNil))))))))))) = sT
    let E2 (x7 x12 x15 : Option W) : Env' := [D, some (.loc 0), some (.loc 3), some (.loc 6), some (.loc 7), some (.loc 8), some (.loc 9), x7, x8, x9, x10, some (.d (.int top)), x12, some (.d (.list (cs1.map PyData.int))), some (.d (.list (cs2.map PyData.int))), x15, none]
    refine for_vals (fun _ ρ S => ∃ (k1 k2 due oth : KW) (x7 x12 x15 : Option W), ρ = E2 x7 x12 x15 ∧ S = M10 C k1 b1 k2 b2 due oth s1 s2 ∧ Sm k1 due b1 s1 i ∧ Sm k2 oth b2 s2 i) ⟨k1, k2, due, oth, _, _, _, rfl, rfl, H1, H2⟩ ?_ ?_
    · clear H1 H2
      clear k1 k2 due oth
      rintro _ w ρ S hw ⟨k1, k2, due, oth, x7, x12, x15, rfl, rfl, H1, H2⟩
      rw [List.getElem?_map, List.getElem?_map] at hw
      obtain ⟨_, hw1, rfl⟩ := Option.map_eq_some_iff.mp hw
      obtain ⟨q, hq, rfl⟩ := Option.map_eq_some_iff.mp hw1
      simp only [E2, D]
      boot_fact
      refine Ok.mono (Q := fun p => ∃ (k1 due : KW) (x12 x15 : Option W), p = (.nx, E2 (some (.d (.int q))) x12 x15, M10 C k1 b1 k2 b2 due oth s1 s2) ∧ Sm k1 due b1 s1 i) ?_ ?_
      · subst hA
        boot_fact
        rw [List.length_map]
        by_cases h0 : 0 < cs1.length
        · rw [decide_eq_true (show (0 : Int) < (cs1.length : Int) by omega)]
          boot_fact
          rw [List.length_map]
          have hq0 := Int.emod_nonneg q (show (cs1.length : Int) ≠ 0 by omega)
          have hq1 := Int.emod_lt_of_pos q (show (0 : Int) < (cs1.length : Int) by omega)
          generalize q % (cs1.length : Int) = z at hq0 hq1 ⊢
          obtain ⟨j, rfl⟩ : ∃ j : Nat, z = (j : Int) := ⟨z.toNat, by omega⟩
          have hj : j < cs1.length := by omega
          have hg := hI1 _ (List.getElem_mem hj)
          have hat : atI ((cs1.map PyData.int).map W.d) (j : Int) = some (.d (.int (cs1[j]'hj))) := by
            refine atI_at' ?_
            rw [List.getElem?_map, List.getElem?_map, List.getElem?_eq_getElem hj]
            rfl
          refine ⟨by omega, ?_⟩
          generalize cs1[j]'hj = c at hg hat
          repeat (first | simp only [hat, l_wr] | boot_fact)
          obtain ⟨w0, hw0⟩ := Option.isSome_iff_exists.mp ((H1.cells c).mpr hg)
          refine ⟨by decide, (write_ok ⟨rfl, rfl, rfl⟩ hw0 (by have := H1.kl; omega)).mono ?_⟩
          rintro _ rfl
          boot_fact
          exact ⟨sz_lt (by have := H1.dl; omega), _, _, _, _, rfl, H1.write hg⟩
        · rw [decide_eq_false (show ¬ (0 : Int) < (cs1.length : Int) by omega)]
          boot_fact
          exact ⟨_, _, _, _, rfl, H1⟩
      · rintro _ ⟨k1, due, x12, x15, rfl, H1⟩
        simp only [E2, D]
        boot_fact
        subst hB
        boot_fact
        rw [List.length_map, List.length_map]
        by_cases h0 : 0 < s2.length
        · rw [decide_eq_true (show (0 : Int) < (s2.length : Int) by omega)]
          boot_fact
          by_cases h3 : q % 3 = 0
          · rw [decide_eq_true h3]
            boot_fact
            rw [List.length_map]
            have h4 := hne2 h0
            have hq0 := Int.emod_nonneg (q / 3) (show (cs2.length : Int) ≠ 0 by omega)
            have hq1 := Int.emod_lt_of_pos (q / 3) (show (0 : Int) < (cs2.length : Int) by omega)
            generalize q / 3 % (cs2.length : Int) = z at hq0 hq1 ⊢
            obtain ⟨j, rfl⟩ : ∃ j : Nat, z = (j : Int) := ⟨z.toNat, by omega⟩
            have hj : j < cs2.length := by omega
            have hg := hI2 _ (List.getElem_mem hj)
            have hat : atI ((cs2.map PyData.int).map W.d) (j : Int) = some (.d (.int (cs2[j]'hj))) := by
              refine atI_at' ?_
              rw [List.getElem?_map, List.getElem?_map, List.getElem?_eq_getElem hj]
              rfl
            refine ⟨by decide, by omega, ?_⟩
            generalize cs2[j]'hj = c at hg hat
            repeat (first | simp only [hat, l_wr] | boot_fact)
            obtain ⟨w0, hw0⟩ := Option.isSome_iff_exists.mp ((H2.cells c).mpr hg)
            refine (write_ok (S := M10 C k1 b1 k2 b2 due oth s1 s2) (o := 3) (n := 4) (m := 5) ⟨rfl, rfl, rfl⟩ hw0 (by have := H2.kl; omega)).mono ?_
            rintro _ rfl
            boot_fact
            exact ⟨sz_lt (by have := H2.dl; omega), _, _, _, _, _, _, _, rfl, rfl, H1, H2.write hg⟩
          · rw [decide_eq_false h3]
            boot_fact
            exact ⟨_, _, _, _, _, _, _, rfl, rfl, H1, H2⟩
        · rw [decide_eq_false (show ¬ (0 : Int) < (s2.length : Int) by omega)]
          boot_fact
          exact ⟨_, _, _, _, _, _, _, rfl, rfl, H1, H2⟩
    · rintro ρ S ⟨k1, k2, due, oth, x7, x12, x15, rfl, rfl, H1, H2⟩
      simp only [E2, D]
      boot_fact
      subst hT
      generalize hR : (sSeq (sAsg (eMeth (C) "allocate" (m_Memory_allocate (C) (N)) (eVar 1) (aCons (eOp (oPlus false) (eC (.int (1))) (eOp oMod (eCall bLen (aCons (eVar 0) aNil)) (eC (.int (3))))) aNil)) (gN 9)) (sSeq (sFor (iRng1M (aCons (eOp (oPlus false) (eC (.int (1))) (eOp oMod (eCall bLen (aCons (eVar 0) aNil)) (eC (.int (3))))) aNil)) (gN 10) (sSeq (sIf (eB (eDIn false (eOp (oPlus false) (eVar 9) (eVar 10)) (eVar 3))) (sRet (eC (.bool false))) sNx) (sDPutW (eVar 3) (eOp (oPlus false) (eVar 9) (eVar 10)) (eC (.int (0)))))) (sSeq (sDrop (eBm mAppend (eVar 5) (aCons (eVar 9) aNil))) (sRet (eAndV (eCall (m_law_agrees (C) (N)) (aCons (eVar 1) (aCons (eVar 3) (aCons (eVar 5) (aCons (eVar 11) aNil))))) (eCall (m_law_agrees (C) (N)) (aCons (eVar 2) (aCons (eVar 4) (aCons (eVar 6) (aCons (eVar 11) aNil)))))))))) = sR
      have fin : ∀ {ρ : Env'} {S : Mem}, Ok (sR ρ S) (fun q => q.1 = .rt (.d (.bool true))) → Ok (sR ρ S) (Kdef false 0 fun p => p.1 = .d (.bool true)) := fun h => h.mono fun q hq => by
        obtain ⟨o, ρ', S'⟩ := q
        cases (show o = _ from hq)
        boot_fact
      boot_fact
      rw [List.length_map, List.length_map]
      by_cases h2 : 1 < s1.length
      · rw [decide_eq_true (show (1 : Int) < (s1.length : Int) by omega)]
        have hs1 : s1[1]? = some (s1[1]'h2) := List.getElem?_eq_getElem h2
        obtain ⟨q1, hq1, hmem⟩ := hsz 1 _ hs1
        have hat : atI ((s1.map PyData.int).map W.d) (1 : Int) = some (.d (.int (s1[1]'h2))) := atI_at' (i := 1) (by rw [List.getElem?_map, List.getElem?_map, hs1]; rfl)
        have hat2 : atI ((ns.map PyData.int).map W.d) (1 : Int) = some (.d (.int q1)) := atI_at' (i := 1) (by rw [List.getElem?_map, List.getElem?_map, hq1]; rfl)
        generalize s1[1]'h2 = a1 at hs1 hmem hat
        have hgs := H1.so.ge _ hmem
        have hge := H1.en _ hmem
        have hlb := H1.len
        repeat (first | simp only [hat, l_re] | boot_fact)
        refine (release_ok (S := M10 C k1 b1 k2 b2 due oth s1 s2) ⟨rfl, rfl, rfl⟩ (g := (a1, 1 + q1 % 8)) H1.so hmem (by omega) hgs.1 (by omega) hgs.2 (fun c h => (H1.cells c).mpr h)).mono ?_
        rintro _ ⟨k1', rfl, hv, hl⟩
        repeat (first | simp only [hat2, k_ixS] | boot_fact)
        generalize hsize : 1 + q1 % 8 = size at *
        obtain ⟨cs, e1, n1, c1, d1⟩ := keys_ints H1.keys
        have hdl := H1.dl
        have hcs : ∀ c ∈ cs, ∃ w, valW due (.inl c) = some w := fun c hc => by
          obtain ⟨p, hp, e⟩ := c1 c hc
          exact Option.isSome_iff_exists.mp (val_some hp e)
        have hcn : ∀ c : Int, c ∉ cs → valW due (.inl c) = none := fun c hc => by
          unfold valW
          cases hf : due.find? fun kv => decide (kv.1 = .inl c) with
          | none => rfl
          | some p =>
            obtain ⟨c', h1, h2⟩ := d1 p (List.mem_of_find?_eq_some hf)
            have h3 := List.find?_some hf
            simp only [decide_eq_true_eq] at h3
            rw [h2] at h3
            cases h3
            exact absurd h1 hc
        refine lock_okG (n := 6) (kvs := due) rfl rfl ?_
        boot_fact
        rw [e1]
        refine for_vals (fun j ρ S => ∃ (kept : KW) (x12 : Option W), ρ = [D, some (.loc 0), some (.loc 3), some (.loc 6), some (.loc 7), some (.loc 8), some (.loc 9), x7, some (.d (.int size)), x9, x10, some (.d (.int top)), x12, some (.d (.list (cs1.map PyData.int))), some (.d (.list (cs2.map PyData.int))), x15, some (.loc 10)] ∧ S = [.ins C (FM 1 2), .dct k1', rowsO (rem (a1, size) b1), .ins C (FM 4 5), .dct k2, rowsO b2, .ldct due, .dct oth, .lst ((s1.map PyData.int).map W.d), .lst ((s2.map PyData.int).map W.d), .dct kept] ∧ (∀ c : Int, valW kept (.inl c) = if c ∈ cs.take j ∧ ¬ (a1 ≤ c ∧ c < a1 + size) then valW due (.inl c) else none) ∧ kept.length ≤ j ∧ ∀ p ∈ kept, ∃ k, p.1 = .inl k) ⟨[], _, rfl, rfl, fun c => by rw [if_neg (by simp)]; rfl, Nat.le_refl _, (fun p h => nomatch h)⟩ ?_ ?_
        · rintro j w ρ S hw ⟨kept, x12, rfl, rfl, hk1, hk2, hk3⟩
          rw [List.getElem?_map, List.getElem?_map] at hw
          obtain ⟨_, hw1, rfl⟩ := Option.map_eq_some_iff.mp hw
          obtain ⟨c, hc, rfl⟩ := Option.map_eq_some_iff.mp hw1
          have hjl := (List.getElem?_eq_some_iff.mp hc).1
          obtain ⟨w, hw⟩ := hcs c (List.mem_of_getElem? hc)
          have ht : cs.take (j + 1) = cs.take j ++ [c] := by rw [List.take_add_one, hc]; rfl
          have yes : ¬ (a1 ≤ c ∧ c < a1 + size) → ∀ x : Int, valW (putD kept (.inl c) w) (.inl x) = if x ∈ cs.take (j + 1) ∧ ¬ (a1 ≤ x ∧ x < a1 + size) then valW due (.inl x) else none := fun hn x => by
            rw [valW_put, ht]
            by_cases e : x = c
            · subst e
              rw [if_pos rfl, if_pos ⟨by simp, hn⟩, hw]
            · rw [if_neg (fun z => e (Sum.inl.inj z)), hk1]
              by_cases h : x ∈ cs.take j ∧ ¬ (a1 ≤ x ∧ x < a1 + size)
              · rw [if_pos h, if_pos ⟨List.mem_append_left _ h.1, h.2⟩]
              · rw [if_neg h, if_neg (fun z => h ⟨by
                  rcases List.mem_append.mp z.1 with y | y
                  · exact y
                  · exact absurd (List.mem_singleton.mp y) e, z.2⟩)]
          have no : (a1 ≤ c ∧ c < a1 + size) → ∀ x : Int, valW kept (.inl x) = if x ∈ cs.take (j + 1) ∧ ¬ (a1 ≤ x ∧ x < a1 + size) then valW due (.inl x) else none := fun hn x => by
            rw [hk1, ht]
            by_cases h : x ∈ cs.take j ∧ ¬ (a1 ≤ x ∧ x < a1 + size)
            · rw [if_pos h, if_pos ⟨List.mem_append_left _ h.1, h.2⟩]
            · rw [if_neg h, if_neg (fun z => h ⟨by
                rcases List.mem_append.mp z.1 with y | y
                · exact y
                · rw [List.mem_singleton.mp y] at z; exact absurd hn z.2, z.2⟩)]
          have hpl := put_len (kvs := kept) (k := .inl c) (w := w)
          simp only [D]
          repeat (first | simp only [hat] | boot_fact)
          by_cases h1 : c < a1
          · rw [decide_eq_true h1]
            boot_fact
            refine dgetR_int (.inr rfl) hw ?_
            boot_fact
            exact ⟨sz_lt (by omega), _, _, rfl, rfl, yes (by omega), by omega, put_keys hk3 _ _⟩
          · rw [decide_eq_false h1]
            repeat (first | simp only [hat] | boot_fact)
            by_cases h3 : a1 + size ≤ c
            · rw [decide_eq_true h3]
              boot_fact
              refine dgetR_int (.inr rfl) hw ?_
              boot_fact
              exact ⟨sz_lt (by omega), _, _, rfl, rfl, yes (by omega), by omega, put_keys hk3 _ _⟩
            · rw [decide_eq_false h3]
              boot_fact
              exact ⟨_, _, rfl, rfl, no (by omega), by omega, hk3⟩
        · rintro ρ S ⟨kept, x12, rfl, rfl, hk1, hk2, hk3⟩
          rw [List.length_map, List.length_map] at hk1 hk2
          rw [List.take_length] at hk1
          have hv2 : ∀ c : Int, valW kept (.inl c) = if (a1, size).1 ≤ c ∧ c < (a1, size).1 + (a1, size).2 then none else valW due (.inl c) := fun c => by
            rw [hk1]
            show _ = if a1 ≤ c ∧ c < a1 + size then none else valW due (.inl c)
            by_cases h : a1 ≤ c ∧ c < a1 + size
            · rw [if_pos h, if_neg (fun z => z.2 h)]
            · rw [if_neg h]
              by_cases hm : c ∈ cs
              · rw [if_pos ⟨hm, h⟩]
              · rw [if_neg (fun z => hm z.1), hcn c hm]
          have H3 := H1.release hmem hv hl hv2 (by omega) hk3
          refine ⟨rfl, ?_⟩
          simp only [D]
          boot_fact
          refine lc_liveF (xs := s1) (fun c => W.d (.int c)) (fun c => W.d (.int c)) (fun c => (valW kept (.inl c)).isSome) (by rw [show (fun c => W.d (.int c)) = W.d ∘ PyData.int from rfl, ← List.map_map]; rfl) (fun c hc R N h1 h2 => ?_) ?_
          · repeat (first | simp only [k_di2i] | boot_fact)
            cases hd : (valW kept (.inl c)).isSome with
            | true => boot_fact; exact h1 hd
            | false => boot_fact; exact h2 hd
          rw [show (s1.filter fun c => (valW kept (.inl c)).isSome).map (fun c => W.d (.int c)) = ((s1.filter fun c => (valW kept (.inl c)).isSome).map PyData.int).map W.d from List.map_map.symm]
          have hfl := List.length_filter_le (fun c => (valW kept (.inl c)).isSome) s1
          generalize hs3 : (s1.filter fun c => (valW kept (.inl c)).isSome) = s3 at H3 hfl ⊢
          boot_fact
          refine ⟨sz_le (by rw [List.length_map, List.length_map]; omega), ?_⟩
          refine fin ?_
          subst hR
          exact tail_ok (d := 10) (t := 11) ⟨rfl, rfl, rfl⟩ ⟨rfl, rfl, rfl⟩ rfl rfl rfl rfl (.inr rfl) (.inr rfl) H3 H2 (by omega) (by omega) (by omega) htp
      · rw [decide_eq_false (show ¬ (1 : Int) < (s1.length : Int) by omega)]
        boot_fact
        refine fin ?_
        subst hR
        exact tail_ok (d := 6) (t := 8) (S := M10 C k1 b1 k2 b2 due oth s1 s2) ⟨rfl, rfl, rfl⟩ ⟨rfl, rfl, rfl⟩ rfl rfl rfl rfl (.inl rfl) (.inl rfl) H1 H2 (by omega) (by omega) (by omega) htp
end k31
namespace k31
open PySem PySem.Spec PyProof.Rows L2 L2H GxR Gx Pd
def topS (i : Nat) : Stmt := PySem.Challenge.pw_forklent_k31_memory_cells.main.body.getD i (.Pass ⟨0, 0, 0, 0⟩)
def mthS (i j : Nat) : Stmt := match topS i with
  | .ClassDef _ _ _ body _ _ _ _ _ _ _ => body.getD j (.Pass ⟨0, 0, 0, 0⟩)
  | s => s
abbrev s_Memory___init__ : Stmt := mthS 9 0
theorem sc_Memory___init__ : FnScope ["self"] ["self"] (defScope s_Memory___init__) := ⟨rfl, rfl, rfl, by decide +kernel, rfl, by decide +kernel, by decide +kernel⟩
abbrev s_Memory_allocate : Stmt := mthS 9 1
theorem sc_Memory_allocate : FnScope ["self", "size", "address", "at", "cell"] ["self", "size"] (defScope s_Memory_allocate) := ⟨rfl, rfl, rfl, by decide +kernel, rfl, by decide +kernel, by decide +kernel⟩
abbrev s_Memory_release : Stmt := mthS 9 2
theorem sc_Memory_release : FnScope ["self", "address", "found", "cell", "row"] ["self", "address"] (defScope s_Memory_release) := ⟨rfl, rfl, rfl, by decide +kernel, rfl, by decide +kernel, by decide +kernel⟩
abbrev s_Memory_require_block : Stmt := mthS 9 6
theorem sc_Memory_require_block : FnScope ["self", "address"] ["self", "address"] (defScope s_Memory_require_block) := ⟨rfl, rfl, rfl, by decide +kernel, rfl, by decide +kernel, by decide +kernel⟩
abbrev s_Memory_read : Stmt := mthS 9 3
theorem sc_Memory_read : FnScope ["self", "address"] ["self", "address"] (defScope s_Memory_read) := ⟨rfl, rfl, rfl, by decide +kernel, rfl, by decide +kernel, by decide +kernel⟩
abbrev s_Memory_write : Stmt := mthS 9 4
theorem sc_Memory_write : FnScope ["self", "address", "number"] ["self", "address", "number"] (defScope s_Memory_write) := ⟨rfl, rfl, rfl, by decide +kernel, rfl, by decide +kernel, by decide +kernel⟩
abbrev s_Memory_blocks : Stmt := mthS 9 5
theorem sc_Memory_blocks : FnScope ["self"] ["self"] (defScope s_Memory_blocks) := ⟨rfl, rfl, rfl, by decide +kernel, rfl, by decide +kernel, by decide +kernel⟩
abbrev s__law_alone : Stmt := topS 11
theorem sc__law_alone : FnScope ["problem"] ["problem"] (defScope s__law_alone) := ⟨rfl, rfl, rfl, by decide +kernel, rfl, by decide +kernel, by decide +kernel⟩
abbrev s__law_raises : Stmt := topS 12
theorem sc__law_raises : FnScope ["memory", "what", "address", "problem"] ["memory", "what", "address"] (defScope s__law_raises) := ⟨rfl, rfl, rfl, by decide +kernel, rfl, by decide +kernel, by decide +kernel⟩
abbrev s__law_agrees : Stmt := topS 13
theorem sc__law_agrees : FnScope ["memory", "due", "starts", "top", "address"] ["memory", "due", "starts", "top"] (defScope s__law_agrees) := ⟨rfl, rfl, rfl, by decide +kernel, rfl, by decide +kernel, by decide +kernel⟩
abbrev s_law : Stmt := topS 14
theorem sc_law : FnScope ["script", "first", "second", "due", "other", "starts", "others", "cell", "size", "start", "k", "top", "address", "places", "cells", "number", "kept"] ["script"] (defScope s_law) := ⟨rfl, rfl, rfl, by decide +kernel, rfl, by decide +kernel, by decide +kernel⟩
abbrev s_NotAllocated___init__ : Stmt := mthS 4 0
theorem sc_NotAllocated___init__ : FnScope ["self", "address"] ["self", "address"] (defScope s_NotAllocated___init__) := ⟨rfl, rfl, rfl, by decide +kernel, rfl, by decide +kernel, by decide +kernel⟩
structure Txt (w : World) (K : PySem.W.Frag) (mg : Str → Option Value) where
  tb : List Addr
  z_len : mg "len" = none
  z_int : mg "int" = none
  z_range : mg "range" = none
  z_tuple : mg "tuple" = none
  z_list : mg "list" = none
  z_isinstance : mg "isinstance" = none
  z_ValueError : mg "ValueError" = none
  C_Memory : Addr
  g_Memory : mg "Memory" = some (.ref C_Memory)
  cl_Memory : Cls K C_Memory
  na_Memory_numbers : NoAttr K C_Memory "numbers"
  na_Memory_rows : NoAttr K C_Memory "rows"
  Memory___init__ : DfM K C_Memory "__init__" "Memory.__init__" s_Memory___init__ ["self"]
  Memory_allocate : DfM K C_Memory "allocate" "Memory.allocate" s_Memory_allocate ["self", "size"]
  Memory_release : DfM K C_Memory "release" "Memory.release" s_Memory_release ["self", "address"]
  Memory_read : DfM K C_Memory "read" "Memory.read" s_Memory_read ["self", "address"]
  Memory_write : DfM K C_Memory "write" "Memory.write" s_Memory_write ["self", "address", "number"]
  Memory_blocks : DfM K C_Memory "blocks" "Memory.blocks" s_Memory_blocks ["self"]
  Memory_require_block : DfM K C_Memory "require_block" "Memory.require_block" s_Memory_require_block ["self", "address"]
  _law_alone : DfC K mg "_law_alone" s__law_alone ["problem"]
  _law_raises : DfC K mg "_law_raises" s__law_raises ["memory", "what", "address"]
  _law_agrees : DfC K mg "_law_agrees" s__law_agrees ["memory", "due", "starts", "top"]
  law : DfC K mg "law" s_law ["script"]
  mk_Memory : Mk K C_Memory Memory___init__.f
  C_ForkError : Addr
  g_ForkError : mg "ForkError" = some (.ref C_ForkError)
  C_KindProblem : Addr
  g_KindProblem : mg "KindProblem" = some (.ref C_KindProblem)
  C_NoSuchFunction : Addr
  g_NoSuchFunction : mg "NoSuchFunction" = some (.ref C_NoSuchFunction)
  C_NoSuchStep : Addr
  g_NoSuchStep : mg "NoSuchStep" = some (.ref C_NoSuchStep)
  C_NoSuchVariable : Addr
  g_NoSuchVariable : mg "NoSuchVariable" = some (.ref C_NoSuchVariable)
  C_Refused : Addr
  g_Refused : mg "Refused" = some (.ref C_Refused)
  C_NotAllocated : Addr
  g_NotAllocated : mg "NotAllocated" = some (.ref C_NotAllocated)
  ox_NotAllocated : OexC K C_NotAllocated
  xx_NotAllocated : ExcC K C_NotAllocated
  xf_NotAllocated : XfC K C_NotAllocated
  nx_NotAllocated_address : PySem.W.findIn K (.ref C_NotAllocated) "address" = some none
  NotAllocated___init__ : DfM K C_NotAllocated "__init__" "NotAllocated.__init__" s_NotAllocated___init__ ["self", "address"]
  in_NotAllocated : PySem.W.findIn K (.ref C_NotAllocated) "__init__" = some (some (.ref NotAllocated___init__.f))
  ti_NotAllocated : PySem.W.typeIn K (.ref NotAllocated___init__.f) = some (.type "function")
  kt_NotAllocated_KindProblem : PySem.W.kitOne K (.ref C_NotAllocated) (.ref C_KindProblem) = some false
  kt_NotAllocated_Refused : PySem.W.kitOne K (.ref C_NotAllocated) (.ref C_Refused) = some false
  kt_NotAllocated_NoSuchStep : PySem.W.kitOne K (.ref C_NotAllocated) (.ref C_NoSuchStep) = some false
  kt_NotAllocated_NoSuchVariable : PySem.W.kitOne K (.ref C_NotAllocated) (.ref C_NoSuchVariable) = some false
  kt_NotAllocated_NoSuchFunction : PySem.W.kitOne K (.ref C_NotAllocated) (.ref C_NoSuchFunction) = some false
  kt_NotAllocated_ValueError : PySem.W.kitOne K (.ref C_NotAllocated) (.type "ValueError") = some true
  kt_NotAllocated_NotAllocated : PySem.W.kitOne K (.ref C_NotAllocated) (.ref C_NotAllocated) = some true
  xm_NotAllocated_ForkError : PySem.W.exmOne K (.ref C_NotAllocated) (.ref C_ForkError) = some true
structure Tbs {K : PySem.W.Frag} {mg : Str → Option Value} (T : Txt w K mg) (base : Heap) : Prop where
  any : True
end k31
namespace k31
open PySem PySem.Spec PyProof.Rows L2 L2H GxR Gx Pd
section
variable {P : Program} {w : World} {K : PySem.W.Frag} {mg : Str → Option Value} {base : Heap}
theorem pss_given {X : Cx} {p : Prop} {st : List Stmt} {t : TS} (h : p → PSs X st t) : PSs X st (fun D σ H => p ∧ t D σ H) := ⟨fun pins s σ H D I q => (h q.1).run pins s σ H D I q.2⟩
theorem takes0x {X : Cx} : Takes X (fun _ _ _ _ => False) := fun _ _ ⟨_, _, _, _, _, _, _, _, _, _, _, _, _, _, _, _, z⟩ => z.elim
theorem ok_NotAllocated_init (T : Txt w K mg) : FnOk P w K mg base CX0 1 T.NotAllocated___init__.f T.NotAllocated___init__.fd ["self", "address"] (spInit T.C_NotAllocated ["address"]) :=
  init1_ok T.NotAllocated___init__.F sc_NotAllocated___init__ T.ox_NotAllocated T.nx_NotAllocated_address fun A outer s H E => (pss_one (ps_ost (pv 0) (pv 1)))
theorem ok_Memory_init (T : Txt w K mg) (hT : Tbs T base) : FnOk P w K mg base CX0 1 T.Memory___init__.f T.Memory___init__.fd ["self"] (spD K T.tb 1 (m_Memory_init T.C_Memory T.C_NotAllocated)) :=
  def_ok (k := 0) T.Memory___init__.F sc_Memory___init__ fun A outer s H E hr => ⟨_, (pss_cons (ps_fldK (K := K) rfl (pv 0) pe_dnewK rfl)
    (pss_one (ps_fldK (K := K) rfl (pv 0) (pe_lst pa_nil) rfl))),
    (ss_seq (ss_fld T.cl_Memory T.na_Memory_numbers (se_var 0) se_dnew)
    (ss_fld T.cl_Memory T.na_Memory_rows (se_var 0) (se_lstL sa_nil)))⟩
theorem ok_Memory_allocate (T : Txt w K mg) (hT : Tbs T base) : FnOk P w K mg base CX0 1 T.Memory_allocate.f T.Memory_allocate.fd ["self", "size"] (spD K T.tb 2 (m_Memory_allocate T.C_Memory T.C_NotAllocated)) :=
  def_ok (k := 0) T.Memory_allocate.F sc_Memory_allocate fun A outer s H E hr => ⟨_, (pss_cons (ps_set (i := 2) sc_Memory_allocate.nd rfl (Or.inl rfl) pe_int)
    (pss_cons (ps_set (i := 3) sc_Memory_allocate.nd rfl (Or.inl rfl) pe_int)
    (pss_cons (ps_while PassesOwn.never (PW.pt (pw_and (pt_cmpR op_lt (pv 3) (pe_callB (cr_lenK (K := K) rfl) rfl T.z_len PySem.boot_len (pa_cons (pe_fldK (K := K) rfl (pv 0) rfl) pa_nil)) (nomark _)) (pw_and1 (pt_cmpR op_lt (pe_op op_sub (pe_ix (ix_seqK (K := K) rfl) (pe_ix (ix_seqK (K := K) rfl) (pe_fldK (K := K) rfl (pv 0) rfl) (pv 3) (fun _ _ => rfl)) pe_int (fun _ _ => rfl)) (pv 2)) (pv 1) (nomark _))))) (pss_cons (ps_set (i := 2) sc_Memory_allocate.nd rfl (Or.inl rfl) (pe_op (op_plusK (K := K) rfl) (pe_ix (ix_seqK (K := K) rfl) (pe_ix (ix_seqK (K := K) rfl) (pe_fldK (K := K) rfl (pv 0) rfl) (pv 3) (fun _ _ => rfl)) pe_int (fun _ _ => rfl)) (pe_ix (ix_seqK (K := K) rfl) (pe_ix (ix_seqK (K := K) rfl) (pe_fldK (K := K) rfl (pv 0) rfl) (pv 3) (fun _ _ => rfl)) pe_int (fun _ _ => rfl))))
    (pss_one (ps_aug (i := 3) sc_Memory_allocate.nd rfl (Or.inl rfl) pe_int ip_add))))
    (pss_cons (ps_expr (pe_bm PySem.F.plainAttrs_list PySem.F.slot_list_insert PySem.F.type_list_insert mt_insert (pe_fldK (K := K) rfl (pv 0) rfl) (pa_cons (pv 3) (pa_cons (pe_tup (pa_cons (pv 2) (pa_cons (pv 1) pa_nil))) pa_nil))))
    (pss_cons (ps_for PassesOwn.never rfl (pi_range2 (by rfl) T.z_range (pa_cons (pv 2) (pa_cons (pe_op (op_plusK (K := K) rfl) (pv 2) (pv 1)) pa_nil))) (pg_name (i := 4) sc_Memory_allocate.nd rfl (Or.inl rfl)) (pss_one (ps_dput (hu_of hr) (pe_fldK (K := K) rfl (pv 0) rfl) (pv 4) pe_int rfl)))
    (pss_one (ps_ret (pv 2)))))))),
    (ss_seq (ss_asg se_int (sg_name 2))
    (ss_seq (ss_asg se_int (sg_name 3))
    (ss_seq (ss_while (f := 100) (st_and (st_test (se_op sr_lt (se_var 3) (se_cb sc_len (sa_cons (se_fld T.cl_Memory T.na_Memory_rows (se_var 0)) sa_nil)))) (st_test (se_op sr_lt (se_op sr_sub (se_op sr_ix (se_op sr_ix (se_fld T.cl_Memory T.na_Memory_rows (se_var 0)) (se_var 3)) se_int) (se_var 2)) (se_var 1)))) (ss_seq (ss_asg (se_op (sr_plus (L := false)) (se_op sr_ix (se_op sr_ix (se_fld T.cl_Memory T.na_Memory_rows (se_var 0)) (se_var 3)) se_int) (se_op sr_ix (se_op sr_ix (se_fld T.cl_Memory T.na_Memory_rows (se_var 0)) (se_var 3)) se_int)) (sg_name 2))
    (ss_aug se_int)))
    (ss_seq (ss_drop (se_bm sm_insert (se_fld T.cl_Memory T.na_Memory_rows (se_var 0)) (sa_cons (se_var 3) (sa_cons (se_tup (sa_cons (se_var 2) (sa_cons (se_var 1) sa_nil))) sa_nil))))
    (ss_seq (ss_for (si_rng2 (sa_cons (se_var 2) (sa_cons (se_op (sr_plus (L := false)) (se_var 2) (se_var 1)) sa_nil))) (sg_name 4) (ss_dput (se_fld T.cl_Memory T.na_Memory_numbers (se_var 0)) (se_var 4) se_int))
    (ss_ret (se_var 2)))))))⟩
theorem ok_Memory_release (T : Txt w K mg) (hT : Tbs T base) : FnOk P w K mg base CX0 1 T.Memory_release.f T.Memory_release.fd ["self", "address"] (spD K T.tb 2 (m_Memory_release T.C_Memory T.C_NotAllocated)) :=
  def_ok (k := 0) T.Memory_release.F sc_Memory_release fun A outer s H E hr => ⟨_, (pss_cons (ps_setLc (i := 2) (own := [("row", 4)]) rfl sc_Memory_release.nd rfl rfl (sw_true rfl rfl rfl (by decide +kernel)) (pi_lstK (K := K) rfl (pe_fldK (K := K) rfl (pv 0) rfl)) (blkOk_by (N := ["self", "address", "found", "cell", "row"]) (sc := defScope s_Memory_release) (by decide +kernel)) (fun _ _ _ _ _ => (pg_name (i := 4) sc_Memory_release.nd rfl (Or.inl rfl))) (fun _ _ _ _ _ => pts_one (pt_cmpR (op_eqAK (K := K) rfl hr.units) (pe_ix (ix_seqK (K := K) rfl) (pv 4) pe_int (fun _ _ => rfl)) (pv 1) (nomark _))) (fun _ _ _ _ _ => (pv 4)))
    (pss_cons (ps_if (pt_not (Lv.pt_truthK (K := K) rfl (pv 2))) (pss_one ps_none) pss_nil)
    (pss_cons (ps_expr (pe_bm PySem.F.plainAttrs_list PySem.F.slot_list_remove PySem.F.type_list_remove (Lv.mt_removeTK (K := K) rfl hr.units) (pe_fldK (K := K) rfl (pv 0) rfl) (pa_cons (pe_ix (ix_seqK (K := K) rfl) (pv 2) pe_int (fun _ _ => rfl)) pa_nil)))
    (pss_one (ps_for PassesOwn.never rfl (pi_range2 (by rfl) T.z_range (pa_cons (pv 1) (pa_cons (pe_op (op_plusK (K := K) rfl) (pv 1) (pe_ix (ix_seqK (K := K) rfl) (pe_ix (ix_seqK (K := K) rfl) (pv 2) pe_int (fun _ _ => rfl)) pe_int (fun _ _ => rfl))) pa_nil))) (pg_name (i := 3) sc_Memory_release.nd rfl (Or.inl rfl)) (pss_one (ps_ddel (pe_fldK (K := K) rfl (pv 0) rfl) (pv 3)))))))),
    (ss_seq (ss_asg (se_lc smk_F (si_lst (se_fld T.cl_Memory T.na_Memory_rows (se_var 0))) (sg_name 4) (by decide) (st_test (se_op sr_eq (se_op sr_ix (se_var 4) se_int) (se_var 1))) (se_var 4)) (sg_name 2))
    (ss_seq (ss_if (st_not (st_tru (se_var 2))) ss_none ss_nil)
    (ss_seq (ss_drop (se_bm sm_removeT (se_fld T.cl_Memory T.na_Memory_rows (se_var 0)) (sa_cons (se_op sr_ix (se_var 2) se_int) sa_nil)))
    (ss_for (si_rng2 (sa_cons (se_var 1) (sa_cons (se_op (sr_plus (L := false)) (se_var 1) (se_op sr_ix (se_op sr_ix (se_var 2) se_int) se_int)) sa_nil))) (sg_name 3) (ss_ddel (se_fld T.cl_Memory T.na_Memory_numbers (se_var 0)) (se_var 3))))))⟩
theorem okx_Memory_release (T : Txt w K mg) (hT : Tbs T base) : FnOk P w K mg base (L2.CX P w) 3 T.Memory_release.f T.Memory_release.fd ["self", "address"] (spDx K T.tb 2 (mx_Memory_release T.C_Memory T.C_NotAllocated)) :=
  def_okx (k := 2) T.Memory_release.F sc_Memory_release fun A outer s H E hr => ⟨_, fun W tk => (pss_cons (ps_setLc (i := 2) (own := [("row", 4)]) rfl sc_Memory_release.nd rfl rfl (sw_true rfl rfl rfl (by decide +kernel)) (pi_lstK (K := K) rfl (pe_fldK (K := K) rfl (pv 0) rfl)) (blkOk_by (N := ["self", "address", "found", "cell", "row"]) (sc := defScope s_Memory_release) (by decide +kernel)) (fun _ _ _ _ _ => (pg_name (i := 4) sc_Memory_release.nd rfl (Or.inl rfl))) (fun _ _ _ _ _ => pts_one (pt_cmpR (op_eqAK (K := K) rfl hr.units) (pe_ix (ix_seqK (K := K) rfl) (pv 4) pe_int (fun _ _ => rfl)) (pv 1) (nomark _))) (fun _ _ _ _ _ => (pv 4)))
    (pss_cons (ps_if (pt_not (Lv.pt_truthK (K := K) rfl (pv 2))) (pss_one (ps_raise rfl tk (pmk_oex (k := 1) T.ox_NotAllocated T.in_NotAllocated T.ti_NotAllocated (ok_NotAllocated_init T) (hr.mono (by omega)) T.NotAllocated___init__.b .nil pass0 rfl T.g_NotAllocated (pa_cons (pv 1) pa_nil)))) pss_nil)
    (pss_cons (ps_expr (pe_bm PySem.F.plainAttrs_list PySem.F.slot_list_remove PySem.F.type_list_remove (Lv.mt_removeTK (K := K) rfl hr.units) (pe_fldK (K := K) rfl (pv 0) rfl) (pa_cons (pe_ix (ix_seqK (K := K) rfl) (pv 2) pe_int (fun _ _ => rfl)) pa_nil)))
    (pss_one (ps_for PassesOwn.leaving rfl (pi_range2 (by rfl) T.z_range (pa_cons (pv 1) (pa_cons (pe_op (op_plusK (K := K) rfl) (pv 1) (pe_ix (ix_seqK (K := K) rfl) (pe_ix (ix_seqK (K := K) rfl) (pv 2) pe_int (fun _ _ => rfl)) pe_int (fun _ _ => rfl))) pa_nil))) (pg_name (i := 3) sc_Memory_release.nd rfl (Or.inl rfl)) (pss_one (ps_ddel (pe_fldK (K := K) rfl (pv 0) rfl) (pv 3)))))))),
    (ssx_seq (ssx_lift (ss_asg (se_lc smk_F (si_lst (se_fld T.cl_Memory T.na_Memory_rows (se_var 0))) (sg_name 4) (by decide) (st_test (se_op sr_eq (se_op sr_ix (se_var 4) se_int) (se_var 1))) (se_var 4)) (sg_name 2)))
    (ssx_seq (ssx_if (st_not (st_tru (se_var 2))) (ssx_raise (C := T.C_NotAllocated) (fl := ["address"]) (sa_cons (se_var 1) sa_nil)) (ssx_lift ss_nil))
    (ssx_seq (ssx_lift (ss_drop (se_bm sm_removeT (se_fld T.cl_Memory T.na_Memory_rows (se_var 0)) (sa_cons (se_op sr_ix (se_var 2) se_int) sa_nil))))
    (ssx_lift (ss_for (si_rng2 (sa_cons (se_var 1) (sa_cons (se_op (sr_plus (L := false)) (se_var 1) (se_op sr_ix (se_op sr_ix (se_var 2) se_int) se_int)) sa_nil))) (sg_name 3) (ss_ddel (se_fld T.cl_Memory T.na_Memory_numbers (se_var 0)) (se_var 3)))))))⟩
theorem ok_Memory_require_block (T : Txt w K mg) (hT : Tbs T base) : FnOk P w K mg base CX0 1 T.Memory_require_block.f T.Memory_require_block.fd ["self", "address"] (spD K T.tb 2 (m_Memory_require_block T.C_Memory T.C_NotAllocated)) :=
  def_ok (k := 0) T.Memory_require_block.F sc_Memory_require_block fun A outer s H E hr => ⟨_, (pss_one (ps_if (pt_cmp (pc_dnotin (hu_of hr) (pv 1) (pe_fldK (K := K) rfl (pv 0) rfl))) (pss_one ps_none) pss_nil)),
    (ss_if (st_val (se_dnin (se_var 1) (se_fld T.cl_Memory T.na_Memory_numbers (se_var 0)))) ss_none ss_nil)⟩
theorem okx_Memory_require_block (T : Txt w K mg) (hT : Tbs T base) : FnOk P w K mg base (L2.CX P w) 3 T.Memory_require_block.f T.Memory_require_block.fd ["self", "address"] (spDx K T.tb 2 (mx_Memory_require_block T.C_Memory T.C_NotAllocated)) :=
  def_okx (k := 2) T.Memory_require_block.F sc_Memory_require_block fun A outer s H E hr => ⟨_, fun W tk => (pss_one (ps_if (pt_cmp (pc_dnotin (hu_of hr) (pv 1) (pe_fldK (K := K) rfl (pv 0) rfl))) (pss_one (ps_raise rfl tk (pmk_oex (k := 1) T.ox_NotAllocated T.in_NotAllocated T.ti_NotAllocated (ok_NotAllocated_init T) (hr.mono (by omega)) T.NotAllocated___init__.b .nil pass0 rfl T.g_NotAllocated (pa_cons (pv 1) pa_nil)))) pss_nil)),
    (ssx_if (st_val (se_dnin (se_var 1) (se_fld T.cl_Memory T.na_Memory_numbers (se_var 0)))) (ssx_raise (C := T.C_NotAllocated) (fl := ["address"]) (sa_cons (se_var 1) sa_nil)) (ssx_lift ss_nil))⟩
end
end k31
namespace k31
open PySem PySem.Spec PyProof.Rows L2 L2H GxR Gx Pd
section
variable {P : Program} {w : World} {K : PySem.W.Frag} {mg : Str → Option Value} {base : Heap}
theorem ok_Memory_read (T : Txt w K mg) (hT : Tbs T base) : FnOk P w K mg base CX0 2 T.Memory_read.f T.Memory_read.fd ["self", "address"] (spD K T.tb 2 (m_Memory_read T.C_Memory T.C_NotAllocated)) :=
  def_ok (k := 1) T.Memory_read.F sc_Memory_read fun A outer s H E hr => ⟨_, (pss_cons (ps_expr (pe_meth (pv 0) T.cl_Memory T.Memory_require_block.m (ok_Memory_require_block T hT) (hr.mono (by omega)) T.Memory_require_block.b .nil pass0 (pa_cons (pv 1) pa_nil)))
    (pss_one (ps_ret (pe_dget (hu_of hr) (pe_fldK (K := K) rfl (pv 0) rfl) (pv 1) (fun _ _ => rfl))))),
    (ss_seq (ss_drop (se_meth ar_Memory_require_block (se_var 0) (sa_cons (se_var 1) sa_nil)))
    (ss_ret (se_dget (se_fld T.cl_Memory T.na_Memory_numbers (se_var 0)) (se_var 1))))⟩
theorem okx_Memory_read (T : Txt w K mg) (hT : Tbs T base) : FnOk P w K mg base (L2.CX P w) 4 T.Memory_read.f T.Memory_read.fd ["self", "address"] (spDx K T.tb 2 (mx_Memory_read T.C_Memory T.C_NotAllocated)) :=
  def_okx (k := 3) T.Memory_read.F sc_Memory_read fun A outer s H E hr => ⟨_, fun W tk => (pss_cons (ps_expr (pe_methX (pv 0) T.cl_Memory T.Memory_require_block.m (okx_Memory_require_block T hT) (hr.mono (by omega)) T.Memory_require_block.b (passAt tk) (pa_cons (pv 1) pa_nil)))
    (pss_one (ps_ret (pe_dget (hu_of hr) (pe_fldK (K := K) rfl (pv 0) rfl) (pv 1) (fun _ _ => rfl))))),
    (ssx_seq (ssx_drop (sex_meth arx_Memory_require_block (se_var 0) (sa_cons (se_var 1) sa_nil)))
    (ssx_lift (ss_ret (se_dget (se_fld T.cl_Memory T.na_Memory_numbers (se_var 0)) (se_var 1)))))⟩
theorem ok_Memory_write (T : Txt w K mg) (hT : Tbs T base) : FnOk P w K mg base CX0 2 T.Memory_write.f T.Memory_write.fd ["self", "address", "number"] (spD K T.tb 3 (m_Memory_write T.C_Memory T.C_NotAllocated)) :=
  def_ok (k := 1) T.Memory_write.F sc_Memory_write fun A outer s H E hr => ⟨_, (pss_cons (ps_expr (pe_meth (pv 0) T.cl_Memory T.Memory_require_block.m (ok_Memory_require_block T hT) (hr.mono (by omega)) T.Memory_require_block.b .nil pass0 (pa_cons (pv 1) pa_nil)))
    (pss_one (ps_dput (hu_of hr) (pe_fldK (K := K) rfl (pv 0) rfl) (pv 1) (pv 2) rfl))),
    (ss_seq (ss_drop (se_meth ar_Memory_require_block (se_var 0) (sa_cons (se_var 1) sa_nil)))
    (ss_dput (se_fld T.cl_Memory T.na_Memory_numbers (se_var 0)) (se_var 1) (se_var 2)))⟩
theorem okx_Memory_write (T : Txt w K mg) (hT : Tbs T base) : FnOk P w K mg base (L2.CX P w) 4 T.Memory_write.f T.Memory_write.fd ["self", "address", "number"] (spDx K T.tb 3 (mx_Memory_write T.C_Memory T.C_NotAllocated)) :=
  def_okx (k := 3) T.Memory_write.F sc_Memory_write fun A outer s H E hr => ⟨_, fun W tk => (pss_cons (ps_expr (pe_methX (pv 0) T.cl_Memory T.Memory_require_block.m (okx_Memory_require_block T hT) (hr.mono (by omega)) T.Memory_require_block.b (passAt tk) (pa_cons (pv 1) pa_nil)))
    (pss_one (ps_dput (hu_of hr) (pe_fldK (K := K) rfl (pv 0) rfl) (pv 1) (pv 2) rfl))),
    (ssx_seq (ssx_drop (sex_meth arx_Memory_require_block (se_var 0) (sa_cons (se_var 1) sa_nil)))
    (ssx_lift (ss_dput (se_fld T.cl_Memory T.na_Memory_numbers (se_var 0)) (se_var 1) (se_var 2))))⟩
theorem ok_Memory_blocks (T : Txt w K mg) (hT : Tbs T base) : FnOk P w K mg base CX0 1 T.Memory_blocks.f T.Memory_blocks.fd ["self"] (spD K T.tb 1 (m_Memory_blocks T.C_Memory T.C_NotAllocated)) :=
  def_ok (k := 0) T.Memory_blocks.F sc_Memory_blocks fun A outer s H E hr => ⟨_, (pss_one (ps_ret (pe_callTy (cr_lstK (K := K) rfl) rfl T.z_list PyProof.Rows.boot_list (pa_cons (pe_fldK (K := K) rfl (pv 0) rfl) pa_nil)))),
    (ss_ret (se_cb sc_listF (sa_cons (se_fld T.cl_Memory T.na_Memory_rows (se_var 0)) sa_nil)))⟩
theorem ok_law_alone (T : Txt w K mg) : FnX P w K mg base 1 T._law_alone.f T._law_alone.fd "problem" T.C_NotAllocated (.bl true) := by
  refine fnX_of T._law_alone.F sc__law_alone fun A outer s H Q p d hz hd hf q => ?_
  have hp : (p.1, p.2) ∈ (cxH CX0 P w K mg base ["problem"] "_law_alone" (defScope s__law_alone) T._law_alone.f (.ref T._law_alone.c) A outer s H (fun _ _ _ => False) p).pn := List.mem_cons_self
  refine ⟨_, (pss_cons (ps_if (PW.pt (pw_or (pt_val (pe_callB (call_isX T.xx_NotAllocated hp hz hf) rfl T.z_isinstance PyProof.Rows.boot_isinstance (pa_cons (pv 0) (pa_cons (pe_glob (v := .ref T.C_KindProblem) rfl T.g_KindProblem rfl) pa_nil)))) (pw_or (pt_val (pe_callB (call_isX T.xx_NotAllocated hp hz hf) rfl T.z_isinstance PyProof.Rows.boot_isinstance (pa_cons (pv 0) (pa_cons (pe_glob (v := .ref T.C_Refused) rfl T.g_Refused rfl) pa_nil)))) (pw_or1 (pt_val (pe_callB (call_isX T.xx_NotAllocated hp hz hf) rfl T.z_isinstance PyProof.Rows.boot_isinstance (pa_cons (pv 0) (pa_cons (pe_glob (v := .ref T.C_NoSuchStep) rfl T.g_NoSuchStep rfl) pa_nil)))))))) (pss_one (ps_ret pe_bl)) pss_nil)
    (pss_cons (ps_if (PW.pt (pw_or (pt_val (pe_callB (call_isX T.xx_NotAllocated hp hz hf) rfl T.z_isinstance PyProof.Rows.boot_isinstance (pa_cons (pv 0) (pa_cons (pe_glob (v := .ref T.C_NoSuchVariable) rfl T.g_NoSuchVariable rfl) pa_nil)))) (pw_or1 (pt_val (pe_callB (call_isX T.xx_NotAllocated hp hz hf) rfl T.z_isinstance PyProof.Rows.boot_isinstance (pa_cons (pv 0) (pa_cons (pe_glob (v := .ref T.C_NoSuchFunction) rfl T.g_NoSuchFunction rfl) pa_nil))))))) (pss_one (ps_ret pe_bl)) pss_nil)
    (pss_one (ps_ret (pe_and (pe_callB (call_isX T.xx_NotAllocated hp hz hf) rfl T.z_isinstance PyProof.Rows.boot_isinstance (pa_cons (pv 0) (pa_cons (pe_bltn (v := .ty "ValueError") rfl T.z_ValueError PyProof.Rows.Boot.«ValueError» rfl) pa_nil))) (pe_one (pe_callB (call_isX T.xx_NotAllocated hp hz hf) rfl T.z_isinstance PyProof.Rows.boot_isinstance (pa_cons (pv 0) (pa_cons (pe_glob (v := .ref T.C_NotAllocated) rfl T.g_NotAllocated rfl) pa_nil))))))))), ?_⟩
  refine ⟨_, rfl, _, _, false, rfl, fun u r => r, T.kt_NotAllocated_KindProblem, hd, _, rfl, iteF ⟨_, rfl, _, _, false, rfl, fun u r => r, T.kt_NotAllocated_Refused, hd, _, rfl, iteF ⟨_, rfl, _, _, false, rfl, fun u r => r, T.kt_NotAllocated_NoSuchStep, hd, _, rfl, iteF ?_⟩⟩⟩
  refine ⟨_, rfl, _, _, false, rfl, fun u r => r, T.kt_NotAllocated_NoSuchVariable, hd, _, rfl, iteF ⟨_, rfl, _, _, false, rfl, fun u r => r, T.kt_NotAllocated_NoSuchFunction, hd, _, rfl, iteF ?_⟩⟩
  exact ⟨_, rfl, _, _, true, rfl, fun u r => r, T.kt_NotAllocated_ValueError, hd, _, rfl, iteT ⟨_, rfl, _, _, true, rfl, fun u r => r, T.kt_NotAllocated_NotAllocated, hd, q⟩⟩
end
end k31
namespace k31
open PySem PySem.Spec PyProof.Rows L2 L2H GxR Gx Pd
section
variable {P : Program} {w : World} {K : PySem.W.Frag} {mg : Str → Option Value} {base : Heap}
theorem catches_law_raises (T : Txt w K mg) : ∀ x ρ S r, h_law_raises T.C_Memory T.C_NotAllocated x ρ S = some r → PySem.W.exmOne K (.ref x.C) (.ref T.C_ForkError) = some true := fun x ρ S r h => by
  unfold h_law_raises at h
  split at h
  · rename_i hC
    rw [hC]
    exact T.xm_NotAllocated_ForkError
  · cases h
theorem suite_law_raises (T : Txt w K mg) {x : Ex} {A : Wd} {σ : L2.St} {ρ : Env'} {S : Mem} {d : Option Addr} {a : Addr} {o : Out} {ρ' : Env'} {S' : Mem} {D : Ends} (R : Rep K T.tb A S) (E : ER K T.tb A σ ρ) (X : XD K T.tb A d x.fs) (hσ : σ[3]? = some (some (.ref a)))
    (e : h_law_raises T.C_Memory T.C_NotAllocated x ρ S = some (o, ρ', S')) (q : FinK K T.tb D A o ρ' S') : Value.ref x.C = .ref T.C_NotAllocated ∧ tRet (tAndV (tCallX a d (.bl true) (tCons (tVar 3) tNil)) (tOp (rEqA K) (tXf a (.ref x.C) d T.C_NotAllocated "address" (tVar 3)) (tVar 2))) D σ A.H := by
  unfold h_law_raises at e
  split at e
  · rename_i hC
    obtain ⟨⟨w1, S1⟩, e1, e2⟩ := Option.bind_eq_some_iff.mp e
    cases e2
    obtain ⟨i, e3, e4⟩ := Option.bind_eq_some_iff.mp e1
    obtain ⟨⟨w2, S2⟩, e5, e6⟩ := Option.bind_eq_some_iff.mp e4
    dsimp only at e6
    split at e6
    · rename_i j
      cases e6
      unfold eVar at e5
      split at e5
      · rename_i w3 hw
        cases e5
        obtain ⟨v2, hv2, r2⟩ := E.2 2 _ hw
        obtain rfl := WR.int r2
        unfold exI at e3
        split at e3
        · cases e3
        · rename_i fs hfs
          split at e3
          · rename_i i' hl
            cases e3
            rw [hfs] at X
            obtain ⟨dd, vs, rfl, hm, hdd, pf⟩ := X
            obtain ⟨v, hv, rv⟩ := pf.some hl
            obtain rfl := WR.int rv
            refine ⟨by rw [hC], .ref a, hσ, rfl, .inr ⟨dd, vs, rfl, hdd⟩, true, rfl, iteT ⟨.ref a, hσ, rfl, by rw [hC], dd, vs, .int i, rfl, hdd, hv, .int j, hv2, ?_⟩⟩
            exact sr_eq (tb := T.tb) A _ _ (.d (.int i)) (.d (.int j)) S _ S _ R (DR.int _) (DR.int _) rfl fun v B N R1 r1 => q B v N R1 r1
          · cases e3
      · cases e5
    · cases e6
  · cases e
theorem ok_law_raises (T : Txt w K mg) (hT : Tbs T base) : FnOk P w K mg base CX0 5 T._law_raises.f T._law_raises.fd ["memory", "what", "address"] (spD K T.tb 3 (m_law_raises T.C_Memory T.C_NotAllocated)) :=
  def_ok (k := 4) T._law_raises.F sc__law_raises fun A outer s H E hr => ⟨_, (pss_cons (ps_try_as (Wout := fun _ _ _ _ => False) rfl rfl sc__law_raises.nd (i := 3) rfl rfl ⟨rfl, by decide, Or.inl T.g_ForkError⟩ takes0x (fun W pn ye tk po => (pss_one (ps_if (pt_cmpR (op_eqAK (K := K) rfl hr.units) (pv 1) pe_int (nomark _)) (pss_one (ps_expr (pe_methX (pv 0) T.cl_Memory T.Memory_read.m (okx_Memory_read T hT) (hr.mono (by omega)) T.Memory_read.b (passAt tk) (pa_cons (pv 2) pa_nil)))) (pss_one (ps_if (pt_cmpR (op_eqAK (K := K) rfl hr.units) (pv 1) pe_int (nomark _)) (pss_one (ps_expr (pe_methX (pv 0) T.cl_Memory T.Memory_write.m (okx_Memory_write T hT) (hr.mono (by omega)) T.Memory_write.b (passAt tk) (pa_cons (pv 2) (pa_cons pe_int pa_nil))))) (pss_one (ps_expr (pe_methX (pv 0) T.cl_Memory T.Memory_release.m (okx_Memory_release T hT) (hr.mono (by omega)) T.Memory_release.b (passAt tk) (pa_cons (pv 2) pa_nil)))))))))
    (fun a oe cls d pn hz hf => (pss_given (p := cls = .ref T.C_NotAllocated) fun hC => have hz2 : Zc (.ref T.C_NotAllocated) d oe := hC ▸ hz; (pss_one (ps_ret (pe_and (pe_callX (ok_law_alone T) ⟨(hr.mono (j := 1) (by omega)).dp, (hr.mono (j := 1) (by omega)).un⟩ List.mem_cons_self hz2 hf rfl T._law_alone.g T._law_alone.F.kp T._law_alone.b (pa_cons (pv 3) pa_nil)) (pe_one (pe_cmpR (op_eqAK (K := K) rfl hr.units) (pe_xf T.xf_NotAllocated T.nx_NotAllocated_address hz hf (pv 3)) (pv 2) (nomark _))))))))) (pss_one (ps_ret pe_bl))),
    (ss_seq (ss_try (ssx_if (st_test (se_op sr_eq (se_var 1) se_int)) (ssx_drop (sex_meth arx_Memory_read (se_var 0) (sa_cons (se_var 2) sa_nil))) (ssx_if (st_test (se_op sr_eq (se_var 1) se_int)) (ssx_drop (sex_meth arx_Memory_write (se_var 0) (sa_cons (se_var 2) (sa_cons se_int sa_nil)))) (ssx_drop (sex_meth arx_Memory_release (se_var 0) (sa_cons (se_var 2) sa_nil))))) (catches_law_raises T) (fun x A σ ρ S d a o ρ' S' D R E X ha hσ e q => suite_law_raises T R E X hσ e q)) (ss_ret se_bl))⟩
theorem ok_law_agrees (T : Txt w K mg) (hT : Tbs T base) : FnOk P w K mg base CX0 6 T._law_agrees.f T._law_agrees.fd ["memory", "due", "starts", "top"] (spD K T.tb 4 (m_law_agrees T.C_Memory T.C_NotAllocated)) :=
  def_ok (k := 5) T._law_agrees.F sc__law_agrees fun A outer s H E hr => ⟨_, (pss_cons (ps_for PassesOwn.never rfl (pi_range2 (by rfl) T.z_range (pa_cons (pe_op op_sub pe_int pe_int) (pa_cons (pe_op (op_plusK (K := K) rfl) (pv 3) pe_int) pa_nil))) (pg_name (i := 4) sc__law_agrees.nd rfl (Or.inl rfl)) (pss_cons (ps_if (pt_cmp (pc_din (hu_of hr) (pv 4) (pv 1))) (pss_one (ps_if (pt_cmpR (op_neAK (K := K) rfl hr.units) (pe_meth (pv 0) T.cl_Memory T.Memory_read.m (ok_Memory_read T hT) (hr.mono (by omega)) T.Memory_read.b .nil pass0 (pa_cons (pv 4) pa_nil)) (pe_dget (hu_of hr) (pv 1) (pv 4) (fun _ _ => rfl)) (nomark _)) (pss_one (ps_ret pe_bl)) pss_nil)) (pss_one (ps_if (PW.pt (pw_or (pt_not (pt_val (pe_call (ok_law_raises T hT) (hr.mono (by omega)) rfl T._law_raises.g T._law_raises.F.kp T._law_raises.b .nil pass0 (pa_cons (pv 0) (pa_cons pe_int (pa_cons (pv 4) pa_nil)))))) (pw_or1 (pt_not (pt_val (pe_call (ok_law_raises T hT) (hr.mono (by omega)) rfl T._law_raises.g T._law_raises.F.kp T._law_raises.b .nil pass0 (pa_cons (pv 0) (pa_cons pe_int (pa_cons (pv 4) pa_nil))))))))) (pss_one (ps_ret pe_bl)) pss_nil)))
    (pss_one (ps_if (PW.pt (pw_and (pt_cmpR (op_ninK (K := K) rfl) (pv 4) (pv 2) (by rfl)) (pw_and1 (pt_not (pt_val (pe_call (ok_law_raises T hT) (hr.mono (by omega)) rfl T._law_raises.g T._law_raises.F.kp T._law_raises.b .nil pass0 (pa_cons (pv 0) (pa_cons pe_int (pa_cons (pv 4) pa_nil))))))))) (pss_one (ps_ret pe_bl)) pss_nil))))
    (pss_cons (ps_lock (ps_for PassesOwn.never rfl (pi_keys (pv 1)) (pg_name (i := 4) sc__law_agrees.nd rfl (Or.inl rfl)) (pss_one (ps_if (pt_cmpR (op_neAK (K := K) rfl hr.units) (pe_meth (pv 0) T.cl_Memory T.Memory_read.m (ok_Memory_read T hT) (hr.mono (by omega)) T.Memory_read.b .nil pass0 (pa_cons (pv 4) pa_nil)) (pe_dget (hu_of hr) (pv 1) (pv 4) (fun _ _ => rfl)) (nomark _)) (pss_one (ps_ret pe_bl)) pss_nil))))
    (pss_one (ps_ret pe_bl)))),
    (ss_seq (ss_for (si_rng2 (sa_cons (se_op sr_sub se_int se_int) (sa_cons (se_op (sr_plus (L := false)) (se_var 3) se_int) sa_nil))) (sg_name 4) (ss_seq (ss_if (st_val (se_din (se_var 4) (se_var 1))) (ss_if (st_test (se_op sr_ne (se_meth ar_Memory_read (se_var 0) (sa_cons (se_var 4) sa_nil)) (se_dgetR (se_var 1) (se_var 4)))) (ss_ret se_bl) ss_nil) (ss_if (st_or (st_not (st_val (se_call ar_law_raises (sa_cons (se_var 0) (sa_cons se_int (sa_cons (se_var 4) sa_nil)))))) (st_not (st_val (se_call ar_law_raises (sa_cons (se_var 0) (sa_cons se_int (sa_cons (se_var 4) sa_nil))))))) (ss_ret se_bl) ss_nil))
    (ss_if (st_and (st_test (se_op (sr_in (n := true)) (se_var 4) (se_var 2))) (st_not (st_val (se_call ar_law_raises (sa_cons (se_var 0) (sa_cons se_int (sa_cons (se_var 4) sa_nil))))))) (ss_ret se_bl) ss_nil)))
    (ss_seq (ss_lock (tg := lkV 1) (ss_for (si_keys (se_var 1)) (sg_name 4) (ss_if (st_test (se_op sr_ne (se_meth ar_Memory_read (se_var 0) (sa_cons (se_var 4) sa_nil)) (se_dgetR (se_var 1) (se_var 4)))) (ss_ret se_bl) ss_nil)))
    (ss_ret se_bl)))⟩
theorem ok_law (T : Txt w K mg) (hT : Tbs T base) : FnOk P w K mg base CX0 7 T.law.f T.law.fd ["script"] (spD K T.tb 1 (m_law T.C_Memory T.C_NotAllocated)) :=
  def_ok (k := 6) T.law.F sc_law fun A outer s H E hr => ⟨_, (pss_cons (ps_set (i := 1) sc_law.nd rfl (Or.inl rfl) (pe_make0 T.mk_Memory (ok_Memory_init T hT) (hr.mono (by omega)) rfl T.g_Memory T.Memory___init__.b .nil pass0))
    (pss_cons (ps_set (i := 2) sc_law.nd rfl (Or.inl rfl) (pe_make0 T.mk_Memory (ok_Memory_init T hT) (hr.mono (by omega)) rfl T.g_Memory T.Memory___init__.b .nil pass0))
    (pss_cons (ps_set (i := 3) sc_law.nd rfl (Or.inr rfl) pe_dnewK)
    (pss_cons (ps_set (i := 4) sc_law.nd rfl (Or.inl rfl) pe_dnewK)
    (pss_cons (ps_set (i := 5) sc_law.nd rfl (Or.inl rfl) (pe_lst pa_nil))
    (pss_cons (ps_set (i := 6) sc_law.nd rfl (Or.inl rfl) (pe_lst pa_nil))
    (pss_cons (ps_for PassesOwn.never rfl (pi_lstK (K := K) rfl (pe_slice (sl_allK (K := K) rfl) (pv 0) po_none (po_some pe_int))) (pg_name (i := 7) sc_law.nd rfl (Or.inl rfl)) (pss_cons (ps_set (i := 8) sc_law.nd rfl (Or.inl rfl) (pe_op (op_plusK (K := K) rfl) pe_int (pe_op op_mod (pe_callTy call_int1 rfl T.z_int PyProof.Rows.boot_int (pa_cons (pv 7) pa_nil)) pe_int)))
    (pss_cons (ps_set (i := 9) sc_law.nd rfl (Or.inl rfl) (pe_meth (pv 1) T.cl_Memory T.Memory_allocate.m (ok_Memory_allocate T hT) (hr.mono (by omega)) T.Memory_allocate.b .nil pass0 (pa_cons (pv 8) pa_nil)))
    (pss_cons (ps_expr (pe_bm PySem.F.plainAttrs_list PySem.F.slot_list_append PySem.F.type_list_append mt_append (pv 5) (pa_cons (pv 9) pa_nil)))
    (pss_cons (ps_for PassesOwn.never rfl (pi_range1 (by rfl) T.z_range (pa_cons (pv 8) pa_nil)) (pg_name (i := 10) sc_law.nd rfl (Or.inl rfl)) (pss_one (ps_dput (hu_of hr) (pv 3) (pe_op (op_plusK (K := K) rfl) (pv 9) (pv 10)) pe_int rfl)))
    (pss_cons (ps_set (i := 9) sc_law.nd rfl (Or.inl rfl) (pe_meth (pv 2) T.cl_Memory T.Memory_allocate.m (ok_Memory_allocate T hT) (hr.mono (by omega)) T.Memory_allocate.b .nil pass0 (pa_cons (pe_op op_sub pe_int (pv 8)) pa_nil)))
    (pss_cons (ps_expr (pe_bm PySem.F.plainAttrs_list PySem.F.slot_list_append PySem.F.type_list_append mt_append (pv 6) (pa_cons (pv 9) pa_nil)))
    (pss_one (ps_for PassesOwn.never rfl (pi_range1 (by rfl) T.z_range (pa_cons (pe_op op_sub pe_int (pv 8)) pa_nil)) (pg_name (i := 10) sc_law.nd rfl (Or.inl rfl)) (pss_one (ps_dput (hu_of hr) (pv 4) (pe_op (op_plusK (K := K) rfl) (pv 9) (pv 10)) pe_int rfl)))))))))))
    (pss_cons (ps_set (i := 11) sc_law.nd rfl (Or.inl rfl) (pe_op (op_plusK (K := K) rfl) (pe_op (op_plusK (K := K) rfl) (pe_callB call_lenD rfl T.z_len PySem.boot_len (pa_cons (pv 3) pa_nil)) (pe_callB call_lenD rfl T.z_len PySem.boot_len (pa_cons (pv 4) pa_nil))) pe_int))
    (pss_cons (ps_lock (ps_setLc (i := 13) (own := [("address", 12)]) (tt := tYes) rfl sc_law.nd rfl rfl (sw_true rfl rfl rfl (by decide +kernel)) (pi_keys (pv 3)) (blkOk_by (N := ["script", "first", "second", "due", "other", "starts", "others", "cell", "size", "start", "k", "top", "address", "places", "cells", "number", "kept"]) (sc := defScope s_law) (by decide +kernel)) (fun _ _ _ _ _ => (pg_name (i := 12) sc_law.nd rfl (Or.inl rfl))) (fun _ _ _ _ _ => pts_nil) (fun _ _ _ _ _ => (pv 12))))
    (pss_cons (ps_lock (ps_setLc (i := 14) (own := [("address", 12)]) (tt := tYes) rfl sc_law.nd rfl rfl (sw_true rfl rfl rfl (by decide +kernel)) (pi_keys (pv 4)) (blkOk_by (N := ["script", "first", "second", "due", "other", "starts", "others", "cell", "size", "start", "k", "top", "address", "places", "cells", "number", "kept"]) (sc := defScope s_law) (by decide +kernel)) (fun _ _ _ _ _ => (pg_name (i := 12) sc_law.nd rfl (Or.inl rfl))) (fun _ _ _ _ _ => pts_nil) (fun _ _ _ _ _ => (pv 12))))
    (pss_cons (ps_for PassesOwn.never rfl (pi_lstK (K := K) rfl (pe_slice (sl_allK (K := K) rfl) (pv 0) po_none (po_some pe_int))) (pg_name (i := 7) sc_law.nd rfl (Or.inl rfl)) (pss_cons (ps_if (pt_cmpR op_gt (pe_callB (cr_lenK (K := K) rfl) rfl T.z_len PySem.boot_len (pa_cons (pv 13) pa_nil)) pe_int (nomark _)) (pss_cons (ps_set (i := 12) sc_law.nd rfl (Or.inl rfl) (pe_ix (ix_seqK (K := K) rfl) (pv 13) (pe_op op_mod (pe_callTy call_int1 rfl T.z_int PyProof.Rows.boot_int (pa_cons (pv 7) pa_nil)) (pe_callB (cr_lenK (K := K) rfl) rfl T.z_len PySem.boot_len (pa_cons (pv 13) pa_nil))) (fun _ _ => rfl)))
    (pss_cons (ps_set (i := 15) sc_law.nd rfl (Or.inl rfl) (pe_op op_sub (pe_op op_mod (pe_op op_fdivW (pe_callTy call_int1 rfl T.z_int PyProof.Rows.boot_int (pa_cons (pv 7) pa_nil)) pe_int) pe_int) pe_int))
    (pss_cons (ps_expr (pe_meth (pv 1) T.cl_Memory T.Memory_write.m (ok_Memory_write T hT) (hr.mono (by omega)) T.Memory_write.b .nil pass0 (pa_cons (pv 12) (pa_cons (pv 15) pa_nil))))
    (pss_one (ps_dput (hu_of hr) (pv 3) (pv 12) (pv 15) rfl))))) pss_nil)
    (pss_one (ps_if (PW.pt (pw_and (pt_cmpR op_gt (pe_callB (cr_lenK (K := K) rfl) rfl T.z_len PySem.boot_len (pa_cons (pv 6) pa_nil)) pe_int (nomark _)) (pw_and1 (pt_cmpR (op_eqAK (K := K) rfl hr.units) (pe_op op_mod (pe_callTy call_int1 rfl T.z_int PyProof.Rows.boot_int (pa_cons (pv 7) pa_nil)) pe_int) pe_int (nomark _))))) (pss_cons (ps_set (i := 12) sc_law.nd rfl (Or.inl rfl) (pe_ix (ix_seqK (K := K) rfl) (pv 14) (pe_op op_mod (pe_op op_fdivW (pe_callTy call_int1 rfl T.z_int PyProof.Rows.boot_int (pa_cons (pv 7) pa_nil)) pe_int) (pe_callB (cr_lenK (K := K) rfl) rfl T.z_len PySem.boot_len (pa_cons (pv 14) pa_nil))) (fun _ _ => rfl)))
    (pss_cons (ps_expr (pe_meth (pv 2) T.cl_Memory T.Memory_write.m (ok_Memory_write T hT) (hr.mono (by omega)) T.Memory_write.b .nil pass0 (pa_cons (pv 12) (pa_cons (pe_op op_mod (pe_callTy call_int1 rfl T.z_int PyProof.Rows.boot_int (pa_cons (pv 7) pa_nil)) pe_int) pa_nil))))
    (pss_one (ps_dput (hu_of hr) (pv 4) (pv 12) (pe_op op_mod (pe_callTy call_int1 rfl T.z_int PyProof.Rows.boot_int (pa_cons (pv 7) pa_nil)) pe_int) rfl)))) pss_nil))))
    (pss_cons (ps_if (pt_cmpR op_gt (pe_callB (cr_lenK (K := K) rfl) rfl T.z_len PySem.boot_len (pa_cons (pv 5) pa_nil)) pe_int (nomark _)) (pss_cons (ps_expr (pe_meth (pv 1) T.cl_Memory T.Memory_release.m (ok_Memory_release T hT) (hr.mono (by omega)) T.Memory_release.b .nil pass0 (pa_cons (pe_ix (ix_seqK (K := K) rfl) (pv 5) pe_int (fun _ _ => rfl)) pa_nil)))
    (pss_cons (ps_set (i := 8) sc_law.nd rfl (Or.inl rfl) (pe_op (op_plusK (K := K) rfl) pe_int (pe_op op_mod (pe_callTy call_int1 rfl T.z_int PyProof.Rows.boot_int (pa_cons (pe_ix (ix_seqK (K := K) rfl) (pv 0) pe_int (fun _ _ => rfl)) pa_nil)) pe_int)))
    (pss_cons (ps_set (i := 16) sc_law.nd rfl (Or.inl rfl) pe_dnewK)
    (pss_cons (ps_lock (ps_for PassesOwn.never rfl (pi_keys (pv 3)) (pg_name (i := 12) sc_law.nd rfl (Or.inl rfl)) (pss_one (ps_if (PW.pt (pw_or (pt_cmpR op_lt (pv 12) (pe_ix (ix_seqK (K := K) rfl) (pv 5) pe_int (fun _ _ => rfl)) (nomark _)) (pw_or1 (pt_cmpR op_ge (pv 12) (pe_op (op_plusK (K := K) rfl) (pe_ix (ix_seqK (K := K) rfl) (pv 5) pe_int (fun _ _ => rfl)) (pv 8)) (nomark _))))) (pss_one (ps_dput (hu_of hr) (pv 16) (pv 12) (pe_dget (hu_of hr) (pv 3) (pv 12) (fun _ _ => rfl)) rfl)) pss_nil))))
    (pss_cons (ps_set (i := 3) sc_law.nd rfl (Or.inr rfl) (pv 16))
    (pss_one (ps_setLc (i := 5) (own := [("start", 9)]) rfl sc_law.nd rfl rfl (sw_true rfl rfl rfl (by decide +kernel)) (pi_lstK (K := K) rfl (pv 5)) (blkOk_by (N := ["script", "first", "second", "due", "other", "starts", "others", "cell", "size", "start", "k", "top", "address", "places", "cells", "number", "kept"]) (sc := defScope s_law) (by decide +kernel)) (fun _ _ _ _ _ => (pg_name (i := 9) sc_law.nd rfl (Or.inl rfl))) (fun _ _ _ _ _ => pts_one (pt_cmp (pc_din (hu_of hr) (pv 9) (pv 3)))) (fun _ _ _ _ _ => (pv 9))))))))) pss_nil)
    (pss_cons (ps_set (i := 9) sc_law.nd rfl (Or.inl rfl) (pe_meth (pv 1) T.cl_Memory T.Memory_allocate.m (ok_Memory_allocate T hT) (hr.mono (by omega)) T.Memory_allocate.b .nil pass0 (pa_cons (pe_op (op_plusK (K := K) rfl) pe_int (pe_op op_mod (pe_callB (cr_lenK (K := K) rfl) rfl T.z_len PySem.boot_len (pa_cons (pv 0) pa_nil)) pe_int)) pa_nil)))
    (pss_cons (ps_for PassesOwn.never rfl (pi_range1 (by rfl) T.z_range (pa_cons (pe_op (op_plusK (K := K) rfl) pe_int (pe_op op_mod (pe_callB (cr_lenK (K := K) rfl) rfl T.z_len PySem.boot_len (pa_cons (pv 0) pa_nil)) pe_int)) pa_nil)) (pg_name (i := 10) sc_law.nd rfl (Or.inl rfl)) (pss_cons (ps_if (pt_cmp (pc_din (hu_of hr) (pe_op (op_plusK (K := K) rfl) (pv 9) (pv 10)) (pv 3))) (pss_one (ps_ret pe_bl)) pss_nil)
    (pss_one (ps_dput (hu_of hr) (pv 3) (pe_op (op_plusK (K := K) rfl) (pv 9) (pv 10)) pe_int rfl))))
    (pss_cons (ps_expr (pe_bm PySem.F.plainAttrs_list PySem.F.slot_list_append PySem.F.type_list_append mt_append (pv 5) (pa_cons (pv 9) pa_nil)))
    (pss_one (ps_ret (pe_and (pe_call (ok_law_agrees T hT) (hr.mono (by omega)) rfl T._law_agrees.g T._law_agrees.F.kp T._law_agrees.b .nil pass0 (pa_cons (pv 1) (pa_cons (pv 3) (pa_cons (pv 5) (pa_cons (pv 11) pa_nil))))) (pe_one (pe_call (ok_law_agrees T hT) (hr.mono (by omega)) rfl T._law_agrees.g T._law_agrees.F.kp T._law_agrees.b .nil pass0 (pa_cons (pv 2) (pa_cons (pv 4) (pa_cons (pv 6) (pa_cons (pv 11) pa_nil)))))))))))))))))))))))),
    (ss_seq (ss_asg (se_make ar_Memory_init sa_nil) (sg_name 1))
    (ss_seq (ss_asg (se_make ar_Memory_init sa_nil) (sg_name 2))
    (ss_seq (ss_asg se_dnew (sg_name 3))
    (ss_seq (ss_asg se_dnew (sg_name 4))
    (ss_seq (ss_asg (se_lstL sa_nil) (sg_name 5))
    (ss_seq (ss_asg (se_lstL sa_nil) (sg_name 6))
    (ss_seq (ss_for (si_lst (se_sl (L := false) (se_var 0) so_none (so_some se_int))) (sg_name 7) (ss_seq (ss_asg (se_op (sr_plus (L := false)) se_int (se_op sr_mod (se_cb sc_int (sa_cons (se_var 7) sa_nil)) se_int)) (sg_name 8))
    (ss_seq (ss_asg (se_meth ar_Memory_allocate (se_var 1) (sa_cons (se_var 8) sa_nil)) (sg_name 9))
    (ss_seq (ss_drop (se_bm sm_append (se_var 5) (sa_cons (se_var 9) sa_nil)))
    (ss_seq (ss_for (si_rng1 (sa_cons (se_var 8) sa_nil)) (sg_name 10) (ss_dput (se_var 3) (se_op (sr_plus (L := false)) (se_var 9) (se_var 10)) se_int))
    (ss_seq (ss_asg (se_meth ar_Memory_allocate (se_var 2) (sa_cons (se_op sr_sub se_int (se_var 8)) sa_nil)) (sg_name 9))
    (ss_seq (ss_drop (se_bm sm_append (se_var 6) (sa_cons (se_var 9) sa_nil)))
    (ss_for (si_rng1 (sa_cons (se_op sr_sub se_int (se_var 8)) sa_nil)) (sg_name 10) (ss_dput (se_var 4) (se_op (sr_plus (L := false)) (se_var 9) (se_var 10)) se_int)))))))))
    (ss_seq (ss_asg (se_op (sr_plus (L := false)) (se_op (sr_plus (L := false)) (se_cb sc_lenD (sa_cons (se_var 3) sa_nil)) (se_cb sc_lenD (sa_cons (se_var 4) sa_nil))) se_int) (sg_name 11))
    (ss_seq (ss_lock (tg := lkV 3) (ss_asg (se_lc smk_F (si_keys (se_var 3)) (sg_name 12) (by decide) st_yes (se_var 12)) (sg_name 13)))
    (ss_seq (ss_lock (tg := lkV 4) (ss_asg (se_lc smk_F (si_keys (se_var 4)) (sg_name 12) (by decide) st_yes (se_var 12)) (sg_name 14)))
    (ss_seq (ss_for (si_lst (se_sl (L := false) (se_var 0) so_none (so_some se_int))) (sg_name 7) (ss_seq (ss_if (st_test (se_op sr_gt (se_cb sc_len (sa_cons (se_var 13) sa_nil)) se_int)) (ss_seq (ss_asg (se_op sr_ix (se_var 13) (se_op sr_mod (se_cb sc_int (sa_cons (se_var 7) sa_nil)) (se_cb sc_len (sa_cons (se_var 13) sa_nil)))) (sg_name 12))
    (ss_seq (ss_asg (se_op sr_sub (se_op sr_mod (se_op sr_div (se_cb sc_int (sa_cons (se_var 7) sa_nil)) se_int) se_int) se_int) (sg_name 15))
    (ss_seq (ss_drop (se_meth ar_Memory_write (se_var 1) (sa_cons (se_var 12) (sa_cons (se_var 15) sa_nil))))
    (ss_dput (se_var 3) (se_var 12) (se_var 15))))) ss_nil)
    (ss_if (st_and (st_test (se_op sr_gt (se_cb sc_len (sa_cons (se_var 6) sa_nil)) se_int)) (st_test (se_op sr_eq (se_op sr_mod (se_cb sc_int (sa_cons (se_var 7) sa_nil)) se_int) se_int))) (ss_seq (ss_asg (se_op sr_ix (se_var 14) (se_op sr_mod (se_op sr_div (se_cb sc_int (sa_cons (se_var 7) sa_nil)) se_int) (se_cb sc_len (sa_cons (se_var 14) sa_nil)))) (sg_name 12))
    (ss_seq (ss_drop (se_meth ar_Memory_write (se_var 2) (sa_cons (se_var 12) (sa_cons (se_op sr_mod (se_cb sc_int (sa_cons (se_var 7) sa_nil)) se_int) sa_nil))))
    (ss_dput (se_var 4) (se_var 12) (se_op sr_mod (se_cb sc_int (sa_cons (se_var 7) sa_nil)) se_int)))) ss_nil)))
    (ss_seq (ss_if (st_test (se_op sr_gt (se_cb sc_len (sa_cons (se_var 5) sa_nil)) se_int)) (ss_seq (ss_drop (se_meth ar_Memory_release (se_var 1) (sa_cons (se_op sr_ix (se_var 5) se_int) sa_nil)))
    (ss_seq (ss_asg (se_op (sr_plus (L := false)) se_int (se_op sr_mod (se_cb sc_int (sa_cons (se_op sr_ix (se_var 0) se_int) sa_nil)) se_int)) (sg_name 8))
    (ss_seq (ss_asg se_dnew (sg_name 16))
    (ss_seq (ss_lock (tg := lkV 3) (ss_for (si_keys (se_var 3)) (sg_name 12) (ss_if (st_or (st_test (se_op sr_lt (se_var 12) (se_op sr_ix (se_var 5) se_int))) (st_test (se_op sr_ge (se_var 12) (se_op (sr_plus (L := false)) (se_op sr_ix (se_var 5) se_int) (se_var 8))))) (ss_dput (se_var 16) (se_var 12) (se_dgetR (se_var 3) (se_var 12))) ss_nil)))
    (ss_seq (ss_asg (se_var 16) (sg_name 3))
    (ss_asg (se_lc smk_L (si_lst (se_var 5)) (sg_name 9) (by decide) (st_val (se_din (se_var 9) (se_var 3))) (se_var 9)) (sg_name 5))))))) ss_nil)
    (ss_seq (ss_asg (se_meth ar_Memory_allocate (se_var 1) (sa_cons (se_op (sr_plus (L := false)) se_int (se_op sr_mod (se_cb sc_len (sa_cons (se_var 0) sa_nil)) se_int)) sa_nil)) (sg_name 9))
    (ss_seq (ss_for (si_rng1 (sa_cons (se_op (sr_plus (L := false)) se_int (se_op sr_mod (se_cb sc_len (sa_cons (se_var 0) sa_nil)) se_int)) sa_nil)) (sg_name 10) (ss_seq (ss_if (st_val (se_din (se_op (sr_plus (L := false)) (se_var 9) (se_var 10)) (se_var 3))) (ss_ret se_bl) ss_nil)
    (ss_dput (se_var 3) (se_op (sr_plus (L := false)) (se_var 9) (se_var 10)) se_int)))
    (ss_seq (ss_drop (se_bm sm_append (se_var 5) (sa_cons (se_var 9) sa_nil)))
    (ss_ret (se_andV (se_call ar_law_agrees (sa_cons (se_var 1) (sa_cons (se_var 3) (sa_cons (se_var 5) (sa_cons (se_var 11) sa_nil))))) (se_call ar_law_agrees (sa_cons (se_var 2) (sa_cons (se_var 4) (sa_cons (se_var 6) (sa_cons (se_var 11) sa_nil))))))))))))))))))))))⟩
end
end k31
/-! the end of a row whose law is a mirror -/
namespace Pd
open PySem PySem.Spec PyProof.Rows L2 GxR Gx
theorem drs_ints {K : PySem.W.Frag} {tb : List Addr} {A : Wd} : ∀ ns : List Int, DRs K tb A (ns.map V.int) (ns.map PyData.int)
  | [] => .nil
  | n :: ns => .cons (.int n) (drs_ints ns)
theorem spD_law {K : PySem.W.Frag} {tb : List Addr} {m : MF} {ns : List Int} {S' : Mem} {a : Addr} {H : Hp} {E : XK} (hm : m [.d (.dict [(.none, .list (ns.map .int))])] [] = some (.d (.bool true), S')) (ht : ∀ P ∈ tb, H P = some (.tbl #[])) (hs : SqL K H a (ns.map V.int)) :
    spD K tb 1 m [.ref a] H (fun v _ => v = .bl true) E := by
  let A : Wd := ⟨H, [], []⟩
  have R : Rep K tb A [] := by
    refine ⟨rfl, List.nodup_nil, fun P hP => ⟨#[], ht P hP, trivial⟩, ?_, ?_⟩
    · intro b hb; cases hb
    · intro n a ob h; cases h
  have D : DR K tb A (.ref a) (.dict [(.none, .list (ns.map .int))]) := DR.scr ?_ (drs_ints ns)
  · exact ⟨rfl, A, [.d (.dict [(.none, .list (ns.map .int))])], [], _, S', rfl, .cons D .nil, R, hm, fun v B _ _ r => WR.bl r⟩
  rcases hs with r | r
  · refine .inl ⟨fun z => ?_, r⟩
    have hat : a ∈ tb := z.elim (fun z => nomatch z) fun z => z.elim id fun z => nomatch z
    have ha := ht a hat
    rcases r with r | ⟨o, r⟩
    · rw [ha] at r; cases r
    · rw [ha] at r; cases r
  · exact .inr (.inr r)
theorem tab_in {K : PySem.W.Frag} {x : Str} {f c P : Addr} {oc : Value} {od : Option Addr} {fd : FuncData} {sl : Array (Option Value)} {e : Value} {dd : Option Addr} {vs : Array Value} {sm : Array (Option Value)}
    (a : PySem.W.nsIn K mainGlobals x = some (some (.ref f))) (l : K.lookup f = some ⟨oc, od, .func fd, sl⟩) (hc : fd.code = .ref c) (m : K.lookup c = some ⟨e, dd, .fields vs, sm⟩) (v : (vs[11]? : Option Value) = some (.ref P)) : PySem.W.tabIn K x = some (c, P) := by
  unfold PySem.W.tabIn
  simp only [a, l, hc, m, v]
/-- the head's heap at every def's table -/
def TabsOf (q : Program) (K : PySem.W.Frag) (h : Heap) : Prop := ∀ (x : Str) (c P : Addr), ((recsOf q).find? fun e => e.name == x).isSome = true → PySem.W.tabIn K x = some (c, P) → PySem.W.CodeHd h c P ∧ h.get? P = some { cls := .none, data := .fields #[] }
theorem walk_tabs {l : PySem.W.OpenLaw} {n k : Nat} {q : Program} {loose : List Str} {XP : (Str → Option Value) → Heap → Prop} {YP : World → Heap → Prop} {d : DefRec} {K : Params → PySem.W.Frag} {CX : World → CXT} {x : Str}
    (hn : l.most = some n) (hn2 : n ≤ sizeLine) (hdf : d.params.defaults = []) (hr : Room k callerA) (hY : ∀ (w : World) (h : Heap), YP w h → (K w.params).In h)
    (F : ∀ (w : World) (mg : Str → Option Value) (fa : Addr) (h : Heap), (K w.params).In h → h.Ns mainGlobals mg → mg d.name = some (.ref fa) → TabsOf q (K w.params) h → LamX.LawAtS l w (K w.params) (CX w) k n x mg fa h)
    (hCX : ∀ (w : World) (H : Hp) (s : Shared) (e : Value) (s' : Shared), CX w [] H s (fun _ _ _ => False) e s' → False) :
    PySem.W.WalkO q loose XP YP l.row.toRowW d [] (fun f vs => PySem.call f vs) :=
  Att.attach_callB hn hdf fun w s₀ s₁ mg mb fa o pm cd doc a vs ns G Y ho hd hcd hmg hobj hints hlen hbits hg =>
    have KX := hY w _ Y
    have tabs : TabsOf q (K w.params) s₁.heap := fun y c P hr ht => by
      obtain ⟨r, e⟩ := Option.isSome_iff_exists.mp hr
      exact PySem.W.tab_of G.T KX e ht
    let ⟨fd, cs, sp, hT, nT, C, hb, hsp, hF⟩ := F w mg fa _ KX G.T.g hmg tabs
    LamX.law_callTs KX G.T.g G.T.b G.T.builtins G.T.nolimit hg hT nT C G.T.bmain hobj hints (Nat.le_trans hlen hn2) hr hF hb (fun H hH hS => hsp H a ns hlen hbits hH hS) fun H e s' => hCX w H s₁ e s'
theorem tabG_of {base : Heap} {mg : Str → Option Value} {c P : Addr} (h : LamX.TabB base mg c P) : TabB base mg c P := ⟨h.code, h.bm, h.gP⟩
end Pd
namespace k31
open PySem PySem.Spec PyProof.Rows L2 L2H GxR Gx Pd
theorem all_mk {l : PySem.W.OpenLaw} {q : Program} {w : World} {K : PySem.W.Frag} {h : Heap} {mg : Str → Option Value} {fa : Addr} (X : K.In h) (G : h.Ns mainGlobals mg) (hfa : mg "law" = some (.ref fa)) (TT : TabsOf q K h)
    {C_Memory : Addr}
    {C_ForkError : Addr}
    {C_KindProblem : Addr}
    {C_NoSuchFunction : Addr}
    {C_NoSuchStep : Addr}
    {C_NoSuchVariable : Addr}
    {C_Refused : Addr}
    {C_NotAllocated : Addr}
    {ef_NotAllocated ed_NotAllocated : Addr} {eo_NotAllocated en_NotAllocated : Option Addr} {es_NotAllocated : Array (Option Value)} {eq_NotAllocated eV_NotAllocated eD_NotAllocated ep_NotAllocated ey_NotAllocated : Value}
    {on_NotAllocated oq_NotAllocated : Str} {oN_NotAllocated : Addr} {ob_NotAllocated om_NotAllocated ou_NotAllocated : List Value} {ok_NotAllocated : List Str} {oa_NotAllocated : Bool} {oc_NotAllocated : Option Bool} {od_NotAllocated : Option Addr} {o0_NotAllocated o1_NotAllocated o2_NotAllocated o3_NotAllocated o5_NotAllocated : Option Value}
    {f0 cd0 : Addr} {od0 an0 : Option Addr} {sl0 : Array (Option Value)} {oc0 kV0 dc0 pm0 ct0 : Value}
    {f1 cd1 : Addr} {od1 an1 : Option Addr} {sl1 : Array (Option Value)} {oc1 kV1 dc1 pm1 ct1 : Value}
    {f2 cd2 : Addr} {od2 an2 : Option Addr} {sl2 : Array (Option Value)} {oc2 kV2 dc2 pm2 ct2 : Value}
    {f3 cd3 : Addr} {od3 an3 : Option Addr} {sl3 : Array (Option Value)} {oc3 kV3 dc3 pm3 ct3 : Value}
    {f4 cd4 : Addr} {od4 an4 : Option Addr} {sl4 : Array (Option Value)} {oc4 kV4 dc4 pm4 ct4 : Value}
    {f5 cd5 : Addr} {od5 an5 : Option Addr} {sl5 : Array (Option Value)} {oc5 kV5 dc5 pm5 ct5 : Value}
    {f6 cd6 : Addr} {od6 an6 : Option Addr} {sl6 : Array (Option Value)} {oc6 kV6 dc6 pm6 ct6 : Value}
    {f7 cd7 : Addr} {od7 an7 : Option Addr} {sl7 : Array (Option Value)} {oc7 kV7 dc7 pm7 ct7 : Value}
    {f8 cd8 : Addr} {od8 an8 : Option Addr} {sl8 : Array (Option Value)} {oc8 kV8 dc8 pm8 ct8 : Value}
    {f9 cd9 : Addr} {od9 an9 : Option Addr} {sl9 : Array (Option Value)} {oc9 kV9 dc9 pm9 ct9 : Value}
    {f10 cd10 : Addr} {od10 an10 : Option Addr} {sl10 : Array (Option Value)} {oc10 kV10 dc10 pm10 ct10 : Value}
    (z_len : PySem.W.nsIn K mainGlobals "len" = some none)
    (z_int : PySem.W.nsIn K mainGlobals "int" = some none)
    (z_range : PySem.W.nsIn K mainGlobals "range" = some none)
    (z_tuple : PySem.W.nsIn K mainGlobals "tuple" = some none)
    (z_list : PySem.W.nsIn K mainGlobals "list" = some none)
    (z_isinstance : PySem.W.nsIn K mainGlobals "isinstance" = some none)
    (z_ValueError : PySem.W.nsIn K mainGlobals "ValueError" = some none)
    (gc_Memory : PySem.W.nsIn K mainGlobals "Memory" = some (some (.ref C_Memory)))
    (pg_Memory : PySem.W.plainGet K C_Memory Str.empty = true) (hd_Memory : PySem.W.hasDictIn K C_Memory = true) (po_Memory : PySem.W.plainOver K C_Memory = true) (sa_Memory : PySem.W.findIn K (.ref C_Memory) "__setattr__" = some (some (.builtin "object.__setattr__"))) (mi_Memory : PySem.W.makesIn K C_Memory = true) (kc_Memory : PySem.W.keepIn K (.ref C_Memory) = true)
    (na_Memory_numbers : PySem.W.findIn K (.ref C_Memory) "numbers" = some none)
    (na_Memory_rows : PySem.W.findIn K (.ref C_Memory) "rows" = some none)
    (gc_ForkError : PySem.W.nsIn K mainGlobals "ForkError" = some (some (.ref C_ForkError)))
    (gc_KindProblem : PySem.W.nsIn K mainGlobals "KindProblem" = some (some (.ref C_KindProblem)))
    (gc_NoSuchFunction : PySem.W.nsIn K mainGlobals "NoSuchFunction" = some (some (.ref C_NoSuchFunction)))
    (gc_NoSuchStep : PySem.W.nsIn K mainGlobals "NoSuchStep" = some (some (.ref C_NoSuchStep)))
    (gc_NoSuchVariable : PySem.W.nsIn K mainGlobals "NoSuchVariable" = some (some (.ref C_NoSuchVariable)))
    (gc_Refused : PySem.W.nsIn K mainGlobals "Refused" = some (some (.ref C_Refused)))
    (gc_NotAllocated : PySem.W.nsIn K mainGlobals "NotAllocated" = some (some (.ref C_NotAllocated)))
    (ub_ForkError : PySem.W.subIn K (.ref C_ForkError) (.type "BaseException") = some true) (ud_ForkError : PySem.W.hasDictIn K C_ForkError = true) (ut_ForkError : PySem.W.typeIn K (.ref C_ForkError) = some (.type "type"))
    (ol_NotAllocated : K.lookup C_NotAllocated = some (excClassObj on_NotAllocated oq_NotAllocated C_NotAllocated oN_NotAllocated ob_NotAllocated om_NotAllocated true ok_NotAllocated ou_NotAllocated oa_NotAllocated oc_NotAllocated od_NotAllocated o0_NotAllocated o1_NotAllocated o2_NotAllocated o3_NotAllocated o5_NotAllocated "ValueError.__new__")) (oz_NotAllocated : PySem.HandSPX.refsVE om_NotAllocated = true)
    (ua_NotAllocated : PySem.W.findIn K (.ref C_NotAllocated) "__setattr__" = some (some (.builtin "object.__setattr__"))) (ub_NotAllocated : PySem.W.subIn K (.ref C_NotAllocated) (.type "BaseException") = some true) (ut_NotAllocated : PySem.W.typeIn K (.ref C_NotAllocated) = some (.type "type")) (uk_NotAllocated : PySem.W.keepIn K (.ref C_NotAllocated) = true) (ud_NotAllocated : PySem.W.hasDictIn K C_NotAllocated = true)
    (w1_NotAllocated : PySem.W.findIn K (.ref C_NotAllocated) "__getattribute__" = some (some (.builtin "BaseException.__getattribute__"))) (w2_NotAllocated : PySem.W.findIn K (.ref C_NotAllocated) "__getattr__" = some none) (w4_NotAllocated : PySem.W.findIn K (.ref C_NotAllocated) "__class__" = some (some (.builtin "object.__class__"))) (w5_NotAllocated : PySem.W.specialIn K (.builtin "object.__class__") "__get__" = some (some (.builtin "getset_descriptor.__get__"))) (w6_NotAllocated : PySem.W.takesIn K (.builtin "object.__class__") = some true) (w7_NotAllocated : PySem.W.mroIn K C_NotAllocated (.type "object") = some true)
    (un_NotAllocated_address : PySem.W.findIn K (.ref C_NotAllocated) "address" = some none)
    (ea_NotAllocated : PySem.W.findIn K (.ref C_NotAllocated) "__init__" = some (some (.ref ef_NotAllocated))) (ei_NotAllocated : PySem.W.isFn K (.ref ef_NotAllocated) = true) (et_NotAllocated : PySem.W.typeIn K (.ref ef_NotAllocated) = some (.type "function"))
    (el_NotAllocated : K.lookup ef_NotAllocated = some ⟨eq_NotAllocated, eo_NotAllocated, .func (PySem.W.fnOf "__init__" "NotAllocated.__init__" (defArgs s_NotAllocated___init__) (defBody s_NotAllocated___init__) (defScope s_NotAllocated___init__) .none eV_NotAllocated eD_NotAllocated ep_NotAllocated en_NotAllocated (.ref ed_NotAllocated) ey_NotAllocated), es_NotAllocated⟩) (ec_NotAllocated : PySem.W.codeIn K (.ref ed_NotAllocated) "NotAllocated.__init__" = true) (ek_NotAllocated : PySem.W.keepIn K (.ref ef_NotAllocated) = true)
    (kt_NotAllocated_KindProblem : PySem.W.kitOne K (.ref C_NotAllocated) (.ref C_KindProblem) = some false)
    (kt_NotAllocated_Refused : PySem.W.kitOne K (.ref C_NotAllocated) (.ref C_Refused) = some false)
    (kt_NotAllocated_NoSuchStep : PySem.W.kitOne K (.ref C_NotAllocated) (.ref C_NoSuchStep) = some false)
    (kt_NotAllocated_NoSuchVariable : PySem.W.kitOne K (.ref C_NotAllocated) (.ref C_NoSuchVariable) = some false)
    (kt_NotAllocated_NoSuchFunction : PySem.W.kitOne K (.ref C_NotAllocated) (.ref C_NoSuchFunction) = some false)
    (kt_NotAllocated_ValueError : PySem.W.kitOne K (.ref C_NotAllocated) (.type "ValueError") = some true)
    (kt_NotAllocated_NotAllocated : PySem.W.kitOne K (.ref C_NotAllocated) (.ref C_NotAllocated) = some true)
    (us_NotAllocated_ForkError : PySem.W.subIn K (.ref C_NotAllocated) (.ref C_ForkError) = some true)
    (a0 : PySem.W.findIn K (.ref C_Memory) "__init__" = some (some (.ref f0))) (i0 : PySem.W.isFn K (.ref f0) = true)
    (l0 : K.lookup f0 = some ⟨oc0, od0, .func (PySem.W.fnOf "__init__" "Memory.__init__" (defArgs s_Memory___init__) (defBody s_Memory___init__) (defScope s_Memory___init__) .none kV0 dc0 pm0 an0 (.ref cd0) ct0), sl0⟩)
    (c0 : PySem.W.codeIn K (.ref cd0) "Memory.__init__" = true) (k0 : PySem.W.keepIn K (.ref f0) = true)
    (a1 : PySem.W.findIn K (.ref C_Memory) "allocate" = some (some (.ref f1))) (i1 : PySem.W.isFn K (.ref f1) = true)
    (l1 : K.lookup f1 = some ⟨oc1, od1, .func (PySem.W.fnOf "allocate" "Memory.allocate" (defArgs s_Memory_allocate) (defBody s_Memory_allocate) (defScope s_Memory_allocate) .none kV1 dc1 pm1 an1 (.ref cd1) ct1), sl1⟩)
    (c1 : PySem.W.codeIn K (.ref cd1) "Memory.allocate" = true) (k1 : PySem.W.keepIn K (.ref f1) = true)
    (a2 : PySem.W.findIn K (.ref C_Memory) "release" = some (some (.ref f2))) (i2 : PySem.W.isFn K (.ref f2) = true)
    (l2 : K.lookup f2 = some ⟨oc2, od2, .func (PySem.W.fnOf "release" "Memory.release" (defArgs s_Memory_release) (defBody s_Memory_release) (defScope s_Memory_release) .none kV2 dc2 pm2 an2 (.ref cd2) ct2), sl2⟩)
    (c2 : PySem.W.codeIn K (.ref cd2) "Memory.release" = true) (k2 : PySem.W.keepIn K (.ref f2) = true)
    (a3 : PySem.W.findIn K (.ref C_Memory) "read" = some (some (.ref f3))) (i3 : PySem.W.isFn K (.ref f3) = true)
    (l3 : K.lookup f3 = some ⟨oc3, od3, .func (PySem.W.fnOf "read" "Memory.read" (defArgs s_Memory_read) (defBody s_Memory_read) (defScope s_Memory_read) .none kV3 dc3 pm3 an3 (.ref cd3) ct3), sl3⟩)
    (c3 : PySem.W.codeIn K (.ref cd3) "Memory.read" = true) (k3 : PySem.W.keepIn K (.ref f3) = true)
    (a4 : PySem.W.findIn K (.ref C_Memory) "write" = some (some (.ref f4))) (i4 : PySem.W.isFn K (.ref f4) = true)
    (l4 : K.lookup f4 = some ⟨oc4, od4, .func (PySem.W.fnOf "write" "Memory.write" (defArgs s_Memory_write) (defBody s_Memory_write) (defScope s_Memory_write) .none kV4 dc4 pm4 an4 (.ref cd4) ct4), sl4⟩)
    (c4 : PySem.W.codeIn K (.ref cd4) "Memory.write" = true) (k4 : PySem.W.keepIn K (.ref f4) = true)
    (a5 : PySem.W.findIn K (.ref C_Memory) "blocks" = some (some (.ref f5))) (i5 : PySem.W.isFn K (.ref f5) = true)
    (l5 : K.lookup f5 = some ⟨oc5, od5, .func (PySem.W.fnOf "blocks" "Memory.blocks" (defArgs s_Memory_blocks) (defBody s_Memory_blocks) (defScope s_Memory_blocks) .none kV5 dc5 pm5 an5 (.ref cd5) ct5), sl5⟩)
    (c5 : PySem.W.codeIn K (.ref cd5) "Memory.blocks" = true) (k5 : PySem.W.keepIn K (.ref f5) = true)
    (a6 : PySem.W.findIn K (.ref C_Memory) "require_block" = some (some (.ref f6))) (i6 : PySem.W.isFn K (.ref f6) = true)
    (l6 : K.lookup f6 = some ⟨oc6, od6, .func (PySem.W.fnOf "require_block" "Memory.require_block" (defArgs s_Memory_require_block) (defBody s_Memory_require_block) (defScope s_Memory_require_block) .none kV6 dc6 pm6 an6 (.ref cd6) ct6), sl6⟩)
    (c6 : PySem.W.codeIn K (.ref cd6) "Memory.require_block" = true) (k6 : PySem.W.keepIn K (.ref f6) = true)
    (a7 : PySem.W.nsIn K mainGlobals "_law_alone" = some (some (.ref f7)))
    (l7 : K.lookup f7 = some ⟨oc7, od7, .func (PySem.W.fnOf "_law_alone" "_law_alone" (defArgs s__law_alone) (defBody s__law_alone) (defScope s__law_alone) .none kV7 dc7 pm7 an7 (.ref cd7) ct7), sl7⟩)
    (c7 : PySem.W.codeIn K (.ref cd7) "_law_alone" = true) (k7 : PySem.W.keepIn K (.ref f7) = true)
    (a8 : PySem.W.nsIn K mainGlobals "_law_raises" = some (some (.ref f8)))
    (l8 : K.lookup f8 = some ⟨oc8, od8, .func (PySem.W.fnOf "_law_raises" "_law_raises" (defArgs s__law_raises) (defBody s__law_raises) (defScope s__law_raises) .none kV8 dc8 pm8 an8 (.ref cd8) ct8), sl8⟩)
    (c8 : PySem.W.codeIn K (.ref cd8) "_law_raises" = true) (k8 : PySem.W.keepIn K (.ref f8) = true)
    (a9 : PySem.W.nsIn K mainGlobals "_law_agrees" = some (some (.ref f9)))
    (l9 : K.lookup f9 = some ⟨oc9, od9, .func (PySem.W.fnOf "_law_agrees" "_law_agrees" (defArgs s__law_agrees) (defBody s__law_agrees) (defScope s__law_agrees) .none kV9 dc9 pm9 an9 (.ref cd9) ct9), sl9⟩)
    (c9 : PySem.W.codeIn K (.ref cd9) "_law_agrees" = true) (k9 : PySem.W.keepIn K (.ref f9) = true)
    (a10 : PySem.W.nsIn K mainGlobals "law" = some (some (.ref f10)))
    (l10 : K.lookup f10 = some ⟨oc10, od10, .func (PySem.W.fnOf "law" "law" (defArgs s_law) (defBody s_law) (defScope s_law) .none kV10 dc10 pm10 an10 (.ref cd10) ct10), sl10⟩)
    (c10 : PySem.W.codeIn K (.ref cd10) "law" = true) (k10 : PySem.W.keepIn K (.ref f10) = true) :
    LamX.LawAtS l w K CX0 7 63 "script" mg fa h := by
  have e := hfa.symm.trans (PySem.W.mg_of X G a10)
  cases e
  let T : Txt w K mg := {
    tb := [],
    z_len := PySem.W.mg_none_of X G z_len,
    z_int := PySem.W.mg_none_of X G z_int,
    z_range := PySem.W.mg_none_of X G z_range,
    z_tuple := PySem.W.mg_none_of X G z_tuple,
    z_list := PySem.W.mg_none_of X G z_list,
    z_isinstance := PySem.W.mg_none_of X G z_isinstance,
    z_ValueError := PySem.W.mg_none_of X G z_ValueError,
    C_Memory := C_Memory,
    g_Memory := PySem.W.mg_of X G gc_Memory,
    cl_Memory := ⟨pg_Memory, hd_Memory, po_Memory, sa_Memory⟩,
    na_Memory_numbers := na_Memory_numbers,
    na_Memory_rows := na_Memory_rows,
    C_ForkError := C_ForkError,
    g_ForkError := PySem.W.mg_of X G gc_ForkError,
    C_KindProblem := C_KindProblem,
    g_KindProblem := PySem.W.mg_of X G gc_KindProblem,
    C_NoSuchFunction := C_NoSuchFunction,
    g_NoSuchFunction := PySem.W.mg_of X G gc_NoSuchFunction,
    C_NoSuchStep := C_NoSuchStep,
    g_NoSuchStep := PySem.W.mg_of X G gc_NoSuchStep,
    C_NoSuchVariable := C_NoSuchVariable,
    g_NoSuchVariable := PySem.W.mg_of X G gc_NoSuchVariable,
    C_Refused := C_Refused,
    g_Refused := PySem.W.mg_of X G gc_Refused,
    C_NotAllocated := C_NotAllocated,
    g_NotAllocated := PySem.W.mg_of X G gc_NotAllocated,
    ox_NotAllocated := ⟨⟨_, _, _, _, _, _, _, _, _, _, _, _, _, _, _, ol_NotAllocated, oz_NotAllocated⟩, ua_NotAllocated, ub_NotAllocated, ut_NotAllocated, uk_NotAllocated⟩,
    xx_NotAllocated := ⟨w1_NotAllocated, w2_NotAllocated, ub_NotAllocated, ud_NotAllocated, w4_NotAllocated, w5_NotAllocated, w6_NotAllocated, w7_NotAllocated⟩,
    xf_NotAllocated := ⟨w1_NotAllocated, w2_NotAllocated, ub_NotAllocated, ud_NotAllocated⟩,
    nx_NotAllocated_address := un_NotAllocated_address,
    NotAllocated___init__ := ⟨ef_NotAllocated, _, ed_NotAllocated, ⟨⟨eq_NotAllocated, eo_NotAllocated, eV_NotAllocated, eD_NotAllocated, ep_NotAllocated, en_NotAllocated, ey_NotAllocated, es_NotAllocated, rfl, el_NotAllocated, ec_NotAllocated⟩, ek_NotAllocated⟩, ⟨ea_NotAllocated, ei_NotAllocated, ek_NotAllocated⟩, (fun_mk (st := s_NotAllocated___init__) el_NotAllocated ec_NotAllocated ek_NotAllocated).binds (ps := ["self", "address"]) fun _ _ _ _ _ _ us hl => match us, hl with | [_, _], _ => rfl⟩,
    in_NotAllocated := ea_NotAllocated,
    ti_NotAllocated := et_NotAllocated,
    kt_NotAllocated_KindProblem := kt_NotAllocated_KindProblem,
    kt_NotAllocated_Refused := kt_NotAllocated_Refused,
    kt_NotAllocated_NoSuchStep := kt_NotAllocated_NoSuchStep,
    kt_NotAllocated_NoSuchVariable := kt_NotAllocated_NoSuchVariable,
    kt_NotAllocated_NoSuchFunction := kt_NotAllocated_NoSuchFunction,
    kt_NotAllocated_ValueError := kt_NotAllocated_ValueError,
    kt_NotAllocated_NotAllocated := kt_NotAllocated_NotAllocated,
    xm_NotAllocated_ForkError := PySem.W.exm_ref ub_ForkError ud_ForkError ut_ForkError us_NotAllocated_ForkError,
    Memory___init__ := ⟨f0, _, cd0, ⟨⟨oc0, od0, kV0, dc0, pm0, an0, ct0, sl0, rfl, l0, c0⟩, k0⟩, ⟨a0, i0, k0⟩, (fun_mk (st := s_Memory___init__) l0 c0 k0).binds (ps := ["self"]) fun _ _ _ _ _ _ us hl => match us, hl with | [_], _ => rfl⟩,
    Memory_allocate := ⟨f1, _, cd1, ⟨⟨oc1, od1, kV1, dc1, pm1, an1, ct1, sl1, rfl, l1, c1⟩, k1⟩, ⟨a1, i1, k1⟩, (fun_mk (st := s_Memory_allocate) l1 c1 k1).binds (ps := ["self", "size"]) fun _ _ _ _ _ _ us hl => match us, hl with | [_, _], _ => rfl⟩,
    Memory_release := ⟨f2, _, cd2, ⟨⟨oc2, od2, kV2, dc2, pm2, an2, ct2, sl2, rfl, l2, c2⟩, k2⟩, ⟨a2, i2, k2⟩, (fun_mk (st := s_Memory_release) l2 c2 k2).binds (ps := ["self", "address"]) fun _ _ _ _ _ _ us hl => match us, hl with | [_, _], _ => rfl⟩,
    Memory_read := ⟨f3, _, cd3, ⟨⟨oc3, od3, kV3, dc3, pm3, an3, ct3, sl3, rfl, l3, c3⟩, k3⟩, ⟨a3, i3, k3⟩, (fun_mk (st := s_Memory_read) l3 c3 k3).binds (ps := ["self", "address"]) fun _ _ _ _ _ _ us hl => match us, hl with | [_, _], _ => rfl⟩,
    Memory_write := ⟨f4, _, cd4, ⟨⟨oc4, od4, kV4, dc4, pm4, an4, ct4, sl4, rfl, l4, c4⟩, k4⟩, ⟨a4, i4, k4⟩, (fun_mk (st := s_Memory_write) l4 c4 k4).binds (ps := ["self", "address", "number"]) fun _ _ _ _ _ _ us hl => match us, hl with | [_, _, _], _ => rfl⟩,
    Memory_blocks := ⟨f5, _, cd5, ⟨⟨oc5, od5, kV5, dc5, pm5, an5, ct5, sl5, rfl, l5, c5⟩, k5⟩, ⟨a5, i5, k5⟩, (fun_mk (st := s_Memory_blocks) l5 c5 k5).binds (ps := ["self"]) fun _ _ _ _ _ _ us hl => match us, hl with | [_], _ => rfl⟩,
    Memory_require_block := ⟨f6, _, cd6, ⟨⟨oc6, od6, kV6, dc6, pm6, an6, ct6, sl6, rfl, l6, c6⟩, k6⟩, ⟨a6, i6, k6⟩, (fun_mk (st := s_Memory_require_block) l6 c6 k6).binds (ps := ["self", "address"]) fun _ _ _ _ _ _ us hl => match us, hl with | [_, _], _ => rfl⟩,
    _law_alone := ⟨f7, _, cd7, ⟨⟨oc7, od7, kV7, dc7, pm7, an7, ct7, sl7, rfl, l7, c7⟩, k7⟩, PySem.W.mg_of X G a7, (fun_mk (st := s__law_alone) l7 c7 k7).binds (ps := ["problem"]) fun _ _ _ _ _ _ us hl => match us, hl with | [_], _ => rfl⟩,
    _law_raises := ⟨f8, _, cd8, ⟨⟨oc8, od8, kV8, dc8, pm8, an8, ct8, sl8, rfl, l8, c8⟩, k8⟩, PySem.W.mg_of X G a8, (fun_mk (st := s__law_raises) l8 c8 k8).binds (ps := ["memory", "what", "address"]) fun _ _ _ _ _ _ us hl => match us, hl with | [_, _, _], _ => rfl⟩,
    _law_agrees := ⟨f9, _, cd9, ⟨⟨oc9, od9, kV9, dc9, pm9, an9, ct9, sl9, rfl, l9, c9⟩, k9⟩, PySem.W.mg_of X G a9, (fun_mk (st := s__law_agrees) l9 c9 k9).binds (ps := ["memory", "due", "starts", "top"]) fun _ _ _ _ _ _ us hl => match us, hl with | [_, _, _, _], _ => rfl⟩,
    law := ⟨fa, _, cd10, ⟨⟨oc10, od10, kV10, dc10, pm10, an10, ct10, sl10, rfl, l10, c10⟩, k10⟩, PySem.W.mg_of X G a10, (fun_mk (st := s_law) l10 c10 k10).binds (ps := ["script"]) fun _ _ _ _ _ _ us hl => match us, hl with | [_], _ => rfl⟩,
    mk_Memory := ⟨mi_Memory, a0, i0, kc_Memory⟩ }
  refine ⟨T.law.fd, [], spD K T.tb 1 (m_law C_Memory C_NotAllocated), (fun _ z => absurd z List.not_mem_nil), (fun _ z => absurd z List.not_mem_nil), (fun _ z => absurd z List.not_mem_nil), fun s v => .of_eq rfl, fun H a ns _ _ hH hS => ?_, fun base _ _ TB => ?_⟩
  · obtain ⟨S', e⟩ := law_ok C_Memory C_NotAllocated ns
    exact spD_law e (fun _ z => absurd z List.not_mem_nil) hS
  · exact ok_law T ⟨trivial⟩
end k31
open PySem PySem.W PyProof.Rows
set_option maxRecDepth 100000 in
set_option maxHeartbeats 0 in
theorem PySem.Challenge.cw_forklent_k31_memory_cells_holds : PySem.Challenge.rw_forklent_k31_memory_cells.Holds := by
  w_on; o_law; k_headL; (case hw => w_witness2)
  k_fill
  refine Pd.walk_tabs (l := PySem.Challenge.rw_forklent_k31_memory_cells) (n := 63) (k := 7) (x := "script") (CX := fun _ => L2.CX0) rfl (by decide) rfl ⟨rfl, by decide, by decide⟩ (fun w h Y => PySem.W.kIn_of Y) ?F fun _ _ _ _ _ z => z
  case F =>
    intro w mg fa h KX G hmg TT
    refine' k31.all_mk KX G hmg TT ?z_len ?z_int ?z_range ?z_tuple ?z_list ?z_isinstance ?z_ValueError ?gc_Memory ?pg_Memory ?hd_Memory ?po_Memory ?sa_Memory ?mi_Memory ?kc_Memory ?na_Memory_numbers ?na_Memory_rows ?gc_ForkError ?gc_KindProblem ?gc_NoSuchFunction ?gc_NoSuchStep ?gc_NoSuchVariable ?gc_Refused ?gc_NotAllocated ?ub_ForkError ?ud_ForkError ?ut_ForkError ?ol_NotAllocated ?oz_NotAllocated ?ua_NotAllocated ?ub_NotAllocated ?ut_NotAllocated ?uk_NotAllocated ?ud_NotAllocated ?w1_NotAllocated ?w2_NotAllocated ?w4_NotAllocated ?w5_NotAllocated ?w6_NotAllocated ?w7_NotAllocated ?un_NotAllocated_address ?ea_NotAllocated ?ei_NotAllocated ?et_NotAllocated ?el_NotAllocated ?ec_NotAllocated ?ek_NotAllocated ?kt_NotAllocated_KindProblem ?kt_NotAllocated_Refused ?kt_NotAllocated_NoSuchStep ?kt_NotAllocated_NoSuchVariable ?kt_NotAllocated_NoSuchFunction ?kt_NotAllocated_ValueError ?kt_NotAllocated_NotAllocated ?us_NotAllocated_ForkError ?a0 ?i0 ?l0 ?c0 ?k0 ?a1 ?i1 ?l1 ?c1 ?k1 ?a2 ?i2 ?l2 ?c2 ?k2 ?a3 ?i3 ?l3 ?c3 ?k3 ?a4 ?i4 ?l4 ?c4 ?k4 ?a5 ?i5 ?l5 ?c5 ?k5 ?a6 ?i6 ?l6 ?c6 ?k6 ?a7 ?l7 ?c7 ?k7 ?a8 ?l8 ?c8 ?k8 ?a9 ?l9 ?c9 ?k9 ?a10 ?l10 ?c10 ?k10
    (case z_len => k_is)
    (case z_int => k_is)
    (case z_range => k_is)
    (case z_tuple => k_is)
    (case z_list => k_is)
    (case z_isinstance => k_is)
    (case z_ValueError => k_is)
    (case gc_Memory => k_is)
    (case pg_Memory => k_is)
    (case hd_Memory => k_is)
    (case po_Memory => k_is)
    (case sa_Memory => k_is)
    (case mi_Memory => k_is)
    (case kc_Memory => k_is)
    (case na_Memory_numbers => k_is)
    (case na_Memory_rows => k_is)
    (case gc_ForkError => k_is)
    (case gc_KindProblem => k_is)
    (case gc_NoSuchFunction => k_is)
    (case gc_NoSuchStep => k_is)
    (case gc_NoSuchVariable => k_is)
    (case gc_Refused => k_is)
    (case gc_NotAllocated => k_is)
    (case ub_ForkError => k_is)
    (case ud_ForkError => k_is)
    (case ut_ForkError => k_is)
    (case ol_NotAllocated => k_is)
    (case oz_NotAllocated => decide +kernel)
    (case ua_NotAllocated => k_is)
    (case ub_NotAllocated => k_is)
    (case ut_NotAllocated => k_is)
    (case uk_NotAllocated => k_is)
    (case ud_NotAllocated => k_is)
    (case w1_NotAllocated => k_is)
    (case w2_NotAllocated => k_is)
    (case w4_NotAllocated => k_is)
    (case w5_NotAllocated => k_is)
    (case w6_NotAllocated => k_is)
    (case w7_NotAllocated => k_is)
    (case un_NotAllocated_address => k_is)
    (case ea_NotAllocated => k_is)
    (case ei_NotAllocated => k_is)
    (case et_NotAllocated => k_is)
    (case el_NotAllocated => k_is)
    (case ec_NotAllocated => k_is)
    (case ek_NotAllocated => k_is)
    (case kt_NotAllocated_KindProblem => kit_is)
    (case kt_NotAllocated_Refused => kit_is)
    (case kt_NotAllocated_NoSuchStep => kit_is)
    (case kt_NotAllocated_NoSuchVariable => kit_is)
    (case kt_NotAllocated_NoSuchFunction => kit_is)
    (case kt_NotAllocated_ValueError => kit_is)
    (case kt_NotAllocated_NotAllocated => kit_is)
    (case us_NotAllocated_ForkError => k_is)
    (case a0 => k_is)
    (case i0 => k_is)
    (case l0 => k_is)
    (case c0 => k_is)
    (case k0 => k_is)
    (case a1 => k_is)
    (case i1 => k_is)
    (case l1 => k_is)
    (case c1 => k_is)
    (case k1 => k_is)
    (case a2 => k_is)
    (case i2 => k_is)
    (case l2 => k_is)
    (case c2 => k_is)
    (case k2 => k_is)
    (case a3 => k_is)
    (case i3 => k_is)
    (case l3 => k_is)
    (case c3 => k_is)
    (case k3 => k_is)
    (case a4 => k_is)
    (case i4 => k_is)
    (case l4 => k_is)
    (case c4 => k_is)
    (case k4 => k_is)
    (case a5 => k_is)
    (case i5 => k_is)
    (case l5 => k_is)
    (case c5 => k_is)
    (case k5 => k_is)
    (case a6 => k_is)
    (case i6 => k_is)
    (case l6 => k_is)
    (case c6 => k_is)
    (case k6 => k_is)
    (case a7 => k_is)
    (case l7 => k_is)
    (case c7 => k_is)
    (case k7 => k_is)
    (case a8 => k_is)
    (case l8 => k_is)
    (case c8 => k_is)
    (case k8 => k_is)
    (case a9 => k_is)
    (case l9 => k_is)
    (case c9 => k_is)
    (case k9 => k_is)
    (case a10 => k_is)
    (case l10 => k_is)
    (case c10 => k_is)
    (case k10 => k_is)
