import PyProof.Rows.All
import Wide.All
import OpenK.AllK
import Wide.FinOn
import HandS.ForExc
import HandS.Comp
import HandS.Iter
import HandS.Text
import HandS.Codes
import HandS.IsInst
import HandS.ExcIs
import HandS.FStr
import HandS.RaiseMore
import HandS.Wide
import HandS.TupAny
import HandS.CallSlots
import HandS.Conv
import HandS.Style
import HandS.DeepEq
import PyProof.P3Eq
import KE.GoesMore
import KE.GoesEnum
import HandS.HotCalls
import PySem.Challenge.RW_forklent_k02_steps_and_places
import KE.RegKIsAll
set_option Elab.async false
set_option linter.all false
set_option maxRecDepth 100000
set_option maxHeartbeats 4000000
namespace Kk
open PySem L2
def topS (i : Nat) : Stmt := PySem.Challenge.pw_forklent_k02_steps_and_places.main.body.getD i (.Pass ⟨0, 0, 0, 0⟩)
/-- a def of the text as it stands behind the top -/
structure Df (K : PySem.W.Frag) (mg : Str → Option Value) (x : Str) (st : Stmt) (ps : List Str) where
  f : Addr
  fd : FuncData
  F : Fun K x x st f fd
  g : mg x = some (.ref f)
  b : Binds K fd ps []
abbrev s_is_item : Stmt := topS 11
theorem sc_is_item : FnScope ["items", "step"] ["items", "step"] (defScope s_is_item) := ⟨rfl, rfl, rfl, by decide +kernel, rfl, by decide +kernel, by decide +kernel⟩
abbrev s_fields_of : Stmt := topS 12
theorem sc_fields_of : FnScope ["records", "name", "record", "fields"] ["records", "name"] (defScope s_fields_of) := ⟨rfl, rfl, rfl, by decide +kernel, rfl, by decide +kernel, by decide +kernel⟩
abbrev s__law_tape : Stmt := topS 20
theorem sc__law_tape : FnScope ["script", "numbers", "total", "cell", "rest", "k"] ["script"] (defScope s__law_tape) := ⟨rfl, rfl, rfl, by decide +kernel, rfl, by decide +kernel, by decide +kernel⟩
abbrev s__law_next : Stmt := topS 21
theorem sc__law_next : FnScope ["tape", "many", "at"] ["tape", "many"] (defScope s__law_next) := ⟨rfl, rfl, rfl, by decide +kernel, rfl, by decide +kernel, by decide +kernel⟩
section
variable {X : Cx}
theorem pi_or {tg l : Expr} {w w' : TI} (h : PI X tg l w) (h' : PI X tg l w') : PI X tg l (fun σ H R => w σ H R ∨ w' σ H R) :=
  ⟨fun pins s σ H R I q => q.elim (h.run pins s σ H R I) (h'.run pins s σ H R I)⟩
/-- a walk over a list or a tuple -/
theorem pi_seq {tg l : Expr} {tl : TE} (hl : PE X l tl) : PI X tg l (fun σ H R => iList X.K tl σ H R ∨ iTup X.K tl σ H R) := pi_or (pi_list hl) (pi_tup hl)
end
/-- all but what stands at a is as it was -/
structure But (a : Addr) (H H' : Hp) : Prop where
  go : ∀ b o, b ≠ a → H b = some o → H' b = some o
  tape : ∀ i nl t, H a = some (.lst [.int i, .ref nl, .int t]) → ∃ i' t', H' a = some (.lst [.int i', .ref nl, .int t'])
instance {a : Addr} {H H' : Hp} : CoeFun (But a H H') (fun _ => ∀ b o, b ≠ a → H b = some o → H' b = some o) := ⟨But.go⟩
theorem But.refl (a : Addr) (H : Hp) : But a H H := ⟨fun _ _ _ h => h, fun i _ t h => ⟨i, t, h⟩⟩
theorem But.trans {a : Addr} {H H1 H2 : Hp} (x : But a H H1) (y : But a H1 H2) : But a H H2 := ⟨fun b o n h => y.go b o n (x.go b o n h), fun i nl t h => by
  obtain ⟨i', t', h'⟩ := x.tape i nl t h
  exact y.tape i' nl t' h'⟩
theorem But.of {a : Addr} {H H' : Hp} (x : Same H H') : But a H H' := ⟨fun b o _ h => x b o h, fun i _ t h => ⟨i, t, x _ _ h⟩⟩
theorem But.upd {a nl : Addr} {H : Hp} {i t i' t' : Int} (h : H a = some (.lst [.int i, .ref nl, .int t])) : But a H (upd H a (.lst [.int i', .ref nl, .int t'])) := ⟨fun b u n h => by rw [upd_ne n]; exact h, fun i2 nl2 t2 h2 => by
  rw [h] at h2
  have e := HO.lst.inj (Option.some.inj h2)
  injection e with _ e
  injection e with e _
  have e' := V.ref.inj e
  subst e'
  exact ⟨_, _, upd_same⟩⟩
theorem same_new {H : Hp} {p : Addr} (h : H p = none) (o : HO) : Same H (upd H p o) := fun b u q => by rw [upd_ne (ne_of_none q h)]; exact q
theorem But.new {a : Addr} {H : Hp} {p : Addr} (h : H p = none) (o : HO) : But a H (L2.upd H p o) := .of (same_new h o)
theorem But.seq {K : PySem.W.Frag} {a : Addr} {H H' : Hp} {z : Addr} {xs : List V} (x : But a H H') (n : z ≠ a) (h : SqL K H z xs) : SqL K H' z xs := by
  rcases h with (h | ⟨o, h⟩) | h
  · exact .inl (.inl (x.go _ _ n h))
  · exact .inl (.inr ⟨o, x.go _ _ n h⟩)
  · exact .inr h
/-- what stands at z is not the state at a, or it is the module's own -/
def Awy (K : PySem.W.Frag) (a z : Addr) (xs : List V) : Prop := z ≠ a ∨ SqL K (fun _ => none) z xs
theorem But.scr {K : PySem.W.Frag} {a : Addr} {H H' : Hp} {z : Addr} {xs : List V} (x : But a H H') (n : Awy K a z xs) (h : SqL K H z xs) : SqL K H' z xs := by
  rcases n with n | (n | ⟨o, n⟩) | n
  · exact x.seq n h
  · cases n
  · cases n
  · exact .inr n

/-- the tape: where it stands, its numbers, its sum -/
def St4 (H : Hp) (a : Addr) : Prop := ∃ (i t : Int) (nl : Addr) (ns : List Int), H a = some (.lst [.int i, .ref nl, .int t]) ∧ nl ≠ a ∧ H nl = some (.lst (ns.map V.int)) ∧ 0 ≤ i
/-- tuples stand -/
def TM (H H' : Hp) : Prop := ∀ b xs, H b = some (.tup xs) → H' b = some (.tup xs)
theorem TM.refl (H : Hp) : TM H H := fun _ _ h => h
theorem TM.trans {H H1 H2 : Hp} (a : TM H H1) (b : TM H1 H2) : TM H H2 := fun c xs h => b c xs (a c xs h)
theorem TM.same {H H' : Hp} (h : Same H H') : TM H H' := fun b xs e => h b _ e
theorem TM.put {H : Hp} {p : Addr} {o : HO} (h : ∀ xs, H p ≠ some (.tup xs)) : TM H (upd H p o) := fun b xs e => by
  rw [upd_ne (fun z => h xs (by rw [← z]; exact e))]; exact e
theorem TM.lst {H : Hp} {p : Addr} {o : HO} {us : List V} (h : H p = some (.lst us)) : TM H (upd H p o) := .put fun xs e => by rw [h] at e; cases e
theorem TM.new {H : Hp} {p : Addr} {o : HO} (h : H p = none) : TM H (upd H p o) := .put fun xs e => by rw [h] at e; cases e
theorem TM.but {a : Addr} {H H' : Hp} (b : But a H H') (st : St4 H a) : TM H H' := fun c xs e => b.go c _ (fun z => by
  obtain ⟨i, t, nl, ns, h, _⟩ := st
  rw [← z, e] at h; cases h) e
theorem St4.put {H : Hp} {a p : Addr} {o : HO} (st : St4 H a) (h : H p = none) : St4 (upd H p o) a := by
  obtain ⟨i, t, nl, ns, e, k, e2, k2⟩ := st
  exact ⟨i, t, nl, ns, by rw [upd_ne (ne_of_none e h)]; exact e, k, by rw [upd_ne (ne_of_none e2 h)]; exact e2, k2⟩
theorem St4.ne {H : Hp} {a p : Addr} (st : St4 H a) (h : H p = none) : p ≠ a := fun z => by
  obtain ⟨i, t, nl, ns, e, k⟩ := st
  rw [z, e] at h; cases h
theorem St4.same {H H' : Hp} {a : Addr} (st : St4 H a) (g : Same H H') : St4 H' a := by
  obtain ⟨i, t, nl, ns, e, k, e2, k2⟩ := st
  exact ⟨i, t, nl, ns, g _ _ e, k, g _ _ e2, k2⟩
theorem But.fresh {a p : Addr} {H H1 : Hp} (b : But a H H1) (n : p ≠ a) (h : H1 p = none) : H p = none := by
  cases e : H p with
  | none => rfl
  | some o => rw [b.go p o n e] at h; cases h
theorem But.put {a p : Addr} {H H1 : Hp} {o : HO} (b : But a H H1) (h : H p = none) : But a H (L2.upd H1 p o) := ⟨fun c u n e => by
  rw [upd_ne (ne_of_none e h)]; exact b.go c u n e, fun i nl t e => by
  obtain ⟨i', t', e'⟩ := b.tape i nl t e
  exact ⟨i', t', by rw [upd_ne (ne_of_none e h)]; exact e'⟩⟩
/-- the tape stands when an object that is newer than it changes -/
theorem St4.keep {a p : Addr} {H H1 : Hp} {o : HO} (st0 : St4 H a) (hp : H p = none) (b : But a H H1) (st : St4 H1 a) : St4 (L2.upd H1 p o) a := by
  obtain ⟨i, t, nl, ns, e, k, e2, k2⟩ := st
  obtain ⟨i0, t0, nl0, ns0, e0, k0, e20, k20⟩ := st0
  obtain ⟨i', t', e'⟩ := b.tape _ _ _ e0
  rw [e] at e'
  have z := HO.lst.inj (Option.some.inj e')
  injection z with _ z
  injection z with z _
  have z' := V.ref.inj z
  subst z'
  exact ⟨i, t, nl, ns, by rw [upd_ne (ne_of_none e0 hp)]; exact e, k, by rw [upd_ne (ne_of_none e20 hp)]; exact e2, k2⟩
/-- a text of at most n plain signs -/
def Gd (n : Nat) (x : Str) : Prop := x.length ≤ n ∧ ∀ c ∈ x.cps.toList, c < 1114112
theorem Gd.wide {n : Nat} {x : Str} (h : Gd n x) : ∀ c ∈ x.cps.toList, c < 16 ^ 8 := fun c hc => Nat.lt_trans (h.2 c hc) (by decide)
theorem Gd.mono {n m : Nat} {x : Str} (h : Gd n x) (hm : n ≤ m) : Gd m x := ⟨Nat.le_trans h.1 hm, h.2⟩
theorem str_len (x y : Str) : (x ++ y).length = x.length + y.length := by
  show (x.cps ++ y.cps).size = x.cps.size + y.cps.size
  exact Array.size_append
theorem str_cps (x y : Str) : (x ++ y).cps.toList = x.cps.toList ++ y.cps.toList := by
  show (x.cps ++ y.cps).toList = _
  exact Array.toList_append
theorem Gd.app {n m : Nat} {x y : Str} (h : Gd n x) (h' : Gd m y) : Gd (n + m) (x ++ y) := by
  refine ⟨?_, fun c hc => ?_⟩
  · have a := h.1
    have b := h'.1
    rw [str_len]; omega
  · rw [str_cps] at hc
    rcases List.mem_append.mp hc with z | z
    · exact h.2 c z
    · exact h'.2 c z
theorem Gd.sign {c : Nat} (h : c < 1114112) : Gd 1 ⟨#[c]⟩ := ⟨Nat.le_refl _, fun d hd => by
  have e : d = c := by simpa using hd
  rw [e]; exact h⟩
theorem all_lt {l : List Nat} (h : l.all (fun c => decide (c < 1114112)) = true) : ∀ c ∈ l, c < 1114112 := fun c hc => by
  have q := List.all_eq_true.mp h c hc
  exact of_decide_eq_true q
theorem line_of {n : Nat} (h : n ≤ 100000) : n ≤ sizeLine := Nat.le_trans h (by decide)
theorem mem_of_get {α : Type} {l : List α} {i : Nat} {c : α} (h : l[i]? = some c) : c ∈ l := by
  obtain ⟨hi, e⟩ := List.getElem?_eq_some_iff.mp h
  rw [← e]; exact List.getElem_mem hi

/-- what names of the top are the built-ins -/
structure Txt0 (mg : Str → Option Value) : Prop where
  z_len : mg "len" = none
  z_int : mg "int" = none
  z_abs : mg "abs" = none
  z_isinstance : mg "isinstance" = none
  z_bool : mg "bool" = none
  z_range : mg "range" = none
  z_tuple : mg "tuple" = none
  z_sum : mg "sum" = none
  z_enumerate : mg "enumerate" = none
structure Txt1 (K : PySem.W.Frag) (mg : Str → Option Value) extends Txt0 mg where
  is_item : Df K mg "is_item" s_is_item ["items", "step"]
  fields_of : Df K mg "fields_of" s_fields_of ["records", "name"]
  _law_tape : Df K mg "_law_tape" s__law_tape ["script"]
  _law_next : Df K mg "_law_next" s__law_next ["tape", "many"]
section
variable {P : Program} {w : World} {K : PySem.W.Frag} {mg : Str → Option Value} {base : Heap}
/-- a step: an int or a text -/
def isItem (n : Nat) : V → Bool
  | .int i => decide (0 ≤ i) && decide (i < (n : Int))
  | _ => false
def Step : V → Prop
  | .int i => i.natAbs.log2 < 1920
  | .str _ => True
  | _ => False
def spItem (K : PySem.W.Frag) : Sp := fun vs H Q _ => ∃ (a : Addr) (xs : List V) (v : V), vs = [.ref a, v] ∧ SqT K H a xs ∧ Step v ∧ Q (.bl (isItem xs.length v)) H
theorem ok_item (T : Txt1 K mg) : FnOk P w K mg base CX0 1 T.is_item.f T.is_item.fd ["items", "step"] (spItem K) := by
  refine T.is_item.F.ok sc_is_item (fun vs H Q E h => ?_) (fun cdv A outer s H vs Q E hr h => ?_)
  · obtain ⟨a, xs, v, rfl, _⟩ := h
    rfl
  obtain ⟨a, xs, v, rfl, ha, hv, q⟩ := h
  refine ⟨_, (pss_one (ps_ret (pe_and (pe_callB call_isi rfl T.z_isinstance PyProof.Rows.boot_isinstance (pa_cons (pv 1) (pa_cons (pe_bltn (v := .ty "int") rfl T.z_int PyProof.Rows.boot_int rfl) pa_nil))) (pe_and (pe_not (pe_callB call_isi rfl T.z_isinstance PyProof.Rows.boot_isinstance (pa_cons (pv 1) (pa_cons (pe_bltn (v := .ty "bool") rfl T.z_bool PyProof.Rows.boot_bool rfl) pa_nil)))) (pe_one (pe_chain op_le op_lt pe_int (pv 1) (pe_callB call_len_seq rfl T.z_len PySem.boot_len (pa_cons (pv 0) pa_nil)))))))), ?_⟩
  cases v with
  | int i =>
    refine ⟨_, rfl, _, _, _, _, true, rfl, .ty _, .base (.int i), kit_ty (by decide +kernel), _, rfl, ?_⟩
    refine iteT ⟨_, rfl, _, _, _, _, false, rfl, .ty _, .base (.int i), kit_ty (by decide +kernel), _, rfl, _, rfl, ?_⟩
    refine iteT ⟨_, rfl, _, _, rfl, rfl, _, rfl, ?_⟩
    refine ite2 (fun c1 => ?_) (fun c1 => ?_)
    · refine ⟨_, rfl, a, _, rfl, .inr ha, _, _, rfl, rfl, ?_⟩
      have e : isItem xs.length (.int i) = decide (i < (xs.length : Int)) := by
        show (decide (0 ≤ i) && decide (i < (xs.length : Int))) = _
        rw [c1]; rfl
      rw [e] at q; exact q
    · have e : isItem xs.length (.int i) = false := by
        show (decide (0 ≤ i) && decide (i < (xs.length : Int))) = _
        rw [Bool.eq_false_iff.mpr c1]; rfl
      rw [e] at q; exact q
  | str x =>
    refine ⟨_, rfl, _, _, _, _, false, rfl, .ty _, .base (.str x), kit_ty (by decide +kernel), _, rfl, ?_⟩
    exact iteF q
  | _ => exact hv.elim
theorem atI_ex {α : Type} {l : List α} {n : Int} (h0 : 0 ≤ n) (h1 : n < (l.length : Int)) : ∃ c, l[n.toNat]? = some c ∧ atI l n = some c := by
  have hk : n.toNat < l.length := by omega
  refine ⟨l[n.toNat], List.getElem?_eq_getElem hk, ?_⟩
  have q := atI_nat (xs := l) (j := n.toNat) (List.getElem?_eq_getElem hk)
  rwa [show ((n.toNat : Nat) : Int) = n by omega] at q
theorem divW {m : Int} (h : 0 < m) (h2 : m < 10000) (i : Int) : CDivW i m := wide_div (b := 14) h (by omega) (by decide) (by decide)

theorem cut_take {xs : List V} {k : Nat} : cutV xs none (some (k : Int)) = xs.take k := by
  unfold cutV
  rw [HT.sIx_none, HT.sIx_nat, List.drop_zero, Nat.sub_zero]
  rcases Nat.le_total k xs.length with h | h
  · rw [Nat.min_eq_left h]
  · rw [Nat.min_eq_right h, List.take_of_length_le h, List.take_of_length_le (Nat.le_refl _)]
theorem cut_drop {xs : List V} {k : Nat} (h : k ≤ xs.length) : cutV xs (some (k : Int)) none = xs.drop k := by
  unfold cutV
  rw [HT.sIx_none, HT.sIx_nat, Nat.min_eq_left h, List.take_of_length_le (by rw [List.length_drop]; exact Nat.le_refl _)]
def spNext : Sp := fun vs H Q _ => ∃ (a : Addr) (m : Int), vs = [.ref a, .int m] ∧ St4 H a ∧ 0 < m ∧ m < 1000 ∧ ∀ n H', 0 ≤ n → n < m → St4 H' a → But a H H' → Q (.int n) H'
theorem ok_next (T : Txt1 K mg) : FnOk P w K mg base CX0 1 T._law_next.f T._law_next.fd ["tape", "many"] spNext := by
  refine T._law_next.F.ok sc__law_next (fun vs H Q E h => ?_) (fun cdv A outer s H vs Q E hr h => ?_)
  · obtain ⟨a, m, rfl, _⟩ := h
    rfl
  obtain ⟨a, m, rfl, ⟨i, t, nl, ns, ha, hna, hn, h0⟩, hm, hm2, q⟩ := h
  refine ⟨_, (pss_cons (ps_set (i := 2) sc__law_next.nd rfl (Or.inl rfl) (pe_ix ix_list (pv 0) pe_int (fun _ _ => rfl)))
    (pss_cons (ps_asg (pe_op op_add (pv 2) pe_int) (pg_sub (pv 0) pe_int set_list))
    (pss_cons (ps_if (pt_cmpR op_lt (pv 2) (pe_callB call_len_seq rfl T.z_len PySem.boot_len (pa_cons (pe_ix ix_list (pv 0) pe_int (fun _ _ => rfl)) pa_nil)) (nomark _)) (pss_one (ps_ret (pe_op op_mod (pe_callTy call_int1 rfl T.z_int PyProof.Rows.boot_int (pa_cons (pe_ix ix_list (pe_ix ix_list (pv 0) pe_int (fun _ _ => rfl)) (pv 2) (fun _ _ => rfl)) pa_nil)) (pv 1)))) pss_nil)
    (pss_one (ps_ret (pe_op op_mod (pe_op op_fdivW (pe_op op_mod (pe_callTy call_int1 rfl T.z_int PyProof.Rows.boot_int (pa_cons (pe_op op_add (pe_op op_mul (pe_op op_add (pv 2) pe_int) pe_int) (pe_op op_mul (pe_ix ix_list (pv 0) pe_int (fun _ _ => rfl)) pe_int)) pa_nil)) pe_int) pe_int) (pv 1))))))), ?_⟩
  refine ⟨_, rfl, a, _, 0, _, rfl, rfl, SqL.of ha, rfl, ?_⟩
  refine ⟨_, rfl, _, _, rfl, rfl, _, rfl, a, _, 0, 0, rfl, rfl, ha, rfl, ?_⟩
  have hn1 : (upd H a (.lst [.int (i + 1), .ref nl, .int t])) nl = some (.lst (ns.map V.int)) := by rw [upd_ne hna]; exact hn
  have st : St4 (upd H a (.lst [.int (i + 1), .ref nl, .int t])) a := ⟨i + 1, t, nl, ns, upd_same, hna, hn1, by omega⟩
  refine ⟨_, rfl, _, rfl, a, _, 1, _, rfl, rfl, SqL.of upd_same, rfl, nl, _, rfl, .inl (SqL.of hn1), _, _, rfl, rfl, _, rfl, ?_⟩
  refine ite2 (fun c => ?_) (fun c => ?_)
  · have c' : i < (((ns.map V.int).length : Nat) : Int) := of_decide_eq_true c
    obtain ⟨v, hv, hv'⟩ := atI_ex h0 c'
    obtain ⟨n, rfl⟩ : ∃ n, v = V.int n := by
      obtain ⟨n, _, e⟩ := List.mem_map.mp (mem_of_get hv)
      exact ⟨n, e.symm⟩
    refine ⟨_, rfl, a, _, 1, _, rfl, rfl, SqL.of upd_same, rfl, _, rfl, nl, _, _, _, rfl, rfl, SqL.of hn1, hv', .inl ⟨_, rfl, _, rfl, _, _, rfl, rfl, hm, ?_⟩⟩
    exact q _ _ (Int.emod_nonneg _ (by omega)) (Int.emod_lt_of_pos _ hm) st (.upd ha)
  · refine ⟨_, rfl, _, _, rfl, rfl, _, _, rfl, rfl, .inr ⟨by decide, by decide⟩, _, rfl, a, _, 2, _, rfl, rfl, SqL.of upd_same, rfl, _, _, rfl, rfl, .inr ⟨by decide, by decide⟩, _, _, rfl, rfl, .inl ⟨_, rfl, _, _, rfl, rfl, by show (0 : Int) < 2147483647; decide, ?_⟩⟩
    refine ⟨_, _, rfl, rfl, divW (by decide) (by decide) _, _, rfl, _, _, rfl, rfl, hm, ?_⟩
    exact q _ _ (Int.emod_nonneg _ (by omega)) (Int.emod_lt_of_pos _ hm) st (.upd ha)
def spTape (K : PySem.W.Frag) : Sp := fun vs H Q _ => ∃ (z : Addr) (ns : List Int), vs = [.ref z] ∧ SqL K H z (ns.map V.int) ∧ ∀ a H', Same H H' → H a = none → St4 H' a → Q (.ref a) H'
theorem ok_tape (T : Txt1 K mg) : FnOk P w K mg base CX0 1 T._law_tape.f T._law_tape.fd ["script"] (spTape K) := by
  refine T._law_tape.F.ok sc__law_tape (fun vs H Q E h => ?_) (fun cdv A outer s H vs Q E hr h => ?_)
  · obtain ⟨z, ns, rfl, _⟩ := h
    rfl
  obtain ⟨z, ns, rfl, hz, q⟩ := h
  refine ⟨_, (pss_cons (ps_set (i := 1) sc__law_tape.nd rfl (Or.inl rfl) (pe_lst pa_nil))
    (pss_cons (ps_set (i := 2) sc__law_tape.nd rfl (Or.inl rfl) pe_int)
    (C8.pss_cut (ps_for PassesOwn.never rfl (pi_list (pe_slice sl_list (pv 0) po_none (po_some pe_int))) (pg_name (i := 3) sc__law_tape.nd rfl (Or.inl rfl)) (pss_cons (ps_set (i := 4) sc__law_tape.nd rfl (Or.inl rfl) (pe_callB call_abs rfl T.z_abs PyProof.Rows.boot_abs (pa_cons (pe_callTy call_int1 rfl T.z_int PyProof.Rows.boot_int (pa_cons (pv 3) pa_nil)) pa_nil)))
      (pss_cons (ps_set (i := 2) sc__law_tape.nd rfl (Or.inl rfl) (pe_op op_add (pv 2) (pv 4)))
      (pss_one (ps_for PassesOwn.never rfl (pi_range1 (by rfl) T.z_range (pa_cons pe_int pa_nil)) (pg_name (i := 5) sc__law_tape.nd rfl (Or.inl rfl)) (pss_cons (ps_expr (pe_bm PySem.F.plainAttrs_list PySem.F.slot_list_append PySem.F.type_list_append mt_append (pv 1) (pa_cons (pe_op op_mod (pe_callTy call_int1 rfl T.z_int PyProof.Rows.boot_int (pa_cons (pv 4) pa_nil)) pe_int) pa_nil)))
        (pss_cons (ps_set (i := 4) sc__law_tape.nd rfl (Or.inl rfl) (pe_op op_fdivW (pv 4) pe_int))
        (pss_one (ps_if (pt_cmpR op_eq (pv 4) pe_int (nomark _)) (pss_one ps_break) pss_nil)))))))))
    (pss_one (ps_ret (pe_lst (pa_cons pe_int (pa_cons (pv 1) (pa_cons (pe_op op_mod (pe_callTy call_int1 rfl T.z_int PyProof.Rows.boot_int (pa_cons (pv 2) pa_nil)) pe_int) pa_nil))))))))), ?_⟩
  refine ⟨by show 0 ≤ sizeLine; decide, fun nl hnl => ?_⟩
  have hz1 : SqL K (upd H nl (.lst [])) z (ns.map V.int) := (same_new hnl _).seq hz
  refine ⟨fun σ' H' => ∃ (k : List Int) (tot : Int) (o1 o2 o3 : Option V), σ' = [some (.ref z), some (.ref nl), some (.int tot), o1, o2, o3] ∧ Same H H' ∧ H' nl = some (.lst (k.map V.int)) ∧ k.length ≤ 63 * 24, ?_, ?_⟩
  · refine ⟨_, rfl, _, rfl, z, _, rfl, hz1, fun c hc => ?_⟩
    have ec : cutV (ns.map V.int) none (some 63) = (ns.take 63).map V.int := by
      rw [show (63 : Int) = ((63 : Nat) : Int) from rfl, cut_take, List.map_take]
    rw [ec]
    have cn : c ≠ nl := fun e => by rw [e, upd_same] at hc; cases hc
    refine ⟨c, rfl, ⟨_, SqL.of upd_same⟩, for_list (K := K) (a := c) (xs := (ns.take 63).map V.int)
      (fun i σ' H' => ∃ (k : List Int) (tot : Int) (o1 o2 o3 : Option V), σ' = [some (.ref z), some (.ref nl), some (.int tot), o1, o2, o3] ∧ Same H H' ∧ H' nl = some (.lst (k.map V.int)) ∧ k.length ≤ i * 24 ∧ H' c = some (.lst ((ns.take 63).map V.int))) ?_ (fun i σ' H' _ ⟨_, _, _, _, _, _, _, _, _, h⟩ => SqL.of h) ?_ ?_⟩
    · exact ⟨[], 1, _, _, _, rfl, (same_new hnl _).trans (same_new hc _), by rw [upd_ne (Ne.symm cn)]; exact upd_same, Nat.zero_le _, upd_same⟩
    · rintro i v σ' H' hi ⟨k, tot, o1, o2, o3, rfl, g, hk, hl, hc'⟩
      have hi63 : i < 63 := by
        have := (List.getElem?_eq_some_iff.mp hi).1
        rw [List.length_map, List.length_take] at this
        omega
      obtain ⟨n, _, rfl⟩ := List.mem_map.mp (mem_of_get hi)
      refine ⟨_, rfl, .inl ⟨_, rfl, _, rfl, ?_⟩⟩
      refine ⟨_, rfl, _, rfl, _, _, rfl, rfl, ?_⟩
      refine ⟨24, rfl, by decide, by decide, for_range (lo := 0) (n := 24) (fun j σ' H' => ∃ (k : List Int) (tot r : Int) (o1 o3 : Option V), σ' = [some (.ref z), some (.ref nl), some (.int tot), o1, some (.int r), o3] ∧ Same H H' ∧ H' nl = some (.lst (k.map V.int)) ∧ k.length ≤ i * 24 + j ∧ H' c = some (.lst ((ns.take 63).map V.int))) ?_ ?_ ?_⟩
      · exact ⟨k, _, _, _, _, rfl, g, hk, hl, hc'⟩
      · rintro j σ' H2 hj ⟨k2, tot2, r, o4, o5, rfl, g2, hk2, hl2, hc2⟩
        have kz : k2.length < 10000 := by omega
        refine ⟨_, rfl, .inl ⟨rfl, _, SqL.of hk2⟩, ?_⟩
        refine ⟨_, rfl, .inl ⟨_, rfl, _, _, rfl, rfl, by show (0 : Int) < 60; decide, nl, _, _, rfl, rfl, hk2, line_of (by rw [List.length_map]; omega), ?_⟩⟩
        refine ⟨_, rfl, _, _, rfl, rfl, divW (by decide) (by decide) _, _, rfl, rfl, _, rfl, ?_⟩
        have e1 : k2.map V.int ++ [V.int (r % 60)] = (k2 ++ [r % 60]).map V.int := by rw [List.map_append]; rfl
        have h3 : Same H (upd H2 nl (.lst (k2.map V.int ++ [V.int (r % 60)]))) := fun b o e => by rw [upd_ne (ne_of_none e hnl)]; exact g2 _ _ e
        have h4 : (upd H2 nl (.lst (k2.map V.int ++ [V.int (r % 60)]))) nl = some (.lst ((k2 ++ [r % 60]).map V.int)) := by rw [upd_same, e1]
        have h5 : (upd H2 nl (.lst (k2.map V.int ++ [V.int (r % 60)]))) c = some (.lst ((ns.take 63).map V.int)) := by rw [upd_ne cn]; exact hc2
        have h6 : (k2 ++ [r % 60]).length = k2.length + 1 := by rw [List.length_append]; rfl
        refine ite2 (fun _ => ?_) (fun _ => ?_)
        · exact ⟨_, _, _, _, _, rfl, h3, h4, by omega, h5⟩
        · exact ⟨_, _, _, _, _, rfl, h3, h4, by omega, h5⟩
      · rintro σ' H2 ⟨k2, tot2, r, o4, o5, rfl, g2, hk2, hl2, hc2⟩
        exact ⟨k2, tot2, _, _, _, rfl, g2, hk2, by omega, hc2⟩
    · rintro σ' H' ⟨k, tot, o1, o2, o3, rfl, g, hk, hl, hc'⟩
      have : ((ns.take 63).map V.int).length ≤ 63 := by rw [List.length_map, List.length_take]; omega
      exact ⟨k, tot, _, _, _, rfl, g, hk, by omega⟩
  · rintro σ' H' ⟨k, tot, o1, o2, o3, rfl, g, hk, hl⟩
    refine ⟨_, rfl, _, rfl, .inl ⟨_, rfl, _, _, rfl, rfl, by show (0 : Int) < 1000003; decide, ?_⟩⟩
    refine ⟨by show 3 ≤ sizeLine; decide, fun a ha => ?_⟩
    have na : nl ≠ a := ne_of_none hk ha
    exact q a _ (g.trans (same_new ha _)) (g.free ha) ⟨0, _, nl, k, upd_same, na, by rw [upd_ne na]; exact hk, by decide⟩
end
end Kk
namespace Kk
open PySem L2
abbrev s__law_fields : Stmt := topS 22
theorem sc__law_fields : FnScope ["name"] ["name"] (defScope s__law_fields) := ⟨rfl, rfl, rfl, by decide +kernel, rfl, by decide +kernel, by decide +kernel⟩
abbrev s__law_records : Stmt := topS 23
theorem sc__law_records : FnScope ["tape", "names", "at", "name"] ["tape"] (defScope s__law_records) := ⟨rfl, rfl, rfl, by decide +kernel, rfl, by decide +kernel, by decide +kernel⟩
abbrev s__law_cells : Stmt := topS 24
theorem sc__law_cells : FnScope ["kind", "item"] ["kind"] (defScope s__law_cells) := ⟨rfl, rfl, rfl, by decide +kernel, rfl, by decide +kernel, by decide +kernel⟩
abbrev s__law_fitting : Stmt := topS 25
theorem sc__law_fitting : FnScope ["items", "most", "found", "cells", "k", "item"] ["items", "most"] (defScope s__law_fitting) := ⟨rfl, rfl, rfl, by decide +kernel, rfl, by decide +kernel, by decide +kernel⟩
structure Txt2 (K : PySem.W.Frag) (mg : Str → Option Value) extends Txt1 K mg where
  _law_fields : Df K mg "_law_fields" s__law_fields ["name"]
  _law_records : Df K mg "_law_records" s__law_records ["tape"]
  _law_cells : Df K mg "_law_cells" s__law_cells ["kind"]
  _law_fitting : Df K mg "_law_fitting" s__law_fitting ["items", "most"]
theorem atI_0 {α : Type} {v : α} {us : List α} : atI (v :: us) 0 = some v := atI_nat (j := 0) rfl
theorem atI_1 {α : Type} {v x : α} {us : List α} : atI (v :: x :: us) 1 = some x := atI_nat (j := 1) rfl
theorem str_of_dec {x y : Str} (h : decide (V.str x = V.str y) = true) : x = y := V.str.inj (of_decide_eq_true h)
theorem bt_sum : bootBuiltins "sum" = some (.builtin "sum") := by decide +kernel
structure Frm (a : Addr) (H H' : Hp) : Prop where
  st : St4 H' a
  bt : But a H H'
theorem Frm.new {a p : Addr} {H H1 : Hp} {o : HO} (f : Frm a H H1) (hp : H1 p = none) : Frm a H (upd H1 p o) := ⟨f.st.put hp, f.bt.put (f.bt.fresh (f.st.ne hp) hp)⟩
/-! ### kinds as data -/
/-- the names of records -/
def Nm (x : Str) : Prop := x = "Node" ∨ x = "Pair" ∨ x = "Wide"
def One (x : Str) : Prop := x = "maybe" ∨ x = "box" ∨ x = "shared" ∨ x = "exclusive" ∨ x = "task"
def Leaf (x : Str) : Prop := x = "int" ∨ x = "bool" ∨ x = "unit"
inductive KV (H : Hp) : Nat → V → PyData → Prop
  | leaf {n : Nat} {p : Addr} {x : Str} (h : H p = some (.tup [.str x])) (hx : Leaf x) : KV H (n + 1) (.ref p) (.tuple [.str x])
  | recd {n : Nat} {p : Addr} {x : Str} (h : H p = some (.tup [.str "record", .str x])) (hx : Nm x) : KV H (n + 1) (.ref p) (.tuple [.str "record", .str x])
  | one {n : Nat} {p : Addr} {x : Str} {u : V} {d : PyData} (h : H p = some (.tup [.str x, u])) (hx : One x) (k : KV H n u d) : KV H (n + 1) (.ref p) (.tuple [.str x, d])
  | tup {n : Nat} {p q : Addr} {us : List V} {ds : List PyData} (h : H p = some (.tup [.str "tuple", .ref q])) (hq : H q = some (.tup us)) (hl : us.length = ds.length) (h1 : 1 ≤ us.length) (h6 : us.length ≤ 6)
      (k : ∀ (i : Nat) u d, us[i]? = some u → ds[i]? = some d → KV H n u d) : KV H (n + 1) (.ref p) (.tuple [.str "tuple", .tuple ds])
theorem KV.tm {H H' : Hp} (t : TM H H') {n : Nat} {v : V} {d : PyData} (h : KV H n v d) : KV H' n v d := by
  induction h with
  | leaf h hx => exact .leaf (t _ _ h) hx
  | recd h hx => exact .recd (t _ _ h) hx
  | one h hx _ ih => exact .one (t _ _ h) hx ih
  | tup h hq hl h1 h6 _ ih => exact .tup (t _ _ h) (t _ _ hq) hl h1 h6 ih
theorem KV.up {H : Hp} {n : Nat} {v : V} {d : PyData} (h : KV H n v d) : ∀ {m : Nat}, n ≤ m → KV H m v d := by
  induction h with
  | leaf h hx => intro m hm; obtain ⟨m, rfl⟩ : ∃ j, m = j + 1 := ⟨m - 1, by omega⟩; exact .leaf h hx
  | recd h hx => intro m hm; obtain ⟨m, rfl⟩ : ∃ j, m = j + 1 := ⟨m - 1, by omega⟩; exact .recd h hx
  | one h hx _ ih => intro m hm; obtain ⟨m, rfl⟩ : ∃ j, m = j + 1 := ⟨m - 1, by omega⟩; exact .one h hx (ih (by omega))
  | tup h hq hl h1 h6 _ ih => intro m hm; obtain ⟨m, rfl⟩ : ∃ j, m = j + 1 := ⟨m - 1, by omega⟩; exact .tup h hq hl h1 h6 fun i u d a b => ih i u d a b (by omega)
theorem dpAll_of {K : PySem.W.Frag} {H : Hp} : ∀ {us : List V} {ds : List PyData}, us.length = ds.length → (∀ (i : Nat) u d, us[i]? = some u → ds[i]? = some d → Dp K H u d) → DpAll K H us ds
  | [], [], _, _ => .nil
  | u :: us, d :: ds, hl, h => .cons (h 0 u d rfl rfl) (dpAll_of (by simpa using hl) fun i u' d' a b => h (i + 1) u' d' (by simpa using a) (by simpa using b))
theorem KV.dp {K : PySem.W.Frag} {H : Hp} {n : Nat} {v : V} {d : PyData} (h : KV H n v d) : Dp K H v d := by
  induction h with
  | leaf h hx => exact .tup (.inl (.inl h)) (.cons (.str _) .nil)
  | recd h hx => exact .tup (.inl (.inl h)) (.cons (.str _) (.cons (.str _) .nil))
  | one h hx _ ih => exact .tup (.inl (.inl h)) (.cons (.str _) (.cons ih .nil))
  | tup h hq hl h1 h6 _ ih => exact .tup (.inl (.inl h)) (.cons (.str _) (.cons (.tup (.inl (.inl hq)) (dpAll_of hl ih)) .nil))
theorem lay_all : ∀ {ds : List PyData}, (∀ d ∈ ds, d.canLay0 = true) → PyData.canLayAll0 ds = true
  | [], _ => rfl
  | d :: ds, h => by
    show (PyData.canLay0 d && PyData.canLayAll0 ds) = true
    rw [h d List.mem_cons_self, lay_all fun x hx => h x (List.mem_cons_of_mem _ hx)]; rfl
theorem depth_all {n : Nat} : ∀ {ds : List PyData}, (∀ d ∈ ds, d.depth ≤ n) → PyData.depthAll ds ≤ n
  | [], _ => Nat.zero_le _
  | d :: ds, h => Nat.max_le.mpr ⟨h d List.mem_cons_self, depth_all fun x hx => h x (List.mem_cons_of_mem _ hx)⟩
theorem lay_lit {x : Str} (h : (PyData.str x).canLay0 = true) : (PyData.tuple [.str x]).canLay0 = true ∧ (PyData.tuple [.str x]).depth ≤ 1 :=
  ⟨lay_all fun d hd => by
    have e : d = .str x := by simpa using hd
    rw [e]; exact h, Nat.le_refl _⟩
theorem KV.shape {H : Hp} {n : Nat} {v : V} {d : PyData} (h : KV H n v d) : d.canLay0 = true ∧ d.depth ≤ 2 * n := by
  have pair : ∀ {x : Str} {d : PyData} {m : Nat}, (PyData.str x).canLay0 = true → d.canLay0 = true → d.depth ≤ m → (PyData.tuple [.str x, d]).canLay0 = true ∧ (PyData.tuple [.str x, d]).depth ≤ m + 1 := fun {x d m} hx hd hm => by
    refine ⟨lay_all fun e he => ?_, Nat.succ_le_succ (depth_all fun e he => ?_)⟩
    · rcases List.mem_cons.mp he with z | he
      · rw [z]; exact hx
      · have z : e = d := by simpa using he
        rw [z]; exact hd
    · rcases List.mem_cons.mp he with z | he
      · rw [z]; exact Nat.zero_le _
      · have z : e = d := by simpa using he
        rw [z]; exact hm
  induction h with
  | @leaf n p x h hx =>
    have q : (PyData.str x).canLay0 = true := by rcases hx with rfl | rfl | rfl <;> decide +kernel
    exact ⟨(lay_lit q).1, Nat.le_trans (lay_lit q).2 (by omega)⟩
  | @recd n p x h hx =>
    have q : (PyData.str x).canLay0 = true := by rcases hx with rfl | rfl | rfl <;> decide +kernel
    have r := pair (x := "record") (m := 0) (by decide +kernel) q (Nat.le_refl _)
    exact ⟨r.1, Nat.le_trans r.2 (by omega)⟩
  | @one n p x u d h hx _ ih =>
    have q : (PyData.str x).canLay0 = true := by rcases hx with rfl | rfl | rfl | rfl | rfl <;> decide +kernel
    have r := pair q ih.1 ih.2
    exact ⟨r.1, Nat.le_trans r.2 (by omega)⟩
  | @tup n p q us ds h hq hl h1 h6 _ ih =>
    have all : ∀ d ∈ ds, d.canLay0 = true ∧ d.depth ≤ 2 * n := fun d hd => by
      obtain ⟨i, hi, e⟩ := List.mem_iff_getElem.mp hd
      exact ih i us[i] d (List.getElem?_eq_getElem (by omega)) (by rw [List.getElem?_eq_getElem hi, e])
    have r := pair (x := "tuple") (d := .tuple ds) (m := 2 * n + 1) (by decide +kernel) (lay_all fun d hd => (all d hd).1) (Nat.succ_le_succ (depth_all fun d hd => (all d hd).2))
    exact ⟨r.1, Nat.le_trans r.2 (by omega)⟩
theorem KV.shaped {H : Hp} {n : Nat} {v : V} {d : PyData} (h : KV H n v d) (hn : n ≤ 30) : PySem.SeqAt.shaped d = true := by
  have q := h.shape
  unfold PySem.SeqAt.shaped
  rw [q.1, decide_eq_true (show d.depth ≤ 64 by omega)]; rfl
/-- the fields of a record, as data -/
def fldN : List (Str × PyData) := [("n", .tuple [.str "int"]), ("next", .tuple [.str "maybe", .tuple [.str "box", .tuple [.str "record", .str "Node"]]])]
def fldP : List (Str × PyData) := [("n", .tuple [.str "bool"]), ("b", .tuple [.str "maybe", .tuple [.str "box", .tuple [.str "record", .str "Wide"]]])]
def fldW : List (Str × PyData) := [("a", .tuple [.str "int"]), ("next", .tuple [.str "record", .str "Pair"]), ("n", .tuple [.str "tuple", .tuple [.tuple [.str "int"], .tuple [.str "bool"]]])]
def fldD (x : Str) : List (Str × PyData) := if x = "Node" then fldN else if x = "Pair" then fldP else fldW
inductive FD (H : Hp) : List V → List (Str × PyData) → Prop
  | nil : FD H [] []
  | cons {p : Addr} {ws : List V} {fn : Str} {v : V} {d : PyData} {r : List (Str × PyData)} (h : H p = some (.tup [.str fn, v])) (k : KV H 6 v d) (t : FD H ws r) : FD H (.ref p :: ws) ((fn, d) :: r)
theorem FD.tm {H H' : Hp} (m : TM H H') {ws : List V} {r : List (Str × PyData)} (h : FD H ws r) : FD H' ws r := by
  induction h with
  | nil => exact .nil
  | cons h k _ ih => exact .cons (m _ _ h) (k.tm m) ih
theorem FD.len {H : Hp} {ws : List V} {r : List (Str × PyData)} (h : FD H ws r) : ws.length = r.length := by
  induction h with
  | nil => rfl
  | cons h k _ ih => rw [List.length_cons, List.length_cons, ih]
theorem FD.get {H : Hp} {ws : List V} {r : List (Str × PyData)} (h : FD H ws r) : ∀ {i : Nat} {u : V}, ws[i]? = some u → ∃ p fn v d, u = .ref p ∧ H p = some (.tup [.str fn, v]) ∧ KV H 6 v d ∧ r[i]? = some (fn, d) := by
  induction h with
  | nil => intro i u e; simp at e
  | cons h k _ ih =>
    intro i u e
    cases i with
    | zero => exact ⟨_, _, _, _, (Option.some.inj e).symm, h, k, rfl⟩
    | succ i => exact ih (i := i) (u := u) (by simpa using e)
/-- a pair of a text and a value -/
def Pr (H : Hp) (u : V) (n : Str) (t : V) : Prop := ∃ p, u = .ref p ∧ H p = some (.tup [.str n, t])
theorem Pr.tm {H H' : Hp} (m : TM H H') {u t : V} {n : Str} (h : Pr H u n t) : Pr H' u n t := by
  obtain ⟨p, e, hp⟩ := h
  exact ⟨p, e, m _ _ hp⟩
/-- the records -/
structure Rec (H : Hp) (us : List V) : Prop where
  all : ∀ u ∈ us, ∃ n f ws, Pr H u n (.ref f) ∧ H f = some (.tup ws) ∧ FD H ws (fldD n)
  has : ∀ n, Nm n → ∃ u ∈ us, ∃ f, Pr H u n (.ref f)
theorem Rec.tm {H H' : Hp} (m : TM H H') {us : List V} (h : Rec H us) : Rec H' us := ⟨fun u hu => by
  obtain ⟨n, f, ws, a, b, c⟩ := h.all u hu
  exact ⟨n, f, ws, a.tm m, m _ _ b, c.tm m⟩, fun n hn => by
  obtain ⟨u, hu, f, p⟩ := h.has n hn
  exact ⟨u, hu, f, p.tm m⟩⟩
section
variable {P : Program} {w : World} {K : PySem.W.Frag} {mg : Str → Option Value} {base : Heap}
def spFields : Sp := fun vs H Q _ => ∃ x, vs = [.str x] ∧ ∀ f ws H', Same H H' → H' f = some (.tup ws) → FD H' ws (fldD x) → Q (.ref f) H'
theorem ok_fields (T : Txt2 K mg) : FnOk P w K mg base CX0 1 T._law_fields.f T._law_fields.fd ["name"] spFields := by
  refine T._law_fields.F.ok sc__law_fields (fun vs H Q E h => ?_) (fun cdv A outer s H vs Q E hr h => ?_)
  · obtain ⟨x, rfl, _⟩ := h
    rfl
  obtain ⟨x, rfl, q⟩ := h
  refine ⟨_, (pss_cons (ps_if (pt_cmpR op_eq (pv 0) pe_str (nomark _)) (pss_one (ps_ret (pe_tup (pa_cons (pe_tup (pa_cons pe_str (pa_cons (pe_tup (pa_cons pe_str pa_nil)) pa_nil))) (pa_cons (pe_tup (pa_cons pe_str (pa_cons (pe_tup (pa_cons pe_str (pa_cons (pe_tup (pa_cons pe_str (pa_cons (pe_tup (pa_cons pe_str (pa_cons pe_str pa_nil))) pa_nil))) pa_nil))) pa_nil))) pa_nil))))) pss_nil)
    (pss_cons (ps_if (pt_cmpR op_eq (pv 0) pe_str (nomark _)) (pss_one (ps_ret (pe_tup (pa_cons (pe_tup (pa_cons pe_str (pa_cons (pe_tup (pa_cons pe_str pa_nil)) pa_nil))) (pa_cons (pe_tup (pa_cons pe_str (pa_cons (pe_tup (pa_cons pe_str (pa_cons (pe_tup (pa_cons pe_str (pa_cons (pe_tup (pa_cons pe_str (pa_cons pe_str pa_nil))) pa_nil))) pa_nil))) pa_nil))) pa_nil))))) pss_nil)
    (pss_one (ps_ret (pe_tup (pa_cons (pe_tup (pa_cons pe_str (pa_cons (pe_tup (pa_cons pe_str pa_nil)) pa_nil))) (pa_cons (pe_tup (pa_cons pe_str (pa_cons (pe_tup (pa_cons pe_str (pa_cons pe_str pa_nil))) pa_nil))) (pa_cons (pe_tup (pa_cons pe_str (pa_cons (pe_tup (pa_cons pe_str (pa_cons (pe_tup (pa_cons (pe_tup (pa_cons pe_str pa_nil)) (pa_cons (pe_tup (pa_cons pe_str pa_nil)) pa_nil))) pa_nil))) pa_nil))) pa_nil)))))))), ?_⟩
  have two : ∀ (x y z a b : Str) (H : Hp), Leaf x → Nm y → (∀ f ws H', Same H H' → H' f = some (.tup ws) → FD H' ws [(a, PyData.tuple [.str x]), (b, PyData.tuple [.str "maybe", .tuple [.str "box", .tuple [.str "record", .str y]]])] → Q (.ref f) H') →
      ∀ p1, H p1 = none → ∀ p2, (upd H p1 (.tup [.str x])) p2 = none → ∀ p3, (upd (upd H p1 (.tup [.str x])) p2 (.tup [.str a, .ref p1])) p3 = none →
      ∀ p4, (upd (upd (upd H p1 (.tup [.str x])) p2 (.tup [.str a, .ref p1])) p3 (.tup [.str "record", .str y])) p4 = none →
      ∀ p5, (upd (upd (upd (upd H p1 (.tup [.str x])) p2 (.tup [.str a, .ref p1])) p3 (.tup [.str "record", .str y])) p4 (.tup [.str "box", .ref p3])) p5 = none →
      ∀ p6, (upd (upd (upd (upd (upd H p1 (.tup [.str x])) p2 (.tup [.str a, .ref p1])) p3 (.tup [.str "record", .str y])) p4 (.tup [.str "box", .ref p3])) p5 (.tup [.str "maybe", .ref p4])) p6 = none →
      ∀ p7, (upd (upd (upd (upd (upd (upd H p1 (.tup [.str x])) p2 (.tup [.str a, .ref p1])) p3 (.tup [.str "record", .str y])) p4 (.tup [.str "box", .ref p3])) p5 (.tup [.str "maybe", .ref p4])) p6 (.tup [.str b, .ref p5])) p7 = none →
      Q (.ref p7) (upd (upd (upd (upd (upd (upd (upd H p1 (.tup [.str x])) p2 (.tup [.str a, .ref p1])) p3 (.tup [.str "record", .str y])) p4 (.tup [.str "box", .ref p3])) p5 (.tup [.str "maybe", .ref p4])) p6 (.tup [.str b, .ref p5])) p7 (.tup [.ref p2, .ref p6])) := by
    intro x y z a b H hx hy q p1 h1 p2 h2 p3 h3 p4 h4 p5 h5 p6 h6 p7 h7
    have g7 := same_new h7 (.tup [.ref p2, .ref p6])
    have g6 := (same_new h6 (.tup [.str b, .ref p5])).trans g7
    have g5 := (same_new h5 (.tup [.str "maybe", .ref p4])).trans g6
    have g4 := (same_new h4 (.tup [.str "box", .ref p3])).trans g5
    have g3 := (same_new h3 (.tup [.str "record", .str y])).trans g4
    have g2 := (same_new h2 (.tup [.str a, .ref p1])).trans g3
    have g1 := (same_new h1 (.tup [.str x])).trans g2
    refine q p7 _ _ g1 upd_same (.cons (g3 _ _ upd_same) (.leaf (n := 5) (g2 _ _ upd_same) hx) (.cons (g7 _ _ upd_same) ?_ .nil))
    exact .one (n := 5) (g6 _ _ upd_same) (.inl rfl) (.one (n := 4) (g5 _ _ upd_same) (.inr (.inl rfl)) (.recd (n := 3) (g4 _ _ upd_same) hy))
  refine ⟨_, rfl, rfl, _, rfl, ite2 (fun c => ?_) (fun c1 => ⟨_, rfl, rfl, _, rfl, ite2 (fun c => ?_) (fun c2 => ?_)⟩)⟩
  · have e := str_of_dec c
    subst e
    refine ⟨by show 1 ≤ sizeLine; decide, fun p1 h1 => ⟨by show 2 ≤ sizeLine; decide, fun p2 h2 => ⟨by show 2 ≤ sizeLine; decide, fun p3 h3 => ⟨by show 2 ≤ sizeLine; decide, fun p4 h4 => ⟨by show 2 ≤ sizeLine; decide, fun p5 h5 => ⟨by show 2 ≤ sizeLine; decide, fun p6 h6 => ⟨by show 2 ≤ sizeLine; decide, fun p7 h7 => ?_⟩⟩⟩⟩⟩⟩⟩
    exact two "int" "Node" "" "n" "next" H (.inl rfl) (.inl rfl) (by intro f ws H' g hf hfd; exact q f ws H' g hf hfd) p1 h1 p2 h2 p3 h3 p4 h4 p5 h5 p6 h6 p7 h7
  · have e := str_of_dec c
    subst e
    refine ⟨by show 1 ≤ sizeLine; decide, fun p1 h1 => ⟨by show 2 ≤ sizeLine; decide, fun p2 h2 => ⟨by show 2 ≤ sizeLine; decide, fun p3 h3 => ⟨by show 2 ≤ sizeLine; decide, fun p4 h4 => ⟨by show 2 ≤ sizeLine; decide, fun p5 h5 => ⟨by show 2 ≤ sizeLine; decide, fun p6 h6 => ⟨by show 2 ≤ sizeLine; decide, fun p7 h7 => ?_⟩⟩⟩⟩⟩⟩⟩
    have e : fldD "Pair" = fldP := by
      unfold fldD
      rw [if_neg (by decide +kernel), if_pos rfl]
    rw [e] at q
    exact two "bool" "Wide" "" "n" "b" H (.inr (.inl rfl)) (.inr (.inr rfl)) q p1 h1 p2 h2 p3 h3 p4 h4 p5 h5 p6 h6 p7 h7
  · have n1 : ¬ x = "Node" := fun e => c1 (decide_eq_true (by rw [e]))
    have n2 : ¬ x = "Pair" := fun e => c2 (decide_eq_true (by rw [e]))
    have e : fldD x = fldW := by
      unfold fldD
      rw [if_neg n1, if_neg n2]
    rw [e] at q
    refine ⟨by show 1 ≤ sizeLine; decide, fun p1 h1 => ⟨by show 2 ≤ sizeLine; decide, fun p2 h2 => ⟨by show 2 ≤ sizeLine; decide, fun p3 h3 => ⟨by show 2 ≤ sizeLine; decide, fun p4 h4 => ⟨by show 1 ≤ sizeLine; decide, fun p5 h5 => ⟨by show 1 ≤ sizeLine; decide, fun p6 h6 => ⟨by show 2 ≤ sizeLine; decide, fun p7 h7 => ⟨by show 2 ≤ sizeLine; decide, fun p8 h8 => ⟨by show 2 ≤ sizeLine; decide, fun p9 h9 => ⟨by show 3 ≤ sizeLine; decide, fun p h => ?_⟩⟩⟩⟩⟩⟩⟩⟩⟩⟩
    have g10 := same_new h (.tup [.ref p2, .ref p4, .ref p9])
    have g9 := (same_new h9 (.tup [.str "n", .ref p8])).trans g10
    have g8 := (same_new h8 (.tup [.str "tuple", .ref p7])).trans g9
    have g7 := (same_new h7 (.tup [.ref p5, .ref p6])).trans g8
    have g6 := (same_new h6 (.tup [.str "bool"])).trans g7
    have g5 := (same_new h5 (.tup [.str "int"])).trans g6
    have g4 := (same_new h4 (.tup [.str "next", .ref p3])).trans g5
    have g3 := (same_new h3 (.tup [.str "record", .str "Pair"])).trans g4
    have g2 := (same_new h2 (.tup [.str "a", .ref p1])).trans g3
    have g1 := (same_new h1 (.tup [.str "int"])).trans g2
    refine q p _ _ g1 upd_same (.cons (g3 _ _ upd_same) (.leaf (n := 5) (g2 _ _ upd_same) (.inl rfl)) (.cons (g5 _ _ upd_same) (.recd (n := 5) (g4 _ _ upd_same) (.inr (.inl rfl))) (.cons (g10 _ _ upd_same) ?_ .nil)))
    refine .tup (n := 5) (g9 _ _ upd_same) (g8 _ _ upd_same) rfl (by show 1 ≤ 2; decide) (by show 2 ≤ 6; decide) fun i u d hu hd => ?_
    rcases i with _ | _ | i
    · cases hu; cases hd
      exact .leaf (n := 4) (g6 _ _ upd_same) (.inl rfl)
    · cases hu; cases hd
      exact .leaf (n := 4) (g7 _ _ upd_same) (.inr (.inl rfl))
    · simp at hu
end
end Kk
namespace Kk
open PySem L2
/-- a kind -/
def KE (H : Hp) (n : Nat) (u : V) : Prop := ∃ d, KV H n u d
theorem KE.tm {H H' : Hp} (t : TM H H') {n : Nat} {v : V} (h : KE H n v) : KE H' n v := by
  obtain ⟨d, k⟩ := h
  exact ⟨d, k.tm t⟩
theorem KE.up {H : Hp} {n m : Nat} {v : V} (h : KE H n v) (hn : n ≤ m) : KE H m v := by
  obtain ⟨d, k⟩ := h
  exact ⟨d, k.up hn⟩
theorem ds_ex {H : Hp} {n : Nat} : ∀ {us : List V}, (∀ u ∈ us, KE H n u) → ∃ ds : List PyData, us.length = ds.length ∧ ∀ (i : Nat) u d, us[i]? = some u → ds[i]? = some d → KV H n u d
  | [], _ => ⟨[], rfl, fun i u d h => by simp at h⟩
  | u :: us, h => by
    obtain ⟨d, k⟩ := h u List.mem_cons_self
    obtain ⟨ds, hl, hs⟩ := ds_ex (us := us) fun x hx => h x (List.mem_cons_of_mem _ hx)
    refine ⟨d :: ds, by rw [List.length_cons, List.length_cons, hl], fun i u' d' hu hd => ?_⟩
    cases i with
    | zero => cases hu; cases hd; exact k
    | succ i => exact hs i u' d' (by simpa using hu) (by simpa using hd)
theorem KE.tup {H : Hp} {n : Nat} {p q : Addr} {us : List V} (h : H p = some (.tup [.str "tuple", .ref q])) (hq : H q = some (.tup us)) (h1 : 1 ≤ us.length) (h6 : us.length ≤ 6) (k : ∀ u ∈ us, KE H n u) : KE H (n + 1) (.ref p) := by
  obtain ⟨ds, hl, hs⟩ := ds_ex k
  exact ⟨_, .tup h hq hl h1 h6 hs⟩
theorem KV.inv {H : Hp} {n : Nat} {v : V} {d : PyData} (k : KV H (n + 1) v d) : ∃ p x us, v = .ref p ∧ H p = some (.tup (.str x :: us)) ∧
    ((us = [] ∧ Leaf x ∧ d = .tuple [.str x]) ∨ (x = "record" ∧ ∃ y, us = [.str y] ∧ Nm y ∧ d = .tuple [.str "record", .str y]) ∨ (One x ∧ ∃ u e, us = [u] ∧ KV H n u e ∧ d = .tuple [.str x, e]) ∨
      (x = "tuple" ∧ ∃ q ws ds, us = [.ref q] ∧ H q = some (.tup ws) ∧ ws.length = ds.length ∧ 1 ≤ ws.length ∧ ws.length ≤ 6 ∧ (∀ (i : Nat) u e, ws[i]? = some u → ds[i]? = some e → KV H n u e) ∧ d = .tuple [.str "tuple", .tuple ds])) := by
  cases k with
  | leaf h hx => exact ⟨_, _, _, rfl, h, .inl ⟨rfl, hx, rfl⟩⟩
  | recd h hx => exact ⟨_, _, _, rfl, h, .inr (.inl ⟨rfl, _, rfl, hx, rfl⟩)⟩
  | one h hx k => exact ⟨_, _, _, rfl, h, .inr (.inr (.inl ⟨hx, _, _, rfl, k, rfl⟩))⟩
  | tup h hq hl h1 h6 k => exact ⟨_, _, _, rfl, h, .inr (.inr (.inr ⟨rfl, _, _, _, rfl, hq, hl, h1, h6, k, rfl⟩))⟩
theorem one_ne {x : Str} (h : One x) : x ≠ "tuple" ∧ x ≠ "record" ∧ ¬ Leaf x := by
  refine ⟨fun e => ?_, fun e => ?_, fun e => ?_⟩
  · rw [e] at h
    revert h
    unfold One
    decide +kernel
  · rw [e] at h
    revert h
    unfold One
    decide +kernel
  · unfold One at h
    unfold Leaf at e
    rcases e with rfl | rfl | rfl <;> exact absurd h (by decide +kernel)
theorem leaf_ne {x : Str} (h : Leaf x) : x ≠ "tuple" ∧ x ≠ "record" ∧ x ≠ "maybe" := by
  unfold Leaf at h
  rcases h with rfl | rfl | rfl <;> decide +kernel
section
variable {P : Program} {w : World} {K : PySem.W.Frag} {mg : Str → Option Value} {base : Heap}
def spRecs : Sp := fun vs H Q _ => ∃ (a : Addr), vs = [.ref a] ∧ St4 H a ∧ ∀ p us H', H' p = some (.tup us) → us.length ≤ 3 → Rec H' us → St4 H' a → But a H H' → Q (.ref p) H'
theorem ok_records (T : Txt2 K mg) : FnOk P w K mg base CX0 3 T._law_records.f T._law_records.fd ["tape"] spRecs := by
  refine T._law_records.F.ok sc__law_records (fun vs H Q E h => ?_) (fun cdv A outer s H vs Q E hr h => ?_)
  · obtain ⟨a, rfl, _⟩ := h
    rfl
  obtain ⟨a, rfl, hst, q⟩ := h
  refine ⟨_, (pss_cons (ps_set (i := 1) sc__law_records.nd rfl (Or.inl rfl) (pe_lst (pa_cons pe_str (pa_cons pe_str (pa_cons pe_str pa_nil)))))
    (pss_cons (ps_set (i := 2) sc__law_records.nd rfl (Or.inl rfl) (pe_call (ok_next T.toTxt1) (hr.mono (by omega)) rfl T._law_next.g T._law_next.F.kp T._law_next.b .nil pass0 (pa_cons (pv 0) (pa_cons pe_int pa_nil))))
    (pss_cons (ps_set (i := 1) sc__law_records.nd rfl (Or.inl rfl) (pe_op op_cat (pe_slice sl_list (pv 1) (po_some (pv 2)) po_none) (pe_slice sl_list (pv 1) po_none (po_some (pv 2)))))
    (C8.pss_cut (ps_if (pt_cmpR op_eq (pe_call (ok_next T.toTxt1) (hr.mono (by omega)) rfl T._law_next.g T._law_next.F.kp T._law_next.b .nil pass0 (pa_cons (pv 0) (pa_cons pe_int pa_nil))) pe_int (nomark _)) (pss_one (ps_set (i := 1) sc__law_records.nd rfl (Or.inl rfl) (pe_revL (pv 1)))) pss_nil)
    (pss_one (ps_ret (pe_callTy call_tuple_of rfl T.z_tuple PyProof.Rows.boot_tuple (pa_cons (pe_lc (own := [("name", 3)]) (g := gName 3) (tt := tYes) rfl sc__law_records.nd (pi_list (pv 1)) (blkOk_by (N := ["tape", "names", "at", "name"]) (sc := defScope s__law_records) (by decide +kernel)) (fun _ _ _ _ _ => pg_name (i := 3) sc__law_records.nd rfl (Or.inl rfl)) (fun _ _ _ _ _ => pts_nil) (fun _ _ _ _ _ => (pe_tup (pa_cons (pv 3) (pa_cons (pe_call (ok_fields T) (hr.mono (by omega)) rfl T._law_fields.g T._law_fields.F.kp T._law_fields.b .nil pass0 (pa_cons (pv 3) pa_nil)) pa_nil))))) pa_nil)))))))), ?_⟩
  have f0 : Frm a H H := ⟨hst, .refl a H⟩
  refine ⟨by show 3 ≤ sizeLine; decide, fun l hl => ?_⟩
  have f1 := f0.new (o := .lst [.str "Node", .str "Pair", .str "Wide"]) hl
  have la := hst.ne hl
  refine ⟨_, rfl, a, 3, rfl, f1.st, by decide, by decide, fun n H2 n0 n1 st2 b2 => ?_⟩
  have f2 : Frm a H H2 := ⟨st2, f1.bt.trans b2⟩
  have hl2 : H2 l = some (.lst ((["Node", "Pair", "Wide"] : List Str).map V.str)) := b2 _ _ la upd_same
  obtain ⟨j, rfl⟩ : ∃ j : Nat, n = (j : Int) := ⟨n.toNat, by omega⟩
  have e1 : cutV ((["Node", "Pair", "Wide"] : List Str).map V.str) (some (j : Int)) none = ((["Node", "Pair", "Wide"] : List Str).drop j).map V.str := by rw [cut_drop (by show j ≤ 3; omega), List.map_drop]
  have e2 : cutV ((["Node", "Pair", "Wide"] : List Str).map V.str) none (some (j : Int)) = ((["Node", "Pair", "Wide"] : List Str).take j).map V.str := by rw [cut_take, List.map_take]
  refine ⟨_, rfl, _, rfl, _, rfl, l, _, rfl, SqL.of hl2, fun p1 hp1 => ?_⟩
  have f3 := f2.new (o := .lst (cutV ((["Node", "Pair", "Wide"] : List Str).map V.str) (some (j : Int)) none)) hp1
  refine ⟨_, rfl, _, rfl, _, rfl, l, _, rfl, SqL.of ((same_new hp1 _) _ _ hl2), fun p2 hp2 => ?_⟩
  have f4 := f3.new (o := .lst (cutV ((["Node", "Pair", "Wide"] : List Str).map V.str) none (some (j : Int)))) hp2
  refine ⟨p1, p2, _, _, rfl, rfl, (same_new hp2 _) _ _ upd_same, upd_same, ?_, fun p3 hp3 => ?_⟩
  · rw [e1, e2, List.length_map, List.length_map, List.length_drop, List.length_take]
    exact line_of (by show 3 - j + min j 3 ≤ _; omega)
  have e3 : cutV ((["Node", "Pair", "Wide"] : List Str).map V.str) (some (j : Int)) none ++ cutV ((["Node", "Pair", "Wide"] : List Str).map V.str) none (some (j : Int)) = ((["Node", "Pair", "Wide"] : List Str).drop j ++ (["Node", "Pair", "Wide"] : List Str).take j).map V.str := by rw [e1, e2, List.map_append]
  rw [e3]
  obtain ⟨xs, exs⟩ : ∃ xs : List Str, xs = (["Node", "Pair", "Wide"] : List Str).drop j ++ (["Node", "Pair", "Wide"] : List Str).take j := ⟨_, rfl⟩
  rw [← exs]
  have xl : xs.length ≤ 3 := by
    rw [exs, List.length_append, List.length_drop, List.length_take]
    show 3 - j + min j 3 ≤ 3
    omega
  have xm : ∀ n, Nm n → n ∈ xs := fun n hn => by
    have hm : n ∈ (["Node", "Pair", "Wide"] : List Str) := by
      rcases hn with rfl | rfl | rfl <;> decide +kernel
    rw [← List.take_append_drop j (["Node", "Pair", "Wide"] : List Str)] at hm
    rw [exs]
    rcases List.mem_append.mp hm with h | h
    · exact List.mem_append_right _ h
    · exact List.mem_append_left _ h
  clear exs e3
  have f5 := f4.new (o := .lst (xs.map V.str)) hp3
  have p3a := f4.st.ne hp3
  refine ⟨fun σ' H' => ∃ (nl : Addr) (xs : List Str) (o : Option V), σ' = [some (.ref a), some (.ref nl), o, none] ∧ H' nl = some (.lst (xs.map V.str)) ∧ xs.length ≤ 3 ∧ (∀ n, Nm n → n ∈ xs) ∧ Frm a H H', ?_, ?_⟩
  · refine ⟨_, rfl, a, 2, rfl, f5.st, by decide, by decide, fun n H6 n0 n1 st6 b6 => ⟨rfl, _, rfl, ?_⟩⟩
    have f6 : Frm a H H6 := ⟨st6, f5.bt.trans b6⟩
    have h36 := b6 _ _ p3a upd_same
    refine ite2 (fun _ => ?_) (fun _ => ⟨p3, xs, _, rfl, h36, xl, xm, f6⟩)
    refine ⟨_, rfl, p3, _, rfl, SqL.of h36, fun p4 hp4 => ?_⟩
    exact ⟨p4, xs.reverse, _, rfl, by rw [upd_same, List.map_reverse], by rw [List.length_reverse]; exact xl, fun n hn => List.mem_reverse.mpr (xm n hn), f6.new hp4⟩
  · rintro σ' H7 ⟨nl, ys, o, rfl, hnl, yl, ym, f7⟩
    refine ⟨_, rfl, nl, rfl, ⟨_, SqL.of hnl⟩, fun D hD => lc_list (K := K) (a := nl) (xs := ys.map V.str)
      (fun i H' => ∃ us : List V, H' D = some (.lst us) ∧ us.length = i ∧ Same H7 H' ∧ (∀ u ∈ us, ∃ n f ws, Pr H' u n (.ref f) ∧ H' f = some (.tup ws) ∧ FD H' ws (fldD n)) ∧ ∀ (k : Nat) n, k < i → ys[k]? = some n → ∃ u ∈ us, ∃ f, Pr H' u n (.ref f))
      ⟨[], upd_same, rfl, same_new hD _, fun u hu => absurd hu (by simp), fun k n hk => absurd hk (Nat.not_lt_zero _)⟩ (fun i H' _ ⟨_, _, _, g, _⟩ => SqL.of (g _ _ hnl)) ?_ ?_⟩
    · rintro i v H8 hi ⟨us, hD8, hlen, g8, hus, hks⟩
      obtain ⟨y, hy, ey⟩ : ∃ y, ys[i]? = some y ∧ v = .str y := by
        rw [List.getElem?_map] at hi
        cases e : ys[i]? with
        | none => rw [e] at hi; cases hi
        | some y => rw [e] at hi; exact ⟨y, rfl, (Option.some.inj hi).symm⟩
      subst ey
      have hi3 : i < 3 := by
        have := (List.getElem?_eq_some_iff.mp hy).1
        omega
      refine ⟨rfl, _, rfl, _, rfl, y, rfl, fun f ws H9 g9 hf hfd => ⟨by show 2 ≤ sizeLine; decide, fun p hp => ⟨us, (same_new hp _) _ _ (g9 _ _ hD8), Nat.lt_of_lt_of_le (show us.length < 1000 by omega) (by decide), us ++ [.ref p], upd_same, by rw [List.length_append, hlen]; rfl, ?_, ?_, ?_⟩⟩⟩
      · exact fun b o e => by
          rw [upd_ne (ne_of_none e hD)]
          exact (same_new hp _) _ _ (g9 _ _ (g8 _ _ e))
      all_goals
        have gA : TM H8 (upd (upd H9 p (.tup [.str y, .ref f])) D (.lst (us ++ [.ref p]))) := ((TM.same g9).trans (TM.new hp)).trans (TM.lst ((same_new hp _) _ _ (g9 _ _ hD8)))
        have gB : TM H9 (upd (upd H9 p (.tup [.str y, .ref f])) D (.lst (us ++ [.ref p]))) := (TM.new hp).trans (TM.lst ((same_new hp _) _ _ (g9 _ _ hD8)))
        have hpp : (upd (upd H9 p (.tup [.str y, .ref f])) D (.lst (us ++ [.ref p]))) p = some (.tup [.str y, .ref f]) := (TM.lst ((same_new hp _) _ _ (g9 _ _ hD8))) _ _ upd_same
      · intro u hu
        rcases List.mem_append.mp hu with m | m
        · obtain ⟨n, f', ws', a', b', c'⟩ := hus u m
          exact ⟨n, f', ws', a'.tm gA, gA _ _ b', c'.tm gA⟩
        · have e : u = .ref p := by simpa using m
          rw [e]
          exact ⟨y, f, ws, ⟨p, rfl, hpp⟩, gB _ _ hf, hfd.tm gB⟩
      · intro k n hk hn
        by_cases ek : k = i
        · rw [ek, hy] at hn
          have en := Option.some.inj hn
          subst en
          exact ⟨.ref p, List.mem_append_right _ List.mem_cons_self, f, p, rfl, hpp⟩
        · obtain ⟨u, hu, f', pr⟩ := hks k n (by omega) hn
          exact ⟨u, List.mem_append_left _ hu, f', pr.tm gA⟩
    · rintro H8 ⟨us, hD8, hlen, g8, hus, hks⟩
      refine ⟨D, us, rfl, .inl ⟨SqL.of hD8, fun p hp => ?_⟩⟩
      have t8 := TM.new (o := .tup us) hp
      rw [List.length_map] at hlen hks
      refine q p us _ upd_same (by omega) (Rec.tm t8 ⟨hus, fun n hn => ?_⟩) ((f7.st.same g8).put hp) ((f7.bt.trans (.of g8)).trans (.new hp _))
      obtain ⟨k, hk, e⟩ := List.mem_iff_getElem.mp (ym n hn)
      exact hks k n hk (by rw [List.getElem?_eq_getElem hk, e])
def spCells (m : Nat) : Sp := fun vs H Q _ => ∃ v, vs = [v] ∧ KE H m v ∧ ∀ i H', Same H H' → Q (.int i) H'
theorem none_cells {f : Addr} {fd : FuncData} : FnOk P w K mg base CX0 0 f fd ["kind"] (spCells 0) := by
  have no : ∀ vs H Q E, ¬ spCells 0 vs H Q E := fun vs H Q E h => by
    obtain ⟨v, _, ⟨d, k⟩, _⟩ := h
    cases k
  exact ⟨fun vs H Q E h => absurd h (no vs H Q E), fun A outer s H args us vs Q E _ _ _ _ h => absurd h (no vs H Q E)⟩
theorem ok_cells (T : Txt2 K mg) {m : Nat} (G : FnOk P w K mg base CX0 m T._law_cells.f T._law_cells.fd ["kind"] (spCells m)) :
    FnOk P w K mg base CX0 (m + 1) T._law_cells.f T._law_cells.fd ["kind"] (spCells (m + 1)) := by
  refine T._law_cells.F.ok sc__law_cells (fun vs H Q E h => ?_) (fun cdv A outer s H vs Q E hr h => ?_)
  · obtain ⟨v, rfl, _⟩ := h
    rfl
  obtain ⟨v, rfl, ⟨d, kv⟩, q⟩ := h
  refine ⟨_, (pss_cons (ps_if (pt_cmpR op_eq (pe_ix ix_tup (pv 0) pe_int (fun _ _ => rfl)) pe_str (nomark _)) (pss_one (ps_ret (pe_op op_add pe_int (pe_call (G) (hr) rfl T._law_cells.g T._law_cells.F.kp T._law_cells.b .nil pass0 (pa_cons (pe_ix ix_tup (pv 0) pe_int (fun _ _ => rfl)) pa_nil))))) pss_nil)
    (pss_cons (ps_if (pt_cmpR op_eq (pe_ix ix_tup (pv 0) pe_int (fun _ _ => rfl)) pe_str (nomark _)) (pss_one (ps_ret (pe_callB (cr_sum rfl) rfl T.z_sum bt_sum (pa_cons (pe_lc (own := [("item", 1)]) (g := gName 1) (tt := tYes) rfl sc__law_cells.nd (pi_tup (pe_ix ix_tup (pv 0) pe_int (fun _ _ => rfl))) (blkOk_by (N := ["kind", "item"]) (sc := defScope s__law_cells) (by decide +kernel)) (fun _ _ _ _ _ => pg_name (i := 1) sc__law_cells.nd rfl (Or.inl rfl)) (fun _ _ _ _ _ => pts_nil) (fun _ _ _ _ _ => (pe_call (G) (hr) rfl T._law_cells.g T._law_cells.F.kp T._law_cells.b .nil pass0 (pa_cons (pv 1) pa_nil)))) pa_nil)))) pss_nil)
    (pss_cons (ps_if (pt_cmpR op_eq (pe_ix ix_tup (pv 0) pe_int (fun _ _ => rfl)) pe_str (nomark _)) (pss_one (ps_ret (pe_ifExp (pt_cmpR op_eq (pe_ix ix_tup (pv 0) pe_int (fun _ _ => rfl)) pe_str (nomark _)) pe_int pe_int))) pss_nil)
    (pss_one (ps_ret pe_int))))), ?_⟩
  obtain ⟨p, x, us, rfl, hp, c⟩ := kv.inv
  have sq : SqT K H p (.str x :: us) := .inl (.inl hp)
  refine ⟨_, rfl, p, _, 0, _, rfl, rfl, sq, atI_0, rfl, _, rfl, ite2 (fun c1 => ?_) (fun c1 => ?_)⟩
  · have e := str_of_dec c1
    rcases c with ⟨_, hx, _⟩ | ⟨hx, _⟩ | ⟨hx, u, e', rfl, k, _⟩ | ⟨hx, _⟩
    · exact absurd e (leaf_ne hx).2.2
    · rw [e] at hx; exact absurd hx (by decide +kernel)
    · exact ⟨_, rfl, p, _, 1, _, rfl, rfl, sq, atI_1, u, rfl, ⟨_, k⟩, fun i H1 g1 => ⟨_, _, rfl, rfl, q _ _ g1⟩⟩
    · rw [e] at hx; exact absurd hx (by decide +kernel)
  refine ⟨_, rfl, p, _, 0, _, rfl, rfl, sq, atI_0, rfl, _, rfl, ite2 (fun c2 => ?_) (fun c2 => ?_)⟩
  · have e := str_of_dec c2
    rcases c with ⟨_, hx, _⟩ | ⟨hx, _⟩ | ⟨hx, _⟩ | ⟨_, r, ws, ds, rfl, hr2, hl, h1, h6, hk, _⟩
    · exact absurd e (leaf_ne hx).1
    · rw [e] at hx; exact absurd hx (by decide +kernel)
    · exact absurd e (one_ne hx).1
    · refine ⟨_, rfl, p, _, 1, _, rfl, rfl, sq, atI_1, r, rfl, ⟨_, .inl (.inl hr2)⟩, fun D hD => lc_tup (K := K) (a := r) (xs := ws)
        (fun i H' => ∃ is : List Int, H' D = some (.lst (is.map V.int)) ∧ is.length = i ∧ Same H H') ⟨[], upd_same, rfl, same_new hD _⟩ (fun i H' _ ⟨_, _, _, g⟩ => .inl (.inl (g _ _ hr2))) ?_ ?_⟩
      · rintro i u H' hi ⟨is, hD', hlen, g⟩
        have hi' : i < ws.length := (List.getElem?_eq_some_iff.mp hi).1
        refine ⟨rfl, _, rfl, u, rfl, KE.tm (.same g) ⟨_, hk i u _ hi (List.getElem?_eq_getElem (by omega))⟩, fun y H2 g2 => ?_⟩
        refine ⟨_, g2 _ _ hD', by rw [List.length_map]; exact Nat.lt_of_lt_of_le (show is.length < 1000 by omega) (by decide), is ++ [y], ?_, by rw [List.length_append, hlen]; rfl, ?_⟩
        · rw [upd_same, List.map_append]; rfl
        · exact fun b o e => by
            have hb : b ≠ D := ne_of_none e hD
            rw [upd_ne hb]; exact g2 _ _ (g _ _ e)
      · rintro H' ⟨is, hD', hlen, g⟩
        exact ⟨D, is, rfl, SqL.of hD', q _ _ g⟩
  refine ⟨_, rfl, p, _, 0, _, rfl, rfl, sq, atI_0, rfl, _, rfl, ite2 (fun c3 => ?_) (fun c3 => q _ _ (.refl H))⟩
  have e := str_of_dec c3
  rcases c with ⟨_, hx, _⟩ | ⟨_, y, rfl, hy, _⟩ | ⟨hx, _⟩ | ⟨hx, _⟩
  · exact absurd e (leaf_ne hx).2.1
  · exact ⟨_, rfl, p, _, 1, _, rfl, rfl, sq, atI_1, rfl, _, rfl, ite2 (fun _ => q _ _ (.refl H)) (fun _ => q _ _ (.refl H))⟩
  · exact absurd e (one_ne hx).2.1
  · rw [e] at hx; exact absurd hx (by decide +kernel)
theorem ok_cellsN (T : Txt2 K mg) : ∀ m : Nat, FnOk P w K mg base CX0 m T._law_cells.f T._law_cells.fd ["kind"] (spCells m)
  | 0 => none_cells
  | m + 1 => ok_cells T (ok_cellsN T m)
def spFit : Sp := fun vs H Q _ => ∃ (l : Addr) (most : Int) (us : List V) (n : Nat), vs = [.ref l, .int most] ∧ H l = some (.lst us) ∧ us.length ≤ 6 ∧ (∀ u ∈ us, KE H n u) ∧ n ≤ 6 ∧
  ∀ p ws H', H' p = some (.tup ws) → ws.length = us.length → (∀ u ∈ ws, KE H' n u) → Same H H' → H p = none → Q (.ref p) H'
theorem ok_fit (T : Txt2 K mg) : FnOk P w K mg base CX0 8 T._law_fitting.f T._law_fitting.fd ["items", "most"] spFit := by
  refine T._law_fitting.F.ok sc__law_fitting (fun vs H Q E h => ?_) (fun cdv A outer s H vs Q E hr h => ?_)
  · obtain ⟨l, most, us, n, rfl, _⟩ := h
    rfl
  obtain ⟨l, most, us, n, rfl, hl, hl6, hus, hn, q⟩ := h
  refine ⟨_, (pss_cons (ps_set (i := 2) sc__law_fitting.nd rfl (Or.inl rfl) (pe_lst pa_nil))
    (pss_cons (ps_set (i := 3) sc__law_fitting.nd rfl (Or.inl rfl) pe_int)
    (pss_cons (ps_for PassesOwn.never rfl (pi_range1 (by rfl) T.z_range (pa_cons (pe_callB call_len_seq rfl T.z_len PySem.boot_len (pa_cons (pv 0) pa_nil)) pa_nil)) (pg_name (i := 4) sc__law_fitting.nd rfl (Or.inl rfl)) (pss_cons (ps_set (i := 5) sc__law_fitting.nd rfl (Or.inl rfl) (pe_ix ix_list (pv 0) (pv 4) (fun _ _ => rfl)))
      (C8.pss_cut (ps_if (pt_cmpR op_gt (pe_op op_sub (pe_op op_sub (pe_op op_add (pe_op op_add (pv 3) (pe_call (ok_cellsN T 6) (hr.mono (by omega)) rfl T._law_cells.g T._law_cells.F.kp T._law_cells.b .nil pass0 (pa_cons (pv 5) pa_nil))) (pe_callB call_len_seq rfl T.z_len PySem.boot_len (pa_cons (pv 0) pa_nil))) pe_int) (pv 4)) (pv 1) (nomark _)) (pss_one (ps_set (i := 5) sc__law_fitting.nd rfl (Or.inl rfl) (pe_tup (pa_cons pe_str pa_nil)))) pss_nil)
      (pss_cons (ps_set (i := 3) sc__law_fitting.nd rfl (Or.inl rfl) (pe_op op_add (pv 3) (pe_call (ok_cellsN T 6) (hr.mono (by omega)) rfl T._law_cells.g T._law_cells.F.kp T._law_cells.b .nil pass0 (pa_cons (pv 5) pa_nil))))
      (pss_one (ps_expr (pe_bm PySem.F.plainAttrs_list PySem.F.slot_list_append PySem.F.type_list_append mt_append (pv 2) (pa_cons (pv 5) pa_nil))))))))
    (pss_one (ps_ret (pe_callTy call_tuple_of rfl T.z_tuple PyProof.Rows.boot_tuple (pa_cons (pv 2) pa_nil))))))), ?_⟩
  refine ⟨by show 0 ≤ sizeLine; decide, fun fl hfl => ?_⟩
  have g1 := same_new hfl (.lst [])
  refine ⟨_, rfl, l, _, rfl, .inl (SqL.of (g1 _ _ hl)), _, rfl, by omega, by omega, for_range (lo := 0) (n := ((us.length : Int)).toNat)
    (fun i σ' H' => ∃ (c : Int) (o1 o2 : Option V) (ws : List V), σ' = [some (.ref l), some (.int most), some (.ref fl), some (.int c), o1, o2] ∧ H' fl = some (.lst ws) ∧ ws.length = i ∧ (∀ u ∈ ws, KE H' n u) ∧ Same H H') ?_ ?_ ?_⟩
  · exact ⟨0, _, _, [], rfl, upd_same, rfl, fun u hu => absurd hu (by simp), g1⟩
  · rintro i σ' H2 hi ⟨c, o1, o2, ws, rfl, hf2, hlen, hws, g2⟩
    obtain ⟨u, hu, hu'⟩ := atI_ex (l := us) (n := (0 + (i : Int))) (by omega) (by omega)
    have ku := (hus u (mem_of_get hu)).tm (.same g2)
    have hl2 := g2 _ _ hl
    refine ⟨_, rfl, _, rfl, l, _, _, u, rfl, rfl, SqL.of hl2, hu', ?_⟩
    refine ⟨fun σ' H' => ∃ (v : V), σ' = [some (.ref l), some (.int most), some (.ref fl), some (.int c), some (.int (0 + (i : Int))), some v] ∧ H' fl = some (.lst ws) ∧ (∀ u ∈ ws, KE H' n u) ∧ KE H' n v ∧ Same H H',
      ⟨_, rfl, _, rfl, u, rfl, ku.up hn, fun c1 H3 g3 => ⟨_, _, rfl, rfl, _, rfl, l, _, rfl, .inl (SqL.of (g3 _ _ hl2)), _, _, rfl, rfl, _, _, rfl, rfl, _, rfl, _, _, rfl, rfl, _, rfl, _, _, rfl, rfl, _, rfl, ite2 (fun _ => ?_) (fun _ => ?_)⟩⟩, ?_⟩
    · have g13 := g2.trans g3
      refine ⟨by show 1 ≤ sizeLine; decide, fun p hp => ?_⟩
      have n1 : ∃ m, n = m + 1 := by
        obtain ⟨d, k⟩ := ku
        cases n with
        | zero => cases k
        | succ m => exact ⟨m, rfl⟩
      obtain ⟨m, rfl⟩ := n1
      have t3 := (TM.same g3).trans (TM.new (o := .tup [.str "int"]) hp)
      exact ⟨.ref p, rfl, (same_new hp _) _ _ (g3 _ _ hf2), fun u hu => (hws u hu).tm t3, ⟨_, .leaf (n := m) upd_same (.inl rfl)⟩, g13.trans (same_new hp _)⟩
    · have g13 := g2.trans g3
      exact ⟨u, rfl, g3 _ _ hf2, fun u hu => (hws u hu).tm (.same g3), ku.tm (.same g3), g13⟩
    · rintro σ' H4 ⟨v, rfl, hf4, hws4, kv, g4⟩
      refine ⟨_, rfl, _, rfl, v, rfl, kv.up hn, fun c2 H5 g5 => ⟨_, _, rfl, rfl, ?_⟩⟩
      have hf5 := g5 _ _ hf4
      refine ⟨_, rfl, .inl ⟨rfl, _, SqL.of hf5⟩, ?_⟩
      refine ⟨_, rfl, fl, _, _, rfl, rfl, hf5, line_of (by omega), ?_⟩
      have t5 := (TM.same g5).trans (TM.lst (o := .lst (ws ++ [v])) hf5)
      refine ⟨_, _, _, ws ++ [v], rfl, upd_same, by rw [List.length_append, hlen]; rfl, fun u hu => ?_, fun b o e => by rw [upd_ne (ne_of_none e hfl)]; exact g5 _ _ (g4 _ _ e)⟩
      rcases List.mem_append.mp hu with m | m
      · exact (hws4 u m).tm t5
      · have e : u = v := by simpa using m
        rw [e]; exact kv.tm t5
  · rintro σ' H2 ⟨c, o1, o2, ws, rfl, hf2, hlen, hws, g2⟩
    refine ⟨_, rfl, fl, ws, rfl, .inl ⟨SqL.of hf2, fun p hp => ?_⟩⟩
    exact q p ws _ upd_same (by omega) (fun u hu => (hws u hu).tm (TM.new hp)) (g2.trans (same_new hp _)) (g2.free hp)
end
end Kk
namespace Kk
open PySem L2
abbrev s__law_kind : Stmt := topS 26
theorem sc__law_kind : FnScope ["tape", "depth", "plain", "choice", "name", "many", "k"] ["tape", "depth", "plain"] (defScope s__law_kind) := ⟨rfl, rfl, rfl, by decide +kernel, rfl, by decide +kernel, by decide +kernel⟩
abbrev s__law_step : Stmt := topS 27
theorem sc__law_step : FnScope ["tape", "kind", "fields"] ["tape", "kind"] (defScope s__law_step) := ⟨rfl, rfl, rfl, by decide +kernel, rfl, by decide +kernel, by decide +kernel⟩
structure Txt3 (K : PySem.W.Frag) (mg : Str → Option Value) extends Txt2 K mg where
  _law_kind : Df K mg "_law_kind" s__law_kind ["tape", "depth", "plain"]
  _law_step : Df K mg "_law_step" s__law_step ["tape", "kind"]
section
variable {X : Cx}
/-- a test, with a word between its answer and what follows -/
theorem pt_mid {e : Expr} {t : TT} (h : PT X e t) : PT X e (fun σ H Q => ∃ Pm : Bool → Hp → Prop, t σ H Pm ∧ ∀ b H1, Pm b H1 → Q b H1) :=
  ⟨fun pins s σ H Q I ⟨Pm, h1, h2⟩ => thn (h.run pins s σ H Pm I h1) fun b s1 ⟨H1, I1, q⟩ => ⟨H1, I1, h2 b H1 q⟩⟩
/-- a value, with a word between it and what follows -/
theorem pe_mid {e : Expr} {t : TE} (h : PE X e t) : PE X e (fun σ H Q => ∃ Pm : V → Hp → Prop, t σ H Pm ∧ ∀ v H1, Pm v H1 → Q v H1) :=
  ⟨fun pins s σ H Q I ⟨Pm, h1, h2⟩ => thn (h.run pins s σ H Pm I h1) fun u s1 ⟨v, H1, I1, r, q⟩ => ⟨v, H1, I1, r, h2 v H1 q⟩⟩
end
/-- a step: an int of no great size, a text of no great length -/
def StepV (v : V) : Prop := (∃ i : Int, v = .int i ∧ i.natAbs < 2 ^ 100) ∨ ∃ x, v = .str x ∧ Gd 100 x
theorem gd_lit (x : Str) (h : (decide (x.length ≤ 20) && x.cps.toList.all (fun c => decide (c < 1114112))) = true) : Gd 20 x := by
  rw [Bool.and_eq_true] at h
  exact ⟨of_decide_eq_true h.1, all_lt h.2⟩
theorem stepI {i : Int} (h : i.natAbs < 2 ^ 33) : StepV (.int i) := .inl ⟨i, rfl, Nat.lt_trans h (by decide)⟩
theorem stepS (x : Str) (h : (decide (x.length ≤ 20) && x.cps.toList.all (fun c => decide (c < 1114112))) = true) : StepV (.str x) := .inr ⟨x, rfl, (gd_lit x h).mono (by decide)⟩
theorem fld_all (x : Str) : 1 ≤ (fldD x).length ∧ (fldD x).length ≤ 3 ∧ ∀ q ∈ fldD x, Gd 20 q.1 := by
  have one : ∀ l : List (Str × PyData), 1 ≤ l.length → l.length ≤ 3 → (l.all fun q => decide (q.1.length ≤ 20) && q.1.cps.toList.all (fun c => decide (c < 1114112))) = true → 1 ≤ l.length ∧ l.length ≤ 3 ∧ ∀ q ∈ l, Gd 20 q.1 :=
    fun l h1 h3 h => ⟨h1, h3, fun q hq => gd_lit _ (List.all_eq_true.mp h q hq)⟩
  unfold fldD
  split
  · exact one _ (by decide) (by decide) (by decide +kernel)
  · split
    · exact one _ (by decide) (by decide) (by decide +kernel)
    · exact one _ (by decide) (by decide) (by decide +kernel)
section
variable {P : Program} {w : World} {K : PySem.W.Frag} {mg : Str → Option Value} {base : Heap}
def spKind (m : Nat) : Sp := fun vs H Q _ => ∃ (a : Addr) (dp : Int) (pl : Bool), vs = [.ref a, .int dp, .bl pl] ∧ St4 H a ∧ 1 ≤ dp ∧ dp ≤ (m : Int) ∧ m ≤ 6 ∧ ∀ v H', KE H' dp.toNat v → St4 H' a → But a H H' → Q v H'
theorem none_kind {f : Addr} {fd : FuncData} : FnOk P w K mg base CX0 10 f fd ["tape", "depth", "plain"] (spKind 0) := by
  have no : ∀ vs H Q E, ¬ spKind 0 vs H Q E := fun vs H Q E h => by
    obtain ⟨a, dp, pl, _, _, h1, h2, _⟩ := h
    omega
  exact ⟨fun vs H Q E h => absurd h (no vs H Q E), fun A outer s H args us vs Q E _ _ _ _ h => absurd h (no vs H Q E)⟩
theorem ok_kind (T : Txt3 K mg) {m : Nat} (G : FnOk P w K mg base CX0 (m + 10) T._law_kind.f T._law_kind.fd ["tape", "depth", "plain"] (spKind m)) :
    FnOk P w K mg base CX0 (m + 11) T._law_kind.f T._law_kind.fd ["tape", "depth", "plain"] (spKind (m + 1)) := by
  refine T._law_kind.F.ok sc__law_kind (fun vs H Q E h => ?_) (fun cdv A outer s H vs Q E hr h => ?_)
  · obtain ⟨a, dp, pl, rfl, _⟩ := h
    rfl
  obtain ⟨a, dp, pl, rfl, hst, r1, r2, hm6, q⟩ := h
  refine ⟨_, (pss_cons (ps_set (i := 3) sc__law_kind.nd rfl (Or.inl rfl) (pe_call (ok_next T.toTxt1) (hr.mono (by omega)) rfl T._law_next.g T._law_next.F.kp T._law_next.b .nil pass0 (pa_cons (pv 0) (pa_cons pe_int pa_nil))))
    (pss_cons (ps_if (pt_mid (PW.pt (pw_or (pt_cmpR op_le (pv 1) pe_int (nomark _)) (pw_or1 (pt_cmpR op_lt (pv 3) pe_int (nomark _)))))) (pss_cons (ps_set (i := 4) sc__law_kind.nd rfl (Or.inl rfl) (pe_ix ix_list (pe_lst (pa_cons pe_str (pa_cons pe_str (pa_cons pe_str pa_nil)))) (pe_call (ok_next T.toTxt1) (hr.mono (by omega)) rfl T._law_next.g T._law_next.F.kp T._law_next.b .nil pass0 (pa_cons (pv 0) (pa_cons pe_int pa_nil))) (fun _ _ => rfl)))
      (pss_one (ps_ret (pe_ix ix_list (pe_lst (pa_cons (pe_tup (pa_cons pe_str pa_nil)) (pa_cons (pe_tup (pa_cons pe_str pa_nil)) (pa_cons (pe_tup (pa_cons pe_str pa_nil)) (pa_cons (pe_tup (pa_cons pe_str (pa_cons (pv 4) pa_nil))) (pa_cons (pe_tup (pa_cons pe_str (pa_cons (pv 4) pa_nil))) pa_nil)))))) (pe_call (ok_next T.toTxt1) (hr.mono (by omega)) rfl T._law_next.g T._law_next.F.kp T._law_next.b .nil pass0 (pa_cons (pv 0) (pa_cons pe_int pa_nil))) (fun _ _ => rfl))))) pss_nil)
    (pss_cons (ps_if (pt_cmpR op_lt (pv 3) pe_int (nomark _)) (pss_one (ps_ret (pe_tup (pa_cons pe_str (pa_cons (pe_call (G) (hr) rfl T._law_kind.g T._law_kind.F.kp T._law_kind.b .nil pass0 (pa_cons (pv 0) (pa_cons (pe_op op_sub (pv 1) pe_int) (pa_cons pe_bl pa_nil)))) pa_nil))))) pss_nil)
    (pss_cons (ps_if (pt_cmpR op_lt (pv 3) pe_int (nomark _)) (pss_one (ps_ret (pe_mid (pe_op op_catA (pe_tup (pa_cons pe_str pa_nil)) (pe_call (ok_fit T.toTxt2) (hr.mono (by omega)) rfl T._law_fitting.g T._law_fitting.F.kp T._law_fitting.b .nil pass0 (pa_cons (pe_lst (pa_cons (pe_call (G) (hr) rfl T._law_kind.g T._law_kind.F.kp T._law_kind.b .nil pass0 (pa_cons (pv 0) (pa_cons (pe_op op_sub (pv 1) pe_int) (pa_cons (pv 2) pa_nil)))) pa_nil)) (pa_cons pe_int pa_nil))))))) pss_nil)
    (pss_cons (ps_if (pt_mid (PW.pt (pw_or (pt_cmpR op_eq (pv 3) pe_int (nomark _)) (pw_or1 (pt_val (pv 2)))))) (pss_cons (ps_set (i := 5) sc__law_kind.nd rfl (Or.inl rfl) (pe_op op_add pe_int (pe_call (ok_next T.toTxt1) (hr.mono (by omega)) rfl T._law_next.g T._law_next.F.kp T._law_next.b .nil pass0 (pa_cons (pv 0) (pa_cons pe_int pa_nil)))))
      (pss_one (ps_ret (pe_tup (pa_cons pe_str (pa_cons (pe_call (ok_fit T.toTxt2) (hr.mono (by omega)) rfl T._law_fitting.g T._law_fitting.F.kp T._law_fitting.b .nil pass0 (pa_cons (pe_lc (own := [("k", 6)]) (g := gName 6) (tt := tYes) rfl sc__law_kind.nd (pi_range1 (by rfl) T.z_range (pa_cons (pv 5) pa_nil)) (blkOk_by (N := ["tape", "depth", "plain", "choice", "name", "many", "k"]) (sc := defScope s__law_kind) (by decide +kernel)) (fun _ _ _ _ _ => pg_name (i := 6) sc__law_kind.nd rfl (Or.inl rfl)) (fun _ _ _ _ _ => pts_nil) (fun _ _ _ _ _ => (pe_call (G) (hr) rfl T._law_kind.g T._law_kind.F.kp T._law_kind.b .nil pass0 (pa_cons (pv 0) (pa_cons (pe_op op_sub (pv 1) pe_int) (pa_cons (pv 2) pa_nil)))))) (pa_cons pe_int pa_nil))) pa_nil)))))) pss_nil)
    (pss_one (ps_ret (pe_tup (pa_cons (pe_ix ix_list (pe_lst (pa_cons pe_str (pa_cons pe_str (pa_cons pe_str (pa_cons pe_str pa_nil))))) (pe_op op_sub (pv 3) pe_int) (fun _ _ => rfl)) (pa_cons (pe_call (G) (hr) rfl T._law_kind.g T._law_kind.F.kp T._law_kind.b .nil pass0 (pa_cons (pv 0) (pa_cons (pe_op op_sub (pv 1) pe_int) (pa_cons pe_bl pa_nil)))) pa_nil)))))))))), ?_⟩
  obtain ⟨n, hn⟩ : ∃ n, dp.toNat = n + 1 := ⟨dp.toNat - 1, by omega⟩
  rw [hn] at q
  have n6 : n ≤ 6 := by omega
  refine ⟨_, rfl, a, 11, rfl, hst, by decide, by decide, fun ch H1 c0 c1 st1 b1 => ?_⟩
  have f1 : Frm a H H1 := ⟨st1, b1⟩
  refine ⟨fun b H' => H' = H1 ∧ (b = false → 1 < dp ∧ 2 ≤ ch), ⟨_, rfl, _, _, rfl, rfl, _, rfl, ite2 (fun _ => ⟨rfl, fun e => Bool.noConfusion e⟩) (fun d => ⟨_, rfl, _, _, rfl, rfl, _, rfl, rfl, fun e => ?_⟩)⟩, ?_⟩
  · have d1 : ¬ dp ≤ 1 := of_decide_eq_false (Bool.eq_false_iff.mpr d)
    have d2 : ¬ ch < 2 := of_decide_eq_false e
    exact ⟨by omega, by omega⟩
  rintro b H1 ⟨rfl, hb⟩
  refine ite2 (fun _ => ?_) (fun d => ?_)
  · refine ⟨by show 3 ≤ sizeLine; decide, fun l hl => ?_⟩
    have f2 := f1.new (o := .lst [.str "Node", .str "Pair", .str "Wide"]) hl
    have la := st1.ne hl
    refine ⟨_, rfl, a, 3, rfl, f2.st, by decide, by decide, fun i H3 i0 i1 st3 b3 => ?_⟩
    obtain ⟨x, hx, hx'⟩ := atI_ex (l := [V.str "Node", V.str "Pair", V.str "Wide"]) i0 (by show i < 3; exact i1)
    obtain ⟨y, rfl, hy⟩ : ∃ y, x = .str y ∧ Nm y := by
      have hm : x = V.str "Node" ∨ x = V.str "Pair" ∨ x = V.str "Wide" := by simpa using mem_of_get hx
      rcases hm with e | e | e
      · exact ⟨_, e, .inl rfl⟩
      · exact ⟨_, e, .inr (.inl rfl)⟩
      · exact ⟨_, e, .inr (.inr rfl)⟩
    refine ⟨l, _, _, _, rfl, rfl, SqL.of (b3 _ _ la upd_same), hx', ?_⟩
    have f3 : Frm a H H3 := ⟨st3, f2.bt.trans b3⟩
    refine ⟨by show 1 ≤ sizeLine; decide, fun p1 h1 => ⟨by show 1 ≤ sizeLine; decide, fun p2 h2 => ⟨by show 1 ≤ sizeLine; decide, fun p3 h3 => ⟨_, rfl, by show 2 ≤ sizeLine; decide, fun p4 h4 => ⟨_, rfl, by show 2 ≤ sizeLine; decide, fun p5 h5 => ⟨by show 5 ≤ sizeLine; decide, fun r hr' => ?_⟩⟩⟩⟩⟩⟩
    have f9 := (((((f3.new (o := .tup [.str "int"]) h1).new (o := .tup [.str "bool"]) h2).new (o := .tup [.str "unit"]) h3).new (o := .tup [.str "record", .str y]) h4).new (o := .tup [.str "record", .str y]) h5)
    have f10 := f9.new (o := .lst [.ref p1, .ref p2, .ref p3, .ref p4, .ref p5]) hr'
    have g6 := same_new hr' (.lst [.ref p1, .ref p2, .ref p3, .ref p4, .ref p5])
    have g5 := (same_new h5 (.tup [.str "record", .str y])).trans g6
    have g4 := (same_new h4 (.tup [.str "record", .str y])).trans g5
    have g3 := (same_new h3 (.tup [.str "unit"])).trans g4
    have g2 := (same_new h2 (.tup [.str "bool"])).trans g3
    have ra := f9.st.ne hr'
    have all : ∀ u ∈ [V.ref p1, V.ref p2, V.ref p3, V.ref p4, V.ref p5], KE (upd (upd (upd (upd (upd (upd H3 p1 (.tup [.str "int"])) p2 (.tup [.str "bool"])) p3 (.tup [.str "unit"])) p4 (.tup [.str "record", .str y])) p5 (.tup [.str "record", .str y])) r (.lst [.ref p1, .ref p2, .ref p3, .ref p4, .ref p5])) (n + 1) u := fun u hu => by
      rcases List.mem_cons.mp hu with e | hu
      · rw [e]; exact ⟨_, .leaf (g2 _ _ upd_same) (.inl rfl)⟩
      rcases List.mem_cons.mp hu with e | hu
      · rw [e]; exact ⟨_, .leaf (g3 _ _ upd_same) (.inr (.inl rfl))⟩
      rcases List.mem_cons.mp hu with e | hu
      · rw [e]; exact ⟨_, .leaf (g4 _ _ upd_same) (.inr (.inr rfl))⟩
      rcases List.mem_cons.mp hu with e | hu
      · rw [e]; exact ⟨_, .recd (g5 _ _ upd_same) hy⟩
      rcases List.mem_cons.mp hu with e | hu
      · rw [e]; exact ⟨_, .recd (g6 _ _ upd_same) hy⟩
      · cases hu
    refine ⟨_, rfl, a, 5, rfl, f10.st, by decide, by decide, fun j H11 j0 j1 st11 b11 => ?_⟩
    obtain ⟨u, hu, hu'⟩ := atI_ex (l := [V.ref p1, V.ref p2, V.ref p3, V.ref p4, V.ref p5]) j0 (by show j < 5; exact j1)
    exact ⟨r, _, _, u, rfl, rfl, SqL.of (b11 _ _ ra upd_same), hu', q u H11 ((all u (mem_of_get hu)).tm (TM.but b11 f10.st)) st11 (f10.bt.trans b11)⟩
  obtain ⟨d1, d2⟩ := hb (Bool.eq_false_iff.mpr d)
  have en : (dp - 1).toNat = n := by omega
  have one : ∀ (x : Str) (v : V) (H3 : Hp) (p : Addr), One x → KE H3 (dp - 1).toNat v → Frm a H H3 → H3 p = none → Q (.ref p) (upd H3 p (.tup [.str x, v])) := fun x v H3 p hx kv f3 hp => by
    rw [en] at kv
    obtain ⟨e, k⟩ := kv
    have f4 := f3.new (o := .tup [.str x, v]) hp
    exact q _ _ ⟨_, .one upd_same hx (k.tm (TM.new hp))⟩ f4.st f4.bt
  refine ⟨_, rfl, _, _, rfl, rfl, _, rfl, ite2 (fun _ => ?_) (fun e1 => ?_)⟩
  · exact ⟨_, rfl, _, rfl, _, _, rfl, rfl, a, dp - 1, true, rfl, st1, by omega, by omega, by omega, fun v H3 kv st3 b3 => ⟨by show 2 ≤ sizeLine; decide, fun p hp => one "box" v H3 p (.inr (.inl rfl)) kv ⟨st3, b1.trans b3⟩ hp⟩⟩
  refine ⟨_, rfl, _, _, rfl, rfl, _, rfl, ite2 (fun _ => ?_) (fun e2 => ?_)⟩
  · refine ⟨fun v H' => KE H' (n + 1) v ∧ Frm a H H', ⟨by show 1 ≤ sizeLine; decide, fun p1 h1 => ?_⟩, fun v H' h => q v H' h.1 h.2.st h.2.bt⟩
    have f2 := f1.new (o := .tup [.str "maybe"]) h1
    have p1a := f1.st.ne h1
    refine ⟨_, rfl, _, rfl, _, _, rfl, rfl, _, rfl, a, dp - 1, pl, rfl, f2.st, by omega, by omega, by omega, fun v H3 kv st3 b3 => ⟨by show 1 ≤ sizeLine; decide, fun l hl => ?_⟩⟩
    rw [en] at kv
    have f3 : Frm a H H3 := ⟨st3, f2.bt.trans b3⟩
    have f4 := f3.new (o := .lst [v]) hl
    refine ⟨l, 59, [v], n, rfl, upd_same, by show 1 ≤ 6; decide, fun u hu => ?_, n6, fun p ws H5 hp hwl hws g5 hp0 => ?_⟩
    · have e : u = v := by simpa using hu
      rw [e]; exact kv.tm (TM.new hl)
    · obtain ⟨u, rfl⟩ : ∃ u, ws = [u] := by
        match ws, hwl with
        | [u], _ => exact ⟨u, rfl⟩
      have hp15 := g5 _ _ ((same_new hl (.lst [v])) _ _ (b3 _ _ p1a upd_same))
      have f5 : Frm a H H5 := ⟨f4.st.same g5, f4.bt.trans (.of g5)⟩
      refine ⟨p1, p, _, _, rfl, rfl, .inl (.inl hp15), .inl (.inl hp), by show 1 + 1 ≤ sizeLine; decide, (fun e => by cases e), (fun _ e => by cases e), fun _ _ r hr' => ⟨?_, f5.new hr'⟩⟩
      obtain ⟨e, k⟩ := hws u List.mem_cons_self
      exact ⟨_, .one (x := "maybe") (u := u) upd_same (.inl rfl) (k.tm (TM.new hr'))⟩
  refine ⟨fun b H' => H' = H1 ∧ (b = false → ch ≠ 6), ⟨_, rfl, rfl, _, rfl, ite2 (fun _ => ⟨rfl, fun e => Bool.noConfusion e⟩) (fun d => ⟨_, rfl, _, rfl, rfl, fun _ e => d (decide_eq_true (by rw [e]))⟩)⟩, ?_⟩
  rintro b H1 ⟨rfl, hb3⟩
  refine ite2 (fun _ => ?_) (fun d3 => ?_)
  · refine ⟨_, rfl, a, 5, rfl, st1, by decide, by decide, fun i H2 i0 i1 st2 b2 => ⟨_, _, rfl, rfl, ?_⟩⟩
    have f2 : Frm a H H2 := ⟨st2, b1.trans b2⟩
    refine ⟨_, rfl, 2 + i, rfl, by omega, by omega, fun D hD => lc_range (lo := 0) (n := (2 + i).toNat)
      (fun j H' => ∃ us : List V, H' D = some (.lst us) ∧ us.length = j ∧ (∀ u ∈ us, KE H' n u) ∧ Frm a H H' ∧ But a H2 H') ?_ ?_ ?_⟩
    · exact ⟨[], upd_same, rfl, fun u hu => absurd hu (by simp), f2.new hD, .new hD _⟩
    · rintro j H3 hj ⟨us, hD3, hlen, hus, f3, b23⟩
      refine ⟨rfl, _, rfl, _, rfl, _, _, rfl, rfl, _, rfl, a, dp - 1, pl, rfl, f3.st, by omega, by omega, by omega, fun v H4 kv st4 b4 => ?_⟩
      rw [en] at kv
      have Da := f2.st.ne hD
      have hD4 := b4.go _ _ Da hD3
      have t4 := (TM.but b4 f3.st).trans (TM.lst (o := .lst (us ++ [v])) hD4)
      refine ⟨us, hD4, Nat.lt_of_lt_of_le (show us.length < 1000 by omega) (by decide), us ++ [v], upd_same, by rw [List.length_append, hlen]; rfl, fun u hu => ?_, ?_⟩
      · rcases List.mem_append.mp hu with z | z
        · exact (hus u z).tm t4
        · have e : u = v := by simpa using z
          rw [e]; exact kv.tm (TM.lst hD4)
      · exact ⟨⟨f2.st.keep hD (b23.trans b4) st4, (f3.bt.trans b4).put (f2.bt.fresh Da hD)⟩, (b23.trans b4).put hD⟩
    · rintro H3 ⟨us, hD3, hlen, hus, f3, _⟩
      refine ⟨D, 60, us, n, rfl, hD3, by omega, hus, n6, fun p ws H5 hp hwl hws g5 hp0 => ⟨by show 2 ≤ sizeLine; decide, fun p' hp' => ?_⟩⟩
      have f5 : Frm a H H5 := ⟨f3.st.same g5, f3.bt.trans (.of g5)⟩
      have f6 := f5.new (o := .tup [.str "tuple", .ref p]) hp'
      exact q _ _ (.tup upd_same ((same_new hp' _) _ _ hp) (by omega) (by omega) fun u hu => (hws u hu).tm (TM.new hp')) f6.st f6.bt
  · have h6 := hb3 (Bool.eq_false_iff.mpr d3)
    have x1 : ¬ ch < 6 := of_decide_eq_false (Bool.eq_false_iff.mpr e2)
    refine ⟨by show 4 ≤ sizeLine; decide, fun l hl => ⟨_, rfl, _, _, rfl, rfl, ?_⟩⟩
    have f2 := f1.new (o := .lst [.str "shared", .str "exclusive", .str "task", .str "exclusive"]) hl
    obtain ⟨x, hx, hx'⟩ := atI_ex (l := [V.str "shared", V.str "exclusive", V.str "task", V.str "exclusive"]) (n := ch - 7) (by omega) (by show ch - 7 < 4; omega)
    obtain ⟨y, rfl, hy⟩ : ∃ y, x = .str y ∧ One y := by
      have hm : x = V.str "shared" ∨ x = V.str "exclusive" ∨ x = V.str "task" ∨ x = V.str "exclusive" := by simpa using mem_of_get hx
      rcases hm with e | e | e | e
      · exact ⟨_, e, .inr (.inr (.inl rfl))⟩
      · exact ⟨_, e, .inr (.inr (.inr (.inl rfl)))⟩
      · exact ⟨_, e, .inr (.inr (.inr (.inr rfl)))⟩
      · exact ⟨_, e, .inr (.inr (.inr (.inl rfl)))⟩
    refine ⟨l, _, _, _, rfl, rfl, SqL.of upd_same, hx', _, rfl, _, rfl, _, _, rfl, rfl, a, dp - 1, true, rfl, f2.st, by omega, by omega, by omega, fun v H3 kv st3 b3 => ⟨by show 2 ≤ sizeLine; decide, fun p hp => one y v H3 p hy kv ⟨st3, f2.bt.trans b3⟩ hp⟩⟩
theorem ok_kindN (T : Txt3 K mg) : ∀ m : Nat, FnOk P w K mg base CX0 (m + 10) T._law_kind.f T._law_kind.fd ["tape", "depth", "plain"] (spKind m)
  | 0 => none_kind
  | m + 1 => ok_kind T (ok_kindN T m)
end
end Kk
namespace Kk
open PySem L2
abbrev s__law_after : Stmt := topS 28
theorem sc__law_after : FnScope ["kind", "step", "name", "inner"] ["kind", "step"] (defScope s__law_after) := ⟨rfl, rfl, rfl, by decide +kernel, rfl, by decide +kernel, by decide +kernel⟩
structure Txt4 (K : PySem.W.Frag) (mg : Str → Option Value) extends Txt3 K mg where
  _law_after : Df K mg "_law_after" s__law_after ["kind", "step"]
theorem inV_str {x : Str} {xs : List Str} : inV (.str x) (xs.map V.str) = decide (x ∈ xs) := by
  unfold inV
  rw [Bool.eq_iff_iff, List.any_eq_true]
  constructor
  · rintro ⟨y, hy, h⟩
    obtain ⟨z, hz, rfl⟩ := List.mem_map.mp hy
    have e : z = x := by simpa [eqV] using h
    exact decide_eq_true (e ▸ hz)
  · intro h
    exact ⟨.str x, List.mem_map.mpr ⟨x, of_decide_eq_true h, rfl⟩, by simp [eqV]⟩
/-! ### what a step selects -/
def en {α : Type} : Nat → List α → List (V × α)
  | _, [] => []
  | k, w :: r => (.int (k : Int), w) :: en (k + 1) r
theorem en_len {α : Type} : ∀ (k : Nat) (ws : List α), (en k ws).length = ws.length
  | _, [] => rfl
  | k, w :: r => by unfold en; rw [List.length_cons, List.length_cons, en_len]
def hit {α : Type} (s : V) : List (V × α) → Option α
  | [] => none
  | (a, b) :: r => if a = s then some b else hit s r
theorem hit_en_str {α : Type} (x : Str) : ∀ (k : Nat) (ws : List α), hit (.str x) (en k ws) = none
  | _, [] => rfl
  | k, w :: r => by
    unfold en hit
    rw [if_neg (fun e => nomatch e)]
    exact hit_en_str x (k + 1) r
theorem hit_en_int {α : Type} (i : Int) : ∀ (k : Nat) (ws : List α), hit (.int i) (en k ws) = if (k : Int) ≤ i then ws[(i - k).toNat]? else none
  | k, [] => by
    show none = _
    split <;> simp
  | k, w :: r => by
    unfold en hit
    by_cases e : V.int (k : Int) = V.int i
    · rw [if_pos e]
      have e' := V.int.inj e
      rw [if_pos (by omega), ← e', show ((k : Int) - k).toNat = 0 by omega]; rfl
    · rw [if_neg e, hit_en_int i (k + 1) r]
      have e' : (k : Int) ≠ i := fun z => e (by rw [z])
      by_cases h : (k : Int) ≤ i
      · rw [if_pos h, if_pos (by omega)]
        have z : (i - (k : Int)).toNat = (i - ((k + 1 : Nat) : Int)).toNat + 1 := by omega
        rw [z]; rfl
      · rw [if_neg h, if_neg (by omega)]
def fldL (x : Str) : List (V × PyData) := (fldD x).map fun q => (.str q.1, q.2)
def opX (x : Str) (e : PyData) : List (V × PyData) :=
  if x = "maybe" then [(.str "?", e)] else if x = "box" ∨ x = "shared" ∨ x = "exclusive" then [(.str "^", e)]
  else match e with
    | .tuple ds => if x = "tuple" then en 0 ds else []
    | .str n => if x = "record" then fldL n else []
    | _ => []
/-- the steps of a kind and what each selects -/
def opD (d : PyData) : List (V × PyData) :=
  match d with
  | .tuple [.str x, e] => opX x e
  | _ => []
theorem op_leaf {x : Str} : opD (.tuple [.str x]) = [] := rfl
theorem op_may {e : PyData} : opD (.tuple [.str "maybe", e]) = [(.str "?", e)] := by
  show opX _ _ = _
  unfold opX
  rw [if_pos rfl]
theorem op_box {x : Str} {e : PyData} (h : x = "box" ∨ x = "shared" ∨ x = "exclusive") : opD (.tuple [.str x, e]) = [(.str "^", e)] := by
  show opX _ _ = _
  unfold opX
  rw [if_neg (by rcases h with rfl | rfl | rfl <;> decide +kernel), if_pos h]
theorem op_tup {ds : List PyData} : opD (.tuple [.str "tuple", .tuple ds]) = en 0 ds := by
  show opX _ _ = _
  unfold opX
  rw [if_neg (by decide +kernel), if_neg (by decide +kernel)]
  show (if _ then _ else _) = _
  rw [if_pos rfl]
theorem op_rec {y : Str} : opD (.tuple [.str "record", .str y]) = fldL y := by
  show opX _ _ = _
  unfold opX
  rw [if_neg (by decide +kernel), if_neg (by decide +kernel)]
  show (if _ then _ else _) = _
  rw [if_pos rfl]
theorem op_task {e : PyData} : opD (.tuple [.str "task", e]) = [] := by
  show opX _ _ = _
  unfold opX
  rw [if_neg (by decide +kernel), if_neg (by decide +kernel)]
  split
  · rw [if_neg (by decide +kernel)]
  · rw [if_neg (by decide +kernel)]
  · rfl
theorem hit_fld_no (x : Str) : hit (.str "?") (fldL x) = none ∧ hit (.str "^") (fldL x) = none ∧ ∀ i, hit (.int i) (fldL x) = none := by
  refine ⟨?_, ?_, fun i => ?_⟩
  · unfold fldL fldD
    split
    · decide +kernel
    · split <;> decide +kernel
  · unfold fldL fldD
    split
    · decide +kernel
    · split <;> decide +kernel
  · unfold fldL
    generalize fldD x = l
    induction l with
    | nil => rfl
    | cons q r ih =>
      show (if V.str q.1 = V.int i then some q.2 else hit (.int i) (r.map _)) = none
      rw [if_neg (fun e => nomatch e)]; exact ih
section
variable {P : Program} {w : World} {K : PySem.W.Frag} {mg : Str → Option Value} {base : Heap}
def spStep : Sp := fun vs H Q _ => ∃ (a : Addr) (v : V), vs = [.ref a, v] ∧ St4 H a ∧ KE H 6 v ∧ ∀ sv H', StepV sv → St4 H' a → But a H H' → Q sv H'
theorem ok_step (T : Txt3 K mg) : FnOk P w K mg base CX0 2 T._law_step.f T._law_step.fd ["tape", "kind"] spStep := by
  refine T._law_step.F.ok sc__law_step (fun vs H Q E h => ?_) (fun cdv A outer s H vs Q E hr h => ?_)
  · obtain ⟨a, v, rfl, _⟩ := h
    rfl
  obtain ⟨a, v, rfl, hst, ⟨d, kv⟩, q⟩ := h
  refine ⟨_, (pss_cons (ps_if (pt_cmpR op_eq (pe_call (ok_next T.toTxt1) (hr.mono (by omega)) rfl T._law_next.g T._law_next.F.kp T._law_next.b .nil pass0 (pa_cons (pv 0) (pa_cons pe_int pa_nil))) pe_int (nomark _)) (pss_one (ps_ret (pe_ix ix_list (pe_lst (pa_cons pe_int (pa_cons pe_int (pa_cons pe_int (pa_cons pe_int (pa_cons pe_int (pa_cons pe_int (pa_cons (pe_op op_sub pe_int pe_int) (pa_cons pe_str (pa_cons pe_str (pa_cons pe_str (pa_cons pe_str (pa_cons pe_str (pa_cons pe_str (pa_cons pe_str pa_nil))))))))))))))) (pe_call (ok_next T.toTxt1) (hr.mono (by omega)) rfl T._law_next.g T._law_next.F.kp T._law_next.b .nil pass0 (pa_cons (pv 0) (pa_cons pe_int pa_nil))) (fun _ _ => rfl)))) pss_nil)
    (pss_cons (ps_if (pt_cmpR op_eq (pe_ix ix_tup (pv 1) pe_int (fun _ _ => rfl)) pe_str (nomark _)) (pss_one (ps_ret (pe_ix ix_list (pe_lst (pa_cons (pe_call (ok_next T.toTxt1) (hr.mono (by omega)) rfl T._law_next.g T._law_next.F.kp T._law_next.b .nil pass0 (pa_cons (pv 0) (pa_cons (pe_callB call_len_seq rfl T.z_len PySem.boot_len (pa_cons (pe_ix ix_tup (pv 1) pe_int (fun _ _ => rfl)) pa_nil)) pa_nil))) (pa_cons (pe_op op_sub (pe_callB call_len_seq rfl T.z_len PySem.boot_len (pa_cons (pe_ix ix_tup (pv 1) pe_int (fun _ _ => rfl)) pa_nil)) pe_int) pa_nil))) (pe_call (ok_next T.toTxt1) (hr.mono (by omega)) rfl T._law_next.g T._law_next.F.kp T._law_next.b .nil pass0 (pa_cons (pv 0) (pa_cons pe_int pa_nil))) (fun _ _ => rfl)))) pss_nil)
    (pss_cons (ps_if (pt_cmpR op_eq (pe_ix ix_tup (pv 1) pe_int (fun _ _ => rfl)) pe_str (nomark _)) (pss_cons (ps_set (i := 2) sc__law_step.nd rfl (Or.inl rfl) (pe_call (ok_fields T.toTxt2) (hr.mono (by omega)) rfl T._law_fields.g T._law_fields.F.kp T._law_fields.b .nil pass0 (pa_cons (pe_ix ix_tup (pv 1) pe_int (fun _ _ => rfl)) pa_nil)))
      (pss_one (ps_ret (pe_ix ix_tup (pe_ix ix_tup (pv 2) (pe_call (ok_next T.toTxt1) (hr.mono (by omega)) rfl T._law_next.g T._law_next.F.kp T._law_next.b .nil pass0 (pa_cons (pv 0) (pa_cons (pe_callB call_len_seq rfl T.z_len PySem.boot_len (pa_cons (pv 2) pa_nil)) pa_nil))) (fun _ _ => rfl)) pe_int (fun _ _ => rfl))))) pss_nil)
    (pss_one (ps_ret (pe_ifExp (pt_cmpR op_eq (pe_ix ix_tup (pv 1) pe_int (fun _ _ => rfl)) pe_str (nomark _)) pe_str pe_str)))))), ?_⟩
  refine ⟨_, rfl, a, 12, rfl, hst, by decide, by decide, fun n H1 n0 n1 st1 b1 => ⟨rfl, _, rfl, ite2 (fun _ => ?_) (fun _ => ?_)⟩⟩
  · refine ⟨_, _, rfl, rfl, by show 14 ≤ sizeLine; decide, fun l hl => ?_⟩
    have la := st1.ne hl
    refine ⟨_, rfl, a, 14, rfl, st1.put hl, by decide, by decide, fun j H3 j0 j1 st3 b3 => ?_⟩
    have all : ∀ u ∈ [V.int 0, V.int 1, V.int 2, V.int 3, V.int 5, V.int 6, V.int (0 - 1), V.str "?", V.str "^", V.str "n", V.str "next", V.str "a", V.str "b", V.str "none"], StepV u := by
      intro u hu
      simp only [List.mem_cons, List.not_mem_nil, or_false] at hu
      rcases hu with rfl | rfl | rfl | rfl | rfl | rfl | rfl | rfl | rfl | rfl | rfl | rfl | rfl | rfl
      all_goals first
        | exact stepI (by decide)
        | exact stepS _ (by decide +kernel)
    obtain ⟨u, hu, hu'⟩ := atI_ex (l := [V.int 0, V.int 1, V.int 2, V.int 3, V.int 5, V.int 6, V.int (0 - 1), V.str "?", V.str "^", V.str "n", V.str "next", V.str "a", V.str "b", V.str "none"]) j0 (by show j < 14; exact j1)
    exact ⟨l, _, _, u, rfl, rfl, SqL.of (b3.go _ _ la upd_same), hu', q u H3 (all u (mem_of_get hu)) st3 (b1.trans ((But.new hl _).trans b3))⟩
  obtain ⟨p, x, us, rfl, hp, c⟩ := kv.inv
  have t1 := TM.but b1 hst
  have hp1 := t1 _ _ hp
  have sq : SqT K H1 p (.str x :: us) := .inl (.inl hp1)
  refine ⟨_, rfl, p, _, 0, _, rfl, rfl, sq, atI_0, rfl, _, rfl, ite2 (fun c1 => ?_) (fun c1 => ?_)⟩
  · have e := str_of_dec c1
    rcases c with ⟨_, hx, _⟩ | ⟨hx, _⟩ | ⟨hx, _⟩ | ⟨_, r, ws, ds, rfl, hr2, hl, h1, h6, hk, _⟩
    · exact absurd e (leaf_ne hx).1
    · rw [e] at hx; exact absurd hx (by decide +kernel)
    · exact absurd e (one_ne hx).1
    · have hr1 := t1 _ _ hr2
      refine ⟨_, rfl, _, rfl, p, _, 1, _, rfl, rfl, sq, atI_1, r, _, rfl, .inr (.inl (.inl hr1)), a, _, rfl, st1, by omega, by omega, fun n2 H2 m0 m1 st2 b2 => ?_⟩
      have t2 := TM.but b2 st1
      refine ⟨_, rfl, p, _, 1, _, rfl, rfl, .inl (.inl (t2 _ _ hp1)), atI_1, r, _, rfl, .inr (.inl (.inl (t2 _ _ hr1))), _, _, rfl, rfl, by show 2 ≤ sizeLine; decide, fun l hl => ?_⟩
      have la := st2.ne hl
      refine ⟨_, rfl, a, 2, rfl, st2.put hl, by decide, by decide, fun j H3 j0 j1 st3 b3 => ?_⟩
      obtain ⟨u, hu, hu'⟩ := atI_ex (l := [V.int n2, V.int ((ws.length : Int) - 1)]) j0 (by show j < 2; exact j1)
      have hs : StepV u := by
        have hm : u = V.int n2 ∨ u = V.int ((ws.length : Int) - 1) := by simpa using mem_of_get hu
        rcases hm with e | e <;> rw [e] <;> exact stepI (by omega)
      exact ⟨l, _, _, u, rfl, rfl, SqL.of (b3.go _ _ la upd_same), hu', q u H3 hs st3 (b1.trans (b2.trans ((But.new hl _).trans b3)))⟩
  refine ⟨_, rfl, p, _, 0, _, rfl, rfl, sq, atI_0, rfl, _, rfl, ite2 (fun c2 => ?_) (fun c2 => ?_)⟩
  · have e := str_of_dec c2
    rcases c with ⟨_, hx, _⟩ | ⟨_, y, rfl, hy, _⟩ | ⟨hx, _⟩ | ⟨hx, _⟩
    · exact absurd e (leaf_ne hx).2.1
    · refine ⟨_, rfl, p, _, 1, _, rfl, rfl, sq, atI_1, y, rfl, fun f ws H2 g2 hf hfd => ?_⟩
      obtain ⟨f1, f3, fg⟩ := fld_all y
      rw [← hfd.len] at f1 f3
      have st2 := st1.same g2
      refine ⟨_, rfl, _, rfl, _, rfl, f, _, rfl, .inr (.inl (.inl hf)), a, _, rfl, st2, by omega, by omega, fun j H3 j0 j1 st3 b3 => ?_⟩
      obtain ⟨u, hu, hu'⟩ := atI_ex (l := ws) j0 j1
      obtain ⟨pp, fn, t, dd, rfl, hpp, _, hfn⟩ := hfd.get hu
      have t3 := TM.but b3 st2
      exact ⟨f, _, _, _, rfl, rfl, .inl (.inl (t3 _ _ hf)), hu', pp, _, 0, _, rfl, rfl, .inl (.inl (t3 _ _ hpp)), atI_0, q _ _ (.inr ⟨fn, rfl, (fg _ (mem_of_get hfn)).mono (by decide)⟩) st3 (b1.trans ((But.of g2).trans b3))⟩
    · exact absurd e (one_ne hx).2.1
    · rw [e] at hx; exact absurd hx (by decide +kernel)
  · exact ⟨_, rfl, p, _, 0, _, rfl, rfl, sq, atI_0, rfl, _, rfl, ite2 (fun _ => q _ _ (stepS _ (by decide +kernel)) st1 b1) (fun _ => q _ _ (stepS _ (by decide +kernel)) st1 b1)⟩
def spAfterL : Sp := fun vs H Q _ => ∃ (v sv : V) (d : PyData), vs = [v, sv] ∧ KV H 6 v d ∧ StepV sv ∧ (∀ t dt H', hit sv (opD d) = some dt → Same H H' → KV H' 6 t dt → Q t H') ∧ (hit sv (opD d) = none → ∀ H', Same H H' → Q .non H')
theorem ok_afterL (T : Txt4 K mg) : FnOk P w K mg base CX0 2 T._law_after.f T._law_after.fd ["kind", "step"] spAfterL := by
  refine T._law_after.F.ok sc__law_after (fun vs H Q E h => ?_) (fun cdv A outer s H vs Q E hr h => ?_)
  · obtain ⟨v, sv, d, rfl, _⟩ := h
    rfl
  obtain ⟨v, sv, d, rfl, kv, hsv, q1, q2⟩ := h
  refine ⟨_, (pss_cons (ps_if (pt_cmpR op_eq (pv 1) pe_str (nomark _)) (pss_one (ps_ret (pe_ifExp (pt_cmpR op_eq (pe_ix ix_tup (pv 0) pe_int (fun _ _ => rfl)) pe_str (nomark _)) (pe_ix ix_tup (pv 0) pe_int (fun _ _ => rfl)) pe_non))) pss_nil)
    (pss_cons (ps_if (pt_cmpR op_eq (pv 1) pe_str (nomark _)) (pss_one (ps_ret (pe_ifExp (pt_cmpR op_in_seq (pe_ix ix_tup (pv 0) pe_int (fun _ _ => rfl)) (pe_lst (pa_cons pe_str (pa_cons pe_str (pa_cons pe_str pa_nil)))) (by rfl)) (pe_ix ix_tup (pv 0) pe_int (fun _ _ => rfl)) pe_non))) pss_nil)
    (pss_cons (ps_if (pt_val (pe_callB call_isi rfl T.z_isinstance PyProof.Rows.boot_isinstance (pa_cons (pv 1) (pa_cons (pe_bltn (v := .ty "int") rfl T.z_int PyProof.Rows.boot_int rfl) pa_nil)))) (pss_one (ps_ret (pe_ifExp (pt_mid (PW.pt (pw_and (pt_cmpR op_eq (pe_ix ix_tup (pv 0) pe_int (fun _ _ => rfl)) pe_str (nomark _)) (pw_and1 (pt_chain op_le op_lt pe_int (pv 1) (pe_callB call_len_seq rfl T.z_len PySem.boot_len (pa_cons (pe_ix ix_tup (pv 0) pe_int (fun _ _ => rfl)) pa_nil))))))) (pe_ix ix_tup (pe_ix ix_tup (pv 0) pe_int (fun _ _ => rfl)) (pv 1) (fun _ _ => rfl)) pe_non))) pss_nil)
    (pss_cons (ps_if (pt_cmpR op_ne (pe_ix ix_tup (pv 0) pe_int (fun _ _ => rfl)) pe_str (nomark _)) (pss_one (ps_ret pe_non)) pss_nil)
    (pss_cons (ps_for PassesOwn.never rfl (pi_tup (pe_call (ok_fields T.toTxt2) (hr.mono (by omega)) rfl T._law_fields.g T._law_fields.F.kp T._law_fields.b .nil pass0 (pa_cons (pe_ix ix_tup (pv 0) pe_int (fun _ _ => rfl)) pa_nil))) (pg_tup rfl (pgs_cons (pg_name (i := 2) sc__law_after.nd rfl (Or.inl rfl)) (pgs_cons (pg_name (i := 3) sc__law_after.nd rfl (Or.inl rfl)) pgs_nil))) (pss_one (ps_if (pt_cmpR op_eq (pv 2) (pv 1) (nomark _)) (pss_one (ps_ret (pv 3))) pss_nil)))
    (pss_one (ps_ret pe_non))))))), ?_⟩
  obtain ⟨p, x, us, rfl, hp, c⟩ := kv.inv
  have sq : SqT K H p (.str x :: us) := .inl (.inl hp)
  have sc : ∀ y : Str, scal sv (.str y) = true := fun y => by rcases hsv with ⟨i, rfl, _⟩ | ⟨z, rfl, _⟩ <;> rfl
  refine ⟨_, rfl, sc _, _, rfl, ite2 (fun c1 => ?_) (fun c1 => ?_)⟩
  · have es : sv = .str "?" := of_decide_eq_true c1
    subst es
    refine ⟨_, rfl, p, _, 0, _, rfl, rfl, sq, atI_0, rfl, _, rfl, ite2 (fun d1 => ?_) (fun d1 => ?_)⟩
    · have e := str_of_dec d1
      rcases c with ⟨_, hx, _⟩ | ⟨hx, _⟩ | ⟨hx, u, e', rfl, k, ed⟩ | ⟨hx, _⟩
      · exact absurd e (leaf_ne hx).2.2
      · rw [e] at hx; exact absurd hx (by decide +kernel)
      · rw [ed, e, op_may] at q1
        exact ⟨_, rfl, p, _, 1, _, rfl, rfl, sq, atI_1, q1 u e' H rfl (.refl H) (k.up (by decide))⟩
      · rw [e] at hx; exact absurd hx (by decide +kernel)
    · refine q2 ?_ H (.refl H)
      rcases c with ⟨_, hx, ed⟩ | ⟨_, y, _, _, ed⟩ | ⟨hx, u, e', rfl, k, ed⟩ | ⟨_, r, ws, ds, _, _, _, _, _, _, ed⟩
      · rw [ed, op_leaf]; rfl
      · rw [ed, op_rec]; exact (hit_fld_no y).1
      · rcases hx with hx | hx | hx | hx | hx
        · exact absurd (decide_eq_true (by rw [hx])) d1
        · rw [ed, op_box (.inl hx)]; rfl
        · rw [ed, op_box (.inr (.inl hx))]; rfl
        · rw [ed, op_box (.inr (.inr hx))]; rfl
        · rw [ed, hx, op_task]; rfl
      · rw [ed, op_tup]; exact hit_en_str _ _ _
  refine ⟨_, rfl, sc _, _, rfl, ite2 (fun c2 => ?_) (fun c2 => ?_)⟩
  · have es : sv = .str "^" := of_decide_eq_true c2
    subst es
    refine ⟨_, rfl, p, _, 0, _, rfl, rfl, sq, atI_0, by show 3 ≤ sizeLine; decide, fun l hl => ⟨l, _, rfl, .inl (SqL.of upd_same), rfl, rfl, _, rfl, ite2 (fun d1 => ?_) (fun d1 => ?_)⟩⟩
    · have g1 := same_new hl (.lst [.str "box", .str "shared", .str "exclusive"])
      have d1' : inV (.str x) ((["box", "shared", "exclusive"] : List Str).map V.str) = true := d1
      rw [inV_str] at d1'
      have hx3 : x = "box" ∨ x = "shared" ∨ x = "exclusive" := by simpa using of_decide_eq_true d1'
      rcases c with ⟨_, hx, _⟩ | ⟨hx, _⟩ | ⟨hx, u, e', rfl, k, ed⟩ | ⟨hx, _⟩
      · unfold Leaf at hx
        rcases hx with rfl | rfl | rfl <;> exact absurd hx3 (by decide +kernel)
      · rw [hx] at hx3; exact absurd hx3 (by decide +kernel)
      · rw [ed, op_box hx3] at q1
        exact ⟨_, rfl, p, _, 1, _, rfl, rfl, .inl (.inl (g1 _ _ hp)), atI_1, q1 u e' _ rfl g1 ((k.up (by decide)).tm (.same g1))⟩
      · rw [hx] at hx3; exact absurd hx3 (by decide +kernel)
    · have d1' : ¬ inV (.str x) ((["box", "shared", "exclusive"] : List Str).map V.str) = true := d1
      rw [inV_str] at d1'
      have hx3 : ¬ (x = "box" ∨ x = "shared" ∨ x = "exclusive") := fun e => d1' (decide_eq_true (by simpa using e))
      refine q2 ?_ _ (same_new hl _)
      rcases c with ⟨_, hx, ed⟩ | ⟨_, y, _, _, ed⟩ | ⟨hx, u, e', rfl, k, ed⟩ | ⟨_, r, ws, ds, _, _, _, _, _, _, ed⟩
      · rw [ed, op_leaf]; rfl
      · rw [ed, op_rec]; exact (hit_fld_no y).2.1
      · rcases hx with hx | hx | hx | hx | hx
        · rw [ed, hx, op_may]; rfl
        · exact absurd (.inl hx) hx3
        · exact absurd (.inr (.inl hx)) hx3
        · exact absurd (.inr (.inr hx)) hx3
        · rw [ed, hx, op_task]; rfl
      · rw [ed, op_tup]; exact hit_en_str _ _ _
  rcases hsv with ⟨i, rfl, hi⟩ | ⟨z, rfl, _⟩
  · refine ⟨_, rfl, _, _, _, _, true, rfl, .ty _, .base (.int i), kit_ty (by decide +kernel), _, rfl, iteT ?_⟩
    refine ⟨fun b H' => H' = H ∧ (b = true → x = "tuple" ∧ ∃ r ws, us = [.ref r] ∧ H r = some (.tup ws) ∧ 0 ≤ i ∧ i < (ws.length : Int)) ∧ (b = false → hit (.int i) (opD d) = none), ?_, ?_⟩
    · refine ⟨_, rfl, p, _, 0, _, rfl, rfl, sq, atI_0, rfl, _, rfl, ite2 (fun d1 => ?_) (fun d1 => ⟨rfl, fun e => Bool.noConfusion e, fun _ => ?_⟩)⟩
      · have e := str_of_dec d1
        rcases c with ⟨_, hx, _⟩ | ⟨hx, _⟩ | ⟨hx, _⟩ | ⟨_, r, ws, ds, rfl, hr2, hl, h1, h6, hk, ed⟩
        · exact absurd e (leaf_ne hx).1
        · rw [e] at hx; exact absurd hx (by decide +kernel)
        · exact absurd e (one_ne hx).1
        · refine ⟨_, rfl, _, _, rfl, rfl, _, rfl, ite2 (fun d2 => ?_) (fun d2 => ?_)⟩
          · have i0 : 0 ≤ i := of_decide_eq_true d2
            refine ⟨_, rfl, p, _, 1, _, rfl, rfl, sq, atI_1, r, _, rfl, .inr (.inl (.inl hr2)), _, _, rfl, rfl, _, rfl, rfl, fun e2 => ⟨e, r, ws, rfl, hr2, i0, of_decide_eq_true e2⟩, fun e2 => ?_⟩
            have i1 : ¬ i < (ws.length : Int) := of_decide_eq_false e2
            rw [ed, op_tup, hit_en_int, if_pos (by omega)]
            exact List.getElem?_eq_none_iff.mpr (by omega)
          · have i0 : ¬ 0 ≤ i := of_decide_eq_false (Bool.eq_false_iff.mpr d2)
            refine ⟨_, rfl, rfl, fun e => Bool.noConfusion e, fun _ => ?_⟩
            rw [ed, op_tup, hit_en_int, if_neg (by omega)]
      · rcases c with ⟨_, hx, ed⟩ | ⟨_, y, _, _, ed⟩ | ⟨hx, u, e', rfl, k, ed⟩ | ⟨hx, _⟩
        · rw [ed, op_leaf]; rfl
        · rw [ed, op_rec]; exact (hit_fld_no y).2.2 i
        · rcases hx with hx | hx | hx | hx | hx
          · rw [ed, hx, op_may]; rfl
          · rw [ed, op_box (.inl hx)]; rfl
          · rw [ed, op_box (.inr (.inl hx))]; rfl
          · rw [ed, op_box (.inr (.inr hx))]; rfl
          · rw [ed, hx, op_task]; rfl
        · exact absurd (decide_eq_true (by rw [hx])) d1
    · rintro b H1 ⟨rfl, hb1, hb2⟩
      refine ite2 (fun d1 => ?_) (fun d1 => q2 (hb2 (Bool.eq_false_iff.mpr d1)) _ (.refl _))
      obtain ⟨e, r, ws, rfl, hr1, i0, i1⟩ := hb1 d1
      rcases c with ⟨hu, _⟩ | ⟨hx, _⟩ | ⟨hx, _⟩ | ⟨_, r', ws', ds, er, hr2, hl, h1, h6, hk, ed⟩
      · cases hu
      · rw [e] at hx; exact absurd hx (by decide +kernel)
      · exact absurd e (one_ne hx).1
      · injection er with er _
        cases er
        rw [hr1] at hr2
        have ew := HO.tup.inj (Option.some.inj hr2)
        subst ew
        obtain ⟨u, hu, hu'⟩ := atI_ex (l := ws) i0 i1
        have hd : ds[i.toNat]? = some ds[i.toNat] := List.getElem?_eq_getElem (by omega)
        refine ⟨_, rfl, p, _, 1, _, rfl, rfl, sq, atI_1, _, rfl, r, _, _, u, rfl, rfl, .inl (.inl hr1), hu', q1 u _ _ ?_ (.refl _) ((hk _ _ _ hu hd).up (by decide))⟩
        rw [ed, op_tup, hit_en_int, if_pos (by omega)]
        have ez : (i - ((0 : Nat) : Int)).toNat = i.toNat := by omega
        rw [ez]; exact hd
  · have z1 : z ≠ "?" := fun e => c1 (decide_eq_true (by rw [e]))
    have z2 : z ≠ "^" := fun e => c2 (decide_eq_true (by rw [e]))
    refine ⟨_, rfl, _, _, _, _, false, rfl, .ty _, .base (.str z), kit_ty (by decide +kernel), _, rfl, iteF ?_⟩
    refine ⟨_, rfl, p, _, 0, _, rfl, rfl, sq, atI_0, rfl, _, rfl, ite2 (fun d1 => ?_) (fun d1 => ?_)⟩
    · refine q2 ?_ _ (.refl _)
      rcases c with ⟨_, hx, ed⟩ | ⟨hx, _⟩ | ⟨hx, u, e', rfl, k, ed⟩ | ⟨_, r, ws, ds, _, _, _, _, _, _, ed⟩
      · rw [ed, op_leaf]; rfl
      · have d1' : (!decide (V.str x = V.str "record")) = true := d1
        rw [hx, decide_eq_true rfl] at d1'; cases d1'
      · have n1 : ¬ V.str "?" = V.str z := fun e => z1 (V.str.inj e).symm
        have n2 : ¬ V.str "^" = V.str z := fun e => z2 (V.str.inj e).symm
        have h1 : ∀ e' : PyData, hit (.str z) [(V.str "?", e')] = none := fun e' => by
          show (if _ then _ else _) = none
          rw [if_neg n1]; rfl
        have h2 : ∀ e' : PyData, hit (.str z) [(V.str "^", e')] = none := fun e' => by
          show (if _ then _ else _) = none
          rw [if_neg n2]; rfl
        rcases hx with hx | hx | hx | hx | hx
        · rw [ed, hx, op_may]; exact h1 _
        · rw [ed, op_box (.inl hx)]; exact h2 _
        · rw [ed, op_box (.inr (.inl hx))]; exact h2 _
        · rw [ed, op_box (.inr (.inr hx))]; exact h2 _
        · rw [ed, hx, op_task]; rfl
      · rw [ed, op_tup]; exact hit_en_str _ _ _
    · have d1' : ¬ (!decide (V.str x = V.str "record")) = true := d1
      have ex : x = "record" := by
        by_cases e : x = "record"
        · exact e
        · rw [decide_eq_false (fun z => e (V.str.inj z))] at d1'; exact absurd rfl d1'
      rcases c with ⟨_, hx, _⟩ | ⟨_, y, rfl, hy, ed⟩ | ⟨hx, _⟩ | ⟨hx, _⟩
      · exact absurd ex (leaf_ne hx).2.1
      · rw [ed, op_rec] at q1 q2
        refine ⟨_, rfl, p, _, 1, _, rfl, rfl, sq, atI_1, y, rfl, fun f ws H1 g1 hf hfd => ⟨f, rfl, ⟨_, .inl (.inl hf)⟩, for_tup (K := K) (a := f) (xs := ws)
          (fun i σ' H' => H' = H1 ∧ (∃ o1 o2, σ' = [some (.ref p), some (.str z), o1, o2]) ∧ hit (.str z) (fldL y) = hit (.str z) ((fldL y).drop i)) ⟨rfl, ⟨_, _, rfl⟩, rfl⟩ (fun i σ' H' _ e => e.1 ▸ .inl (.inl hf)) ?_ ?_⟩⟩
        · rintro i u σ' H' hi ⟨rfl, ⟨o1, o2, rfl⟩, hh⟩
          obtain ⟨pp, fn, t, dd, rfl, hpp, kt, hfn⟩ := hfd.get hi
          have hL : (fldL y)[i]? = some (.str fn, dd) := by
            unfold fldL
            rw [List.getElem?_map, hfn]; rfl
          have hi' : i < (fldL y).length := (List.getElem?_eq_some_iff.mp hL).1
          have ed2 : (fldL y).drop i = (.str fn, dd) :: (fldL y).drop (i + 1) := by
            rw [List.drop_eq_getElem_cons hi', (List.getElem?_eq_some_iff.mp hL).2]
          rw [ed2] at hh
          refine ⟨pp, _, rfl, .inl (.inl hpp), rfl, _, _, rfl, _, _, rfl, rfl, _, rfl, _, rfl, rfl, _, rfl, ite2 (fun d2 => ?_) (fun d2 => ?_)⟩
          · have ee := str_of_dec d2
            refine ⟨_, rfl, q1 t dd H' ?_ g1 kt⟩
            rw [hh, ee]
            show (if _ then _ else _) = _
            rw [if_pos rfl]
          · refine ⟨rfl, ⟨_, _, rfl⟩, ?_⟩
            have ee : ¬ V.str fn = V.str z := of_decide_eq_false (Bool.eq_false_iff.mpr d2)
            rw [hh]
            show (if V.str fn = V.str z then some dd else hit (.str z) ((fldL y).drop (i + 1))) = _
            rw [if_neg ee]
        · rintro σ' H' ⟨rfl, ⟨o1, o2, rfl⟩, hh⟩
          refine q2 ?_ _ g1
          rw [hh, List.drop_eq_nil_of_le (by unfold fldL; rw [List.length_map, hfd.len]; exact Nat.le_refl _)]; rfl
      · exact absurd ex (one_ne hx).2.1
      · rw [ex] at hx; exact absurd hx (by decide +kernel)
def spAfterU : Sp := fun vs H Q _ => ∃ (v sv : V) (d : PyData), vs = [v, sv] ∧ KV H 6 v d ∧ StepV sv ∧ ∀ t H', Same H H' → ((∃ dt, hit sv (opD d) = some dt ∧ KV H' 6 t dt) ∨ (hit sv (opD d) = none ∧ t = .non)) → Q t H'
theorem ok_afterU (T : Txt4 K mg) : FnOk P w K mg base CX0 2 T._law_after.f T._law_after.fd ["kind", "step"] spAfterU := by
  have conv : ∀ vs H Q E, spAfterU vs H Q E → spAfterL vs H Q E := fun vs H Q E ⟨v, sv, d, e, k, hs, q⟩ => ⟨v, sv, d, e, k, hs, fun t dt H' h g kt => q t H' g (.inl ⟨dt, h, kt⟩), fun h H' g => q _ H' g (.inr ⟨h, rfl⟩)⟩
  have F := ok_afterL (P := P) (w := w) (base := base) T
  exact ⟨fun vs H Q E h => F.len vs H Q E (conv vs H Q E h), fun A outer s H args us vs Q E a b c d h => F.run A outer s H args us vs Q E a b c d (conv vs H Q E h)⟩
end
end Kk
/-! ### enumerate of a tuple -/
namespace PySem
open Sem (wp)
open AutoSeq1 (wpAny_loadPart')
theorem own_enum_new {v : Value} {o : Obj} {H : Heap → Prop} (B : Begins v o H) :
    Meets (Builtin.«enumerate.__new__» ⟨[.type "enumerate", v], []⟩) (fun _ R s => H s.heap ∧
      R (.ok (.ret (.ref (s.heap.push o).objs.size))) { s with heap := (s.heap.push o).push { cls := .type "enumerate", data := .fields #[.none, .bool false, .ref s.heap.objs.size, rawInt 0, .none, .none] } }) :=
  .of_wp fun prog w A R s h => by
    obtain ⟨hp, g, d, tk, os⟩ := s; obtain ⟨h1, h⟩ := h
    have hsub := sub_enumerate
    have it1 : ∀ {A' : Around} {E : Value → Shared → Prop} {Q : Value → Shared → Prop}, Q (.ref hp.objs.size) ⟨hp.push o, g, d, tk, os⟩ → wpAny (model prog w) A' (pyIter v) Q E ⟨hp, g, d, tk, os⟩ :=
      fun q => B.iter prog w _ _ ⟨hp, g, d, tk, os⟩ _ h1 q
    wp_walk using it1
    refine wpAny_stack_any fun st => wpAny_pure ?_
    split
    · rename_i c _ _ _ _ _
      cases (c == Value.type "enumerate")
      · wp_walk using it1
        exact ⟨_, rfl, h⟩
      · wp_walk using it1
        exact ⟨_, rfl, h⟩
    · wp_walk using it1
      exact ⟨_, rfl, h⟩
section
variable {prog : Program} {w : World} {A : Around} {E : Value → Shared → Prop} {s : Shared}
theorem own_enum_call {v : Value} {o : Obj} {H : Heap → Prop} {Q : Value → Shared → Prop} (B : Begins v o H) (h1 : H s.heap)
    (h : ∀ h', IsEnum h' (s.heap.objs.size + 1) s.heap.objs.size 0 .none → h'.get? s.heap.objs.size = some o → h'.objs.size = s.heap.objs.size + 2 →
      (∀ b o, s.heap.get? b = some o → h'.get? b = some o) → Q (.ref (s.heap.objs.size + 1)) { s with heap := h' }) :
    wpAny (model prog w) A (call (.type "enumerate") [v]) Q E s := by
  refine callType_new F.called_enumerate (by decide) (F.typeCall_enumerate_1 _) (F.newCall_enumerate_1 _) (fun obj => F.args_object_init_2 obj _) F.entry_enumerate_new (own_enum_new B) ⟨h1, ?_⟩
  have hz : (s.heap.push o).objs.size = s.heap.objs.size + 1 := Heap.size_push ..
  show _ ∧ _
  rw [hz]
  have he : IsEnum ((s.heap.push o).push { cls := .type "enumerate", data := .fields #[.none, .bool false, .ref s.heap.objs.size, rawInt 0, .none, .none] }) (s.heap.objs.size + 1) s.heap.objs.size 0 .none := by
    have := Heap.get?_push_size (s.heap.push o) (o := { cls := .type "enumerate", data := .fields #[.none, .bool false, .ref s.heap.objs.size, rawInt 0, .none, .none] }) rfl
    rw [hz] at this; exact this
  exact ⟨⟨_, he, rfl⟩, h _ he (Heap.get?_push_of_some _ (Heap.get?_push_size _ B.free)) (by rw [Heap.size_push, hz]) fun b o x => Heap.get?_push_of_some _ (Heap.get?_push_of_some _ x)⟩
theorem own_enum_end {e it t : Addr} {i : Nat} {k : Int} {items : Array Value} {old : Value} {Q : Option Value → Shared → Prop} (hd : A.in1.handled = none) (he : IsEnum s.heap e it k old) (hit : s.heap.IsTupleIter it t i) (ht : s.heap.IsTuple t items) (hx : items[i]? = none)
    (hQ : ∀ h', Heap.ExtBut it s.heap h' → Q none { s with heap := h' }) : wpAny (model prog w) A (pyNext (.ref e)) Q E s := by
  have ty : s.TypeIs (.ref e) "enumerate" := ⟨_, he, rfl⟩
  unfold pyNext
  refine wpAny_bind (wpAny_attempt (wpAny_callSpecial?_slot (name := Str.ofString "__next__") ty F.slot_enumerate_next (wpAny_call_entry F.slot_enumerate_next ty F.entry_enumerate_next ?_ (F.args_enumerate_next_1 _))))
  show wpAny _ _ (field (.ref e) 2 >>= _) _ _ _
  refine wpAny_bind (wpAny_field he rfl (x := .ref it) rfl (wpAny_bind (wpAny_nextOf_tuple_end hd hit ht hx fun h' x he' ⟨o, ho, hc⟩ => ?_)))
  exact wpAny_bind (wpAny_isInstance (T := "StopIteration") (b := true) ⟨o, ho, hc⟩ isSubtype_stop (wpAny_pure (hQ _ he')))
end
end PySem
namespace L2
open PySem PySem.Spec PyProof.Rows
def Iet (K : PySem.W.Frag) (a : Addr) : It :=
  ⟨fun i H => ∃ (xs : List V) (x : V), SqT K H a xs ∧ xs[i]? = some x, fun i H v H' => ∃ T x, v = .ref T ∧ H T = none ∧ H' = upd H T (.tup [.int (i : Nat), x]) ∧ ∀ xs, SqT K H a xs → xs[i]? = some x, fun i H => ∃ xs : List V, SqT K H a xs ∧ xs.length ≤ i⟩
theorem turn_enumT {P : Program} {w : World} {K : PySem.W.Frag} {elts : List Expr} {kk : Nat} {tpos : Pos} (a e it : Addr) :
    Turn P w K (.Tuple elts kk tpos) (Iet K a) [e, it] e (fun i h => (∃ old, IsEnum h e it ((i : Nat) : Int) old) ∧ h.IsTupleIter it a i ∧ e ≠ it ∧ e ≠ a ∧ a ≠ it) where
  mem := by simp
  obj := fun i h st b hb => by
    obtain ⟨⟨old, he⟩, ⟨o, ho, hc, hd⟩, _⟩ := st
    have e' : b = e ∨ b = it := by simpa using hb
    rcases e' with z | z
    · rw [z]; exact ⟨_, he, fun v q => nomatch q⟩
    · rw [z]; exact ⟨o, ho, fun v q => by rw [hd] at q; cases q⟩
  keep := fun i h h' st k => let ⟨⟨old, he⟩, hi, hne⟩ := st; ⟨⟨old, k e (by simp) _ he⟩, hi.at fun o q => k it (by simp) o q, hne⟩
  item := by
    intro X hP hw hK hc i pins s σ H E I hf st hg
    subst hP hw hK
    obtain ⟨⟨old, he⟩, hit, hne, hea, hai⟩ := st
    obtain ⟨xs, x, hq, hx⟩ := hg
    obtain ⟨its, rv, p, hz⟩ := I.tuple hq
    obtain ⟨u, hu, ru⟩ := rv.get hx
    have hel : e < s.heap.objs.size := Heap.lt_size he
    have hil : it < s.heap.objs.size := by obtain ⟨_, q, _⟩ := hit; exact Heap.lt_size q
    have hd : X.A.in1.handled = none := I.ok.hd hc
    have pt : s.heap.IsTuple a its.toArray := p
    have hi : i < its.toArray.size := by
      have := (List.getElem?_eq_some_iff.mp hu).1
      simpa using this
    refine wpAny_pyNext_enum_itemD (Draws.tuple hd it a hai its.toArray) he ⟨hit, pt⟩ hi hne (by simp [hne, hea]) fun y h' tk hy ho st' hT hsz hk => ?_
    have ey : y = u := by
      have : its.toArray[i]? = some u := by simpa using hu
      rw [this] at hy
      exact (Option.some.inj hy).symm
    subst ey
    refine ⟨_, rfl, wpAny_letOwnedTupleGo_enum (s := { s with heap := h', toks := tk + 1 }) ho fun h'' he' sb => ?_⟩
    have hT2 : h''.get? s.heap.objs.size = some { cls := .type "tuple", data := .seq #[.int i tk, y] } := (sb.2 _ (Nat.ne_of_gt hel)).trans hT
    have new : ObjOk X.prog X.w (upd H s.heap.objs.size (.tup [.int (i : Nat), x])) h'' s.heap.objs.size (.tup [.int (i : Nat), x]) :=
      ⟨by show 2 ≤ sizeLine; decide, [.int i tk, y], .cons ⟨_, rfl⟩ (.cons ru .nil), ⟨_, hT2, rfl, _, rfl⟩⟩
    have I1 : Inv X pins σ (upd H s.heap.objs.size (.tup [.int (i : Nat), x])) { s with heap := h'', toks := tk + 1 } :=
      I.turnedNew (ch := [e, it]) (fun b ob hb q => (sb.2 b (fun z => hb (by simp [z]))).trans (hk b ob (fun z => hb (by simp [z])) (fun z => hb (by simp [z])) q)) hf (Nat.le_refl _) new
    refine ⟨.ref s.heap.objs.size, _, I1, rfl, ⟨_, x, rfl, I.hok.fresh (Nat.le_refl _), rfl, fun ys hy => by rw [I.tuple_inj hy hq]; exact hx⟩, ⟨⟨y, ?_⟩, st'.1.at fun o q => (sb.2 it (Ne.symm hne)).trans q, hne, hea, hai⟩, fun b hb => ?_⟩
    · have e1 : ((i + 1 : Nat) : Int) = (i : Int) + 1 := by omega
      rw [e1]; exact he'
    · have hb' : b < s.heap.objs.size := by
        have e' : b = e ∨ b = it := by simpa using hb
        rcases e' with z | z
        · rw [z]; exact hel
        · rw [z]; exact hil
      rw [upd_ne (Nat.ne_of_lt hb')]
      exact (hf b hb).1
  done := by
    intro X hP hw hK hc i pins s σ H E I hf st hg
    subst hP hw hK
    obtain ⟨⟨old, he⟩, hit, hne, hea, hai⟩ := st
    obtain ⟨xs, hq, hx⟩ := hg
    obtain ⟨its, rv, p, hz⟩ := I.tuple hq
    obtain ⟨f0, f1, f2, f3, f4, f5⟩ := hf it (by simp)
    have hl := rv.length
    have hd : X.A.in1.handled = none := I.ok.hd hc
    have pt : s.heap.IsTuple a its.toArray := p
    refine own_enum_end hd he hit pt (by simp; omega) fun h' eb => ⟨rfl, I.turned (t' := s.toks) (fun b o hb q => eb b o hb q) f0 f1 f3 f4 f5⟩
  self := fun A i s Q E st h => let ⟨⟨_, he⟩, _⟩ := st; wpAny_pyIter_enum he h
def iEnumT (K : PySem.W.Frag) (ta : TA) : TI := fun σ H R => ta σ H fun vs H1 => ∃ a xs, vs = [.ref a] ∧ SqT K H1 a xs ∧ R (Iet K a) H1
theorem pi_enumT {X : Cx} {e : Expr} {ta : TA} {p pos tpos : Pos} {elts : List Expr} {kk : Nat} (hg : Gl X "enumerate") (hm : X.mg "enumerate" = none) (ha : PA X [e] ta) (hs : starEach [e] X.env = [(false, eval e X.env)] := by rfl) :
    PI X (.Tuple elts kk tpos) (.Call (.Name "enumerate" p) [e] [] pos) (iEnumT X.K ta) := by
  refine ⟨fun pins s σ H R I h => ?_⟩
  refine Call_ (ld_blt I hg hm boot_enumerate (PyProof.Rows.callWith_type1 (thn (ha.run pos pins s σ H _ I h) fun us s1 ⟨vs, H1, I1, r1, q1⟩ => ?_) hs rfl))
  obtain ⟨a, xs, rfl, hq, q⟩ := q1
  cases r1 with
  | cons r rr =>
    cases rr
    cases r
    obtain ⟨its, rv, p', hz⟩ := I1.tuple hq
    have pt : s1.heap.IsTuple a its.toArray := p'
    have hal : a < s1.heap.objs.size := by obtain ⟨o, q, _⟩ := pt; exact Heap.lt_size q
    refine own_enum_call (begins_tuple a its.toArray) pt fun h' he hit hsz hk => wpAny_pyIter_enum he ?_
    have I2 : Inv X pins σ H1 { s1 with heap := h' } := I1.kept (t' := s1.toks) hk
    refine ⟨s1.heap.objs.size + 1, [s1.heap.objs.size + 1, s1.heap.objs.size], _, _, H1, rfl, I2, turn_enumT a (s1.heap.objs.size + 1) s1.heap.objs.size, ⟨⟨.none, he⟩, ⟨_, hit, rfl, rfl⟩, Nat.succ_ne_self _, Nat.ne_of_gt (Nat.lt_succ_of_lt hal), Nat.ne_of_lt hal⟩, fun b hb => ?_, q⟩
    have e' : b = s1.heap.objs.size + 1 ∨ b = s1.heap.objs.size := by simpa using hb
    have hle : s1.heap.objs.size ≤ b := by
      rcases e' with z | z
      · rw [z]; exact Nat.le_add_right _ _
      · rw [z]; exact Nat.le_refl _
    exact I1.fpOk hle (I1.hok.fresh hle)
theorem for_enumT {K : PySem.W.Frag} {a : Addr} {xs : List V} {g : TG} {tb : TS} {D : Ends} {σ : St} {H : Hp} (Pv : Nat → St → Hp → Prop) (h0 : Pv 0 σ H) (hl : ∀ i σ H, i ≤ xs.length → Pv i σ H → H a = some (.tup xs))
    (hs : ∀ i x σ H T, xs[i]? = some x → Pv i σ H → H T = none → g (.ref T) σ (upd H T (.tup [.int (i : Nat), x])) fun σ2 H2 => tb { D with nx := Pv (i + 1), ct := Pv (i + 1), bk := D.nx } σ2 H2) (hd : ∀ σ H, Pv xs.length σ H → D.nx σ H) :
    ∃ W : Nat → Nat → St → Hp → Prop, (∃ m, W 0 m σ H) ∧ ∀ i m σ H, W i m σ H →
      ((Iet K a).stop i H ∧ D.nx σ H) ∨ ((Iet K a).go i H ∧ ∃ N : St → Hp → Prop, (∀ σ' H', N σ' H' → ∃ m', m' < m ∧ W (i + 1) m' σ' H') ∧ ∀ x H', (Iet K a).yld i H x H' → g x σ H' fun σ2 H2 => tb { D with nx := N, ct := N, bk := D.nx } σ2 H2) := by
  refine ⟨fun i m σ H => m = xs.length - i ∧ i ≤ xs.length ∧ Pv i σ H, ⟨xs.length, by simp, Nat.zero_le _, h0⟩, ?_⟩
  rintro i m σ H ⟨rfl, hi, p⟩
  have ha := hl i σ H hi p
  have sq : SqT K H a xs := .inl (.inl ha)
  by_cases hlt : i < xs.length
  · refine .inr ⟨⟨xs, xs[i], sq, List.getElem?_eq_getElem hlt⟩, Pv (i + 1), fun σ' H' q => ⟨xs.length - (i + 1), by omega, rfl, hlt, q⟩, ?_⟩
    rintro v H' ⟨T, x, rfl, hT, rfl, hx⟩
    exact hs i x σ H T (hx xs sq) p hT
  · have e : i = xs.length := by omega
    exact .inl ⟨⟨xs, sq, by omega⟩, hd σ H (e ▸ p)⟩
end L2
namespace Kk
open PySem L2
abbrev s_kind_after : Stmt := topS 10
theorem sc_kind_after : FnScope ["records", "kind", "step", "field", "inside"] ["records", "kind", "step"] (defScope s_kind_after) := ⟨rfl, rfl, rfl, by decide +kernel, rfl, by decide +kernel, by decide +kernel⟩
abbrev s_kinds_along : Stmt := topS 18
theorem sc_kinds_along : FnScope ["place", "records", "kinds", "variable", "steps", "along", "step"] ["place", "records", "kinds"] (defScope s_kinds_along) := ⟨rfl, rfl, rfl, by decide +kernel, rfl, by decide +kernel, by decide +kernel⟩
abbrev s_kind_at : Stmt := topS 16
theorem sc_kind_at : FnScope ["place", "records", "kinds"] ["place", "records", "kinds"] (defScope s_kind_at) := ⟨rfl, rfl, rfl, by decide +kernel, rfl, by decide +kernel, by decide +kernel⟩
abbrev s_crossed : Stmt := topS 17
theorem sc_crossed : FnScope ["place", "records", "kinds", "variable", "steps", "along", "at", "step"] ["place", "records", "kinds"] (defScope s_crossed) := ⟨rfl, rfl, rfl, by decide +kernel, rfl, by decide +kernel, by decide +kernel⟩
/-- the first row of this name -/
inductive First (H : Hp) (y : Str) : List V → Option Addr → Prop
  | nil : First H y [] none
  | here {u : V} {us : List V} {f : Addr} (h : Pr H u y (.ref f)) : First H y (u :: us) (some f)
  | there {u : V} {us : List V} {f : Addr} {n : Str} {o : Option Addr} (h : Pr H u n (.ref f)) (hn : n ≠ y) (r : First H y us o) : First H y (u :: us) o
theorem First.tm {H H' : Hp} (m : TM H H') {y : Str} {us : List V} {o : Option Addr} (h : First H y us o) : First H' y us o := by
  induction h with
  | nil => exact .nil
  | here h => exact .here (h.tm m)
  | there h hn _ ih => exact .there (h.tm m) hn ih
theorem First.in_ {H : Hp} {y : Str} {us : List V} {o : Option Addr} (h : First H y us o) : ∀ {f : Addr}, o = some f → ∃ u ∈ us, Pr H u y (.ref f) := by
  induction h with
  | nil => intro f e; cases e
  | here h => intro f e; cases e; exact ⟨_, List.mem_cons_self, h⟩
  | there h hn _ ih =>
    intro f e
    obtain ⟨u, hu, p⟩ := ih e
    exact ⟨u, List.mem_cons_of_mem _ hu, p⟩
/-- pairs, as they lie -/
inductive PsL (H : Hp) : List V → List (V × V) → Prop
  | nil : PsL H [] []
  | cons {p : Addr} {us : List V} {s t : V} {os : List (V × V)} (h : H p = some (.tup [s, t])) (r : PsL H us os) : PsL H (.ref p :: us) ((s, t) :: os)
theorem PsL.tm {H H' : Hp} (m : TM H H') {us : List V} {os : List (V × V)} (h : PsL H us os) : PsL H' us os := by
  induction h with
  | nil => exact .nil
  | cons h _ ih => exact .cons (m _ _ h) ih
theorem PsL.snoc {H : Hp} {us : List V} {os : List (V × V)} (h : PsL H us os) {p : Addr} {s t : V} (hp : H p = some (.tup [s, t])) : PsL H (us ++ [.ref p]) (os ++ [(s, t)]) := by
  induction h with
  | nil => exact .cons hp .nil
  | cons h _ ih => exact .cons h ih
theorem PsL.len {H : Hp} {us : List V} {os : List (V × V)} (h : PsL H us os) : us.length = os.length := by
  induction h with
  | nil => rfl
  | cons h _ ih => rw [List.length_cons, List.length_cons, ih]
theorem PsL.get {H : Hp} {us : List V} {os : List (V × V)} (h : PsL H us os) : ∀ {i : Nat} {u : V}, us[i]? = some u → ∃ p s t, u = .ref p ∧ H p = some (.tup [s, t]) ∧ os[i]? = some (s, t) := by
  induction h with
  | nil => intro i u e; simp at e
  | cons h _ ih =>
    intro i u e
    cases i with
    | zero =>
      have e' := Option.some.inj e
      exact ⟨_, _, _, e'.symm, h, rfl⟩
    | succ i => exact ih (i := i) (u := u) (by simpa using e)
def OptsAt (H : Hp) (us : List V) (x : Str) (ts : List V) (os : List (V × V)) : Prop :=
  (x = "maybe" ∧ ∃ u, ts = [u] ∧ os = [(.str "?", u)]) ∨
  ((x = "box" ∨ x = "shared" ∨ x = "exclusive") ∧ ∃ u, ts = [u] ∧ os = [(.str "^", u)]) ∨
  (x = "tuple" ∧ ∃ q ws, ts = [.ref q] ∧ H q = some (.tup ws) ∧ ws.length ≤ 100 ∧ os = en 0 ws) ∨
  (x = "record" ∧ ∃ y o, ts = [.str y] ∧ First H y us o ∧ ((o = none ∧ os = []) ∨ ∃ f ws, o = some f ∧ H f = some (.tup ws) ∧ PsL H ws os)) ∨
  ((x = "int" ∨ x = "bool" ∨ x = "unit" ∨ x = "task") ∧ os = [])
section
variable {H : Hp} {us : List V} {x : Str} {ts : List V} {os : List (V × V)}
theorem OptsAt.may (h : OptsAt H us x ts os) (e : x = "maybe") : ∃ u, ts = [u] ∧ os = [(.str "?", u)] := by
  subst e
  rcases h with ⟨_, h⟩ | ⟨h, _⟩ | ⟨h, _⟩ | ⟨h, _⟩ | ⟨h, _⟩
  · exact h
  all_goals exact absurd h (by decide +kernel)
theorem OptsAt.one (h : OptsAt H us x ts os) (e : x = "box" ∨ x = "shared" ∨ x = "exclusive") : ∃ u, ts = [u] ∧ os = [(.str "^", u)] := by
  rcases h with ⟨h, _⟩ | ⟨_, h⟩ | ⟨h, _⟩ | ⟨h, _⟩ | ⟨h, _⟩
  · subst h; exact absurd e (by decide +kernel)
  · exact h
  · subst h; exact absurd e (by decide +kernel)
  · subst h; exact absurd e (by decide +kernel)
  · rcases e with rfl | rfl | rfl <;> exact absurd h (by decide +kernel)
theorem OptsAt.tup (h : OptsAt H us x ts os) (e : x = "tuple") : ∃ q ws, ts = [.ref q] ∧ H q = some (.tup ws) ∧ ws.length ≤ 100 ∧ os = en 0 ws := by
  subst e
  rcases h with ⟨h, _⟩ | ⟨h, _⟩ | ⟨_, h⟩ | ⟨h, _⟩ | ⟨h, _⟩
  · exact absurd h (by decide +kernel)
  · exact absurd h (by decide +kernel)
  · exact h
  all_goals exact absurd h (by decide +kernel)
theorem OptsAt.rcd (h : OptsAt H us x ts os) (e : x = "record") : ∃ y o, ts = [.str y] ∧ First H y us o ∧ ((o = none ∧ os = []) ∨ ∃ f ws, o = some f ∧ H f = some (.tup ws) ∧ PsL H ws os) := by
  subst e
  rcases h with ⟨h, _⟩ | ⟨h, _⟩ | ⟨h, _⟩ | ⟨_, h⟩ | ⟨h, _⟩
  · exact absurd h (by decide +kernel)
  · exact absurd h (by decide +kernel)
  · exact absurd h (by decide +kernel)
  · exact h
  · exact absurd h (by decide +kernel)
theorem OptsAt.rest (h : OptsAt H us x ts os) (e1 : x ≠ "maybe") (e2 : ¬ (x = "box" ∨ x = "shared" ∨ x = "exclusive")) (e3 : x ≠ "tuple") (e4 : x ≠ "record") : os = [] := by
  rcases h with ⟨h, _⟩ | ⟨h, _⟩ | ⟨h, _⟩ | ⟨h, _⟩ | ⟨_, h⟩
  · exact absurd h e1
  · exact absurd h e2
  · exact absurd h e3
  · exact absurd h e4
  · exact h
theorem OptsAt.tm {H' : Hp} (m : TM H H') (h : OptsAt H us x ts os) : OptsAt H' us x ts os := by
  rcases h with h | h | ⟨e, q, ws, h1, h2, h3⟩ | ⟨e, y, o, h1, h2, h3⟩ | h
  · exact .inl h
  · exact .inr (.inl h)
  · exact .inr (.inr (.inl ⟨e, q, ws, h1, m _ _ h2, h3⟩))
  · refine .inr (.inr (.inr (.inl ⟨e, y, o, h1, h2.tm m, ?_⟩)))
    rcases h3 with h3 | ⟨f, ws, a, b, c⟩
    · exact .inl h3
    · exact .inr ⟨f, ws, a, m _ _ b, c.tm m⟩
  · exact .inr (.inr (.inr (.inr h)))
end
structure Opts (H : Hp) (us : List V) (p : Addr) (os : List (V × V)) : Prop where
  ex : ∃ x ts, H p = some (.tup (.str x :: ts)) ∧ Gd 20 x ∧ OptsAt H us x ts os
  ok : ∀ o ∈ os, StepV o.1
theorem Opts.tm {H H' : Hp} (m : TM H H') {us : List V} {p : Addr} {os : List (V × V)} (h : Opts H us p os) : Opts H' us p os := by
  obtain ⟨x, ts, a, b, c⟩ := h.ex
  exact ⟨⟨x, ts, m _ _ a, b, c.tm m⟩, h.ok⟩
inductive OD (H : Hp) : List (V × V) → List (V × PyData) → Prop
  | nil : OD H [] []
  | cons {s t : V} {d : PyData} {os : List (V × V)} {od : List (V × PyData)} (k : KV H 6 t d) (r : OD H os od) : OD H ((s, t) :: os) ((s, d) :: od)
theorem OD.hit {H : Hp} {sv : V} {os : List (V × V)} {od : List (V × PyData)} (h : OD H os od) : (Kk.hit sv os = none ∧ Kk.hit sv od = none) ∨ ∃ t d, Kk.hit sv os = some t ∧ Kk.hit sv od = some d ∧ KV H 6 t d := by
  induction h with
  | nil => exact .inl ⟨rfl, rfl⟩
  | @cons s t d os od k r ih =>
    unfold Kk.hit
    by_cases e : s = sv
    · rw [if_pos e, if_pos e]; exact .inr ⟨t, d, rfl, rfl, k⟩
    · rw [if_neg e, if_neg e]; exact ih
theorem od_en {H : Hp} : ∀ {k : Nat} {ws : List V} {ds : List PyData}, ws.length = ds.length → (∀ (i : Nat) u d, ws[i]? = some u → ds[i]? = some d → KV H 6 u d) → OD H (en k ws) (en k ds)
  | _, [], [], _, _ => .nil
  | k, u :: ws, d :: ds, hl, h => .cons (h 0 u d rfl rfl) (od_en (by simpa using hl) fun i u' d' a b => h (i + 1) u' d' (by simpa using a) (by simpa using b))
theorem fd_od {H : Hp} {ws : List V} {r : List (Str × PyData)} (h : FD H ws r) : (∀ q ∈ r, Gd 20 q.1) → ∃ os, PsL H ws os ∧ OD H os (r.map fun q => (.str q.1, q.2)) ∧ ∀ o ∈ os, StepV o.1 := by
  induction h with
  | nil => exact fun _ => ⟨[], .nil, .nil, fun o ho => absurd ho (by simp)⟩
  | @cons p ws fn v d r h k _ ih =>
    intro g
    obtain ⟨os, h1, h2, h3⟩ := ih fun q hq => g q (List.mem_cons_of_mem _ hq)
    refine ⟨(.str fn, v) :: os, .cons h h1, .cons k h2, fun o ho => ?_⟩
    rcases List.mem_cons.mp ho with e | ho
    · rw [e]; exact .inr ⟨fn, rfl, (g _ List.mem_cons_self).mono (by decide)⟩
    · exact h3 o ho
theorem en_step {k : Nat} : ∀ {j : Nat} {ws : List V} {o : V × V}, j + ws.length ≤ k → o ∈ en j ws → ∃ i : Nat, i < k ∧ o.1 = .int (i : Int)
  | _, [], _, _, h => by cases h
  | j, w :: r, o, hk, h => by
    rw [List.length_cons] at hk
    rcases List.mem_cons.mp h with e | h
    · rw [e]; exact ⟨j, by omega, rfl⟩
    · exact en_step (j := j + 1) (by omega) h
theorem first_ex {H : Hp} (y : Str) : ∀ {us : List V}, (∀ u ∈ us, ∃ n f, Pr H u n (.ref f)) → (∃ u ∈ us, ∃ f, Pr H u y (.ref f)) → ∃ f, First H y us (some f)
  | [], _, ⟨u, hu, _⟩ => by cases hu
  | u :: us, h, hx => by
    obtain ⟨n, f, p⟩ := h u List.mem_cons_self
    by_cases e : n = y
    · exact ⟨f, .here (e ▸ p)⟩
    · obtain ⟨v, hv, f2, p2⟩ := hx
      have hv2 : v ∈ us := by
        rcases List.mem_cons.mp hv with z | z
        · obtain ⟨a1, e1, g1⟩ := p
          obtain ⟨a2, e2, g2⟩ := p2
          rw [z, e1] at e2
          cases e2
          rw [g1] at g2
          have ee := HO.tup.inj (Option.some.inj g2)
          injection ee with ee _
          exact absurd (V.str.inj ee) e
        · exact z
      obtain ⟨f3, r⟩ := first_ex y (us := us) (fun x hx => h x (List.mem_cons_of_mem _ hx)) ⟨v, hv2, f2, p2⟩
      exact ⟨f3, .there p e r⟩
theorem opts_of {H : Hp} {n : Nat} {v : V} {d : PyData} {us : List V} (k : KV H n v d) (hn : n ≤ 6) (hr : Rec H us) : ∃ p os, v = .ref p ∧ Opts H us p os ∧ OD H os (opD d) := by
  cases n with
  | zero => cases k
  | succ n =>
    obtain ⟨p, x, ts, rfl, hp, c⟩ := k.inv
    refine ⟨p, ?_⟩
    rcases c with ⟨rfl, hx, ed⟩ | ⟨rfl, y, rfl, hy, ed⟩ | ⟨hx, u, e, rfl, ku, ed⟩ | ⟨rfl, q, ws, ds, rfl, hq, hl, h1, h6, kw, ed⟩
    · refine ⟨[], rfl, ⟨⟨_, _, hp, gd_lit _ (by rcases hx with rfl | rfl | rfl <;> decide +kernel), .inr (.inr (.inr (.inr ⟨?_, rfl⟩)))⟩, fun o ho => absurd ho (by simp)⟩, by rw [ed, op_leaf]; exact .nil⟩
      rcases hx with h | h | h
      · exact .inl h
      · exact .inr (.inl h)
      · exact .inr (.inr (.inl h))
    · obtain ⟨f, hf⟩ := first_ex y (fun u hu => let ⟨n, f, _, p, _⟩ := hr.all u hu; ⟨n, f, p⟩) (hr.has y hy)
      obtain ⟨u, hu, p1, e1, g1⟩ := hf.in_ rfl
      obtain ⟨n', f', ws, ⟨p2, e2, g2⟩, hf', fd⟩ := hr.all u hu
      have ep : p1 = p2 := V.ref.inj (e1.symm.trans e2)
      subst ep
      rw [g1] at g2
      have ee := HO.tup.inj (Option.some.inj g2)
      injection ee with ee1 ee
      injection ee with ee _
      have ef := V.ref.inj ee
      have en' := V.str.inj ee1
      subst ef en'
      obtain ⟨os, a, b, c⟩ := fd_od fd (fld_all y).2.2
      exact ⟨os, rfl, ⟨⟨_, _, hp, gd_lit _ (by decide +kernel), .inr (.inr (.inr (.inl ⟨rfl, y, some f, rfl, hf, .inr ⟨f, ws, rfl, hf', a⟩⟩)))⟩, c⟩, by rw [ed, op_rec]; exact b⟩
    · have gx : Gd 20 x := gd_lit _ (by rcases hx with rfl | rfl | rfl | rfl | rfl <;> decide +kernel)
      have k6 : KV H 6 u e := ku.up (by omega)
      have st1 : ∀ (s : Str), (s = "?" ∨ s = "^") → ∀ o ∈ [(V.str s, u)], StepV o.1 := fun s hs o ho => by
        have e : o = (V.str s, u) := by simpa using ho
        rw [e]
        rcases hs with rfl | rfl <;> exact stepS _ (by decide +kernel)
      rcases hx with h | h | h | h | h
      · exact ⟨[(.str "?", u)], rfl, ⟨⟨_, _, hp, gx, .inl ⟨h, u, rfl, rfl⟩⟩, st1 _ (.inl rfl)⟩, by rw [ed, h, op_may]; exact .cons k6 .nil⟩
      · exact ⟨[(.str "^", u)], rfl, ⟨⟨_, _, hp, gx, .inr (.inl ⟨.inl h, u, rfl, rfl⟩)⟩, st1 _ (.inr rfl)⟩, by rw [ed, op_box (.inl h)]; exact .cons k6 .nil⟩
      · exact ⟨[(.str "^", u)], rfl, ⟨⟨_, _, hp, gx, .inr (.inl ⟨.inr (.inl h), u, rfl, rfl⟩)⟩, st1 _ (.inr rfl)⟩, by rw [ed, op_box (.inr (.inl h))]; exact .cons k6 .nil⟩
      · exact ⟨[(.str "^", u)], rfl, ⟨⟨_, _, hp, gx, .inr (.inl ⟨.inr (.inr h), u, rfl, rfl⟩)⟩, st1 _ (.inr rfl)⟩, by rw [ed, op_box (.inr (.inr h))]; exact .cons k6 .nil⟩
      · exact ⟨[], rfl, ⟨⟨_, _, hp, gx, .inr (.inr (.inr (.inr ⟨.inr (.inr (.inr h)), rfl⟩)))⟩, fun o ho => absurd ho (by simp)⟩, by rw [ed, h, op_task]; exact .nil⟩
    · refine ⟨en 0 ws, rfl, ⟨⟨_, _, hp, gd_lit _ (by decide +kernel), .inr (.inr (.inl ⟨rfl, q, ws, rfl, hq, by omega, rfl⟩))⟩, fun o ho => ?_⟩, by rw [ed, op_tup]; exact od_en hl fun i u d' a b => (kw i u d' a b).up (by omega)⟩
      obtain ⟨i, a, b⟩ := en_step (k := 6) (by omega) ho
      rw [b]; exact stepI (by omega)
/-- a class of the program's -/
structure Cl (K : PySem.W.Frag) (mg : Str → Option Value) (x : Str) where
  C : Addr
  g : mg x = some (.ref C)
/-- the error that is raised here -/
structure ClX (K : PySem.W.Frag) (mg : Str → Option Value) (x : Str) where
  C : Addr
  g : mg x = some (.ref C)
  x : PySem.W.excIn K C [.type "ValueError", .type "Exception", .type "BaseException", .type "object"] "ValueError.__new__" = true
  k : PySem.W.keepIn K (.ref C) = true
  b : PySem.W.subIn K (.ref C) (.type "BaseException") = some true
  t : PySem.W.typeIn K (.ref C) = some (.type "type")
  e : ExcC K C
  m : PySem.W.exmOne K (.ref C) (.ref C) = some true
/-- one value by place, two by their names -/
def g3 {α : Type} : List α → List α → List α
  | [u], [a, b] => [u, a, b]
  | _, _ => []
theorem g3_rel : ∀ {vs : List V} {us : List Value} {zs : List V} {ws : List Value}, Vals vs us → Vals zs ws → Vals (g3 vs zs) (g3 us ws)
  | _, _, _, _, .nil, _ => .nil
  | _, _, _, _, .cons _ (.cons _ _), _ => .nil
  | _, _, _, _, .cons _ .nil, .nil => .nil
  | _, _, _, _, .cons _ .nil, .cons _ .nil => .nil
  | _, _, _, _, .cons a .nil, .cons b (.cons c .nil) => .cons a (.cons b (.cons c .nil))
  | _, _, _, _, .cons _ .nil, .cons _ (.cons _ (.cons _ _)) => .nil
theorem g3_len {α : Type} {us ws : List α} (h : (g3 us ws).length = 3) : ∃ u a b, us = [u] ∧ ws = [a, b] := by
  rcases us with _ | ⟨u, us⟩
  · exact absurd h (by simp [g3])
  · rcases us with _ | ⟨u2, us⟩
    · rcases ws with _ | ⟨a, ws⟩
      · exact absurd h (by simp [g3])
      · rcases ws with _ | ⟨b, ws⟩
        · exact absurd h (by simp [g3])
        · rcases ws with _ | ⟨c, ws⟩
          · exact ⟨u, a, b, rfl, rfl⟩
          · exact absurd h (by simp [g3])
    · exact absurd h (by simp [g3])
/-- a def whose call is bound by keywords -/
structure Df0 (K : PySem.W.Frag) (mg : Str → Option Value) (x : Str) (st : Stmt) where
  f : Addr
  fd : FuncData
  F : Fun K x x st f fd
  g : mg x = some (.ref f)
  b : KBinds K fd ["place", "records", "kinds"] ["records", "kinds"] g3 g3
structure Txt5 (K : PySem.W.Frag) (mg : Str → Option Value) extends Txt4 K mg where
  kind_after : Df K mg "kind_after" s_kind_after ["records", "kind", "step"]
  a_BORROWS : Addr
  g_BORROWS : mg "BORROWS" = some (.ref a_BORROWS)
  t_BORROWS : ∀ H, SqT K H a_BORROWS [.str "shared", .str "exclusive"]
  c_NoSuchStep : ClX K mg "NoSuchStep"
  kinds_along : Df K mg "kinds_along" s_kinds_along ["place", "records", "kinds"]
  kind_at : Df0 K mg "kind_at" s_kind_at
  crossed : Df0 K mg "crossed" s_crossed
  c_NoSuchVariable : ClX K mg "NoSuchVariable"
section
variable {X : Cx}
theorem pss_given {p : Prop} {st : List Stmt} {t : TS} (h : p → PSs X st t) : PSs X st (fun D σ H => p ∧ t D σ H) :=
  ⟨fun pins s σ H D I q => (h q.1).run pins s σ H D I q.2⟩
end
theorem scal_step {v : V} (h : StepV v) (y : Str) : scal v (.str y) = true ∧ scal (.str y) v = true := by
  rcases h with ⟨i, rfl, _⟩ | ⟨x, rfl, _⟩ <;> exact ⟨rfl, rfl⟩
section
variable {P : Program} {w : World} {K : PySem.W.Frag} {mg : Str → Option Value} {base : Heap}
def spFieldsOf : Sp := fun vs H Q _ => ∃ (ra : Addr) (us : List V) (y : Str) (o : Option Addr), vs = [.ref ra, .str y] ∧ H ra = some (.tup us) ∧ First H y us o ∧
  (∀ f, o = some f → Q (.ref f) H) ∧ (o = none → ∀ p, H p = none → Q (.ref p) (upd H p (.tup [])))
theorem ok_fieldsOf (T : Txt5 K mg) : FnOk P w K mg base CX0 1 T.fields_of.f T.fields_of.fd ["records", "name"] spFieldsOf := by
  refine T.fields_of.F.ok sc_fields_of (fun vs H Q E h => ?_) (fun cdv A outer s H vs Q E hr h => ?_)
  · obtain ⟨ra, us, y, o, rfl, _⟩ := h
    rfl
  obtain ⟨ra, us, y, o, rfl, hra, hf, q1, q2⟩ := h
  refine ⟨_, (pss_cons (ps_for PassesOwn.never rfl (pi_tup (pv 0)) (pg_tup rfl (pgs_cons (pg_name (i := 2) sc_fields_of.nd rfl (Or.inl rfl)) (pgs_cons (pg_name (i := 3) sc_fields_of.nd rfl (Or.inl rfl)) pgs_nil))) (pss_one (ps_if (pt_cmpR op_eq (pv 2) (pv 1) (nomark _)) (pss_one (ps_ret (pv 3))) pss_nil)))
    (pss_one (ps_ret (pe_tup pa_nil)))), ?_⟩
  refine ⟨_, rfl, ra, rfl, ⟨_, .inl (.inl hra)⟩, for_tup (K := K) (a := ra) (xs := us) (fun i σ' H' => H' = H ∧ (∃ u v, σ' = [some (.ref ra), some (.str y), u, v]) ∧ First H y (us.drop i) o) ⟨rfl, ⟨_, _, rfl⟩, hf⟩ (fun i σ' H' _ e => e.1 ▸ .inl (.inl hra)) ?_ ?_⟩
  · rintro i u σ' H' hi ⟨rfl, ⟨u', v', rfl⟩, hfi⟩
    have hi' : i < us.length := (List.getElem?_eq_some_iff.mp hi).1
    have ed : us.drop i = u :: us.drop (i + 1) := by
      rw [List.drop_eq_getElem_cons hi', (List.getElem?_eq_some_iff.mp hi).2]
    rw [ed] at hfi
    cases hfi with
    | here h =>
      obtain ⟨pr, rfl, hpr⟩ := h
      exact ⟨pr, _, rfl, .inl (.inl hpr), rfl, _, _, rfl, _, _, rfl, rfl, _, rfl, _, rfl, rfl, _, rfl, ite2 (fun _ => ⟨_, rfl, q1 _ rfl⟩) (fun c => absurd (decide_eq_true rfl) c)⟩
    | there h hn r =>
      obtain ⟨pr, rfl, hpr⟩ := h
      exact ⟨pr, _, rfl, .inl (.inl hpr), rfl, _, _, rfl, _, _, rfl, rfl, _, rfl, _, rfl, rfl, _, rfl, ite2 (fun c => absurd (str_of_dec c) hn) (fun _ => ⟨rfl, ⟨_, _, rfl⟩, r⟩)⟩
  · rintro σ' H' ⟨rfl, _, hfi⟩
    rw [List.drop_eq_nil_of_le (Nat.le_refl _)] at hfi
    cases hfi
    exact ⟨by show 0 ≤ sizeLine; decide, fun p hp => q2 rfl p hp⟩
def spAfter (K : PySem.W.Frag) (C : Addr) : Sp := fun vs H Q E => ∃ (ra : Addr) (us : List V) (p : Addr) (os : List (V × V)) (sv : V), vs = [.ref ra, .ref p, sv] ∧ H ra = some (.tup us) ∧ Opts H us p os ∧ StepV sv ∧
  (∀ t, hit sv os = some t → ∀ H', Same H H' → Q t H') ∧ (hit sv os = none → ∀ H', Same H H' → E (.ref C) none H')
theorem ok_after (T : Txt5 K mg) : FnOk P w K mg base (L2.CX P w) 3 T.kind_after.f T.kind_after.fd ["records", "kind", "step"] (spAfter K T.c_NoSuchStep.C) := by
  refine T.kind_after.F.okX sc_kind_after (fun vs H Q E h => ?_) (fun cdv A outer s H vs Q E hr h => ?_)
  · obtain ⟨ra, us, p, os, sv, rfl, _⟩ := h
    rfl
  obtain ⟨ra, us, p, os, sv, rfl, hra, ho, hsv, qs, qn⟩ := h
  refine ⟨_, (pss_cons (ps_if (pt_mid (PW.pt (pw_and (pt_cmpR op_eq (pe_ix ix_tup (pv 1) pe_int (fun _ _ => rfl)) pe_str (nomark _)) (pw_and1 (pt_val (pe_call (ok_item T.toTxt1) (hr.mono (by omega)) rfl T.is_item.g T.is_item.F.kp T.is_item.b .nil pass0 (pa_cons (pe_ix ix_tup (pv 1) pe_int (fun _ _ => rfl)) (pa_cons (pv 2) pa_nil)))))))) (pss_one (ps_ret (pe_ix ix_tup (pe_ix ix_tup (pv 1) pe_int (fun _ _ => rfl)) (pv 2) (fun _ _ => rfl)))) pss_nil)
    (C8.pss_cut (ps_if (pt_cmpR op_eq (pe_ix ix_tup (pv 1) pe_int (fun _ _ => rfl)) pe_str (nomark _)) (pss_one (ps_for (passes_of rfl) rfl (pi_tup (pe_call (ok_fieldsOf T) (hr.mono (by omega)) rfl T.fields_of.g T.fields_of.F.kp T.fields_of.b .nil pass0 (pa_cons (pv 0) (pa_cons (pe_ix ix_tup (pv 1) pe_int (fun _ _ => rfl)) pa_nil)))) (pg_tup rfl (pgs_cons (pg_name (i := 3) sc_kind_after.nd rfl (Or.inl rfl)) (pgs_cons (pg_name (i := 4) sc_kind_after.nd rfl (Or.inl rfl)) pgs_nil))) (pss_one (ps_if (pt_cmpR op_eq (pv 3) (pv 2) (nomark _)) (pss_one (ps_ret (pv 4))) pss_nil)))) pss_nil)
    (pss_cons (ps_if (pt_mid (PW.pt (pw_and (pt_cmpR op_eq (pe_ix ix_tup (pv 1) pe_int (fun _ _ => rfl)) pe_str (nomark _)) (pw_and1 (pt_cmpR op_eq (pv 2) pe_str (nomark _)))))) (pss_one (ps_ret (pe_ix ix_tup (pv 1) pe_int (fun _ _ => rfl)))) pss_nil)
    (pss_cons (ps_if (pt_mid (PW.pt (pw_and (pt_mid (PW.pt (pw_or (pt_cmpR op_eq (pe_ix ix_tup (pv 1) pe_int (fun _ _ => rfl)) pe_str (nomark _)) (pw_or1 (pt_cmpR op_in_seq (pe_ix ix_tup (pv 1) pe_int (fun _ _ => rfl)) (pe_glob (v := .ref T.a_BORROWS) rfl T.g_BORROWS rfl) (by rfl)))))) (pw_and1 (pt_cmpR op_eq (pv 2) pe_str (nomark _)))))) (pss_one (ps_ret (pe_ix ix_tup (pv 1) pe_int (fun _ _ => rfl)))) pss_nil)
    (pss_one (ps_raise rfl (takes_of rfl rfl rfl rfl) (SkE.pmk_own1 PySem.F.excBase_ValueError T.c_NoSuchStep.x T.c_NoSuchStep.g T.c_NoSuchStep.k (raises_own T.c_NoSuchStep.b T.c_NoSuchStep.t) rfl (pe_joined (.cons (pe_str) (.cons (pe_fmtR (pv 2)) (.cons (pe_str) (.cons (pe_fmtR (pe_ix ix_tup (pv 1) pe_int (fun _ _ => rfl))) .nil)))))))))))), ?_⟩
  obtain ⟨x, ts, hp, gx, oa⟩ := ho.ex
  have sq : SqT K H p (.str x :: ts) := .inl (.inl hp)
  -- a tuple
  refine ⟨fun b H' => H' = H ∧ (b = true → x = "tuple" ∧ ∃ q ws, ts = [.ref q] ∧ H q = some (.tup ws) ∧ os = en 0 ws ∧ isItem ws.length sv = true) ∧ (b = false → x = "tuple" → hit sv os = none), ?_, ?_⟩
  · refine ⟨_, rfl, p, _, 0, _, rfl, rfl, sq, atI_0, rfl, _, rfl, ite2 (fun c => ?_) (fun c => ⟨rfl, fun e => Bool.noConfusion e, fun _ e => absurd (decide_eq_true (by rw [e])) c⟩)⟩
    have ex := str_of_dec c
    obtain ⟨q, ws, rfl, hq, hl, rfl⟩ := oa.tup ex
    refine ⟨_, rfl, p, _, 1, _, rfl, rfl, sq, atI_1, _, rfl, q, ws, sv, rfl, .inl (.inl hq), ?_, _, rfl, rfl, fun e => ⟨ex, q, ws, rfl, hq, rfl, e⟩, fun e _ => ?_⟩
    · rcases hsv with ⟨i, rfl, h⟩ | ⟨y, rfl, _⟩
      · have : i.natAbs.log2 < 100 := PySem.Flt.log2_lt_of (by decide) h
        show i.natAbs.log2 < 1920
        omega
      · trivial
    · rcases hsv with ⟨i, rfl, h⟩ | ⟨y, rfl, _⟩
      · rw [hit_en_int]
        by_cases h0 : ((0 : Nat) : Int) ≤ i
        · rw [if_pos h0]
          have e' : (decide (0 ≤ i) && decide (i < (ws.length : Int))) = false := e
          have h1 : ¬ i < (ws.length : Int) := fun z => by
            rw [decide_eq_true (show 0 ≤ i by omega), decide_eq_true z] at e'; cases e'
          exact List.getElem?_eq_none_iff.mpr (by omega)
        · rw [if_neg h0]
      · exact hit_en_str y 0 ws
  rintro b H' ⟨rfl, b1, b2⟩
  refine ite2 (fun c => ?_) (fun c1 => ?_)
  · obtain ⟨ex, q, ws, rfl, hq, rfl, hi⟩ := b1 c
    rcases hsv with ⟨i, rfl, h⟩ | ⟨y, rfl, _⟩
    · have e' : (decide (0 ≤ i) && decide (i < (ws.length : Int))) = true := hi
      rw [Bool.and_eq_true] at e'
      have i0 := of_decide_eq_true e'.1
      have i1 := of_decide_eq_true e'.2
      obtain ⟨t, ht, ht'⟩ := atI_ex i0 i1
      refine ⟨_, rfl, p, _, 1, _, rfl, rfl, sq, atI_1, _, rfl, q, _, _, t, rfl, rfl, .inl (.inl hq), ht', qs t ?_ _ (.refl _)⟩
      rw [hit_en_int, if_pos (by omega)]
      have ez : (i - ((0 : Nat) : Int)).toNat = i.toNat := by omega
      rw [ez]; exact ht
    · cases hi
  have h1 : x = "tuple" → hit sv os = none := b2 (Bool.eq_false_iff.mpr c1)
  -- a record
  refine ⟨fun σ' H2 => Same H' H2 ∧ (∃ u v, σ' = [some (.ref ra), some (.ref p), some sv, u, v]) ∧ (x = "record" → hit sv os = none), ⟨_, rfl, p, _, 0, _, rfl, rfl, sq, atI_0, rfl, _, rfl, ite2 (fun c => ?_) (fun c => ⟨.refl _, ⟨_, _, rfl⟩, fun e => absurd (decide_eq_true (by rw [e])) c⟩)⟩, ?_⟩
  · obtain ⟨y, o, rfl, hf, hos⟩ := oa.rcd (str_of_dec c)
    refine ⟨_, rfl, _, rfl, p, _, 1, _, rfl, rfl, sq, atI_1, ra, us, y, o, rfl, hra, hf, fun f e => ?_, fun e f hfr => ?_⟩
    · rcases hos with ⟨e2, _⟩ | ⟨f', ws, e2, hf', ps⟩
      · rw [e2] at e; cases e
      · have ef : f' = f := by rw [e2] at e; exact Option.some.inj e
        subst ef
        refine ⟨f', rfl, ⟨_, .inl (.inl hf')⟩, for_tup (K := K) (a := f') (xs := ws) (fun i σ' H2 => H2 = H' ∧ (∃ u v, σ' = [some (.ref ra), some (.ref p), some sv, u, v]) ∧ hit sv os = hit sv (os.drop i)) ⟨rfl, ⟨_, _, rfl⟩, rfl⟩ (fun i σ' H2 _ e => e.1 ▸ .inl (.inl hf')) ?_ ?_⟩
        · rintro i u σ' H2 hi ⟨rfl, ⟨u', v', rfl⟩, hh⟩
          obtain ⟨pp, s', t, rfl, hpp, hoi⟩ := ps.get hi
          have hi' : i < os.length := (List.getElem?_eq_some_iff.mp hoi).1
          have ed : os.drop i = (s', t) :: os.drop (i + 1) := by
            rw [List.drop_eq_getElem_cons hi', (List.getElem?_eq_some_iff.mp hoi).2]
          have hs' := ho.ok _ (mem_of_get hoi)
          have sc : scal s' sv = true := by
            rcases hs' with ⟨i, rfl, _⟩ | ⟨x, rfl, _⟩ <;> rcases hsv with ⟨j, rfl, _⟩ | ⟨z, rfl, _⟩ <;> rfl
          rw [ed] at hh
          refine ⟨pp, _, rfl, .inl (.inl hpp), rfl, _, _, rfl, _, _, rfl, rfl, _, rfl, _, rfl, sc, _, rfl, ite2 (fun d => ?_) (fun d => ?_)⟩
          · have ee : s' = sv := of_decide_eq_true d
            refine ⟨_, rfl, qs t ?_ _ (.refl _)⟩
            rw [hh]; unfold hit; rw [if_pos ee]
          · refine ⟨rfl, ⟨_, _, rfl⟩, ?_⟩
            have ee : ¬ s' = sv := of_decide_eq_false (Bool.eq_false_iff.mpr d)
            rw [hh]
            show (if s' = sv then some t else hit sv (os.drop (i + 1))) = _
            rw [if_neg ee]
        · rintro σ' H2 ⟨rfl, ⟨u', v', rfl⟩, hh⟩
          refine ⟨.refl _, ⟨_, _, rfl⟩, fun _ => ?_⟩
          rw [hh, ps.len, List.drop_eq_nil_of_le (Nat.le_refl _)]; rfl
    · refine ⟨f, rfl, ⟨_, .inl (.inl upd_same)⟩, for_tup (K := K) (a := f) (xs := []) (fun i σ' H2 => H2 = upd H' f (.tup []) ∧ (∃ u v, σ' = [some (.ref ra), some (.ref p), some sv, u, v])) ⟨rfl, ⟨_, _, rfl⟩⟩ (fun i σ' H2 _ e => e.1 ▸ .inl (.inl upd_same)) (fun i x σ' H2 hi => absurd hi (by simp)) ?_⟩
      rintro σ' H2 ⟨rfl, ⟨u', v', rfl⟩⟩
      refine ⟨same_new hfr _, ⟨_, _, rfl⟩, fun _ => ?_⟩
      rcases hos with ⟨_, e2⟩ | ⟨f', ws, e2, _⟩
      · rw [e2]; rfl
      · rw [e] at e2; cases e2
  rintro σ' H2 ⟨g2, ⟨u', v', rfl⟩, h2⟩
  have sq2 : SqT K H2 p (.str x :: ts) := .inl (.inl (g2 _ _ hp))
  obtain ⟨sc1, _⟩ := scal_step hsv "?"
  obtain ⟨sc2, _⟩ := scal_step hsv "^"
  -- a maybe
  refine ⟨fun b H3 => H3 = H2 ∧ (b = true → x = "maybe" ∧ sv = .str "?") ∧ (b = false → x = "maybe" → hit sv os = none), ?_, ?_⟩
  · refine ⟨_, rfl, p, _, 0, _, rfl, rfl, sq2, atI_0, rfl, _, rfl, ite2 (fun c => ?_) (fun c => ⟨rfl, fun e => Bool.noConfusion e, fun _ e => absurd (decide_eq_true (by rw [e])) c⟩)⟩
    have ex := str_of_dec c
    refine ⟨_, rfl, sc1, _, rfl, rfl, fun e => ⟨ex, of_decide_eq_true e⟩, fun e _ => ?_⟩
    obtain ⟨u, _, rfl⟩ := oa.may ex
    have ne : ¬ V.str "?" = sv := fun z => (of_decide_eq_false e) z.symm
    show (if V.str "?" = sv then some u else none) = none
    rw [if_neg ne]
  rintro b H3 ⟨rfl, b3, b4⟩
  refine ite2 (fun c => ?_) (fun c3 => ?_)
  · obtain ⟨ex, rfl⟩ := b3 c
    obtain ⟨u, rfl, rfl⟩ := oa.may ex
    exact ⟨_, rfl, p, _, 1, _, rfl, rfl, sq2, atI_1, qs u rfl _ g2⟩
  have h3 : x = "maybe" → hit sv os = none := b4 (Bool.eq_false_iff.mpr c3)
  -- a box or a borrow
  refine ⟨fun b H4 => H4 = H3 ∧ (b = true → (x = "box" ∨ x = "shared" ∨ x = "exclusive") ∧ sv = .str "^") ∧ (b = false → (x = "box" ∨ x = "shared" ∨ x = "exclusive") → hit sv os = none), ?_, ?_⟩
  · refine ⟨fun b H4 => H4 = H3 ∧ (b = true → x = "box" ∨ x = "shared" ∨ x = "exclusive") ∧ (b = false → ¬ (x = "box" ∨ x = "shared" ∨ x = "exclusive")), ?_, ?_⟩
    · refine ⟨_, rfl, p, _, 0, _, rfl, rfl, sq2, atI_0, rfl, _, rfl, ite2 (fun c => ⟨rfl, fun _ => .inl (str_of_dec c), fun e => Bool.noConfusion e⟩) (fun c => ?_)⟩
      refine ⟨_, rfl, p, _, 0, _, rfl, rfl, sq2, atI_0, T.a_BORROWS, _, rfl, .inr (T.t_BORROWS _), rfl, rfl, _, rfl, rfl, fun e => ?_, fun e => ?_⟩
      · have e' : inV (.str x) ((["shared", "exclusive"] : List Str).map V.str) = true := e
        rw [inV_str] at e'
        exact .inr (by simpa using of_decide_eq_true e')
      · have e' : inV (.str x) ((["shared", "exclusive"] : List Str).map V.str) = false := e
        rw [inV_str] at e'
        rintro (z | z)
        · exact c (decide_eq_true (by rw [z]))
        · exact of_decide_eq_false e' (by simpa using z)
    · rintro b H4 ⟨rfl, c1, c2⟩
      refine ite2 (fun c => ?_) (fun c => ⟨rfl, fun e => Bool.noConfusion e, fun _ e => absurd e (c2 (Bool.eq_false_iff.mpr c))⟩)
      refine ⟨_, rfl, sc2, _, rfl, rfl, fun e => ⟨c1 c, of_decide_eq_true e⟩, fun e _ => ?_⟩
      obtain ⟨u, _, rfl⟩ := oa.one (c1 c)
      have ne : ¬ V.str "^" = sv := fun z => (of_decide_eq_false e) z.symm
      show (if V.str "^" = sv then some u else none) = none
      rw [if_neg ne]
  rintro b H4 ⟨rfl, b5, b6⟩
  refine ite2 (fun c => ?_) (fun c4 => ?_)
  · obtain ⟨ex, rfl⟩ := b5 c
    obtain ⟨u, rfl, rfl⟩ := oa.one ex
    exact ⟨_, rfl, p, _, 1, _, rfl, rfl, sq2, atI_1, qs u rfl _ g2⟩
  have h4 := b6 (Bool.eq_false_iff.mpr c4)
  have hn : hit sv os = none := by
    by_cases e1 : x = "maybe"
    · exact h3 e1
    by_cases e2 : x = "box" ∨ x = "shared" ∨ x = "exclusive"
    · exact h4 e2
    by_cases e3 : x = "tuple"
    · exact h1 e3
    by_cases e4 : x = "record"
    · exact h2 e4
    rw [oa.rest e1 e2 e3 e4]; rfl
  have fin := qn hn _ g2
  have gr : (reprText x).length ≤ 1000 := Nat.le_trans (StrLaws.reprText_len x gx.wide) (by have := gx.1; omega)
  have l1 : ("the step " : Str).length = 9 := by decide +kernel
  have l2 : (" does not fit a kind that begins with " : Str).length = 38 := by decide +kernel
  have l0 : (Str.empty : Str).length = 0 := rfl
  rcases hsv with ⟨i, rfl, hi⟩ | ⟨y, rfl, gy⟩
  · have hlog : i.natAbs.log2 < 1920 := Nat.lt_trans (show i.natAbs.log2 < 100 from PySem.Flt.log2_lt_of (by decide) hi) (by decide)
    have gi : (Str.ofString (toString i)).length ≤ 2000 := by
      have := int_text_length_le (k := 1920) (by decide) hlog
      rw [ofString_length]; omega
    refine ⟨_, rfl, ?_, _, rfl, .inr ⟨i, rfl, hlog, _, rfl, ?_, _, rfl, ?_, _, rfl, p, _, 0, _, rfl, rfl, sq2, atI_0, .inl ⟨x, rfl, line_of (by omega), _, rfl, ?_, ?_⟩⟩⟩
    all_goals first | exact fin | (simp only [str_len]; exact line_of (by omega))
  · have gy2 : (reprText y).length ≤ 2000 := Nat.le_trans (StrLaws.reprText_len y gy.wide) (by have := gy.1; omega)
    refine ⟨_, rfl, ?_, _, rfl, .inl ⟨y, rfl, line_of (by omega), _, rfl, ?_, _, rfl, ?_, _, rfl, p, _, 0, _, rfl, rfl, sq2, atI_0, .inl ⟨x, rfl, line_of (by omega), _, rfl, ?_, ?_⟩⟩⟩
    all_goals first | exact fin | (simp only [str_len]; exact line_of (by omega))
end
end Kk
namespace Kk
open PySem L2
def keysOf (tb : List (Str × V)) : List (Key × V) := tb.map fun q => (.inr q.1, q.2)
theorem keys_str (tb : List (Str × V)) : (keysOf tb).map (fun kv => kV kv.1) = (tb.map (·.1)).map V.str := by
  unfold keysOf
  rw [List.map_map, List.map_map]; rfl
theorem val_in {x : Str} : ∀ {tb : List (Str × V)}, (tb.map (·.1)).Nodup → ∀ {v : V}, (x, v) ∈ tb → valV (keysOf tb) (.inr x) = some v
  | [], _, v, h => by cases h
  | (y, w) :: r, nd, v, h => by
    have nd' := List.nodup_cons.mp (show (y :: r.map (·.1)).Nodup from nd)
    rcases List.mem_cons.mp h with e | h
    · cases e
      unfold valV keysOf
      rw [List.map_cons, List.find?_cons_of_pos (by simp)]; rfl
    · have ne : y ≠ x := fun e => nd'.1 (e ▸ List.mem_map.mpr ⟨_, h, rfl⟩)
      have ih := val_in (x := x) nd'.2 h
      unfold valV keysOf at ih ⊢
      rw [List.map_cons, List.find?_cons_of_neg (by simpa using ne)]; exact ih
theorem val_out {x : Str} {tb : List (Str × V)} (h : x ∉ tb.map (·.1)) : valV (keysOf tb) (.inr x) = none := by
  unfold valV
  rw [List.find?_eq_none.mpr]
  · rfl
  · intro q hq
    obtain ⟨r, hr, rfl⟩ := List.mem_map.mp hq
    intro e
    have e' : (Sum.inr r.1 : Key) = Sum.inr x := of_decide_eq_true e
    exact h (List.mem_map.mpr ⟨r, hr, Sum.inr.inj e'⟩)
theorem put_out {x : Str} {v : V} {tb : List (Str × V)} (h : x ∉ tb.map (·.1)) : putK (keysOf tb) (.inr x) v = keysOf (tb ++ [(x, v)]) := by
  unfold putK
  rw [if_neg]
  · unfold keysOf; rw [List.map_append]; rfl
  · intro e
    obtain ⟨q, hq, e2⟩ := List.any_eq_true.mp e
    obtain ⟨r, hr, rfl⟩ := List.mem_map.mp hq
    have e' : (Sum.inr r.1 : Key) = Sum.inr x := of_decide_eq_true e2
    exact h (List.mem_map.mpr ⟨r, hr, Sum.inr.inj e'⟩)
theorem atI_last {α : Type} {ks : List α} {c : α} : atI (ks ++ [c]) (-1) = some c := by
  have e : ixN (ks ++ [c]).length (-1) = some ks.length := by
    unfold ixN
    rw [if_neg (by decide), if_pos (by rw [List.length_append]; show -((ks.length + 1 : Nat) : Int) ≤ -1; omega)]
    rw [List.length_append]
    show some ((-1 + ((ks.length + 1 : Nat) : Int)).toNat) = _
    congr 1; omega
  unfold atI
  rw [e]
  show (ks ++ [c])[ks.length]? = some c
  rw [List.getElem?_append_right (Nat.le_refl _), Nat.sub_self]; rfl
theorem take_more {α : Type} : ∀ {l : List α} {i : Nat} {x : α}, l[i]? = some x → l.take (i + 1) = l.take i ++ [x]
  | [], i, x, h => by simp at h
  | a :: l, 0, x, h => by
    have e : a = x := Option.some.inj h
    subst e
    rfl
  | a :: l, i + 1, x, h => congrArg (a :: ·) (take_more (l := l) (by simpa using h))
/-- a place, its records, its variables -/
structure Plc (H : Hp) (pl ra kd : Addr) (x : Str) (svs us : List V) (tb : List (Str × V)) : Prop where
  pl : ∃ sp, H pl = some (.tup [.str x, .ref sp]) ∧ H sp = some (.tup svs)
  sl : svs.length ≤ 50
  st : ∀ s ∈ svs, StepV s
  gx : Gd 22 x
  ra : H ra = some (.tup us)
  kd : H kd = some (.dK (keysOf tb))
/-- the kinds along the steps -/
def fol : PyData → List V → Option (List PyData)
  | d, [] => some [d]
  | d, s :: r => match hit s (opD d) with
    | none => none
    | some t => (fol t r).map (d :: ·)
theorem fol_snoc {s : V} : ∀ {svs : List V} {d dc : PyData} {ds : List PyData}, fol d svs = some (ds ++ [dc]) → fol d (svs ++ [s]) = (hit s (opD dc)).map fun t => ds ++ [dc] ++ [t]
  | [], d, dc, ds, h => by
    have e : [d] = ds ++ [dc] := Option.some.inj h
    have e2 : ds = [] ∧ d = dc := by
      rcases ds with _ | ⟨x, ds⟩
      · exact ⟨rfl, by injection e⟩
      · injection e with _ e
        exact absurd e (by simp)
    obtain ⟨rfl, rfl⟩ := e2
    show fol d [s] = _
    unfold fol
    cases hit s (opD d) with
    | none => rfl
    | some t => rfl
  | s' :: r, d, dc, ds, h => by
    unfold fol at h
    cases e : hit s' (opD d) with
    | none => rw [e] at h; cases h
    | some t =>
      rw [e] at h
      have h' : (fol t r).map (d :: ·) = some (ds ++ [dc]) := h
      cases e2 : fol t r with
      | none => rw [e2] at h'; cases h'
      | some rs =>
        rw [e2] at h'
        have h3 : d :: rs = ds ++ [dc] := Option.some.inj h'
        rcases ds with _ | ⟨x, ds⟩
        · injection h3 with _ h3
          subst h3
          cases r with
          | nil => cases e2
          | cons a b =>
            unfold fol at e2
            cases e4 : hit a (opD t) with
            | none => rw [e4] at e2; cases e2
            | some z =>
              rw [e4] at e2
              have e5 : (fol z b).map (t :: ·) = some [] := e2
              cases e6 : fol z b with
              | none => rw [e6] at e5; cases e5
              | some q => rw [e6] at e5; cases e5
        · injection h3 with h4 h5
          subst h4
          have ih := fol_snoc (s := s) (svs := r) (d := t) (dc := dc) (ds := ds) (by rw [e2, h5]; rfl)
          show fol d (s' :: (r ++ [s])) = _
          unfold fol
          rw [e]
          show (fol t (r ++ [s])).map (d :: ·) = _
          rw [ih]
          cases hit s (opD dc) with
          | none => rfl
          | some z => rfl
theorem fol_none {s : V} : ∀ {svs : List V} {d : PyData}, fol d svs = none → fol d (svs ++ [s]) = none
  | [], d, h => by cases h
  | s' :: r, d, h => by
    show fol d (s' :: (r ++ [s])) = none
    unfold fol at h ⊢
    cases e : hit s' (opD d) with
    | none => rfl
    | some t =>
      rw [e] at h
      have h' : (fol t r).map (d :: ·) = none := h
      show (fol t (r ++ [s])).map (d :: ·) = none
      rw [fol_none (svs := r) (d := t) (by cases e2 : fol t r with
        | none => rfl
        | some z => rw [e2] at h'; cases h')]
      rfl
inductive KL (H : Hp) : List V → List PyData → Prop
  | nil : KL H [] []
  | cons {t : V} {d : PyData} {ts : List V} {ds : List PyData} (k : KV H 6 t d) (r : KL H ts ds) : KL H (t :: ts) (d :: ds)
theorem KL.tm {H H' : Hp} (m : TM H H') {ts : List V} {ds : List PyData} (h : KL H ts ds) : KL H' ts ds := by
  induction h with
  | nil => exact .nil
  | cons k _ ih => exact .cons (k.tm m) ih
theorem KL.snoc {H : Hp} {ts : List V} {ds : List PyData} (h : KL H ts ds) {t : V} {d : PyData} (k : KV H 6 t d) : KL H (ts ++ [t]) (ds ++ [d]) := by
  induction h with
  | nil => exact .cons k .nil
  | cons k' _ ih => exact .cons k' ih
theorem KL.get {H : Hp} {ts : List V} {ds : List PyData} (h : KL H ts ds) : ∀ {i : Nat} {t : V}, ts[i]? = some t → ∃ d, ds[i]? = some d ∧ KV H 6 t d := by
  induction h with
  | nil => intro i t e; simp at e
  | cons k _ ih =>
    intro i t e
    cases i with
    | zero => cases e; exact ⟨_, rfl, k⟩
    | succ i => exact ih (by simpa using e)
theorem KL.len {H : Hp} {ts : List V} {ds : List PyData} (h : KL H ts ds) : ts.length = ds.length := by
  induction h with
  | nil => rfl
  | cons k _ ih => rw [List.length_cons, List.length_cons, ih]
/-- what a way along a place tells -/
structure Way (H : Hp) (K1 K2 : Prop) (x : Str) (svs : List V) (tb : List (Str × V)) (good : PyData → Prop) : Prop where
  no : x ∉ tb.map (·.1) → K1
  at_ : ∀ v, valV (keysOf tb) (.inr x) = some v → ∃ d, KV H 6 v d ∧ (fol d svs = none → K2) ∧ good d
section
variable {P : Program} {w : World} {K : PySem.W.Frag} {mg : Str → Option Value} {base : Heap}
def spAlong (CS CV : Addr) : Sp := fun vs H Q E => ∃ (pl ra kd : Addr) (x : Str) (svs us : List V) (tb : List (Str × V)), vs = [.ref pl, .ref ra, .ref kd] ∧ Plc H pl ra kd x svs us tb ∧ Rec H us ∧
  Way H (∀ H', Same H H' → E (.ref CV) none H') (∀ H', Same H H' → E (.ref CS) none H') x svs tb
    (fun d => ∀ l ts0 cur ds0 dc H', fol d svs = some (ds0 ++ [dc]) → Same H H' → H' l = some (.lst (ts0 ++ [cur])) → KL H' ts0 ds0 → KV H' 6 cur dc → ts0.length = svs.length → Q (.ref l) H')
theorem in_or (x : Str) (tb : List (Str × V)) : x ∉ tb.map (·.1) ∨ ∃ v, valV (keysOf tb) (.inr x) = some v := by
  cases e : valV (keysOf tb) (.inr x) with
  | some v => exact .inr ⟨v, rfl⟩
  | none =>
    refine .inl fun h => ?_
    unfold valV at e
    cases e2 : (keysOf tb).find? (fun kv => decide (kv.1 = (Sum.inr x : Key))) with
    | some q => rw [e2] at e; cases e
    | none =>
      obtain ⟨q, hq, e3⟩ := List.mem_map.mp h
      have := List.find?_eq_none.mp e2 (.inr q.1, q.2) (List.mem_map.mpr ⟨q, hq, rfl⟩)
      exact this (decide_eq_true (by rw [e3]))
theorem ok_along (T : Txt5 K mg) : FnOk P w K mg base (L2.CX P w) 5 T.kinds_along.f T.kinds_along.fd ["place", "records", "kinds"] (spAlong T.c_NoSuchStep.C T.c_NoSuchVariable.C) := by
  refine T.kinds_along.F.okX sc_kinds_along (fun vs H Q E h => ?_) (fun cdv A outer s H vs Q E hr h => ?_)
  · obtain ⟨pl, ra, kd, x, svs, us, tb, rfl, _⟩ := h
    rfl
  obtain ⟨pl, ra, kd, x, svs, us, tb, rfl, hp, hrec, W⟩ := h
  refine ⟨_, (pss_cons (ps_asg (pv 0) (pg_tup rfl (pgs_cons (pg_name (i := 3) sc_kinds_along.nd rfl (Or.inl rfl)) (pgs_cons (pg_name (i := 4) sc_kinds_along.nd rfl (Or.inl rfl)) pgs_nil))))
    (pss_cons (ps_if (pt_cmp (pc_dnotin (hu_of hr) (pv 3) (pv 2))) (pss_one (ps_raise rfl (takes_of rfl rfl rfl rfl) (SkE.pmk_own1 PySem.F.excBase_ValueError T.c_NoSuchVariable.x T.c_NoSuchVariable.g T.c_NoSuchVariable.k (raises_own T.c_NoSuchVariable.b T.c_NoSuchVariable.t) rfl (pe_joined (.cons (pe_str) (.cons (pe_fmtR (pv 3)) .nil)))))) pss_nil)
    (pss_cons (ps_set (i := 5) sc_kinds_along.nd rfl (Or.inl rfl) (pe_lst (pa_cons (pe_dget (hu_of hr) (pv 2) (pv 3) (fun _ _ => rfl)) pa_nil)))
    (pss_cons (ps_for (passes_of rfl) rfl (pi_tup (pv 4)) (pg_name (i := 6) sc_kinds_along.nd rfl (Or.inl rfl)) (pss_one (ps_expr (pe_bm PySem.F.plainAttrs_list PySem.F.slot_list_append PySem.F.type_list_append mt_append (pv 5) (pa_cons (pe_call (ok_after T) (hr.mono (by omega)) rfl T.kind_after.g T.kind_after.F.kp T.kind_after.b .nil (passes_call (takes_of rfl rfl rfl rfl) fun _ _ _ _ h => h) (pa_cons (pv 1) (pa_cons (pe_ix ix_list (pv 5) (pe_un un_neg pe_int) (fun _ _ => rfl)) (pa_cons (pv 6) pa_nil)))) pa_nil)))))
    (pss_one (ps_ret (pv 5))))))), ?_⟩
  obtain ⟨sp, hpl, hsp⟩ := hp.pl
  refine ⟨_, rfl, pl, _, rfl, .inl (.inl hpl), rfl, _, _, rfl, _, _, rfl, rfl, ?_⟩
  refine ⟨_, rfl, _, rfl, kd, _, rfl, DGet.k (k := Sum.inr x) hp.kd, _, rfl, ite2 (fun c => ?_) (fun c => ?_)⟩
  · rcases in_or x tb with h | ⟨v, hv⟩
    · have fin := W.no h H (.refl H)
      have gr : (reprText x).length ≤ 1000 := Nat.le_trans (StrLaws.reprText_len x hp.gx.wide) (by have := hp.gx.1; omega)
      have l1 : ("there is no variable " : Str).length = 21 := by decide +kernel
      have l0 : (Str.empty : Str).length = 0 := rfl
      refine ⟨_, rfl, ?_, _, rfl, .inl ⟨x, rfl, line_of (by omega), _, rfl, ?_, ?_⟩⟩
      all_goals first | exact fin | (simp only [str_len]; exact line_of (by omega))
    · rw [hv] at c; cases c
  · rcases in_or x tb with h | ⟨v, hv⟩
    · rw [val_out h] at c; exact absurd rfl c
    · obtain ⟨d, kv, q2, q3⟩ := W.at_ v hv
      refine ⟨_, rfl, _, rfl, kd, v, rfl, by have := DGet.k (k := Sum.inr x) hp.kd; rw [hv] at this; exact this, by show 1 ≤ sizeLine; decide, fun l hl => ?_⟩
      have g0 := same_new hl (.lst [v])
      refine ⟨_, rfl, sp, rfl, ⟨_, .inl (.inl (g0 _ _ hsp))⟩, for_tup (K := K) (a := sp) (xs := svs)
        (fun i σ' H' => ∃ ts0 cur ds0 dc st, σ' = [some (.ref pl), some (.ref ra), some (.ref kd), some (.str x), some (.ref sp), some (.ref l), st] ∧ H' l = some (.lst (ts0 ++ [cur])) ∧ ts0.length = i ∧ KL H' ts0 ds0 ∧ KV H' 6 cur dc ∧ fol d svs = (fol dc (svs.drop i)).map (ds0 ++ ·) ∧ Same H H')
        ⟨[], v, [], d, _, rfl, upd_same, rfl, .nil, kv.tm (.same g0), ?_, g0⟩ (fun i σ' H' _ ⟨_, _, _, _, _, _, _, _, _, _, _, g⟩ => .inl (.inl (g _ _ hsp))) ?_ ?_⟩
      · show fol d svs = (fol d svs).map _
        cases fol d svs <;> rfl
      · rintro i s' σ' H' hi ⟨ts0, cur, ds0, dc, st, rfl, hl', hlen, hts, kc, hf, g⟩
        have hi' : i < svs.length := (List.getElem?_eq_some_iff.mp hi).1
        have ed : svs.drop i = s' :: svs.drop (i + 1) := by
          rw [List.drop_eq_getElem_cons hi', (List.getElem?_eq_some_iff.mp hi).2]
        rw [ed] at hf
        have hs' := hp.st s' (mem_of_get hi)
        have hsl := hp.sl
        obtain ⟨p, os, rfl, hop, hod⟩ := opts_of kc (Nat.le_refl _) (hrec.tm (.same g))
        have ef : fol dc (s' :: svs.drop (i + 1)) = match hit s' (opD dc) with
          | none => none
          | some t => (fol t (svs.drop (i + 1))).map (dc :: ·) := rfl
        rcases hod.hit (sv := s') with ⟨hn, hn'⟩ | ⟨t, dt, ht, ht', kt⟩
        · rw [ef, hn'] at hf
          refine ⟨_, rfl, .inl ⟨rfl, _, SqL.of hl'⟩, ?_⟩
          refine ⟨_, rfl, _, rfl, _, rfl, l, _, _, _, rfl, rfl, SqL.of hl', atI_last, _, rfl, ra, us, _, _, s', rfl, g _ _ hp.ra, hop, hs', (fun t e => by rw [hn] at e; cases e), fun _ H2 g2 => q2 hf H2 (g.trans g2)⟩
        · rw [ef, ht'] at hf
          refine ⟨_, rfl, .inl ⟨rfl, _, SqL.of hl'⟩, ?_⟩
          refine ⟨_, rfl, _, rfl, _, rfl, l, _, _, _, rfl, rfl, SqL.of hl', atI_last, _, rfl, ra, us, _, _, s', rfl, g _ _ hp.ra, hop, hs', (fun t' e H2 g2 => ?_), fun e => by rw [ht] at e; cases e⟩
          have et := Option.some.inj (ht.symm.trans e)
          subst et
          have hl2 := g2 _ _ hl'
          have t2 := (TM.same g2).trans (TM.lst (o := .lst (ts0 ++ [.ref p] ++ [t])) hl2)
          refine ⟨l, _, _, rfl, rfl, hl2, line_of (by rw [List.length_append]; show ts0.length + 1 < _; omega), ?_⟩
          refine ⟨ts0 ++ [.ref p], t, ds0 ++ [dc], dt, _, rfl, upd_same, by rw [List.length_append, hlen]; rfl, (hts.snoc kc).tm t2, kt.tm t2, ?_, fun b o' e => ?_⟩
          · have hf2 : fol d svs = ((fol dt (svs.drop (i + 1))).map (dc :: ·)).map (ds0 ++ ·) := hf
            rw [hf2]
            cases fol dt (svs.drop (i + 1)) with
            | none => rfl
            | some z =>
              show some (ds0 ++ dc :: z) = some (ds0 ++ [dc] ++ z)
              rw [List.append_assoc]; rfl
          · rw [upd_ne (ne_of_none e hl)]
            exact g2 _ _ (g _ _ e)
      · rintro σ' H' ⟨ts0, cur, ds0, dc, st, rfl, hl', hlen, hts, kc, hf, g⟩
        rw [List.drop_eq_nil_of_le (Nat.le_refl _)] at hf
        exact ⟨_, rfl, q3 l ts0 cur ds0 dc H' hf g hl' hts kc hlen⟩
def spAt (CS CV : Addr) : Sp := fun vs H Q E => ∃ (pl ra kd : Addr) (x : Str) (svs us : List V) (tb : List (Str × V)), vs = [.ref pl, .ref ra, .ref kd] ∧ Plc H pl ra kd x svs us tb ∧ Rec H us ∧
  Way H (∀ H', Same H H' → E (.ref CV) none H') (∀ H', Same H H' → E (.ref CS) none H') x svs tb (fun d => ∀ t ds0 dc H', fol d svs = some (ds0 ++ [dc]) → Same H H' → KV H' 6 t dc → Q t H')
theorem ok_at (T : Txt5 K mg) : FnOk P w K mg base (L2.CX P w) 6 T.kind_at.f T.kind_at.fd ["place", "records", "kinds"] (spAt T.c_NoSuchStep.C T.c_NoSuchVariable.C) := by
  refine T.kind_at.F.okX sc_kind_at (fun vs H Q E h => ?_) (fun cdv A outer s H vs Q E hr h => ?_)
  · obtain ⟨pl, ra, kd, x, svs, us, tb, rfl, _⟩ := h
    rfl
  obtain ⟨pl, ra, kd, x, svs, us, tb, rfl, hp, hrec, W⟩ := h
  refine ⟨_, (pss_one (ps_ret (pe_ix ix_list (pe_call (ok_along T) (hr.mono (by omega)) rfl T.kinds_along.g T.kinds_along.F.kp T.kinds_along.b .nil (passes_call (takes_of rfl rfl rfl rfl) fun _ _ _ _ h => h) (pa_cons (pv 0) (pa_cons (pv 1) (pa_cons (pv 2) pa_nil)))) (pe_un un_neg pe_int) (fun _ _ => rfl)))), ?_⟩
  refine ⟨_, rfl, _, rfl, _, rfl, pl, ra, kd, x, svs, us, tb, rfl, hp, hrec, W.no, fun v hv => ?_⟩
  obtain ⟨d, kv, q2, q3⟩ := W.at_ v hv
  exact ⟨d, kv, q2, fun l ts0 cur ds0 dc H' hf g hl hts kc _ => ⟨_, rfl, l, _, _, cur, rfl, rfl, SqL.of hl, atI_last, q3 cur ds0 dc H' hf g kc⟩⟩
/-! ### the last borrow -/
def sD : V → PyData
  | .int i => .int i
  | .str x => .str x
  | _ => .none
theorem steps_dp {K : PySem.W.Frag} {H : Hp} : ∀ {svs : List V}, (∀ s ∈ svs, StepV s) → DpAll K H svs (svs.map sD)
  | [], _ => .nil
  | s :: r, h => by
    refine .cons ?_ (steps_dp fun x hx => h x (List.mem_cons_of_mem _ hx))
    rcases h s List.mem_cons_self with ⟨i, rfl, _⟩ | ⟨x, rfl, _⟩
    · exact .int i
    · exact .str x
def isBrk : PyData → Bool
  | .tuple (.str x :: _) => decide (x = "shared" ∨ x = "exclusive")
  | _ => false
def crs (svs : List V) (ds : List PyData) : Option Nat := (svs.zip ds).findIdx? fun p => decide (p.1 = .str "^") && isBrk p.2
def crD (x : Str) (svs : List V) (ds : List PyData) : PyData :=
  match crs svs ds with
  | none => .none
  | some i => .tuple [.str x, .tuple ((svs.take i).map sD)]
theorem KV.brk {H : Hp} {n : Nat} {v : V} {d : PyData} (k : KV H n v d) : ∃ p x us, v = .ref p ∧ H p = some (.tup (.str x :: us)) ∧ isBrk d = decide (x = "shared" ∨ x = "exclusive") := by
  cases k with
  | leaf h hx => exact ⟨_, _, _, rfl, h, rfl⟩
  | recd h hx => exact ⟨_, _, _, rfl, h, rfl⟩
  | one h hx k => exact ⟨_, _, _, rfl, h, rfl⟩
  | tup h hq hl h1 h6 k => exact ⟨_, _, _, rfl, h, rfl⟩
def spCrossed (CS CV : Addr) (K : PySem.W.Frag) : Sp := fun vs H Q E => ∃ (pl ra kd : Addr) (x : Str) (svs us : List V) (tb : List (Str × V)), vs = [.ref pl, .ref ra, .ref kd] ∧ Plc H pl ra kd x svs us tb ∧ Rec H us ∧
  Way H (∀ H', Same H H' → E (.ref CV) none H') (∀ H', Same H H' → E (.ref CS) none H') x svs tb (fun d => ∀ r ds H', fol d svs = some ds → Same H H' → Dp K H' r (crD x svs ds) → Q r H')
theorem crs_at {svs : List V} {ds : List PyData} {i : Nat} {s : V} {d : PyData} (hs : svs[i]? = some s) (hd : ds[i]? = some d) (hb : (decide (s = .str "^") && isBrk d) = true)
    (no : ∀ (j : Nat) s' d', j < i → svs[j]? = some s' → ds[j]? = some d' → (decide (s' = .str "^") && isBrk d') = false) : crs svs ds = some i := by
  unfold crs
  have hz : (svs.zip ds)[i]? = some (s, d) := by rw [List.getElem?_zip_eq_some]; exact ⟨hs, hd⟩
  rw [List.findIdx?_eq_some_iff_getElem]
  obtain ⟨hi, e⟩ := List.getElem?_eq_some_iff.mp hz
  refine ⟨hi, by rw [e]; exact hb, fun j hj => ?_⟩
  have hz2 : (svs.zip ds)[j]? = some ((svs.zip ds)[j]'(by omega)) := List.getElem?_eq_getElem _
  obtain ⟨e1, e2⟩ := List.getElem?_zip_eq_some.mp hz2
  rw [no j _ _ hj e1 e2]; simp
theorem crs_none {svs : List V} {ds : List PyData} (no : ∀ (j : Nat) s' d', svs[j]? = some s' → ds[j]? = some d' → (decide (s' = .str "^") && isBrk d') = false) : crs svs ds = none := by
  unfold crs
  rw [List.findIdx?_eq_none_iff]
  intro p hp
  obtain ⟨j, hj, e⟩ := List.mem_iff_getElem.mp hp
  have hz2 : (svs.zip ds)[j]? = some p := by rw [List.getElem?_eq_getElem hj, e]
  obtain ⟨e1, e2⟩ := List.getElem?_zip_eq_some.mp (show (svs.zip ds)[j]? = some (p.1, p.2) from hz2)
  rw [no j _ _ e1 e2]
theorem ok_crossed (T : Txt5 K mg) : FnOk P w K mg base (L2.CX P w) 6 T.crossed.f T.crossed.fd ["place", "records", "kinds"] (spCrossed T.c_NoSuchStep.C T.c_NoSuchVariable.C K) := by
  refine T.crossed.F.okX sc_crossed (fun vs H Q E h => ?_) (fun cdv A outer s H vs Q E hr h => ?_)
  · obtain ⟨pl, ra, kd, x, svs, us, tb, rfl, _⟩ := h
    rfl
  obtain ⟨pl, ra, kd, x, svs, us, tb, rfl, hp, hrec, W⟩ := h
  refine ⟨_, (pss_cons (ps_asg (pv 0) (pg_tup rfl (pgs_cons (pg_name (i := 3) sc_crossed.nd rfl (Or.inl rfl)) (pgs_cons (pg_name (i := 4) sc_crossed.nd rfl (Or.inl rfl)) pgs_nil))))
    (pss_cons (ps_set (i := 5) sc_crossed.nd rfl (Or.inl rfl) (pe_call (ok_along T) (hr.mono (by omega)) rfl T.kinds_along.g T.kinds_along.F.kp T.kinds_along.b .nil (passes_call (takes_of rfl rfl rfl rfl) fun _ _ _ _ h => h) (pa_cons (pv 0) (pa_cons (pv 1) (pa_cons (pv 2) pa_nil)))))
    (pss_cons (ps_for (passes_of rfl) rfl (pi_enumT (by rfl) T.z_enumerate (pa_cons (pv 4) pa_nil)) (pg_tup rfl (pgs_cons (pg_name (i := 6) sc_crossed.nd rfl (Or.inl rfl)) (pgs_cons (pg_name (i := 7) sc_crossed.nd rfl (Or.inl rfl)) pgs_nil))) (pss_one (ps_if (pt_mid (PW.pt (pw_and (pt_cmpR op_eq (pv 7) pe_str (nomark _)) (pw_and1 (pt_cmpR op_in_seq (pe_ix ix_tup (pe_ix ix_list (pv 5) (pv 6) (fun _ _ => rfl)) pe_int (fun _ _ => rfl)) (pe_glob (v := .ref T.a_BORROWS) rfl T.g_BORROWS rfl) (by rfl)))))) (pss_one (ps_ret (pe_tup (pa_cons (pv 3) (pa_cons (pe_mid (pe_slice sl_tupA (pv 4) po_none (po_some (pv 6)))) pa_nil))))) pss_nil)))
    (pss_one (ps_ret pe_non))))), ?_⟩
  obtain ⟨sp, hpl, hsp⟩ := hp.pl
  refine ⟨_, rfl, pl, _, rfl, .inl (.inl hpl), rfl, _, _, rfl, _, _, rfl, rfl, ?_⟩
  refine ⟨_, rfl, _, rfl, _, rfl, pl, ra, kd, x, svs, us, tb, rfl, hp, hrec, W.no, fun v hv => ?_⟩
  obtain ⟨d, kv, q2, q3⟩ := W.at_ v hv
  refine ⟨d, kv, q2, fun l ts0 cur ds0 dc H1 hf g1 hl hts kc hlen => ?_⟩
  have hsl := hp.sl
  refine ⟨_, rfl, sp, svs, rfl, .inl (.inl (g1 _ _ hsp)), for_enumT (K := K) (a := sp) (xs := svs)
    (fun i σ' H' => (∃ o1 o2, σ' = [some (.ref pl), some (.ref ra), some (.ref kd), some (.str x), some (.ref sp), some (.ref l), o1, o2]) ∧ Same H1 H' ∧ ∀ (j : Nat) s' d', j < i → svs[j]? = some s' → (ds0 ++ [dc])[j]? = some d' → (decide (s' = V.str "^") && isBrk d') = false)
    ⟨⟨_, _, rfl⟩, .refl _, fun j _ _ hj => absurd hj (Nat.not_lt_zero _)⟩ (fun i σ' H' _ ⟨_, g, _⟩ => g _ _ (g1 _ _ hsp)) ?_ ?_⟩
  · rintro i sv σ' H' T' hi ⟨⟨o1, o2, rfl⟩, g, no⟩ hT
    have hi' : i < svs.length := (List.getElem?_eq_some_iff.mp hi).1
    have gT := same_new hT (.tup [.int (i : Nat), sv])
    have g' := g.trans gT
    have hsv := hp.st sv (mem_of_get hi)
    have sc : scal sv (.str "^") = true := by rcases hsv with ⟨i, rfl, _⟩ | ⟨z, rfl, _⟩ <;> rfl
    obtain ⟨t, ht, ht'⟩ := atI_ex (l := ts0 ++ [cur]) (n := (i : Int)) (by omega) (by rw [List.length_append]; show _ < ((ts0.length + 1 : Nat) : Int); omega)
    obtain ⟨di, hdi, kt⟩ := ((hts.snoc kc).tm (.same g')).get ht
    have hdi' : (ds0 ++ [dc])[i]? = some di := hdi
    obtain ⟨pk, y, uk, rfl, hpk, hb⟩ := kt.brk
    refine ⟨T', _, rfl, .inl (.inl upd_same), rfl, _, _, rfl, _, _, rfl, rfl, ?_⟩
    refine ⟨fun b H' => Same H1 H' ∧ b = (decide (sv = V.str "^") && isBrk di), ?_, ?_⟩
    · refine ⟨_, rfl, sc, _, rfl, ite2 (fun c1 => ?_) (fun c1 => ?_)⟩
      · refine ⟨_, rfl, _, rfl, l, _, _, _, rfl, rfl, SqL.of (g' _ _ hl), ht', pk, _, 0, _, rfl, rfl, .inl (.inl hpk), atI_0, T.a_BORROWS, _, rfl, .inr (T.t_BORROWS _), rfl, rfl, _, rfl, ?_⟩
        refine ⟨g', ?_⟩
        · have e' : inV (.str y) ((["shared", "exclusive"] : List Str).map V.str) = decide (y = "shared" ∨ y = "exclusive") := by
            rw [inV_str]
            congr 1
            simp
          rw [decide_eq_true (of_decide_eq_true c1), hb, Bool.true_and]
          exact e'
      · refine ⟨g', ?_⟩
        · rw [Bool.eq_false_iff.mpr c1]; rfl
    · rintro b H2 ⟨g2, rfl⟩
      refine ite2 (fun c => ?_) (fun c => ⟨⟨_, _, rfl⟩, g2, fun j s' d' hj hs' hd' => ?_⟩)
      · refine ⟨_, rfl, fun v' H' => ∃ q', v' = .ref q' ∧ H' q' = some (.tup (svs.take i)) ∧ Same H1 H', ?_, ?_⟩
        · refine ⟨_, rfl, _, rfl, _, rfl, sp, svs, rfl, .inl (.inl (g2 _ _ (g1 _ _ hsp))), fun e => ⟨sp, rfl, ?_, g2⟩, fun _ r hr2 => ⟨r, rfl, ?_, g2.trans (same_new hr2 _)⟩⟩
          · have e2 := e.2
            rw [HT.sIx_nat] at e2
            have : svs.take i = svs := List.take_of_length_le (by omega)
            rw [this]; exact g2 _ _ (g1 _ _ hsp)
          · rw [upd_same, cut_take]
        · rintro v' H3 ⟨q', rfl, hq', g3⟩
          refine ⟨by show 2 ≤ sizeLine; decide, fun r hr2 => q3 _ _ _ hf (g1.trans (g3.trans (same_new hr2 _))) ?_⟩
          have ec : crD x svs (ds0 ++ [dc]) = .tuple [.str x, .tuple ((svs.take i).map sD)] := by
            unfold crD
            rw [crs_at hi hdi' c no]
          rw [ec]
          exact .tup (.inl (.inl upd_same)) (.cons (.str x) (.cons (.tup (.inl (.inl ((same_new hr2 _) _ _ hq'))) (steps_dp fun s hs => hp.st s (List.mem_of_mem_take hs))) .nil))
      · by_cases ej : j = i
        · subst ej
          rw [hi] at hs'
          rw [hdi'] at hd'
          cases hs'; cases hd'
          exact Bool.eq_false_iff.mpr c
        · exact no j s' d' (by omega) hs' hd'
  · rintro σ' H2 ⟨⟨o1, o2, rfl⟩, g2, no⟩
    refine q3 _ _ _ hf (g1.trans g2) ?_
    have ec : crD x svs (ds0 ++ [dc]) = .none := by
      unfold crD
      rw [crs_none fun j s' d' hs' hd' => no j s' d' (List.getElem?_eq_some_iff.mp hs').1 hs' hd']
    rw [ec]
    exact .non
end
end Kk
namespace Kk
open PySem PySem.Spec PyProof.Rows L2 L2H
abbrev s__law_caught : Stmt := topS 29
theorem sc__law_caught : FnScope ["problem"] ["problem"] (defScope s__law_caught) := ⟨rfl, rfl, rfl, by decide +kernel, rfl, by decide +kernel, by decide +kernel⟩
abbrev s__law_told : Stmt := topS 30
theorem sc__law_told : FnScope ["choice", "records", "kinds", "place", "kind", "step", "problem"] ["choice", "records", "kinds", "place", "kind", "step"] (defScope s__law_told) := ⟨rfl, rfl, rfl, by decide +kernel, rfl, by decide +kernel, by decide +kernel⟩
/-! ### several except clauses with names -/
abbrev Cls3 := Value × Nat × (Addr → Value → Option Addr → TS)
def endsOf (i : Nat) (D : Ends) : Ends := { nx := fun τ J => D.nx (τ.set i none) J, rt := D.rt, bk := fun τ J => D.bk (τ.set i none) J, ct := fun τ J => D.ct (τ.set i none) J }
/-- what the named clauses wish of an error of the body -/
def wNamed (K : PySem.W.Frag) (Wout : WX) (D : Ends) : List Cls3 → WX
  | [] => Wout
  | (c, i, ts) :: r => fun cls d σ H => ∃ b, PySem.W.exmOne K cls c = some b ∧ (b = true → ∀ a, H a = none → ts a cls d (endsOf i D) (σ.set i (some (.ref a))) H) ∧ (b = false → wNamed K Wout D r cls d σ H)
inductive HdsN (X : Cx) : List ExceptHandler → List Cls3 → Prop
  | nil : HdsN X [] []
  | cons {x n : Str} {c : Value} {i : Nat} {ts : Addr → Value → Option Addr → TS} {b₁ : Stmt} {rest : List Stmt} {p1 p2 : Pos} {hds : List ExceptHandler} {l : List Cls3} (hi : X.N[i]? = some n) (hln : X.env.kindOf n = some .local) (hc : Names X x c)
      (hsu : ∀ (a : Addr) (ob : Obj) (cls : Value) (d : Option Addr) (pn : List (Addr × Obj)), Zc cls d ob → (∃ vs, ob.data = .fields vs) → PSs (X.suite a ((a, ob) :: pn)) (b₁ :: rest) (ts a cls d)) (r : HdsN X hds l) :
      HdsN X (.ExceptHandler (some (.Name x p1)) (some n) (b₁ :: rest) p2 :: hds) ((c, i, ts) :: l)
section
variable {X : Cx} {body : List Stmt} {h₁ : ExceptHandler} {hds : List ExceptHandler} {l : List Cls3} {pos : Pos} {tb : WX → TS} {Wout : WX}
theorem ps_try_named (hs : X.stack = X.env :: X.outer) (hf : X.env.frame = some X.env.locals) (hN : X.N.Nodup) (tk : Takes X Wout)
    (hb : ∀ (W : WX) (pn : List (Addr × Obj)) (ye : Value → Shared → Prop), Takes (X.tr pn ye) W → PassesOwn (model X.prog X.w) X.A X.env ye → PSs (X.tr pn ye) body (tb W))
    (hh : HdsN X (h₁ :: hds) l) : PS X (.Try body (h₁ :: hds) [] [] pos) (fun D σ H => tb (wNamed X.K Wout D l) D σ H) := by
  refine ⟨fun pins s σ H D I h => ?_⟩
  have okX := I.ok
  have frX : X.A.frames = some (X.env :: X.outer) := by rw [okX.frames]; exact congrArg some hs
  refine wpAny_Try_except ?_
  refine wpAny_mono ((hb (wNamed X.K Wout D l) (X.pn ++ pins)
    (fun e t₁ => wpAny (model X.prog X.w) X.A (noteFrame e X.env) (fun _ t₂ => wpAny (model X.prog X.w) X.A (setFlight e none) (fun _ t₃ =>
      wpAny (model X.prog X.w) X.A (handleBy e X.env (h₁ :: hds)) (SP X pins D) X.xe t₃) X.xe t₂) X.xe t₁)
    (fun u s' hx => ?_) PassesOwn.looking).run [] s σ H D (I.toTry _) h) (fun f s1 hsp => ?_) (fun e s1 he => he)
  · obtain ⟨a, B, sI, pins', τ, G, cls, d, rfl, Jt, nb, up, sky, na, os, ag, wish⟩ := hx
    have J : Inv X pins τ G sI := Jt.ofTry okX
    have skyX : Sky B (X.env :: X.outer) a (Zc cls d) X.env.locals s'.heap := by rw [← hs]; exact sky
    show wpAny (model X.prog X.w) X.A (noteFrame (.ref a) X.env) _ _ _
    refine Sky.land Zc.steady frX hf skyX fun hp fl upp => ?_
    have Jp : Inv X pins τ G { s' with heap := hp } := J.landed nb fl.1 (up.trans upp) os ag
    obtain ⟨ob, fv, hob, hzb, hdb⟩ := fl.there
    have nofr : a ∉ frs (X.env :: X.outer) := fun hm => by
      obtain ⟨_, o', e', hnf⟩ := (fl.2.2.1).mem hm
      rw [hob] at e'; cases e'
      exact hnf _ hdb
    have nL : a ≠ X.env.locals := fun z => nofr (List.mem_filterMap.mpr ⟨X.env, List.mem_cons_self, by rw [hf]; exact congrArg some z.symm⟩)
    have nF : a ∉ X.fs := fun hm => by
      obtain ⟨e, he, q⟩ := List.mem_filterMap.mp hm
      exact nofr (List.mem_filterMap.mpr ⟨e, List.mem_cons_of_mem _ he, q⟩)
    have Sp := Jp.suite hob hdb na nL nF
    have walk : ∀ {hs' : List ExceptHandler} {l' : List Cls3}, HdsN X hs' l' → wNamed X.K Wout D l' cls d τ G → wpAny (model X.prog X.w) X.A (handleBy (.ref a) X.env hs') (SP X pins D) X.xe { s' with heap := hp } := by
      intro hs' l' hk
      induction hk with
      | nil =>
        intro wo
        refine wpAny_handleBy_nil ?_
        obtain ⟨_, _, _, oe, vs, T, oT, ts', he, hz, hd, h1, hr⟩ := id fl
        unfold PySem.passOn
        refine wpAny_bind (wpAny_field he hd h1 ?_)
        rw [if_neg (show ¬ ((Value.ref T == Value.none) = true) by simp)]
        have fin : wpAny (model X.prog X.w) X.A (setFlight (.ref a) X.env.frame) (fun _ t4 => wpAny (model X.prog X.w) X.A (throw (.ref a) : Sem Flow) (SP X pins D) X.xe t4) X.xe { s' with heap := hp } := by
          rw [hf]
          refine HandSPX.setFlight_upZ fl fun h4 hh4 up4 => wpAny_throw (tk _ _ ?_)
          exact ⟨a, B, sI, pins, τ, G, cls, d, rfl, J, nb, (up.trans upp).trans up4, .inr (.inr (by rw [hs]; exact hh4)), na, os, ag, wo⟩
        first | exact wpAny_bind (wpAny_pure (wpAny_bind fin)) | exact wpAny_bind fin
      | @cons x n c i ts b₁ rest p1 p2 hds2 l2 hi hln hc hsu r ih =>
        intro wo
        obtain ⟨b, hb1, hyes, hno⟩ := wo
        refine wpAny_handleBy_cons (codeAny_handlers_test ?_) (by intro q; cases q)
        have tyE : PySem.W.Looks (model X.prog X.w) hp (typeOf (.ref a)) cls := fun A Q E t k q => wpAny_typeOf_ref (k _ _ hob) (by rw [hzb.1]; exact q)
        have mtE := PySem.W.exm_one (M := model X.prog X.w) (Jp.kIn) tyE hb1
        have cls_of : ∀ {Q : Value → Shared → Prop} {E : Value → Shared → Prop}, Q c { s' with heap := hp } → wpAny (model X.prog X.w) (X.A.mark (some (.ref a))) (eval (.Name x p1) X.env) Q E { s' with heap := hp } := fun {Q E} q => by
          obtain ⟨hg, hdbg, hm | ⟨hm, hv, hnn⟩⟩ := hc
          · exact ld_glob (X := X.suite a ((a, ob) :: (X.pn ++ pins))) Sp hg hm q hdbg
          · exact ld_blt (X := X.suite a ((a, ob) :: (X.pn ++ pins))) Sp hg hm hv q hnn hdbg
        refine cls_of (mtE.here ?_)
        cases b with
        | false =>
          show wpAny _ X.A (handleBy (.ref a) X.env hds2) _ _ _
          exact ih (hno rfl)
        | true =>
          refine codeAny_handlers_suite_as ?_
          refine HandSPX.lands_againZ fl fun h4 fl4 up4 => ?_
          have Jq : Inv X pins τ G { s' with heap := h4 } := J.landed nb fl4.1 ((up.trans upp).trans up4) os ag
          obtain ⟨ob4, fv4, hob4, hz4, hd4⟩ := fl4.there
          have Sq := Jq.suite hob4 hd4 na nL nF
          refine store_ok (X := X.suite a ((a, ob4) :: (X.pn ++ pins))) (v := .ref a) Sq hN hi (.inl hln) rfl (fun s5 S5 => ?_) (.inr hln)
          refine wpAny_mono ((hsu a ob4 cls d (X.pn ++ pins) hz4 ⟨_, hd4⟩).run [] s5 _ G _ S5 (hyes rfl a na)) (fun f s6 hsp => ?_) (fun _ _ z => False.elim z)
          have goes : ∀ {σ6 : L2.St} {H6 : Hp} {Q : Shared → Prop}, Inv (X.suite a ((a, ob4) :: (X.pn ++ pins))) [] σ6 H6 s6 → (∀ s7, Inv X pins (σ6.set i none) H6 s7 → Q s7) →
              wpAny (model X.prog X.w) X.A (do bindName X.env n .none; unbindBehindTheSuite X.env n p2) (fun _ s7 => Q s7) X.xe s6 := fun {σ6 H6 Q} S6 hq => gone_ok (S6.unsuite okX) hN hi hln hq
          cases f with
          | next => exact hsp.elim fun σ6 hsp => hsp.elim fun H6 hsp => goes hsp.1 fun s7 J7 => ⟨_, _, J7, hsp.2⟩
          | brk => exact hsp.elim fun σ6 hsp => hsp.elim fun H6 hsp => goes hsp.1 fun s7 J7 => ⟨_, _, J7, hsp.2⟩
          | cont => exact hsp.elim fun σ6 hsp => hsp.elim fun H6 hsp => goes hsp.1 fun s7 J7 => ⟨_, _, J7, hsp.2⟩
          | ret u => exact hsp.elim fun v6 hsp => hsp.elim fun σ6 hsp => hsp.elim fun H6 hsp => goes hsp.1 fun s7 J7 => ⟨_, _, _, J7, hsp.2.1, hsp.2.2⟩
    exact walk hh wish
  · cases f with
    | next => exact hsp.elim fun τ hsp => hsp.elim fun G hsp => wpAny_execs_nil ⟨τ, G, hsp.1.ofTry okX, hsp.2⟩
    | brk => exact hsp.elim fun τ hsp => hsp.elim fun G hsp => ⟨τ, G, hsp.1.ofTry okX, hsp.2⟩
    | cont => exact hsp.elim fun τ hsp => hsp.elim fun G hsp => ⟨τ, G, hsp.1.ofTry okX, hsp.2⟩
    | ret u => exact hsp.elim fun v hsp => hsp.elim fun τ hsp => hsp.elim fun G hsp => ⟨v, τ, G, hsp.1.ofTry okX, hsp.2.1, hsp.2.2⟩
end
/-! ### a call with keywords, in a try -/
section
variable {X : Cx} {CX : CXT} {k : Nat} {f : Addr} {fd : FuncData} {ps ks : List Str} {sp : Sp} {x : Str} {p pos : Pos} {e : Expr} {es : List Expr} {kws : List Keyword} {t tk : TA} {g : List Value → List Value → List Value} {gV : List V → List V → List V} {E : L2.St → XK}
def tCallKS (sp : Sp) (gV : List V → List V → List V) (E : L2.St → XK) (t tk : TA) : TE := fun σ H Q => t σ H fun vs H1 => tk σ H1 fun zs H2 => sp (gV vs zs) H2 Q (E σ)
theorem pe_callKS (F : FnOk X.prog X.w X.K X.mg X.base CX k f fd ps sp) (hr : Room k X.A) (hg : Gl X x) (hm : X.mg x = some (.ref f)) (hk : PySem.W.keepIn X.K (.ref f) = true) (hb : KBinds X.K fd ps ks g gV) (hx : ∀ σ, PassesAt CX X σ (E σ))
    (ha : PA X (e :: es) t) (hkw : PK X kws tk) (all1 : (backToKw pos (keywordEach kws X.env)).all (·.1.isSome) = true := by rfl) (nms : (backToKw pos (keywordEach kws X.env)).filterMap (·.1) = ks := by rfl)
    (ndb : (x == ("__debug__" : Str)) = false := by decide) (st1 : starEach (e :: es) X.env = (false, eval e X.env) :: starEach es X.env := by rfl)
    (pl1 : ((backTo pos (starEach (e :: es) X.env)).any (·.1) || (backToKw pos (keywordEach kws X.env)).any (·.1.isNone)) = false := by rfl) :
    PE X (.Call (.Name x p) (e :: es) kws pos) (tCallKS sp gV E t tk) := by
  refine ⟨fun pins s σ H Q I h => wpAny_Call_Name_kw (ld_glob I hg hm ?_ ndb)⟩
  refine PySem.W.callWith_KW (h₀ := X.base) I.ok.mod.kin hk all1 (thn (ha.run pos pins s σ H _ I h) fun us s1 ⟨vs, H1, I1, r, q⟩ => ?_) pl1 st1
  refine thn (hkw.run pos pins s1 σ H1 _ I1 q) fun ws s2 ⟨zs, H2, I2, rz, q2⟩ => ⟨I2.kIn, ?_⟩
  have r2 := hb.rel r rz
  have hl : (g us ws).length = ps.length := r2.length.symm.trans (F.len _ _ _ _ q2)
  rw [nms]
  refine wpAny_call (codeAny_mono (F.run X.A X.stack s2 H2 ⟨us, ks.zip ws⟩ (g us ws) (gV vs zs) Q (E σ) hr I2.env0 (hb.to s2 us ws I2.kIn hl) r2 q2) fun rr s' hq => ?_)
  cases rr with
  | error ee => exact hx σ pins H2 s2 ee s' I2 hq
  | ok fl =>
    cases fl with
    | ret u => exact I2.after hq
    | _ => exact False.elim hq
end
section
variable {X : Cx}
theorem pss_or {st : List Stmt} {t t' : TS} (h : PSs X st t) (h' : PSs X st t') : PSs X st (fun D σ H => t D σ H ∨ t' D σ H) :=
  ⟨fun pins s σ H D I q => q.elim (h.run pins s σ H D I) (h'.run pins s σ H D I)⟩
end
structure Txt6 (K : PySem.W.Frag) (mg : Str → Option Value) extends Txt5 K mg where
  _law_caught : Df K mg "_law_caught" s__law_caught ["problem"]
  _law_told : Df K mg "_law_told" s__law_told ["choice", "records", "kinds", "place", "kind", "step"]
  c_ForkError : Cl K mg "ForkError"
  c_KindProblem : Cl K mg "KindProblem"
  c_NoSuchFunction : Cl K mg "NoSuchFunction"
  c_NotAllocated : Cl K mg "NotAllocated"
  c_Refused : Cl K mg "Refused"
  sf : PySem.W.exmOne K (.ref c_NoSuchStep.C) (.ref c_ForkError.C) = some true
  vf : PySem.W.exmOne K (.ref c_NoSuchVariable.C) (.ref c_ForkError.C) = some true
  i1 : PySem.W.kitOne K (.ref c_NoSuchStep.C) (.ref c_KindProblem.C) = some false
  i2 : PySem.W.kitOne K (.ref c_NoSuchStep.C) (.ref c_NoSuchFunction.C) = some false
  i3 : PySem.W.kitOne K (.ref c_NoSuchStep.C) (.ref c_NotAllocated.C) = some false
  i4 : PySem.W.kitOne K (.ref c_NoSuchStep.C) (.ref c_Refused.C) = some false
  i5 : PySem.W.kitOne K (.ref c_NoSuchStep.C) (.ref c_NoSuchStep.C) = some true
  i6 : PySem.W.kitOne K (.ref c_NoSuchStep.C) (.ref c_NoSuchVariable.C) = some false
  v1 : PySem.W.kitOne K (.ref c_NoSuchVariable.C) (.ref c_KindProblem.C) = some false
  v2 : PySem.W.kitOne K (.ref c_NoSuchVariable.C) (.ref c_NoSuchFunction.C) = some false
  v3 : PySem.W.kitOne K (.ref c_NoSuchVariable.C) (.ref c_NotAllocated.C) = some false
  v4 : PySem.W.kitOne K (.ref c_NoSuchVariable.C) (.ref c_Refused.C) = some false
  v5 : PySem.W.kitOne K (.ref c_NoSuchVariable.C) (.ref c_NoSuchStep.C) = some false
  v6 : PySem.W.kitOne K (.ref c_NoSuchVariable.C) (.ref c_NoSuchVariable.C) = some true
/-! ### a def that is handed the error which is handled -/
theorem call_isP {Y : Cx} {a D : Addr} {oe : Obj} (C : ExcC Y.K D) (hp : (a, oe) ∈ Y.pn) (hz : Zc (.ref D) none oe) (hf : ∃ vs, oe.data = .fields vs) : CallR Y (.builtin "isinstance") (rIsE Y.K D a) := by
  intro pins s σ H xs us Q I r h
  obtain ⟨c, cv, b, rfl, hcv, e, q⟩ := h
  obtain ⟨u1, u2, rfl, r1, r2⟩ := vals2 r
  cases (show u1 = Value.ref a from r1)
  have ec := hcv _ r2
  subst ec
  obtain ⟨hget, _⟩ := I.pin (a, oe) (List.mem_append.mpr (.inl hp))
  obtain ⟨vs, hv⟩ := hf
  have J : PySem.W.InstAt s.heap a oe D none := by
    obtain ⟨oc, od, oda, osl⟩ := oe
    obtain ⟨h1, h2⟩ := hz
    dsimp only at h1 h2 hv
    subst h1 h2 hv
    exact ⟨hget, rfl, rfl, trivial⟩
  exact PySem.W.kia_one (PySem.W.handS_kitx_exc C.hg C.hk C.hs C.hd C.ha C.hn C.ht C.hm) I.kIn J e (fun z => nomatch z) fun tk => ⟨.bl b, H, I.kept (t' := tk) fun _ _ z => z, rfl, q⟩
structure FnE (P : Program) (w : World) (K : PySem.W.Frag) (mg : Str → Option Value) (base : Heap) (k : Nat) (f : Addr) (fd : FuncData) (C : Addr) (ans : V) : Prop where
  run : ∀ (A : Around) (outer : List Env) (s : Shared) (H : Hp) (args : Args) (Q : VK) (p : Addr × Obj), RoomH k A → PinOk outer H s p → Zc (.ref C) none p.2 → (∃ vs, p.2.data = .fields vs) → Env0 P w K mg base A outer s H → BindsTo s fd args [("problem", .ref p.1)] → Q ans H →
    codeAny (model P w) A (.call (.ref f) args) (CR CX0 outer P w H s Q (fun _ _ _ => False)) s
theorem fnE_of {P : Program} {w : World} {K : PySem.W.Frag} {mg : Str → Option Value} {base : Heap} {x qual : Str} {st : Stmt} {f : Addr} {fd : FuncData} {C : Addr} {ans : V} (F : Fun K x qual st f fd) (S : FnScope ["problem"] ["problem"] (defScope st))
    (hbody : ∀ (cdv : Value) (A : Around) (outer : List Env) (s : Shared) (H : Hp) (Q : VK) (p : Addr × Obj), Zc (.ref C) none p.2 → (∃ vs, p.2.data = .fields vs) → Q ans H →
      ∃ t, PSs (cxH CX0 P w K mg base ["problem"] qual (defScope st) f cdv A outer s H (fun _ _ _ => False) p) (defBody st) t ∧ t { nx := fun _ H' => Q .non H', rt := Q } [some (.ref p.1)] H) : FnE P w K mg base 1 f fd C ans := by
  obtain ⟨oc, od, kV, doc, pm, an, cdv, ct, osl, rfl, lk, hcd⟩ := F.ex
  refine ⟨fun A outer s H args Q p hr hpin hz hf e0 hb q => ?_⟩
  have KX : K.In s.heap := e0.mod.kin.keeps fun b o e => (e0.bs b o e).1
  have lim : s.heap.NoLimit := e0.mod.nolimit.keeps fun b o e => (e0.bs b o e).1
  have zz : ([("problem", Value.ref p.1)] : List (Str × Value)) = (["problem"] : List Str).zip [Value.ref p.1] := rfl
  have hkind : ∀ y ∈ (["problem"] : List Str).zip [Value.ref p.1], (defScope st).names.lookup y.1 = some .local ∨ ((defScope st).names.lookup y.1 = some .cell ∧ ((cellsFrom (s.heap.objs.size + 1) (defScope st).names []).lookup y.1).isSome = true) := fun ⟨n, v⟩ hy => by
    rcases S.par n (List.of_mem_zip hy).1 with q | q
    · exact .inl q
    · exact .inr ⟨q, PySem.W.cellsFrom_some _ _ _ (.inl q)⟩
  refine codeAny_call_function hr.depth (KX _ _ lk) rfl S.co S.gen rfl (PySem.W.codeRec_of KX hcd) (hb _ _ _ _ ?_)
  refine wpAny_newFunctionEnv_cells S.kind hkind fun env he s1 x => ?_
  subst he
  refine ⟨lim.keeps x.toInCall.keep, codeAny_func ?_⟩
  obtain ⟨t, ht, hq⟩ := hbody cdv A outer s H Q p hz hf q
  have I := inv_startH (CX := CX0) (E := fun _ _ _ => False) (vs := [V.ref p.1]) (us := [Value.ref p.1]) S hpin e0 rfl (.cons rfl .nil) x
  refine wpAny_mono (ht.run [] s1 _ H _ I hq) (fun fl s' hs => ?_) fun e s' hs => hs
  cases fl with
  | ret u =>
    obtain ⟨v, σ', H', J, rv, q⟩ := hs
    exact ⟨v, H', J.os, J.bare, J.base, J.hok, rv, q⟩
  | next =>
    obtain ⟨σ', H', J, q⟩ := hs
    exact ⟨V.non, H', J.os, J.bare, J.base, J.hok, rfl, q⟩
  | brk =>
    obtain ⟨_, _, _, q⟩ := hs
    exact False.elim q
  | cont =>
    obtain ⟨_, _, _, q⟩ := hs
    exact False.elim q
theorem pe_callE {Y : Cx} {k : Nat} {f C a : Addr} {fd : FuncData} {oe : Obj} {ans : V} {x : Str} {q pos : Pos} {e : Expr} {t : TA} (F : FnE Y.prog Y.w Y.K Y.mg Y.base k f fd C ans) (hr : RoomH k Y.A) (hp : (a, oe) ∈ Y.pn) (hz : Zc (.ref C) none oe) (hf : ∃ vs, oe.data = .fields vs)
    (hg : Gl Y x) (hm : Y.mg x = some (.ref f)) (hk : PySem.W.keepIn Y.K (.ref f) = true) (hb : Binds Y.K fd ["problem"] []) (ha : PA Y [e] t)
    (hdb : (x == ("__debug__" : Str)) = false := by decide) (hst : starEach [e] Y.env = (false, eval e Y.env) :: starEach [] Y.env := by rfl) (hpl : (backTo pos (starEach [] Y.env)).any (·.1) = false := by rfl) :
    PE Y (.Call (.Name x q) [e] [] pos) (fun σ H Q => t σ H fun vs H1 => vs = [.ref a] ∧ Q ans H1) := by
  refine ⟨fun pins s σ H Q I h => ?_⟩
  refine wpAny_Call_Name_kw (ld_glob I hg hm ?_ hdb)
  refine PySem.W.callWith_K (h₀ := Y.base) I.ok.mod.kin hk (thn (ha.run pos pins s σ H _ I h) fun us s1 ⟨vs, H1, I1, r, ev, q⟩ => ⟨I1.kIn, ?_⟩) hst hpl
  subst ev
  cases r with
  | cons r1 rr =>
    cases rr
    cases r1
    have b := hb s1 [.ref a] I1.kIn rfl
    rw [List.append_nil] at b
    have P1 := I1.pin (a, oe) (List.mem_append_left _ hp)
    have hpin : PinOk Y.stack H1 s1 (a, oe) := ⟨P1.1, P1.2.1, fun hm => (List.mem_cons.mp (I1.stkSub a hm)).elim P1.2.2.1 P1.2.2.2.1, P1.2.2.2.2⟩
    refine wpAny_call (codeAny_mono (F.run Y.A Y.stack s1 H1 ⟨[.ref a], []⟩ Q (a, oe) hr hpin hz hf I1.env0 b q) fun rr s' hq => ?_)
    cases rr with
    | error ee => exact False.elim hq
    | ok fl =>
      cases fl with
      | ret u => exact I1.after hq
      | _ => exact False.elim hq
section
variable {P : Program} {w : World} {K : PySem.W.Frag} {mg : Str → Option Value} {base : Heap}
theorem caught_NoSuchStep (T : Txt6 K mg) : FnE P w K mg base 1 T._law_caught.f T._law_caught.fd T.c_NoSuchStep.C (.str "step") := by
  refine fnE_of T._law_caught.F sc__law_caught fun cdv A outer s H Q p hz hf q => ?_
  have hp : (p.1, p.2) ∈ (cxH CX0 P w K mg base ["problem"] "_law_caught" (defScope s__law_caught) T._law_caught.f cdv A outer s H (fun _ _ _ => False) p).pn := List.mem_cons_self
  refine ⟨_, (pss_cons (ps_if (pt_mid (PW.pt (pw_or (pt_val (pe_callB (call_isP T.c_NoSuchStep.e hp hz hf) rfl T.z_isinstance PyProof.Rows.boot_isinstance (pa_cons (pv 0) (pa_cons (pe_glob (v := .ref T.c_KindProblem.C) rfl T.c_KindProblem.g rfl) pa_nil)))) (pw_or1 (pt_val (pe_callB (call_isP T.c_NoSuchStep.e hp hz hf) rfl T.z_isinstance PyProof.Rows.boot_isinstance (pa_cons (pv 0) (pa_cons (pe_glob (v := .ref T.c_NoSuchFunction.C) rfl T.c_NoSuchFunction.g rfl) pa_nil)))))))) (pss_one (ps_ret pe_str)) pss_nil)
    (pss_cons (ps_if (pt_mid (PW.pt (pw_or (pt_val (pe_callB (call_isP T.c_NoSuchStep.e hp hz hf) rfl T.z_isinstance PyProof.Rows.boot_isinstance (pa_cons (pv 0) (pa_cons (pe_glob (v := .ref T.c_NotAllocated.C) rfl T.c_NotAllocated.g rfl) pa_nil)))) (pw_or1 (pt_val (pe_callB (call_isP T.c_NoSuchStep.e hp hz hf) rfl T.z_isinstance PyProof.Rows.boot_isinstance (pa_cons (pv 0) (pa_cons (pe_glob (v := .ref T.c_Refused.C) rfl T.c_Refused.g rfl) pa_nil)))))))) (pss_one (ps_ret pe_str)) pss_nil)
    (pss_cons (ps_if (pt_val (pe_callB (call_isP T.c_NoSuchStep.e hp hz hf) rfl T.z_isinstance PyProof.Rows.boot_isinstance (pa_cons (pv 0) (pa_cons (pe_glob (v := .ref T.c_NoSuchStep.C) rfl T.c_NoSuchStep.g rfl) pa_nil)))) (pss_one (ps_ret (pe_ifExp (pt_val (pe_callB (call_isP T.c_NoSuchStep.e hp hz hf) rfl T.z_isinstance PyProof.Rows.boot_isinstance (pa_cons (pv 0) (pa_cons (pe_glob (v := .ref T.c_NoSuchVariable.C) rfl T.c_NoSuchVariable.g rfl) pa_nil)))) pe_str pe_str))) pss_nil)
    (pss_one (ps_ret (pe_ifExp (pt_val (pe_callB (call_isP T.c_NoSuchStep.e hp hz hf) rfl T.z_isinstance PyProof.Rows.boot_isinstance (pa_cons (pv 0) (pa_cons (pe_glob (v := .ref T.c_NoSuchVariable.C) rfl T.c_NoSuchVariable.g rfl) pa_nil)))) pe_str pe_str)))))), ?_⟩
  refine ⟨fun b H' => b = false ∧ H' = H, ⟨_, rfl, _, _, false, rfl, fun u r => r, T.i1, _, rfl, iteF ⟨_, rfl, _, _, false, rfl, fun u r => r, T.i2, _, rfl, rfl, rfl⟩⟩, ?_⟩
  rintro b H1 ⟨rfl, rfl⟩
  refine iteF ⟨fun b H' => b = false ∧ H' = H1, ⟨_, rfl, _, _, false, rfl, fun u r => r, T.i3, _, rfl, iteF ⟨_, rfl, _, _, false, rfl, fun u r => r, T.i4, _, rfl, rfl, rfl⟩⟩, ?_⟩
  rintro b H2 ⟨rfl, rfl⟩
  refine iteF ⟨_, rfl, _, _, true, rfl, fun u r => r, T.i5, _, rfl, iteT ⟨_, rfl, _, _, false, rfl, fun u r => r, T.i6, _, rfl, iteF q⟩⟩
theorem caught_NoSuchVariable (T : Txt6 K mg) : FnE P w K mg base 1 T._law_caught.f T._law_caught.fd T.c_NoSuchVariable.C (.str "variable") := by
  refine fnE_of T._law_caught.F sc__law_caught fun cdv A outer s H Q p hz hf q => ?_
  have hp : (p.1, p.2) ∈ (cxH CX0 P w K mg base ["problem"] "_law_caught" (defScope s__law_caught) T._law_caught.f cdv A outer s H (fun _ _ _ => False) p).pn := List.mem_cons_self
  refine ⟨_, (pss_cons (ps_if (pt_mid (PW.pt (pw_or (pt_val (pe_callB (call_isP T.c_NoSuchVariable.e hp hz hf) rfl T.z_isinstance PyProof.Rows.boot_isinstance (pa_cons (pv 0) (pa_cons (pe_glob (v := .ref T.c_KindProblem.C) rfl T.c_KindProblem.g rfl) pa_nil)))) (pw_or1 (pt_val (pe_callB (call_isP T.c_NoSuchVariable.e hp hz hf) rfl T.z_isinstance PyProof.Rows.boot_isinstance (pa_cons (pv 0) (pa_cons (pe_glob (v := .ref T.c_NoSuchFunction.C) rfl T.c_NoSuchFunction.g rfl) pa_nil)))))))) (pss_one (ps_ret pe_str)) pss_nil)
    (pss_cons (ps_if (pt_mid (PW.pt (pw_or (pt_val (pe_callB (call_isP T.c_NoSuchVariable.e hp hz hf) rfl T.z_isinstance PyProof.Rows.boot_isinstance (pa_cons (pv 0) (pa_cons (pe_glob (v := .ref T.c_NotAllocated.C) rfl T.c_NotAllocated.g rfl) pa_nil)))) (pw_or1 (pt_val (pe_callB (call_isP T.c_NoSuchVariable.e hp hz hf) rfl T.z_isinstance PyProof.Rows.boot_isinstance (pa_cons (pv 0) (pa_cons (pe_glob (v := .ref T.c_Refused.C) rfl T.c_Refused.g rfl) pa_nil)))))))) (pss_one (ps_ret pe_str)) pss_nil)
    (pss_cons (ps_if (pt_val (pe_callB (call_isP T.c_NoSuchVariable.e hp hz hf) rfl T.z_isinstance PyProof.Rows.boot_isinstance (pa_cons (pv 0) (pa_cons (pe_glob (v := .ref T.c_NoSuchStep.C) rfl T.c_NoSuchStep.g rfl) pa_nil)))) (pss_one (ps_ret (pe_ifExp (pt_val (pe_callB (call_isP T.c_NoSuchVariable.e hp hz hf) rfl T.z_isinstance PyProof.Rows.boot_isinstance (pa_cons (pv 0) (pa_cons (pe_glob (v := .ref T.c_NoSuchVariable.C) rfl T.c_NoSuchVariable.g rfl) pa_nil)))) pe_str pe_str))) pss_nil)
    (pss_one (ps_ret (pe_ifExp (pt_val (pe_callB (call_isP T.c_NoSuchVariable.e hp hz hf) rfl T.z_isinstance PyProof.Rows.boot_isinstance (pa_cons (pv 0) (pa_cons (pe_glob (v := .ref T.c_NoSuchVariable.C) rfl T.c_NoSuchVariable.g rfl) pa_nil)))) pe_str pe_str)))))), ?_⟩
  refine ⟨fun b H' => b = false ∧ H' = H, ⟨_, rfl, _, _, false, rfl, fun u r => r, T.v1, _, rfl, iteF ⟨_, rfl, _, _, false, rfl, fun u r => r, T.v2, _, rfl, rfl, rfl⟩⟩, ?_⟩
  rintro b H1 ⟨rfl, rfl⟩
  refine iteF ⟨fun b H' => b = false ∧ H' = H1, ⟨_, rfl, _, _, false, rfl, fun u r => r, T.v3, _, rfl, iteF ⟨_, rfl, _, _, false, rfl, fun u r => r, T.v4, _, rfl, rfl, rfl⟩⟩, ?_⟩
  rintro b H2 ⟨rfl, rfl⟩
  refine iteF ⟨_, rfl, _, _, false, rfl, fun u r => r, T.v5, _, rfl, iteF ⟨_, rfl, _, _, true, rfl, fun u r => r, T.v6, _, rfl, iteT q⟩⟩
def ansOf (ch : Int) (x : Str) (d : PyData) (svs : List V) : PyData :=
  match fol d svs with
  | none => .str "step"
  | some ds => if ch = 1 then ds.getLastD .none else crD x svs ds
def spTold (K : PySem.W.Frag) : Sp := fun vs H Q _ => ∃ (ch : Int) (ra kd : Addr) (us : List V) (tb : List (Str × V)) (pv kv sv : V), vs = [.int ch, .ref ra, .ref kd, pv, kv, sv] ∧ H ra = some (.tup us) ∧ Rec H us ∧ H kd = some (.dK (keysOf tb)) ∧
  ((ch = 0 ∧ ∃ d, KV H 6 kv d ∧ StepV sv ∧ ∀ r H', Same H H' → Dp K H' r ((hit sv (opD d)).getD (.str "step")) → Q r H') ∨
   ((ch = 1 ∨ ch = 2) ∧ ∃ pl x svs, pv = .ref pl ∧ Plc H pl ra kd x svs us tb ∧ (x ∉ tb.map (·.1) → ∀ H', Same H H' → Q (.str "variable") H') ∧
      ∀ v, valV (keysOf tb) (.inr x) = some v → ∃ d, KV H 6 v d ∧ ∀ r H', Same H H' → Dp K H' r (ansOf ch x d svs) → Q r H'))
theorem ok_told (T : Txt6 K mg) : FnOk P w K mg base CX0 8 T._law_told.f T._law_told.fd ["choice", "records", "kinds", "place", "kind", "step"] (spTold K) := by
  refine T._law_told.F.ok sc__law_told (fun vs H Q E h => ?_) (fun cdv A outer s H vs Q E hr h => ?_)
  · obtain ⟨ch, ra, kd, us, tb, pv, kv, sv, rfl, _⟩ := h
    rfl
  obtain ⟨ch, ra, kd, us, tb, pvv, kv, sv, rfl, hra, hrec, hkd, cs⟩ := h
  refine ⟨_, (pss_one (ps_try_named (tb := fun W => tSeq (tIfS (tTest (tOp rEq (tVar 0) (tC (.int 0)))) (tRet (tCallS (spAfter K T.c_NoSuchStep.C) (WE W) (tCons (tVar 1) (tCons (tVar 4) (tCons (tVar 5) tNil))))) tNext) (tSeq (tIfS (tTest (tOp rEq (tVar 0) (tC (.int 1)))) (tRet (tCallKS (spAt T.c_NoSuchStep.C T.c_NoSuchVariable.C) g3 (WE W) (tCons (tVar 3) tNil) (tCons (tVar 1) (tCons (tVar 2) tNil)))) tNext) (tRet (tCallKS (spCrossed T.c_NoSuchStep.C T.c_NoSuchVariable.C K) g3 (WE W) (tCons (tVar 3) tNil) (tCons (tVar 1) (tCons (tVar 2) tNil)))))) (Wout := fun _ _ _ _ => False) rfl rfl sc__law_told.nd takes0 (fun W pn xe tk _ => (pss_cons (ps_if (pt_cmpR op_eq (pv 0) pe_int (nomark _)) (pss_one (ps_ret (by exact (pe_callS (ok_after T.toTxt5) (hr.mono (by omega)) rfl T.kind_after.g T.kind_after.F.kp T.kind_after.b (fun σ => passAt tk σ) (by exact (pa_cons (pv 1) (pa_cons (pv 4) (pa_cons (pv 5) pa_nil)))))))) pss_nil) (pss_cons (ps_if (pt_cmpR op_eq (pv 0) pe_int (nomark _)) (pss_one (ps_ret (by exact (pe_callKS (ok_at T.toTxt5) (hr.mono (by omega)) rfl T.kind_at.g T.kind_at.F.kp T.kind_at.b (fun σ => passAt tk σ) (pa_cons (pv 3) pa_nil) (pk_cons (pv 1) (pk_cons (pv 2) pk_nil)))))) pss_nil) (pss_one (ps_ret (by exact (pe_callKS (ok_crossed T.toTxt5) (hr.mono (by omega)) rfl T.crossed.g T.crossed.F.kp T.crossed.b (fun σ => passAt tk σ) (pa_cons (pv 3) pa_nil) (pk_cons (pv 1) (pk_cons (pv 2) pk_nil)))))))))
      (.cons (i := 6) rfl rfl ⟨rfl, by decide, Or.inl T.c_ForkError.g⟩ (fun a oe cls d pn hz hf => pss_or (pss_given (p := cls = .ref T.c_NoSuchStep.C ∧ d = none) fun hp => (pss_one (ps_ret (by exact (pe_callE (caught_NoSuchStep T) ⟨(hr.mono (j := 1) (by omega)).dp, (hr.mono (j := 1) (by omega)).un⟩ List.mem_cons_self (hp.1 ▸ hp.2 ▸ hz : Zc (.ref T.c_NoSuchStep.C) none oe) hf rfl T._law_caught.g T._law_caught.F.kp T._law_caught.b (pa_cons (pv 6) pa_nil)))))) (pss_given (p := cls = .ref T.c_NoSuchVariable.C ∧ d = none) fun hp => (pss_one (ps_ret (by exact (pe_callE (caught_NoSuchVariable T) ⟨(hr.mono (j := 1) (by omega)).dp, (hr.mono (j := 1) (by omega)).un⟩ List.mem_cons_self (hp.1 ▸ hp.2 ▸ hz : Zc (.ref T.c_NoSuchVariable.C) none oe) hf rfl T._law_caught.g T._law_caught.F.kp T._law_caught.b (pa_cons (pv 6) pa_nil)))))))
      .nil))), ?_⟩
  rcases cs with ⟨rfl, d, kvd, hsv, q⟩ | ⟨hch, pl, x, svs, rfl, hp, qn, qs⟩
  · obtain ⟨p, os, rfl, ho, hod⟩ := opts_of kvd (Nat.le_refl _) hrec
    refine ⟨_, rfl, rfl, _, rfl, iteT ?_⟩
    refine ⟨_, rfl, _, rfl, _, rfl, ra, us, p, os, sv, rfl, hra, ho, hsv, fun t e H1 g1 => ?_, fun e H1 g1 => ?_⟩
    · rcases hod.hit (sv := sv) with ⟨hn, _⟩ | ⟨t', dt, h1, h2, kt⟩
      · rw [hn] at e; cases e
      · rw [h1] at e
        have et := Option.some.inj e
        subst et
        rw [h2] at q
        exact q _ H1 g1 (kt.tm (.same g1)).dp
    · rcases hod.hit (sv := sv) with ⟨_, hn⟩ | ⟨t', dt, h1, h2, kt⟩
      · rw [hn] at q
        exact ⟨true, T.sf, fun _ a ha => .inl ⟨⟨rfl, rfl⟩, _, rfl, rfl, q _ H1 g1 (.str _)⟩, fun z => Bool.noConfusion z⟩
      · rw [h1] at e; cases e
  · have n0 : ¬ V.int ch = V.int 0 := fun e => by
      have := V.int.inj e
      omega
    refine ⟨_, rfl, rfl, _, rfl, ite2 (fun c => absurd (of_decide_eq_true c) n0) (fun _ => ?_)⟩
    refine ⟨_, rfl, rfl, _, rfl, ite2 (fun c => ?_) (fun c => ?_)⟩
    · have e1 : ch = 1 := V.int.inj (of_decide_eq_true c)
      subst e1
      refine ⟨_, rfl, _, rfl, _, rfl, pl, ra, kd, x, svs, us, tb, rfl, hp, hrec, fun h H1 g1 => ⟨true, T.vf, fun _ a ha => .inr ⟨⟨rfl, rfl⟩, _, rfl, rfl, qn h H1 g1⟩, fun z => Bool.noConfusion z⟩, fun v hv => ?_⟩
      obtain ⟨d, kd', q⟩ := qs v hv
      refine ⟨d, kd', fun e H1 g1 => ⟨true, T.sf, fun _ a ha => .inl ⟨⟨rfl, rfl⟩, _, rfl, rfl, q _ H1 g1 ?_⟩, fun z => Bool.noConfusion z⟩, fun t ds0 dc H1 hf g1 kt => q _ H1 g1 ?_⟩
      · unfold ansOf; rw [e]; exact .str _
      · unfold ansOf; rw [hf]
        show Dp K H1 t (if (1 : Int) = 1 then (ds0 ++ [dc]).getLastD .none else _)
        rw [if_pos rfl, List.getLastD_concat]
        exact kt.dp
    · have e2 : ch = 2 := by
        rcases hch with e | e
        · exact absurd (decide_eq_true (by rw [e])) c
        · exact e
      subst e2
      refine ⟨_, rfl, _, rfl, _, rfl, pl, ra, kd, x, svs, us, tb, rfl, hp, hrec, fun h H1 g1 => ⟨true, T.vf, fun _ a ha => .inr ⟨⟨rfl, rfl⟩, _, rfl, rfl, qn h H1 g1⟩, fun z => Bool.noConfusion z⟩, fun v hv => ?_⟩
      obtain ⟨d, kd', q⟩ := qs v hv
      refine ⟨d, kd', fun e H1 g1 => ⟨true, T.sf, fun _ a ha => .inl ⟨⟨rfl, rfl⟩, _, rfl, rfl, q _ H1 g1 ?_⟩, fun z => Bool.noConfusion z⟩, fun r ds H1 hf g1 hd => q _ H1 g1 ?_⟩
      · unfold ansOf; rw [e]; exact .str _
      · unfold ansOf; rw [hf]
        show Dp K H1 r (if (2 : Int) = 1 then _ else crD x svs ds)
        rw [if_neg (by decide)]
        exact hd
end
end Kk
namespace Kk
open PySem L2
abbrev s_is_prefix : Stmt := topS 14
theorem sc_is_prefix : FnScope ["first", "second", "variable", "steps", "other", "more_steps"] ["first", "second"] (defScope s_is_prefix) := ⟨rfl, rfl, rfl, by decide +kernel, rfl, by decide +kernel, by decide +kernel⟩
abbrev s_overlap : Stmt := topS 15
theorem sc_overlap : FnScope ["first", "second"] ["first", "second"] (defScope s_overlap) := ⟨rfl, rfl, rfl, by decide +kernel, rfl, by decide +kernel, by decide +kernel⟩
abbrev s__law_is : Stmt := topS 31
theorem sc__law_is : FnScope ["answer", "due"] ["answer", "due"] (defScope s__law_is) := ⟨rfl, rfl, rfl, by decide +kernel, rfl, by decide +kernel, by decide +kernel⟩
abbrev s__law_unknown : Stmt := topS 32
theorem sc__law_unknown : FnScope ["records", "kinds", "steps", "strange", "choice"] ["records", "kinds", "steps"] (defScope s__law_unknown) := ⟨rfl, rfl, rfl, by decide +kernel, rfl, by decide +kernel, by decide +kernel⟩
abbrev s_law : Stmt := topS 33
theorem sc_law : FnScope ["script", "tape", "records", "kind", "kinds", "steps", "cross", "here", "k", "step", "due", "place", "other", "first", "second"] ["script"] (defScope s_law) := ⟨rfl, rfl, rfl, by decide +kernel, rfl, by decide +kernel, by decide +kernel⟩
structure Txt7 (K : PySem.W.Frag) (mg : Str → Option Value) extends Txt6 K mg where
  is_prefix : Df K mg "is_prefix" s_is_prefix ["first", "second"]
  overlap : Df K mg "overlap" s_overlap ["first", "second"]
  _law_is : Df K mg "_law_is" s__law_is ["answer", "due"]
  _law_unknown : Df K mg "_law_unknown" s__law_unknown ["records", "kinds", "steps"]
  law : Df K mg "law" s_law ["script"]
/-! ### == of two dicts whose values are data -/
section
variable {X : Cx}
def EqD (K : PySem.W.Frag) (H : Hp) (x y : V) : Prop := ∃ d, Dp K H x d ∧ Dp K H y d ∧ d.canLay0 = true ∧ d.depth ≤ 30
theorem op_eqDD (hu : X.A.units + 64 < cLine) : OpR X (compareOp .Eq) (fun x y H Q => EqR X.K H (EqD X.K H) x y ∧ Q (.bl true) H) := by
  intro pins s σ H x y v u Q I rx ry h
  obtain ⟨h, q⟩ := h
  refine eqR_run I (A := X.A) (by omega) (fun x y v u hf rx ry E Q q => ?_) h rx ry _ _ ⟨.bl true, H, I, rfl, q⟩
  obtain ⟨d, hx, hy, hl, hd⟩ := hf
  obtain ⟨as, ra⟩ := Dp.reads I d x v hx rx
  obtain ⟨bs, rb⟩ := Dp.reads I d y u hy ry
  have hin : X.A.in1.units = X.A.units + 1 := rfl
  refine PySem.SeqAt.eqBoolOverData X.prog X.w X.A.in1 E s v u d d as bs Q ra rb hl hl (by rw [hin]; have := Nat.min_le_left d.depth d.depth; omega) ?_
  rw [PySem.SeqAt.eqv_refl d hl]; exact q
end
theorem gd_ok {n : Nat} {x : Str} (g : Gd n x) : PyData.strOk x = true := by
  unfold PyData.strOk
  rw [← Array.all_toList]
  exact List.all_eq_true.mpr fun c hc => decide_eq_true (g.2 c hc)
theorem lay_steps {svs : List V} (h : ∀ s ∈ svs, StepV s) : (PyData.tuple (svs.map sD)).canLay0 = true ∧ (PyData.tuple (svs.map sD)).depth ≤ 1 := by
  have one : ∀ d ∈ svs.map sD, d.canLay0 = true ∧ d.depth ≤ 0 := fun d hd => by
    obtain ⟨s, hs, rfl⟩ := List.mem_map.mp hd
    rcases h s hs with ⟨i, rfl, _⟩ | ⟨x, rfl, g⟩
    · exact ⟨rfl, Nat.le_refl _⟩
    · exact ⟨gd_ok g, Nat.le_refl _⟩
  exact ⟨lay_all fun d hd => (one d hd).1, Nat.succ_le_succ (depth_all fun d hd => (one d hd).2)⟩
theorem shaped_steps {svs : List V} (h : ∀ s ∈ svs, StepV s) : PySem.SeqAt.shaped (.tuple (svs.map sD)) = true := by
  have q := lay_steps h
  unfold PySem.SeqAt.shaped
  rw [q.1, decide_eq_true (show (PyData.tuple (svs.map sD)).depth ≤ 64 by omega)]; rfl
/-- a place -/
structure Pl (H : Hp) (p : Addr) (x : Str) (s : Addr) (svs : List V) : Prop where
  p : H p = some (.tup [.str x, .ref s])
  s : H s = some (.tup svs)
  st : ∀ v ∈ svs, StepV v
theorem Pl.tm {H H' : Hp} (m : TM H H') {p s : Addr} {x : Str} {svs : List V} (h : Pl H p x s svs) : Pl H' p x s svs := ⟨m _ _ h.p, m _ _ h.s, h.st⟩
def same (st1 st2 : List V) : Bool := PyData.eqv (.tuple (st1.map sD)) (.tuple ((st2.take st1.length).map sD))
def pfx (x1 : Str) (st1 : List V) (x2 : Str) (st2 : List V) : Bool := decide (V.str x1 = V.str x2) && same st1 st2
theorem take_all {st1 st2 : List V} (e : HT.sIx st2.length 0 none = 0 ∧ HT.sIx st2.length st2.length (some ((st1.length : Nat) : Int)) = st2.length) : st2.take st1.length = st2 := by
  have e2 := e.2
  rw [HT.sIx_nat] at e2
  exact List.take_of_length_le (by omega)
theorem same_dp {K : PySem.W.Frag} {H : Hp} {s1 q : Addr} {st1 st2 : List V} (h1 : H s1 = some (.tup st1)) (hq : H q = some (.tup (st2.take st1.length))) (a1 : ∀ v ∈ st1, StepV v) (a2 : ∀ v ∈ st2, StepV v) {Q : VK} (h : Q (.bl (same st1 st2)) H) : rEqD K (.ref s1) (.ref q) H Q :=
  ⟨_, _, .tup (.inl (.inl h1)) (steps_dp a1), .tup (.inl (.inl hq)) (steps_dp fun v hv => a2 v (List.mem_of_mem_take hv)), shaped_steps a1, shaped_steps fun v hv => a2 v (List.mem_of_mem_take hv), h⟩
section
variable {P : Program} {w : World} {K : PySem.W.Frag} {mg : Str → Option Value} {base : Heap}
def spPrefix : Sp := fun vs H Q _ => ∃ (p1 p2 s1 s2 : Addr) (x1 x2 : Str) (st1 st2 : List V), vs = [.ref p1, .ref p2] ∧ Pl H p1 x1 s1 st1 ∧ Pl H p2 x2 s2 st2 ∧ ∀ H', Same H H' → Q (.bl (pfx x1 st1 x2 st2)) H'
theorem ok_prefix (T : Txt7 K mg) : FnOk P w K mg base CX0 1 T.is_prefix.f T.is_prefix.fd ["first", "second"] spPrefix := by
  refine T.is_prefix.F.ok sc_is_prefix (fun vs H Q E h => ?_) (fun cdv A outer s H vs Q E hr h => ?_)
  · obtain ⟨p1, p2, s1, s2, x1, x2, st1, st2, rfl, _⟩ := h
    rfl
  obtain ⟨p1, p2, s1, s2, x1, x2, st1, st2, rfl, h1, h2, q⟩ := h
  have hu64 : (A.deeper (PyProof.Rows.envOfC "is_prefix" (defScope s_is_prefix) s.heap.objs.size T.is_prefix.f cdv)).units + 64 < cLine := by
    have := hr.un
    omega
  refine ⟨_, (pss_cons (ps_asg (pv 0) (pg_tup rfl (pgs_cons (pg_name (i := 2) sc_is_prefix.nd rfl (Or.inl rfl)) (pgs_cons (pg_name (i := 3) sc_is_prefix.nd rfl (Or.inl rfl)) pgs_nil))))
    (pss_cons (ps_asg (pv 1) (pg_tup rfl (pgs_cons (pg_name (i := 4) sc_is_prefix.nd rfl (Or.inl rfl)) (pgs_cons (pg_name (i := 5) sc_is_prefix.nd rfl (Or.inl rfl)) pgs_nil))))
    (pss_one (ps_ret (pe_and (pe_cmpR op_eq (pv 2) (pv 4) (nomark _)) (pe_one (pe_cmpR (op_eqD hu64) (pv 3) (pe_mid (pe_slice sl_tupA (pv 5) po_none (po_some (pe_callB call_len_seq rfl T.z_len PySem.boot_len (pa_cons (pv 3) pa_nil))))) (nomark _)))))))), ?_⟩
  refine ⟨_, rfl, p1, _, rfl, .inl (.inl h1.p), rfl, _, _, rfl, _, _, rfl, rfl, ?_⟩
  refine ⟨_, rfl, p2, _, rfl, .inl (.inl h2.p), rfl, _, _, rfl, _, _, rfl, rfl, ?_⟩
  refine ⟨_, rfl, _, rfl, rfl, _, rfl, ite2 (fun c => ?_) (fun c => ?_)⟩
  · have e : pfx x1 st1 x2 st2 = same st1 st2 := by
      unfold pfx
      rw [show decide (V.str x1 = V.str x2) = true from c]; rfl
    rw [e] at q
    refine ⟨_, rfl, fun v H' => ∃ r, v = .ref r ∧ H' r = some (.tup (st2.take st1.length)) ∧ Same H H', ?_, ?_⟩
    · exact ⟨_, rfl, _, rfl, s1, _, rfl, .inr (.inl (.inl h1.s)), _, rfl, s2, st2, rfl, .inl (.inl h2.s), fun e => ⟨s2, rfl, by rw [take_all e]; exact h2.s, .refl H⟩, fun _ r hr2 => ⟨r, rfl, by rw [upd_same, cut_take], same_new hr2 _⟩⟩
    · rintro v H1 ⟨r, rfl, hr1, g1⟩
      exact same_dp (g1 _ _ h1.s) hr1 h1.st h2.st (q _ g1)
  · have e : pfx x1 st1 x2 st2 = false := by
      unfold pfx
      rw [show decide (V.str x1 = V.str x2) = false from Bool.eq_false_iff.mpr c]; rfl
    rw [e] at q
    exact q _ (.refl H)
def spOverlap : Sp := fun vs H Q _ => ∃ (p1 p2 s1 s2 : Addr) (x1 x2 : Str) (st1 st2 : List V), vs = [.ref p1, .ref p2] ∧ Pl H p1 x1 s1 st1 ∧ Pl H p2 x2 s2 st2 ∧ ∀ H', Same H H' → Q (.bl (pfx x1 st1 x2 st2 || pfx x2 st2 x1 st1)) H'
theorem ok_overlap (T : Txt7 K mg) : FnOk P w K mg base CX0 2 T.overlap.f T.overlap.fd ["first", "second"] spOverlap := by
  refine T.overlap.F.ok sc_overlap (fun vs H Q E h => ?_) (fun cdv A outer s H vs Q E hr h => ?_)
  · obtain ⟨p1, p2, s1, s2, x1, x2, st1, st2, rfl, _⟩ := h
    rfl
  obtain ⟨p1, p2, s1, s2, x1, x2, st1, st2, rfl, h1, h2, q⟩ := h
  refine ⟨_, (pss_one (ps_ret (pe_or (pe_call (ok_prefix T) (hr.mono (by omega)) rfl T.is_prefix.g T.is_prefix.F.kp T.is_prefix.b .nil pass0 (pa_cons (pv 0) (pa_cons (pv 1) pa_nil))) (pe_one (pe_call (ok_prefix T) (hr.mono (by omega)) rfl T.is_prefix.g T.is_prefix.F.kp T.is_prefix.b .nil pass0 (pa_cons (pv 1) (pa_cons (pv 0) pa_nil))))))), ?_⟩
  refine ⟨_, rfl, _, rfl, p1, p2, s1, s2, x1, x2, st1, st2, rfl, h1, h2, fun H1 g1 => ⟨_, rfl, ite2 (fun c => ?_) (fun c => ?_)⟩⟩
  · have c' : pfx x1 st1 x2 st2 = true := c
    rw [c'] at q
    exact q _ g1
  · have c' : pfx x1 st1 x2 st2 = false := Bool.eq_false_iff.mpr c
    rw [c'] at q
    exact ⟨_, rfl, _, rfl, p2, p1, s2, s1, x2, x1, st2, st1, rfl, h2.tm (.same g1), h1.tm (.same g1), fun H2 g2 => q _ (g1.trans g2)⟩
def spIs : Sp := fun vs H Q _ => ∃ b, vs = [.bl b, .bl b] ∧ Q (.bl true) H
theorem ok_is (T : Txt7 K mg) : FnOk P w K mg base CX0 1 T._law_is.f T._law_is.fd ["answer", "due"] spIs := by
  refine T._law_is.F.ok sc__law_is (fun vs H Q E h => ?_) (fun cdv A outer s H vs Q E hr h => ?_)
  · obtain ⟨b, rfl, _⟩ := h
    rfl
  obtain ⟨b, rfl, q⟩ := h
  refine ⟨_, (pss_one (ps_ret (pe_ifExp (pt_val (pv 1)) (pe_cmpR op_isBl (pv 0) pe_bl (nomark _)) (pe_cmpR op_isBl (pv 0) pe_bl (nomark _))))), ?_⟩
  refine ⟨_, rfl, _, rfl, ?_⟩
  cases b with
  | false => exact iteF ⟨_, rfl, false, false, rfl, rfl, q⟩
  | true => exact iteT ⟨_, rfl, true, true, rfl, rfl, q⟩
def spUnknown : Sp := fun vs H Q _ => ∃ (ra kd sp : Addr) (us svs : List V) (tb : List (Str × V)), vs = [.ref ra, .ref kd, .ref sp] ∧ H ra = some (.tup us) ∧ Rec H us ∧ H kd = some (.dK (keysOf tb)) ∧ ("u" : Str) ∉ tb.map (·.1) ∧ H sp = some (.tup svs) ∧ (∀ s ∈ svs, StepV s) ∧ svs.length ≤ 20 ∧
  ∀ H', Same H H' → Q (.bl true) H'
theorem ok_unknown (T : Txt7 K mg) : FnOk P w K mg base CX0 10 T._law_unknown.f T._law_unknown.fd ["records", "kinds", "steps"] spUnknown := by
  refine T._law_unknown.F.ok sc__law_unknown (fun vs H Q E h => ?_) (fun cdv A outer s H vs Q E hr h => ?_)
  · obtain ⟨ra, kd, sp, us, svs, tb, rfl, _⟩ := h
    rfl
  obtain ⟨ra, kd, sp, us, svs, tb, rfl, hra, hrec, hkd, hu, hsp, hst, hl20, q⟩ := h
  refine ⟨_, (pss_cons (ps_for PassesOwn.never rfl (pi_list (pe_lst (pa_cons (pe_tup (pa_cons pe_str (pa_cons (pe_tup pa_nil) pa_nil))) (pa_cons (pe_tup (pa_cons pe_str (pa_cons (pv 2) pa_nil))) (pa_cons (pe_tup (pa_cons pe_str (pa_cons (pe_mid (pe_op op_catA (pv 2) (pe_tup (pa_cons pe_str pa_nil)))) pa_nil))) (pa_cons (pe_tup (pa_cons pe_str (pa_cons (pe_tup (pa_cons pe_str (pa_cons pe_int pa_nil))) pa_nil))) pa_nil)))))) (pg_name (i := 3) sc__law_unknown.nd rfl (Or.inl rfl)) (pss_one (ps_for PassesOwn.never rfl (pi_list (pe_lst (pa_cons pe_int (pa_cons pe_int pa_nil)))) (pg_name (i := 4) sc__law_unknown.nd rfl (Or.inl rfl)) (pss_one (ps_if (pt_cmpR op_ne (pe_call (ok_told T.toTxt6) (hr.mono (by omega)) rfl T._law_told.g T._law_told.F.kp T._law_told.b .nil pass0 (pa_cons (pv 4) (pa_cons (pv 0) (pa_cons (pv 1) (pa_cons (pv 3) (pa_cons pe_non (pa_cons pe_non pa_nil))))))) pe_str (nomark _)) (pss_one (ps_ret pe_bl)) pss_nil)))))
    (pss_one (ps_ret pe_bl))), ?_⟩
  have gu : Gd 22 "u" := (gd_lit _ (by decide +kernel)).mono (by decide)
  have plc : ∀ {H' : Hp} {t s : Addr} {zs : List V}, Same H H' → H' t = some (.tup [.str "u", .ref s]) → H' s = some (.tup zs) → (∀ v ∈ zs, StepV v) → zs.length ≤ 50 → Plc H' t ra kd "u" zs us tb := fun g h1 h2 h3 h4 => ⟨⟨_, h1, h2⟩, h4, h3, gu, g _ _ hra, g _ _ hkd⟩
  refine ⟨by show 0 ≤ sizeLine; decide, fun e1 he1 => ⟨by show 2 ≤ sizeLine; decide, fun t1 ht1 => ?_⟩⟩
  refine ⟨_, rfl, by show 2 ≤ sizeLine; decide, fun t2 ht2 => ?_⟩
  have g1 := (same_new he1 (.tup [])).trans (same_new ht1 (.tup [.str "u", .ref e1]))
  have g2 := g1.trans (same_new ht2 (.tup [.str "u", .ref sp]))
  have p1 : Plc (upd (upd (upd H e1 (.tup [])) t1 (.tup [.str "u", .ref e1])) t2 (.tup [.str "u", .ref sp])) t1 ra kd "u" [] us tb := plc g2 ((same_new ht2 _) _ _ upd_same) ((same_new ht2 _) _ _ ((same_new ht1 _) _ _ upd_same)) (fun v hv => absurd hv (by simp)) (Nat.zero_le _)
  have p2 : Plc (upd (upd (upd H e1 (.tup [])) t1 (.tup [.str "u", .ref e1])) t2 (.tup [.str "u", .ref sp])) t2 ra kd "u" svs us tb := plc g2 upd_same (g2 _ _ hsp) hst (by omega)
  have keep : ∀ {H1 H2 : Hp} {t : Addr} {zs : List V}, Same H1 H2 → Plc H1 t ra kd "u" zs us tb → Plc H2 t ra kd "u" zs us tb := fun g p => ⟨let ⟨s, a, b⟩ := p.pl; ⟨s, g _ _ a, g _ _ b⟩, p.sl, p.st, p.gx, g _ _ p.ra, g _ _ p.kd⟩
  refine ⟨fun v H' => ∃ c zs, v = .ref c ∧ H' c = some (.tup zs) ∧ (∀ v ∈ zs, StepV v) ∧ zs.length ≤ 50 ∧ Same H H' ∧ Plc H' t1 ra kd "u" [] us tb ∧ Plc H' t2 ra kd "u" svs us tb, ?_, ?_⟩
  · refine ⟨_, rfl, by show 1 ≤ sizeLine; decide, fun n1 hn1 => ?_⟩
    have hs1 : ∀ v ∈ [V.str "none"], StepV v := fun v hv => by
      have e : v = V.str "none" := by simpa using hv
      rw [e]; exact stepS _ (by decide +kernel)
    have gn := same_new hn1 (.tup [.str "none"])
    exact ⟨sp, n1, svs, [.str "none"], rfl, rfl, .inl (.inl (gn _ _ (g2 _ _ hsp))), .inl (.inl upd_same), line_of (by show svs.length + 1 ≤ _; omega), fun _ => ⟨n1, [.str "none"], rfl, upd_same, hs1, by show 1 ≤ 50; decide, g2.trans gn, keep gn p1, keep gn p2⟩, fun _ e => (by cases e),
      fun _ _ c hc => ⟨c, _, rfl, upd_same, fun v hv => (List.mem_append.mp hv).elim (hst v) (hs1 v), by rw [List.length_append]; show svs.length + 1 ≤ 50; omega, g2.trans (gn.trans (same_new hc _)), keep (gn.trans (same_new hc _)) p1, keep (gn.trans (same_new hc _)) p2⟩⟩
  rintro v H3 ⟨c, zs, rfl, hc, hzs, hzl, g23, q1, q2⟩
  refine ⟨by show 2 ≤ sizeLine; decide, fun t3 ht3 => ⟨by show 2 ≤ sizeLine; decide, fun i4 hi4 => ⟨by show 2 ≤ sizeLine; decide, fun t4 ht4 => ⟨by show 4 ≤ sizeLine; decide, fun l hl => ?_⟩⟩⟩⟩
  have gt3 := same_new ht3 (.tup [.str "u", .ref c])
  have gi4 := same_new hi4 (.tup [.str "^", .int 7])
  have gt4 := same_new ht4 (.tup [.str "u", .ref i4])
  have gl := same_new hl (.lst [.ref t1, .ref t2, .ref t3, .ref t4])
  have all : ∀ v ∈ [V.ref t1, V.ref t2, V.ref t3, V.ref t4], ∃ t zs, v = .ref t ∧ Plc (upd (upd (upd (upd H3 t3 (.tup [.str "u", .ref c])) i4 (.tup [.str "^", .int 7])) t4 (.tup [.str "u", .ref i4])) l (.lst [.ref t1, .ref t2, .ref t3, .ref t4])) t ra kd "u" zs us tb := fun v hv => by
    rcases List.mem_cons.mp hv with e | hv
    · exact ⟨t1, _, e, keep (gt3.trans (gi4.trans (gt4.trans gl))) q1⟩
    rcases List.mem_cons.mp hv with e | hv
    · exact ⟨t2, _, e, keep (gt3.trans (gi4.trans (gt4.trans gl))) q2⟩
    rcases List.mem_cons.mp hv with e | hv
    · exact ⟨t3, _, e, plc (g23.trans (gt3.trans (gi4.trans (gt4.trans gl)))) ((gi4.trans (gt4.trans gl)) _ _ upd_same) ((gt3.trans (gi4.trans (gt4.trans gl))) _ _ hc) hzs hzl⟩
    rcases List.mem_cons.mp hv with e | hv
    · refine ⟨t4, [.str "^", .int 7], e, plc (g23.trans (gt3.trans (gi4.trans (gt4.trans gl)))) (gl _ _ upd_same) ((gt4.trans gl) _ _ upd_same) (fun v hv => ?_) (by show 2 ≤ 50; decide)⟩
      rcases List.mem_cons.mp hv with e | hv
      · rw [e]; exact stepS _ (by decide +kernel)
      · have e : v = .int 7 := by simpa using hv
        rw [e]; exact stepI (by decide)
    · cases hv
  have g04 := g23.trans (gt3.trans (gi4.trans (gt4.trans gl)))
  refine ⟨l, rfl, ⟨_, SqL.of upd_same⟩, for_list (K := K) (a := l) (xs := [V.ref t1, V.ref t2, V.ref t3, V.ref t4]) (fun i σ' H' => (∃ o1 o2, σ' = [some (.ref ra), some (.ref kd), some (.ref sp), o1, o2]) ∧ Same H H' ∧ H' l = some (.lst [.ref t1, .ref t2, .ref t3, .ref t4]) ∧
    ∀ v ∈ [V.ref t1, V.ref t2, V.ref t3, V.ref t4], ∃ t zs, v = .ref t ∧ Plc H' t ra kd "u" zs us tb) ⟨⟨_, _, rfl⟩, g04, upd_same, all⟩ (fun i σ' H' _ h => SqL.of h.2.2.1) ?_ (fun σ' H' h => q _ h.2.1)⟩
  rintro i v σ' H5 hi ⟨⟨o1, o2, rfl⟩, g5, hl5, all5⟩
  obtain ⟨t, zs', rfl, pt5⟩ := all5 v (mem_of_get hi)
  refine ⟨by show 2 ≤ sizeLine; decide, fun l2 hl2 => ?_⟩
  have g6 := same_new hl2 (.lst [.int 1, .int 2])
  refine ⟨l2, rfl, ⟨_, SqL.of upd_same⟩, for_list (K := K) (a := l2) (xs := [V.int 1, V.int 2]) (fun j σ' H' => (∃ o2, σ' = [some (.ref ra), some (.ref kd), some (.ref sp), some (.ref t), o2]) ∧ Same H5 H' ∧ H' l2 = some (.lst [.int 1, .int 2])) ⟨⟨_, rfl⟩, g6, upd_same⟩ (fun i σ' H' _ h => SqL.of h.2.2) ?_ (fun σ' H' h => ⟨let ⟨o2, e⟩ := h.1; ⟨_, o2, e⟩, g5.trans h.2.1, h.2.1 _ _ hl5, fun v hv => let ⟨t, zs, e, p⟩ := all5 v hv; ⟨t, zs, e, keep h.2.1 p⟩⟩)⟩
  rintro j cv σ' H6 hj ⟨⟨o2', rfl⟩, g56, hl26⟩
  obtain ⟨ch, rfl, hch⟩ : ∃ ch : Int, cv = .int ch ∧ (ch = 1 ∨ ch = 2) := by
    have hm : cv = V.int 1 ∨ cv = V.int 2 := by simpa using mem_of_get hj
    rcases hm with e | e
    · exact ⟨1, e, .inl rfl⟩
    · exact ⟨2, e, .inr rfl⟩
  have pt6 := keep g56 pt5
  have g06 := g5.trans g56
  refine ⟨_, rfl, _, rfl, _, rfl, _, rfl, ch, ra, kd, us, tb, .ref t, .non, .non, rfl, g06 _ _ hra, hrec.tm (.same g06), g06 _ _ hkd, .inr ⟨hch, t, "u", zs', rfl, pt6, fun _ H7 g7 => ?_, fun v hv => ?_⟩⟩
  · refine ⟨rfl, _, rfl, ?_⟩
    have e : (!decide (V.str "variable" = V.str "variable")) = false := by rw [decide_eq_true rfl]; rfl
    rw [e]
    exact iteF ⟨⟨_, rfl⟩, g56.trans g7, g7 _ _ hl26⟩
  · rw [val_out hu] at hv; cases hv
end
end Kk
namespace Kk
open PySem L2
theorem fol_len : ∀ {svs : List V} {d : PyData} {ds : List PyData}, fol d svs = some ds → ds.length = svs.length + 1
  | [], d, ds, h => by
    have e : [d] = ds := Option.some.inj h
    rw [← e]; rfl
  | s :: r, d, ds, h => by
    unfold fol at h
    cases e : hit s (opD d) with
    | none => rw [e] at h; cases h
    | some t =>
      rw [e] at h
      have h' : (fol t r).map (d :: ·) = some ds := h
      cases e2 : fol t r with
      | none => rw [e2] at h'; cases h'
      | some rs =>
        rw [e2] at h'
        have e3 : d :: rs = ds := Option.some.inj h'
        rw [← e3, List.length_cons, List.length_cons, fol_len e2]
theorem zip_cut : ∀ {svs : List V} {ds : List PyData} {dc : PyData}, svs.length = ds.length → svs.zip (ds ++ [dc]) = svs.zip ds
  | [], [], _, _ => rfl
  | s :: r, d :: ds, dc, h => by
    show (s, d) :: r.zip (ds ++ [dc]) = _
    rw [zip_cut (by simpa using h)]; rfl
theorem zip_more : ∀ {svs : List V} {ds : List PyData} {s : V} {dc t : PyData}, svs.length = ds.length → (svs ++ [s]).zip (ds ++ [dc] ++ [t]) = svs.zip ds ++ [(s, dc)]
  | [], [], _, _, _, _ => rfl
  | s :: r, d :: ds, s', dc, t, h => by
    show (s, d) :: (r ++ [s']).zip (ds ++ [dc] ++ [t]) = (s, d) :: (r.zip ds ++ [(s', dc)])
    rw [zip_more (by simpa using h)]
theorem find_snoc {α : Type} {p : α → Bool} {x : α} : ∀ {l : List α}, (l ++ [x]).findIdx? p = match l.findIdx? p with
    | some i => some i
    | none => if p x then some l.length else none
  | [] => by
    show List.findIdx? p [x] = _
    rw [List.findIdx?_cons]
    rfl
  | a :: l => by
    show List.findIdx? p (a :: (l ++ [x])) = _
    rw [List.findIdx?_cons, List.findIdx?_cons, find_snoc (l := l)]
    cases p a with
    | true => rfl
    | false =>
      simp only [Bool.false_eq_true, if_false]
      cases List.findIdx? p l with
      | some i => rfl
      | none =>
        cases p x <;> rfl
theorem crs_snoc {svs : List V} {ds : List PyData} {s : V} {dc t : PyData} (h : svs.length = ds.length) : crs (svs ++ [s]) (ds ++ [dc] ++ [t]) = match crs svs (ds ++ [dc]) with
    | some i => some i
    | none => if (decide (s = .str "^") && isBrk dc) then some svs.length else none := by
  unfold crs
  rw [zip_more h, zip_cut h, find_snoc]
  have e : (svs.zip ds).length = svs.length := by rw [List.length_zip]; omega
  rw [e]
theorem crs_lt {svs : List V} {ds : List PyData} {i : Nat} (h : crs svs ds = some i) : i < svs.length := by
  unfold crs at h
  obtain ⟨hi, _⟩ := List.findIdx?_eq_some_iff_getElem.mp h
  rw [List.length_zip] at hi
  omega
/-- the borrow that was crossed, as the law holds it -/
def Cr (H : Hp) (cr : V) (svs : List V) (o : Option Nat) : Prop := (cr = .non ∧ o = none) ∨ ∃ i r q, o = some i ∧ i < svs.length ∧ cr = .ref r ∧ H r = some (.tup [.str "v", .ref q]) ∧ H q = some (.tup (svs.take i))
theorem Cr.tm {H H' : Hp} (m : TM H H') {cr : V} {svs : List V} {o : Option Nat} (h : Cr H cr svs o) : Cr H' cr svs o := by
  rcases h with h | ⟨i, r, q, a, b, c, d, e⟩
  · exact .inl h
  · exact .inr ⟨i, r, q, a, b, c, m _ _ d, m _ _ e⟩
theorem Cr.dp {K : PySem.W.Frag} {H : Hp} {cr : V} {svs : List V} {ds : List PyData} (h : Cr H cr svs (crs svs ds)) (hs : ∀ s ∈ svs, StepV s) : Dp K H cr (crD "v" svs ds) := by
  unfold crD
  rcases h with ⟨rfl, e⟩ | ⟨i, r, q, e, _, rfl, h1, h2⟩
  · rw [e]; exact .non
  · rw [e]; exact .tup (.inl (.inl h1)) (.cons (.str _) (.cons (.tup (.inl (.inl h2)) (steps_dp fun s h => hs s (List.mem_of_mem_take h))) .nil))
theorem shaped_crD {svs : List V} {ds : List PyData} (hs : ∀ s ∈ svs, StepV s) : PySem.SeqAt.shaped (crD "v" svs ds) = true := by
  unfold crD
  cases crs svs ds with
  | none =>
    show PySem.SeqAt.shaped PyData.none = true
    rfl
  | some i =>
    have q := lay_steps (svs := svs.take i) fun s h => hs s (List.mem_of_mem_take h)
    have l : (PyData.tuple [.str "v", .tuple ((svs.take i).map sD)]).canLay0 = true := lay_all fun d hd => by
      rcases List.mem_cons.mp hd with e | hd
      · rw [e]; decide +kernel
      · have e : d = .tuple ((svs.take i).map sD) := by simpa using hd
        rw [e]; exact q.1
    have dd : (PyData.tuple [.str "v", .tuple ((svs.take i).map sD)]).depth ≤ 2 := Nat.succ_le_succ (depth_all fun d hd => by
      rcases List.mem_cons.mp hd with e | hd
      · rw [e]; exact Nat.zero_le _
      · have e : d = .tuple ((svs.take i).map sD) := by simpa using hd
        rw [e]; exact q.2)
    show PySem.SeqAt.shaped (PyData.tuple [.str "v", .tuple ((svs.take i).map sD)]) = true
    unfold PySem.SeqAt.shaped
    rw [l, decide_eq_true (show (PyData.tuple [.str "v", .tuple ((svs.take i).map sD)]).depth ≤ 64 by omega)]; rfl
theorem shaped_str (x : Str) (h : PyData.strOk x = true) : PySem.SeqAt.shaped (.str x) = true := by
  unfold PySem.SeqAt.shaped
  rw [show (PyData.str x).canLay0 = true from h]; rfl
/-- where the law stands -/
inductive Here (H : Hp) (d0 : PyData) (svs : List V) (he cr : V) : Prop
  | on {dc : PyData} {ds : List PyData} (k : KV H 6 he dc) (f : fol d0 svs = some (ds ++ [dc])) (c : Cr H cr svs (crs svs (ds ++ [dc])))
  | off (e : he = .non) (f : fol d0 svs = none)
theorem Here.tm {H H' : Hp} (m : TM H H') {d0 : PyData} {svs : List V} {he cr : V} (h : Here H d0 svs he cr) : Here H' d0 svs he cr := by
  cases h with
  | on k f c => exact .on (k.tm m) f (c.tm m)
  | off e f => exact .off e f
theorem KV.ref {H : Hp} {n : Nat} {v : V} {d : PyData} (k : KV H n v d) : ∃ p, v = .ref p := by
  cases k <;> exact ⟨_, rfl⟩
theorem ne_dp {K : PySem.W.Frag} {H : Hp} {x y : V} {d : PyData} (hx : Dp K H x d) (hy : Dp K H y d) (sh : PySem.SeqAt.shaped d = true) {Q : VK} (q : Q (.bl false) H) : rNeD K x y H Q := by
  refine ⟨d, d, hx, hy, sh, sh, ?_⟩
  rw [PySem.SeqAt.eqv_refl d (PySem.SeqAt.canLay_of_shaped sh)]
  exact q
theorem dp_same {K : PySem.W.Frag} {H H' : Hp} (g : Same H H') {v : V} {d : PyData} (h : Dp K H v d) : Dp K H' v d := by
  have seq : ∀ {a : Addr} {xs : List V}, SqT K H a xs → SqT K H' a xs := fun h => by
    rcases h with (h | ⟨o, h⟩) | h
    · exact .inl (.inl (g _ _ h))
    · exact .inl (.inr ⟨o, g _ _ h⟩)
    · exact .inr h
  exact Dp.rec (motive_1 := fun v d _ => Dp K H' v d) (motive_2 := fun vs ds _ => DpAll K H' vs ds) .non .bl .int .str (fun a _ ih => .lst (g.seq a) ih) (fun a _ ih => .tup (seq a) ih) .nil (fun _ _ a b => .cons a b) h
end Kk
namespace Kk
open PySem L2
structure Bs (a ra kd w0 : Addr) (us : List V) (tb : List (Str × V)) (v0 : V) (d0 : PyData) (H0 H : Hp) : Prop where
  fra : H ra = some (.tup us)
  frc : Rec H us
  fkd : H kd = some (.dK (keysOf tb))
  fkv : KV H 6 v0 d0
  fkw : KV H 1 (.ref w0) (.tuple [.str "int"])
  st : St4 H a
  bt : But a H0 H
  s0 : St4 H0 a
  k0 : H0 kd = none
section
variable {a ra kd w0 : Addr} {us : List V} {tb : List (Str × V)} {v0 : V} {d0 : PyData} {H0 H H' : Hp}
theorem Bs.but (B : Bs a ra kd w0 us tb v0 d0 H0 H) (b : But a H H') (st : St4 H' a) : Bs a ra kd w0 us tb v0 d0 H0 H' :=
  have t := TM.but b B.st
  ⟨t _ _ B.fra, B.frc.tm t, b.go _ _ (B.s0.ne B.k0) B.fkd, B.fkv.tm t, B.fkw.tm t, st, B.bt.trans b, B.s0, B.k0⟩
theorem Bs.new (B : Bs a ra kd w0 us tb v0 d0 H0 H) {p : Addr} {o : HO} (h : H p = none) : Bs a ra kd w0 us tb v0 d0 H0 (upd H p o) := B.but (.new h o) (B.st.put h)
theorem Bs.same (B : Bs a ra kd w0 us tb v0 d0 H0 H) (g : Same H H') : Bs a ra kd w0 us tb v0 d0 H0 H' := B.but (.of g) (B.st.same g)
theorem Bs.lst (B : Bs a ra kd w0 us tb v0 d0 H0 H) {s : Addr} {xs ys : List V} (h0 : H0 s = none) (h : H s = some (.lst xs)) : Bs a ra kd w0 us tb v0 d0 H0 (upd H s (.lst ys)) :=
  have t := TM.lst (o := .lst ys) h
  ⟨t _ _ B.fra, B.frc.tm t, by rw [upd_ne (fun e => by rw [← e, B.fkd] at h; cases h)]; exact B.fkd, B.fkv.tm t, B.fkw.tm t, B.s0.keep h0 B.bt B.st, B.bt.put h0, B.s0, B.k0⟩
end
def tbl (v0 : V) (w0 : Addr) : List (Str × V) := [("v", v0), ("w", .ref w0)]
theorem merge_tbl (v0 : V) (w0 : Addr) : mergeK [] [(Sum.inr "v", v0), (Sum.inr "w", .ref w0)] = keysOf (tbl v0 w0) := by
  show putK (putK (keysOf []) (.inr "v") v0) (.inr "w") (.ref w0) = _
  have e1 : putK (keysOf []) (.inr ("v" : Str)) v0 = keysOf [("v", v0)] := put_out (tb := []) (by simp)
  have e2 : putK (keysOf [(("v" : Str), v0)]) (.inr ("w" : Str)) (.ref w0) = keysOf ([(("v" : Str), v0)] ++ [(("w" : Str), V.ref w0)]) := put_out (x := "w") (v := V.ref w0) (tb := [(("v" : Str), v0)]) (by show ("w" : Str) ∉ (["v"] : List Str); decide +kernel)
  rw [e1, e2]; rfl
theorem tbl_v (v0 : V) (w0 : Addr) : valV (keysOf (tbl v0 w0)) (.inr "v") = some v0 := val_in (by show (["v", "w"] : List Str).Nodup; decide +kernel) List.mem_cons_self
theorem tbl_w (v0 : V) (w0 : Addr) : valV (keysOf (tbl v0 w0)) (.inr "w") = some (.ref w0) := val_in (by show (["v", "w"] : List Str).Nodup; decide +kernel) (List.mem_cons_of_mem _ List.mem_cons_self)
theorem Here.ans1 {K : PySem.W.Frag} {H : Hp} {d0 : PyData} {svs : List V} {he cr : V} (h : Here H d0 svs he cr) : PySem.SeqAt.shaped (ansOf 1 "v" d0 svs) = true ∧ ((he = .non ∧ ansOf 1 "v" d0 svs = .str "step") ∨ (he ≠ .non ∧ Dp K H he (ansOf 1 "v" d0 svs))) := by
  cases h with
  | off e f =>
    have ea : ansOf 1 "v" d0 svs = .str "step" := by unfold ansOf; rw [f]
    rw [ea]; exact ⟨shaped_str _ (by decide +kernel), .inl ⟨e, rfl⟩⟩
  | @on dc ds k f c =>
    have ea : ansOf 1 "v" d0 svs = dc := by
      unfold ansOf; rw [f]
      show (if (1 : Int) = 1 then (ds ++ [dc]).getLastD .none else _) = dc
      rw [if_pos rfl, List.getLastD_concat]
    rw [ea]
    obtain ⟨p, rfl⟩ := k.ref
    exact ⟨k.shaped (by decide), .inr ⟨fun e => (nomatch e), k.dp⟩⟩
theorem Here.ans2 {K : PySem.W.Frag} {H : Hp} {d0 : PyData} {svs : List V} {he cr : V} (h : Here H d0 svs he cr) (hs : ∀ s ∈ svs, StepV s) : PySem.SeqAt.shaped (ansOf 2 "v" d0 svs) = true ∧ ((he = .non ∧ ansOf 2 "v" d0 svs = .str "step") ∨ (he ≠ .non ∧ Dp K H cr (ansOf 2 "v" d0 svs))) := by
  cases h with
  | off e f =>
    have ea : ansOf 2 "v" d0 svs = .str "step" := by unfold ansOf; rw [f]
    rw [ea]; exact ⟨shaped_str _ (by decide +kernel), .inl ⟨e, rfl⟩⟩
  | @on dc ds k f c =>
    have ea : ansOf 2 "v" d0 svs = crD "v" svs (ds ++ [dc]) := by
      unfold ansOf; rw [f]
      show (if (2 : Int) = 1 then _ else crD "v" svs (ds ++ [dc])) = _
      rw [if_neg (by decide)]
    rw [ea]
    obtain ⟨p, rfl⟩ := k.ref
    exact ⟨shaped_crD hs, .inr ⟨fun e => (nomatch e), c.dp hs⟩⟩
theorem mem_cut {xs : List V} {lo hi : Option Int} {v : V} (h : v ∈ cutV xs lo hi) : v ∈ xs := List.mem_of_mem_drop (List.mem_of_mem_take h)
theorem Pl.same {H H' : Hp} (g : Same H H') {p s : Addr} {x : Str} {svs : List V} (h : Pl H p x s svs) : Pl H' p x s svs := h.tm (.same g)
abbrev S15 (z a ra : Addr) (v0 : V) (kd st : Addr) (cr he : V) (k step due place other first second : Option V) : St :=
  [some (.ref z), some (.ref a), some (.ref ra), some v0, some (.ref kd), some (.ref st), some cr, some he, k, step, due, place, other, first, second]
section
variable {P : Program} {w : World} {K : PySem.W.Frag} {mg : Str → Option Value} {base : Heap}
def spLaw (K : PySem.W.Frag) : Sp := fun vs H Q _ => ∃ (z : Addr) (ns : List Int), vs = [.ref z] ∧ SqL K H z (ns.map V.int) ∧ ∀ H', Q (.bl true) H'
theorem ok_law (T : Txt7 K mg) : FnOk P w K mg base CX0 110 T.law.f T.law.fd ["script"] (spLaw K) := by
  refine T.law.F.ok sc_law (fun vs H Q E h => ?_) (fun cdv A outer s H vs Q E hr h => ?_)
  · obtain ⟨z, ns, rfl, _⟩ := h
    rfl
  obtain ⟨z, ns, rfl, hz, q⟩ := h
  have hu64 : (A.deeper (PyProof.Rows.envOfC "law" (defScope s_law) s.heap.objs.size T.law.f cdv)).units + 64 < cLine := by
    have := hr.un
    omega
  refine ⟨_, (pss_cons (ps_set (i := 1) sc_law.nd rfl (Or.inl rfl) (pe_call (ok_tape T.toTxt1) (hr.mono (by omega)) rfl T._law_tape.g T._law_tape.F.kp T._law_tape.b .nil pass0 (pa_cons (pv 0) pa_nil)))
    (pss_cons (ps_set (i := 2) sc_law.nd rfl (Or.inl rfl) (pe_call (ok_records T.toTxt2) (hr.mono (by omega)) rfl T._law_records.g T._law_records.F.kp T._law_records.b .nil pass0 (pa_cons (pv 1) pa_nil)))
    (pss_cons (ps_set (i := 3) sc_law.nd rfl (Or.inl rfl) (pe_call (ok_kindN T.toTxt3 6) (hr.mono (by omega)) rfl T._law_kind.g T._law_kind.F.kp T._law_kind.b .nil pass0 (pa_cons (pv 1) (pa_cons pe_int (pa_cons pe_bl pa_nil)))))
    (pss_cons (ps_set (i := 4) sc_law.nd rfl (Or.inl rfl) (pe_disp (pps_cons pe_str (pv 3) (pps_cons pe_str (pe_tup (pa_cons pe_str pa_nil)) pps_nil)) rfl rfl (by decide) (by decide)))
    (pss_cons (ps_set (i := 5) sc_law.nd rfl (Or.inl rfl) (pe_lst pa_nil))
    (pss_cons (ps_set (i := 6) sc_law.nd rfl (Or.inl rfl) pe_non)
    (pss_cons (ps_set (i := 7) sc_law.nd rfl (Or.inl rfl) (pv 3))
    (pss_cons (ps_for PassesOwn.never rfl (pi_range1 (by rfl) T.z_range (pa_cons (pe_ix ix_list (pe_lst (pa_cons (pe_call (ok_next T.toTxt1) (hr.mono (by omega)) rfl T._law_next.g T._law_next.F.kp T._law_next.b .nil pass0 (pa_cons (pv 1) (pa_cons pe_int pa_nil))) (pa_cons (pe_op op_add pe_int (pe_call (ok_next T.toTxt1) (hr.mono (by omega)) rfl T._law_next.g T._law_next.F.kp T._law_next.b .nil pass0 (pa_cons (pv 1) (pa_cons pe_int pa_nil)))) pa_nil))) (pe_call (ok_next T.toTxt1) (hr.mono (by omega)) rfl T._law_next.g T._law_next.F.kp T._law_next.b .nil pass0 (pa_cons (pv 1) (pa_cons pe_int pa_nil))) (fun _ _ => rfl)) pa_nil)) (pg_name (i := 8) sc_law.nd rfl (Or.inl rfl)) (pss_one (ps_if (pt_cmpR op_notN (pv 7) pe_non (nomark _)) (pss_cons (ps_set (i := 9) sc_law.nd rfl (Or.inl rfl) (pe_call (ok_step T.toTxt3) (hr.mono (by omega)) rfl T._law_step.g T._law_step.F.kp T._law_step.b .nil pass0 (pa_cons (pv 1) (pa_cons (pv 7) pa_nil))))
        (pss_cons (ps_set (i := 10) sc_law.nd rfl (Or.inl rfl) (pe_call (ok_afterU T.toTxt4) (hr.mono (by omega)) rfl T._law_after.g T._law_after.F.kp T._law_after.b .nil pass0 (pa_cons (pv 7) (pa_cons (pv 9) pa_nil))))
        (pss_cons (ps_if (pt_cmpR (op_neD hu64) (pe_call (ok_told T.toTxt6) (hr.mono (by omega)) rfl T._law_told.g T._law_told.F.kp T._law_told.b .nil pass0 (pa_cons pe_int (pa_cons (pv 2) (pa_cons (pv 4) (pa_cons pe_non (pa_cons (pv 7) (pa_cons (pv 9) pa_nil))))))) (pe_mid (pe_ifExp (pt_cmpR op_isN (pv 10) pe_non (nomark _)) pe_str (pv 10))) (nomark _)) (pss_one (ps_ret pe_bl)) pss_nil)
        (C8.pss_cut (ps_if (pt_mid (PW.pt (pw_and (pt_cmpR op_eq (pv 9) pe_str (nomark _)) (pw_and (pt_cmpR op_in_seq (pe_ix ix_tup (pv 7) pe_int (fun _ _ => rfl)) (pe_lst (pa_cons pe_str (pa_cons pe_str pa_nil))) (by rfl)) (pw_and1 (pt_cmpR op_isN (pv 6) pe_non (nomark _))))))) (pss_one (ps_set (i := 6) sc_law.nd rfl (Or.inl rfl) (pe_tup (pa_cons pe_str (pa_cons (pe_callTy call_tuple_of rfl T.z_tuple PyProof.Rows.boot_tuple (pa_cons (pv 5) pa_nil)) pa_nil))))) pss_nil)
        (pss_cons (ps_expr (pe_bm PySem.F.plainAttrs_list PySem.F.slot_list_append PySem.F.type_list_append mt_append (pv 5) (pa_cons (pv 9) pa_nil)))
        (pss_one (ps_set (i := 7) sc_law.nd rfl (Or.inl rfl) (pv 10)))))))) pss_nil)))
    (pss_cons (ps_set (i := 11) sc_law.nd rfl (Or.inl rfl) (pe_tup (pa_cons pe_str (pa_cons (pe_callTy call_tuple_of rfl T.z_tuple PyProof.Rows.boot_tuple (pa_cons (pv 5) pa_nil)) pa_nil))))
    (pss_cons (ps_if (pt_cmpR (op_neD hu64) (pe_call (ok_told T.toTxt6) (hr.mono (by omega)) rfl T._law_told.g T._law_told.F.kp T._law_told.b .nil pass0 (pa_cons pe_int (pa_cons (pv 2) (pa_cons (pv 4) (pa_cons (pv 11) (pa_cons pe_non (pa_cons pe_non pa_nil))))))) (pe_mid (pe_ifExp (pt_cmpR op_isN (pv 7) pe_non (nomark _)) pe_str (pv 7))) (nomark _)) (pss_one (ps_ret pe_bl)) pss_nil)
    (pss_cons (ps_if (pt_cmpR (op_neD hu64) (pe_call (ok_told T.toTxt6) (hr.mono (by omega)) rfl T._law_told.g T._law_told.F.kp T._law_told.b .nil pass0 (pa_cons pe_int (pa_cons (pv 2) (pa_cons (pv 4) (pa_cons (pv 11) (pa_cons pe_non (pa_cons pe_non pa_nil))))))) (pe_mid (pe_ifExp (pt_cmpR op_isN (pv 7) pe_non (nomark _)) pe_str (pv 6))) (nomark _)) (pss_one (ps_ret pe_bl)) pss_nil)
    (pss_cons (ps_if (pt_not (pt_val (pe_call (ok_unknown T) (hr.mono (by omega)) rfl T._law_unknown.g T._law_unknown.F.kp T._law_unknown.b .nil pass0 (pa_cons (pv 2) (pa_cons (pv 4) (pa_cons (pe_callTy call_tuple_of rfl T.z_tuple PyProof.Rows.boot_tuple (pa_cons (pe_slice sl_list (pv 5) po_none (po_some pe_int)) pa_nil)) pa_nil)))))) (pss_one (ps_ret pe_bl)) pss_nil)
    (pss_cons (ps_set (i := 12) sc_law.nd rfl (Or.inl rfl) (pe_tup (pa_cons (pe_ix ix_list (pe_lst (pa_cons pe_str (pa_cons pe_str (pa_cons pe_str pa_nil)))) (pe_call (ok_next T.toTxt1) (hr.mono (by omega)) rfl T._law_next.g T._law_next.F.kp T._law_next.b .nil pass0 (pa_cons (pv 1) (pa_cons pe_int pa_nil))) (fun _ _ => rfl)) (pa_cons (pe_callTy call_tuple_of rfl T.z_tuple PyProof.Rows.boot_tuple (pa_cons (pe_slice sl_list (pv 5) po_none (po_some (pe_call (ok_next T.toTxt1) (hr.mono (by omega)) rfl T._law_next.g T._law_next.F.kp T._law_next.b .nil pass0 (pa_cons (pv 1) (pa_cons pe_int pa_nil))))) pa_nil)) pa_nil))))
    (C8.pss_cut (ps_if (pt_cmpR op_eq (pe_call (ok_next T.toTxt1) (hr.mono (by omega)) rfl T._law_next.g T._law_next.F.kp T._law_next.b .nil pass0 (pa_cons (pv 1) (pa_cons pe_int pa_nil))) pe_int (nomark _)) (pss_one (ps_set (i := 12) sc_law.nd rfl (Or.inl rfl) (pe_tup (pa_cons (pe_ix ix_tup (pv 12) pe_int (fun _ _ => rfl)) (pa_cons (pe_mid (pe_op op_catA (pe_ix ix_tup (pv 12) pe_int (fun _ _ => rfl)) (pe_tup (pa_cons pe_str pa_nil)))) pa_nil))))) pss_nil)
    (pss_cons (ps_set (i := 13) sc_law.nd rfl (Or.inl rfl) (pe_mid (pe_and (pe_cmpR op_eq (pe_ix ix_tup (pv 12) pe_int (fun _ _ => rfl)) pe_str (nomark _)) (pe_one (pe_cmpR (op_eqD hu64) (pe_ix ix_tup (pv 11) pe_int (fun _ _ => rfl)) (pe_mid (pe_slice sl_tupA (pe_ix ix_tup (pv 12) pe_int (fun _ _ => rfl)) po_none (po_some (pe_callB call_len_seq rfl T.z_len PySem.boot_len (pa_cons (pe_ix ix_tup (pv 11) pe_int (fun _ _ => rfl)) pa_nil))))) (nomark _))))))
    (pss_cons (ps_set (i := 14) sc_law.nd rfl (Or.inl rfl) (pe_mid (pe_and (pe_cmpR op_eq (pe_ix ix_tup (pv 12) pe_int (fun _ _ => rfl)) pe_str (nomark _)) (pe_one (pe_cmpR (op_eqD hu64) (pe_ix ix_tup (pv 12) pe_int (fun _ _ => rfl)) (pe_mid (pe_slice sl_tupA (pe_ix ix_tup (pv 11) pe_int (fun _ _ => rfl)) po_none (po_some (pe_callB call_len_seq rfl T.z_len PySem.boot_len (pa_cons (pe_ix ix_tup (pv 12) pe_int (fun _ _ => rfl)) pa_nil))))) (nomark _))))))
    (pss_cons (ps_if (pt_mid (PW.pt (pw_or (pt_not (pt_val (pe_call (ok_is T) (hr.mono (by omega)) rfl T._law_is.g T._law_is.F.kp T._law_is.b .nil pass0 (pa_cons (pe_call (ok_prefix T) (hr.mono (by omega)) rfl T.is_prefix.g T.is_prefix.F.kp T.is_prefix.b .nil pass0 (pa_cons (pv 11) (pa_cons (pv 12) pa_nil))) (pa_cons (pv 13) pa_nil))))) (pw_or1 (pt_not (pt_val (pe_call (ok_is T) (hr.mono (by omega)) rfl T._law_is.g T._law_is.F.kp T._law_is.b .nil pass0 (pa_cons (pe_call (ok_prefix T) (hr.mono (by omega)) rfl T.is_prefix.g T.is_prefix.F.kp T.is_prefix.b .nil pass0 (pa_cons (pv 12) (pa_cons (pv 11) pa_nil))) (pa_cons (pv 14) pa_nil))))))))) (pss_one (ps_ret pe_bl)) pss_nil)
    (pss_one (ps_ret (pe_mid (pe_and (pe_call (ok_is T) (hr.mono (by omega)) rfl T._law_is.g T._law_is.F.kp T._law_is.b .nil pass0 (pa_cons (pe_call (ok_overlap T) (hr.mono (by omega)) rfl T.overlap.g T.overlap.F.kp T.overlap.b .nil pass0 (pa_cons (pv 11) (pa_cons (pv 12) pa_nil))) (pa_cons (pe_mid (pe_or (pv 13) (pe_one (pv 14)))) pa_nil))) (pe_one (pe_cmpR (op_eqDD hu64) (pv 4) (pe_disp (pps_cons pe_str (pv 3) (pps_cons pe_str (pe_tup (pa_cons pe_str pa_nil)) pps_nil)) rfl rfl (by decide) (by decide)) (nomark _)))))))))))))))))))))))), ?_⟩
  refine ⟨_, rfl, z, ns, rfl, hz, fun a H1 g1 ha st1 => ?_⟩
  refine ⟨_, rfl, a, rfl, st1, fun ra us H2 hra ul hrec st2 b2 => ?_⟩
  refine ⟨_, rfl, a, 6, false, rfl, st2, by decide, by decide, by decide, fun v0 H3 kv st3 b3 => ?_⟩
  obtain ⟨d0, kv⟩ := kv
  have kv : KV H3 6 v0 d0 := kv
  have t23 := TM.but b3 st2
  intro kd hkd
  refine ⟨_, rfl, by show 1 ≤ sizeLine; decide, fun w0 hw0 => ⟨(same_new hw0 _) _ _ upd_same, [(.inr "v", v0), (.inr "w", .ref w0)], rfl, by show 2 ≤ 15; decide, ?_⟩⟩
  rw [merge_tbl]
  have hv1 := tbl_v v0 w0
  have hnu : ("u" : Str) ∉ (tbl v0 w0).map (·.1) := by show ("u" : Str) ∉ (["v", "w"] : List Str); decide +kernel
  have hvi : ("v" : Str) ∈ (tbl v0 w0).map (·.1) := by show ("v" : Str) ∈ (["v", "w"] : List Str); decide +kernel
  obtain ⟨tb, etb⟩ : ∃ tb, tb = tbl v0 w0 := ⟨_, rfl⟩
  rw [← etb] at hv1 hnu hvi ⊢
  have w0kd : w0 ≠ kd := fun e => by rw [e, upd_same] at hw0; cases hw0
  have g4 := (same_new hkd (.dK [])).trans (same_new hw0 (.tup [.str "int"]))
  have hd4 : (upd (upd H3 kd (.dK [])) w0 (.tup [.str "int"])) kd = some (.dK []) := (same_new hw0 _) _ _ upd_same
  have t4 : TM (upd (upd H3 kd (.dK [])) w0 (.tup [.str "int"])) (upd (upd (upd H3 kd (.dK [])) w0 (.tup [.str "int"])) kd (.dK (keysOf tb))) := .put fun xs e => by rw [hd4] at e; cases e
  have B : Bs a ra kd w0 us tb v0 d0 H3 (upd (upd (upd H3 kd (.dK [])) w0 (.tup [.str "int"])) kd (.dK (keysOf tb))) :=
    have t := (TM.same g4).trans t4
    ⟨t _ _ (t23 _ _ hra), (hrec.tm t23).tm t, upd_same, kv.tm t, .leaf (n := 0) (t4 _ _ upd_same) (.inl rfl), st3.keep hkd (.of g4) (st3.same g4), (But.of g4).put hkd, st3, hkd⟩
  refine ⟨by show 0 ≤ sizeLine; decide, fun st hst => ?_⟩
  have hst0 : H3 st = none := B.bt.fresh (B.st.ne hst) hst
  have B1 := B.new (o := .lst []) hst
  have sta : st ≠ a := B.st.ne hst
  refine ⟨_, rfl, ?_⟩
  refine ⟨_, rfl, a, 6, rfl, B1.st, by decide, by decide, fun n1 H7 n10 n11 st7 b7 => ?_⟩
  have B7 := B1.but b7 st7
  refine ⟨_, rfl, a, 7, rfl, B7.st, by decide, by decide, fun n2 H8 n20 n21 st8 b8 => ⟨_, _, rfl, rfl, by show 2 ≤ sizeLine; decide, fun l hl => ?_⟩⟩
  have B8 := B7.but b8 st8
  have B9 := B8.new (o := .lst [.int n1, .int (6 + n2)]) hl
  have la := B8.st.ne hl
  refine ⟨_, rfl, a, 2, rfl, B9.st, by decide, by decide, fun n3 H10 n30 n31 st10 b10 => ?_⟩
  have B10 := B9.but b10 st10
  obtain ⟨x, hx, hx'⟩ := atI_ex (l := [V.int n1, V.int (6 + n2)]) n30 (by show n3 < 2; exact n31)
  obtain ⟨m, rfl, m0, m1⟩ : ∃ m : Int, x = .int m ∧ 0 ≤ m ∧ m ≤ 12 := by
    have hm : x = V.int n1 ∨ x = V.int (6 + n2) := by simpa using mem_of_get hx
    rcases hm with e | e
    · exact ⟨n1, e, by omega, by omega⟩
    · exact ⟨6 + n2, e, by omega, by omega⟩
  have hs10 : H10 st = some (.lst []) := b10.go _ _ sta ((same_new hl _) _ _ (b8.go _ _ sta (b7.go _ _ sta upd_same)))
  refine ⟨l, _, _, _, rfl, rfl, SqL.of (b10.go _ _ la upd_same), hx', m, rfl, by omega, by omega, for_range (lo := 0) (n := m.toNat)
    (fun i σ' H' => ∃ svs cr he o1 o2 o3, σ' = S15 z a ra v0 kd st cr he o1 o2 o3 none none none none ∧ H' st = some (.lst svs) ∧ svs.length ≤ i ∧ (∀ s ∈ svs, StepV s) ∧ Here H' d0 svs he cr ∧ Bs a ra kd w0 us tb v0 d0 H3 H') ?_ ?_ ?_⟩
  · exact ⟨[], .non, v0, none, none, none, rfl, hs10, Nat.le_refl _, fun s hs => absurd hs (by simp), .on (ds := []) B10.fkv rfl (.inl ⟨rfl, rfl⟩), B10⟩
  · rintro i σ' H11 hi ⟨svs, cr, he, o1, o2, o3, rfl, hst11, hlen, hsv, here, B11⟩
    refine ⟨_, rfl, rfl, _, rfl, ite2 (fun c => ?_) (fun c => ⟨svs, cr, he, _, _, _, rfl, hst11, by omega, hsv, here, B11⟩)⟩
    cases here with
    | off e f =>
      subst e
      have c' : (!decide (V.non = V.non)) = true := c
      rw [decide_eq_true rfl] at c'; cases c'
    | @on dc ds k f cc =>
      obtain ⟨hp, rfl⟩ := k.ref
      have dsl : svs.length = ds.length := by
        have := fol_len f
        rw [List.length_append] at this
        have h1 : ([dc] : List PyData).length = 1 := rfl
        omega
      refine ⟨_, rfl, _, rfl, a, .ref hp, rfl, B11.st, ⟨dc, k⟩, fun sv H12 hsv12 st12 b12 => ?_⟩
      have B12 := B11.but b12 st12
      have t12 := TM.but b12 B11.st
      have k12 := k.tm t12
      have cc12 := cc.tm t12
      have hst12 := b12.go _ _ sta hst11
      have sc : scal sv (.str "^") = true := by rcases hsv12 with ⟨i, rfl, _⟩ | ⟨z, rfl, _⟩ <;> rfl
      refine ⟨_, rfl, _, rfl, .ref hp, sv, dc, rfl, k12, hsv12, fun du H13 g13 hdu => ?_⟩
      have B13 := B12.same g13
      refine ⟨_, rfl, _, rfl, _, rfl, _, rfl, 0, ra, kd, us, tb, .non, .ref hp, sv, rfl, B13.fra, B13.frc, B13.fkd, .inl ⟨rfl, dc, k12.tm (.same g13), hsv12, fun r H14 g14 hr14 => ?_⟩⟩
      have B14 := B13.same g14
      have sh : PySem.SeqAt.shaped ((hit sv (opD dc)).getD (.str "step")) = true := by
        rcases hdu with ⟨dt, e, kt⟩ | ⟨e, _⟩
        · rw [e]; exact kt.shaped (by decide)
        · rw [e]; exact shaped_str _ (by decide +kernel)
      refine ⟨fun v H' => Dp K H' v ((hit sv (opD dc)).getD (.str "step")) ∧ H' = H14, ⟨_, rfl, rfl, _, rfl, ite2 (fun c1 => ?_) (fun c1 => ?_)⟩, ?_⟩
      · rcases hdu with ⟨dt, e, kt⟩ | ⟨e, rfl⟩
        · obtain ⟨pt, rfl⟩ := kt.ref
          exact absurd (of_decide_eq_true c1) (fun e => nomatch e)
        · rw [e]; exact ⟨.str _, rfl⟩
      · rcases hdu with ⟨dt, e, kt⟩ | ⟨e, rfl⟩
        · rw [e]; exact ⟨_, rfl, (kt.tm (.same g14)).dp, rfl⟩
        · exact absurd (decide_eq_true rfl) c1
      rintro v14 H14 ⟨hv14, rfl⟩
      refine ne_dp hr14 hv14 sh ⟨_, rfl, iteF ?_⟩
      have hst14 := g14 _ _ (g13 _ _ hst12)
      have t1214 : TM H12 H14 := TM.same (g13.trans g14)
      have k14 := k12.tm t1214
      have cc14 := cc12.tm t1214
      have step : ∀ (cr' : V) (H15 : Hp), Same H14 H15 → Cr H15 cr' (svs ++ [sv]) (match crs svs (ds ++ [dc]) with
          | some i => some i
          | none => if (decide (sv = .str "^") && isBrk dc) then some svs.length else none) →
          ∃ svs' cr'' he' o1' o2' o3', S15 z a ra v0 kd st cr' du (some (.int (0 + (i : Int)))) (some sv) (some du) none none none none = S15 z a ra v0 kd st cr'' he' o1' o2' o3' none none none none ∧
            (upd H15 st (.lst (svs ++ [sv]))) st = some (.lst svs') ∧ svs'.length ≤ i + 1 ∧ (∀ s ∈ svs', StepV s) ∧ Here (upd H15 st (.lst (svs ++ [sv]))) d0 svs' he' cr'' ∧ Bs a ra kd w0 us tb v0 d0 H3 (upd H15 st (.lst (svs ++ [sv]))) := fun cr' H15 g15 hcr => by
        have hst15 := g15 _ _ hst14
        have tl := TM.lst (o := .lst (svs ++ [sv])) hst15
        refine ⟨svs ++ [sv], cr', du, _, _, _, rfl, upd_same, by rw [List.length_append]; show svs.length + 1 ≤ _; omega, fun s hs => ?_, ?_, (B14.same g15).lst hst0 hst15⟩
        · rcases List.mem_append.mp hs with z | z
          · exact hsv s z
          · have e : s = sv := by simpa using z
            rw [e]; exact hsv12
        · rcases hdu with ⟨dt, e, kt⟩ | ⟨e, e2⟩
          · refine .on (dc := dt) (ds := ds ++ [dc]) ((kt.tm (TM.same (g14.trans g15))).tm tl) ?_ ?_
            · rw [fol_snoc f, e]; rfl
            · rw [crs_snoc dsl]; exact hcr.tm tl
          · exact .off e2 (by rw [fol_snoc f, e]; rfl)
      obtain ⟨p', y, uk, ep, hpk, hb⟩ := k14.brk
      have ep2 := V.ref.inj ep
      subst ep2
      have eb : inV (.str y) ((["shared", "exclusive"] : List Str).map V.str) = isBrk dc := by
        rw [inV_str, hb]
        congr 1
        simp
      refine ⟨fun σ' H' => ∃ cr', σ' = S15 z a ra v0 kd st cr' (.ref hp) (some (.int (0 + (i : Int)))) (some sv) (some du) none none none none ∧ Same H14 H' ∧ Cr H' cr' (svs ++ [sv]) (match crs svs (ds ++ [dc]) with
          | some i => some i
          | none => if (decide (sv = .str "^") && isBrk dc) then some svs.length else none),
        ⟨fun b H' => Same H14 H' ∧ b = ((decide (sv = V.str "^") && isBrk dc) && decide (cr = V.non)), ?_, ?_⟩, ?_⟩
      · refine ⟨_, rfl, sc, _, rfl, ite2 (fun c1 => ?_) (fun c1 => ⟨.refl _, by rw [Bool.eq_false_iff.mpr c1]; rfl⟩)⟩
        refine ⟨_, rfl, hp, _, 0, _, rfl, rfl, .inl (.inl hpk), atI_0, by show 2 ≤ sizeLine; decide, fun l2 hl2 => ⟨l2, _, rfl, .inl (SqL.of upd_same), rfl, rfl, _, rfl, ite2 (fun c2 => ?_) (fun c2 => ?_)⟩⟩
        · have c2' : isBrk dc = true := eb.symm.trans c2
          refine ⟨_, rfl, rfl, _, rfl, same_new hl2 _, ?_⟩
          rw [show decide (sv = V.str "^") = true from c1, c2']; rfl
        · have c2' : isBrk dc = false := eb.symm.trans (Bool.eq_false_iff.mpr c2)
          refine ⟨same_new hl2 _, ?_⟩
          rw [c2', Bool.and_false, Bool.false_and]
      · rintro b H15 ⟨g15, rfl⟩
        have hst15 := g15 _ _ hst14
        have cc15 := cc14.tm (.same g15)
        refine ite2 (fun c1 => ?_) (fun c1 => ⟨cr, rfl, g15, ?_⟩)
        · have c1' : ((decide (sv = V.str "^") && isBrk dc) && decide (cr = V.non)) = true := c1
          rw [Bool.and_eq_true] at c1'
          have ecr : cr = .non := of_decide_eq_true c1'.2
          refine ⟨_, rfl, st, svs, rfl, .inl ⟨SqL.of hst15, fun q' hq' => ⟨by show 2 ≤ sizeLine; decide, fun r' hr' => ?_⟩⟩⟩
          refine ⟨.ref r', rfl, g15.trans ((same_new hq' _).trans (same_new hr' _)), ?_⟩
          rcases cc15 with ⟨_, e⟩ | ⟨i', r, q, _, _, e, _⟩
          · rw [e]
            show Cr _ _ _ (if _ then _ else _)
            rw [if_pos c1'.1]
            refine .inr ⟨svs.length, r', q', rfl, by rw [List.length_append]; exact Nat.lt_succ_self _, rfl, upd_same, ?_⟩
            rw [List.take_append_of_le_length (Nat.le_refl _), List.take_of_length_le (Nat.le_refl _)]
            exact (same_new hr' _) _ _ upd_same
          · rw [ecr] at e; cases e
        · rcases cc15 with ⟨e0, e⟩ | ⟨i', r, q, e, hlt, e0, h1, h2⟩
          · rw [e]
            have c1' : ¬ (decide (sv = V.str "^") && isBrk dc) = true := fun z => c1 (by
              show ((decide (sv = V.str "^") && isBrk dc) && decide (cr = V.non)) = true
              rw [z, decide_eq_true e0]; rfl)
            show Cr _ _ _ (if _ then _ else _)
            rw [if_neg c1']
            exact .inl ⟨e0, rfl⟩
          · rw [e]
            refine .inr ⟨i', r, q, rfl, by rw [List.length_append]; exact Nat.lt_succ_of_lt hlt, e0, h1, ?_⟩
            rw [List.take_append_of_le_length (Nat.le_of_lt hlt)]
            exact h2
      · rintro σ' H15 ⟨cr', rfl, g15, hcr⟩
        have hst15 := g15 _ _ hst14
        refine ⟨_, rfl, .inl ⟨rfl, _, SqL.of hst15⟩, ?_⟩
        refine ⟨_, rfl, st, _, _, rfl, rfl, hst15, line_of (by omega), ?_⟩
        exact ⟨_, rfl, step cr' H15 g15 hcr⟩
  · rintro σ' H11 ⟨svs, cr, he, o1, o2, o3, rfl, hst11, hlen, hsv, here, B11⟩
    refine ⟨_, rfl, st, svs, rfl, .inl ⟨SqL.of hst11, fun sp hsp => ⟨by show 2 ≤ sizeLine; decide, fun pl hpl => ?_⟩⟩⟩
    have B12 := (B11.new (o := .tup svs) hsp).new (o := .tup [.str "v", .ref sp]) hpl
    have g12 := (same_new hsp (.tup svs)).trans (same_new hpl (.tup [.str "v", .ref sp]))
    have here12 := here.tm (.same g12)
    have hst12 := g12 _ _ hst11
    have gv : Gd 22 "v" := (gd_lit _ (by decide +kernel)).mono (by decide)
    have pl12 : Pl _ pl "v" sp svs := ⟨upd_same, (same_new hpl (.tup [.str "v", .ref sp])) _ _ upd_same, hsv⟩
    have l50 : svs.length ≤ 50 := by omega
    refine ⟨_, rfl, _, rfl, _, rfl, 1, ra, kd, us, tb, .ref pl, .non, .non, rfl, B12.fra, B12.frc, B12.fkd, .inr ⟨.inl rfl, pl, "v", svs, rfl, ⟨⟨sp, pl12.p, pl12.s⟩, l50, hsv, gv, B12.fra, B12.fkd⟩, fun h => absurd hvi h, fun v hv => ⟨d0, (Option.some.inj (hv1.symm.trans hv)) ▸ B12.fkv, fun r H13 g13 hr13 => ?_⟩⟩⟩
    have B13 := B12.same g13
    have here13 := here12.tm (.same g13)
    obtain ⟨sh1, an1⟩ := here13.ans1 (K := K)
    refine ⟨fun v H' => Dp K H' v (ansOf 1 "v" d0 svs) ∧ H' = H13, ⟨_, rfl, rfl, _, rfl, ite2 (fun c1 => ?_) (fun c1 => ?_)⟩, ?_⟩
    · rcases an1 with ⟨_, e⟩ | ⟨e, _⟩
      · rw [e]; exact ⟨.str _, rfl⟩
      · exact absurd (of_decide_eq_true c1) e
    · rcases an1 with ⟨e, _⟩ | ⟨_, e⟩
      · exact absurd (decide_eq_true e) c1
      · exact ⟨_, rfl, e, rfl⟩
    rintro v13 H13 ⟨hv13, rfl⟩
    refine ne_dp hr13 hv13 sh1 ⟨_, rfl, iteF ?_⟩
    have pl13 := pl12.same g13
    refine ⟨_, rfl, _, rfl, _, rfl, 2, ra, kd, us, tb, .ref pl, .non, .non, rfl, B13.fra, B13.frc, B13.fkd, .inr ⟨.inr rfl, pl, "v", svs, rfl, ⟨⟨sp, pl13.p, pl13.s⟩, l50, hsv, gv, B13.fra, B13.fkd⟩, fun h => absurd hvi h, fun v hv => ⟨d0, (Option.some.inj (hv1.symm.trans hv)) ▸ B13.fkv, fun r H14 g14 hr14 => ?_⟩⟩⟩
    have B14 := B13.same g14
    have here14 := here13.tm (.same g14)
    obtain ⟨sh2, an2⟩ := here14.ans2 (K := K) hsv
    refine ⟨fun v H' => Dp K H' v (ansOf 2 "v" d0 svs) ∧ H' = H14, ⟨_, rfl, rfl, _, rfl, ite2 (fun c1 => ?_) (fun c1 => ?_)⟩, ?_⟩
    · rcases an2 with ⟨_, e⟩ | ⟨e, _⟩
      · rw [e]; exact ⟨.str _, rfl⟩
      · exact absurd (of_decide_eq_true c1) e
    · rcases an2 with ⟨e, _⟩ | ⟨_, e⟩
      · exact absurd (decide_eq_true e) c1
      · exact ⟨_, rfl, e, rfl⟩
    rintro v14 H14 ⟨hv14, rfl⟩
    refine ne_dp hr14 hv14 sh2 ⟨_, rfl, iteF ?_⟩
    have pl14 := pl13.same g14
    have hst14 := g14 _ _ (g13 _ _ hst12)
    refine ⟨_, rfl, _, rfl, _, rfl, _, rfl, st, _, rfl, SqL.of hst14, fun c hc => ⟨c, _, rfl, .inl ⟨SqL.of upd_same, fun t ht => ?_⟩⟩⟩
    have B16 := (B14.new (o := .lst (cutV svs none (some 11))) hc).new (o := .tup (cutV svs none (some 11))) ht
    have g16 := (same_new hc (.lst (cutV svs none (some 11)))).trans (same_new ht (.tup (cutV svs none (some 11))))
    refine ⟨ra, kd, t, us, _, tb, rfl, B16.fra, B16.frc, B16.fkd, hnu, upd_same, fun s h => hsv s (mem_cut h), Nat.le_trans (cutV_length _ _ _) (by omega), fun H17 g17 => ⟨true, rfl, iteF ?_⟩⟩
    have B17 := B16.same g17
    have pl17 := (pl14.same g16).same g17
    have hst17 := g17 _ _ (g16 _ _ hst14)
    refine ⟨by show 3 ≤ sizeLine; decide, fun l hl => ?_⟩
    have B18 := B17.new (o := .lst [.str "v", .str "v", .str "w"]) hl
    have pl18 := pl17.same (same_new hl (.lst [.str "v", .str "v", .str "w"]))
    have hst18 := (same_new hl (.lst [.str "v", .str "v", .str "w"])) _ _ hst17
    have la := B17.st.ne hl
    refine ⟨_, rfl, a, 3, rfl, B18.st, by decide, by decide, fun n1 H19 n10 n11 st19 b19 => ?_⟩
    have B19 := B18.but b19 st19
    obtain ⟨x, hx, hx'⟩ := atI_ex (l := [V.str "v", V.str "v", V.str "w"]) n10 (by show n1 < 3; exact n11)
    obtain ⟨y, rfl⟩ : ∃ y, x = .str y := by
      have hm : x = V.str "v" ∨ x = V.str "v" ∨ x = V.str "w" := by simpa using mem_of_get hx
      rcases hm with e | e | e <;> exact ⟨_, e⟩
    have sta2 : st ≠ a := sta
    refine ⟨l, _, _, _, rfl, rfl, SqL.of (b19.go _ _ la upd_same), hx', ?_⟩
    refine ⟨_, rfl, _, rfl, a, 6, rfl, B19.st, by decide, by decide, fun n2 H20 n20 n21 st20 b20 => ?_⟩
    have B20 := B19.but b20 st20
    have hst20 := b20.go _ _ sta (b19.go _ _ sta hst18)
    have pl20 := (pl18.tm (TM.but b19 B18.st)).tm (TM.but b20 B19.st)
    refine ⟨_, rfl, st, _, rfl, SqL.of hst20, fun c2 hc2 => ⟨c2, _, rfl, .inl ⟨SqL.of upd_same, fun t2 ht2 => ⟨by show 2 ≤ sizeLine; decide, fun o ho => ?_⟩⟩⟩⟩
    have B23 := ((B20.new (o := .lst (cutV svs none (some n2))) hc2).new (o := .tup (cutV svs none (some n2))) ht2).new (o := .tup [.str y, .ref t2]) ho
    have g23 := (same_new hc2 (.lst (cutV svs none (some n2)))).trans ((same_new ht2 (.tup (cutV svs none (some n2)))).trans (same_new ho (.tup [.str y, .ref t2])))
    have pl23 := pl20.same g23
    have po23 : Pl _ o y t2 (cutV svs none (some n2)) := ⟨upd_same, (same_new ho (.tup [.str y, .ref t2])) _ _ upd_same, fun s h => hsv s (mem_cut h)⟩
    have lc : (cutV svs none (some n2)).length ≤ 49 := Nat.le_trans (cutV_length _ _ _) (by omega)
    refine ⟨fun σ' H' => ∃ o s2 st2, σ' = S15 z a ra v0 kd st cr he o1 o2 o3 (some (.ref pl)) (some (.ref o)) none none ∧ Pl H' o y s2 st2 ∧ Pl H' pl "v" sp svs ∧ Bs a ra kd w0 us tb v0 d0 H3 H', ?_, ?_⟩
    · refine ⟨_, rfl, a, 3, rfl, B23.st, by decide, by decide, fun n3 H24 n30 n31 st24 b24 => ⟨rfl, _, rfl, ?_⟩⟩
      have B24 := B23.but b24 st24
      have t24 := TM.but b24 B23.st
      have po24 := po23.tm t24
      have pl24 := pl23.tm t24
      refine ite2 (fun _ => ?_) (fun _ => ⟨o, t2, _, rfl, po24, pl24, B24⟩)
      refine ⟨_, rfl, o, _, 0, _, rfl, rfl, .inl (.inl po24.p), atI_0, fun v H' => ∃ s3 st3, v = .ref s3 ∧ H' s3 = some (.tup st3) ∧ (∀ s ∈ st3, StepV s) ∧ Same H24 H', ?_, ?_⟩
      · refine ⟨_, rfl, o, _, 1, _, rfl, rfl, .inl (.inl po24.p), atI_1, by show 1 ≤ sizeLine; decide, fun n1' hn1 => ?_⟩
        have gn := same_new hn1 (.tup [.str "n"])
        have hs1 : ∀ v ∈ [V.str "n"], StepV v := fun v hv => by
          have e : v = V.str "n" := by simpa using hv
          rw [e]; exact stepS _ (by decide +kernel)
        exact ⟨t2, n1', _, [.str "n"], rfl, rfl, .inl (.inl (gn _ _ po24.s)), .inl (.inl upd_same), line_of (by show (cutV svs none (some n2)).length + 1 ≤ _; omega), fun _ => ⟨n1', _, rfl, upd_same, hs1, gn⟩, fun _ e => (by cases e),
          fun _ _ c hc => ⟨c, _, rfl, upd_same, fun v hv => (List.mem_append.mp hv).elim (po24.st v) (hs1 v), gn.trans (same_new hc _)⟩⟩
      · rintro v H25 ⟨s3, st3, rfl, hs3, hst3, g25⟩
        refine ⟨by show 2 ≤ sizeLine; decide, fun o2' ho2 => ?_⟩
        have gf := same_new ho2 (.tup [.str y, .ref s3])
        exact ⟨o2', s3, st3, rfl, ⟨upd_same, gf _ _ hs3, hst3⟩, (pl24.same g25).same gf, (B24.same g25).new ho2⟩
    · rintro σ' H24 ⟨o, s2, st2, rfl, po24, pl24, B24⟩
      have pq : ∀ {H' : Hp} {p : Addr} {x : Str} {s : Addr} {zs : List V}, Pl H' p x s zs → SqT K H' p [.str x, .ref s] := fun h => .inl (.inl h.p)
      refine ⟨fun v H' => v = .bl (decide (V.str y = V.str "v") && same svs st2) ∧ Same H24 H', ⟨_, rfl, o, _, 0, _, rfl, rfl, pq po24, atI_0, rfl, _, rfl, ite2 (fun c1 => ?_) (fun c1 => ?_)⟩, ?_⟩
      · refine ⟨_, rfl, pl, _, 1, _, rfl, rfl, pq pl24, atI_1, fun v H' => ∃ r, v = .ref r ∧ H' r = some (.tup (st2.take svs.length)) ∧ Same H24 H', ?_, ?_⟩
        · exact ⟨_, rfl, o, _, 1, _, rfl, rfl, pq po24, atI_1, _, rfl, pl, _, 1, _, rfl, rfl, pq pl24, atI_1, sp, _, rfl, .inr (.inl (.inl pl24.s)), _, rfl, s2, st2, rfl, .inl (.inl po24.s), fun e => ⟨s2, rfl, by rw [take_all e]; exact po24.s, .refl _⟩, fun _ r hr2 => ⟨r, rfl, by rw [upd_same, cut_take], same_new hr2 _⟩⟩
        · rintro v H25 ⟨r, rfl, hr25, g25⟩
          refine same_dp (g25 _ _ pl24.s) hr25 hsv po24.st ⟨?_, g25⟩
          rw [show decide (V.str y = V.str "v") = true from c1]; rfl
      · have c1' : decide (V.str y = V.str "v") = false := Bool.eq_false_iff.mpr c1
        rw [c1']
        exact ⟨rfl, .refl _⟩
      rintro _ H25 ⟨rfl, g25⟩
      have po25 := po24.same g25
      have pl25 := pl24.same g25
      have B25 := B24.same g25
      refine ⟨fun v H' => v = .bl (decide (V.str y = V.str "v") && same st2 svs) ∧ Same H25 H', ⟨_, rfl, o, _, 0, _, rfl, rfl, pq po25, atI_0, rfl, _, rfl, ite2 (fun c1 => ?_) (fun c1 => ?_)⟩, ?_⟩
      · refine ⟨_, rfl, o, _, 1, _, rfl, rfl, pq po25, atI_1, fun v H' => ∃ r, v = .ref r ∧ H' r = some (.tup (svs.take st2.length)) ∧ Same H25 H', ?_, ?_⟩
        · exact ⟨_, rfl, pl, _, 1, _, rfl, rfl, pq pl25, atI_1, _, rfl, o, _, 1, _, rfl, rfl, pq po25, atI_1, s2, _, rfl, .inr (.inl (.inl po25.s)), _, rfl, sp, svs, rfl, .inl (.inl pl25.s), fun e => ⟨sp, rfl, by rw [take_all e]; exact pl25.s, .refl _⟩, fun _ r hr2 => ⟨r, rfl, by rw [upd_same, cut_take], same_new hr2 _⟩⟩
        · rintro v H26 ⟨r, rfl, hr26, g26⟩
          refine same_dp (g26 _ _ po25.s) hr26 po25.st hsv ⟨?_, g26⟩
          rw [show decide (V.str y = V.str "v") = true from c1]; rfl
      · have c1' : decide (V.str y = V.str "v") = false := Bool.eq_false_iff.mpr c1
        rw [c1']
        exact ⟨rfl, .refl _⟩
      rintro _ H26 ⟨rfl, g26⟩
      have po26 := po25.same g26
      have pl26 := pl25.same g26
      have B26 := B25.same g26
      have ey : decide (V.str "v" = V.str y) = decide (V.str y = V.str "v") := by
        rw [Bool.eq_iff_iff, decide_eq_true_iff, decide_eq_true_iff]; exact eq_comm
      have e1 : pfx "v" svs y st2 = (decide (V.str y = V.str "v") && same svs st2) := by unfold pfx; rw [ey]
      have e2 : pfx y st2 "v" svs = (decide (V.str y = V.str "v") && same st2 svs) := rfl
      rw [← e1, ← e2]
      refine ⟨fun b H' => b = false ∧ Same H26 H', ⟨_, rfl, _, rfl, pl, o, sp, s2, "v", y, svs, st2, rfl, pl26, po26, fun H27 g27 => ⟨_, rfl, _, rfl, _, rfl, iteF ?_⟩⟩, ?_⟩
      · exact ⟨_, rfl, _, rfl, o, pl, s2, sp, y, "v", st2, svs, rfl, po26.same g27, pl26.same g27, fun H28 g28 => ⟨_, rfl, _, rfl, _, rfl, rfl, g27.trans g28⟩⟩
      rintro _ H27 ⟨rfl, g27⟩
      refine iteF ?_
      have po27 := po26.same g27
      have pl27 := pl26.same g27
      have B27 := B26.same g27
      refine ⟨fun v H' => v = .bl true ∧ True, ⟨_, rfl, _, rfl, pl, o, sp, s2, "v", y, svs, st2, rfl, pl27, po27, fun H28 g28 => ?_⟩, fun v H' h => by rw [h.1]; exact q H'⟩
      refine ⟨fun v H' => v = .bl (pfx "v" svs y st2 || pfx y st2 "v" svs) ∧ H' = H28, ⟨_, rfl, _, rfl, ite2 (fun c => ?_) (fun c => ?_)⟩, ?_⟩
      · have c' : pfx "v" svs y st2 = true := c
        rw [c']; exact ⟨rfl, rfl⟩
      · have c' : pfx "v" svs y st2 = false := Bool.eq_false_iff.mpr c
        rw [c']; exact ⟨_, rfl, rfl, rfl⟩
      rintro _ H28 ⟨rfl, rfl⟩
      refine ⟨_, rfl, _, rfl, iteT ?_⟩
      have B28 := B27.same g28
      refine ⟨_, rfl, fun kd2 hkd2 => ⟨_, rfl, by show 1 ≤ sizeLine; decide, fun w2 hw2 => ⟨(same_new hw2 _) _ _ upd_same, [(.inr "v", v0), (.inr "w", .ref w2)], rfl, by show 2 ≤ 15; decide, ?_⟩⟩⟩
      rw [merge_tbl]
      have gk := (same_new hkd2 (.dK [])).trans (same_new hw2 (.tup [.str "int"]))
      have hk2 : (upd (upd H28 kd2 (.dK [])) w2 (.tup [.str "int"])) kd2 = some (.dK []) := (same_new hw2 _) _ _ upd_same
      have tk2 : TM (upd (upd H28 kd2 (.dK [])) w2 (.tup [.str "int"])) (upd (upd (upd H28 kd2 (.dK [])) w2 (.tup [.str "int"])) kd2 (.dK (keysOf (tbl v0 w2)))) := .put fun xs e => by rw [hk2] at e; cases e
      have tA := (TM.same gk).trans tk2
      have kdk : kd ≠ kd2 := ne_of_none B28.fkd hkd2
      refine ⟨.inr ⟨kd, kd2, keysOf tb, keysOf (tbl v0 w2), rfl, rfl, by rw [upd_ne kdk]; exact gk _ _ B28.fkd, upd_same, by rw [etb]; rfl, fun p hp => ?_⟩, rfl, trivial⟩
      rw [etb] at hp
      have k1 := B28.fkv.tm tA
      have k2 := B28.fkw.tm tA
      have k3 : KV _ 1 (.ref w2) (.tuple [.str "int"]) := .leaf (n := 0) (tk2 _ _ upd_same) (.inl rfl)
      have hp' : p = (.inr "v", v0) ∨ p = (.inr "w", .ref w0) := by
        rcases List.mem_cons.mp hp with e | hp
        · exact .inl e
        · rcases List.mem_cons.mp hp with e | hp
          · exact .inr e
          · cases hp
      rcases hp' with e | e
      · rw [e]; exact ⟨v0, tbl_v v0 w2, d0, k1.dp, k1.dp, k1.shape.1, Nat.le_trans k1.shape.2 (by decide)⟩
      · rw [e]; exact ⟨.ref w2, tbl_w v0 w2, _, k2.dp, k3.dp, k2.shape.1, Nat.le_trans k2.shape.2 (by decide)⟩
end
end Kk
namespace Kk
open PySem L2
theorem all_mk {l : PySem.W.OpenLaw} {w : World} {K : PySem.W.Frag} {h : Heap} {mg : Str → Option Value} {fa : Addr} (X : K.In h) (G : h.Ns mainGlobals mg) (hfa : mg "law" = some (.ref fa))
    {f0 : Addr} {od0 an0 : Option Addr} {sl0 : Array (Option Value)} {oc0 kV0 dc0 pm0 cd0 ct0 : Value}
    {f1 : Addr} {od1 an1 : Option Addr} {sl1 : Array (Option Value)} {oc1 kV1 dc1 pm1 cd1 ct1 : Value}
    {f2 : Addr} {od2 an2 : Option Addr} {sl2 : Array (Option Value)} {oc2 kV2 dc2 pm2 cd2 ct2 : Value}
    {f3 : Addr} {od3 an3 : Option Addr} {sl3 : Array (Option Value)} {oc3 kV3 dc3 pm3 cd3 ct3 : Value}
    {f4 : Addr} {od4 an4 : Option Addr} {sl4 : Array (Option Value)} {oc4 kV4 dc4 pm4 cd4 ct4 : Value}
    {f5 : Addr} {od5 an5 : Option Addr} {sl5 : Array (Option Value)} {oc5 kV5 dc5 pm5 cd5 ct5 : Value}
    {f6 : Addr} {od6 an6 : Option Addr} {sl6 : Array (Option Value)} {oc6 kV6 dc6 pm6 cd6 ct6 : Value}
    {f7 : Addr} {od7 an7 : Option Addr} {sl7 : Array (Option Value)} {oc7 kV7 dc7 pm7 cd7 ct7 : Value}
    {f8 : Addr} {od8 an8 : Option Addr} {sl8 : Array (Option Value)} {oc8 kV8 dc8 pm8 cd8 ct8 : Value}
    {f9 : Addr} {od9 an9 : Option Addr} {sl9 : Array (Option Value)} {oc9 kV9 dc9 pm9 cd9 ct9 : Value}
    {f10 : Addr} {od10 an10 : Option Addr} {sl10 : Array (Option Value)} {oc10 kV10 dc10 pm10 cd10 ct10 : Value}
    {f11 : Addr} {od11 an11 : Option Addr} {sl11 : Array (Option Value)} {oc11 kV11 dc11 pm11 cd11 ct11 : Value}
    {f12 : Addr} {od12 an12 : Option Addr} {sl12 : Array (Option Value)} {oc12 kV12 dc12 pm12 cd12 ct12 : Value}
    {f13 : Addr} {od13 an13 : Option Addr} {sl13 : Array (Option Value)} {oc13 kV13 dc13 pm13 cd13 ct13 : Value}
    {f14 : Addr} {od14 an14 : Option Addr} {sl14 : Array (Option Value)} {oc14 kV14 dc14 pm14 cd14 ct14 : Value}
    {f15 : Addr} {od15 an15 : Option Addr} {sl15 : Array (Option Value)} {oc15 kV15 dc15 pm15 cd15 ct15 : Value}
    {f16 : Addr} {od16 an16 : Option Addr} {sl16 : Array (Option Value)} {oc16 kV16 dc16 pm16 cd16 ct16 : Value}
    {f17 : Addr} {od17 an17 : Option Addr} {sl17 : Array (Option Value)} {oc17 kV17 dc17 pm17 cd17 ct17 : Value}
    {f18 : Addr} {od18 an18 : Option Addr} {sl18 : Array (Option Value)} {oc18 kV18 dc18 pm18 cd18 ct18 : Value}
    {f19 : Addr} {od19 an19 : Option Addr} {sl19 : Array (Option Value)} {oc19 kV19 dc19 pm19 cd19 ct19 : Value}
    {f20 : Addr} {od20 an20 : Option Addr} {sl20 : Array (Option Value)} {oc20 kV20 dc20 pm20 cd20 ct20 : Value}
    {f21 : Addr} {od21 an21 : Option Addr} {sl21 : Array (Option Value)} {oc21 kV21 dc21 pm21 cd21 ct21 : Value}
    {C_NoSuchStep : Addr}
    {C_NoSuchVariable : Addr}
    {C_ForkError : Addr}
    {C_KindProblem : Addr}
    {C_NoSuchFunction : Addr}
    {C_NotAllocated : Addr}
    {C_Refused : Addr}
    {A_BORROWS : Addr} {D_BORROWS : Option Addr} {N_BORROWS : Nat} {S_BORROWS : Array (Option Value)} {t0_BORROWS t1_BORROWS : Tok}
    (a0 : PySem.W.nsIn K mainGlobals "is_item" = some (some (.ref f0)))
    (l0 : K.lookup f0 = some ⟨oc0, od0, .func (PySem.W.fnOf "is_item" "is_item" (defArgs s_is_item) (defBody s_is_item) (defScope s_is_item) .none kV0 dc0 pm0 an0 cd0 ct0), sl0⟩)
    (c0 : PySem.W.codeIn K cd0 "is_item" = true) (k0 : PySem.W.keepIn K (.ref f0) = true)
    (a1 : PySem.W.nsIn K mainGlobals "fields_of" = some (some (.ref f1)))
    (l1 : K.lookup f1 = some ⟨oc1, od1, .func (PySem.W.fnOf "fields_of" "fields_of" (defArgs s_fields_of) (defBody s_fields_of) (defScope s_fields_of) .none kV1 dc1 pm1 an1 cd1 ct1), sl1⟩)
    (c1 : PySem.W.codeIn K cd1 "fields_of" = true) (k1 : PySem.W.keepIn K (.ref f1) = true)
    (a2 : PySem.W.nsIn K mainGlobals "_law_tape" = some (some (.ref f2)))
    (l2 : K.lookup f2 = some ⟨oc2, od2, .func (PySem.W.fnOf "_law_tape" "_law_tape" (defArgs s__law_tape) (defBody s__law_tape) (defScope s__law_tape) .none kV2 dc2 pm2 an2 cd2 ct2), sl2⟩)
    (c2 : PySem.W.codeIn K cd2 "_law_tape" = true) (k2 : PySem.W.keepIn K (.ref f2) = true)
    (a3 : PySem.W.nsIn K mainGlobals "_law_next" = some (some (.ref f3)))
    (l3 : K.lookup f3 = some ⟨oc3, od3, .func (PySem.W.fnOf "_law_next" "_law_next" (defArgs s__law_next) (defBody s__law_next) (defScope s__law_next) .none kV3 dc3 pm3 an3 cd3 ct3), sl3⟩)
    (c3 : PySem.W.codeIn K cd3 "_law_next" = true) (k3 : PySem.W.keepIn K (.ref f3) = true)
    (a4 : PySem.W.nsIn K mainGlobals "_law_fields" = some (some (.ref f4)))
    (l4 : K.lookup f4 = some ⟨oc4, od4, .func (PySem.W.fnOf "_law_fields" "_law_fields" (defArgs s__law_fields) (defBody s__law_fields) (defScope s__law_fields) .none kV4 dc4 pm4 an4 cd4 ct4), sl4⟩)
    (c4 : PySem.W.codeIn K cd4 "_law_fields" = true) (k4 : PySem.W.keepIn K (.ref f4) = true)
    (a5 : PySem.W.nsIn K mainGlobals "_law_records" = some (some (.ref f5)))
    (l5 : K.lookup f5 = some ⟨oc5, od5, .func (PySem.W.fnOf "_law_records" "_law_records" (defArgs s__law_records) (defBody s__law_records) (defScope s__law_records) .none kV5 dc5 pm5 an5 cd5 ct5), sl5⟩)
    (c5 : PySem.W.codeIn K cd5 "_law_records" = true) (k5 : PySem.W.keepIn K (.ref f5) = true)
    (a6 : PySem.W.nsIn K mainGlobals "_law_cells" = some (some (.ref f6)))
    (l6 : K.lookup f6 = some ⟨oc6, od6, .func (PySem.W.fnOf "_law_cells" "_law_cells" (defArgs s__law_cells) (defBody s__law_cells) (defScope s__law_cells) .none kV6 dc6 pm6 an6 cd6 ct6), sl6⟩)
    (c6 : PySem.W.codeIn K cd6 "_law_cells" = true) (k6 : PySem.W.keepIn K (.ref f6) = true)
    (a7 : PySem.W.nsIn K mainGlobals "_law_fitting" = some (some (.ref f7)))
    (l7 : K.lookup f7 = some ⟨oc7, od7, .func (PySem.W.fnOf "_law_fitting" "_law_fitting" (defArgs s__law_fitting) (defBody s__law_fitting) (defScope s__law_fitting) .none kV7 dc7 pm7 an7 cd7 ct7), sl7⟩)
    (c7 : PySem.W.codeIn K cd7 "_law_fitting" = true) (k7 : PySem.W.keepIn K (.ref f7) = true)
    (a8 : PySem.W.nsIn K mainGlobals "_law_kind" = some (some (.ref f8)))
    (l8 : K.lookup f8 = some ⟨oc8, od8, .func (PySem.W.fnOf "_law_kind" "_law_kind" (defArgs s__law_kind) (defBody s__law_kind) (defScope s__law_kind) .none kV8 dc8 pm8 an8 cd8 ct8), sl8⟩)
    (c8 : PySem.W.codeIn K cd8 "_law_kind" = true) (k8 : PySem.W.keepIn K (.ref f8) = true)
    (a9 : PySem.W.nsIn K mainGlobals "_law_step" = some (some (.ref f9)))
    (l9 : K.lookup f9 = some ⟨oc9, od9, .func (PySem.W.fnOf "_law_step" "_law_step" (defArgs s__law_step) (defBody s__law_step) (defScope s__law_step) .none kV9 dc9 pm9 an9 cd9 ct9), sl9⟩)
    (c9 : PySem.W.codeIn K cd9 "_law_step" = true) (k9 : PySem.W.keepIn K (.ref f9) = true)
    (a10 : PySem.W.nsIn K mainGlobals "_law_after" = some (some (.ref f10)))
    (l10 : K.lookup f10 = some ⟨oc10, od10, .func (PySem.W.fnOf "_law_after" "_law_after" (defArgs s__law_after) (defBody s__law_after) (defScope s__law_after) .none kV10 dc10 pm10 an10 cd10 ct10), sl10⟩)
    (c10 : PySem.W.codeIn K cd10 "_law_after" = true) (k10 : PySem.W.keepIn K (.ref f10) = true)
    (a11 : PySem.W.nsIn K mainGlobals "kind_after" = some (some (.ref f11)))
    (l11 : K.lookup f11 = some ⟨oc11, od11, .func (PySem.W.fnOf "kind_after" "kind_after" (defArgs s_kind_after) (defBody s_kind_after) (defScope s_kind_after) .none kV11 dc11 pm11 an11 cd11 ct11), sl11⟩)
    (c11 : PySem.W.codeIn K cd11 "kind_after" = true) (k11 : PySem.W.keepIn K (.ref f11) = true)
    (a12 : PySem.W.nsIn K mainGlobals "kinds_along" = some (some (.ref f12)))
    (l12 : K.lookup f12 = some ⟨oc12, od12, .func (PySem.W.fnOf "kinds_along" "kinds_along" (defArgs s_kinds_along) (defBody s_kinds_along) (defScope s_kinds_along) .none kV12 dc12 pm12 an12 cd12 ct12), sl12⟩)
    (c12 : PySem.W.codeIn K cd12 "kinds_along" = true) (k12 : PySem.W.keepIn K (.ref f12) = true)
    (a13 : PySem.W.nsIn K mainGlobals "kind_at" = some (some (.ref f13)))
    (l13 : K.lookup f13 = some ⟨oc13, od13, .func (PySem.W.fnOf "kind_at" "kind_at" (defArgs s_kind_at) (defBody s_kind_at) (defScope s_kind_at) .none kV13 dc13 pm13 an13 cd13 ct13), sl13⟩)
    (c13 : PySem.W.codeIn K cd13 "kind_at" = true) (k13 : PySem.W.keepIn K (.ref f13) = true)
    (a14 : PySem.W.nsIn K mainGlobals "crossed" = some (some (.ref f14)))
    (l14 : K.lookup f14 = some ⟨oc14, od14, .func (PySem.W.fnOf "crossed" "crossed" (defArgs s_crossed) (defBody s_crossed) (defScope s_crossed) .none kV14 dc14 pm14 an14 cd14 ct14), sl14⟩)
    (c14 : PySem.W.codeIn K cd14 "crossed" = true) (k14 : PySem.W.keepIn K (.ref f14) = true)
    (a15 : PySem.W.nsIn K mainGlobals "_law_caught" = some (some (.ref f15)))
    (l15 : K.lookup f15 = some ⟨oc15, od15, .func (PySem.W.fnOf "_law_caught" "_law_caught" (defArgs s__law_caught) (defBody s__law_caught) (defScope s__law_caught) .none kV15 dc15 pm15 an15 cd15 ct15), sl15⟩)
    (c15 : PySem.W.codeIn K cd15 "_law_caught" = true) (k15 : PySem.W.keepIn K (.ref f15) = true)
    (a16 : PySem.W.nsIn K mainGlobals "_law_told" = some (some (.ref f16)))
    (l16 : K.lookup f16 = some ⟨oc16, od16, .func (PySem.W.fnOf "_law_told" "_law_told" (defArgs s__law_told) (defBody s__law_told) (defScope s__law_told) .none kV16 dc16 pm16 an16 cd16 ct16), sl16⟩)
    (c16 : PySem.W.codeIn K cd16 "_law_told" = true) (k16 : PySem.W.keepIn K (.ref f16) = true)
    (a17 : PySem.W.nsIn K mainGlobals "is_prefix" = some (some (.ref f17)))
    (l17 : K.lookup f17 = some ⟨oc17, od17, .func (PySem.W.fnOf "is_prefix" "is_prefix" (defArgs s_is_prefix) (defBody s_is_prefix) (defScope s_is_prefix) .none kV17 dc17 pm17 an17 cd17 ct17), sl17⟩)
    (c17 : PySem.W.codeIn K cd17 "is_prefix" = true) (k17 : PySem.W.keepIn K (.ref f17) = true)
    (a18 : PySem.W.nsIn K mainGlobals "overlap" = some (some (.ref f18)))
    (l18 : K.lookup f18 = some ⟨oc18, od18, .func (PySem.W.fnOf "overlap" "overlap" (defArgs s_overlap) (defBody s_overlap) (defScope s_overlap) .none kV18 dc18 pm18 an18 cd18 ct18), sl18⟩)
    (c18 : PySem.W.codeIn K cd18 "overlap" = true) (k18 : PySem.W.keepIn K (.ref f18) = true)
    (a19 : PySem.W.nsIn K mainGlobals "_law_is" = some (some (.ref f19)))
    (l19 : K.lookup f19 = some ⟨oc19, od19, .func (PySem.W.fnOf "_law_is" "_law_is" (defArgs s__law_is) (defBody s__law_is) (defScope s__law_is) .none kV19 dc19 pm19 an19 cd19 ct19), sl19⟩)
    (c19 : PySem.W.codeIn K cd19 "_law_is" = true) (k19 : PySem.W.keepIn K (.ref f19) = true)
    (a20 : PySem.W.nsIn K mainGlobals "_law_unknown" = some (some (.ref f20)))
    (l20 : K.lookup f20 = some ⟨oc20, od20, .func (PySem.W.fnOf "_law_unknown" "_law_unknown" (defArgs s__law_unknown) (defBody s__law_unknown) (defScope s__law_unknown) .none kV20 dc20 pm20 an20 cd20 ct20), sl20⟩)
    (c20 : PySem.W.codeIn K cd20 "_law_unknown" = true) (k20 : PySem.W.keepIn K (.ref f20) = true)
    (a21 : PySem.W.nsIn K mainGlobals "law" = some (some (.ref f21)))
    (l21 : K.lookup f21 = some ⟨oc21, od21, .func (PySem.W.fnOf "law" "law" (defArgs s_law) (defBody s_law) (defScope s_law) .none kV21 dc21 pm21 an21 cd21 ct21), sl21⟩)
    (c21 : PySem.W.codeIn K cd21 "law" = true) (k21 : PySem.W.keepIn K (.ref f21) = true)
    (z_len : PySem.W.nsIn K mainGlobals "len" = some none)
    (z_int : PySem.W.nsIn K mainGlobals "int" = some none)
    (z_abs : PySem.W.nsIn K mainGlobals "abs" = some none)
    (z_isinstance : PySem.W.nsIn K mainGlobals "isinstance" = some none)
    (z_bool : PySem.W.nsIn K mainGlobals "bool" = some none)
    (z_range : PySem.W.nsIn K mainGlobals "range" = some none)
    (z_tuple : PySem.W.nsIn K mainGlobals "tuple" = some none)
    (z_sum : PySem.W.nsIn K mainGlobals "sum" = some none)
    (z_enumerate : PySem.W.nsIn K mainGlobals "enumerate" = some none)
    (xsg : PySem.W.nsIn K mainGlobals "NoSuchStep" = some (some (.ref C_NoSuchStep))) (xsx : PySem.W.excIn K C_NoSuchStep [.type "ValueError", .type "Exception", .type "BaseException", .type "object"] "ValueError.__new__" = true) (xsk : PySem.W.keepIn K (.ref C_NoSuchStep) = true) (xsb : PySem.W.subIn K (.ref C_NoSuchStep) (.type "BaseException") = some true) (xst : PySem.W.typeIn K (.ref C_NoSuchStep) = some (.type "type")) (xss : PySem.W.subIn K (.ref C_NoSuchStep) (.ref C_NoSuchStep) = some true)
    (xs1 : PySem.W.findIn K (.ref C_NoSuchStep) "__getattribute__" = some (some (.builtin "BaseException.__getattribute__"))) (xs2 : PySem.W.findIn K (.ref C_NoSuchStep) "__getattr__" = some none) (xs3 : PySem.W.hasDictIn K C_NoSuchStep = true) (xs4 : PySem.W.findIn K (.ref C_NoSuchStep) "__class__" = some (some (.builtin "object.__class__")))
    (xs5 : PySem.W.specialIn K (.builtin "object.__class__") "__get__" = some (some (.builtin "getset_descriptor.__get__"))) (xs6 : PySem.W.takesIn K (.builtin "object.__class__") = some true) (xs7 : PySem.W.mroIn K C_NoSuchStep (.type "object") = some true)
    (xvg : PySem.W.nsIn K mainGlobals "NoSuchVariable" = some (some (.ref C_NoSuchVariable))) (xvx : PySem.W.excIn K C_NoSuchVariable [.type "ValueError", .type "Exception", .type "BaseException", .type "object"] "ValueError.__new__" = true) (xvk : PySem.W.keepIn K (.ref C_NoSuchVariable) = true) (xvb : PySem.W.subIn K (.ref C_NoSuchVariable) (.type "BaseException") = some true) (xvt : PySem.W.typeIn K (.ref C_NoSuchVariable) = some (.type "type")) (xvs : PySem.W.subIn K (.ref C_NoSuchVariable) (.ref C_NoSuchVariable) = some true)
    (xv1 : PySem.W.findIn K (.ref C_NoSuchVariable) "__getattribute__" = some (some (.builtin "BaseException.__getattribute__"))) (xv2 : PySem.W.findIn K (.ref C_NoSuchVariable) "__getattr__" = some none) (xv3 : PySem.W.hasDictIn K C_NoSuchVariable = true) (xv4 : PySem.W.findIn K (.ref C_NoSuchVariable) "__class__" = some (some (.builtin "object.__class__")))
    (xv5 : PySem.W.specialIn K (.builtin "object.__class__") "__get__" = some (some (.builtin "getset_descriptor.__get__"))) (xv6 : PySem.W.takesIn K (.builtin "object.__class__") = some true) (xv7 : PySem.W.mroIn K C_NoSuchVariable (.type "object") = some true)
    (g_ForkError : PySem.W.nsIn K mainGlobals "ForkError" = some (some (.ref C_ForkError)))
    (g_KindProblem : PySem.W.nsIn K mainGlobals "KindProblem" = some (some (.ref C_KindProblem)))
    (g_NoSuchFunction : PySem.W.nsIn K mainGlobals "NoSuchFunction" = some (some (.ref C_NoSuchFunction)))
    (g_NotAllocated : PySem.W.nsIn K mainGlobals "NotAllocated" = some (some (.ref C_NotAllocated)))
    (g_Refused : PySem.W.nsIn K mainGlobals "Refused" = some (some (.ref C_Refused)))
    (i1 : PySem.W.kitOne K (.ref C_NoSuchStep) (.ref C_KindProblem) = some false)
    (i2 : PySem.W.kitOne K (.ref C_NoSuchStep) (.ref C_NoSuchFunction) = some false)
    (i3 : PySem.W.kitOne K (.ref C_NoSuchStep) (.ref C_NotAllocated) = some false)
    (i4 : PySem.W.kitOne K (.ref C_NoSuchStep) (.ref C_Refused) = some false)
    (i5 : PySem.W.kitOne K (.ref C_NoSuchStep) (.ref C_NoSuchStep) = some true)
    (i6 : PySem.W.kitOne K (.ref C_NoSuchStep) (.ref C_NoSuchVariable) = some false)
    (v1 : PySem.W.kitOne K (.ref C_NoSuchVariable) (.ref C_KindProblem) = some false)
    (v2 : PySem.W.kitOne K (.ref C_NoSuchVariable) (.ref C_NoSuchFunction) = some false)
    (v3 : PySem.W.kitOne K (.ref C_NoSuchVariable) (.ref C_NotAllocated) = some false)
    (v4 : PySem.W.kitOne K (.ref C_NoSuchVariable) (.ref C_Refused) = some false)
    (v5 : PySem.W.kitOne K (.ref C_NoSuchVariable) (.ref C_NoSuchStep) = some false)
    (v6 : PySem.W.kitOne K (.ref C_NoSuchVariable) (.ref C_NoSuchVariable) = some true)
    (b_BORROWS : PySem.W.nsIn K mainGlobals "BORROWS" = some (some (.ref A_BORROWS))) (v_BORROWS : K.lookup A_BORROWS = some ⟨.type "tuple", D_BORROWS, .seq #[.str "shared" t0_BORROWS, .str "exclusive" t1_BORROWS] N_BORROWS, S_BORROWS⟩)
    (fkb : PySem.W.subIn K (.ref C_ForkError) (.type "BaseException") = some true)
    (fk3 : PySem.W.hasDictIn K C_ForkError = true)
    (fkt : PySem.W.typeIn K (.ref C_ForkError) = some (.type "type"))
    (sf_ : PySem.W.subIn K (.ref C_NoSuchStep) (.ref C_ForkError) = some true)
    (vf_ : PySem.W.subIn K (.ref C_NoSuchVariable) (.ref C_ForkError) = some true) :
    ∃ fd : FuncData, (∀ (s : Shared) (v : Value), BindsTo s fd ⟨[v], []⟩ [("script", v)]) ∧ ∀ base : Heap, K.In base → base.Ns mainGlobals mg → FnOk l.prog w K mg base CX0 110 fa fd ["script"] (spLaw K) := by
  have e := hfa.symm.trans (PySem.W.mg_of X G a21)
  cases e
  let T : Txt7 K mg := {
    is_item := ⟨f0, _, fun_mk (st := s_is_item) l0 c0 k0, PySem.W.mg_of X G a0, (fun_mk (st := s_is_item) l0 c0 k0).binds (ps := ["items", "step"]) fun _ _ _ _ _ _ us hl => match us, hl with | [_, _], _ => rfl⟩,
    fields_of := ⟨f1, _, fun_mk (st := s_fields_of) l1 c1 k1, PySem.W.mg_of X G a1, (fun_mk (st := s_fields_of) l1 c1 k1).binds (ps := ["records", "name"]) fun _ _ _ _ _ _ us hl => match us, hl with | [_, _], _ => rfl⟩,
    _law_tape := ⟨f2, _, fun_mk (st := s__law_tape) l2 c2 k2, PySem.W.mg_of X G a2, (fun_mk (st := s__law_tape) l2 c2 k2).binds (ps := ["script"]) fun _ _ _ _ _ _ us hl => match us, hl with | [_], _ => rfl⟩,
    _law_next := ⟨f3, _, fun_mk (st := s__law_next) l3 c3 k3, PySem.W.mg_of X G a3, (fun_mk (st := s__law_next) l3 c3 k3).binds (ps := ["tape", "many"]) fun _ _ _ _ _ _ us hl => match us, hl with | [_, _], _ => rfl⟩,
    _law_fields := ⟨f4, _, fun_mk (st := s__law_fields) l4 c4 k4, PySem.W.mg_of X G a4, (fun_mk (st := s__law_fields) l4 c4 k4).binds (ps := ["name"]) fun _ _ _ _ _ _ us hl => match us, hl with | [_], _ => rfl⟩,
    _law_records := ⟨f5, _, fun_mk (st := s__law_records) l5 c5 k5, PySem.W.mg_of X G a5, (fun_mk (st := s__law_records) l5 c5 k5).binds (ps := ["tape"]) fun _ _ _ _ _ _ us hl => match us, hl with | [_], _ => rfl⟩,
    _law_cells := ⟨f6, _, fun_mk (st := s__law_cells) l6 c6 k6, PySem.W.mg_of X G a6, (fun_mk (st := s__law_cells) l6 c6 k6).binds (ps := ["kind"]) fun _ _ _ _ _ _ us hl => match us, hl with | [_], _ => rfl⟩,
    _law_fitting := ⟨f7, _, fun_mk (st := s__law_fitting) l7 c7 k7, PySem.W.mg_of X G a7, (fun_mk (st := s__law_fitting) l7 c7 k7).binds (ps := ["items", "most"]) fun _ _ _ _ _ _ us hl => match us, hl with | [_, _], _ => rfl⟩,
    _law_kind := ⟨f8, _, fun_mk (st := s__law_kind) l8 c8 k8, PySem.W.mg_of X G a8, (fun_mk (st := s__law_kind) l8 c8 k8).binds (ps := ["tape", "depth", "plain"]) fun _ _ _ _ _ _ us hl => match us, hl with | [_, _, _], _ => rfl⟩,
    _law_step := ⟨f9, _, fun_mk (st := s__law_step) l9 c9 k9, PySem.W.mg_of X G a9, (fun_mk (st := s__law_step) l9 c9 k9).binds (ps := ["tape", "kind"]) fun _ _ _ _ _ _ us hl => match us, hl with | [_, _], _ => rfl⟩,
    _law_after := ⟨f10, _, fun_mk (st := s__law_after) l10 c10 k10, PySem.W.mg_of X G a10, (fun_mk (st := s__law_after) l10 c10 k10).binds (ps := ["kind", "step"]) fun _ _ _ _ _ _ us hl => match us, hl with | [_, _], _ => rfl⟩,
    kind_after := ⟨f11, _, fun_mk (st := s_kind_after) l11 c11 k11, PySem.W.mg_of X G a11, (fun_mk (st := s_kind_after) l11 c11 k11).binds (ps := ["records", "kind", "step"]) fun _ _ _ _ _ _ us hl => match us, hl with | [_, _, _], _ => rfl⟩,
    kinds_along := ⟨f12, _, fun_mk (st := s_kinds_along) l12 c12 k12, PySem.W.mg_of X G a12, (fun_mk (st := s_kinds_along) l12 c12 k12).binds (ps := ["place", "records", "kinds"]) fun _ _ _ _ _ _ us hl => match us, hl with | [_, _, _], _ => rfl⟩,
    kind_at := ⟨f13, _, fun_mk (st := s_kind_at) l13 c13 k13, PySem.W.mg_of X G a13, ⟨fun s us ws _ hl => by
        obtain ⟨u, v1, v2, rfl, rfl⟩ := g3_len hl
        exact .of_eq rfl, g3_rel⟩⟩,
    crossed := ⟨f14, _, fun_mk (st := s_crossed) l14 c14 k14, PySem.W.mg_of X G a14, ⟨fun s us ws _ hl => by
        obtain ⟨u, v1, v2, rfl, rfl⟩ := g3_len hl
        exact .of_eq rfl, g3_rel⟩⟩,
    _law_caught := ⟨f15, _, fun_mk (st := s__law_caught) l15 c15 k15, PySem.W.mg_of X G a15, (fun_mk (st := s__law_caught) l15 c15 k15).binds (ps := ["problem"]) fun _ _ _ _ _ _ us hl => match us, hl with | [_], _ => rfl⟩,
    _law_told := ⟨f16, _, fun_mk (st := s__law_told) l16 c16 k16, PySem.W.mg_of X G a16, (fun_mk (st := s__law_told) l16 c16 k16).binds (ps := ["choice", "records", "kinds", "place", "kind", "step"]) fun _ _ _ _ _ _ us hl => match us, hl with | [_, _, _, _, _, _], _ => rfl⟩,
    is_prefix := ⟨f17, _, fun_mk (st := s_is_prefix) l17 c17 k17, PySem.W.mg_of X G a17, (fun_mk (st := s_is_prefix) l17 c17 k17).binds (ps := ["first", "second"]) fun _ _ _ _ _ _ us hl => match us, hl with | [_, _], _ => rfl⟩,
    overlap := ⟨f18, _, fun_mk (st := s_overlap) l18 c18 k18, PySem.W.mg_of X G a18, (fun_mk (st := s_overlap) l18 c18 k18).binds (ps := ["first", "second"]) fun _ _ _ _ _ _ us hl => match us, hl with | [_, _], _ => rfl⟩,
    _law_is := ⟨f19, _, fun_mk (st := s__law_is) l19 c19 k19, PySem.W.mg_of X G a19, (fun_mk (st := s__law_is) l19 c19 k19).binds (ps := ["answer", "due"]) fun _ _ _ _ _ _ us hl => match us, hl with | [_, _], _ => rfl⟩,
    _law_unknown := ⟨f20, _, fun_mk (st := s__law_unknown) l20 c20 k20, PySem.W.mg_of X G a20, (fun_mk (st := s__law_unknown) l20 c20 k20).binds (ps := ["records", "kinds", "steps"]) fun _ _ _ _ _ _ us hl => match us, hl with | [_, _, _], _ => rfl⟩,
    law := ⟨fa, _, fun_mk (st := s_law) l21 c21 k21, PySem.W.mg_of X G a21, (fun_mk (st := s_law) l21 c21 k21).binds (ps := ["script"]) fun _ _ _ _ _ _ us hl => match us, hl with | [_], _ => rfl⟩,
    z_len := PySem.W.mg_none_of X G z_len,
    z_int := PySem.W.mg_none_of X G z_int,
    z_abs := PySem.W.mg_none_of X G z_abs,
    z_isinstance := PySem.W.mg_none_of X G z_isinstance,
    z_bool := PySem.W.mg_none_of X G z_bool,
    z_range := PySem.W.mg_none_of X G z_range,
    z_tuple := PySem.W.mg_none_of X G z_tuple,
    z_sum := PySem.W.mg_none_of X G z_sum,
    z_enumerate := PySem.W.mg_none_of X G z_enumerate,
    c_NoSuchStep := ⟨C_NoSuchStep, PySem.W.mg_of X G xsg, xsx, xsk, xsb, xst, ⟨xs1, xs2, xsb, xs3, xs4, xs5, xs6, xs7⟩, PySem.W.exm_ref xsb xs3 xst xss⟩,
    c_NoSuchVariable := ⟨C_NoSuchVariable, PySem.W.mg_of X G xvg, xvx, xvk, xvb, xvt, ⟨xv1, xv2, xvb, xv3, xv4, xv5, xv6, xv7⟩, PySem.W.exm_ref xvb xv3 xvt xvs⟩,
    sf := PySem.W.exm_ref fkb fk3 fkt sf_,
    vf := PySem.W.exm_ref fkb fk3 fkt vf_,
    c_ForkError := ⟨C_ForkError, PySem.W.mg_of X G g_ForkError⟩,
    c_KindProblem := ⟨C_KindProblem, PySem.W.mg_of X G g_KindProblem⟩,
    c_NoSuchFunction := ⟨C_NoSuchFunction, PySem.W.mg_of X G g_NoSuchFunction⟩,
    c_NotAllocated := ⟨C_NotAllocated, PySem.W.mg_of X G g_NotAllocated⟩,
    c_Refused := ⟨C_Refused, PySem.W.mg_of X G g_Refused⟩,
    i1 := i1,
    i2 := i2,
    i3 := i3,
    i4 := i4,
    i5 := i5,
    i6 := i6,
    v1 := v1,
    v2 := v2,
    v3 := v3,
    v4 := v4,
    v5 := v5,
    v6 := v6,
    a_BORROWS := A_BORROWS,
    g_BORROWS := PySem.W.mg_of X G b_BORROWS,
    t_BORROWS := fun _ => .inr ⟨_, _, _, v_BORROWS, rfl, rfl, by show 2 ≤ sizeLine; decide, (.cons ⟨t0_BORROWS, rfl⟩ (.cons ⟨t1_BORROWS, rfl⟩ .nil))⟩ }
  exact ⟨T.law.fd, fun s v => .of_eq rfl, fun base _ _ => ok_law (P := l.prog) (w := w) (base := base) T⟩
theorem walk {l : PySem.W.OpenLaw} {q : Program} {loose : List Str} {XP : (Str → Option Value) → Heap → Prop} {YP : World → Heap → Prop} {d : DefRec} {K : Params → PySem.W.Frag} (hn : l.most = some 63) (hdf : d.params.defaults = [])
    (hY : ∀ (w : World) (h : Heap), YP w h → (K w.params).In h)
    (F : ∀ (w : World) (mg : Str → Option Value) (fa : Addr) (h : Heap), (K w.params).In h → h.Ns mainGlobals mg → mg d.name = some (.ref fa) →
      ∃ fd : FuncData, (∀ (s : Shared) (u : Value), BindsTo s fd ⟨[u], []⟩ [("script", u)]) ∧ ∀ base : Heap, (K w.params).In base → base.Ns mainGlobals mg → FnOk l.prog w (K w.params) mg base CX0 110 fa fd ["script"] (spLaw (K w.params))) :
    PySem.W.WalkO q loose XP YP l.row.toRowW d [] (fun f vs => PySem.call f vs) :=
  L2.walk_of (n := 63) (k := 110) (x := "script") (CX := fun _ => CX0) (sp := fun w => spLaw (K w.params)) hn (by decide) hdf ⟨rfl, by decide, by decide⟩ hY F (fun _ _ a ns _ _ hS => ⟨a, ns, rfl, hS, fun _ => rfl⟩) fun _ _ _ _ _ z => z
end Kk
open PySem PySem.W PyProof.Rows
set_option maxRecDepth 100000 in
set_option maxHeartbeats 0 in
theorem PySem.Challenge.cw_forklent_k02_steps_and_places_holds : PySem.Challenge.rw_forklent_k02_steps_and_places.Holds := by
  w_on; o_law; k_head; (case hw => w_witness2)
  k_fill
  refine Kk.walk (l := PySem.Challenge.rw_forklent_k02_steps_and_places) rfl rfl (fun w h Y => PySem.W.kIn_of Y) ?F
  case F =>
    intro w mg fa h KX G hmg
    refine' Kk.all_mk KX G hmg ?a0 ?l0 ?c0 ?k0 ?a1 ?l1 ?c1 ?k1 ?a2 ?l2 ?c2 ?k2 ?a3 ?l3 ?c3 ?k3 ?a4 ?l4 ?c4 ?k4 ?a5 ?l5 ?c5 ?k5 ?a6 ?l6 ?c6 ?k6 ?a7 ?l7 ?c7 ?k7 ?a8 ?l8 ?c8 ?k8 ?a9 ?l9 ?c9 ?k9 ?a10 ?l10 ?c10 ?k10 ?a11 ?l11 ?c11 ?k11 ?a12 ?l12 ?c12 ?k12 ?a13 ?l13 ?c13 ?k13 ?a14 ?l14 ?c14 ?k14 ?a15 ?l15 ?c15 ?k15 ?a16 ?l16 ?c16 ?k16 ?a17 ?l17 ?c17 ?k17 ?a18 ?l18 ?c18 ?k18 ?a19 ?l19 ?c19 ?k19 ?a20 ?l20 ?c20 ?k20 ?a21 ?l21 ?c21 ?k21 ?z_len ?z_int ?z_abs ?z_isinstance ?z_bool ?z_range ?z_tuple ?z_sum ?z_enumerate ?xsg ?xsx ?xsk ?xsb ?xst ?xss ?xs1 ?xs2 ?xs3 ?xs4 ?xs5 ?xs6 ?xs7 ?xvg ?xvx ?xvk ?xvb ?xvt ?xvs ?xv1 ?xv2 ?xv3 ?xv4 ?xv5 ?xv6 ?xv7 ?g_ForkError ?g_KindProblem ?g_NoSuchFunction ?g_NotAllocated ?g_Refused ?i1 ?i2 ?i3 ?i4 ?i5 ?i6 ?v1 ?v2 ?v3 ?v4 ?v5 ?v6 ?b_BORROWS ?v_BORROWS ?fkb ?fk3 ?fkt ?sf_ ?vf_
    (case a0 => k_is)
    (case l0 => k_is)
    (case c0 => k_is)
    (case k0 => k_is)
    (case a1 => k_is)
    (case l1 => k_is)
    (case c1 => k_is)
    (case k1 => k_is)
    (case a2 => k_is)
    (case l2 => k_is)
    (case c2 => k_is)
    (case k2 => k_is)
    (case a3 => k_is)
    (case l3 => k_is)
    (case c3 => k_is)
    (case k3 => k_is)
    (case a4 => k_is)
    (case l4 => k_is)
    (case c4 => k_is)
    (case k4 => k_is)
    (case a5 => k_is)
    (case l5 => k_is)
    (case c5 => k_is)
    (case k5 => k_is)
    (case a6 => k_is)
    (case l6 => k_is)
    (case c6 => k_is)
    (case k6 => k_is)
    (case a7 => k_is)
    (case l7 => k_is)
    (case c7 => k_is)
    (case k7 => k_is)
    (case a8 => k_is)
    (case l8 => k_is)
    (case c8 => k_is)
    (case k8 => k_is)
    (case a9 => k_is)
    (case l9 => k_is)
    (case c9 => k_is)
    (case k9 => k_is)
    (case a10 => k_is)
    (case l10 => k_is)
    (case c10 => k_is)
    (case k10 => k_is)
    (case a11 => k_is)
    (case l11 => k_is)
    (case c11 => k_is)
    (case k11 => k_is)
    (case a12 => k_is)
    (case l12 => k_is)
    (case c12 => k_is)
    (case k12 => k_is)
    (case a13 => k_is)
    (case l13 => k_is)
    (case c13 => k_is)
    (case k13 => k_is)
    (case a14 => k_is)
    (case l14 => k_is)
    (case c14 => k_is)
    (case k14 => k_is)
    (case a15 => k_is)
    (case l15 => k_is)
    (case c15 => k_is)
    (case k15 => k_is)
    (case a16 => k_is)
    (case l16 => k_is)
    (case c16 => k_is)
    (case k16 => k_is)
    (case a17 => k_is)
    (case l17 => k_is)
    (case c17 => k_is)
    (case k17 => k_is)
    (case a18 => k_is)
    (case l18 => k_is)
    (case c18 => k_is)
    (case k18 => k_is)
    (case a19 => k_is)
    (case l19 => k_is)
    (case c19 => k_is)
    (case k19 => k_is)
    (case a20 => k_is)
    (case l20 => k_is)
    (case c20 => k_is)
    (case k20 => k_is)
    (case a21 => k_is)
    (case l21 => k_is)
    (case c21 => k_is)
    (case k21 => k_is)
    (case z_len => k_is)
    (case z_int => k_is)
    (case z_abs => k_is)
    (case z_isinstance => k_is)
    (case z_bool => k_is)
    (case z_range => k_is)
    (case z_tuple => k_is)
    (case z_sum => k_is)
    (case z_enumerate => k_is)
    (case xsg => k_is)
    (case xsx => k_exc)
    (case xsk => k_is)
    (case xsb => k_is)
    (case xst => k_is)
    (case xss => k_is)
    (case xs1 => k_is)
    (case xs2 => k_is)
    (case xs3 => k_is)
    (case xs4 => k_is)
    (case xs5 => k_is)
    (case xs6 => k_is)
    (case xs7 => k_is)
    (case xvg => k_is)
    (case xvx => k_exc)
    (case xvk => k_is)
    (case xvb => k_is)
    (case xvt => k_is)
    (case xvs => k_is)
    (case xv1 => k_is)
    (case xv2 => k_is)
    (case xv3 => k_is)
    (case xv4 => k_is)
    (case xv5 => k_is)
    (case xv6 => k_is)
    (case xv7 => k_is)
    (case g_ForkError => k_is)
    (case g_KindProblem => k_is)
    (case g_NoSuchFunction => k_is)
    (case g_NotAllocated => k_is)
    (case g_Refused => k_is)
    (case i1 => kit_is)
    (case i2 => kit_is)
    (case i3 => kit_is)
    (case i4 => kit_is)
    (case i5 => kit_is)
    (case i6 => kit_is)
    (case v1 => kit_is)
    (case v2 => kit_is)
    (case v3 => kit_is)
    (case v4 => kit_is)
    (case v5 => kit_is)
    (case v6 => kit_is)
    (case b_BORROWS => k_is)
    (case v_BORROWS => k_is)
    (case fkb => k_is)
    (case fk3 => k_is)
    (case fkt => k_is)
    (case sf_ => k_is)
    (case vf_ => k_is)
