import PyProof.Rows.All
import Wide.All
import OpenK.AllK
import Wide.FinOn
import HandS.ForExc
import HandS.Comp
import HandS.Iter
import HandS.Text
import HandS.Codes
import HandS.IsInst
import HandS.ExcIs
import HandS.FStr
import HandS.RaiseMore
import HandS.Wide
import HandS.TupAny
import PySem.Challenge.RW_forklent_k51_kinds_of_places
import HandS.CallSlots
import HandS.Conv
import HandS.ListItems
import KE.RegKIsAll
set_option Elab.async false
set_option linter.all false
set_option maxRecDepth 100000
set_option maxHeartbeats 4000000
namespace Kk
open PySem L2
def topS (i : Nat) : Stmt := PySem.Challenge.pw_forklent_k51_kinds_of_places.main.body.getD i (.Pass ⟨0, 0, 0, 0⟩)
/-- a def of the text as it stands behind the top -/
structure Df (K : PySem.W.Frag) (mg : Str → Option Value) (x : Str) (st : Stmt) (ps : List Str) where
  f : Addr
  fd : FuncData
  F : Fun K x x st f fd
  g : mg x = some (.ref f)
  b : Binds K fd ps []
abbrev s_is_item : Stmt := topS 11
theorem sc_is_item : FnScope ["items", "step"] ["items", "step"] (defScope s_is_item) := ⟨rfl, rfl, rfl, by decide +kernel, rfl, by decide +kernel, by decide +kernel⟩
abbrev s_fields_of : Stmt := topS 12
theorem sc_fields_of : FnScope ["records", "name", "record", "fields"] ["records", "name"] (defScope s_fields_of) := ⟨rfl, rfl, rfl, by decide +kernel, rfl, by decide +kernel, by decide +kernel⟩
abbrev s__law_pick : Stmt := topS 17
theorem sc__law_pick : FnScope ["state", "script", "many", "number", "place", "cell"] ["state", "script", "many"] (defScope s__law_pick) := ⟨rfl, rfl, rfl, by decide +kernel, rfl, by decide +kernel, by decide +kernel⟩
section
variable {X : Cx}
theorem pi_or {tg l : Expr} {w w' : TI} (h : PI X tg l w) (h' : PI X tg l w') : PI X tg l (fun σ H R => w σ H R ∨ w' σ H R) :=
  ⟨fun pins s σ H R I q => q.elim (h.run pins s σ H R I) (h'.run pins s σ H R I)⟩
/-- a walk over a list or a tuple -/
theorem pi_seq {tg l : Expr} {tl : TE} (hl : PE X l tl) : PI X tg l (fun σ H R => iList X.K tl σ H R ∨ iTup X.K tl σ H R) := pi_or (pi_list hl) (pi_tup hl)
end
/-- all but what stands at a is as it was -/
def But (a : Addr) (H H' : Hp) : Prop := ∀ b o, b ≠ a → H b = some o → H' b = some o
theorem But.refl (a : Addr) (H : Hp) : But a H H := fun _ _ _ h => h
theorem But.trans {a : Addr} {H H1 H2 : Hp} (x : But a H H1) (y : But a H1 H2) : But a H H2 := fun b o n h => y b o n (x b o n h)
theorem But.of {a : Addr} {H H' : Hp} (x : Same H H') : But a H H' := fun b o _ h => x b o h
theorem But.upd {a : Addr} {H : Hp} {o : HO} : But a H (upd H a o) := fun b u n h => by rw [upd_ne n]; exact h
theorem same_new {H : Hp} {p : Addr} (h : H p = none) (o : HO) : Same H (upd H p o) := fun b u q => by rw [upd_ne (ne_of_none q h)]; exact q
theorem But.new {a : Addr} {H : Hp} {p : Addr} (h : H p = none) (o : HO) : But a H (L2.upd H p o) := .of (same_new h o)
theorem But.seq {K : PySem.W.Frag} {a : Addr} {H H' : Hp} {z : Addr} {xs : List V} (x : But a H H') (n : z ≠ a) (h : SqL K H z xs) : SqL K H' z xs := by
  rcases h with (h | ⟨o, h⟩) | h
  · exact .inl (.inl (x _ _ n h))
  · exact .inl (.inr ⟨o, x _ _ n h⟩)
  · exact .inr h
/-- what stands at z is not the state at a, or it is the module's own -/
def Awy (K : PySem.W.Frag) (a z : Addr) (xs : List V) : Prop := z ≠ a ∨ SqL K (fun _ => none) z xs
theorem But.scr {K : PySem.W.Frag} {a : Addr} {H H' : Hp} {z : Addr} {xs : List V} (x : But a H H') (n : Awy K a z xs) (h : SqL K H z xs) : SqL K H' z xs := by
  rcases n with n | (n | ⟨o, n⟩) | n
  · exact x.seq n h
  · cases n
  · cases n
  · exact .inr n
/-- the tape's state -/
def St4 (H : Hp) (a : Addr) : Prop := ∃ i p r c : Int, H a = some (.lst [.int i, .int p, .int r, .int c]) ∧ 0 ≤ i ∧ 0 ≤ r ∧ r < 2147483647
/-- what names of the top are the built-ins -/
structure Txt0 (mg : Str → Option Value) : Prop where
  z_len : mg "len" = none
  z_int : mg "int" = none
  z_abs : mg "abs" = none
  z_isinstance : mg "isinstance" = none
  z_bool : mg "bool" = none
  z_range : mg "range" = none
  z_str : mg "str" = none
  z_tuple : mg "tuple" = none
  z_list : mg "list" = none
  z_sum : mg "sum" = none
structure Txt1 (K : PySem.W.Frag) (mg : Str → Option Value) extends Txt0 mg where
  is_item : Df K mg "is_item" s_is_item ["items", "step"]
  fields_of : Df K mg "fields_of" s_fields_of ["records", "name"]
  _law_pick : Df K mg "_law_pick" s__law_pick ["state", "script", "many"]
section
variable {P : Program} {w : World} {K : PySem.W.Frag} {mg : Str → Option Value} {base : Heap}
/-- a step: an int or a text -/
def isItem (n : Nat) : V → Bool
  | .int i => decide (0 ≤ i) && decide (i < (n : Int))
  | _ => false
def Step : V → Prop
  | .int i => i.natAbs.log2 < 1920
  | .str _ => True
  | _ => False
def spItem (K : PySem.W.Frag) : Sp := fun vs H Q _ => ∃ (a : Addr) (xs : List V) (v : V), vs = [.ref a, v] ∧ SqT K H a xs ∧ Step v ∧ Q (.bl (isItem xs.length v)) H
theorem ok_item (T : Txt1 K mg) : FnOk P w K mg base CX0 1 T.is_item.f T.is_item.fd ["items", "step"] (spItem K) := by
  refine T.is_item.F.ok sc_is_item (fun vs H Q E h => ?_) (fun cdv A outer s H vs Q E hr h => ?_)
  · obtain ⟨a, xs, v, rfl, _⟩ := h
    rfl
  obtain ⟨a, xs, v, rfl, ha, hv, q⟩ := h
  refine ⟨_, (pss_one (ps_ret (pe_and (pe_callB call_isi rfl T.z_isinstance PyProof.Rows.boot_isinstance (pa_cons (pv 1) (pa_cons (pe_bltn (v := .ty "int") rfl T.z_int PyProof.Rows.boot_int rfl) pa_nil))) (pe_and (pe_not (pe_callB call_isi rfl T.z_isinstance PyProof.Rows.boot_isinstance (pa_cons (pv 1) (pa_cons (pe_bltn (v := .ty "bool") rfl T.z_bool PyProof.Rows.boot_bool rfl) pa_nil)))) (pe_one (pe_chain op_le op_lt pe_int (pv 1) (pe_callB call_len_seq rfl T.z_len PySem.boot_len (pa_cons (pv 0) pa_nil)))))))), ?_⟩
  cases v with
  | int i =>
    refine ⟨_, rfl, _, _, _, _, true, rfl, .ty _, .base (.int i), kit_ty (by decide +kernel), _, rfl, ?_⟩
    refine iteT ⟨_, rfl, _, _, _, _, false, rfl, .ty _, .base (.int i), kit_ty (by decide +kernel), _, rfl, _, rfl, ?_⟩
    refine iteT ⟨_, rfl, _, _, rfl, rfl, _, rfl, ?_⟩
    refine ite2 (fun c1 => ?_) (fun c1 => ?_)
    · refine ⟨_, rfl, a, _, rfl, .inr ha, _, _, rfl, rfl, ?_⟩
      have e : isItem xs.length (.int i) = decide (i < (xs.length : Int)) := by
        show (decide (0 ≤ i) && decide (i < (xs.length : Int))) = _
        rw [c1]; rfl
      rw [e] at q; exact q
    · have e : isItem xs.length (.int i) = false := by
        show (decide (0 ≤ i) && decide (i < (xs.length : Int))) = _
        rw [Bool.eq_false_iff.mpr c1]; rfl
      rw [e] at q; exact q
  | str x =>
    refine ⟨_, rfl, _, _, _, _, false, rfl, .ty _, .base (.str x), kit_ty (by decide +kernel), _, rfl, ?_⟩
    exact iteF q
  | _ => exact hv.elim
/-! ### the tape -/
theorem atI_ex {α : Type} {l : List α} {n : Int} (h0 : 0 ≤ n) (h1 : n < (l.length : Int)) : ∃ c, l[n.toNat]? = some c ∧ atI l n = some c := by
  have hk : n.toNat < l.length := by omega
  refine ⟨l[n.toNat], List.getElem?_eq_getElem hk, ?_⟩
  have q := atI_nat (xs := l) (j := n.toNat) (List.getElem?_eq_getElem hk)
  rwa [show ((n.toNat : Nat) : Int) = n by omega] at q
def spPick (K : PySem.W.Frag) : Sp := fun vs H Q _ => ∃ (a z : Addr) (ns : List Int) (m : Int), vs = [.ref a, .ref z, .int m] ∧ St4 H a ∧ Awy K a z (ns.map V.int) ∧ SqL K H z (ns.map V.int) ∧ 0 < m ∧ m < 1000 ∧
  ∀ n H', 0 ≤ n → n < m → St4 H' a → But a H H' → Q (.int n) H'
theorem divW {m : Int} (h : 0 < m) (h2 : m < 10000) (i : Int) : CDivW i m := wide_div (b := 14) h (by omega) (by decide) (by decide)
theorem ok_pick (T : Txt1 K mg) : FnOk P w K mg base CX0 1 T._law_pick.f T._law_pick.fd ["state", "script", "many"] (spPick K) := by
  refine T._law_pick.F.ok sc__law_pick (fun vs H Q E h => ?_) (fun cdv A outer s H vs Q E hr h => ?_)
  · obtain ⟨a, z, ns, m, rfl, _⟩ := h
    rfl
  obtain ⟨a, z, ns, m, rfl, ⟨i, p, r, c, ha, hi, h0, h1⟩, hza, hz, hm, hm2, q⟩ := h
  refine ⟨_, (pss_cons (ps_if (pt_cmpR op_gt (pe_ix ix_list (pv 0) pe_int (fun _ _ => rfl)) pe_int (nomark _)) (pss_cons (ps_set (i := 3) sc__law_pick.nd rfl (Or.inl rfl) (pe_op op_mod (pe_callTy call_int1 rfl T.z_int PyProof.Rows.boot_int (pa_cons (pe_ix ix_list (pv 0) pe_int (fun _ _ => rfl)) pa_nil)) (pv 2)))
      (pss_cons (ps_asg (pe_op op_fdivW (pe_ix ix_list (pv 0) pe_int (fun _ _ => rfl)) (pv 2)) (pg_sub (pv 0) pe_int set_list))
      (pss_one (ps_ret (pv 3))))) pss_nil)
    (pss_cons (ps_set (i := 4) sc__law_pick.nd rfl (Or.inl rfl) (pe_ix ix_list (pv 0) pe_int (fun _ _ => rfl)))
    (pss_cons (ps_asg (pe_op op_add (pv 4) pe_int) (pg_sub (pv 0) pe_int set_list))
    (C8.pss_cut (ps_if (pt_cmpR op_lt (pv 4) (pe_callB call_len_seq rfl T.z_len PySem.boot_len (pa_cons (pv 1) pa_nil)) (nomark _)) (pss_cons (ps_set (i := 5) sc__law_pick.nd rfl (Or.inl rfl) (pe_callB call_abs rfl T.z_abs PyProof.Rows.boot_abs (pa_cons (pe_callTy call_int1 rfl T.z_int PyProof.Rows.boot_int (pa_cons (pe_ix ix_list (pv 1) (pv 4) (fun _ _ => rfl)) pa_nil)) pa_nil)))
      (pss_cons (ps_if (pt_cmpR op_ge (pv 5) (pe_op op_pow pe_int pe_int) (nomark _)) (pss_cons (ps_asg (pe_op op_fdivW (pv 5) (pv 2)) (pg_sub (pv 0) pe_int set_list))
        (pss_one (ps_ret (pe_op op_mod (pe_callTy call_int1 rfl T.z_int PyProof.Rows.boot_int (pa_cons (pv 5) pa_nil)) (pv 2))))) pss_nil)
      (pss_one (ps_asg (pe_op op_mod (pe_callTy call_int1 rfl T.z_int PyProof.Rows.boot_int (pa_cons (pe_op op_add (pe_op op_add (pe_op op_mul (pe_ix ix_list (pv 0) pe_int (fun _ _ => rfl)) pe_int) (pe_op op_mul (pv 5) pe_int)) pe_int) pa_nil)) pe_int) (pg_sub (pv 0) pe_int set_list))))) pss_nil)
    (pss_cons (ps_asg (pe_op op_mod (pe_callTy call_int1 rfl T.z_int PyProof.Rows.boot_int (pa_cons (pe_op op_add (pe_op op_add (pe_op op_mul (pe_ix ix_list (pv 0) pe_int (fun _ _ => rfl)) pe_int) (pe_op op_mul pe_int (pv 4))) pe_int) pa_nil)) pe_int) (pg_sub (pv 0) pe_int set_list))
    (pss_one (ps_ret (pe_op op_mod (pe_callTy call_int1 rfl T.z_int PyProof.Rows.boot_int (pa_cons (pe_op op_fdivW (pe_op op_mul (pe_ix ix_list (pv 0) pe_int (fun _ _ => rfl)) (pe_ix ix_list (pv 0) pe_int (fun _ _ => rfl))) pe_int) pa_nil)) (pv 2))))))))), ?_⟩
  refine ⟨_, rfl, a, _, 1, _, rfl, rfl, SqL.of ha, rfl, _, _, rfl, rfl, _, rfl, ?_⟩
  refine ite2 (fun c1 => ?_) (fun c1 => ?_)
  · refine ⟨_, rfl, a, _, 1, _, rfl, rfl, SqL.of ha, rfl, .inl ⟨_, rfl, _, rfl, _, _, rfl, rfl, hm, ?_⟩⟩
    refine ⟨_, rfl, a, _, 1, _, rfl, rfl, SqL.of ha, rfl, _, rfl, _, _, rfl, rfl, divW hm (by omega) _, _, rfl, a, _, 1, 1, rfl, rfl, ha, rfl, _, rfl, ?_⟩
    exact q _ _ (Int.emod_nonneg _ (by omega)) (Int.emod_lt_of_pos _ hm) ⟨i, p / m, r, c, upd_same, hi, h0, h1⟩ .upd
  · refine ⟨_, rfl, a, _, 0, _, rfl, rfl, SqL.of ha, rfl, ?_⟩
    refine ⟨_, rfl, _, _, rfl, rfl, _, rfl, a, _, 0, 0, rfl, rfl, ha, rfl, ?_⟩
    have hz1 : SqL K (upd H a (.lst [.int (i + 1), .int p, .int r, .int c])) z (ns.map V.int) := But.upd.scr hza hz
    have len : (ns.map V.int).length = ns.length := List.length_map _
    refine ⟨fun σ' H' => ∃ cl r', σ' = [some (.ref a), some (.ref z), some (.int m), none, some (.int i), cl] ∧ H' a = some (.lst [.int (i + 1), .int p, .int r', .int c]) ∧ 0 ≤ r' ∧ r' < 2147483647 ∧ But a H H', ?_, ?_⟩
    · refine ⟨_, rfl, _, rfl, z, _, rfl, .inl hz1, _, _, rfl, rfl, _, rfl, ?_⟩
      refine ite2 (fun c2 => ?_) (fun c2 => ?_)
      · have c2' : i < (((ns.map V.int).length : Nat) : Int) := of_decide_eq_true c2
        obtain ⟨v, hv, hv'⟩ := atI_ex hi c2'
        obtain ⟨n, rfl⟩ : ∃ n, v = V.int n := by
          rw [List.getElem?_map] at hv
          cases e : ns[i.toNat]? with
          | none => rw [e] at hv; cases hv
          | some n => rw [e] at hv; exact ⟨n, (Option.some.inj hv).symm⟩
        refine ⟨_, rfl, _, rfl, z, _, _, _, rfl, rfl, hz1, hv', .inl ⟨_, rfl, _, rfl, ?_⟩⟩
        refine ⟨_, rfl, _, _, rfl, rfl, ⟨by decide, by decide, by decide⟩, _, _, rfl, rfl, _, rfl, ?_⟩
        refine ite2 (fun c3 => ?_) (fun c3 => ?_)
        · refine ⟨_, rfl, _, rfl, _, _, rfl, rfl, divW hm (by omega) _, _, rfl, a, _, 1, 1, rfl, rfl, upd_same, rfl, ?_⟩
          refine ⟨_, rfl, .inl ⟨_, rfl, _, rfl, _, _, rfl, rfl, hm, ?_⟩⟩
          exact q _ _ (Int.emod_nonneg _ (by omega)) (Int.emod_lt_of_pos _ hm) ⟨i + 1, _, r, c, upd_same, by omega, h0, h1⟩ (But.upd.trans .upd)
        · refine ⟨_, rfl, a, _, 2, _, rfl, rfl, SqL.of upd_same, rfl, _, _, rfl, rfl, .inr ⟨by decide, by decide⟩, _, rfl, _, _, rfl, rfl, .inr ⟨by decide, by decide⟩, _, _, rfl, rfl, _, _, rfl, rfl, .inl ⟨_, rfl, _, _, rfl, rfl, by show (0 : Int) < 2147483563; decide, ?_⟩⟩
          refine ⟨_, rfl, a, _, 2, 2, rfl, rfl, upd_same, rfl, ?_⟩
          exact ⟨_, _, rfl, upd_same, Int.emod_nonneg _ (by decide), Int.lt_trans (Int.emod_lt_of_pos _ (by decide)) (by decide), But.upd.trans .upd⟩
      · exact ⟨_, _, rfl, upd_same, h0, h1, .upd⟩
    · rintro σ' H' ⟨cl, r', rfl, ha', h0', h1', bt⟩
      refine ⟨_, rfl, a, _, 2, _, rfl, rfl, SqL.of ha', rfl, _, _, rfl, rfl, .inr ⟨by decide, by decide⟩, _, rfl, _, _, rfl, rfl, .inl ⟨by decide, by decide⟩, _, _, rfl, rfl, _, _, rfl, rfl, .inl ⟨_, rfl, _, _, rfl, rfl, by show (0 : Int) < 2147483647; decide, ?_⟩⟩
      refine ⟨_, rfl, a, _, 2, 2, rfl, rfl, ha', rfl, ?_⟩
      have b0 : 0 ≤ (r' * 48271 + 11 * i + 5) % 2147483647 := Int.emod_nonneg _ (by decide)
      have b1 : (r' * 48271 + 11 * i + 5) % 2147483647 < 2147483647 := Int.emod_lt_of_pos _ (by decide)
      refine ⟨_, rfl, a, _, 2, _, rfl, rfl, SqL.of upd_same, rfl, _, rfl, a, _, 2, _, rfl, rfl, SqL.of upd_same, rfl, _, _, rfl, rfl, .inl ⟨by omega, by omega⟩, _, _, rfl, rfl, divW (by decide) (by decide) _, .inl ⟨_, rfl, _, rfl, _, _, rfl, rfl, hm, ?_⟩⟩
      exact q _ _ (Int.emod_nonneg _ (by omega)) (Int.emod_lt_of_pos _ hm) ⟨i + 1, _, _, c, upd_same, by omega, b0, b1⟩ (bt.trans .upd)
end
end Kk
namespace Kk
open PySem L2
abbrev s__law_words : Stmt := topS 18
theorem sc__law_words : FnScope ["words"] [] (defScope s__law_words) := ⟨rfl, rfl, rfl, by decide +kernel, rfl, by decide +kernel, by decide +kernel⟩
abbrev s__law_name : Stmt := topS 19
theorem sc__law_name : FnScope ["state", "script", "letters", "chars", "size", "word", "k"] ["state", "script"] (defScope s__law_name) := ⟨rfl, rfl, rfl, by decide +kernel, rfl, by decide +kernel, by decide +kernel⟩
abbrev s__law_big : Stmt := topS 20
theorem sc__law_big : FnScope ["state", "script", "letters", "chars", "size", "word", "k"] ["state", "script"] (defScope s__law_big) := ⟨rfl, rfl, rfl, by decide +kernel, rfl, by decide +kernel, by decide +kernel⟩
abbrev s__law_new : Stmt := topS 21
theorem sc__law_new : FnScope ["taken", "word", "k", "other"] ["taken", "word"] (defScope s__law_new) := ⟨rfl, rfl, rfl, by decide +kernel, rfl, by decide +kernel, by decide +kernel⟩
structure Txt2 (K : PySem.W.Frag) (mg : Str → Option Value) extends Txt1 K mg where
  _law_words : Df K mg "_law_words" s__law_words []
  _law_name : Df K mg "_law_name" s__law_name ["state", "script"]
  _law_big : Df K mg "_law_big" s__law_big ["state", "script"]
  _law_new : Df K mg "_law_new" s__law_new ["taken", "word"]
/-- a text of at most n plain signs -/
def Gd (n : Nat) (x : Str) : Prop := x.length ≤ n ∧ ∀ c ∈ x.cps.toList, c < 16 ^ 8
theorem Gd.mono {n m : Nat} {x : Str} (h : Gd n x) (hm : n ≤ m) : Gd m x := ⟨Nat.le_trans h.1 hm, h.2⟩
theorem str_len (x y : Str) : (x ++ y).length = x.length + y.length := by
  show (x.cps ++ y.cps).size = x.cps.size + y.cps.size
  exact Array.size_append
theorem str_cps (x y : Str) : (x ++ y).cps.toList = x.cps.toList ++ y.cps.toList := by
  show (x.cps ++ y.cps).toList = _
  exact Array.toList_append
theorem Gd.app {n m : Nat} {x y : Str} (h : Gd n x) (h' : Gd m y) : Gd (n + m) (x ++ y) := by
  refine ⟨?_, fun c hc => ?_⟩
  · have a := h.1
    have b := h'.1
    rw [str_len]; omega
  · rw [str_cps] at hc
    rcases List.mem_append.mp hc with z | z
    · exact h.2 c z
    · exact h'.2 c z
theorem Gd.sign {c : Nat} (h : c < 16 ^ 8) : Gd 1 ⟨#[c]⟩ := ⟨Nat.le_refl _, fun d hd => by
  have e : d = c := by simpa using hd
  rw [e]; exact h⟩
theorem all_lt {l : List Nat} (h : l.all (fun c => decide (c < 16 ^ 8)) = true) : ∀ c ∈ l, c < 16 ^ 8 := fun c hc => by
  have q := List.all_eq_true.mp h c hc
  exact of_decide_eq_true q
theorem line_of {n : Nat} (h : n ≤ 100000) : n ≤ sizeLine := Nat.le_trans h (by decide)
theorem mem_of_get {α : Type} {l : List α} {i : Nat} {c : α} (h : l[i]? = some c) : c ∈ l := by
  obtain ⟨hi, e⟩ := List.getElem?_eq_some_iff.mp h
  rw [← e]; exact List.getElem_mem hi
section
variable {P : Program} {w : World} {K : PySem.W.Frag} {mg : Str → Option Value} {base : Heap}
def spWords : Sp := fun vs H Q _ => vs = [] ∧ ∀ p H' xs, Same H H' → xs.all flatV = true → H' p = some (.lst xs) → Q (.ref p) H'
theorem ok_words (T : Txt2 K mg) : FnOk P w K mg base CX0 1 T._law_words.f T._law_words.fd [] spWords := by
  refine T._law_words.F.ok sc__law_words (fun vs H Q E h => ?_) (fun cdv A outer s H vs Q E hr h => ?_)
  · obtain ⟨rfl, _⟩ := h
    rfl
  obtain ⟨rfl, q⟩ := h
  refine ⟨_, (pss_cons (ps_set (i := 0) sc__law_words.nd rfl (Or.inl rfl) (pe_lst (pa_cons pe_str (pa_cons pe_str (pa_cons pe_str (pa_cons pe_str (pa_cons pe_str (pa_cons pe_str (pa_cons pe_str (pa_cons pe_str (pa_cons pe_str (pa_cons pe_str (pa_cons pe_str (pa_cons pe_str (pa_cons pe_str (pa_cons pe_str pa_nil))))))))))))))))
    (pss_cons (ps_set (i := 0) sc__law_words.nd rfl (Or.inl rfl) (pe_op op_cat (pv 0) (pe_lst (pa_cons pe_str (pa_cons pe_str (pa_cons pe_str (pa_cons pe_str (pa_cons pe_str (pa_cons pe_str (pa_cons pe_str (pa_cons pe_str (pa_cons pe_str (pa_cons pe_str pa_nil)))))))))))))
    (pss_one (ps_ret (pe_op op_cat (pv 0) (pe_lst (pa_cons pe_str (pa_cons pe_str (pa_cons pe_str pa_nil))))))))), ?_⟩
  refine ⟨by decide, fun p hp => ?_⟩
  refine ⟨_, rfl, by decide, fun p2 hp2 => ⟨p, p2, _, _, rfl, rfl, (same_new hp2 _) _ _ upd_same, upd_same, by decide, fun p3 hp3 => ?_⟩⟩
  refine ⟨_, rfl, by decide, fun p4 hp4 => ⟨p3, p4, _, _, rfl, rfl, (same_new hp4 _) _ _ upd_same, upd_same, by decide, fun p5 hp5 => ?_⟩⟩
  exact q _ _ _ ((same_new hp _).trans ((same_new hp2 _).trans ((same_new hp3 _).trans ((same_new hp4 _).trans (same_new hp5 _))))) (by rfl) upd_same
/-- a word: at most 22 plain signs -/
def spWord (K : PySem.W.Frag) : Sp := fun vs H Q _ => ∃ (a z : Addr) (ns : List Int), vs = [.ref a, .ref z] ∧ St4 H a ∧ Awy K a z (ns.map V.int) ∧ SqL K H z (ns.map V.int) ∧
  ∀ x H', Gd 22 x → St4 H' a → But a H H' → Q (.str x) H'
abbrev lows : Str := "abcdefghijklmnopqrstuvwxyz"
abbrev lowsMore : Str := lows ++ ("0123456789_" : Str)
theorem ok_name (T : Txt2 K mg) : FnOk P w K mg base CX0 2 T._law_name.f T._law_name.fd ["state", "script"] (spWord K) := by
  refine T._law_name.F.ok sc__law_name (fun vs H Q E h => ?_) (fun cdv A outer s H vs Q E hr h => ?_)
  · obtain ⟨a, z, ns, rfl, _⟩ := h
    rfl
  obtain ⟨a, z, ns, rfl, hst, hza, hz, q⟩ := h
  refine ⟨_, (pss_cons (ps_set (i := 2) sc__law_name.nd rfl (Or.inl rfl) pe_str)
    (pss_cons (ps_set (i := 3) sc__law_name.nd rfl (Or.inl rfl) (pe_op op_add_str (pv 2) pe_str))
    (pss_cons (ps_set (i := 4) sc__law_name.nd rfl (Or.inl rfl) (pe_op op_add pe_int (pe_call (ok_pick T.toTxt1) (hr.mono (by omega)) rfl T._law_pick.g T._law_pick.F.kp T._law_pick.b .nil pass0 (pa_cons (pv 0) (pa_cons (pv 1) (pa_cons pe_int pa_nil))))))
    (C8.pss_cut (ps_if (pt_cmpR op_eq (pv 4) pe_int (nomark _)) (pss_one (ps_set (i := 4) sc__law_name.nd rfl (Or.inl rfl) (pe_op op_add pe_int (pe_call (ok_pick T.toTxt1) (hr.mono (by omega)) rfl T._law_pick.g T._law_pick.F.kp T._law_pick.b .nil pass0 (pa_cons (pv 0) (pa_cons (pv 1) (pa_cons pe_int pa_nil))))))) pss_nil)
    (pss_cons (ps_set (i := 5) sc__law_name.nd rfl (Or.inl rfl) (pe_ix ix_str (pv 2) (pe_call (ok_pick T.toTxt1) (hr.mono (by omega)) rfl T._law_pick.g T._law_pick.F.kp T._law_pick.b .nil pass0 (pa_cons (pv 0) (pa_cons (pv 1) (pa_cons pe_int pa_nil)))) (fun _ _ => rfl)))
    (pss_cons (ps_for PassesOwn.never rfl (pi_range1 (by rfl) T.z_range (pa_cons (pe_op op_sub (pv 4) pe_int) pa_nil)) (pg_name (i := 6) sc__law_name.nd rfl (Or.inl rfl)) (pss_one (ps_set (i := 5) sc__law_name.nd rfl (Or.inl rfl) (pe_op op_add_str (pv 5) (pe_ix ix_str (pv 3) (pe_call (ok_pick T.toTxt1) (hr.mono (by omega)) rfl T._law_pick.g T._law_pick.F.kp T._law_pick.b .nil pass0 (pa_cons (pv 0) (pa_cons (pv 1) (pa_cons pe_int pa_nil)))) (fun _ _ => rfl))))))
    (pss_cons (ps_if (pt_cmpR op_in_seq (pv 5) (pe_call0 (ok_words T) (hr.mono (by omega)) rfl T._law_words.g T._law_words.F.kp T._law_words.b .nil pass0) (by rfl)) (pss_one (ps_ret (pe_op op_add_str (pv 5) pe_str))) pss_nil)
    (pss_one (ps_ret (pv 5)))))))))), ?_⟩
  refine ⟨_, rfl, _, _, rfl, rfl, by decide, ?_⟩
  refine ⟨_, rfl, _, rfl, a, z, ns, 4, rfl, hst, hza, hz, by decide, by decide, fun n H1 n0 n1 st1 b1 => ⟨_, _, rfl, rfl, ?_⟩⟩
  refine ⟨fun σ' H' => ∃ sz : Int, σ' = [some (.ref a), some (.ref z), some (.str lows), some (.str lowsMore), some (.int sz), none, none] ∧ 1 ≤ sz ∧ sz ≤ 20 ∧ St4 H' a ∧ But a H H', ?_, ?_⟩
  · refine ⟨_, rfl, rfl, _, rfl, ?_⟩
    refine ite2 (fun c1 => ?_) (fun c1 => ?_)
    · refine ⟨_, rfl, _, rfl, a, z, ns, 20, rfl, st1, hza, b1.scr hza hz, by decide, by decide, fun n' H2 n0' n1' st2 b2 => ⟨_, _, rfl, rfl, ?_⟩⟩
      exact ⟨1 + n', rfl, by omega, by omega, st2, b1.trans b2⟩
    · exact ⟨1 + n, rfl, by omega, by omega, st1, b1⟩
  · rintro σ' H' ⟨sz, rfl, s1, s2, st2, b2⟩
    refine ⟨_, rfl, _, rfl, _, rfl, a, z, ns, 26, rfl, st2, hza, b2.scr hza hz, by decide, by decide, fun n3 H3 n30 n31 st3 b3 => ?_⟩
    obtain ⟨c, hc, hc'⟩ := atI_ex (l := lows.cps.toList) n30 (by show n3 < 26; exact n31)
    have gc : c < 16 ^ 8 := all_lt (l := lows.cps.toList) (by decide) c (mem_of_get hc)
    refine ⟨_, _, _, rfl, rfl, by decide, hc', ?_⟩
    refine ⟨_, rfl, _, _, rfl, rfl, sz - 1, rfl, by omega, by omega, for_range (lo := 0) (n := (sz - 1).toNat) (fun i σ' H' => ∃ (x : Str) (kk : Option V), σ' = [some (.ref a), some (.ref z), some (.str lows), some (.str lowsMore), some (.int sz), some (.str x), kk] ∧ Gd (1 + i) x ∧ St4 H' a ∧ But a H H') ?_ ?_ ?_⟩
    · exact ⟨_, _, rfl, Gd.sign gc, st3, b2.trans b3⟩
    · rintro i σ' H4 hi ⟨x, kk, rfl, gx, st4, b4⟩
      refine ⟨_, rfl, _, rfl, _, rfl, _, rfl, a, z, ns, 37, rfl, st4, hza, b4.scr hza hz, by decide, by decide, fun n5 H5 n50 n51 st5 b5 => ?_⟩
      obtain ⟨d, hd, hd'⟩ := atI_ex (l := lowsMore.cps.toList) n50 (by show n5 < 37; exact n51)
      have gd : d < 16 ^ 8 := all_lt (l := lowsMore.cps.toList) (by decide) d (mem_of_get hd)
      have gy := gx.app (Gd.sign gd)
      refine ⟨_, _, _, rfl, rfl, by decide, hd', _, _, rfl, rfl, ?_, ?_⟩
      · have := gx.1
        show x.length + 1 ≤ _
        exact line_of (by omega)
      · exact ⟨_, _, rfl, gy, st5, b4.trans b5⟩
    · rintro σ' H4 ⟨x, kk, rfl, gx, st4, b4⟩
      refine ⟨_, rfl, rfl, fun p H5 xs g5 fl h5 => ⟨p, xs, rfl, .inl (SqL.of h5), rfl, fl, _, rfl, ?_⟩⟩
      have st5 : St4 H5 a := by
        obtain ⟨i, pp, r, cc, e, k⟩ := st4
        exact ⟨i, pp, r, cc, g5 _ _ e, k⟩
      have b5 := b4.trans (.of g5)
      refine ite2 (fun c1 => ?_) (fun c1 => ?_)
      · refine ⟨_, rfl, _, _, rfl, rfl, ?_, ?_⟩
        · have := gx.1
          show x.length + 1 ≤ _
          exact line_of (by omega)
        · exact q _ _ ((gx.app (Gd.sign (c := 95) (by decide))).mono (by omega)) st5 b5
      · exact ⟨_, rfl, q _ _ (gx.mono (by omega)) st5 b5⟩
abbrev bigs : Str := "ABCDEFGHIJKLMNOPQRSTUVWXYZ"
abbrev bigsMore : Str := bigs ++ ("abcdefghijklmnopqrstuvwxyz0123456789" : Str)
theorem ok_big (T : Txt2 K mg) : FnOk P w K mg base CX0 2 T._law_big.f T._law_big.fd ["state", "script"] (spWord K) := by
  refine T._law_big.F.ok sc__law_big (fun vs H Q E h => ?_) (fun cdv A outer s H vs Q E hr h => ?_)
  · obtain ⟨a, z, ns, rfl, _⟩ := h
    rfl
  obtain ⟨a, z, ns, rfl, hst, hza, hz, q⟩ := h
  refine ⟨_, (pss_cons (ps_set (i := 2) sc__law_big.nd rfl (Or.inl rfl) pe_str)
    (pss_cons (ps_set (i := 3) sc__law_big.nd rfl (Or.inl rfl) (pe_op op_add_str (pv 2) pe_str))
    (pss_cons (ps_set (i := 4) sc__law_big.nd rfl (Or.inl rfl) (pe_op op_add pe_int (pe_call (ok_pick T.toTxt1) (hr.mono (by omega)) rfl T._law_pick.g T._law_pick.F.kp T._law_pick.b .nil pass0 (pa_cons (pv 0) (pa_cons (pv 1) (pa_cons pe_int pa_nil))))))
    (C8.pss_cut (ps_if (pt_cmpR op_eq (pv 4) pe_int (nomark _)) (pss_one (ps_set (i := 4) sc__law_big.nd rfl (Or.inl rfl) (pe_op op_add pe_int (pe_call (ok_pick T.toTxt1) (hr.mono (by omega)) rfl T._law_pick.g T._law_pick.F.kp T._law_pick.b .nil pass0 (pa_cons (pv 0) (pa_cons (pv 1) (pa_cons pe_int pa_nil))))))) pss_nil)
    (pss_cons (ps_set (i := 5) sc__law_big.nd rfl (Or.inl rfl) (pe_ix ix_str (pv 2) (pe_call (ok_pick T.toTxt1) (hr.mono (by omega)) rfl T._law_pick.g T._law_pick.F.kp T._law_pick.b .nil pass0 (pa_cons (pv 0) (pa_cons (pv 1) (pa_cons pe_int pa_nil)))) (fun _ _ => rfl)))
    (pss_cons (ps_for PassesOwn.never rfl (pi_range1 (by rfl) T.z_range (pa_cons (pe_op op_sub (pv 4) pe_int) pa_nil)) (pg_name (i := 6) sc__law_big.nd rfl (Or.inl rfl)) (pss_one (ps_set (i := 5) sc__law_big.nd rfl (Or.inl rfl) (pe_op op_add_str (pv 5) (pe_ix ix_str (pv 3) (pe_call (ok_pick T.toTxt1) (hr.mono (by omega)) rfl T._law_pick.g T._law_pick.F.kp T._law_pick.b .nil pass0 (pa_cons (pv 0) (pa_cons (pv 1) (pa_cons pe_int pa_nil)))) (fun _ _ => rfl))))))
    (pss_one (ps_ret (pv 5))))))))), ?_⟩
  refine ⟨_, rfl, _, _, rfl, rfl, by decide, ?_⟩
  refine ⟨_, rfl, _, rfl, a, z, ns, 4, rfl, hst, hza, hz, by decide, by decide, fun n H1 n0 n1 st1 b1 => ⟨_, _, rfl, rfl, ?_⟩⟩
  refine ⟨fun σ' H' => ∃ sz : Int, σ' = [some (.ref a), some (.ref z), some (.str bigs), some (.str bigsMore), some (.int sz), none, none] ∧ 1 ≤ sz ∧ sz ≤ 20 ∧ St4 H' a ∧ But a H H', ?_, ?_⟩
  · refine ⟨_, rfl, rfl, _, rfl, ?_⟩
    refine ite2 (fun c1 => ?_) (fun c1 => ?_)
    · refine ⟨_, rfl, _, rfl, a, z, ns, 20, rfl, st1, hza, b1.scr hza hz, by decide, by decide, fun n' H2 n0' n1' st2 b2 => ⟨_, _, rfl, rfl, ?_⟩⟩
      exact ⟨1 + n', rfl, by omega, by omega, st2, b1.trans b2⟩
    · exact ⟨1 + n, rfl, by omega, by omega, st1, b1⟩
  · rintro σ' H' ⟨sz, rfl, s1, s2, st2, b2⟩
    refine ⟨_, rfl, _, rfl, _, rfl, a, z, ns, 26, rfl, st2, hza, b2.scr hza hz, by decide, by decide, fun n3 H3 n30 n31 st3 b3 => ?_⟩
    obtain ⟨c, hc, hc'⟩ := atI_ex (l := bigs.cps.toList) n30 (by show n3 < 26; exact n31)
    have gc : c < 16 ^ 8 := all_lt (l := bigs.cps.toList) (by decide) c (mem_of_get hc)
    refine ⟨_, _, _, rfl, rfl, by decide, hc', ?_⟩
    refine ⟨_, rfl, _, _, rfl, rfl, sz - 1, rfl, by omega, by omega, for_range (lo := 0) (n := (sz - 1).toNat) (fun i σ' H' => ∃ (x : Str) (kk : Option V), σ' = [some (.ref a), some (.ref z), some (.str bigs), some (.str bigsMore), some (.int sz), some (.str x), kk] ∧ Gd (1 + i) x ∧ St4 H' a ∧ But a H H') ?_ ?_ ?_⟩
    · exact ⟨_, _, rfl, Gd.sign gc, st3, b2.trans b3⟩
    · rintro i σ' H4 hi ⟨x, kk, rfl, gx, st4, b4⟩
      refine ⟨_, rfl, _, rfl, _, rfl, _, rfl, a, z, ns, 62, rfl, st4, hza, b4.scr hza hz, by decide, by decide, fun n5 H5 n50 n51 st5 b5 => ?_⟩
      obtain ⟨d, hd, hd'⟩ := atI_ex (l := bigsMore.cps.toList) n50 (by show n5 < 62; exact n51)
      have gd : d < 16 ^ 8 := all_lt (l := bigsMore.cps.toList) (by decide) d (mem_of_get hd)
      have gy := gx.app (Gd.sign gd)
      refine ⟨_, _, _, rfl, rfl, by decide, hd', _, _, rfl, rfl, ?_, ?_⟩
      · have := gx.1
        show x.length + 1 ≤ _
        exact line_of (by omega)
      · exact ⟨_, _, rfl, gy, st5, b4.trans b5⟩
    · rintro σ' H4 ⟨x, kk, rfl, gx, st4, b4⟩
      exact ⟨_, rfl, q _ _ (gx.mono (by omega)) st4 b4⟩
end
end Kk
namespace Kk
open PySem L2
abbrev s__law_kind : Stmt := topS 22
theorem sc__law_kind : FnScope ["state", "script", "room", "plain", "names", "choice", "items", "k"] ["state", "script", "room", "plain", "names"] (defScope s__law_kind) := ⟨rfl, rfl, rfl, by decide +kernel, rfl, by decide +kernel, by decide +kernel⟩
abbrev s__law_is_plain : Stmt := topS 23
theorem sc__law_is_plain : FnScope ["kind", "item"] ["kind"] (defScope s__law_is_plain) := ⟨rfl, rfl, rfl, by decide +kernel, rfl, by decide +kernel, by decide +kernel⟩
abbrev s__law_wide : Stmt := topS 24
theorem sc__law_wide : FnScope ["state", "script", "forms", "rows", "k", "items", "j"] ["state", "script"] (defScope s__law_wide) := ⟨rfl, rfl, rfl, by decide +kernel, rfl, by decide +kernel, by decide +kernel⟩
abbrev s__law_any_kind : Stmt := topS 25
theorem sc__law_any_kind : FnScope ["state", "script", "names", "kind", "k", "choice"] ["state", "script", "names"] (defScope s__law_any_kind) := ⟨rfl, rfl, rfl, by decide +kernel, rfl, by decide +kernel, by decide +kernel⟩
structure Txt3 (K : PySem.W.Frag) (mg : Str → Option Value) extends Txt2 K mg where
  _law_kind : Df K mg "_law_kind" s__law_kind ["state", "script", "room", "plain", "names"]
  _law_is_plain : Df K mg "_law_is_plain" s__law_is_plain ["kind"]
  _law_wide : Df K mg "_law_wide" s__law_wide ["state", "script"]
  _law_any_kind : Df K mg "_law_any_kind" s__law_any_kind ["state", "script", "names"]
/-! ### a new word -/
theorem pigeon {α : Type} [DecidableEq α] : ∀ {l m : List α}, l.Nodup → (∀ x ∈ l, x ∈ m) → l.length ≤ m.length
  | [], m, _, _ => Nat.zero_le _
  | a :: l, m, nd, h => by
    have nd' := List.nodup_cons.mp nd
    have hm := h a List.mem_cons_self
    have ih := pigeon (m := m.erase a) nd'.2 (fun x hx => (List.mem_erase_of_ne (by intro e; subst e; exact nd'.1 hx)).mpr (h x (List.mem_cons_of_mem _ hx)))
    rw [List.length_erase_of_mem hm] at ih
    have pos : 0 < m.length := List.length_pos_of_mem hm
    rw [List.length_cons]
    omega
def numT (j : Nat) : Str := toString ((j : Nat) : Int)
theorem numT_nd : ((List.range 100).map numT).Nodup := by decide +kernel
theorem numT_gd : ((List.range 100).all fun j => decide ((numT j).length ≤ 2) && (numT j).cps.toList.all (fun c => decide (c < 16 ^ 8))) = true := by decide +kernel
theorem gd_num {j : Nat} (h : j < 100) : Gd 2 (numT j) := by
  have q := List.all_eq_true.mp numT_gd j (List.mem_range.mpr h)
  rw [Bool.and_eq_true] at q
  exact ⟨of_decide_eq_true q.1, all_lt q.2⟩
theorem str_cancel {p x y : Str} (h : p ++ x = p ++ y) : x = y := by
  have e := congrArg (fun z : Str => z.cps.toList) h
  simp only [str_cps] at e
  have e2 := List.append_cancel_left e
  cases x; cases y
  exact congrArg Str.mk (Array.toList_inj.mp e2)
theorem some_new {xs : List Str} {p : Str} (hl : xs.length ≤ 60) : ¬ ∀ j, j < 100 → p ++ numT j ∈ xs := fun h => by
  have nd : ((List.range 100).map fun j => p ++ numT j).Nodup := by
    have q := numT_nd
    unfold List.Nodup at q ⊢
    rw [List.pairwise_map] at q ⊢
    exact q.imp fun h1 h2 => h1 (str_cancel h2)
  have le := pigeon (m := xs) nd (fun x hx => by
    obtain ⟨j, hj, rfl⟩ := List.mem_map.mp hx
    exact h j (List.mem_range.mp hj))
  rw [List.length_map, List.length_range] at le
  omega
theorem inV_str {x : Str} {xs : List Str} : inV (.str x) (xs.map V.str) = decide (x ∈ xs) := by
  unfold inV
  rw [Bool.eq_iff_iff, List.any_eq_true]
  constructor
  · rintro ⟨y, hy, h⟩
    obtain ⟨z, hz, rfl⟩ := List.mem_map.mp hy
    have e : z = x := by simpa [eqV] using h
    exact decide_eq_true (e ▸ hz)
  · intro h
    exact ⟨.str x, List.mem_map.mpr ⟨x, of_decide_eq_true h, rfl⟩, by simp [eqV]⟩
theorem all_flat (xs : List Str) : (xs.map V.str).all flatV = true := by
  rw [List.all_eq_true]
  intro y hy
  obtain ⟨z, _, rfl⟩ := List.mem_map.mp hy
  rfl
section
variable {P : Program} {w : World} {K : PySem.W.Frag} {mg : Str → Option Value} {base : Heap}
def spNew : Sp := fun vs H Q _ => ∃ (t : Addr) (x : Str) (xs : List Str), vs = [.ref t, .str x] ∧ H t = some (.lst (xs.map V.str)) ∧ xs.length ≤ 60 ∧ Gd 22 x ∧
  ∀ y, y ∉ xs → Gd 22 y → Q (.str y) H
theorem ok_new (T : Txt2 K mg) : FnOk P w K mg base CX0 1 T._law_new.f T._law_new.fd ["taken", "word"] spNew := by
  refine T._law_new.F.ok sc__law_new (fun vs H Q E h => ?_) (fun cdv A outer s H vs Q E hr h => ?_)
  · obtain ⟨t, x, xs, rfl, _⟩ := h
    rfl
  obtain ⟨t, x, xs, rfl, ht, hl, gx, q⟩ := h
  refine ⟨_, (pss_cons (ps_if (pt_cmpR op_notIn_seq (pv 1) (pv 0) (by rfl)) (pss_one (ps_ret (pv 1))) pss_nil)
    (pss_cons (ps_for PassesOwn.never rfl (pi_range1 (by rfl) T.z_range (pa_cons pe_int pa_nil)) (pg_name (i := 2) sc__law_new.nd rfl (Or.inl rfl)) (pss_cons (ps_set (i := 3) sc__law_new.nd rfl (Or.inl rfl) (pe_op op_add_str (pe_slice C8.sl_txt (pv 1) po_none (po_some pe_int)) (pe_callTy call_str_int rfl T.z_str PyProof.Rows.boot_str (pa_cons (pv 2) pa_nil))))
      (pss_one (ps_if (pt_cmpR op_notIn_seq (pv 3) (pv 0) (by rfl)) (pss_one (ps_ret (pv 3))) pss_nil))))
    (pss_one (ps_ret (pv 1))))), ?_⟩
  refine ⟨_, rfl, _, rfl, t, _, rfl, .inl (SqL.of ht), rfl, all_flat xs, _, rfl, ?_⟩
  refine ite2 (fun c1 => ?_) (fun c1 => ?_)
  · have n1 : x ∉ xs := fun m => by
      have e : (!inV (.str x) (xs.map V.str)) = true := c1
      rw [inV_str, decide_eq_true m] at e
      cases e
    exact ⟨_, rfl, q x n1 gx⟩
  · refine ⟨100, rfl, by decide, by decide, for_range (lo := 0) (n := 100) (fun i σ' H' => H' = H ∧ (∃ kk oo, σ' = [some (.ref t), some (.str x), kk, oo]) ∧ ∀ j, j < i → SX.S (x.cps.toList.take 18) ++ numT j ∈ xs) ?_ ?_ ?_⟩
    · exact ⟨rfl, ⟨_, _, rfl⟩, fun j hj => absurd hj (Nat.not_lt_zero j)⟩
    · rintro i σ' H' hi ⟨rfl, ⟨kk, oo, rfl⟩, hall⟩
      have e0 : (0 + (i : Int)) = (i : Int) := Int.zero_add _
      rw [e0]
      have es : Txt.slice x none (some 18) = SX.S (x.cps.toList.take 18) := by
        have e := SX.slice_to (a := x.cps.toList) (i := 18) (by decide)
        rw [SX.S_tl] at e
        exact e
      have g1 : Gd 18 (SX.S (x.cps.toList.take 18)) := ⟨by rw [SX.S_len, List.length_take]; exact Nat.min_le_left _ _, fun c hc => gx.2 c (List.mem_of_mem_take (by simpa using hc))⟩
      have gy := g1.app (gd_num hi)
      refine ⟨_, rfl, _, rfl, x, rfl, line_of (by have := gx.1; omega), ?_⟩
      rw [es]
      refine ⟨_, rfl, (i : Int), rfl, ?_, _, _, rfl, rfl, ?_, ?_⟩
      · have : ((i : Int)).natAbs = i := by omega
        rw [this]
        exact Nat.lt_of_le_of_lt (Nat.log2_le_self i) (by omega)
      · have := gy.1
        rw [str_len] at this
        exact line_of (by show _ + (numT i).length ≤ _; omega)
      refine ⟨_, rfl, _, rfl, t, _, rfl, .inl (SqL.of ht), rfl, all_flat xs, _, rfl, ?_⟩
      refine ite2 (fun c2 => ?_) (fun c2 => ?_)
      · have n1 : SX.S (x.cps.toList.take 18) ++ numT i ∉ xs := fun m => by
          have e : (!inV (.str (SX.S (x.cps.toList.take 18) ++ numT i)) (xs.map V.str)) = true := c2
          rw [inV_str, decide_eq_true m] at e
          cases e
        exact ⟨_, rfl, q _ n1 (gy.mono (by omega))⟩
      · refine ⟨rfl, ⟨_, _, rfl⟩, fun j hj => ?_⟩
        by_cases ej : j = i
        · have e : ¬ (!inV (.str (SX.S (x.cps.toList.take 18) ++ numT i)) (xs.map V.str)) = true := c2
          rw [inV_str] at e
          rw [ej]
          by_cases m : SX.S (x.cps.toList.take 18) ++ numT i ∈ xs
          · exact m
          · rw [decide_eq_false m] at e
            exact absurd rfl e
        · exact hall j (by omega)
    · rintro σ' H' ⟨rfl, _, hall⟩
      exact absurd hall (some_new hl)
end
/-! ### kinds as data -/
/-- tuples stand -/
def TM (H H' : Hp) : Prop := ∀ b xs, H b = some (.tup xs) → H' b = some (.tup xs)
theorem TM.refl (H : Hp) : TM H H := fun _ _ h => h
theorem TM.trans {H H1 H2 : Hp} (a : TM H H1) (b : TM H1 H2) : TM H H2 := fun c xs h => b c xs (a c xs h)
theorem TM.same {H H' : Hp} (h : Same H H') : TM H H' := fun b xs e => h b _ e
theorem TM.put {H : Hp} {p : Addr} {o : HO} (h : ∀ xs, H p ≠ some (.tup xs)) : TM H (upd H p o) := fun b xs e => by
  rw [upd_ne (fun z => h xs (by rw [← z]; exact e))]; exact e
theorem TM.lst {H : Hp} {p : Addr} {o : HO} {us : List V} (h : H p = some (.lst us)) : TM H (upd H p o) := .put fun xs e => by rw [h] at e; cases e
theorem TM.new {H : Hp} {p : Addr} {o : HO} (h : H p = none) : TM H (upd H p o) := .put fun xs e => by rw [h] at e; cases e
theorem TM.but {a : Addr} {H H' : Hp} (b : But a H H') (st : St4 H a) : TM H H' := fun c xs e => b c _ (fun z => by
  obtain ⟨i, p, r, cc, h, _⟩ := st
  rw [← z, e] at h; cases h) e
theorem St4.put {H : Hp} {a p : Addr} {o : HO} (st : St4 H a) (h : p ≠ a) : St4 (upd H p o) a := by
  obtain ⟨i, pp, r, cc, e, k⟩ := st
  exact ⟨i, pp, r, cc, by rw [upd_ne (Ne.symm h)]; exact e, k⟩
theorem St4.ne {H : Hp} {a p : Addr} (st : St4 H a) (h : H p = none) : p ≠ a := fun z => by
  obtain ⟨i, pp, r, cc, e, k⟩ := st
  rw [z, e] at h; cases h
theorem But.fresh {a p : Addr} {H H1 : Hp} (b : But a H H1) (n : p ≠ a) (h : H1 p = none) : H p = none := by
  cases e : H p with
  | none => rfl
  | some o => rw [b p o n e] at h; cases h
theorem But.put {a p : Addr} {H H1 : Hp} {o : HO} (b : But a H H1) (h : H p = none) : But a H (L2.upd H1 p o) := fun c u n e => by
  rw [upd_ne (ne_of_none e h)]; exact b c u n e
inductive KV (H : Hp) : (Str → Prop) → Nat → V → Prop
  | leaf {N : Str → Prop} {n : Nat} {p : Addr} {x : Str} (h : H p = some (.tup [.str x])) (hx : x = "int" ∨ x = "bool" ∨ x = "unit") : KV H N (n + 1) (.ref p)
  | recd {N : Str → Prop} {n : Nat} {p : Addr} {x : Str} (h : H p = some (.tup [.str "record", .str x])) (hx : N x) : KV H N (n + 1) (.ref p)
  | may {N : Str → Prop} {n : Nat} {p : Addr} {u : V} (h : H p = some (.tup [.str "maybe", u])) (k : KV H N n u) : KV H N (n + 1) (.ref p)
  | box {N : Str → Prop} {n : Nat} {p : Addr} {x : Str} {u : V} (h : H p = some (.tup [.str x, u])) (hx : x = "box" ∨ x = "shared" ∨ x = "exclusive") (k : KV H (fun _ => True) n u) : KV H N (n + 1) (.ref p)
  | tup {N : Str → Prop} {n : Nat} {p q : Addr} {us : List V} (h : H p = some (.tup [.str "tuple", .ref q])) (hq : H q = some (.tup us)) (hl : us.length ≤ 100) (k : ∀ u ∈ us, KV H N n u) : KV H N (n + 1) (.ref p)
theorem KV.tm {H H' : Hp} (t : TM H H') {N : Str → Prop} {n : Nat} {v : V} (h : KV H N n v) : KV H' N n v := by
  induction h with
  | leaf h hx => exact .leaf (t _ _ h) hx
  | recd h hx => exact .recd (t _ _ h) hx
  | may h _ ih => exact .may (t _ _ h) ih
  | box h hx _ ih => exact .box (t _ _ h) hx ih
  | tup h hq hl _ ih => exact .tup (t _ _ h) (t _ _ hq) hl ih
theorem KV.up {H : Hp} {N : Str → Prop} {n : Nat} {v : V} (h : KV H N n v) : ∀ {m : Nat}, n ≤ m → KV H N m v := by
  induction h with
  | leaf h hx => intro m hm; obtain ⟨m, rfl⟩ : ∃ j, m = j + 1 := ⟨m - 1, by omega⟩; exact .leaf h hx
  | recd h hx => intro m hm; obtain ⟨m, rfl⟩ : ∃ j, m = j + 1 := ⟨m - 1, by omega⟩; exact .recd h hx
  | may h _ ih => intro m hm; obtain ⟨m, rfl⟩ : ∃ j, m = j + 1 := ⟨m - 1, by omega⟩; exact .may h (ih (by omega))
  | box h hx _ ih => intro m hm; obtain ⟨m, rfl⟩ : ∃ j, m = j + 1 := ⟨m - 1, by omega⟩; exact .box h hx (ih (by omega))
  | tup h hq hl _ ih => intro m hm; obtain ⟨m, rfl⟩ : ∃ j, m = j + 1 := ⟨m - 1, by omega⟩; exact .tup h hq hl fun u hu => ih u hu (by omega)
theorem KV.names {H : Hp} {N : Str → Prop} {n : Nat} {v : V} (h : KV H N n v) : ∀ {N' : Str → Prop}, (∀ x, N x → N' x) → KV H N' n v := by
  induction h with
  | leaf h hx => intro N' k; exact .leaf h hx
  | recd h hx => intro N' k; exact .recd h (k _ hx)
  | may h _ ih => intro N' k; exact .may h (ih k)
  | box h hx k0 ih => intro N' k; exact .box h hx k0
  | tup h hq hl _ ih => intro N' k; exact .tup h hq hl fun u hu => ih u hu k
/-- from an answer of the tape on -/
structure Frm (a : Addr) (H H' : Hp) : Prop where
  st : St4 H' a
  bt : But a H H'
section
variable {P : Program} {w : World} {K : PySem.W.Frag} {mg : Str → Option Value} {base : Heap}
def spKind (K : PySem.W.Frag) (m : Nat) : Sp := fun vs H Q _ => ∃ (a z : Addr) (ns : List Int) (room : Int) (pl : Bool) (nl : Addr) (xs : List Str) (N : Str → Prop), vs = [.ref a, .ref z, .int room, .bl pl, .ref nl] ∧ St4 H a ∧ Awy K a z (ns.map V.int) ∧ SqL K H z (ns.map V.int) ∧
  nl ≠ a ∧ SqL K H nl (xs.map V.str) ∧ xs.length ≤ 60 ∧ (∀ x ∈ xs, N x) ∧ 1 ≤ room ∧ room < (m : Int) ∧
  ∀ v H', KV H' N room.toNat v → St4 H' a → But a H H' → Q v H'
theorem none_kind {f : Addr} {fd : FuncData} : FnOk P w K mg base CX0 1 f fd ["state", "script", "room", "plain", "names"] (spKind K 0) := by
  have no : ∀ vs H Q E, ¬ spKind K 0 vs H Q E := fun vs H Q E h => by
    obtain ⟨a, z, ns, room, pl, nl, xs, N, _, _, _, _, _, _, _, _, h1, h2, _⟩ := h
    omega
  exact ⟨fun vs H Q E h => absurd h (no vs H Q E), fun A outer s H args us vs Q E _ _ _ _ h => absurd h (no vs H Q E)⟩
theorem ok_kind (T : Txt3 K mg) {m : Nat} (G : FnOk P w K mg base CX0 (m + 1) T._law_kind.f T._law_kind.fd ["state", "script", "room", "plain", "names"] (spKind K m)) :
    FnOk P w K mg base CX0 (m + 2) T._law_kind.f T._law_kind.fd ["state", "script", "room", "plain", "names"] (spKind K (m + 1)) := by
  refine T._law_kind.F.ok sc__law_kind (fun vs H Q E h => ?_) (fun cdv A outer s H vs Q E hr h => ?_)
  · obtain ⟨a, z, ns, room, pl, nl, xs, N, rfl, _⟩ := h
    rfl
  obtain ⟨a, z, ns, room, pl, nl, xs, N, rfl, hst, hza, hz, hna, hnl, hxl, hN, r1, r2, q⟩ := h
  refine ⟨_, (pss_cons (ps_set (i := 5) sc__law_kind.nd rfl (Or.inl rfl) (pe_call (ok_pick T.toTxt1) (hr.mono (by omega)) rfl T._law_pick.g T._law_pick.F.kp T._law_pick.b .nil pass0 (pa_cons (pv 0) (pa_cons (pv 1) (pa_cons pe_int pa_nil)))))
    (C8.pss_cut (ps_if (PW.pt (pw_and (pt_cmpR op_gt (pv 2) pe_int (nomark _)) (pw_and (pt_cmpR op_gt (pe_ix ix_list (pv 0) pe_int (fun _ _ => rfl)) pe_int (nomark _)) (pw_and1 (pt_cmpR op_gt (pv 5) pe_int (nomark _)))))) (pss_cons (ps_asg (pe_op op_sub (pe_ix ix_list (pv 0) pe_int (fun _ _ => rfl)) pe_int) (pg_sub (pv 0) pe_int set_list))
      (pss_cons (ps_if (pt_cmpR op_eq (pv 5) pe_int (nomark _)) (pss_one (ps_ret (pe_tup (pa_cons pe_str (pa_cons (pe_call (G) (hr) rfl T._law_kind.g T._law_kind.F.kp T._law_kind.b .nil pass0 (pa_cons (pv 0) (pa_cons (pv 1) (pa_cons (pe_op op_sub (pv 2) pe_int) (pa_cons pe_bl (pa_cons (pv 4) pa_nil)))))) pa_nil))))) pss_nil)
      (pss_cons (ps_if (pt_cmpR op_eq (pv 5) pe_int (nomark _)) (pss_cons (ps_set (i := 6) sc__law_kind.nd rfl (Or.inl rfl) (pe_lst pa_nil))
        (pss_cons (ps_for PassesOwn.never rfl (pi_range1 (by rfl) T.z_range (pa_cons (pe_op op_add pe_int (pe_call (ok_pick T.toTxt1) (hr.mono (by omega)) rfl T._law_pick.g T._law_pick.F.kp T._law_pick.b .nil pass0 (pa_cons (pv 0) (pa_cons (pv 1) (pa_cons pe_int pa_nil))))) pa_nil)) (pg_name (i := 7) sc__law_kind.nd rfl (Or.inl rfl)) (pss_one (ps_expr (pe_bm PySem.F.plainAttrs_list PySem.F.slot_list_append PySem.F.type_list_append mt_append (pv 6) (pa_cons (pe_call (G) (hr) rfl T._law_kind.g T._law_kind.F.kp T._law_kind.b .nil pass0 (pa_cons (pv 0) (pa_cons (pv 1) (pa_cons (pe_op op_sub (pv 2) pe_int) (pa_cons (pv 3) (pa_cons (pv 4) pa_nil)))))) pa_nil)))))
        (pss_one (ps_ret (pe_tup (pa_cons pe_str (pa_cons (pe_callTy call_tuple_of rfl T.z_tuple PyProof.Rows.boot_tuple (pa_cons (pv 6) pa_nil)) pa_nil))))))) pss_nil)
      (C8.pss_cut (ps_if (PW.pt (pw_or (pt_cmpR op_lt (pv 5) pe_int (nomark _)) (pw_or1 (pt_val (pv 3))))) (pss_one (ps_ret (pe_tup (pa_cons pe_str (pa_cons (pe_call (G) (hr) rfl T._law_kind.g T._law_kind.F.kp T._law_kind.b .nil pass0 (pa_cons (pv 0) (pa_cons (pv 1) (pa_cons (pe_op op_sub (pv 2) pe_int) (pa_cons (pv 3) (pa_cons (pv 4) pa_nil)))))) pa_nil))))) pss_nil)
      (pss_one (ps_ret (pe_tup (pa_cons (pe_ix ix_list (pe_lst (pa_cons pe_str (pa_cons pe_str pa_nil))) (pe_op op_sub (pv 5) pe_int) (fun _ _ => rfl)) (pa_cons (pe_call (G) (hr) rfl T._law_kind.g T._law_kind.F.kp T._law_kind.b .nil pass0 (pa_cons (pv 0) (pa_cons (pv 1) (pa_cons (pe_op op_sub (pv 2) pe_int) (pa_cons pe_bl (pa_cons (pv 4) pa_nil)))))) pa_nil))))))))) pss_nil)
    (C8.pss_cut (ps_if (PW.pt (pw_and (pt_cmpR op_eq (pv 5) pe_int (nomark _)) (pw_and1 (pt_cmpR op_gt (pe_callB call_len_seq rfl T.z_len PySem.boot_len (pa_cons (pv 4) pa_nil)) pe_int (nomark _))))) (pss_one (ps_ret (pe_tup (pa_cons pe_str (pa_cons (pe_ix ix_list (pv 4) (pe_call (ok_pick T.toTxt1) (hr.mono (by omega)) rfl T._law_pick.g T._law_pick.F.kp T._law_pick.b .nil pass0 (pa_cons (pv 0) (pa_cons (pv 1) (pa_cons (pe_callB call_len_seq rfl T.z_len PySem.boot_len (pa_cons (pv 4) pa_nil)) pa_nil)))) (fun _ _ => rfl)) pa_nil))))) pss_nil)
    (pss_one (ps_ret (pe_tup (pa_cons (pe_ix ix_list (pe_lst (pa_cons pe_str (pa_cons pe_str (pa_cons pe_str pa_nil)))) (pe_op op_mod (pe_callTy call_int1 rfl T.z_int PyProof.Rows.boot_int (pa_cons (pv 5) pa_nil)) pe_int) (fun _ _ => rfl)) pa_nil))))))), ?_⟩
  obtain ⟨rm, hrm⟩ : ∃ rm, room.toNat = rm + 1 := ⟨room.toNat - 1, by omega⟩
  rw [hrm] at q
  refine ⟨_, rfl, _, rfl, a, z, ns, 10, rfl, hst, hza, hz, by decide, by decide, fun ch H1 c0 c1 st1 b1 => ?_⟩
  refine ⟨fun σ' H' => H' = H1 ∧ σ' = [some (.ref a), some (.ref z), some (.int room), some (.bl pl), some (.ref nl), some (.int ch), none, none], ?_, ?_⟩
  · refine ⟨_, rfl, _, _, rfl, rfl, _, rfl, ?_⟩
    refine ite2 (fun d1 => ?_) (fun d1 => iteF ⟨rfl, rfl⟩)
    obtain ⟨i, p, r, c, ha, hi, h0, h1⟩ := st1
    refine ⟨_, rfl, a, _, 3, _, rfl, rfl, SqL.of ha, rfl, _, _, rfl, rfl, _, rfl, ?_⟩
    refine ite2 (fun d2 => ?_) (fun d2 => iteF ⟨rfl, rfl⟩)
    refine ⟨_, rfl, _, _, rfl, rfl, _, rfl, ?_⟩
    refine ite2 (fun d3 => ?_) (fun d3 => ⟨rfl, rfl⟩)
    have d1' : 1 < room := of_decide_eq_true d1
    refine ⟨_, rfl, a, _, 3, _, rfl, rfl, SqL.of ha, rfl, _, _, rfl, rfl, _, rfl, a, _, 3, 3, rfl, rfl, ha, rfl, ?_⟩
    have st2 : St4 (upd H1 a (.lst [.int i, .int p, .int r, .int (c - 1)])) a := ⟨i, p, r, c - 1, upd_same, hi, h0, h1⟩
    have b2 : But a H (upd H1 a (.lst [.int i, .int p, .int r, .int (c - 1)])) := b1.trans .upd
    have rm' : (room - 1).toNat = rm := by omega
    refine ⟨_, rfl, rfl, _, rfl, ?_⟩
    refine ite2 (fun e1 => ?_) (fun e1 => ?_)
    · refine ⟨_, rfl, _, rfl, _, rfl, _, _, rfl, rfl, _, rfl, a, z, ns, room - 1, true, nl, xs, (fun _ => True), rfl, st2, hza, b2.scr hza hz, hna, b2.seq hna hnl, hxl, fun _ _ => trivial, by omega, by omega, fun v H3 kv st3 b3 => ⟨by show 2 ≤ sizeLine; decide, fun p hp => ?_⟩⟩
      rw [rm'] at kv
      exact q _ _ (.box upd_same (.inl rfl) (kv.tm (TM.new hp))) (st3.put (st3.ne hp)) ((b2.trans b3).put ((b2.trans b3).fresh (st3.ne hp) hp))
    refine ⟨_, rfl, rfl, _, rfl, ?_⟩
    refine ite2 (fun e2 => ?_) (fun e2 => ?_)
    · refine ⟨by show 0 ≤ sizeLine; decide, fun l hl => ?_⟩
      have la : l ≠ a := st2.ne hl
      have l0 : H l = none := b2.fresh la hl
      have b3 := b2.put (o := .lst []) l0
      have st3 := st2.put (o := .lst []) la
      refine ⟨_, rfl, _, rfl, a, z, ns, 5, rfl, st3, hza, b3.scr hza hz, by decide, by decide, fun n H4 n0 n1 st4 b4 => ⟨_, _, rfl, rfl, 2 + n, rfl, by omega, by omega, for_range (lo := 0) (n := (2 + n).toNat)
        (fun i σ' H' => ∃ us kk, σ' = [some (.ref a), some (.ref z), some (.int room), some (.bl pl), some (.ref nl), some (.int ch), some (.ref l), kk] ∧ H' l = some (.lst us) ∧ us.length = i ∧ (∀ u ∈ us, KV H' N rm u) ∧ St4 H' a ∧ But a H H') ?_ ?_ ?_⟩⟩
      · exact ⟨[], _, rfl, b4 _ _ la upd_same, rfl, fun u hu => absurd hu (by simp), st4, b3.trans b4⟩
      · rintro i σ' H5 hi ⟨us, kk, rfl, h5, hlen, hus, st5, b5⟩
        refine ⟨_, rfl, .inl ⟨rfl, _, SqL.of h5⟩, ?_⟩
        refine ⟨_, rfl, _, rfl, _, rfl, _, _, rfl, rfl, _, rfl, _, rfl, a, z, ns, room - 1, pl, nl, xs, N, rfl, st5, hza, b5.scr hza hz, hna, b5.seq hna hnl, hxl, hN, by omega, by omega, fun v H6 kv st6 b6 => ?_⟩
        rw [rm'] at kv
        have h6 := b6 _ _ la h5
        refine ⟨l, _, _, rfl, rfl, h6, line_of (by omega), ?_⟩
        refine ⟨us ++ [v], _, rfl, upd_same, by rw [List.length_append, hlen]; rfl, fun u hu => ?_, st6.put la, (b5.trans b6).put l0⟩
        rcases List.mem_append.mp hu with m | m
        · exact ((hus u m).tm (TM.but b6 st5)).tm (TM.lst h6)
        · have e : u = v := by simpa using m
          rw [e]; exact kv.tm (TM.lst h6)
      · rintro σ' H5 ⟨us, kk, rfl, h5, hlen, hus, st5, b5⟩
        refine ⟨_, rfl, l, us, rfl, .inl ⟨SqL.of h5, fun p1 hp1 => ⟨by show 2 ≤ sizeLine; decide, fun p hp => ?_⟩⟩⟩
        have t1 : TM H5 (upd H5 p1 (.tup us)) := TM.new hp1
        have t2 : TM (upd H5 p1 (.tup us)) (upd (upd H5 p1 (.tup us)) p (.tup [.str "tuple", .ref p1])) := TM.new hp
        have st6 := st5.put (o := .tup us) (st5.ne hp1)
        have b6 := b5.put (o := .tup us) (b5.fresh (st5.ne hp1) hp1)
        exact q _ _ (.tup upd_same (t2 _ _ upd_same) (by omega) fun u hu => ((hus u hu).tm t1).tm t2) (st6.put (st6.ne hp)) (b6.put (b6.fresh (st6.ne hp) hp))
    have may : ∀ v H3, KV H3 N (room - 1).toNat v → St4 H3 a → But a H H3 → ∀ p, H3 p = none → Q (.ref p) (upd H3 p (.tup [.str "maybe", v])) := fun v H3 kv st3 b3 p hp => by
      rw [rm'] at kv
      exact q _ _ (.may upd_same (kv.tm (TM.new hp))) (st3.put (st3.ne hp)) (b3.put (b3.fresh (st3.ne hp) hp))
    refine ⟨fun σ' H' => St4 H' a ∧ But a H H' ∧ 7 < ch ∧ σ' = [some (.ref a), some (.ref z), some (.int room), some (.bl pl), some (.ref nl), some (.int ch), none, none], ?_, ?_⟩
    · refine ⟨_, rfl, _, _, rfl, rfl, _, rfl, ?_⟩
      refine ite2 (fun e3 => iteT ?_) (fun e3 => ⟨_, rfl, _, rfl, ite2 (fun e4 => ?_) (fun e4 => ⟨st2, b2, ?_, rfl⟩)⟩)
      · exact ⟨_, rfl, _, rfl, _, rfl, _, _, rfl, rfl, _, rfl, _, rfl, a, z, ns, room - 1, pl, nl, xs, N, rfl, st2, hza, b2.scr hza hz, hna, b2.seq hna hnl, hxl, hN, by omega, by omega, fun v H3 kv st3 b3 => ⟨by show 2 ≤ sizeLine; decide, fun p hp => may v H3 kv st3 (b2.trans b3) p hp⟩⟩
      · exact ⟨_, rfl, _, rfl, _, rfl, _, _, rfl, rfl, _, rfl, _, rfl, a, z, ns, room - 1, pl, nl, xs, N, rfl, st2, hza, b2.scr hza hz, hna, b2.seq hna hnl, hxl, hN, by omega, by omega, fun v H3 kv st3 b3 => ⟨by show 2 ≤ sizeLine; decide, fun p hp => may v H3 kv st3 (b2.trans b3) p hp⟩⟩
      · have x1 : ¬ ch < 7 := of_decide_eq_false (Bool.eq_false_iff.mpr e3)
        have x2 : ¬ V.int ch = V.int 7 := of_decide_eq_false (Bool.eq_false_iff.mpr e2)
        have x3 : ch ≠ 7 := fun e => x2 (by rw [e])
        omega
    · rintro σ' H2 ⟨st2, b2, h7, rfl⟩
      refine ⟨by show 2 ≤ sizeLine; decide, fun p0 hp0 => ⟨_, rfl, _, _, rfl, rfl, ?_⟩⟩
      obtain ⟨x, hx, hx'⟩ := atI_ex (l := [V.str "shared", V.str "exclusive"]) (n := ch - 8) (by omega) (by show ch - 8 < 2; omega)
      have hx2 : x = V.str "shared" ∨ x = V.str "exclusive" := by simpa using mem_of_get hx
      have st3 := st2.put (o := .lst [V.str "shared", V.str "exclusive"]) (st2.ne hp0)
      have b3 := b2.put (o := .lst [V.str "shared", V.str "exclusive"]) (b2.fresh (st2.ne hp0) hp0)
      refine ⟨p0, _, _, x, rfl, rfl, SqL.of upd_same, hx', ?_⟩
      refine ⟨_, rfl, _, rfl, _, rfl, _, _, rfl, rfl, _, rfl, a, z, ns, room - 1, true, nl, xs, (fun _ => True), rfl, st3, hza, b3.scr hza hz, hna, b3.seq hna hnl, hxl, fun _ _ => trivial, by omega, by omega, fun v H4 kv st4 b4 => ⟨by show 2 ≤ sizeLine; decide, fun p hp => ?_⟩⟩
      rw [rm'] at kv
      have fin : ∀ w : Str, x = V.str w → (w = "box" ∨ w = "shared" ∨ w = "exclusive") → Q (.ref p) (upd H4 p (.tup [x, v])) := fun w hw hw2 => by
        subst hw
        exact q _ _ (.box upd_same hw2 (kv.tm (TM.new hp))) (st4.put (st4.ne hp)) ((b3.trans b4).put ((b3.trans b4).fresh (st4.ne hp) hp))
      rcases hx2 with e | e
      · exact fin _ e (.inr (.inl rfl))
      · exact fin _ e (.inr (.inr rfl))
  · rintro σ' H1 ⟨rfl, rfl⟩
    refine ⟨fun σ' H' => H' = H1 ∧ σ' = [some (.ref a), some (.ref z), some (.int room), some (.bl pl), some (.ref nl), some (.int ch), none, none], ?_, ?_⟩
    · refine ⟨_, rfl, rfl, _, rfl, ?_⟩
      refine ite2 (fun d1 => ?_) (fun d1 => iteF ⟨rfl, rfl⟩)
      refine ⟨_, rfl, nl, _, rfl, .inl (b1.seq hna hnl), _, _, rfl, rfl, _, rfl, ?_⟩
      refine ite2 (fun d2 => ?_) (fun d2 => ⟨rfl, rfl⟩)
      have d2' : 0 < (((xs.map V.str).length : Nat) : Int) := of_decide_eq_true d2
      rw [List.length_map] at d2'
      refine ⟨_, rfl, _, rfl, _, rfl, _, rfl, nl, _, rfl, .inl (b1.seq hna hnl), a, z, ns, _, rfl, st1, hza, b1.scr hza hz, by rw [List.length_map]; exact d2', by rw [List.length_map]; omega, fun n H2 n0 n1 st2 b2 => ?_⟩
      have b12 := b1.trans b2
      obtain ⟨x, hx, hx'⟩ := atI_ex (l := xs.map V.str) n0 n1
      obtain ⟨y, hy, rfl⟩ := List.mem_map.mp (mem_of_get hx)
      refine ⟨nl, _, _, _, rfl, rfl, b12.seq hna hnl, hx', by show 2 ≤ sizeLine; decide, fun p hp => ?_⟩
      exact q _ _ (.recd upd_same (hN y hy)) (st2.put (st2.ne hp)) (b12.put (b12.fresh (st2.ne hp) hp))
    · rintro σ' H1 ⟨rfl, rfl⟩
      refine ⟨by show 3 ≤ sizeLine; decide, fun p0 hp0 => ⟨_, rfl, .inl ⟨_, rfl, _, _, rfl, rfl, by show (0 : Int) < 3; decide, ?_⟩⟩⟩
      obtain ⟨x, hx, hx'⟩ := atI_ex (l := [V.str "int", V.str "bool", V.str "unit"]) (n := ch % 3) (Int.emod_nonneg _ (by decide)) (by show ch % 3 < 3; omega)
      have hx2 : x = V.str "int" ∨ x = V.str "bool" ∨ x = V.str "unit" := by simpa using mem_of_get hx
      refine ⟨p0, _, _, x, rfl, rfl, SqL.of upd_same, hx', by show 1 ≤ sizeLine; decide, fun p hp => ?_⟩
      have st3 := st1.put (o := .lst [V.str "int", V.str "bool", V.str "unit"]) (st1.ne hp0)
      have b3 := b1.put (o := .lst [V.str "int", V.str "bool", V.str "unit"]) (b1.fresh (st1.ne hp0) hp0)
      have fin : ∀ w : Str, x = V.str w → (w = "int" ∨ w = "bool" ∨ w = "unit") → Q (.ref p) (upd (upd H1 p0 (.lst [V.str "int", V.str "bool", V.str "unit"])) p (.tup [x])) := fun w hw hw2 => by
        subst hw
        exact q _ _ (.leaf upd_same hw2) (st3.put (st3.ne hp)) (b3.put (b3.fresh (st3.ne hp) hp))
      rcases hx2 with e | e | e
      · exact fin _ e (.inl rfl)
      · exact fin _ e (.inr (.inl rfl))
      · exact fin _ e (.inr (.inr rfl))
theorem ok_kindN (T : Txt3 K mg) : ∀ m : Nat, FnOk P w K mg base CX0 (m + 1) T._law_kind.f T._law_kind.fd ["state", "script", "room", "plain", "names"] (spKind K m)
  | 0 => none_kind
  | m + 1 => ok_kind T (ok_kindN T m)
end
end Kk
namespace Kk
open PySem L2
section
variable {X : Cx}
/-- a test, with a word between its answer and what follows -/
theorem pt_mid {e : Expr} {t : TT} (h : PT X e t) : PT X e (fun σ H Q => ∃ Pm : Bool → Hp → Prop, t σ H Pm ∧ ∀ b H1, Pm b H1 → Q b H1) :=
  ⟨fun pins s σ H Q I ⟨Pm, h1, h2⟩ => thn (h.run pins s σ H Pm I h1) fun b s1 ⟨H1, I1, q⟩ => ⟨H1, I1, h2 b H1 q⟩⟩
end
theorem atI_0 {α : Type} {v : α} {us : List α} : atI (v :: us) 0 = some v := atI_nat (j := 0) rfl
theorem atI_1 {α : Type} {v x : α} {us : List α} : atI (v :: x :: us) 1 = some x := atI_nat (j := 1) rfl
theorem KV.inv {H : Hp} {N : Str → Prop} {n : Nat} {v : V} (k : KV H N (n + 1) v) : ∃ p us, v = .ref p ∧ H p = some (.tup us) ∧
    ((∃ x, us = [.str x] ∧ (x = "int" ∨ x = "bool" ∨ x = "unit")) ∨ (∃ x, us = [.str "record", .str x] ∧ N x) ∨ (∃ u, us = [.str "maybe", u] ∧ KV H N n u) ∨
      (∃ x u, us = [.str x, u] ∧ (x = "box" ∨ x = "shared" ∨ x = "exclusive") ∧ KV H (fun _ => True) n u) ∨
      (∃ q ws, us = [.str "tuple", .ref q] ∧ H q = some (.tup ws) ∧ ws.length ≤ 100 ∧ ∀ u ∈ ws, KV H N n u)) := by
  cases k with
  | leaf h hx => exact ⟨_, _, rfl, h, .inl ⟨_, rfl, hx⟩⟩
  | recd h hx => exact ⟨_, _, rfl, h, .inr (.inl ⟨_, rfl, hx⟩)⟩
  | may h k => exact ⟨_, _, rfl, h, .inr (.inr (.inl ⟨_, rfl, k⟩))⟩
  | box h hx k => exact ⟨_, _, rfl, h, .inr (.inr (.inr (.inl ⟨_, _, rfl, hx, k⟩)))⟩
  | tup h hq hl k => exact ⟨_, _, rfl, h, .inr (.inr (.inr (.inr ⟨_, _, rfl, hq, hl, k⟩)))⟩
/-- it begins with a text -/
theorem KV.hd {H : Hp} {N : Str → Prop} {n : Nat} {v : V} (k : KV H N n v) : ∃ p x us, v = .ref p ∧ H p = some (.tup (.str x :: us)) := by
  cases n with
  | zero => cases k
  | succ n =>
    obtain ⟨p, us, rfl, h, c⟩ := k.inv
    rcases c with ⟨x, rfl, _⟩ | ⟨x, rfl, _⟩ | ⟨u, rfl, _⟩ | ⟨x, u, rfl, _⟩ | ⟨q, ws, rfl, _⟩ <;> exact ⟨_, _, _, rfl, h⟩
theorem KV.tupI {H : Hp} {N : Str → Prop} {n : Nat} {p : Addr} {us : List V} (k : KV H N n (.ref p)) (h : H p = some (.tup (.str "tuple" :: us))) :
    ∃ m q ws, n = m + 1 ∧ us = [.ref q] ∧ H q = some (.tup ws) ∧ ws.length ≤ 100 ∧ ∀ u ∈ ws, KV H N m u := by
  cases n with
  | zero => cases k
  | succ n =>
    obtain ⟨p', us', e, h', c⟩ := k.inv
    cases e
    rw [h] at h'
    have e := HO.tup.inj (Option.some.inj h')
    rcases c with ⟨x, rfl, hx⟩ | ⟨x, rfl, _⟩ | ⟨u, rfl, _⟩ | ⟨x, u, rfl, hx, _⟩ | ⟨q, ws, rfl, hq, hl, hk⟩
    · injection e with e1 e2
      have e3 := V.str.inj e1
      subst e3
      rcases hx with z | z | z <;> exact absurd z (by decide +kernel)
    · injection e with e1 e2
      exact absurd (V.str.inj e1) (by decide +kernel)
    · injection e with e1 e2
      exact absurd (V.str.inj e1) (by decide +kernel)
    · injection e with e1 e2
      have e3 := V.str.inj e1
      subst e3
      rcases hx with z | z | z <;> exact absurd z (by decide +kernel)
    · injection e with e1 e2
      exact ⟨n, q, ws, rfl, e2, hq, hl, hk⟩
theorem KV.oneI {H : Hp} {N : Str → Prop} {n : Nat} {p : Addr} {x : Str} {us : List V} (k : KV H N n (.ref p)) (h : H p = some (.tup (.str x :: us))) (hx : x = "maybe" ∨ x = "box" ∨ x = "shared" ∨ x = "exclusive") :
    ∃ m u, n = m + 1 ∧ us = [u] ∧ KV H (fun _ => True) m u ∧ (x = "maybe" → KV H N m u) := by
  cases n with
  | zero => cases k
  | succ n =>
    obtain ⟨p', us', e, h', c⟩ := k.inv
    cases e
    rw [h] at h'
    have e := HO.tup.inj (Option.some.inj h')
    rcases c with ⟨y, rfl, hy⟩ | ⟨y, rfl, _⟩ | ⟨u, rfl, hk⟩ | ⟨y, u, rfl, hy, hk⟩ | ⟨q, ws, rfl, hq, hl, hk⟩
    · injection e with e1 e2
      have e3 := V.str.inj e1
      subst e3
      rcases hx with z | z | z | z <;> rw [z] at hy <;> exact absurd hy (by decide +kernel)
    · injection e with e1 e2
      have e3 := V.str.inj e1
      subst e3
      exact absurd hx (by decide +kernel)
    · injection e with e1 e2
      exact ⟨n, u, rfl, e2, hk.names fun _ _ => trivial, fun _ => hk⟩
    · injection e with e1 e2
      have e3 := V.str.inj e1
      subst e3
      refine ⟨n, u, rfl, e2, hk, fun z => ?_⟩
      rw [z] at hy
      exact absurd hy (by decide +kernel)
    · injection e with e1 e2
      have e3 := V.str.inj e1
      subst e3
      exact absurd hx (by decide +kernel)
theorem str_of_dec {x y : Str} (h : decide (V.str x = V.str y) = true) : x = y := V.str.inj (of_decide_eq_true h)
theorem Frm.new {a p : Addr} {H H1 : Hp} {o : HO} (f : Frm a H H1) (hp : H1 p = none) : Frm a H (upd H1 p o) := ⟨f.st.put (f.st.ne hp), f.bt.put (f.bt.fresh (f.st.ne hp) hp)⟩
section
variable {P : Program} {w : World} {K : PySem.W.Frag} {mg : Str → Option Value} {base : Heap}
def spPlain (m : Nat) : Sp := fun vs H Q _ => ∃ (v : V) (N : Str → Prop), vs = [v] ∧ KV H N m v ∧ ∀ b, Q (.bl b) H
theorem none_plain {f : Addr} {fd : FuncData} : FnOk P w K mg base CX0 0 f fd ["kind"] (spPlain 0) := by
  have no : ∀ vs H Q E, ¬ spPlain 0 vs H Q E := fun vs H Q E h => by
    obtain ⟨v, N, _, k, _⟩ := h
    cases k
  exact ⟨fun vs H Q E h => absurd h (no vs H Q E), fun A outer s H args us vs Q E _ _ _ _ h => absurd h (no vs H Q E)⟩
theorem ok_plain (T : Txt3 K mg) {m : Nat} (G : FnOk P w K mg base CX0 m T._law_is_plain.f T._law_is_plain.fd ["kind"] (spPlain m)) :
    FnOk P w K mg base CX0 (m + 1) T._law_is_plain.f T._law_is_plain.fd ["kind"] (spPlain (m + 1)) := by
  refine T._law_is_plain.F.ok sc__law_is_plain (fun vs H Q E h => ?_) (fun cdv A outer s H vs Q E hr h => ?_)
  · obtain ⟨v, N, rfl, _⟩ := h
    rfl
  obtain ⟨v, N, rfl, kv, q⟩ := h
  refine ⟨_, (pss_cons (ps_if (pt_mid (PW.pt (pw_or (pt_cmpR op_eq (pe_ix ix_tup (pv 0) pe_int (fun _ _ => rfl)) pe_str (nomark _)) (pw_or1 (pt_cmpR op_eq (pe_ix ix_tup (pv 0) pe_int (fun _ _ => rfl)) pe_str (nomark _)))))) (pss_one (ps_ret pe_bl)) pss_nil)
    (C8.pss_cut (ps_if (pt_cmpR op_eq (pe_ix ix_tup (pv 0) pe_int (fun _ _ => rfl)) pe_str (nomark _)) (pss_one (ps_for PassesOwn.never rfl (pi_tup (pe_ix ix_tup (pv 0) pe_int (fun _ _ => rfl))) (pg_name (i := 1) sc__law_is_plain.nd rfl (Or.inl rfl)) (pss_one (ps_if (pt_not (pt_val (pe_call (G) (hr) rfl T._law_is_plain.g T._law_is_plain.F.kp T._law_is_plain.b .nil pass0 (pa_cons (pv 1) pa_nil)))) (pss_one (ps_ret pe_bl)) pss_nil)))) pss_nil)
    (pss_cons (ps_if (pt_mid (PW.pt (pw_or (pt_cmpR op_eq (pe_ix ix_tup (pv 0) pe_int (fun _ _ => rfl)) pe_str (nomark _)) (pw_or1 (pt_cmpR op_eq (pe_ix ix_tup (pv 0) pe_int (fun _ _ => rfl)) pe_str (nomark _)))))) (pss_one (ps_ret (pe_call (G) (hr) rfl T._law_is_plain.g T._law_is_plain.F.kp T._law_is_plain.b .nil pass0 (pa_cons (pe_ix ix_tup (pv 0) pe_int (fun _ _ => rfl)) pa_nil)))) pss_nil)
    (pss_one (ps_ret pe_bl))))), ?_⟩
  obtain ⟨p, x, us, rfl, hp⟩ := kv.hd
  have sq : SqT K H p (.str x :: us) := .inl (.inl hp)
  refine ⟨fun _ H1 => H1 = H, ⟨_, rfl, p, _, 0, _, rfl, rfl, sq, atI_0, rfl, _, rfl, ite2 (fun _ => rfl) (fun _ => ⟨_, rfl, p, _, 0, _, rfl, rfl, sq, atI_0, rfl, _, rfl, rfl⟩)⟩, fun b H1 e => ?_⟩
  subst e
  refine ite2 (fun _ => q false) (fun _ => ?_)
  refine ⟨fun σ' H' => H' = H1 ∧ ∃ y, σ' = [some (.ref p), y], ⟨_, rfl, p, _, 0, _, rfl, rfl, sq, atI_0, rfl, _, rfl, ite2 (fun c => ?_) (fun _ => ⟨rfl, _, rfl⟩)⟩, ?_⟩
  · have e := str_of_dec c
    subst e
    obtain ⟨m', r, ws, em, rfl, hr2, hl, hk⟩ := kv.tupI hp
    cases em
    refine ⟨_, rfl, p, _, 1, _, rfl, rfl, sq, atI_1, r, rfl, ⟨_, .inl (.inl hr2)⟩, for_tup (K := K) (a := r) (xs := ws) (fun i σ' H' => H' = H1 ∧ ∃ y, σ' = [some (.ref p), y]) ⟨rfl, _, rfl⟩ (fun i σ H' _ e => e.1 ▸ .inl (.inl hr2)) ?_ (fun σ H' e => e)⟩
    rintro i u σ' H' hi ⟨rfl, y, rfl⟩
    exact ⟨_, rfl, u, N, rfl, hk u (mem_of_get hi), fun b => ⟨b, rfl, ite2 (fun _ => q false) (fun _ => ⟨rfl, _, rfl⟩)⟩⟩
  · rintro σ' H' ⟨rfl, y, rfl⟩
    refine ⟨fun b H1 => H1 = H' ∧ (b = true → x = "maybe" ∨ x = "box"), ⟨_, rfl, p, _, 0, _, rfl, rfl, sq, atI_0, rfl, _, rfl, ite2 (fun c => ⟨rfl, fun _ => .inl (str_of_dec c)⟩) (fun _ => ⟨_, rfl, p, _, 0, _, rfl, rfl, sq, atI_0, rfl, _, rfl, rfl, fun c => .inr (str_of_dec c)⟩)⟩, fun b H1 e => ?_⟩
    obtain ⟨rfl, e⟩ := e
    refine ite2 (fun c => ?_) (fun _ => q true)
    obtain ⟨m', u, em, rfl, hk, _⟩ := kv.oneI hp (by rcases e c with z | z; exact .inl z; exact .inr (.inl z))
    cases em
    exact ⟨_, rfl, p, _, 1, _, rfl, rfl, sq, atI_1, u, _, rfl, hk, fun b => q b⟩
theorem ok_plainN (T : Txt3 K mg) : ∀ m : Nat, FnOk P w K mg base CX0 m T._law_is_plain.f T._law_is_plain.fd ["kind"] (spPlain m)
  | 0 => none_plain
  | m + 1 => ok_plain T (ok_plainN T m)
def spWide (K : PySem.W.Frag) : Sp := fun vs H Q _ => ∃ (a z : Addr) (ns : List Int), vs = [.ref a, .ref z] ∧ St4 H a ∧ Awy K a z (ns.map V.int) ∧ SqL K H z (ns.map V.int) ∧
  ∀ v H', KV H' (fun _ => False) 6 v → St4 H' a → But a H H' → Q v H'
theorem ok_wide (T : Txt3 K mg) : FnOk P w K mg base CX0 2 T._law_wide.f T._law_wide.fd ["state", "script"] (spWide K) := by
  refine T._law_wide.F.ok sc__law_wide (fun vs H Q E h => ?_) (fun cdv A outer s H vs Q E hr h => ?_)
  · obtain ⟨a, z, ns, rfl, _⟩ := h
    rfl
  obtain ⟨a, z, ns, rfl, hst, hza, hz, q⟩ := h
  refine ⟨_, (pss_cons (ps_set (i := 2) sc__law_wide.nd rfl (Or.inl rfl) (pe_lst (pa_cons (pe_tup (pa_cons pe_str (pa_cons (pe_tup (pa_cons pe_str pa_nil)) pa_nil))) (pa_cons (pe_tup (pa_cons pe_str (pa_cons (pe_tup (pa_cons pe_str pa_nil)) pa_nil))) (pa_cons (pe_tup (pa_cons pe_str (pa_cons (pe_tup (pa_cons pe_str (pa_cons (pe_tup (pa_cons pe_str pa_nil)) pa_nil))) pa_nil))) (pa_cons (pe_tup (pa_cons pe_str (pa_cons (pe_tup (pa_cons pe_str pa_nil)) pa_nil))) pa_nil))))))
    (pss_cons (ps_set (i := 3) sc__law_wide.nd rfl (Or.inl rfl) (pe_lst pa_nil))
    (pss_cons (ps_for PassesOwn.never rfl (pi_range1 (by rfl) T.z_range (pa_cons (pe_op op_add pe_int (pe_call (ok_pick T.toTxt1) (hr.mono (by omega)) rfl T._law_pick.g T._law_pick.F.kp T._law_pick.b .nil pass0 (pa_cons (pv 0) (pa_cons (pv 1) (pa_cons pe_int pa_nil))))) pa_nil)) (pg_name (i := 4) sc__law_wide.nd rfl (Or.inl rfl)) (pss_cons (ps_set (i := 5) sc__law_wide.nd rfl (Or.inl rfl) (pe_lst pa_nil))
      (pss_cons (ps_for PassesOwn.never rfl (pi_range1 (by rfl) T.z_range (pa_cons (pe_op op_add pe_int (pe_call (ok_pick T.toTxt1) (hr.mono (by omega)) rfl T._law_pick.g T._law_pick.F.kp T._law_pick.b .nil pass0 (pa_cons (pv 0) (pa_cons (pv 1) (pa_cons pe_int pa_nil))))) pa_nil)) (pg_name (i := 6) sc__law_wide.nd rfl (Or.inl rfl)) (pss_one (ps_expr (pe_bm PySem.F.plainAttrs_list PySem.F.slot_list_append PySem.F.type_list_append mt_append (pv 5) (pa_cons (pe_ix ix_list (pe_op op_cat (pv 2) (pe_lst (pa_cons (pe_tup (pa_cons pe_str pa_nil)) pa_nil))) (pe_call (ok_pick T.toTxt1) (hr.mono (by omega)) rfl T._law_pick.g T._law_pick.F.kp T._law_pick.b .nil pass0 (pa_cons (pv 0) (pa_cons (pv 1) (pa_cons pe_int pa_nil)))) (fun _ _ => rfl)) pa_nil)))))
      (pss_one (ps_expr (pe_bm PySem.F.plainAttrs_list PySem.F.slot_list_append PySem.F.type_list_append mt_append (pv 3) (pa_cons (pe_tup (pa_cons pe_str (pa_cons (pe_callTy call_tuple_of rfl T.z_tuple PyProof.Rows.boot_tuple (pa_cons (pv 5) pa_nil)) pa_nil))) pa_nil)))))))
    (pss_one (ps_ret (pe_tup (pa_cons pe_str (pa_cons (pe_callTy call_tuple_of rfl T.z_tuple PyProof.Rows.boot_tuple (pa_cons (pv 3) pa_nil)) pa_nil)))))))), ?_⟩
  have f0 : Frm a H H := ⟨hst, .refl a H⟩
  have N0 : Str → Prop := fun _ => False
  refine ⟨by show 1 ≤ sizeLine; decide, fun p1 h1 => ⟨by show 2 ≤ sizeLine; decide, fun p2 h2 => ?_⟩⟩
  refine ⟨by show 1 ≤ sizeLine; decide, fun p3 h3 => ⟨by show 2 ≤ sizeLine; decide, fun p4 h4 => ?_⟩⟩
  refine ⟨by show 1 ≤ sizeLine; decide, fun p5 h5 => ⟨by show 2 ≤ sizeLine; decide, fun p6 h6 => ⟨by show 2 ≤ sizeLine; decide, fun p7 h7 => ?_⟩⟩⟩
  refine ⟨by show 1 ≤ sizeLine; decide, fun p8 h8 => ⟨by show 2 ≤ sizeLine; decide, fun p9 h9 => ⟨by show 4 ≤ sizeLine; decide, fun l hl => ?_⟩⟩⟩
  have f1 := f0.new (o := .tup [.str "int"]) h1
  have f2 := f1.new (o := .tup [.str "shared", .ref p1]) h2
  have f3 := f2.new (o := .tup [.str "bool"]) h3
  have f4 := f3.new (o := .tup [.str "exclusive", .ref p3]) h4
  have f5 := f4.new (o := .tup [.str "int"]) h5
  have f6 := f5.new (o := .tup [.str "box", .ref p5]) h6
  have f7 := f6.new (o := .tup [.str "shared", .ref p6]) h7
  have f8 := f7.new (o := .tup [.str "unit"]) h8
  have f9 := f8.new (o := .tup [.str "box", .ref p8]) h9
  have f10 := f9.new (o := .lst [.ref p2, .ref p4, .ref p7, .ref p9]) hl
  have t10 := TM.new (o := .lst [.ref p2, .ref p4, .ref p7, .ref p9]) hl
  have t9 := (TM.new h9).trans t10
  have t8 := (TM.new h8).trans t9
  have t7 := (TM.new h7).trans t8
  have t6 := (TM.new h6).trans t7
  have t5 := (TM.new h5).trans t6
  have t4 := (TM.new h4).trans t5
  have t3 := (TM.new h3).trans t4
  have k2 : KV _ (fun _ => False) 2 (.ref p2) := KV.box (n := 1) (upd_same (H := upd H p1 (.tup [.str "int"]))) (.inr (.inl rfl)) ((KV.leaf (n := 0) upd_same (.inl rfl)).tm (TM.new h2))
  have k4 := KV.box (N := fun _ => False) (n := 1) (upd_same (o := .tup [.str "exclusive", .ref p3])) (.inr (.inr rfl)) ((KV.leaf (n := 0) upd_same (.inr (.inl rfl))).tm (TM.new h4))
  have k6 := KV.box (N := fun _ => True) (n := 1) (upd_same (o := .tup [.str "box", .ref p5])) (.inl rfl) ((KV.leaf (n := 0) upd_same (.inl rfl)).tm (TM.new h6))
  have k7 := KV.box (N := fun _ => False) (n := 2) (upd_same (o := .tup [.str "shared", .ref p6])) (.inr (.inl rfl)) (k6.tm (TM.new h7))
  have k9 := KV.box (N := fun _ => False) (n := 1) (upd_same (o := .tup [.str "box", .ref p8])) (.inl rfl) ((KV.leaf (n := 0) upd_same (.inr (.inr rfl))).tm (TM.new h9))
  have K2 := (k2.tm t3).up (m := 3) (by decide)
  have K4 := (k4.tm t5).up (m := 3) (by decide)
  have K7 := k7.tm t8
  have K9 := (k9.tm t10).up (m := 3) (by decide)
  have hfs : ∀ u ∈ [V.ref p2, V.ref p4, V.ref p7, V.ref p9], KV _ (fun _ => False) 3 u := fun u hu => by
    rcases List.mem_cons.mp hu with e | hu
    · rw [e]; exact K2
    rcases List.mem_cons.mp hu with e | hu
    · rw [e]; exact K4
    rcases List.mem_cons.mp hu with e | hu
    · rw [e]; exact K7
    rcases List.mem_cons.mp hu with e | hu
    · rw [e]; exact K9
    · cases hu
  have la : l ≠ a := f9.st.ne hl
  obtain ⟨fs, efs⟩ : ∃ fs, fs = [V.ref p2, V.ref p4, V.ref p7, V.ref p9] := ⟨_, rfl⟩
  have hfl : fs.length = 4 := by rw [efs]; rfl
  refine ⟨by show 0 ≤ sizeLine; decide, fun rw' hrw => ?_⟩
  have f11 := f10.new (o := .lst []) hrw
  have tR := TM.new (o := .lst []) hrw
  have rwa : rw' ≠ a := f10.st.ne hrw
  have nlr : l ≠ rw' := ne_of_none upd_same hrw
  refine ⟨_, rfl, _, rfl, a, z, ns, 5, rfl, f11.st, hza, f11.bt.scr hza hz, by decide, by decide, fun n H12 n0 n1 st12 b12 => ⟨_, _, rfl, rfl, 2 + n, rfl, by omega, by omega, for_range (lo := 0) (n := (2 + n).toNat)
    (fun i σ' H' => ∃ kk it jj us, σ' = [some (.ref a), some (.ref z), some (.ref l), some (.ref rw'), kk, it, jj] ∧ H' l = some (.lst fs) ∧ (∀ u ∈ fs, KV H' (fun _ => False) 3 u) ∧ H' rw' = some (.lst us) ∧ us.length = i ∧ (∀ u ∈ us, KV H' (fun _ => False) 4 u) ∧ Frm a H H') ?_ ?_ ?_⟩⟩
  · refine ⟨_, _, _, [], rfl, b12 _ _ la ((same_new hrw _) _ _ (by rw [efs]; exact upd_same)), fun u hu => ?_, b12 _ _ rwa upd_same, rfl, fun u hu => absurd hu (by simp), ⟨st12, f11.bt.trans b12⟩⟩
    exact ((hfs u (by rw [← efs]; exact hu)).tm tR).tm (TM.but b12 f11.st)
  · rintro i σ' H13 hi ⟨kk, it, jj, us, rfl, hl13, hf13, hr13, hlen, hk13, f13⟩
    refine ⟨by show 0 ≤ sizeLine; decide, fun im him => ?_⟩
    have ima : im ≠ a := f13.st.ne him
    have nli : l ≠ im := ne_of_none hl13 him
    have nri : rw' ≠ im := ne_of_none hr13 him
    have f14 := f13.new (o := .lst []) him
    have t14 := TM.new (o := .lst []) him
    refine ⟨_, rfl, _, rfl, a, z, ns, 5, rfl, f14.st, hza, f14.bt.scr hza hz, by decide, by decide, fun n' H15 n0' n1' st15 b15 => ⟨_, _, rfl, rfl, 2 + n', rfl, by omega, by omega, for_range (lo := 0) (n := (2 + n').toNat)
      (fun j σ' H' => ∃ kk jj ws, σ' = [some (.ref a), some (.ref z), some (.ref l), some (.ref rw'), kk, some (.ref im), jj] ∧ H' l = some (.lst fs) ∧ (∀ u ∈ fs, KV H' (fun _ => False) 3 u) ∧ H' rw' = some (.lst us) ∧ (∀ u ∈ us, KV H' (fun _ => False) 4 u) ∧
        H' im = some (.lst ws) ∧ ws.length = j ∧ (∀ u ∈ ws, KV H' (fun _ => False) 3 u) ∧ H im = none ∧ Frm a H H') ?_ ?_ ?_⟩⟩
    · have t15 := t14.trans (TM.but b15 f14.st)
      exact ⟨_, _, [], rfl, b15 _ _ la ((same_new him _) _ _ hl13), fun u hu => (hf13 u hu).tm t15, b15 _ _ rwa ((same_new him _) _ _ hr13), fun u hu => (hk13 u hu).tm t15, b15 _ _ ima upd_same, rfl, fun u hu => absurd hu (by simp), f13.bt.fresh ima him, ⟨st15, f14.bt.trans b15⟩⟩
    · rintro j σ' H16 hj ⟨kk, jj, ws, rfl, hl16, hf16, hr16, hk16, hi16, hj16, hw16, him0, f16⟩
      refine ⟨_, rfl, .inl ⟨rfl, _, SqL.of hi16⟩, ?_⟩
      refine ⟨_, rfl, by show 1 ≤ sizeLine; decide, fun u1 hu1 => ⟨by show 1 ≤ sizeLine; decide, fun e1 he1 => ?_⟩⟩
      have f17 := f16.new (o := .tup [.str "unit"]) hu1
      have f18 := f17.new (o := .lst [.ref u1]) he1
      have t17 := (TM.new (o := .tup [.str "unit"]) hu1).trans (TM.new (o := .lst [.ref u1]) he1)
      refine ⟨l, e1, _, _, rfl, rfl, (same_new he1 _) _ _ ((same_new hu1 _) _ _ hl16), upd_same, by rw [hfl]; show 5 ≤ sizeLine; decide, fun c hc => ?_⟩
      have f19 := f18.new (o := .lst (fs ++ [.ref u1])) hc
      have t19 := t17.trans (TM.new (o := .lst (fs ++ [.ref u1])) hc)
      have nic : c ≠ im := Ne.symm (ne_of_none ((same_new he1 _) _ _ ((same_new hu1 _) _ _ hi16)) hc)
      have ca : c ≠ a := f18.st.ne hc
      refine ⟨_, rfl, _, rfl, a, z, ns, 5, rfl, f19.st, hza, f19.bt.scr hza hz, by decide, by decide, fun m H20 m0 m1 st20 b20 => ?_⟩
      have t20 := t19.trans (TM.but b20 f19.st)
      obtain ⟨v, hv, hv'⟩ := atI_ex (l := fs ++ [V.ref u1]) m0 (by rw [List.length_append, hfl]; show m < 5; exact m1)
      have kv : KV H20 (fun _ => False) 3 v := by
        rcases List.mem_append.mp (mem_of_get hv) with hm | hm
        · exact (hf16 v hm).tm t20
        · have e : v = V.ref u1 := by simpa using hm
          rw [e]
          exact ((((KV.leaf (n := 2) upd_same (.inr (.inr rfl))).tm (TM.new he1)).tm (TM.new hc)).tm (TM.but b20 f19.st))
      have i20 := b20 _ _ ima ((same_new hc _) _ _ ((same_new he1 _) _ _ ((same_new hu1 _) _ _ hi16)))
      refine ⟨c, _, _, v, rfl, rfl, SqL.of (b20 _ _ ca upd_same), hv', im, _, _, rfl, rfl, i20, line_of (by omega), ?_⟩
      have tL := TM.lst (o := .lst (ws ++ [v])) i20
      refine ⟨_, _, ws ++ [v], rfl, ?_, fun u hu => ((hf16 u hu).tm t20).tm tL, ?_, fun u hu => ((hk16 u hu).tm t20).tm tL, upd_same, by rw [List.length_append, hj16]; rfl, fun u hu => ?_, him0, ⟨st20.put ima, (f19.bt.trans b20).put him0⟩⟩
      · rw [upd_ne nli]
        exact b20 _ _ la ((same_new hc _) _ _ ((same_new he1 _) _ _ ((same_new hu1 _) _ _ hl16)))
      · rw [upd_ne nri]
        exact b20 _ _ rwa ((same_new hc _) _ _ ((same_new he1 _) _ _ ((same_new hu1 _) _ _ hr16)))
      · rcases List.mem_append.mp hu with hm | hm
        · exact ((hw16 u hm).tm t20).tm tL
        · have e : u = v := by simpa using hm
          rw [e]; exact kv.tm tL
    · rintro σ' H16 ⟨kk, jj, ws, rfl, hl16, hf16, hr16, hk16, hi16, hj16, hw16, him0, f16⟩
      refine ⟨_, rfl, .inl ⟨rfl, _, SqL.of hr16⟩, ?_⟩
      refine ⟨_, rfl, im, ws, rfl, .inl ⟨SqL.of hi16, fun p hp => ⟨by show 2 ≤ sizeLine; decide, fun p' hp' => ?_⟩⟩⟩
      have f17 := f16.new (o := .tup ws) hp
      have f18 := f17.new (o := .tup [.str "tuple", .ref p]) hp'
      have t17 := TM.new (o := .tup [.str "tuple", .ref p]) hp'
      have t18 := (TM.new (o := .tup ws) hp).trans t17
      have r18 := (same_new hp' (.tup [.str "tuple", .ref p])) _ _ ((same_new hp (.tup ws)) _ _ hr16)
      have kv : KV _ (fun _ => False) 4 (.ref p') := KV.tup (n := 3) upd_same (t17 _ _ upd_same) (by omega) fun u hu => (hw16 u hu).tm t18
      refine ⟨rw', _, _, rfl, rfl, r18, line_of (by omega), ?_⟩
      have tL := TM.lst (o := .lst (us ++ [.ref p'])) r18
      have hrw0 : H rw' = none := f10.bt.fresh rwa hrw
      refine ⟨_, _, _, us ++ [.ref p'], rfl, ?_, fun u hu => ((hf16 u hu).tm t18).tm tL, upd_same, by rw [List.length_append, hlen]; rfl, fun u hu => ?_, ⟨f18.st.put rwa, f18.bt.put hrw0⟩⟩
      · rw [upd_ne nlr]
        exact (same_new hp' _) _ _ ((same_new hp _) _ _ hl16)
      · rcases List.mem_append.mp hu with hm | hm
        · exact ((hk16 u hm).tm t18).tm tL
        · have e : u = .ref p' := by simpa using hm
          rw [e]; exact kv.tm tL
  · rintro σ' H13 ⟨kk, it, jj, us, rfl, hl13, hf13, hr13, hlen, hk13, f13⟩
    refine ⟨_, rfl, rw', us, rfl, .inl ⟨SqL.of hr13, fun p hp => ⟨by show 2 ≤ sizeLine; decide, fun p' hp' => ?_⟩⟩⟩
    have f14 := (f13.new (o := .tup us) hp).new (o := .tup [.str "tuple", .ref p]) hp'
    have t14 := TM.new (o := .tup [.str "tuple", .ref p]) hp'
    exact q _ _ ((KV.tup (n := 4) upd_same (t14 _ _ upd_same) (by omega) fun u hu => (hk13 u hu).tm ((TM.new hp).trans t14)).up (by decide)) f14.st f14.bt
def spAny (K : PySem.W.Frag) : Sp := fun vs H Q _ => ∃ (a z : Addr) (ns : List Int) (nl : Addr) (xs : List Str) (N : Str → Prop), vs = [.ref a, .ref z, .ref nl] ∧ St4 H a ∧ Awy K a z (ns.map V.int) ∧ SqL K H z (ns.map V.int) ∧
  nl ≠ a ∧ SqL K H nl (xs.map V.str) ∧ xs.length ≤ 60 ∧ (∀ x ∈ xs, N x) ∧
  ∀ v H', KV H' N 6 v → St4 H' a → But a H H' → Q v H'
theorem ok_any (T : Txt3 K mg) : FnOk P w K mg base CX0 10 T._law_any_kind.f T._law_any_kind.fd ["state", "script", "names"] (spAny K) := by
  refine T._law_any_kind.F.ok sc__law_any_kind (fun vs H Q E h => ?_) (fun cdv A outer s H vs Q E hr h => ?_)
  · obtain ⟨a, z, ns, nl, xs, N, rfl, _⟩ := h
    rfl
  obtain ⟨a, z, ns, nl, xs, N, rfl, hst, hza, hz, hna, hnl, hxl, hN, q⟩ := h
  refine ⟨_, (pss_cons (ps_if (pt_cmpR op_eq (pe_call (ok_pick T.toTxt1) (hr.mono (by omega)) rfl T._law_pick.g T._law_pick.F.kp T._law_pick.b .nil pass0 (pa_cons (pv 0) (pa_cons (pv 1) (pa_cons pe_int pa_nil)))) pe_int (nomark _)) (pss_one (ps_ret (pe_call (ok_wide T) (hr.mono (by omega)) rfl T._law_wide.g T._law_wide.F.kp T._law_wide.b .nil pass0 (pa_cons (pv 0) (pa_cons (pv 1) pa_nil))))) pss_nil)
    (pss_cons (ps_asg pe_int (pg_sub (pv 0) pe_int set_list))
    (pss_cons (ps_if (pt_cmpR op_gt (pe_call (ok_pick T.toTxt1) (hr.mono (by omega)) rfl T._law_pick.g T._law_pick.F.kp T._law_pick.b .nil pass0 (pa_cons (pv 0) (pa_cons (pv 1) (pa_cons pe_int pa_nil)))) pe_int (nomark _)) (pss_one (ps_ret (pe_call (ok_kindN T 7) (hr.mono (by omega)) rfl T._law_kind.g T._law_kind.F.kp T._law_kind.b .nil pass0 (pa_cons (pv 0) (pa_cons (pv 1) (pa_cons pe_int (pa_cons pe_bl (pa_cons (pv 2) pa_nil)))))))) pss_nil)
    (pss_cons (ps_set (i := 3) sc__law_any_kind.nd rfl (Or.inl rfl) (pe_call (ok_kindN T 7) (hr.mono (by omega)) rfl T._law_kind.g T._law_kind.F.kp T._law_kind.b .nil pass0 (pa_cons (pv 0) (pa_cons (pv 1) (pa_cons pe_int (pa_cons pe_bl (pa_cons (pv 2) pa_nil)))))))
    (pss_cons (ps_for PassesOwn.never rfl (pi_range1 (by rfl) T.z_range (pa_cons (pe_call (ok_pick T.toTxt1) (hr.mono (by omega)) rfl T._law_pick.g T._law_pick.F.kp T._law_pick.b .nil pass0 (pa_cons (pv 0) (pa_cons (pv 1) (pa_cons pe_int pa_nil)))) pa_nil)) (pg_name (i := 4) sc__law_any_kind.nd rfl (Or.inl rfl)) (pss_cons (ps_set (i := 5) sc__law_any_kind.nd rfl (Or.inl rfl) (pe_call (ok_pick T.toTxt1) (hr.mono (by omega)) rfl T._law_pick.g T._law_pick.F.kp T._law_pick.b .nil pass0 (pa_cons (pv 0) (pa_cons (pv 1) (pa_cons pe_int pa_nil)))))
      (pss_one (ps_if (pt_mid (PW.pt (pw_and (pt_cmpR op_lt (pv 5) pe_int (nomark _)) (pw_and1 (pt_val (pe_call (ok_plainN T 7) (hr.mono (by omega)) rfl T._law_is_plain.g T._law_is_plain.F.kp T._law_is_plain.b .nil pass0 (pa_cons (pv 3) pa_nil))))))) (pss_one (ps_set (i := 3) sc__law_any_kind.nd rfl (Or.inl rfl) (pe_tup (pa_cons (pe_ix ix_list (pe_lst (pa_cons pe_str (pa_cons pe_str (pa_cons pe_str pa_nil)))) (pv 5) (fun _ _ => rfl)) (pa_cons (pv 3) pa_nil))))) (pss_one (ps_if (pt_cmpR op_eq (pv 5) pe_int (nomark _)) (pss_one (ps_set (i := 3) sc__law_any_kind.nd rfl (Or.inl rfl) (pe_tup (pa_cons pe_str (pa_cons (pe_tup (pa_cons (pe_tup (pa_cons pe_str pa_nil)) (pa_cons (pv 3) pa_nil))) pa_nil))))) (pss_one (ps_set (i := 3) sc__law_any_kind.nd rfl (Or.inl rfl) (pe_tup (pa_cons pe_str (pa_cons (pv 3) pa_nil)))))))))))
    (pss_one (ps_ret (pv 3)))))))), ?_⟩
  refine ⟨_, rfl, _, rfl, a, z, ns, 8, rfl, hst, hza, hz, by decide, by decide, fun n1 H1 _ _ st1 b1 => ⟨rfl, _, rfl, ?_⟩⟩
  refine ite2 (fun _ => ?_) (fun _ => ?_)
  · exact ⟨_, rfl, _, rfl, a, z, ns, rfl, st1, hza, b1.scr hza hz, fun v H2 kv st2 b2 => q v H2 (kv.names fun _ h => h.elim) st2 (b1.trans b2)⟩
  obtain ⟨i, p, r, c, ha, hi, h0, h1⟩ := st1
  refine ⟨_, rfl, a, _, 3, 3, rfl, rfl, ha, rfl, ?_⟩
  have st2 : St4 (upd H1 a (.lst [.int i, .int p, .int r, .int 9])) a := ⟨i, p, r, 9, upd_same, hi, h0, h1⟩
  have b2 : But a H (upd H1 a (.lst [.int i, .int p, .int r, .int 9])) := b1.trans .upd
  refine ⟨_, rfl, _, rfl, a, z, ns, 3, rfl, st2, hza, b2.scr hza hz, by decide, by decide, fun n3 H3 _ _ st3 b3 => ⟨_, _, rfl, rfl, _, rfl, ?_⟩⟩
  have b3' := b2.trans b3
  refine ite2 (fun _ => ?_) (fun _ => ?_)
  · exact ⟨_, rfl, _, rfl, _, rfl, a, z, ns, 6, false, nl, xs, N, rfl, st3, hza, b3'.scr hza hz, hna, b3'.seq hna hnl, hxl, hN, by decide, by decide, fun v H4 kv st4 b4 => q v H4 kv st4 (b3'.trans b4)⟩
  refine ⟨_, rfl, _, rfl, _, rfl, a, z, ns, 2, false, nl, xs, N, rfl, st3, hza, b3'.scr hza hz, hna, b3'.seq hna hnl, hxl, hN, by decide, by decide, fun v H4 kv st4 b4 => ?_⟩
  have b4' := b3'.trans b4
  refine ⟨_, rfl, _, rfl, a, z, ns, 5, rfl, st4, hza, b4'.scr hza hz, by decide, by decide, fun n5 H5 m0 m1 st5 b5 => ⟨n5, rfl, by omega, by omega, for_range (lo := 0) (n := n5.toNat)
    (fun i σ' H' => ∃ v kk cc, σ' = [some (.ref a), some (.ref z), some (.ref nl), some v, kk, cc] ∧ KV H' N (2 + i) v ∧ Frm a H H') ?_ ?_ ?_⟩⟩
  · exact ⟨v, _, _, rfl, kv.tm (TM.but b5 st4), ⟨st5, b4'.trans b5⟩⟩
  · rintro i σ' H6 hi ⟨v, kk, cc, rfl, kv, f6⟩
    refine ⟨_, rfl, _, rfl, a, z, ns, 5, rfl, f6.st, hza, f6.bt.scr hza hz, by decide, by decide, fun ch H7 c0 c1 st7 b7 => ?_⟩
    have kv7 := kv.tm (TM.but b7 f6.st)
    have f7 : Frm a H H7 := ⟨st7, f6.bt.trans b7⟩
    refine ⟨fun b H' => H' = H7 ∧ (b = true → ch < 3), ⟨_, rfl, _, _, rfl, rfl, _, rfl, ite2 (fun d => ⟨_, rfl, v, N, rfl, kv7.up (by omega), fun b => ⟨b, rfl, rfl, fun _ => of_decide_eq_true d⟩⟩) (fun d => ⟨rfl, fun e => Bool.noConfusion e⟩)⟩, ?_⟩
    rintro b H' ⟨rfl, hb⟩
    refine ite2 (fun d => ?_) (fun d => ?_)
    · refine ⟨by show 3 ≤ sizeLine; decide, fun l hl => ⟨_, rfl, ?_⟩⟩
      obtain ⟨x, hx, hx'⟩ := atI_ex (l := [V.str "box", V.str "shared", V.str "exclusive"]) (n := ch) c0 (by have := hb d; show ch < 3; omega)
      have hx2 : x = V.str "box" ∨ x = V.str "shared" ∨ x = V.str "exclusive" := by simpa using mem_of_get hx
      refine ⟨l, _, _, x, rfl, rfl, SqL.of upd_same, hx', _, rfl, by show 2 ≤ sizeLine; decide, fun p hp => ?_⟩
      have f8 := (f7.new (o := .lst [V.str "box", V.str "shared", V.str "exclusive"]) hl).new (o := .tup [x, v]) hp
      have t8 := (TM.new (o := .lst [V.str "box", V.str "shared", V.str "exclusive"]) hl).trans (TM.new (o := .tup [x, v]) hp)
      have fin : ∀ w : Str, x = V.str w → (w = "box" ∨ w = "shared" ∨ w = "exclusive") → KV (upd (upd H' l (.lst [V.str "box", V.str "shared", V.str "exclusive"])) p (.tup [x, v])) N (2 + (i + 1)) (.ref p) := fun w hw hw2 => by
        subst hw
        exact KV.box (n := 2 + i) upd_same hw2 ((kv7.tm t8).names fun _ _ => trivial)
      refine ⟨.ref p, _, _, rfl, ?_, f8⟩
      rcases hx2 with e | e | e
      · exact fin _ e (.inl rfl)
      · exact fin _ e (.inr (.inl rfl))
      · exact fin _ e (.inr (.inr rfl))
    · refine ⟨_, rfl, rfl, _, rfl, ?_⟩
      refine ite2 (fun d => ?_) (fun d => ?_)
      · refine ⟨by show 1 ≤ sizeLine; decide, fun p1 h1 => ⟨_, rfl, by show 2 ≤ sizeLine; decide, fun p2 h2 => ⟨by show 2 ≤ sizeLine; decide, fun p3 h3 => ?_⟩⟩⟩
        have f8 := ((f7.new (o := .tup [.str "unit"]) h1).new (o := .tup [.ref p1, v]) h2).new (o := .tup [.str "tuple", .ref p2]) h3
        have t3 := TM.new (o := .tup [.str "tuple", .ref p2]) h3
        have t2 := (TM.new (o := .tup [.ref p1, v]) h2).trans t3
        have t1 := (TM.new (o := .tup [.str "unit"]) h1).trans t2
        refine ⟨.ref p3, _, _, rfl, KV.tup (n := 2 + i) upd_same (t3 _ _ upd_same) (by show 2 ≤ 100; decide) fun u hu => ?_, f8⟩
        rcases List.mem_cons.mp hu with e | hu
        · rw [e]
          exact ((KV.leaf (n := 0) upd_same (.inr (.inr rfl))).tm t2).up (by omega)
        · have e : u = v := by simpa using hu
          rw [e]; exact kv7.tm t1
      · refine ⟨_, rfl, by show 2 ≤ sizeLine; decide, fun p hp => ?_⟩
        exact ⟨.ref p, _, _, rfl, KV.may (n := 2 + i) upd_same (kv7.tm (TM.new hp)), f7.new hp⟩
  · rintro σ' H6 ⟨v, kk, cc, rfl, kv, f6⟩
    exact ⟨_, rfl, q v H6 (kv.up (by omega)) f6.st f6.bt⟩
end
end Kk
namespace Kk
open PySem L2
abbrev s__law_same : Stmt := topS 26
theorem sc__law_same : FnScope ["actual", "due", "k"] ["actual", "due"] (defScope s__law_same) := ⟨rfl, rfl, rfl, by decide +kernel, rfl, by decide +kernel, by decide +kernel⟩
abbrev s__law_size : Stmt := topS 27
theorem sc__law_size : FnScope ["rows", "kind", "row", "item", "field"] ["rows", "kind"] (defScope s__law_size) := ⟨rfl, rfl, rfl, by decide +kernel, rfl, by decide +kernel, by decide +kernel⟩
abbrev s__law_is_small : Stmt := topS 28
theorem sc__law_is_small : FnScope ["rows", "kind", "item"] ["rows", "kind"] (defScope s__law_is_small) := ⟨rfl, rfl, rfl, by decide +kernel, rfl, by decide +kernel, by decide +kernel⟩
structure Txt4 (K : PySem.W.Frag) (mg : Str → Option Value) extends Txt3 K mg where
  _law_same : Df K mg "_law_same" s__law_same ["actual", "due"]
  _law_size : Df K mg "_law_size" s__law_size ["rows", "kind"]
  _law_is_small : Df K mg "_law_is_small" s__law_is_small ["rows", "kind"]
inductive DV (H : Hp) : Nat → V → Prop
  | str {n : Nat} {x : Str} : DV H (n + 1) (.str x)
  | tup {n : Nat} {p : Addr} {us : List V} (h : H p = some (.tup us)) (hl : us.length ≤ 100) (k : ∀ u ∈ us, DV H n u) : DV H (n + 1) (.ref p)
theorem DV.up {H : Hp} {n : Nat} {v : V} (h : DV H n v) : ∀ {m : Nat}, n ≤ m → DV H m v := by
  induction h with
  | str => intro m hm; obtain ⟨m, rfl⟩ : ∃ j, m = j + 1 := ⟨m - 1, by omega⟩; exact .str
  | tup h hl _ ih => intro m hm; obtain ⟨m, rfl⟩ : ∃ j, m = j + 1 := ⟨m - 1, by omega⟩; exact .tup h hl fun u hu => ih u hu (by omega)
theorem KV.dv {H : Hp} {N : Str → Prop} {n : Nat} {v : V} (h : KV H N n v) : DV H (2 * n) v := by
  have one : ∀ {n : Nat} {x : Str} {t u : V}, DV H n t → u ∈ [V.str x, t] → DV H (n + 1) u := by
    intro n x t u h hu
    rcases List.mem_cons.mp hu with e | hu
    · rw [e]; exact .str
    · have e : u = t := by simpa using hu
      rw [e]; exact h.up (by omega)
  induction h with
  | @leaf N n p x h hx =>
    refine DV.tup (n := 2 * n + 1) h (by show 1 ≤ 100; decide) fun u hu => ?_
    have e : u = .str x := by simpa using hu
    rw [e]; exact .str
  | @recd N n p x h hx =>
    refine DV.tup (n := 2 * n + 1) h (by show 2 ≤ 100; decide) fun u hu => ?_
    rcases List.mem_cons.mp hu with e | hu
    · rw [e]; exact .str
    · have e : u = .str x := by simpa using hu
      rw [e]; exact .str
  | @may N n p t h k ih => exact DV.tup (n := 2 * n + 1) h (by show 2 ≤ 100; decide) fun u hu => one ih hu
  | @box N n p x t h hx k ih => exact DV.tup (n := 2 * n + 1) h (by show 2 ≤ 100; decide) fun u hu => one ih hu
  | @tup N n p q us h hq hl k ih =>
    refine DV.tup (n := 2 * n + 1) h (by show 2 ≤ 100; decide) fun u hu => ?_
    rcases List.mem_cons.mp hu with e | hu
    · rw [e]; exact .str
    · have e : u = .ref q := by simpa using hu
      rw [e]; exact .tup hq hl ih
theorem bt_sum : bootBuiltins "sum" = some (.builtin "sum") := by decide +kernel
/-- a pair of a text and a value -/
def Pr (H : Hp) (u : V) (n : Str) (t : V) : Prop := ∃ p, u = .ref p ∧ H p = some (.tup [.str n, t])
theorem Pr.tm {H H' : Hp} (m : TM H H') {u t : V} {n : Str} (h : Pr H u n t) : Pr H' u n t := by
  obtain ⟨p, e, hp⟩ := h
  exact ⟨p, e, m _ _ hp⟩
/-- the fields of a record -/
def Flds (H : Hp) (N : Str → Prop) (ws : List V) : Prop := 1 ≤ ws.length ∧ ws.length ≤ 10 ∧ ∀ x ∈ ws, ∃ fn t, Pr H x fn t ∧ Gd 22 fn ∧ KV H N 6 t
theorem Flds.tm {H H' : Hp} (m : TM H H') {N : Str → Prop} {ws : List V} (h : Flds H N ws) : Flds H' N ws := ⟨h.1, h.2.1, fun x hx => by
  obtain ⟨fn, t, a, b, c⟩ := h.2.2 x hx
  exact ⟨fn, t, a.tm m, b, c.tm m⟩⟩
/-- records: a record's unboxed names have a lower rank than its own -/
def Rws (rank : Str → Nat) (H : Hp) (us : List V) : Prop := ∀ u ∈ us, ∃ n f ws, Pr H u n (.ref f) ∧ H f = some (.tup ws) ∧ Flds H (fun y => rank y < rank n) ws
theorem Rws.tm {rank : Str → Nat} {H H' : Hp} (m : TM H H') {us : List V} (h : Rws rank H us) : Rws rank H' us := fun u hu => by
  obtain ⟨n, f, ws, a, b, c⟩ := h u hu
  exact ⟨n, f, ws, a.tm m, m _ _ b, c.tm m⟩
section
variable {P : Program} {w : World} {K : PySem.W.Frag} {mg : Str → Option Value} {base : Heap}
def spSame (m : Nat) : Sp := fun vs H Q _ => ∃ v, vs = [v, v] ∧ DV H m v ∧ Q (.bl true) H
theorem none_same {f : Addr} {fd : FuncData} : FnOk P w K mg base CX0 0 f fd ["actual", "due"] (spSame 0) := by
  have no : ∀ vs H Q E, ¬ spSame 0 vs H Q E := fun vs H Q E h => by
    obtain ⟨v, _, k, _⟩ := h
    cases k
  exact ⟨fun vs H Q E h => absurd h (no vs H Q E), fun A outer s H args us vs Q E _ _ _ _ h => absurd h (no vs H Q E)⟩
theorem ok_same (T : Txt4 K mg) {m : Nat} (G : FnOk P w K mg base CX0 m T._law_same.f T._law_same.fd ["actual", "due"] (spSame m)) :
    FnOk P w K mg base CX0 (m + 1) T._law_same.f T._law_same.fd ["actual", "due"] (spSame (m + 1)) := by
  refine T._law_same.F.ok sc__law_same (fun vs H Q E h => ?_) (fun cdv A outer s H vs Q E hr h => ?_)
  · obtain ⟨v, rfl, _⟩ := h
    rfl
  obtain ⟨v, rfl, dv, q⟩ := h
  refine ⟨_, (pss_cons (ps_if (pt_val (pe_callB call_isi rfl T.z_isinstance PyProof.Rows.boot_isinstance (pa_cons (pv 1) (pa_cons (pe_bltn (v := .ty "tuple") rfl T.z_tuple PyProof.Rows.boot_tuple rfl) pa_nil)))) (pss_cons (ps_if (pt_mid (PW.pt (pw_or (pt_not (pt_val (pe_callB call_isi rfl T.z_isinstance PyProof.Rows.boot_isinstance (pa_cons (pv 0) (pa_cons (pe_bltn (v := .ty "tuple") rfl T.z_tuple PyProof.Rows.boot_tuple rfl) pa_nil))))) (pw_or1 (pt_cmpR op_ne (pe_callB call_len_seq rfl T.z_len PySem.boot_len (pa_cons (pv 0) pa_nil)) (pe_callB call_len_seq rfl T.z_len PySem.boot_len (pa_cons (pv 1) pa_nil)) (nomark _)))))) (pss_one (ps_ret pe_bl)) pss_nil)
      (pss_cons (ps_for PassesOwn.never rfl (pi_range1 (by rfl) T.z_range (pa_cons (pe_callB call_len_seq rfl T.z_len PySem.boot_len (pa_cons (pv 1) pa_nil)) pa_nil)) (pg_name (i := 2) sc__law_same.nd rfl (Or.inl rfl)) (pss_one (ps_if (pt_not (pt_val (pe_call (G) (hr) rfl T._law_same.g T._law_same.F.kp T._law_same.b .nil pass0 (pa_cons (pe_ix ix_tup (pv 0) (pv 2) (fun _ _ => rfl)) (pa_cons (pe_ix ix_tup (pv 1) (pv 2) (fun _ _ => rfl)) pa_nil))))) (pss_one (ps_ret pe_bl)) pss_nil)))
      (pss_one (ps_ret pe_bl)))) pss_nil)
    (pss_cons (ps_if (pt_val (pe_callB call_isi rfl T.z_isinstance PyProof.Rows.boot_isinstance (pa_cons (pv 1) (pa_cons (pe_bltn (v := .ty "bool") rfl T.z_bool PyProof.Rows.boot_bool rfl) pa_nil)))) (pss_one (ps_ret (pe_and (pe_callB call_isi rfl T.z_isinstance PyProof.Rows.boot_isinstance (pa_cons (pv 0) (pa_cons (pe_bltn (v := .ty "bool") rfl T.z_bool PyProof.Rows.boot_bool rfl) pa_nil))) (pe_one (pe_cmpR op_eq (pv 0) (pv 1) (nomark _)))))) pss_nil)
    (pss_cons (ps_if (pt_val (pe_callB call_isi rfl T.z_isinstance PyProof.Rows.boot_isinstance (pa_cons (pv 1) (pa_cons (pe_bltn (v := .ty "int") rfl T.z_int PyProof.Rows.boot_int rfl) pa_nil)))) (pss_one (ps_ret (pe_and (pe_callB call_isi rfl T.z_isinstance PyProof.Rows.boot_isinstance (pa_cons (pv 0) (pa_cons (pe_bltn (v := .ty "int") rfl T.z_int PyProof.Rows.boot_int rfl) pa_nil))) (pe_and (pe_not (pe_callB call_isi rfl T.z_isinstance PyProof.Rows.boot_isinstance (pa_cons (pv 0) (pa_cons (pe_bltn (v := .ty "bool") rfl T.z_bool PyProof.Rows.boot_bool rfl) pa_nil)))) (pe_one (pe_cmpR op_eq (pv 0) (pv 1) (nomark _))))))) pss_nil)
    (pss_one (ps_ret (pe_and (pe_callB call_isi rfl T.z_isinstance PyProof.Rows.boot_isinstance (pa_cons (pv 0) (pa_cons (pe_bltn (v := .ty "str") rfl T.z_str PyProof.Rows.boot_str rfl) pa_nil))) (pe_one (pe_cmpR op_eq (pv 0) (pv 1) (nomark _))))))))), ?_⟩
  cases dv with
  | @str _ x =>
    refine ⟨_, rfl, _, _, _, _, false, rfl, .ty _, .base (.str x), kit_ty (by decide +kernel), _, rfl, iteF ?_⟩
    refine ⟨_, rfl, _, _, _, _, false, rfl, .ty _, .base (.str x), kit_ty (by decide +kernel), _, rfl, iteF ?_⟩
    refine ⟨_, rfl, _, _, _, _, false, rfl, .ty _, .base (.str x), kit_ty (by decide +kernel), _, rfl, iteF ?_⟩
    refine ⟨_, rfl, _, _, _, _, true, rfl, .ty _, .base (.str x), kit_ty (by decide +kernel), _, rfl, iteT ?_⟩
    refine ⟨_, rfl, _, rfl, rfl, ?_⟩
    have e : decide (V.str x = V.str x) = true := decide_eq_true rfl
    rw [e]; exact q
  | @tup _ p us h hl hk =>
    have sq : SqT K H p us := .inl (.inl h)
    refine ⟨_, rfl, _, _, _, _, true, rfl, .ty _, .base (.tup h), kit_ty (by decide +kernel), _, rfl, iteT ?_⟩
    refine ⟨fun b H' => b = false ∧ H' = H, ⟨_, rfl, _, _, _, _, true, rfl, .ty _, .base (.tup h), kit_ty (by decide +kernel), _, rfl, iteF ⟨_, rfl, p, _, rfl, .inr sq, _, rfl, p, _, rfl, .inr sq, rfl, _, rfl, by simp, rfl⟩⟩, ?_⟩
    rintro b H' ⟨rfl, rfl⟩
    refine iteF ⟨_, rfl, p, _, rfl, .inr sq, _, rfl, by omega, by omega, for_range (lo := 0) (n := ((us.length : Int)).toNat) (fun i σ' H'' => H'' = H' ∧ ∃ kk, σ' = [some (.ref p), some (.ref p), kk]) ⟨rfl, _, rfl⟩ ?_ ?_⟩
    · rintro i σ' H'' hi ⟨rfl, kk, rfl⟩
      obtain ⟨u, hu, hu'⟩ := atI_ex (l := us) (n := (0 + (i : Int))) (by omega) (by omega)
      refine ⟨_, rfl, _, rfl, p, _, _, u, rfl, rfl, sq, hu', _, rfl, _, rfl, p, _, _, u, rfl, rfl, sq, hu', u, rfl, hk u (mem_of_get hu), true, rfl, ?_⟩
      exact iteF ⟨rfl, _, rfl⟩
    · rintro σ' H'' ⟨rfl, kk, rfl⟩
      exact q
theorem ok_sameN (T : Txt4 K mg) : ∀ m : Nat, FnOk P w K mg base CX0 m T._law_same.f T._law_same.fd ["actual", "due"] (spSame m)
  | 0 => none_same
  | m + 1 => ok_same T (ok_sameN T m)
def SqA (K : PySem.W.Frag) (H : Hp) (a : Addr) (xs : List V) : Prop := SqL K H a xs ∨ SqT K H a xs
theorem SqA.same {H H' : Hp} {a : Addr} {xs : List V} (e : Same H H') (h : SqA K H a xs) : SqA K H' a xs := by
  rcases h with h | h
  · exact .inl (e.seq h)
  · rcases h with (h | ⟨o, h⟩) | h
    · exact .inr (.inl (.inl (e _ _ h)))
    · exact .inr (.inl (.inr ⟨o, e _ _ h⟩))
    · exact .inr (.inr h)
theorem KV.recI {H : Hp} {N : Str → Prop} {n : Nat} {p : Addr} {us : List V} (k : KV H N n (.ref p)) (h : H p = some (.tup (.str "record" :: us))) :
    ∃ m y, n = m + 1 ∧ us = [.str y] ∧ N y := by
  cases n with
  | zero => cases k
  | succ n =>
    obtain ⟨p', us', e, h', c⟩ := k.inv
    cases e
    rw [h] at h'
    have e := HO.tup.inj (Option.some.inj h')
    rcases c with ⟨x, rfl, hx⟩ | ⟨x, rfl, hN⟩ | ⟨u, rfl, _⟩ | ⟨x, u, rfl, hx, _⟩ | ⟨q, ws, rfl, hq, hl, hk⟩
    · injection e with e1 e2
      have e3 := V.str.inj e1
      subst e3
      exact absurd hx (by decide +kernel)
    · injection e with e1 e2
      exact ⟨n, x, rfl, e2, hN⟩
    · injection e with e1 e2
      exact absurd (V.str.inj e1) (by decide +kernel)
    · injection e with e1 e2
      have e3 := V.str.inj e1
      subst e3
      exact absurd hx (by decide +kernel)
    · injection e with e1 e2
      exact absurd (V.str.inj e1) (by decide +kernel)
theorem for_seq {K : PySem.W.Frag} {a : Addr} {xs : List V} {g : TG} {tb : TS} {D : Ends} {σ : St} {H : Hp} {j : Nat} (hj : σ[j]? = some (some (.ref a))) (h : SqA K H a xs) (Pv : Nat → St → Hp → Prop) (h0 : Pv 0 σ H) (hl : ∀ i σ H', Pv i σ H' → Same H H')
    (hs : ∀ i x σ H, xs[i]? = some x → Pv i σ H → g x σ H fun σ2 H2 => tb { D with nx := Pv (i + 1), ct := Pv (i + 1), bk := D.nx } σ2 H2) (hd : ∀ σ H, Pv xs.length σ H → D.nx σ H) :
    tFor (fun σ H R => iList K (tVar j) σ H R ∨ iTup K (tVar j) σ H R) g tb D σ H := by
  rcases h with h | h
  · exact .inl ⟨_, hj, a, rfl, ⟨_, h⟩, for_list (K := K) (a := a) (xs := xs) Pv h0 (fun i σ H' _ q => (hl i σ H' q).seq h) hs hd⟩
  · exact .inr ⟨_, hj, a, rfl, ⟨_, h⟩, for_tup (K := K) (a := a) (xs := xs) Pv h0 (fun i σ H' _ q => by
      rcases SqA.same (hl i σ H' q) (.inr h) with z | z
      · rcases h with (h | ⟨o, h⟩) | h
        · exact .inl (.inl (hl i σ H' q _ _ h))
        · exact .inl (.inr ⟨o, hl i σ H' q _ _ h⟩)
        · exact .inr h
      · exact z) hs hd⟩
def spSize (K : PySem.W.Frag) (m : Nat) : Sp := fun vs H Q _ => ∃ (ra : Addr) (us : List V) (v : V) (N : Str → Prop) (n r : Nat) (rank : Str → Nat), vs = [.ref ra, v] ∧ SqA K H ra us ∧ Rws rank H us ∧ KV H N n v ∧ (∀ x, N x → rank x < r) ∧ r * 7 + n < m ∧
  ∀ i H', Same H H' → Q (.int i) H'
theorem none_size {f : Addr} {fd : FuncData} : FnOk P w K mg base CX0 0 f fd ["rows", "kind"] (spSize K 0) := by
  have no : ∀ vs H Q E, ¬ spSize K 0 vs H Q E := fun vs H Q E h => by
    obtain ⟨ra, us, v, N, n, r, rank, _, _, _, _, _, k, _⟩ := h
    omega
  exact ⟨fun vs H Q E h => absurd h (no vs H Q E), fun A outer s H args us vs Q E _ _ _ _ h => absurd h (no vs H Q E)⟩
theorem ok_size (T : Txt4 K mg) {m : Nat} (G : FnOk P w K mg base CX0 m T._law_size.f T._law_size.fd ["rows", "kind"] (spSize K m)) :
    FnOk P w K mg base CX0 (m + 1) T._law_size.f T._law_size.fd ["rows", "kind"] (spSize K (m + 1)) := by
  refine T._law_size.F.ok sc__law_size (fun vs H Q E h => ?_) (fun cdv A outer s H vs Q E hr h => ?_)
  · obtain ⟨ra, us, v, N, n, r, rank, rfl, _⟩ := h
    rfl
  obtain ⟨ra, us, v, N, n, r, rank, rfl, hra, hrw, kv, hN, hm, q⟩ := h
  refine ⟨_, (pss_cons (ps_if (pt_cmpR op_eq (pe_ix ix_tup (pv 1) pe_int (fun _ _ => rfl)) pe_str (nomark _)) (pss_one (ps_ret (pe_op op_add pe_int (pe_call (G) (hr) rfl T._law_size.g T._law_size.F.kp T._law_size.b .nil pass0 (pa_cons (pv 0) (pa_cons (pe_ix ix_tup (pv 1) pe_int (fun _ _ => rfl)) pa_nil)))))) pss_nil)
    (pss_cons (ps_if (pt_cmpR op_eq (pe_ix ix_tup (pv 1) pe_int (fun _ _ => rfl)) pe_str (nomark _)) (pss_one (ps_ret (pe_callB (cr_sum rfl) rfl T.z_sum bt_sum (pa_cons (pe_lc (own := [("item", 3)]) (g := gName 3) (tt := tYes) rfl sc__law_size.nd (pi_tup (pe_ix ix_tup (pv 1) pe_int (fun _ _ => rfl))) (blkOk_by (N := ["rows", "kind", "row", "item", "field"]) (sc := defScope s__law_size) (by decide +kernel)) (fun _ _ _ _ _ => pg_name (i := 3) sc__law_size.nd rfl (Or.inl rfl)) (fun _ _ _ _ _ => pts_nil) (fun _ _ _ _ _ => (pe_call (G) (hr) rfl T._law_size.g T._law_size.F.kp T._law_size.b .nil pass0 (pa_cons (pv 0) (pa_cons (pv 3) pa_nil))))) pa_nil)))) pss_nil)
    (C8.pss_cut (ps_if (pt_cmpR op_eq (pe_ix ix_tup (pv 1) pe_int (fun _ _ => rfl)) pe_str (nomark _)) (pss_one (ps_for PassesOwn.never rfl (pi_seq (pv 0)) (pg_name (i := 2) sc__law_size.nd rfl (Or.inl rfl)) (pss_one (ps_if (pt_cmpR op_eq (pe_ix ix_tup (pv 2) pe_int (fun _ _ => rfl)) (pe_ix ix_tup (pv 1) pe_int (fun _ _ => rfl)) (nomark _)) (pss_one (ps_ret (pe_callB (cr_sum rfl) rfl T.z_sum bt_sum (pa_cons (pe_lc (own := [("field", 4)]) (g := gName 4) (tt := tYes) rfl sc__law_size.nd (pi_tup (pe_ix ix_tup (pv 2) pe_int (fun _ _ => rfl))) (blkOk_by (N := ["rows", "kind", "row", "item", "field"]) (sc := defScope s__law_size) (by decide +kernel)) (fun _ _ _ _ _ => pg_name (i := 4) sc__law_size.nd rfl (Or.inl rfl)) (fun _ _ _ _ _ => pts_nil) (fun _ _ _ _ _ => (pe_call (G) (hr) rfl T._law_size.g T._law_size.F.kp T._law_size.b .nil pass0 (pa_cons (pv 0) (pa_cons (pe_ix (show IxR _ (rIxT K) from ix_tup) (pv 4) pe_int (fun _ _ => rfl)) pa_nil))))) pa_nil)))) pss_nil)))) pss_nil)
    (pss_one (ps_ret pe_int))))), ?_⟩
  obtain ⟨p, x, ts, rfl, hp⟩ := kv.hd
  have sq : SqT K H p (.str x :: ts) := .inl (.inl hp)
  -- the sum over a tuple of kinds
  refine ⟨_, rfl, p, _, 0, _, rfl, rfl, sq, atI_0, rfl, _, rfl, ite2 (fun c => ?_) (fun _ => ?_)⟩
  · have e := str_of_dec c
    obtain ⟨m', u, em, rfl, _, hk⟩ := kv.oneI hp (.inl e)
    exact ⟨_, rfl, _, rfl, p, _, 1, _, rfl, rfl, sq, atI_1, ra, us, u, N, m', r, rank, rfl, hra, hrw, hk e, hN, by omega, fun i H1 g1 => ⟨_, _, rfl, rfl, q _ _ g1⟩⟩
  refine ⟨_, rfl, p, _, 0, _, rfl, rfl, sq, atI_0, rfl, _, rfl, ite2 (fun c => ?_) (fun _ => ?_)⟩
  · have e := str_of_dec c
    subst e
    obtain ⟨m', r', ws, em, rfl, hr2, hl, hk⟩ := kv.tupI hp
    refine ⟨_, rfl, p, _, 1, _, rfl, rfl, sq, atI_1, r', rfl, ⟨_, .inl (.inl hr2)⟩, fun D hD => lc_tup (K := K) (a := r') (xs := ws)
      (fun i H' => ∃ is : List Int, H' D = some (.lst (is.map V.int)) ∧ is.length = i ∧ Same H H') ⟨[], upd_same, rfl, same_new hD _⟩ (fun i H' _ ⟨_, _, _, g⟩ => .inl (.inl (g _ _ hr2))) ?_ ?_⟩
    · rintro i u H' hi ⟨is, hD', hlen, g⟩
      refine ⟨rfl, _, rfl, _, rfl, ra, us, u, N, m', r, rank, rfl, hra.same g, hrw.tm (.same g), (hk u (mem_of_get hi)).tm (.same g), hN, by omega, fun y H2 g2 => ?_⟩
      have hi' : i < ws.length := (List.getElem?_eq_some_iff.mp hi).1
      refine ⟨_, g2 _ _ hD', by rw [List.length_map]; exact Nat.lt_of_lt_of_le (show is.length < 1000 by omega) (by decide), is ++ [y], ?_, by rw [List.length_append, hlen]; rfl, ?_⟩
      · rw [upd_same, List.map_append]; rfl
      · exact fun b o e => by
          have hb : b ≠ D := ne_of_none e hD
          rw [upd_ne hb]; exact g2 _ _ (g _ _ e)
    · rintro H' ⟨is, hD', hlen, g⟩
      exact ⟨D, is, rfl, SqL.of hD', q _ _ g⟩
  refine ⟨fun σ' H' => Same H H', ⟨_, rfl, p, _, 0, _, rfl, rfl, sq, atI_0, rfl, _, rfl, ite2 (fun c => ?_) (fun _ => .refl H)⟩, fun σ' H' g => q _ _ g⟩
  have e := str_of_dec c
  subst e
  obtain ⟨m', y, em, rfl, hy⟩ := kv.recI hp
  refine for_seq (j := 0) rfl hra (fun i σ' H' => H' = H ∧ ∃ u f, σ' = [some (.ref ra), some (.ref p), u, none, f]) ⟨rfl, _, _, rfl⟩ (fun i σ' H' e => e.1 ▸ .refl H) ?_ (fun σ' H' e => e.1 ▸ .refl H)
  rintro i u σ' H' hi ⟨rfl, u', f', rfl⟩
  obtain ⟨n', f, ws, ⟨pr, rfl, hpr⟩, hf, hfl⟩ := hrw u (mem_of_get hi)
  have sr : SqT K H' pr [.str n', .ref f] := .inl (.inl hpr)
  refine ⟨_, rfl, pr, _, 0, _, rfl, rfl, sr, atI_0, _, rfl, p, _, 1, _, rfl, rfl, sq, atI_1, rfl, _, rfl, ite2 (fun c => ?_) (fun _ => ⟨rfl, _, _, rfl⟩)⟩
  have e := str_of_dec c
  subst e
  have hrk := hN _ hy
  refine ⟨_, rfl, pr, _, 1, _, rfl, rfl, sr, atI_1, f, rfl, ⟨_, .inl (.inl hf)⟩, fun D hD => lc_tup (K := K) (a := f) (xs := ws)
    (fun i H2 => ∃ is : List Int, H2 D = some (.lst (is.map V.int)) ∧ is.length = i ∧ Same H' H2) ⟨[], upd_same, rfl, same_new hD _⟩ (fun i H2 _ ⟨_, _, _, g⟩ => .inl (.inl (g _ _ hf))) ?_ ?_⟩
  · rintro i t H2 hi ⟨is, hD', hlen, g⟩
    obtain ⟨fn, t', ⟨pt, rfl, hpt⟩, _, kt⟩ := hfl.2.2 t (mem_of_get hi)
    refine ⟨rfl, _, rfl, _, rfl, pt, _, 1, _, rfl, rfl, .inl (.inl (g _ _ hpt)), atI_1, ra, us, t', _, 6, rank n', rank, rfl, hra.same g, hrw.tm (.same g), kt.tm (.same g), fun _ h => h, by omega, fun y H3 g2 => ?_⟩
    have hi' : i < ws.length := (List.getElem?_eq_some_iff.mp hi).1
    have hw := hfl.2.1
    refine ⟨_, g2 _ _ hD', by rw [List.length_map]; exact Nat.lt_of_lt_of_le (show is.length < 1000 by omega) (by decide), is ++ [y], ?_, by rw [List.length_append, hlen]; rfl, ?_⟩
    · rw [upd_same, List.map_append]; rfl
    · exact fun b o e => by
        have hb : b ≠ D := ne_of_none e hD
        rw [upd_ne hb]; exact g2 _ _ (g _ _ e)
  · rintro H2 ⟨is, hD', hlen, g⟩
    exact ⟨D, is, rfl, SqL.of hD', q _ _ g⟩
theorem ok_sizeN (T : Txt4 K mg) : ∀ m : Nat, FnOk P w K mg base CX0 m T._law_size.f T._law_size.fd ["rows", "kind"] (spSize K m)
  | 0 => none_size
  | m + 1 => ok_size T (ok_sizeN T m)
def spSmall (K : PySem.W.Frag) (m : Nat) : Sp := fun vs H Q _ => ∃ (ra : Addr) (us : List V) (v : V) (N : Str → Prop) (rank : Str → Nat), vs = [.ref ra, v] ∧ SqA K H ra us ∧ Rws rank H us ∧ KV H N m v ∧ (∀ x, rank x < 10) ∧ m ≤ 6 ∧
  ∀ b H', Same H H' → Q (.bl b) H'
theorem none_small {k : Nat} {f : Addr} {fd : FuncData} : FnOk P w K mg base CX0 k f fd ["rows", "kind"] (spSmall K 0) := by
  have no : ∀ vs H Q E, ¬ spSmall K 0 vs H Q E := fun vs H Q E h => by
    obtain ⟨ra, us, v, N, rank, _, _, _, k, _⟩ := h
    cases k
  exact ⟨fun vs H Q E h => absurd h (no vs H Q E), fun A outer s H args us vs Q E _ _ _ _ h => absurd h (no vs H Q E)⟩
theorem ok_small (T : Txt4 K mg) {m : Nat} (G : FnOk P w K mg base CX0 (80 + m) T._law_is_small.f T._law_is_small.fd ["rows", "kind"] (spSmall K m)) :
    FnOk P w K mg base CX0 (80 + m + 1) T._law_is_small.f T._law_is_small.fd ["rows", "kind"] (spSmall K (m + 1)) := by
  refine T._law_is_small.F.ok sc__law_is_small (fun vs H Q E h => ?_) (fun cdv A outer s H vs Q E hr h => ?_)
  · obtain ⟨ra, us, v, N, rank, rfl, _⟩ := h
    rfl
  obtain ⟨ra, us, v, N, rank, rfl, hra, hrw, kv, hrk, hm, q⟩ := h
  refine ⟨_, (pss_cons (ps_if (pt_cmpR op_gt (pe_call (ok_sizeN T 80) (hr.mono (by omega)) rfl T._law_size.g T._law_size.F.kp T._law_size.b .nil pass0 (pa_cons (pv 0) (pa_cons (pv 1) pa_nil))) pe_int (nomark _)) (pss_one (ps_ret pe_bl)) pss_nil)
    (C8.pss_cut (ps_if (pt_cmpR op_eq (pe_ix ix_tup (pv 1) pe_int (fun _ _ => rfl)) pe_str (nomark _)) (pss_one (ps_for PassesOwn.never rfl (pi_tup (pe_ix ix_tup (pv 1) pe_int (fun _ _ => rfl))) (pg_name (i := 2) sc__law_is_small.nd rfl (Or.inl rfl)) (pss_one (ps_if (pt_not (pt_val (pe_call (G) (hr) rfl T._law_is_small.g T._law_is_small.F.kp T._law_is_small.b .nil pass0 (pa_cons (pv 0) (pa_cons (pv 2) pa_nil))))) (pss_one (ps_ret pe_bl)) pss_nil)))) pss_nil)
    (pss_cons (ps_if (pt_cmpR op_in_seq (pe_ix ix_tup (pv 1) pe_int (fun _ _ => rfl)) (pe_lst (pa_cons pe_str (pa_cons pe_str (pa_cons pe_str (pa_cons pe_str pa_nil))))) (by rfl)) (pss_one (ps_ret (pe_call (G) (hr) rfl T._law_is_small.g T._law_is_small.F.kp T._law_is_small.b .nil pass0 (pa_cons (pv 0) (pa_cons (pe_ix ix_tup (pv 1) pe_int (fun _ _ => rfl)) pa_nil))))) pss_nil)
    (pss_one (ps_ret pe_bl))))), ?_⟩
  obtain ⟨p, x, ts, rfl, hp⟩ := kv.hd
  refine ⟨_, rfl, _, rfl, ra, us, .ref p, (fun x => rank x < 10), m + 1, 10, rank, rfl, hra, hrw, kv.names fun x _ => hrk x, fun _ h => h, by omega, fun i H1 g1 => ⟨_, _, rfl, rfl, _, rfl, ite2 (fun _ => q _ _ g1) (fun _ => ?_)⟩⟩
  have hp1 := g1 _ _ hp
  have sq : SqT K H1 p (.str x :: ts) := .inl (.inl hp1)
  refine ⟨fun σ' H' => Same H H' ∧ ∃ y, σ' = [some (.ref ra), some (.ref p), y], ⟨_, rfl, p, _, 0, _, rfl, rfl, sq, atI_0, rfl, _, rfl, ite2 (fun c => ?_) (fun _ => ⟨g1, _, rfl⟩)⟩, ?_⟩
  · have e := str_of_dec c
    subst e
    obtain ⟨m', r, ws, em, rfl, hr2, hl, hk⟩ := kv.tupI hp
    cases em
    refine ⟨_, rfl, p, _, 1, _, rfl, rfl, sq, atI_1, r, rfl, ⟨_, .inl (.inl (g1 _ _ hr2))⟩, for_tup (K := K) (a := r) (xs := ws) (fun i σ' H' => Same H H' ∧ ∃ y, σ' = [some (.ref ra), some (.ref p), y]) ⟨g1, _, rfl⟩ (fun i σ H' _ e => .inl (.inl (e.1 _ _ hr2))) ?_ (fun σ' H' e => e)⟩
    rintro i u σ' H' hi ⟨g, y, rfl⟩
    exact ⟨_, rfl, _, rfl, ra, us, u, N, rank, rfl, hra.same g, hrw.tm (.same g), (hk u (mem_of_get hi)).tm (.same g), hrk, by omega, fun b H2 g2 => ⟨b, rfl, ite2 (fun _ => q _ _ (g.trans g2)) (fun _ => ⟨g.trans g2, _, rfl⟩)⟩⟩
  · rintro σ' H' ⟨g, y, rfl⟩
    have sq : SqT K H' p (.str x :: ts) := .inl (.inl (g _ _ hp))
    refine ⟨_, rfl, p, _, 0, _, rfl, rfl, sq, atI_0, by show 4 ≤ sizeLine; decide, fun l hl => ⟨l, _, rfl, .inl (SqL.of upd_same), rfl, rfl, _, rfl, ?_⟩⟩
    have g2 := g.trans (same_new hl (.lst [.str "box", .str "maybe", .str "shared", .str "exclusive"]))
    refine ite2 (fun c => ?_) (fun _ => q true _ g2)
    have c' : inV (.str x) ((["box", "maybe", "shared", "exclusive"] : List Str).map V.str) = true := c
    rw [inV_str] at c'
    have hx : x = "box" ∨ x = "maybe" ∨ x = "shared" ∨ x = "exclusive" := by simpa using of_decide_eq_true c'
    obtain ⟨m', u, em, rfl, hk, _⟩ := kv.oneI hp (by rcases hx with z | z | z | z; exact .inr (.inl z); exact .inl z; exact .inr (.inr (.inl z)); exact .inr (.inr (.inr z)))
    cases em
    exact ⟨_, rfl, _, rfl, p, _, 1, _, rfl, rfl, .inl (.inl (g2 _ _ hp)), atI_1, ra, us, u, _, rank, rfl, hra.same g2, hrw.tm (.same g2), hk.tm (.same g2), hrk, by omega, fun b H3 g3 => q _ _ (g2.trans g3)⟩
theorem ok_smallN (T : Txt4 K mg) : ∀ m : Nat, FnOk P w K mg base CX0 (80 + m) T._law_is_small.f T._law_is_small.fd ["rows", "kind"] (spSmall K m)
  | 0 => none_small
  | m + 1 => ok_small T (ok_smallN T m)
end
end Kk
namespace Kk
open PySem L2
abbrev s__law_records : Stmt := topS 29
theorem sc__law_records : FnScope ["state", "script", "names", "k", "rows", "fields", "taken", "j", "kind", "turn"] ["state", "script"] (defScope s__law_records) := ⟨rfl, rfl, rfl, by decide +kernel, rfl, by decide +kernel, by decide +kernel⟩
structure Txt5 (K : PySem.W.Frag) (mg : Str → Option Value) extends Txt4 K mg where
  _law_records : Df K mg "_law_records" s__law_records ["state", "script"]
/-- a name's place -/
def rk : List Str → Str → Nat
  | [], _ => 0
  | b :: l, x => if b = x then 0 else rk l x + 1
theorem rk_le : ∀ (l : List Str) (x : Str), rk l x ≤ l.length
  | [], _ => Nat.le_refl _
  | b :: l, x => by
    have q := rk_le l x
    unfold rk
    split
    · exact Nat.zero_le _
    · rw [List.length_cons]; omega
theorem rk_take : ∀ {l : List Str} {k : Nat} {x : Str}, x ∈ l.take k → rk l x < k
  | [], k, x, h => by simp at h
  | b :: l, 0, x, h => by simp at h
  | b :: l, k + 1, x, h => by
    unfold rk
    split
    · exact Nat.succ_pos k
    · rename_i n
      rcases List.mem_cons.mp (by simpa using h : x ∈ b :: l.take k) with e | h
      · exact absurd e.symm n
      · exact Nat.succ_lt_succ (rk_take h)
theorem rk_at : ∀ {l : List Str} {k : Nat} {x : Str}, l.Nodup → l[k]? = some x → rk l x = k
  | [], k, x, _, h => by simp at h
  | b :: l, 0, x, _, h => by
    have e : b = x := by simpa using h
    unfold rk; rw [if_pos e]
  | b :: l, k + 1, x, nd, h => by
    have h' : l[k]? = some x := by simpa using h
    have nd' := List.nodup_cons.mp nd
    have n : b ≠ x := fun e => nd'.1 (e ▸ mem_of_get h')
    unfold rk; rw [if_neg n, rk_at nd'.2 h']
theorem cut_take {xs : List V} {k : Nat} : cutV xs none (some (k : Int)) = xs.take k := by
  unfold cutV
  rw [HT.sIx_none, HT.sIx_nat, List.drop_zero, Nat.sub_zero]
  rcases Nat.le_total k xs.length with h | h
  · rw [Nat.min_eq_left h]
  · rw [Nat.min_eq_right h, List.take_of_length_le h, List.take_of_length_le (Nat.le_refl _)]
theorem cut_drop {xs : List V} {k : Nat} (h : k ≤ xs.length) : cutV xs (some (k : Int)) none = xs.drop k := by
  unfold cutV
  rw [HT.sIx_none, HT.sIx_nat, Nat.min_eq_left h, List.take_of_length_le (by rw [List.length_drop]; exact Nat.le_refl _)]
/-- the fields that are made for a record -/
def FOk (H : Hp) (N : Str → Prop) (fs : List V) : Prop := ∀ x ∈ fs, ∃ fn t, Pr H x fn t ∧ Gd 22 fn ∧ KV H N 6 t
theorem FOk.tm {H H' : Hp} (m : TM H H') {N : Str → Prop} {fs : List V} (h : FOk H N fs) : FOk H' N fs := fun x hx => by
  obtain ⟨fn, t, b, c, d⟩ := h x hx
  exact ⟨fn, t, b.tm m, c, d.tm m⟩
/-- the names of fields, in order -/
inductive FNm (H : Hp) : List V → List Str → Prop
  | nil : FNm H [] []
  | cons {x : V} {r : List V} {fn : Str} {ns : List Str} {t : V} (h : Pr H x fn t) (k : FNm H r ns) : FNm H (x :: r) (fn :: ns)
theorem FNm.tm {H H' : Hp} (m : TM H H') {ws : List V} {ns : List Str} (h : FNm H ws ns) : FNm H' ws ns := by
  induction h with
  | nil => exact .nil
  | cons h _ ih => exact .cons (h.tm m) ih
theorem FNm.snoc {H : Hp} {ws : List V} {ns : List Str} (h : FNm H ws ns) {x : V} {fn : Str} {t : V} (p : Pr H x fn t) : FNm H (ws ++ [x]) (ns ++ [fn]) := by
  induction h with
  | nil => exact .cons p .nil
  | cons h _ ih => exact .cons h ih
/-- no two fields of a record have one name -/
def RwsD (H : Hp) (us : List V) : Prop := ∀ u ∈ us, ∃ n f ws ns, Pr H u n (.ref f) ∧ H f = some (.tup ws) ∧ FNm H ws ns ∧ ns.Nodup
theorem RwsD.tm {H H' : Hp} (m : TM H H') {us : List V} (h : RwsD H us) : RwsD H' us := fun u hu => by
  obtain ⟨n, f, ws, ns, a, b, c, d⟩ := h u hu
  exact ⟨n, f, ws, ns, a.tm m, m _ _ b, c.tm m, d⟩
structure S3 (a nl rl fl tk : Addr) (xs : List Str) (us fs : List V) (ts : List Str) (k : Nat) (H H' : Hp) : Prop where
  nm : H' nl = some (.lst (xs.map V.str))
  rw : H' rl = some (.lst us)
  rws : Rws (rk xs) H' us
  rwd : RwsD H' us
  nd : ts.Nodup
  fnm : FNm H' fs (ts.take fs.length)
  f : H' fl = some (.lst fs)
  fok : FOk H' (fun y => rk xs y < k) fs
  t : H' tk = some (.lst (ts.map V.str))
  gd : ∀ y ∈ ts, Gd 22 y
  frm : Frm a H H'
structure Ds (a nl rl fl tk : Addr) (H : Hp) : Prop where
  na : nl ≠ a
  ra : rl ≠ a
  fa : fl ≠ a
  ta : tk ≠ a
  nr : nl ≠ rl
  nf : nl ≠ fl
  nt : nl ≠ tk
  rf : rl ≠ fl
  rt : rl ≠ tk
  ft : fl ≠ tk
  h1 : H nl = none
  h2 : H rl = none
  h3 : H fl = none
  h4 : H tk = none
section
variable {a nl rl fl tk : Addr} {xs : List Str} {us fs : List V} {ts : List Str} {k : Nat} {H H1 H2 : Hp}
theorem S3.but (s : S3 a nl rl fl tk xs us fs ts k H H1) (d : Ds a nl rl fl tk H) (b : But a H1 H2) (st : St4 H2 a) : S3 a nl rl fl tk xs us fs ts k H H2 where
  nm := b _ _ d.na s.nm
  rw := b _ _ d.ra s.rw
  rws := s.rws.tm (TM.but b s.frm.st)
  rwd := s.rwd.tm (TM.but b s.frm.st)
  nd := s.nd
  fnm := s.fnm.tm (TM.but b s.frm.st)
  f := b _ _ d.fa s.f
  fok := s.fok.tm (TM.but b s.frm.st)
  t := b _ _ d.ta s.t
  gd := s.gd
  frm := ⟨st, s.frm.bt.trans b⟩
theorem S3.new (s : S3 a nl rl fl tk xs us fs ts k H H1) (d : Ds a nl rl fl tk H) {p : Addr} {o : HO} (h : H1 p = none) : S3 a nl rl fl tk xs us fs ts k H (upd H1 p o) := s.but d (.new h o) (s.frm.st.put (s.frm.st.ne h))
theorem S3.putT (s : S3 a nl rl fl tk xs us fs ts k H H1) (d : Ds a nl rl fl tk H) {ts' : List Str} (g : ∀ y ∈ ts', Gd 22 y) (nd' : ts'.Nodup) (tk' : ts'.take fs.length = ts.take fs.length) : S3 a nl rl fl tk xs us fs ts' k H (upd H1 tk (.lst (ts'.map V.str))) where
  nm := by rw [upd_ne d.nt]; exact s.nm
  rw := by rw [upd_ne d.rt]; exact s.rw
  rws := s.rws.tm (TM.lst s.t)
  rwd := s.rwd.tm (TM.lst s.t)
  nd := nd'
  fnm := tk' ▸ s.fnm.tm (TM.lst s.t)
  f := by rw [upd_ne d.ft]; exact s.f
  fok := s.fok.tm (TM.lst s.t)
  t := upd_same
  gd := g
  frm := ⟨s.frm.st.put d.ta, s.frm.bt.put d.h4⟩
theorem S3.putF (s : S3 a nl rl fl tk xs us fs ts k H H1) (d : Ds a nl rl fl tk H) {fs' : List V} (g : FOk H1 (fun y => rk xs y < k) fs') (g2 : FNm H1 fs' (ts.take fs'.length)) : S3 a nl rl fl tk xs us fs' ts k H (upd H1 fl (.lst fs')) where
  nm := by rw [upd_ne d.nf]; exact s.nm
  rw := by rw [upd_ne d.rf]; exact s.rw
  rws := s.rws.tm (TM.lst s.f)
  rwd := s.rwd.tm (TM.lst s.f)
  nd := s.nd
  fnm := g2.tm (TM.lst s.f)
  f := upd_same
  fok := g.tm (TM.lst s.f)
  t := by rw [upd_ne (Ne.symm d.ft)]; exact s.t
  gd := s.gd
  frm := ⟨s.frm.st.put d.fa, s.frm.bt.put d.h3⟩
end
theorem St4.same {H H' : Hp} {a : Addr} (st : St4 H a) (g : Same H H') : St4 H' a := by
  obtain ⟨i, pp, r, cc, e, k⟩ := st
  exact ⟨i, pp, r, cc, g _ _ e, k⟩
theorem ints2 {x y : Int} {v : V} (h : v ∈ [V.int x, V.int y]) : v = .int x ∨ v = .int y := by simpa using h
section
variable {P : Program} {w : World} {K : PySem.W.Frag} {mg : Str → Option Value} {base : Heap}
def spRecs (K : PySem.W.Frag) : Sp := fun vs H Q _ => ∃ (a z : Addr) (ns : List Int), vs = [.ref a, .ref z] ∧ St4 H a ∧ Awy K a z (ns.map V.int) ∧ SqL K H z (ns.map V.int) ∧
  ∀ p H' us rank, H' p = some (.tup us) → 1 ≤ us.length → us.length ≤ 20 → Rws rank H' us → RwsD H' us → (∀ x, rank x < 10) → St4 H' a → But a H H' → Q (.ref p) H'
theorem ok_records (T : Txt5 K mg) : FnOk P w K mg base CX0 100 T._law_records.f T._law_records.fd ["state", "script"] (spRecs K) := by
  refine T._law_records.F.ok sc__law_records (fun vs H Q E h => ?_) (fun cdv A outer s H vs Q E hr h => ?_)
  · obtain ⟨a, z, ns, rfl, _⟩ := h
    rfl
  obtain ⟨a, z, ns, rfl, hst, hza, hz, q⟩ := h
  refine ⟨_, (pss_cons (ps_set (i := 2) sc__law_records.nd rfl (Or.inl rfl) (pe_lst pa_nil))
    (pss_cons (ps_for PassesOwn.never rfl (pi_range1 (by rfl) T.z_range (pa_cons (pe_op op_add pe_int (pe_call (ok_pick T.toTxt1) (hr.mono (by omega)) rfl T._law_pick.g T._law_pick.F.kp T._law_pick.b .nil pass0 (pa_cons (pv 0) (pa_cons (pv 1) (pa_cons pe_int pa_nil))))) pa_nil)) (pg_name (i := 3) sc__law_records.nd rfl (Or.inl rfl)) (pss_one (ps_expr (pe_bm PySem.F.plainAttrs_list PySem.F.slot_list_append PySem.F.type_list_append mt_append (pv 2) (pa_cons (pe_call (ok_new T.toTxt2) (hr.mono (by omega)) rfl T._law_new.g T._law_new.F.kp T._law_new.b .nil pass0 (pa_cons (pv 2) (pa_cons (pe_call (ok_big T.toTxt2) (hr.mono (by omega)) rfl T._law_big.g T._law_big.F.kp T._law_big.b .nil pass0 (pa_cons (pv 0) (pa_cons (pv 1) pa_nil))) pa_nil))) pa_nil)))))
    (pss_cons (ps_set (i := 4) sc__law_records.nd rfl (Or.inl rfl) (pe_lst pa_nil))
    (pss_cons (ps_for PassesOwn.never rfl (pi_range1 (by rfl) T.z_range (pa_cons (pe_callB call_len_seq rfl T.z_len PySem.boot_len (pa_cons (pv 2) pa_nil)) pa_nil)) (pg_name (i := 3) sc__law_records.nd rfl (Or.inl rfl)) (pss_cons (ps_set (i := 5) sc__law_records.nd rfl (Or.inl rfl) (pe_lst pa_nil))
      (pss_cons (ps_set (i := 6) sc__law_records.nd rfl (Or.inl rfl) (pe_lst pa_nil))
      (pss_cons (ps_for PassesOwn.never rfl (pi_range1 (by rfl) T.z_range (pa_cons (pe_op op_add pe_int (pe_call (ok_pick T.toTxt1) (hr.mono (by omega)) rfl T._law_pick.g T._law_pick.F.kp T._law_pick.b .nil pass0 (pa_cons (pv 0) (pa_cons (pv 1) (pa_cons pe_int pa_nil))))) pa_nil)) (pg_name (i := 7) sc__law_records.nd rfl (Or.inl rfl)) (pss_cons (ps_expr (pe_bm PySem.F.plainAttrs_list PySem.F.slot_list_append PySem.F.type_list_append mt_append (pv 6) (pa_cons (pe_call (ok_new T.toTxt2) (hr.mono (by omega)) rfl T._law_new.g T._law_new.F.kp T._law_new.b .nil pass0 (pa_cons (pv 6) (pa_cons (pe_call (ok_name T.toTxt2) (hr.mono (by omega)) rfl T._law_name.g T._law_name.F.kp T._law_name.b .nil pass0 (pa_cons (pv 0) (pa_cons (pv 1) pa_nil))) pa_nil))) pa_nil)))
        (pss_cons (ps_asg pe_int (pg_sub (pv 0) pe_int set_list))
        (pss_cons (ps_set (i := 8) sc__law_records.nd rfl (Or.inl rfl) (pe_call (ok_kindN T.toTxt3 6) (hr.mono (by omega)) rfl T._law_kind.g T._law_kind.F.kp T._law_kind.b .nil pass0 (pa_cons (pv 0) (pa_cons (pv 1) (pa_cons pe_int (pa_cons pe_bl (pa_cons (pe_slice sl_list (pv 2) po_none (po_some (pv 3))) pa_nil)))))))
        (C8.pss_cut (ps_if (pt_cmpR op_eq (pe_call (ok_pick T.toTxt1) (hr.mono (by omega)) rfl T._law_pick.g T._law_pick.F.kp T._law_pick.b .nil pass0 (pa_cons (pv 0) (pa_cons (pv 1) (pa_cons pe_int pa_nil)))) pe_int (nomark _)) (pss_one (ps_set (i := 8) sc__law_records.nd rfl (Or.inl rfl) (pe_tup (pa_cons pe_str (pa_cons (pe_tup (pa_cons pe_str (pa_cons (pe_ix ix_list (pv 2) (pe_call (ok_pick T.toTxt1) (hr.mono (by omega)) rfl T._law_pick.g T._law_pick.F.kp T._law_pick.b .nil pass0 (pa_cons (pv 0) (pa_cons (pv 1) (pa_cons (pe_callB call_len_seq rfl T.z_len PySem.boot_len (pa_cons (pv 2) pa_nil)) pa_nil)))) (fun _ _ => rfl)) pa_nil))) pa_nil))))) pss_nil)
        (C8.pss_cut (ps_if (pt_mid (PW.pt (pw_or (pt_cmpR op_gt (pe_call (ok_sizeN T.toTxt4 80) (hr.mono (by omega)) rfl T._law_size.g T._law_size.F.kp T._law_size.b .nil pass0 (pa_cons (pv 4) (pa_cons (pv 8) pa_nil))) pe_int (nomark _)) (pw_or1 (pt_not (pt_val (pe_call (ok_smallN T.toTxt4 6) (hr.mono (by omega)) rfl T._law_is_small.g T._law_is_small.F.kp T._law_is_small.b .nil pass0 (pa_cons (pv 4) (pa_cons (pv 8) pa_nil))))))))) (pss_one (ps_set (i := 8) sc__law_records.nd rfl (Or.inl rfl) (pe_tup (pa_cons pe_str pa_nil)))) pss_nil)
        (pss_one (ps_expr (pe_bm PySem.F.plainAttrs_list PySem.F.slot_list_append PySem.F.type_list_append mt_append (pv 5) (pa_cons (pe_tup (pa_cons (pe_ix ix_list (pv 6) (pv 7) (fun _ _ => rfl)) (pa_cons (pv 8) pa_nil))) pa_nil))))))))))
      (pss_one (ps_expr (pe_bm PySem.F.plainAttrs_list PySem.F.slot_list_append PySem.F.type_list_append mt_append (pv 4) (pa_cons (pe_tup (pa_cons (pe_ix ix_list (pv 2) (pv 3) (fun _ _ => rfl)) (pa_cons (pe_callTy call_tuple_of rfl T.z_tuple PyProof.Rows.boot_tuple (pa_cons (pv 5) pa_nil)) pa_nil))) pa_nil))))))))
    (pss_cons (ps_set (i := 9) sc__law_records.nd rfl (Or.inl rfl) (pe_call (ok_pick T.toTxt1) (hr.mono (by omega)) rfl T._law_pick.g T._law_pick.F.kp T._law_pick.b .nil pass0 (pa_cons (pv 0) (pa_cons (pv 1) (pa_cons (pe_callB call_len_seq rfl T.z_len PySem.boot_len (pa_cons (pv 4) pa_nil)) pa_nil)))))
    (pss_one (ps_ret (pe_callTy call_tuple_of rfl T.z_tuple PyProof.Rows.boot_tuple (pa_cons (pe_op op_cat (pe_slice sl_list (pv 4) (po_some (pv 9)) po_none) (pe_slice sl_list (pv 4) po_none (po_some (pv 9)))) pa_nil))))))))), ?_⟩
  have f0 : Frm a H H := ⟨hst, .refl a H⟩
  refine ⟨by show 0 ≤ sizeLine; decide, fun nl hnl => ?_⟩
  have f1 := f0.new (o := .lst []) hnl
  have na : nl ≠ a := f0.st.ne hnl
  refine ⟨_, rfl, _, rfl, a, z, ns, 4, rfl, f1.st, hza, f1.bt.scr hza hz, by decide, by decide, fun n H4 n0 n1 st4 b4 => ⟨_, _, rfl, rfl, 1 + n, rfl, by omega, by omega, for_range (lo := 0) (n := (1 + n).toNat)
    (fun i σ' H' => ∃ (kk : Option V) (xs : List Str), σ' = [some (.ref a), some (.ref z), some (.ref nl), kk, none, none, none, none, none, none] ∧ H' nl = some (.lst (xs.map V.str)) ∧ xs.length = i ∧ xs.Nodup ∧ Frm a H H') ?_ ?_ ?_⟩⟩
  · exact ⟨_, [], rfl, b4 _ _ na upd_same, rfl, List.nodup_nil, ⟨st4, f1.bt.trans b4⟩⟩
  · rintro i σ' H5 hi ⟨kk, xs, rfl, hx, hlen, hnd, f5⟩
    refine ⟨_, rfl, .inl ⟨rfl, _, SqL.of hx⟩, ?_⟩
    refine ⟨_, rfl, _, rfl, _, rfl, a, z, ns, rfl, f5.st, hza, f5.bt.scr hza hz, fun x H6 gx st6 b6 => ?_⟩
    have hx6 := b6 _ _ na hx
    refine ⟨nl, x, xs, rfl, hx6, by omega, gx, fun y hy gy => ⟨nl, _, _, rfl, rfl, hx6, line_of (by rw [List.length_map]; omega), ?_⟩⟩
    refine ⟨_, xs ++ [y], rfl, ?_, by rw [List.length_append, hlen]; rfl, ?_, ⟨st6.put na, (f5.bt.trans b6).put hnl⟩⟩
    · rw [upd_same, List.map_append]; rfl
    · rw [List.nodup_append]
      exact ⟨hnd, by simp, fun u hu w' hw => by
        have e : w' = y := by simpa using hw
        rw [e]; intro e2; exact hy (e2 ▸ hu)⟩
  · rintro σ' H5 ⟨kk, xs, rfl, hx, hlen, hnd, f5⟩
    have x1 : 1 ≤ xs.length := by omega
    have x9 : xs.length ≤ 9 := by omega
    refine ⟨by show 0 ≤ sizeLine; decide, fun rl hrl => ?_⟩
    have ra : rl ≠ a := f5.st.ne hrl
    have hrl0 : H rl = none := f5.bt.fresh ra hrl
    have nr : nl ≠ rl := ne_of_none hx hrl
    have f6 := f5.new (o := .lst []) hrl
    have hx6 := (same_new hrl (.lst [])) _ _ hx
    have ml : (xs.map V.str).length = xs.length := List.length_map _
    refine ⟨_, rfl, nl, _, rfl, .inl (SqL.of hx6), _, rfl, by rw [ml]; omega, by rw [ml]; omega, for_range (lo := 0) (n := (((xs.map V.str).length : Nat) : Int).toNat)
      (fun i σ' H' => ∃ kk fl tk jj kd us, σ' = [some (.ref a), some (.ref z), some (.ref nl), kk, some (.ref rl), fl, tk, jj, kd, none] ∧ H' nl = some (.lst (xs.map V.str)) ∧ H' rl = some (.lst us) ∧ us.length = i ∧ Rws (rk xs) H' us ∧ RwsD H' us ∧ Frm a H H') ?_ ?_ ?_⟩
    · exact ⟨_, _, _, _, _, [], rfl, hx6, upd_same, rfl, fun u hu => absurd hu (by simp), fun u hu => absurd hu (by simp), f6⟩
    · rintro k σ' H7 hk ⟨kk, fl0, tk0, jj, kd, us, rfl, hx7, hr7, hlr, hrw, hrd, f7⟩
      refine ⟨by show 0 ≤ sizeLine; decide, fun fl hfl => ⟨by show 0 ≤ sizeLine; decide, fun tk htk => ?_⟩⟩
      have f8 := f7.new (o := .lst []) hfl
      have fa := f7.st.ne hfl
      have ta := f8.st.ne htk
      have d : Ds a nl rl fl tk H := ⟨na, ra, fa, ta, nr, ne_of_none hx7 hfl, ne_of_none ((same_new hfl _) _ _ hx7) htk, ne_of_none hr7 hfl, ne_of_none ((same_new hfl _) _ _ hr7) htk, ne_of_none upd_same htk, hnl, hrl0, f7.bt.fresh fa hfl, f8.bt.fresh ta htk⟩
      have t8 := (TM.new (o := .lst []) hfl).trans (TM.new (o := .lst []) htk)
      have s8 : S3 a nl rl fl tk xs us [] [] k H (upd (upd H7 fl (.lst [])) tk (.lst [])) :=
        ⟨(same_new htk _) _ _ ((same_new hfl _) _ _ hx7), (same_new htk _) _ _ ((same_new hfl _) _ _ hr7), hrw.tm t8, hrd.tm t8, List.nodup_nil, .nil, (same_new htk _) _ _ upd_same, fun x hx => absurd hx (by simp), upd_same, fun x hx => absurd hx (by simp), f8.new htk⟩
      have hk' : k < xs.length := by rw [ml] at hk; omega
      refine ⟨_, rfl, _, rfl, a, z, ns, 6, rfl, s8.frm.st, hza, s8.frm.bt.scr hza hz, by decide, by decide, fun n' H9 n0' n1' st9 b9 => ⟨_, _, rfl, rfl, 1 + n', rfl, by omega, by omega, for_range (lo := 0) (n := (1 + n').toNat)
        (fun j σ' H' => ∃ jj kd fs ts, σ' = [some (.ref a), some (.ref z), some (.ref nl), some (.int (0 + (k : Int))), some (.ref rl), some (.ref fl), some (.ref tk), jj, kd, none] ∧ fs.length = j ∧ ts.length = j ∧ S3 a nl rl fl tk xs us fs ts k H H') ?_ ?_ ?_⟩⟩
      · exact ⟨_, _, [], [], rfl, rfl, rfl, s8.but d b9 st9⟩
      · rintro j σ' H10 hj ⟨jj, kd, fs, ts, rfl, hfs, hts, s10⟩
        have hj6 : j < 6 := by omega
        refine ⟨_, rfl, .inl ⟨rfl, _, SqL.of s10.t⟩, ?_⟩
        refine ⟨_, rfl, _, rfl, _, rfl, a, z, ns, rfl, s10.frm.st, hza, s10.frm.bt.scr hza hz, fun x H11 gx st11 b11 => ?_⟩
        have s11 := s10.but d b11 st11
        refine ⟨tk, x, ts, rfl, s11.t, by omega, gx, fun y hy gy => ⟨tk, _, _, rfl, rfl, s11.t, line_of (by rw [List.length_map]; omega), ?_⟩⟩
        have s12 := s11.putT d (ts' := ts ++ [y]) (fun u hu => by
          rcases List.mem_append.mp hu with m | m
          · exact s11.gd u m
          · have e : u = y := by simpa using m
            rw [e]; exact gy) (by
          rw [List.nodup_append]
          exact ⟨s11.nd, by simp, fun u hu w' hw => by
            have e : w' = y := by simpa using hw
            rw [e]; intro e2; exact hy (e2 ▸ hu)⟩) (by rw [List.take_append_of_le_length (by omega)])
        have em : (ts ++ [y]).map V.str = ts.map V.str ++ [.str y] := by rw [List.map_append]; rfl
        rw [em] at s12
        obtain ⟨i, p, r, c, ha, hi, h0, h1⟩ := s12.frm.st
        refine ⟨_, rfl, a, _, 3, 3, rfl, rfl, ha, rfl, ?_⟩
        have s13 := s12.but d (But.upd (o := .lst [.int i, .int p, .int r, .int 3])) ⟨i, p, r, 3, upd_same, hi, h0, h1⟩
        refine ⟨_, rfl, _, rfl, _, rfl, _, rfl, _, rfl, nl, _, rfl, SqL.of s13.nm, fun sl hsl => ?_⟩
        have ec : cutV (xs.map V.str) none (some (0 + (k : Int))) = (xs.take k).map V.str := by rw [Int.zero_add, cut_take, List.map_take]
        have s16 := s13.new d (o := .lst (cutV (xs.map V.str) none (some (0 + (k : Int))))) hsl
        refine ⟨a, z, ns, 3, true, sl, xs.take k, (fun y => rk xs y < k), rfl, s16.frm.st, hza, s16.frm.bt.scr hza hz, s13.frm.st.ne hsl, SqL.of (by rw [upd_same, ec]), by rw [List.length_take]; omega, fun x hx => rk_take hx, by decide, by decide, fun t H17 kt st17 b17 => ?_⟩
        have s17 := s16.but d b17 st17
        have kt6 := kt.up (m := 6) (by decide)
        refine ⟨fun σ' H' => ∃ t, σ' = [some (.ref a), some (.ref z), some (.ref nl), some (.int (0 + (k : Int))), some (.ref rl), some (.ref fl), some (.ref tk), some (.int (0 + (j : Int))), some t, none] ∧ KV H' (fun y => rk xs y < k) 6 t ∧ S3 a nl rl fl tk xs us fs (ts ++ [y]) k H H', ?_, ?_⟩
        · refine ⟨_, rfl, _, rfl, a, z, ns, 4, rfl, s17.frm.st, hza, s17.frm.bt.scr hza hz, by decide, by decide, fun n4 H18 n40 n41 st18 b18 => ⟨rfl, _, rfl, ?_⟩⟩
          have s18 := s17.but d b18 st18
          refine ite2 (fun _ => ?_) (fun _ => ⟨t, rfl, kt6.tm (TM.but b18 s17.frm.st), s18⟩)
          refine ⟨_, rfl, _, rfl, _, rfl, _, rfl, nl, _, rfl, .inl (SqL.of s18.nm), a, z, ns, _, rfl, s18.frm.st, hza, s18.frm.bt.scr hza hz, by rw [ml]; omega, by rw [ml]; omega, fun n5 H19 n50 n51 st19 b19 => ?_⟩
          have s19 := s18.but d b19 st19
          obtain ⟨u, hu, hu'⟩ := atI_ex (l := xs.map V.str) n50 n51
          obtain ⟨y2, hy2, rfl⟩ := List.mem_map.mp (mem_of_get hu)
          refine ⟨nl, _, _, _, rfl, rfl, SqL.of s19.nm, hu', by show 2 ≤ sizeLine; decide, fun p1 hp1 => ⟨by show 2 ≤ sizeLine; decide, fun p2 hp2 => ?_⟩⟩
          have s20 := (s19.new d (o := .tup [.str "record", .str y2]) hp1).new d (o := .tup [.str "box", .ref p1]) hp2
          exact ⟨.ref p2, rfl, (KV.box (n := 1) upd_same (.inl rfl) ((KV.recd (n := 0) upd_same trivial).tm (TM.new hp2))).up (by decide), s20⟩
        · rintro σ' H21 ⟨t, rfl, kt, s21⟩
          refine ⟨fun σ' H' => ∃ t, σ' = [some (.ref a), some (.ref z), some (.ref nl), some (.int (0 + (k : Int))), some (.ref rl), some (.ref fl), some (.ref tk), some (.int (0 + (j : Int))), some t, none] ∧ KV H' (fun y => rk xs y < k) 6 t ∧ S3 a nl rl fl tk xs us fs (ts ++ [y]) k H H', ⟨fun _ H' => KV H' (fun y => rk xs y < k) 6 t ∧ S3 a nl rl fl tk xs us fs (ts ++ [y]) k H H', ?_, ?_⟩, ?_⟩
          · refine ⟨_, rfl, _, rfl, rl, us, t, _, 6, k, rk xs, rfl, .inl (SqL.of s21.rw), s21.rws, kt, fun x h => h, by omega, fun i H22 g22 => ⟨_, _, rfl, rfl, _, rfl, ?_⟩⟩
            have s22 := s21.but d (.of g22) (s21.frm.st.same g22)
            have kt22 := kt.tm (.same g22)
            refine ite2 (fun _ => ⟨kt22, s22⟩) (fun _ => ?_)
            refine ⟨_, rfl, _, rfl, rl, us, t, _, rk xs, rfl, .inl (SqL.of s22.rw), s22.rws, kt22, fun x => Nat.lt_of_le_of_lt (rk_le xs x) (by omega), by decide, fun b H23 g23 => ⟨b, rfl, ?_⟩⟩
            exact ⟨kt22.tm (.same g23), s22.but d (.of g23) (s22.frm.st.same g23)⟩
          · rintro b H' ⟨kt', s'⟩
            refine ite2 (fun _ => ⟨by show 1 ≤ sizeLine; decide, fun p hp => ?_⟩) (fun _ => ⟨t, rfl, kt', s'⟩)
            exact ⟨.ref p, rfl, KV.leaf (n := 5) upd_same (.inr (.inl rfl)), s'.new d hp⟩
          · rintro σ' H24 ⟨t, rfl, kt, s24⟩
            refine ⟨_, rfl, .inl ⟨rfl, _, SqL.of s24.f⟩, ?_⟩
            have hat : atI ((ts ++ [y]).map V.str) (0 + (j : Int)) = some (.str y) := at_of (j := j) (Int.zero_add _) (by
              rw [List.getElem?_map, List.getElem?_append_right (by omega), hts, Nat.sub_self]; rfl)
            refine ⟨_, rfl, _, rfl, tk, _, _, .str y, rfl, rfl, SqL.of s24.t, hat, _, rfl, by show 2 ≤ sizeLine; decide, fun p hp => ?_⟩
            have s25 := s24.new d (o := .tup [.str y, t]) hp
            refine ⟨fl, _, _, rfl, rfl, s25.f, line_of (by omega), ?_⟩
            refine ⟨_, _, fs ++ [.ref p], ts ++ [y], rfl, by rw [List.length_append, hfs]; rfl, by rw [List.length_append, hts]; rfl, s25.putF d (fun x hx => ?_) ?_⟩
            rotate_left
            · have e1 : (ts ++ [y]).take (fs ++ [V.ref p]).length = (ts ++ [y]).take fs.length ++ [y] := by
                rw [List.length_append, hfs, ← hts]
                show (ts ++ [y]).take (ts.length + 1) = _
                rw [List.take_of_length_le (by rw [List.length_append]; exact Nat.le_refl _), List.take_append_of_le_length (Nat.le_refl _), List.take_length]
              rw [e1]
              exact s25.fnm.snoc ⟨p, rfl, upd_same⟩
            rcases List.mem_append.mp hx with m | m
            · exact s25.fok x m
            · have e : x = .ref p := by simpa using m
              exact ⟨y, t, ⟨p, e, upd_same⟩, gy, kt.tm (TM.new hp)⟩
      · rintro σ' H10 ⟨jj, kd, fs, ts, rfl, hfs, hts, s10⟩
        refine ⟨_, rfl, .inl ⟨rfl, _, SqL.of s10.rw⟩, ?_⟩
        have hxk : xs[k]? = some xs[k] := List.getElem?_eq_getElem hk'
        have hat : atI (xs.map V.str) (0 + (k : Int)) = some (.str xs[k]) := at_of (j := k) (Int.zero_add _) (by rw [List.getElem?_map, hxk]; rfl)
        refine ⟨_, rfl, _, rfl, nl, _, _, .str xs[k], rfl, rfl, SqL.of s10.nm, hat, _, rfl, fl, fs, rfl, .inl ⟨SqL.of s10.f, fun p1 hp1 => ⟨by show 2 ≤ sizeLine; decide, fun p2 hp2 => ?_⟩⟩⟩
        have s11 := s10.new d (o := .tup fs) hp1
        have s12 := s11.new d (o := .tup [.str xs[k], .ref p1]) hp2
        refine ⟨rl, _, _, rfl, rfl, s12.rw, line_of (by omega), ?_⟩
        refine ⟨_, _, _, _, _, us ++ [.ref p2], rfl, ?_, upd_same, by rw [List.length_append, hlr]; rfl, fun u hu => ?_, fun u hu => ?_, ⟨s12.frm.st.put d.ra, s12.frm.bt.put d.h2⟩⟩
        · rw [upd_ne d.nr]; exact s12.nm
        · rcases List.mem_append.mp hu with m | m
          · exact (s12.rws.tm (TM.lst s12.rw)) u m
          · have e : u = .ref p2 := by simpa using m
            have tl := TM.lst (o := .lst (us ++ [.ref p2])) s12.rw
            refine ⟨xs[k], p1, fs, ⟨p2, e, tl _ _ upd_same⟩, tl _ _ ((TM.new hp2) _ _ upd_same), by omega, by omega, fun x hx => ?_⟩
            obtain ⟨fn, t, c1, c2, c3⟩ := s10.fok x hx
            have tt := ((TM.new (o := .tup fs) hp1).trans (TM.new (o := .tup [.str xs[k], .ref p1]) hp2)).trans tl
            refine ⟨fn, t, c1.tm tt, c2, (c3.tm tt).names fun y hy => ?_⟩
            rw [rk_at hnd hxk]; exact hy
        · rcases List.mem_append.mp hu with m | m
          · exact (s12.rwd.tm (TM.lst s12.rw)) u m
          · have e : u = .ref p2 := by simpa using m
            have tl := TM.lst (o := .lst (us ++ [.ref p2])) s12.rw
            have tt := ((TM.new (o := .tup fs) hp1).trans (TM.new (o := .tup [.str xs[k], .ref p1]) hp2)).trans tl
            have hn := s10.nd
            have hm := s10.fnm
            rw [List.take_of_length_le (by omega)] at hm
            exact ⟨xs[k], p1, fs, ts, ⟨p2, e, tl _ _ upd_same⟩, tl _ _ ((TM.new hp2) _ _ upd_same), hm.tm tt, hn⟩
    · rintro σ' H7 ⟨kk, fl, tk, jj, kd, us, rfl, hx7, hr7, hlr, hrw, hrd, f7⟩
      have hul : us.length = xs.length := by rw [hlr, ml]; omega
      refine ⟨_, rfl, _, rfl, _, rfl, rl, _, rfl, .inl (SqL.of hr7), a, z, ns, _, rfl, f7.st, hza, f7.bt.scr hza hz, by omega, by omega, fun tn H8 t0 t1 st8 b8 => ?_⟩
      obtain ⟨j, rfl⟩ : ∃ j : Nat, tn = (j : Int) := ⟨tn.toNat, by omega⟩
      have f8 : Frm a H H8 := ⟨st8, f7.bt.trans b8⟩
      have r8 := b8 _ _ ra hr7
      have e1 : cutV us (some (j : Int)) none = us.drop j := cut_drop (by omega)
      have e2 : cutV us none (some (j : Int)) = us.take j := cut_take
      refine ⟨_, rfl, _, rfl, _, rfl, rl, _, rfl, SqL.of r8, fun p1 hp1 => ?_⟩
      have f9 := f8.new (o := .lst (cutV us (some (j : Int)) none)) hp1
      refine ⟨_, rfl, _, rfl, _, rfl, rl, _, rfl, SqL.of ((same_new hp1 _) _ _ r8), fun p2 hp2 => ?_⟩
      have f10 := f9.new (o := .lst (cutV us none (some (j : Int)))) hp2
      have hlen : (cutV us (some (j : Int)) none).length + (cutV us none (some (j : Int))).length = us.length := by
        rw [e1, e2, List.length_drop, List.length_take]; omega
      refine ⟨p1, p2, _, _, rfl, rfl, (same_new hp2 _) _ _ upd_same, upd_same, line_of (by omega), fun p3 hp3 => ?_⟩
      have f11 := f10.new (o := .lst (cutV us (some (j : Int)) none ++ cutV us none (some (j : Int)))) hp3
      refine ⟨p3, _, rfl, .inl ⟨SqL.of upd_same, fun p4 hp4 => ?_⟩⟩
      have f12 := f11.new (o := .tup (cutV us (some (j : Int)) none ++ cutV us none (some (j : Int)))) hp4
      have tq := (TM.but b8 f7.st).trans ((TM.new (o := .lst (cutV us (some (j : Int)) none)) hp1).trans ((TM.new (o := .lst (cutV us none (some (j : Int)))) hp2).trans ((TM.new (o := .lst (cutV us (some (j : Int)) none ++ cutV us none (some (j : Int)))) hp3).trans (TM.new (o := .tup (cutV us (some (j : Int)) none ++ cutV us none (some (j : Int)))) hp4))))
      have mm : ∀ u, u ∈ cutV us (some (j : Int)) none ++ cutV us none (some (j : Int)) → u ∈ us := fun u hu => by
        rw [e1, e2] at hu
        rcases List.mem_append.mp hu with m | m
        · exact List.mem_of_mem_drop m
        · exact List.mem_of_mem_take m
      exact q p4 _ _ (rk xs) upd_same (by rw [List.length_append, hlen]; omega) (by rw [List.length_append, hlen]; omega) (fun u hu => (hrw.tm tq) u (mm u hu)) (fun u hu => (hrd.tm tq) u (mm u hu)) (fun x => Nat.lt_of_le_of_lt (rk_le xs x) (by omega)) f12.st f12.bt
end
end Kk
namespace Kk
open PySem L2
abbrev s__law_options : Stmt := topS 30
theorem sc__law_options : FnScope ["rows", "kind", "row", "k"] ["rows", "kind"] (defScope s__law_options) := ⟨rfl, rfl, rfl, by decide +kernel, rfl, by decide +kernel, by decide +kernel⟩
abbrev s__law_step : Stmt := topS 34
theorem sc__law_step : FnScope ["state", "script", "rows", "choice", "great", "fields"] ["state", "script", "rows"] (defScope s__law_step) := ⟨rfl, rfl, rfl, by decide +kernel, rfl, by decide +kernel, by decide +kernel⟩
abbrev s__law_small_kind : Stmt := topS 31
theorem sc__law_small_kind : FnScope ["state", "script", "rows", "kind", "row"] ["state", "script", "rows"] (defScope s__law_small_kind) := ⟨rfl, rfl, rfl, by decide +kernel, rfl, by decide +kernel, by decide +kernel⟩
structure Txt6 (K : PySem.W.Frag) (mg : Str → Option Value) extends Txt5 K mg where
  _law_options : Df K mg "_law_options" s__law_options ["rows", "kind"]
  _law_step : Df K mg "_law_step" s__law_step ["state", "script", "rows"]
  _law_small_kind : Df K mg "_law_small_kind" s__law_small_kind ["state", "script", "rows"]
/-! ### what a step may select -/
/-- the first row of this name -/
inductive First (H : Hp) (y : Str) : List V → Option Addr → Prop
  | nil : First H y [] none
  | here {u : V} {us : List V} {f : Addr} (h : Pr H u y (.ref f)) : First H y (u :: us) (some f)
  | there {u : V} {us : List V} {f : Addr} {n : Str} {o : Option Addr} (h : Pr H u n (.ref f)) (hn : n ≠ y) (r : First H y us o) : First H y (u :: us) o
theorem First.tm {H H' : Hp} (m : TM H H') {y : Str} {us : List V} {o : Option Addr} (h : First H y us o) : First H' y us o := by
  induction h with
  | nil => exact .nil
  | here h => exact .here (h.tm m)
  | there h hn _ ih => exact .there (h.tm m) hn ih
theorem first_ex {H : Hp} {rank : Str → Nat} (y : Str) : ∀ {us : List V}, Rws rank H us → ∃ o, First H y us o
  | [], _ => ⟨none, .nil⟩
  | u :: us, h => by
    obtain ⟨n, f, ws, p, _, _⟩ := h u List.mem_cons_self
    by_cases e : n = y
    · exact ⟨some f, .here (e ▸ p)⟩
    · obtain ⟨o, r⟩ := first_ex y (us := us) fun x hx => h x (List.mem_cons_of_mem _ hx)
      exact ⟨o, .there p e r⟩
theorem First.in_ {H : Hp} {y : Str} {us : List V} {o : Option Addr} (h : First H y us o) : ∀ {f : Addr}, o = some f → ∃ u ∈ us, Pr H u y (.ref f) := by
  induction h with
  | nil => intro f e; cases e
  | here h => intro f e; cases e; exact ⟨_, List.mem_cons_self, h⟩
  | there h hn _ ih =>
    intro f e
    obtain ⟨u, hu, p⟩ := ih e
    exact ⟨u, List.mem_cons_of_mem _ hu, p⟩
/-- pairs, as they lie -/
inductive PsL (H : Hp) : List V → List (V × V) → Prop
  | nil : PsL H [] []
  | cons {p : Addr} {us : List V} {s t : V} {os : List (V × V)} (h : H p = some (.tup [s, t])) (r : PsL H us os) : PsL H (.ref p :: us) ((s, t) :: os)
theorem PsL.tm {H H' : Hp} (m : TM H H') {us : List V} {os : List (V × V)} (h : PsL H us os) : PsL H' us os := by
  induction h with
  | nil => exact .nil
  | cons h _ ih => exact .cons (m _ _ h) ih
theorem PsL.snoc {H : Hp} {us : List V} {os : List (V × V)} (h : PsL H us os) {p : Addr} {s t : V} (hp : H p = some (.tup [s, t])) : PsL H (us ++ [.ref p]) (os ++ [(s, t)]) := by
  induction h with
  | nil => exact .cons hp .nil
  | cons h _ ih => exact .cons h ih
theorem PsL.len {H : Hp} {us : List V} {os : List (V × V)} (h : PsL H us os) : us.length = os.length := by
  induction h with
  | nil => rfl
  | cons h _ ih => rw [List.length_cons, List.length_cons, ih]
theorem PsL.get {H : Hp} {us : List V} {os : List (V × V)} (h : PsL H us os) : ∀ {i : Nat} {u : V}, us[i]? = some u → ∃ p s t, u = .ref p ∧ H p = some (.tup [s, t]) ∧ os[i]? = some (s, t) := by
  induction h with
  | nil => intro i u e; simp at e
  | cons h _ ih =>
    intro i u e
    cases i with
    | zero =>
      have e' := Option.some.inj e
      exact ⟨_, _, _, e'.symm, h, rfl⟩
    | succ i => exact ih (i := i) (u := u) (by simpa using e)
def en : Nat → List V → List (V × V)
  | _, [] => []
  | k, w :: r => (.int (k : Int), w) :: en (k + 1) r
theorem en_len : ∀ (k : Nat) (ws : List V), (en k ws).length = ws.length
  | _, [] => rfl
  | k, w :: r => by unfold en; rw [List.length_cons, List.length_cons, en_len]
theorem en_take : ∀ {k i : Nat} {ws : List V} {w : V}, ws[i]? = some w → en k (ws.take (i + 1)) = en k (ws.take i) ++ [(.int ((k + i : Nat) : Int), w)]
  | k, i, [], w, h => by simp at h
  | k, 0, x :: r, w, h => by
    have e : x = w := by simpa using h
    rw [e]; rfl
  | k, i + 1, x :: r, w, h => by
    have ih := en_take (k := k + 1) (i := i) (ws := r) (w := w) (by simpa using h)
    have ek : k + 1 + i = k + (i + 1) := by omega
    rw [ek] at ih
    show (.int (k : Int), x) :: en (k + 1) (r.take (i + 1)) = ((.int (k : Int), x) :: en (k + 1) (r.take i)) ++ _
    rw [ih]; rfl
def hit (s : V) : List (V × V) → Option V
  | [] => none
  | (a, b) :: r => if a = s then some b else hit s r
def hits (s : V) : List (V × V) → List V
  | [] => []
  | (a, b) :: r => if a = s then b :: hits s r else hits s r
theorem hits_head (s : V) : ∀ os : List (V × V), (hits s os)[0]? = hit s os
  | [] => rfl
  | (a, b) :: r => by
    unfold hits hit
    split
    · rfl
    · exact hits_head s r
theorem hits_snoc (s a b : V) : ∀ os : List (V × V), hits s (os ++ [(a, b)]) = hits s os ++ (if a = s then [b] else [])
  | [] => by
    show hits s [(a, b)] = _
    unfold hits
    split <;> rfl
  | (c, d) :: r => by
    have ih := hits_snoc s a b r
    show (if c = s then d :: hits s (r ++ [(a, b)]) else hits s (r ++ [(a, b)])) = (if c = s then d :: hits s r else hits s r) ++ _
    split
    · rw [ih]; rfl
    · exact ih
theorem hits_len (s : V) : ∀ os : List (V × V), (hits s os).length ≤ os.length
  | [] => Nat.le_refl _
  | (a, b) :: r => by
    have ih := hits_len s r
    unfold hits
    split
    · rw [List.length_cons, List.length_cons]; omega
    · rw [List.length_cons]; omega
theorem hit_mem {s t : V} : ∀ {os : List (V × V)}, hit s os = some t → (s, t) ∈ os
  | [], h => by cases h
  | (a, b) :: r, h => by
    unfold hit at h
    split at h
    · rename_i e
      rw [← e, ← Option.some.inj h]; exact List.mem_cons_self
    · exact List.mem_cons_of_mem _ (hit_mem h)
theorem hit_en_str (x : Str) : ∀ (k : Nat) (ws : List V), hit (.str x) (en k ws) = none
  | _, [] => rfl
  | k, w :: r => by
    unfold en hit
    rw [if_neg (fun e => nomatch e)]
    exact hit_en_str x (k + 1) r
theorem hit_en_int (i : Int) : ∀ (k : Nat) (ws : List V), hit (.int i) (en k ws) = if (k : Int) ≤ i then ws[(i - k).toNat]? else none
  | k, [] => by
    show none = _
    split <;> simp
  | k, w :: r => by
    unfold en hit
    by_cases e : V.int (k : Int) = V.int i
    · rw [if_pos e]
      have e' := V.int.inj e
      rw [if_pos (by omega), ← e', show ((k : Int) - k).toNat = 0 by omega]; rfl
    · rw [if_neg e, hit_en_int i (k + 1) r]
      have e' : (k : Int) ≠ i := fun z => e (by rw [z])
      by_cases h : (k : Int) ≤ i
      · rw [if_pos h, if_pos (by omega)]
        have z : (i - (k : Int)).toNat = (i - ((k + 1 : Nat) : Int)).toNat + 1 := by omega
        rw [z]; rfl
      · rw [if_neg h, if_neg (by omega)]
def OptsAt (H : Hp) (us : List V) (x : Str) (ts : List V) (os : List (V × V)) : Prop :=
  (x = "maybe" ∧ ∃ u, ts = [u] ∧ os = [(.str "?", u)]) ∨
  ((x = "box" ∨ x = "shared" ∨ x = "exclusive") ∧ ∃ u, ts = [u] ∧ os = [(.str "^", u)]) ∨
  (x = "tuple" ∧ ∃ q ws, ts = [.ref q] ∧ H q = some (.tup ws) ∧ ws.length ≤ 100 ∧ os = en 0 ws) ∨
  (x = "record" ∧ ∃ y o, ts = [.str y] ∧ First H y us o ∧ ((o = none ∧ os = []) ∨ ∃ f ws, o = some f ∧ H f = some (.tup ws) ∧ PsL H ws os)) ∨
  ((x = "int" ∨ x = "bool" ∨ x = "unit") ∧ os = [])
section
variable {H : Hp} {us : List V} {x : Str} {ts : List V} {os : List (V × V)}
theorem OptsAt.may (h : OptsAt H us x ts os) (e : x = "maybe") : ∃ u, ts = [u] ∧ os = [(.str "?", u)] := by
  subst e
  rcases h with ⟨_, h⟩ | ⟨h, _⟩ | ⟨h, _⟩ | ⟨h, _⟩ | ⟨h, _⟩
  · exact h
  all_goals exact absurd h (by decide +kernel)
theorem OptsAt.one (h : OptsAt H us x ts os) (e : x = "box" ∨ x = "shared" ∨ x = "exclusive") : ∃ u, ts = [u] ∧ os = [(.str "^", u)] := by
  rcases h with ⟨h, _⟩ | ⟨_, h⟩ | ⟨h, _⟩ | ⟨h, _⟩ | ⟨h, _⟩
  · subst h; exact absurd e (by decide +kernel)
  · exact h
  · subst h; exact absurd e (by decide +kernel)
  · subst h; exact absurd e (by decide +kernel)
  · rcases e with rfl | rfl | rfl <;> exact absurd h (by decide +kernel)
theorem OptsAt.tup (h : OptsAt H us x ts os) (e : x = "tuple") : ∃ q ws, ts = [.ref q] ∧ H q = some (.tup ws) ∧ ws.length ≤ 100 ∧ os = en 0 ws := by
  subst e
  rcases h with ⟨h, _⟩ | ⟨h, _⟩ | ⟨_, h⟩ | ⟨h, _⟩ | ⟨h, _⟩
  · exact absurd h (by decide +kernel)
  · exact absurd h (by decide +kernel)
  · exact h
  all_goals exact absurd h (by decide +kernel)
theorem OptsAt.rcd (h : OptsAt H us x ts os) (e : x = "record") : ∃ y o, ts = [.str y] ∧ First H y us o ∧ ((o = none ∧ os = []) ∨ ∃ f ws, o = some f ∧ H f = some (.tup ws) ∧ PsL H ws os) := by
  subst e
  rcases h with ⟨h, _⟩ | ⟨h, _⟩ | ⟨h, _⟩ | ⟨_, h⟩ | ⟨h, _⟩
  · exact absurd h (by decide +kernel)
  · exact absurd h (by decide +kernel)
  · exact absurd h (by decide +kernel)
  · exact h
  · exact absurd h (by decide +kernel)
theorem OptsAt.rest (h : OptsAt H us x ts os) (e1 : x ≠ "maybe") (e2 : ¬ (x = "box" ∨ x = "shared" ∨ x = "exclusive")) (e3 : x ≠ "tuple") (e4 : x ≠ "record") : os = [] := by
  rcases h with ⟨h, _⟩ | ⟨h, _⟩ | ⟨h, _⟩ | ⟨h, _⟩ | ⟨_, h⟩
  · exact absurd h e1
  · exact absurd h e2
  · exact absurd h e3
  · exact absurd h e4
  · exact h
theorem OptsAt.tm {H' : Hp} (m : TM H H') (h : OptsAt H us x ts os) : OptsAt H' us x ts os := by
  rcases h with h | h | ⟨e, q, ws, h1, h2, h3⟩ | ⟨e, y, o, h1, h2, h3⟩ | h
  · exact .inl h
  · exact .inr (.inl h)
  · exact .inr (.inr (.inl ⟨e, q, ws, h1, m _ _ h2, h3⟩))
  · refine .inr (.inr (.inr (.inl ⟨e, y, o, h1, h2.tm m, ?_⟩)))
    rcases h3 with h3 | ⟨f, ws, a, b, c⟩
    · exact .inl h3
    · exact .inr ⟨f, ws, a, m _ _ b, c.tm m⟩
  · exact .inr (.inr (.inr (.inr h)))
end
/-- a step: an int of no great size, a text of no great length -/
def StepV (v : V) : Prop := (∃ i : Int, v = .int i ∧ i.natAbs < 2 ^ 100) ∨ ∃ x, v = .str x ∧ Gd 100 x
structure Opts (H : Hp) (us : List V) (p : Addr) (os : List (V × V)) : Prop where
  ex : ∃ x ts, H p = some (.tup (.str x :: ts)) ∧ Gd 20 x ∧ OptsAt H us x ts os
  len : os.length ≤ 100
  ok : ∀ o ∈ os, StepV o.1 ∧ DV H 20 o.2 ∧ KV H (fun _ => True) 6 o.2
theorem DV.tm {H H' : Hp} (m : TM H H') {n : Nat} {v : V} (h : DV H n v) : DV H' n v := by
  induction h with
  | str => exact .str
  | tup h hl _ ih => exact .tup (m _ _ h) hl ih
theorem Opts.tm {H H' : Hp} (m : TM H H') {us : List V} {p : Addr} {os : List (V × V)} (h : Opts H us p os) : Opts H' us p os := by
  obtain ⟨x, ts, a, b, c⟩ := h.ex
  exact ⟨⟨x, ts, m _ _ a, b, c.tm m⟩, h.len, fun o ho => ⟨(h.ok o ho).1, (h.ok o ho).2.1.tm m, (h.ok o ho).2.2.tm m⟩⟩
theorem gd_lit (x : Str) (h : (decide (x.length ≤ 20) && x.cps.toList.all (fun c => decide (c < 16 ^ 8))) = true) : Gd 20 x := by
  rw [Bool.and_eq_true] at h
  exact ⟨of_decide_eq_true h.1, all_lt h.2⟩
theorem flds_ps {H : Hp} {N : Str → Prop} : ∀ {ws : List V}, (∀ x ∈ ws, ∃ fn t, Pr H x fn t ∧ Gd 22 fn ∧ KV H N 6 t) → ∃ os, PsL H ws os ∧ ∀ o ∈ os, StepV o.1 ∧ DV H 20 o.2 ∧ KV H (fun _ => True) 6 o.2
  | [], _ => ⟨[], .nil, fun o ho => absurd ho (by simp)⟩
  | w :: ws, h => by
    obtain ⟨os, h1, h2⟩ := flds_ps (ws := ws) fun x hx => h x (List.mem_cons_of_mem _ hx)
    obtain ⟨fn, t, ⟨p, rfl, hp⟩, g, k⟩ := h w List.mem_cons_self
    refine ⟨(.str fn, t) :: os, .cons hp h1, fun o ho => ?_⟩
    rcases List.mem_cons.mp ho with e | ho
    · rw [e]; exact ⟨.inr ⟨fn, rfl, g.mono (by decide)⟩, k.dv.up (by decide), k.names fun _ _ => trivial⟩
    · exact h2 o ho
theorem en_mem : ∀ {k : Nat} {ws : List V} {o : V × V}, o ∈ en k ws → ∃ i : Nat, i < k + ws.length ∧ o.1 = .int (i : Int) ∧ o.2 ∈ ws
  | k, [], o, h => by cases h
  | k, w :: r, o, h => by
    rcases List.mem_cons.mp h with e | h
    · rw [e]; exact ⟨k, by rw [List.length_cons]; omega, rfl, List.mem_cons_self⟩
    · obtain ⟨i, a, b, c⟩ := en_mem h
      exact ⟨i, by rw [List.length_cons]; omega, b, List.mem_cons_of_mem _ c⟩
theorem opts_ex {H : Hp} {N : Str → Prop} {n : Nat} {v : V} {us : List V} {rank : Str → Nat} (k : KV H N n v) (hn : n ≤ 6) (hr : Rws rank H us) : ∃ p os, v = .ref p ∧ Opts H us p os := by
  cases n with
  | zero => cases k
  | succ n =>
    obtain ⟨p, ts, rfl, hp, c⟩ := k.inv
    refine ⟨p, ?_⟩
    rcases c with ⟨x, rfl, hx⟩ | ⟨y, rfl, _⟩ | ⟨u, rfl, ku⟩ | ⟨x, u, rfl, hx, ku⟩ | ⟨q, ws, rfl, hq, hl, kw⟩
    · exact ⟨[], rfl, ⟨_, _, hp, gd_lit _ (by rcases hx with rfl | rfl | rfl <;> decide +kernel), .inr (.inr (.inr (.inr ⟨hx, rfl⟩)))⟩, Nat.zero_le _, fun o ho => absurd ho (by simp)⟩
    · obtain ⟨o, ho⟩ := first_ex y hr
      cases o with
      | none => exact ⟨[], rfl, ⟨_, _, hp, gd_lit _ (by decide +kernel), .inr (.inr (.inr (.inl ⟨rfl, y, none, rfl, ho, .inl ⟨rfl, rfl⟩⟩)))⟩, Nat.zero_le _, fun o ho => absurd ho (by simp)⟩
      | some f =>
        obtain ⟨u, hu, pr⟩ := ho.in_ rfl
        obtain ⟨n', f', ws, pr', hf, fl⟩ := hr u hu
        obtain ⟨p1, e1, g1⟩ := pr
        obtain ⟨p2, e2, g2⟩ := pr'
        have ep : p1 = p2 := V.ref.inj (e1.symm.trans e2)
        subst ep
        rw [g1] at g2
        have ee := HO.tup.inj (Option.some.inj g2)
        injection ee with _ ee
        injection ee with ee _
        have ef := V.ref.inj ee
        subst ef
        obtain ⟨os, h1, h2⟩ := flds_ps fl.2.2
        exact ⟨os, rfl, ⟨_, _, hp, gd_lit _ (by decide +kernel), .inr (.inr (.inr (.inl ⟨rfl, y, some f, rfl, ho, .inr ⟨f, ws, rfl, hf, h1⟩⟩)))⟩, by have := h1.len; have := fl.2.1; omega, h2⟩
    · exact ⟨[(.str "?", u)], rfl, ⟨_, _, hp, gd_lit _ (by decide +kernel), .inl ⟨rfl, u, rfl, rfl⟩⟩, by show 1 ≤ 100; decide, fun o ho => by
        have e : o = (.str "?", u) := by simpa using ho
        rw [e]; exact ⟨.inr ⟨_, rfl, (gd_lit _ (by decide +kernel)).mono (by decide)⟩, ku.dv.up (by omega), (ku.up (by omega)).names fun _ _ => trivial⟩⟩
    · exact ⟨[(.str "^", u)], rfl, ⟨_, _, hp, gd_lit _ (by rcases hx with rfl | rfl | rfl <;> decide +kernel), .inr (.inl ⟨hx, u, rfl, rfl⟩)⟩, by show 1 ≤ 100; decide, fun o ho => by
        have e : o = (.str "^", u) := by simpa using ho
        rw [e]; exact ⟨.inr ⟨_, rfl, (gd_lit _ (by decide +kernel)).mono (by decide)⟩, ku.dv.up (by omega), (ku.up (by omega)).names fun _ _ => trivial⟩⟩
    · refine ⟨en 0 ws, rfl, ⟨_, _, hp, gd_lit _ (by decide +kernel), .inr (.inr (.inl ⟨rfl, q, ws, rfl, hq, hl, rfl⟩))⟩, by rw [en_len]; exact hl, fun o ho => ?_⟩
      obtain ⟨i, a, b, c⟩ := en_mem ho
      exact ⟨.inl ⟨i, b, Nat.lt_trans (show ((i : Int)).natAbs < 101 by omega) (by decide)⟩, (kw _ c).dv.up (by omega), ((kw _ c).up (by omega)).names fun _ _ => trivial⟩
section
variable {P : Program} {w : World} {K : PySem.W.Frag} {mg : Str → Option Value} {base : Heap}
def spOptions (K : PySem.W.Frag) : Sp := fun vs H Q _ => ∃ (ra : Addr) (us : List V) (p : Addr) (os : List (V × V)), vs = [.ref ra, .ref p] ∧ H ra = some (.tup us) ∧ Opts H us p os ∧
  ∀ l H' ls, Same H H' → H' l = some (.lst ls) → PsL H' ls os → Q (.ref l) H'
theorem ok_options (T : Txt6 K mg) : FnOk P w K mg base CX0 1 T._law_options.f T._law_options.fd ["rows", "kind"] (spOptions K) := by
  refine T._law_options.F.ok sc__law_options (fun vs H Q E h => ?_) (fun cdv A outer s H vs Q E hr h => ?_)
  · obtain ⟨ra, us, p, os, rfl, _⟩ := h
    rfl
  obtain ⟨ra, us, p, os, rfl, hra, ho, q⟩ := h
  refine ⟨_, (pss_cons (ps_if (pt_cmpR op_eq (pe_ix ix_tup (pv 1) pe_int (fun _ _ => rfl)) pe_str (nomark _)) (pss_one (ps_ret (pe_lst (pa_cons (pe_tup (pa_cons pe_str (pa_cons (pe_ix ix_tup (pv 1) pe_int (fun _ _ => rfl)) pa_nil))) pa_nil)))) pss_nil)
    (pss_cons (ps_if (pt_cmpR op_in_seq (pe_ix ix_tup (pv 1) pe_int (fun _ _ => rfl)) (pe_lst (pa_cons pe_str (pa_cons pe_str (pa_cons pe_str pa_nil)))) (by rfl)) (pss_one (ps_ret (pe_lst (pa_cons (pe_tup (pa_cons pe_str (pa_cons (pe_ix ix_tup (pv 1) pe_int (fun _ _ => rfl)) pa_nil))) pa_nil)))) pss_nil)
    (pss_cons (ps_if (pt_cmpR op_eq (pe_ix ix_tup (pv 1) pe_int (fun _ _ => rfl)) pe_str (nomark _)) (pss_one (ps_ret (pe_lc (own := [("k", 3)]) (g := gName 3) (tt := tYes) rfl sc__law_options.nd (pi_range1 (by rfl) T.z_range (pa_cons (pe_callB call_len_seq rfl T.z_len PySem.boot_len (pa_cons (pe_ix ix_tup (pv 1) pe_int (fun _ _ => rfl)) pa_nil)) pa_nil)) (blkOk_by (N := ["rows", "kind", "row", "k"]) (sc := defScope s__law_options) (by decide +kernel)) (fun _ _ _ _ _ => pg_name (i := 3) sc__law_options.nd rfl (Or.inl rfl)) (fun _ _ _ _ _ => pts_nil) (fun _ _ _ _ _ => (pe_tup (pa_cons (pv 3) (pa_cons (pe_ix (show IxR _ (rIxT K) from ix_tup) (pe_ix (show IxR _ (rIxT K) from ix_tup) (pv 1) pe_int (fun _ _ => rfl)) (pv 3) (fun _ _ => rfl)) pa_nil))))))) pss_nil)
    (C8.pss_cut (ps_if (pt_cmpR op_eq (pe_ix ix_tup (pv 1) pe_int (fun _ _ => rfl)) pe_str (nomark _)) (pss_one (ps_for PassesOwn.never rfl (pi_tup (pv 0)) (pg_name (i := 2) sc__law_options.nd rfl (Or.inl rfl)) (pss_one (ps_if (pt_cmpR op_eq (pe_ix ix_tup (pv 2) pe_int (fun _ _ => rfl)) (pe_ix ix_tup (pv 1) pe_int (fun _ _ => rfl)) (nomark _)) (pss_one (ps_ret (pe_callTy call_list_of rfl T.z_list PyProof.Rows.boot_list (pa_cons (pe_ix ix_tup (pv 2) pe_int (fun _ _ => rfl)) pa_nil)))) pss_nil)))) pss_nil)
    (pss_one (ps_ret (pe_lst pa_nil))))))), ?_⟩
  obtain ⟨x, ts, hp, gx, oa⟩ := ho.ex
  have sq : SqT K H p (.str x :: ts) := .inl (.inl hp)
  refine ⟨_, rfl, p, _, 0, _, rfl, rfl, sq, atI_0, rfl, _, rfl, ite2 (fun c => ?_) (fun c1 => ?_)⟩
  · obtain ⟨u, rfl, rfl⟩ := oa.may (str_of_dec c)
    refine ⟨_, rfl, p, _, 1, _, rfl, rfl, sq, atI_1, by show 2 ≤ sizeLine; decide, fun a ha => ⟨by show 1 ≤ sizeLine; decide, fun l hl => ?_⟩⟩
    exact q l _ _ ((same_new ha _).trans (same_new hl _)) upd_same (.cons ((same_new hl _) _ _ upd_same) .nil)
  refine ⟨_, rfl, p, _, 0, _, rfl, rfl, sq, atI_0, by show 3 ≤ sizeLine; decide, fun b hb => ⟨b, _, rfl, .inl (SqL.of upd_same), rfl, rfl, _, rfl, ?_⟩⟩
  have g1 := same_new hb (.lst [.str "box", .str "shared", .str "exclusive"])
  have sq1 : SqT K (upd H b (.lst [.str "box", .str "shared", .str "exclusive"])) p (.str x :: ts) := .inl (.inl (g1 _ _ hp))
  refine ite2 (fun c => ?_) (fun c2 => ?_)
  · have c' : inV (.str x) ((["box", "shared", "exclusive"] : List Str).map V.str) = true := c
    rw [inV_str] at c'
    have hx : x = "box" ∨ x = "shared" ∨ x = "exclusive" := by simpa using of_decide_eq_true c'
    obtain ⟨u, rfl, rfl⟩ := oa.one hx
    refine ⟨_, rfl, p, _, 1, _, rfl, rfl, sq1, atI_1, by show 2 ≤ sizeLine; decide, fun a ha => ⟨by show 1 ≤ sizeLine; decide, fun l hl => ?_⟩⟩
    exact q l _ _ (g1.trans ((same_new ha _).trans (same_new hl _))) upd_same (.cons ((same_new hl _) _ _ upd_same) .nil)
  have c2' : ¬ (x = "box" ∨ x = "shared" ∨ x = "exclusive") := fun e => c2 (by
    show inV (.str x) ((["box", "shared", "exclusive"] : List Str).map V.str) = true
    rw [inV_str]; exact decide_eq_true (by simpa using e))
  refine ⟨_, rfl, p, _, 0, _, rfl, rfl, sq1, atI_0, rfl, _, rfl, ite2 (fun c => ?_) (fun c3 => ?_)⟩
  · obtain ⟨r, ws, rfl, hr2, hl, rfl⟩ := oa.tup (str_of_dec c)
    have hr1 := g1 _ _ hr2
    refine ⟨_, rfl, p, _, 1, _, rfl, rfl, sq1, atI_1, r, _, rfl, .inr (.inl (.inl hr1)), _, rfl, by omega, by omega, fun D hD => lc_range (lo := 0) (n := ((ws.length : Int)).toNat)
      (fun i H' => ∃ ls, H' D = some (.lst ls) ∧ ls.length = i ∧ PsL H' ls (en 0 (ws.take i)) ∧ Same H H') ⟨[], upd_same, rfl, .nil, g1.trans (same_new hD _)⟩ ?_ ?_⟩
    · rintro i H' hi ⟨ls, hD', hlen, ps, g⟩
      have hi' : i < ws.length := by omega
      have hw : ws[i]? = some ws[i] := List.getElem?_eq_getElem hi'
      refine ⟨rfl, _, rfl, _, rfl, p, _, 1, _, rfl, rfl, .inl (.inl (g _ _ hp)), atI_1, _, rfl, r, _, _, _, rfl, rfl, .inl (.inl (g _ _ hr2)), at_of (j := i) (Int.zero_add _) hw, by show 2 ≤ sizeLine; decide, fun a ha => ?_⟩
      have hD2 := (same_new ha (.tup [.int (0 + (i : Int)), ws[i]])) _ _ hD'
      refine ⟨ls, hD2, Nat.lt_of_lt_of_le (show ls.length < 1000 by omega) (by decide), ls ++ [.ref a], upd_same, by rw [List.length_append, hlen]; rfl, ?_, ?_⟩
      · rw [en_take hw]
        have e0 : ((0 + i : Nat) : Int) = 0 + (i : Int) := by omega
        rw [e0]
        exact ((ps.tm (TM.new ha)).tm (TM.lst hD2)).snoc ((TM.lst hD2) _ _ upd_same)
      · exact fun b' o e => by
          rw [upd_ne (ne_of_none (g1 _ _ e) hD)]; exact (same_new ha _) _ _ (g _ _ e)
    · rintro H' ⟨ls, hD', hlen, ps, g⟩
      rw [List.take_of_length_le (by omega)] at ps
      exact q D H' ls g hD' ps
  refine ⟨fun σ' H' => H' = upd H b (.lst [.str "box", .str "shared", .str "exclusive"]) ∧ (x = "record" → os = []), ⟨_, rfl, p, _, 0, _, rfl, rfl, sq1, atI_0, rfl, _, rfl, ite2 (fun c => ?_) (fun c4 => ⟨rfl, fun e => absurd (decide_eq_true (by rw [e])) c4⟩)⟩, ?_⟩
  · obtain ⟨y, o, rfl, hf, hos⟩ := oa.rcd (str_of_dec c)
    have hra1 := g1 _ _ hra
    refine ⟨_, rfl, ra, rfl, ⟨_, .inl (.inl hra1)⟩, for_tup (K := K) (a := ra) (xs := us) (fun i σ' H' => H' = upd H b (.lst [.str "box", .str "shared", .str "exclusive"]) ∧ (∃ u, σ' = [some (.ref ra), some (.ref p), u, none]) ∧ First H y (us.drop i) o) ⟨rfl, ⟨_, rfl⟩, hf⟩ (fun i σ' H' _ e => e.1 ▸ .inl (.inl hra1)) ?_ ?_⟩
    · rintro i u σ' H' hi ⟨rfl, ⟨u', rfl⟩, hfi⟩
      have hi' : i < us.length := (List.getElem?_eq_some_iff.mp hi).1
      have ed : us.drop i = u :: us.drop (i + 1) := by
        rw [List.drop_eq_getElem_cons hi', (List.getElem?_eq_some_iff.mp hi).2]
      rw [ed] at hfi
      cases hfi with
      | here h =>
        obtain ⟨pr, rfl, hpr⟩ := h
        have sr : SqT K (upd H b (.lst [.str "box", .str "shared", .str "exclusive"])) pr _ := .inl (.inl (g1 _ _ hpr))
        refine ⟨_, rfl, pr, _, 0, _, rfl, rfl, sr, atI_0, _, rfl, p, _, 1, _, rfl, rfl, sq1, atI_1, rfl, _, rfl, ite2 (fun _ => ?_) (fun c => absurd (decide_eq_true rfl) c)⟩
        rcases hos with ⟨e, _⟩ | ⟨f', ws, e, hf', ps⟩
        · cases e
        · cases e
          refine ⟨_, rfl, pr, _, 1, _, rfl, rfl, sr, atI_1, _, _, rfl, .inr (.inl (.inl (g1 _ _ hf'))), fun l hl => ?_⟩
          exact q l _ _ (g1.trans (same_new hl _)) upd_same ((ps.tm (.same g1)).tm (TM.new hl))
      | there h hn r =>
        obtain ⟨pr, rfl, hpr⟩ := h
        have sr : SqT K (upd H b (.lst [.str "box", .str "shared", .str "exclusive"])) pr _ := .inl (.inl (g1 _ _ hpr))
        exact ⟨_, rfl, pr, _, 0, _, rfl, rfl, sr, atI_0, _, rfl, p, _, 1, _, rfl, rfl, sq1, atI_1, rfl, _, rfl, ite2 (fun c => absurd (str_of_dec c) hn) (fun _ => ⟨rfl, ⟨_, rfl⟩, r⟩)⟩
    · rintro σ' H' ⟨rfl, _, hfi⟩
      rw [List.drop_eq_nil_of_le (Nat.le_refl _)] at hfi
      cases hfi
      refine ⟨rfl, fun _ => ?_⟩
      rcases hos with ⟨_, e⟩ | ⟨f', ws, e, _⟩
      · exact e
      · cases e
  · rintro σ' H' ⟨rfl, hrec⟩
    have e0 : os = [] := by
      by_cases e4 : x = "record"
      · exact hrec e4
      · exact oa.rest (fun e => c1 (decide_eq_true (by rw [e]))) c2' (fun e => c3 (decide_eq_true (by rw [e]))) e4
    subst e0
    exact ⟨by show 0 ≤ sizeLine; decide, fun l hl => q l _ [] (g1.trans (same_new hl _)) upd_same .nil⟩
end
end Kk
namespace Kk
open PySem L2
section
variable {P : Program} {w : World} {K : PySem.W.Frag} {mg : Str → Option Value} {base : Heap}
def spStep (K : PySem.W.Frag) : Sp := fun vs H Q _ => ∃ (a z : Addr) (ns : List Int) (ra : Addr) (us : List V) (rank : Str → Nat), vs = [.ref a, .ref z, .ref ra] ∧ St4 H a ∧ Awy K a z (ns.map V.int) ∧ SqL K H z (ns.map V.int) ∧
  H ra = some (.tup us) ∧ 1 ≤ us.length ∧ us.length ≤ 20 ∧ Rws rank H us ∧ ∀ sv H', StepV sv → St4 H' a → But a H H' → Q sv H'
theorem stepI {i : Int} (h : i.natAbs < 2 ^ 33) : StepV (.int i) := .inl ⟨i, rfl, Nat.lt_trans h (by decide)⟩
theorem ok_step (T : Txt6 K mg) : FnOk P w K mg base CX0 3 T._law_step.f T._law_step.fd ["state", "script", "rows"] (spStep K) := by
  refine T._law_step.F.ok sc__law_step (fun vs H Q E h => ?_) (fun cdv A outer s H vs Q E hr h => ?_)
  · obtain ⟨a, z, ns, ra, us, rank, rfl, _⟩ := h
    rfl
  obtain ⟨a, z, ns, ra, us, rank, rfl, hst, hza, hz, hra, u1, u20, hrw, q⟩ := h
  refine ⟨_, (pss_cons (ps_set (i := 3) sc__law_step.nd rfl (Or.inl rfl) (pe_call (ok_pick T.toTxt1) (hr.mono (by omega)) rfl T._law_pick.g T._law_pick.F.kp T._law_pick.b .nil pass0 (pa_cons (pv 0) (pa_cons (pv 1) (pa_cons pe_int pa_nil)))))
    (pss_cons (ps_if (pt_cmpR op_eq (pv 3) pe_int (nomark _)) (pss_one (ps_ret pe_str)) pss_nil)
    (pss_cons (ps_if (pt_cmpR op_eq (pv 3) pe_int (nomark _)) (pss_one (ps_ret pe_str)) pss_nil)
    (pss_cons (ps_if (pt_cmpR op_eq (pv 3) pe_int (nomark _)) (pss_cons (ps_set (i := 4) sc__law_step.nd rfl (Or.inl rfl) (pe_lst (pa_cons pe_int (pa_cons pe_int (pa_cons pe_int (pa_cons (pe_un un_neg pe_int) pa_nil))))))
      (pss_one (ps_ret (pe_ix ix_list (pe_op op_cat (pv 4) (pe_op op_rep (pe_lst (pa_cons (pe_op op_sub (pe_call (ok_pick T.toTxt1) (hr.mono (by omega)) rfl T._law_pick.g T._law_pick.F.kp T._law_pick.b .nil pass0 (pa_cons (pv 0) (pa_cons (pv 1) (pa_cons pe_int pa_nil)))) pe_int) pa_nil)) pe_int)) (pe_call (ok_pick T.toTxt1) (hr.mono (by omega)) rfl T._law_pick.g T._law_pick.F.kp T._law_pick.b .nil pass0 (pa_cons (pv 0) (pa_cons (pv 1) (pa_cons pe_int pa_nil)))) (fun _ _ => rfl))))) pss_nil)
    (pss_cons (ps_if (pt_cmpR op_eq (pv 3) pe_int (nomark _)) (pss_one (ps_ret (pe_call (ok_name T.toTxt2) (hr.mono (by omega)) rfl T._law_name.g T._law_name.F.kp T._law_name.b .nil pass0 (pa_cons (pv 0) (pa_cons (pv 1) pa_nil))))) pss_nil)
    (pss_cons (ps_set (i := 5) sc__law_step.nd rfl (Or.inl rfl) (pe_ix ix_tup (pe_ix ix_tup (pv 2) (pe_call (ok_pick T.toTxt1) (hr.mono (by omega)) rfl T._law_pick.g T._law_pick.F.kp T._law_pick.b .nil pass0 (pa_cons (pv 0) (pa_cons (pv 1) (pa_cons (pe_callB call_len_seq rfl T.z_len PySem.boot_len (pa_cons (pv 2) pa_nil)) pa_nil)))) (fun _ _ => rfl)) pe_int (fun _ _ => rfl)))
    (pss_one (ps_ret (pe_ix ix_tup (pe_ix ix_tup (pv 5) (pe_call (ok_pick T.toTxt1) (hr.mono (by omega)) rfl T._law_pick.g T._law_pick.F.kp T._law_pick.b .nil pass0 (pa_cons (pv 0) (pa_cons (pv 1) (pa_cons (pe_callB call_len_seq rfl T.z_len PySem.boot_len (pa_cons (pv 5) pa_nil)) pa_nil)))) (fun _ _ => rfl)) pe_int (fun _ _ => rfl)))))))))), ?_⟩
  refine ⟨_, rfl, _, rfl, a, z, ns, 5, rfl, hst, hza, hz, by decide, by decide, fun ch H1 _ _ st1 b1 => ?_⟩
  have f1 : Frm a H H1 := ⟨st1, b1⟩
  have ran : ra ≠ a := fun e => by
    obtain ⟨i, p, r, c, h, _⟩ := hst
    rw [← e, hra] at h; cases h
  refine ⟨_, rfl, rfl, _, rfl, ite2 (fun _ => q _ _ (.inr ⟨_, rfl, (gd_lit _ (by decide +kernel)).mono (by decide)⟩) st1 b1) (fun _ => ?_)⟩
  refine ⟨_, rfl, rfl, _, rfl, ite2 (fun _ => q _ _ (.inr ⟨_, rfl, (gd_lit _ (by decide +kernel)).mono (by decide)⟩) st1 b1) (fun _ => ?_)⟩
  refine ⟨_, rfl, rfl, _, rfl, ite2 (fun _ => ?_) (fun _ => ?_)⟩
  · refine ⟨_, rfl, by show 4 ≤ sizeLine; decide, fun l hl => ?_⟩
    have f2 := f1.new (o := .lst [.int 8, .int 100, .int 2147483647, .int (-2147483648)]) hl
    have la := f1.st.ne hl
    refine ⟨_, rfl, _, rfl, _, rfl, a, z, ns, 16, rfl, f2.st, hza, f2.bt.scr hza hz, by decide, by decide, fun n H3 n0 n1 st3 b3 => ⟨_, _, rfl, rfl, by show 1 ≤ sizeLine; decide, fun l2 hl2 => ?_⟩⟩
    have f3 : Frm a H H3 := ⟨st3, f2.bt.trans b3⟩
    have hl3 := b3 _ _ la upd_same
    have f4 := f3.new (o := .lst [.int (n - 8)]) hl2
    refine ⟨l2, 4, _, rfl, rfl, upd_same, by decide, by decide, by show 1 * 4 ≤ sizeLine; decide, fun l3 h3 => ?_⟩
    have f5 := f4.new (o := .lst [.int (n - 8), .int (n - 8), .int (n - 8), .int (n - 8)]) h3
    refine ⟨l, l3, _, _, rfl, rfl, (same_new h3 _) _ _ ((same_new hl2 _) _ _ hl3), upd_same, by show 4 + 4 ≤ sizeLine; decide, fun l4 h4 => ?_⟩
    have f6 := f5.new (o := .lst [.int 8, .int 100, .int 2147483647, .int (-2147483648), .int (n - 8), .int (n - 8), .int (n - 8), .int (n - 8)]) h4
    have l4a := f5.st.ne h4
    refine ⟨_, rfl, _, rfl, a, z, ns, 8, rfl, f6.st, hza, f6.bt.scr hza hz, by decide, by decide, fun m H7 m0 m1 st7 b7 => ?_⟩
    obtain ⟨v, hv, hv'⟩ := atI_ex (l := [V.int 8, .int 100, .int 2147483647, .int (-2147483648), .int (n - 8), .int (n - 8), .int (n - 8), .int (n - 8)]) m0 m1
    have hs : StepV v := by
      have hm := mem_of_get hv
      have h2 : v = .int 8 ∨ v = .int 100 ∨ v = .int 2147483647 ∨ v = .int (-2147483648) ∨ v = .int (n - 8) := by
        simpa using hm
      rcases h2 with e | e | e | e | e <;> rw [e] <;> exact stepI (by omega)
    exact ⟨l4, _, _, v, rfl, rfl, SqL.of (b7 _ _ l4a upd_same), hv', q v H7 hs st7 (f6.bt.trans b7)⟩
  refine ⟨_, rfl, rfl, _, rfl, ite2 (fun _ => ?_) (fun _ => ?_)⟩
  · exact ⟨_, rfl, _, rfl, a, z, ns, rfl, st1, hza, b1.scr hza hz, fun x H2 gx st2 b2 => q _ _ (.inr ⟨x, rfl, gx.mono (by decide)⟩) st2 (b1.trans b2)⟩
  have hra1 := b1 _ _ ran hra
  refine ⟨_, rfl, _, rfl, _, rfl, _, rfl, ra, _, rfl, .inr (.inl (.inl hra1)), a, z, ns, _, rfl, st1, hza, b1.scr hza hz, by omega, by omega, fun n H2 n0 n1 st2 b2 => ?_⟩
  obtain ⟨u, hu, hu'⟩ := atI_ex (l := us) n0 n1
  have b12 := b1.trans b2
  have t2 := TM.but b12 hst
  obtain ⟨nm, f, ws, ⟨pr, rfl, hpr⟩, hf, fl⟩ := (hrw.tm t2) u (mem_of_get hu)
  refine ⟨ra, _, _, _, rfl, rfl, .inl (.inl (t2 _ _ hra)), hu', pr, _, 1, _, rfl, rfl, .inl (.inl hpr), atI_1, ?_⟩
  have hl1 := fl.1
  have hl2 := fl.2.1
  refine ⟨_, rfl, _, rfl, _, rfl, _, rfl, f, _, rfl, .inr (.inl (.inl hf)), a, z, ns, _, rfl, st2, hza, b12.scr hza hz, by omega, by omega, fun m H3 m0 m1 st3 b3 => ?_⟩
  obtain ⟨x, hx, hx'⟩ := atI_ex (l := ws) m0 m1
  have t3 := TM.but b3 st2
  obtain ⟨fn, t, ⟨px, rfl, hpx⟩, g, kt⟩ := fl.2.2 x (mem_of_get hx)
  exact ⟨f, _, _, _, rfl, rfl, .inl (.inl (t3 _ _ hf)), hx', px, _, 0, _, rfl, rfl, .inl (.inl (t3 _ _ hpx)), atI_0, q _ _ (.inr ⟨fn, rfl, g.mono (by decide)⟩) st3 (b12.trans b3)⟩
def spSmallKind (K : PySem.W.Frag) : Sp := fun vs H Q _ => ∃ (a z : Addr) (ns : List Int) (ra : Addr) (us : List V) (rank : Str → Nat), vs = [.ref a, .ref z, .ref ra] ∧ St4 H a ∧ Awy K a z (ns.map V.int) ∧ SqL K H z (ns.map V.int) ∧
  H ra = some (.tup us) ∧ 1 ≤ us.length ∧ us.length ≤ 20 ∧ Rws rank H us ∧ (∀ x, rank x < 10) ∧ ∀ v H', KV H' (fun _ => True) 6 v → St4 H' a → But a H H' → Q v H'
theorem ok_smallKind (T : Txt6 K mg) : FnOk P w K mg base CX0 90 T._law_small_kind.f T._law_small_kind.fd ["state", "script", "rows"] (spSmallKind K) := by
  refine T._law_small_kind.F.ok sc__law_small_kind (fun vs H Q E h => ?_) (fun cdv A outer s H vs Q E hr h => ?_)
  · obtain ⟨a, z, ns, ra, us, rank, rfl, _⟩ := h
    rfl
  obtain ⟨a, z, ns, ra, us, rank, rfl, hst, hza, hz, hra, u1, u20, hrw, hrk, q⟩ := h
  refine ⟨_, (pss_cons (ps_set (i := 3) sc__law_small_kind.nd rfl (Or.inl rfl) (pe_call (ok_any T.toTxt3) (hr.mono (by omega)) rfl T._law_any_kind.g T._law_any_kind.F.kp T._law_any_kind.b .nil pass0 (pa_cons (pv 0) (pa_cons (pv 1) (pa_cons (pe_lc (own := [("row", 4)]) (g := gName 4) (tt := tYes) rfl sc__law_small_kind.nd (pi_tup (pv 2)) (blkOk_by (N := ["state", "script", "rows", "kind", "row"]) (sc := defScope s__law_small_kind) (by decide +kernel)) (fun _ _ _ _ _ => pg_name (i := 4) sc__law_small_kind.nd rfl (Or.inl rfl)) (fun _ _ _ _ _ => pts_nil) (fun _ _ _ _ _ => (pe_ix (show IxR _ (rIxT K) from ix_tup) (pv 4) pe_int (fun _ _ => rfl)))) pa_nil)))))
    (pss_cons (ps_if (pt_not (pt_val (pe_call (ok_smallN T.toTxt4 6) (hr.mono (by omega)) rfl T._law_is_small.g T._law_is_small.F.kp T._law_is_small.b .nil pass0 (pa_cons (pv 2) (pa_cons (pv 3) pa_nil))))) (pss_one (ps_ret (pe_tup (pa_cons pe_str (pa_cons (pe_ix ix_tup (pe_ix ix_tup (pv 2) pe_int (fun _ _ => rfl)) pe_int (fun _ _ => rfl)) pa_nil))))) pss_nil)
    (pss_one (ps_ret (pv 3))))), ?_⟩
  refine ⟨_, rfl, _, rfl, _, rfl, ra, rfl, ⟨_, .inl (.inl hra)⟩, fun D hD => lc_tup (K := K) (a := ra) (xs := us)
    (fun i H' => ∃ xs : List Str, H' D = some (.lst (xs.map V.str)) ∧ xs.length = i ∧ Same H H') ⟨[], upd_same, rfl, same_new hD _⟩ (fun i H' _ ⟨_, _, _, g⟩ => .inl (.inl (g _ _ hra))) ?_ ?_⟩
  · rintro i u H' hi ⟨xs, hD', hlen, g⟩
    have hi' : i < us.length := (List.getElem?_eq_some_iff.mp hi).1
    obtain ⟨n, f, ws, ⟨pr, rfl, hpr⟩, _, _⟩ := hrw u (mem_of_get hi)
    refine ⟨rfl, _, rfl, pr, _, 0, _, rfl, rfl, .inl (.inl (g _ _ hpr)), atI_0, _, hD', by rw [List.length_map]; exact Nat.lt_of_lt_of_le (show xs.length < 1000 by omega) (by decide), xs ++ [n], ?_, by rw [List.length_append, hlen]; rfl, ?_⟩
    · rw [upd_same, List.map_append]; rfl
    · exact fun b o e => by rw [upd_ne (ne_of_none e hD)]; exact g _ _ e
  · rintro H1 ⟨xs, hD1, hlen, g⟩
    have st1 := hst.same g
    refine ⟨a, z, ns, D, xs, (fun _ => True), rfl, st1, hza, g.seq hz, hst.ne hD, SqL.of hD1, by omega, fun _ _ => trivial, fun v H2 kv st2 b2 => ?_⟩
    have b12 : But a H H2 := (But.of g).trans b2
    have t2 := TM.but b12 hst
    have hrw2 := hrw.tm t2
    refine ⟨_, rfl, _, rfl, ra, us, v, _, rank, rfl, .inr (.inl (.inl (t2 _ _ hra))), hrw2, kv, hrk, by decide, fun b H3 g3 => ⟨b, rfl, ?_⟩⟩
    have b13 : But a H H3 := b12.trans (.of g3)
    have st3 := st2.same g3
    refine ite2 (fun _ => ?_) (fun _ => ?_)
    · obtain ⟨u, hu, hu'⟩ := atI_ex (l := us) (n := 0) (by decide) (by omega)
      obtain ⟨n, f, ws, ⟨pr, rfl, hpr⟩, _, _⟩ := hrw2 u (mem_of_get hu)
      refine ⟨_, rfl, ra, _, 0, _, rfl, rfl, .inl (.inl (g3 _ _ (t2 _ _ hra))), hu', pr, _, 0, _, rfl, rfl, .inl (.inl (g3 _ _ hpr)), atI_0, by show 2 ≤ sizeLine; decide, fun p hp => ?_⟩
      exact q _ _ (KV.recd (n := 5) upd_same trivial) (st3.put (st3.ne hp)) (b13.put (b13.fresh (st3.ne hp) hp))
    · exact ⟨_, rfl, q v H3 (kv.tm (.same g3)) st3 b13⟩
end
end Kk
namespace Kk
open PySem L2
abbrev s_kind_after : Stmt := topS 10
theorem sc_kind_after : FnScope ["records", "kind", "step", "field", "inside"] ["records", "kind", "step"] (defScope s_kind_after) := ⟨rfl, rfl, rfl, by decide +kernel, rfl, by decide +kernel, by decide +kernel⟩
/-- a class of the program's -/
structure Cl (K : PySem.W.Frag) (mg : Str → Option Value) (x : Str) where
  C : Addr
  g : mg x = some (.ref C)
/-- the error that is raised here -/
structure ClX (K : PySem.W.Frag) (mg : Str → Option Value) (x : Str) where
  C : Addr
  g : mg x = some (.ref C)
  x : PySem.W.excIn K C [.type "ValueError", .type "Exception", .type "BaseException", .type "object"] "ValueError.__new__" = true
  k : PySem.W.keepIn K (.ref C) = true
  b : PySem.W.subIn K (.ref C) (.type "BaseException") = some true
  t : PySem.W.typeIn K (.ref C) = some (.type "type")
  e : ExcC K C
  m : PySem.W.exmOne K (.ref C) (.ref C) = some true
structure Txt7 (K : PySem.W.Frag) (mg : Str → Option Value) extends Txt6 K mg where
  kind_after : Df K mg "kind_after" s_kind_after ["records", "kind", "step"]
  a_BORROWS : Addr
  g_BORROWS : mg "BORROWS" = some (.ref a_BORROWS)
  t_BORROWS : ∀ H, SqT K H a_BORROWS [.str "shared", .str "exclusive"]
  c_NoSuchStep : ClX K mg "NoSuchStep"
section
variable {X : Cx}
theorem pss_given {p : Prop} {st : List Stmt} {t : TS} (h : p → PSs X st t) : PSs X st (fun D σ H => p ∧ t D σ H) :=
  ⟨fun pins s σ H D I q => (h q.1).run pins s σ H D I q.2⟩
/-- isinstance(e, (c1, c2, ..)), e the exception that the suite holds -/
def rIsET (K : PySem.W.Frag) (D a : Addr) : List V → Hp → VK → Prop := fun xs H Q => ∃ (tp : Addr) (cs : List V) (us : List Value) (b : Bool), xs = [.ref a, .ref tp] ∧ H tp = some (.tup cs) ∧ Paired ClsV cs us ∧ PySem.W.kitAny K (.ref D) us = some b ∧ Q (.bl b) H
theorem call_isET {a D : Addr} {oe : Obj} {pn : List (Addr × Obj)} (C : ExcC X.K D) (hz : Zc (.ref D) none oe) (hf : ∃ vs, oe.data = .fields vs) : CallR (X.suite a ((a, oe) :: pn)) (.builtin "isinstance") (rIsET X.K D a) := by
  intro pins s σ H xs us Q I r h
  obtain ⟨tp, cs, ws, b, rfl, hT, k, e, q⟩ := h
  obtain ⟨u1, u2, rfl, r1, r2⟩ := vals2 r
  cases (show u1 = Value.ref a from r1)
  cases (show u2 = Value.ref tp from r2)
  obtain ⟨hget, _⟩ := I.pin (a, oe) (List.mem_append.mpr (.inl List.mem_cons_self))
  obtain ⟨vs, hv⟩ := hf
  have J : PySem.W.InstAt s.heap a oe D none := by
    obtain ⟨oc, od, oda, osl⟩ := oe
    obtain ⟨h1, h2⟩ := hz
    dsimp only at h1 h2 hv
    subst h1 h2 hv
    exact ⟨hget, rfl, rfl, trivial⟩
  obtain ⟨_, its, rv, o, h1, h2, n, h3⟩ := (show ObjOk _ _ H s.heap tp (.tup cs) from I.hok tp _ hT)
  have e3 := ClsV.all k rv
  subst e3
  obtain ⟨oc, od, dt, sl⟩ := o
  simp only at h2 h3
  subst h2 h3
  exact PySem.W.kia_tup (PySem.W.handS_kitx_exc C.hg C.hk C.hs C.hd C.ha C.hn C.ht C.hm) I.kIn J h1 e (fun z => nomatch z) fun tk => ⟨.bl b, H, I.kept (t' := tk) fun _ _ z => z, rfl, q⟩
end
theorem scal_step {v : V} (h : StepV v) (y : Str) : scal v (.str y) = true ∧ scal (.str y) v = true := by
  rcases h with ⟨i, rfl, _⟩ | ⟨x, rfl, _⟩ <;> exact ⟨rfl, rfl⟩
section
variable {P : Program} {w : World} {K : PySem.W.Frag} {mg : Str → Option Value} {base : Heap}
def spFieldsOf : Sp := fun vs H Q _ => ∃ (ra : Addr) (us : List V) (y : Str) (o : Option Addr), vs = [.ref ra, .str y] ∧ H ra = some (.tup us) ∧ First H y us o ∧
  (∀ f, o = some f → Q (.ref f) H) ∧ (o = none → ∀ p, H p = none → Q (.ref p) (upd H p (.tup [])))
theorem ok_fieldsOf (T : Txt7 K mg) : FnOk P w K mg base CX0 1 T.fields_of.f T.fields_of.fd ["records", "name"] spFieldsOf := by
  refine T.fields_of.F.ok sc_fields_of (fun vs H Q E h => ?_) (fun cdv A outer s H vs Q E hr h => ?_)
  · obtain ⟨ra, us, y, o, rfl, _⟩ := h
    rfl
  obtain ⟨ra, us, y, o, rfl, hra, hf, q1, q2⟩ := h
  refine ⟨_, (pss_cons (ps_for PassesOwn.never rfl (pi_tup (pv 0)) (pg_tup rfl (pgs_cons (pg_name (i := 2) sc_fields_of.nd rfl (Or.inl rfl)) (pgs_cons (pg_name (i := 3) sc_fields_of.nd rfl (Or.inl rfl)) pgs_nil))) (pss_one (ps_if (pt_cmpR op_eq (pv 2) (pv 1) (nomark _)) (pss_one (ps_ret (pv 3))) pss_nil)))
    (pss_one (ps_ret (pe_tup pa_nil)))), ?_⟩
  refine ⟨_, rfl, ra, rfl, ⟨_, .inl (.inl hra)⟩, for_tup (K := K) (a := ra) (xs := us) (fun i σ' H' => H' = H ∧ (∃ u v, σ' = [some (.ref ra), some (.str y), u, v]) ∧ First H y (us.drop i) o) ⟨rfl, ⟨_, _, rfl⟩, hf⟩ (fun i σ' H' _ e => e.1 ▸ .inl (.inl hra)) ?_ ?_⟩
  · rintro i u σ' H' hi ⟨rfl, ⟨u', v', rfl⟩, hfi⟩
    have hi' : i < us.length := (List.getElem?_eq_some_iff.mp hi).1
    have ed : us.drop i = u :: us.drop (i + 1) := by
      rw [List.drop_eq_getElem_cons hi', (List.getElem?_eq_some_iff.mp hi).2]
    rw [ed] at hfi
    cases hfi with
    | here h =>
      obtain ⟨pr, rfl, hpr⟩ := h
      exact ⟨pr, _, rfl, .inl (.inl hpr), rfl, _, _, rfl, _, _, rfl, rfl, _, rfl, _, rfl, rfl, _, rfl, ite2 (fun _ => ⟨_, rfl, q1 _ rfl⟩) (fun c => absurd (decide_eq_true rfl) c)⟩
    | there h hn r =>
      obtain ⟨pr, rfl, hpr⟩ := h
      exact ⟨pr, _, rfl, .inl (.inl hpr), rfl, _, _, rfl, _, _, rfl, rfl, _, rfl, _, rfl, rfl, _, rfl, ite2 (fun c => absurd (str_of_dec c) hn) (fun _ => ⟨rfl, ⟨_, _, rfl⟩, r⟩)⟩
  · rintro σ' H' ⟨rfl, _, hfi⟩
    rw [List.drop_eq_nil_of_le (Nat.le_refl _)] at hfi
    cases hfi
    exact ⟨by show 0 ≤ sizeLine; decide, fun p hp => q2 rfl p hp⟩
def spAfter (K : PySem.W.Frag) (C : Addr) : Sp := fun vs H Q E => ∃ (ra : Addr) (us : List V) (p : Addr) (os : List (V × V)) (sv : V), vs = [.ref ra, .ref p, sv] ∧ H ra = some (.tup us) ∧ Opts H us p os ∧ StepV sv ∧
  (∀ t, hit sv os = some t → ∀ H', Same H H' → Q t H') ∧ (hit sv os = none → ∀ H', Same H H' → E (.ref C) none H')
theorem ok_after (T : Txt7 K mg) : FnOk P w K mg base (L2.CX P w) 3 T.kind_after.f T.kind_after.fd ["records", "kind", "step"] (spAfter K T.c_NoSuchStep.C) := by
  refine T.kind_after.F.okX sc_kind_after (fun vs H Q E h => ?_) (fun cdv A outer s H vs Q E hr h => ?_)
  · obtain ⟨ra, us, p, os, sv, rfl, _⟩ := h
    rfl
  obtain ⟨ra, us, p, os, sv, rfl, hra, ho, hsv, qs, qn⟩ := h
  refine ⟨_, (pss_cons (ps_if (pt_mid (PW.pt (pw_and (pt_cmpR op_eq (pe_ix ix_tup (pv 1) pe_int (fun _ _ => rfl)) pe_str (nomark _)) (pw_and1 (pt_val (pe_call (ok_item T.toTxt1) (hr.mono (by omega)) rfl T.is_item.g T.is_item.F.kp T.is_item.b .nil pass0 (pa_cons (pe_ix ix_tup (pv 1) pe_int (fun _ _ => rfl)) (pa_cons (pv 2) pa_nil)))))))) (pss_one (ps_ret (pe_ix ix_tup (pe_ix ix_tup (pv 1) pe_int (fun _ _ => rfl)) (pv 2) (fun _ _ => rfl)))) pss_nil)
    (C8.pss_cut (ps_if (pt_cmpR op_eq (pe_ix ix_tup (pv 1) pe_int (fun _ _ => rfl)) pe_str (nomark _)) (pss_one (ps_for (passes_of rfl) rfl (pi_tup (pe_call (ok_fieldsOf T) (hr.mono (by omega)) rfl T.fields_of.g T.fields_of.F.kp T.fields_of.b .nil pass0 (pa_cons (pv 0) (pa_cons (pe_ix ix_tup (pv 1) pe_int (fun _ _ => rfl)) pa_nil)))) (pg_tup rfl (pgs_cons (pg_name (i := 3) sc_kind_after.nd rfl (Or.inl rfl)) (pgs_cons (pg_name (i := 4) sc_kind_after.nd rfl (Or.inl rfl)) pgs_nil))) (pss_one (ps_if (pt_cmpR op_eq (pv 3) (pv 2) (nomark _)) (pss_one (ps_ret (pv 4))) pss_nil)))) pss_nil)
    (pss_cons (ps_if (pt_mid (PW.pt (pw_and (pt_cmpR op_eq (pe_ix ix_tup (pv 1) pe_int (fun _ _ => rfl)) pe_str (nomark _)) (pw_and1 (pt_cmpR op_eq (pv 2) pe_str (nomark _)))))) (pss_one (ps_ret (pe_ix ix_tup (pv 1) pe_int (fun _ _ => rfl)))) pss_nil)
    (pss_cons (ps_if (pt_mid (PW.pt (pw_and (pt_mid (PW.pt (pw_or (pt_cmpR op_eq (pe_ix ix_tup (pv 1) pe_int (fun _ _ => rfl)) pe_str (nomark _)) (pw_or1 (pt_cmpR op_in_seq (pe_ix ix_tup (pv 1) pe_int (fun _ _ => rfl)) (pe_glob (v := .ref T.a_BORROWS) rfl T.g_BORROWS rfl) (by rfl)))))) (pw_and1 (pt_cmpR op_eq (pv 2) pe_str (nomark _)))))) (pss_one (ps_ret (pe_ix ix_tup (pv 1) pe_int (fun _ _ => rfl)))) pss_nil)
    (pss_one (ps_raise rfl (takes_of rfl rfl rfl rfl) (SkE.pmk_own1 PySem.F.excBase_ValueError T.c_NoSuchStep.x T.c_NoSuchStep.g T.c_NoSuchStep.k (raises_own T.c_NoSuchStep.b T.c_NoSuchStep.t) rfl (pe_joined (.cons (pe_str) (.cons (pe_fmtR (pv 2)) (.cons (pe_str) (.cons (pe_fmtR (pe_ix ix_tup (pv 1) pe_int (fun _ _ => rfl))) .nil)))))))))))), ?_⟩
  obtain ⟨x, ts, hp, gx, oa⟩ := ho.ex
  have sq : SqT K H p (.str x :: ts) := .inl (.inl hp)
  -- a tuple
  refine ⟨fun b H' => H' = H ∧ (b = true → x = "tuple" ∧ ∃ q ws, ts = [.ref q] ∧ H q = some (.tup ws) ∧ os = en 0 ws ∧ isItem ws.length sv = true) ∧ (b = false → x = "tuple" → hit sv os = none), ?_, ?_⟩
  · refine ⟨_, rfl, p, _, 0, _, rfl, rfl, sq, atI_0, rfl, _, rfl, ite2 (fun c => ?_) (fun c => ⟨rfl, fun e => Bool.noConfusion e, fun _ e => absurd (decide_eq_true (by rw [e])) c⟩)⟩
    have ex := str_of_dec c
    obtain ⟨q, ws, rfl, hq, hl, rfl⟩ := oa.tup ex
    refine ⟨_, rfl, p, _, 1, _, rfl, rfl, sq, atI_1, _, rfl, q, ws, sv, rfl, .inl (.inl hq), ?_, _, rfl, rfl, fun e => ⟨ex, q, ws, rfl, hq, rfl, e⟩, fun e _ => ?_⟩
    · rcases hsv with ⟨i, rfl, h⟩ | ⟨y, rfl, _⟩
      · have : i.natAbs.log2 < 100 := PySem.Flt.log2_lt_of (by decide) h
        show i.natAbs.log2 < 1920
        omega
      · trivial
    · rcases hsv with ⟨i, rfl, h⟩ | ⟨y, rfl, _⟩
      · rw [hit_en_int]
        by_cases h0 : ((0 : Nat) : Int) ≤ i
        · rw [if_pos h0]
          have e' : (decide (0 ≤ i) && decide (i < (ws.length : Int))) = false := e
          have h1 : ¬ i < (ws.length : Int) := fun z => by
            rw [decide_eq_true (show 0 ≤ i by omega), decide_eq_true z] at e'; cases e'
          exact List.getElem?_eq_none_iff.mpr (by omega)
        · rw [if_neg h0]
      · exact hit_en_str y 0 ws
  rintro b H' ⟨rfl, b1, b2⟩
  refine ite2 (fun c => ?_) (fun c1 => ?_)
  · obtain ⟨ex, q, ws, rfl, hq, rfl, hi⟩ := b1 c
    rcases hsv with ⟨i, rfl, h⟩ | ⟨y, rfl, _⟩
    · have e' : (decide (0 ≤ i) && decide (i < (ws.length : Int))) = true := hi
      rw [Bool.and_eq_true] at e'
      have i0 := of_decide_eq_true e'.1
      have i1 := of_decide_eq_true e'.2
      obtain ⟨t, ht, ht'⟩ := atI_ex i0 i1
      refine ⟨_, rfl, p, _, 1, _, rfl, rfl, sq, atI_1, _, rfl, q, _, _, t, rfl, rfl, .inl (.inl hq), ht', qs t ?_ _ (.refl _)⟩
      rw [hit_en_int, if_pos (by omega)]
      have ez : (i - ((0 : Nat) : Int)).toNat = i.toNat := by omega
      rw [ez]; exact ht
    · cases hi
  have h1 : x = "tuple" → hit sv os = none := b2 (Bool.eq_false_iff.mpr c1)
  -- a record
  refine ⟨fun σ' H2 => Same H' H2 ∧ (∃ u v, σ' = [some (.ref ra), some (.ref p), some sv, u, v]) ∧ (x = "record" → hit sv os = none), ⟨_, rfl, p, _, 0, _, rfl, rfl, sq, atI_0, rfl, _, rfl, ite2 (fun c => ?_) (fun c => ⟨.refl _, ⟨_, _, rfl⟩, fun e => absurd (decide_eq_true (by rw [e])) c⟩)⟩, ?_⟩
  · obtain ⟨y, o, rfl, hf, hos⟩ := oa.rcd (str_of_dec c)
    refine ⟨_, rfl, _, rfl, p, _, 1, _, rfl, rfl, sq, atI_1, ra, us, y, o, rfl, hra, hf, fun f e => ?_, fun e f hfr => ?_⟩
    · rcases hos with ⟨e2, _⟩ | ⟨f', ws, e2, hf', ps⟩
      · rw [e2] at e; cases e
      · have ef : f' = f := by rw [e2] at e; exact Option.some.inj e
        subst ef
        refine ⟨f', rfl, ⟨_, .inl (.inl hf')⟩, for_tup (K := K) (a := f') (xs := ws) (fun i σ' H2 => H2 = H' ∧ (∃ u v, σ' = [some (.ref ra), some (.ref p), some sv, u, v]) ∧ hit sv os = hit sv (os.drop i)) ⟨rfl, ⟨_, _, rfl⟩, rfl⟩ (fun i σ' H2 _ e => e.1 ▸ .inl (.inl hf')) ?_ ?_⟩
        · rintro i u σ' H2 hi ⟨rfl, ⟨u', v', rfl⟩, hh⟩
          obtain ⟨pp, s', t, rfl, hpp, hoi⟩ := ps.get hi
          have hi' : i < os.length := (List.getElem?_eq_some_iff.mp hoi).1
          have ed : os.drop i = (s', t) :: os.drop (i + 1) := by
            rw [List.drop_eq_getElem_cons hi', (List.getElem?_eq_some_iff.mp hoi).2]
          have hs' := (ho.ok _ (mem_of_get hoi)).1
          have sc : scal s' sv = true := by
            rcases hs' with ⟨i, rfl, _⟩ | ⟨x, rfl, _⟩ <;> rcases hsv with ⟨j, rfl, _⟩ | ⟨z, rfl, _⟩ <;> rfl
          rw [ed] at hh
          refine ⟨pp, _, rfl, .inl (.inl hpp), rfl, _, _, rfl, _, _, rfl, rfl, _, rfl, _, rfl, sc, _, rfl, ite2 (fun d => ?_) (fun d => ?_)⟩
          · have ee : s' = sv := of_decide_eq_true d
            refine ⟨_, rfl, qs t ?_ _ (.refl _)⟩
            rw [hh]; unfold hit; rw [if_pos ee]
          · refine ⟨rfl, ⟨_, _, rfl⟩, ?_⟩
            have ee : ¬ s' = sv := of_decide_eq_false (Bool.eq_false_iff.mpr d)
            rw [hh]
            show (if s' = sv then some t else hit sv (os.drop (i + 1))) = _
            rw [if_neg ee]
        · rintro σ' H2 ⟨rfl, ⟨u', v', rfl⟩, hh⟩
          refine ⟨.refl _, ⟨_, _, rfl⟩, fun _ => ?_⟩
          rw [hh, ps.len, List.drop_eq_nil_of_le (Nat.le_refl _)]; rfl
    · refine ⟨f, rfl, ⟨_, .inl (.inl upd_same)⟩, for_tup (K := K) (a := f) (xs := []) (fun i σ' H2 => H2 = upd H' f (.tup []) ∧ (∃ u v, σ' = [some (.ref ra), some (.ref p), some sv, u, v])) ⟨rfl, ⟨_, _, rfl⟩⟩ (fun i σ' H2 _ e => e.1 ▸ .inl (.inl upd_same)) (fun i x σ' H2 hi => absurd hi (by simp)) ?_⟩
      rintro σ' H2 ⟨rfl, ⟨u', v', rfl⟩⟩
      refine ⟨same_new hfr _, ⟨_, _, rfl⟩, fun _ => ?_⟩
      rcases hos with ⟨_, e2⟩ | ⟨f', ws, e2, _⟩
      · rw [e2]; rfl
      · rw [e] at e2; cases e2
  rintro σ' H2 ⟨g2, ⟨u', v', rfl⟩, h2⟩
  have sq2 : SqT K H2 p (.str x :: ts) := .inl (.inl (g2 _ _ hp))
  obtain ⟨sc1, _⟩ := scal_step hsv "?"
  obtain ⟨sc2, _⟩ := scal_step hsv "^"
  -- a maybe
  refine ⟨fun b H3 => H3 = H2 ∧ (b = true → x = "maybe" ∧ sv = .str "?") ∧ (b = false → x = "maybe" → hit sv os = none), ?_, ?_⟩
  · refine ⟨_, rfl, p, _, 0, _, rfl, rfl, sq2, atI_0, rfl, _, rfl, ite2 (fun c => ?_) (fun c => ⟨rfl, fun e => Bool.noConfusion e, fun _ e => absurd (decide_eq_true (by rw [e])) c⟩)⟩
    have ex := str_of_dec c
    refine ⟨_, rfl, sc1, _, rfl, rfl, fun e => ⟨ex, of_decide_eq_true e⟩, fun e _ => ?_⟩
    obtain ⟨u, _, rfl⟩ := oa.may ex
    have ne : ¬ V.str "?" = sv := fun z => (of_decide_eq_false e) z.symm
    show (if V.str "?" = sv then some u else none) = none
    rw [if_neg ne]
  rintro b H3 ⟨rfl, b3, b4⟩
  refine ite2 (fun c => ?_) (fun c3 => ?_)
  · obtain ⟨ex, rfl⟩ := b3 c
    obtain ⟨u, rfl, rfl⟩ := oa.may ex
    exact ⟨_, rfl, p, _, 1, _, rfl, rfl, sq2, atI_1, qs u rfl _ g2⟩
  have h3 : x = "maybe" → hit sv os = none := b4 (Bool.eq_false_iff.mpr c3)
  -- a box or a borrow
  refine ⟨fun b H4 => H4 = H3 ∧ (b = true → (x = "box" ∨ x = "shared" ∨ x = "exclusive") ∧ sv = .str "^") ∧ (b = false → (x = "box" ∨ x = "shared" ∨ x = "exclusive") → hit sv os = none), ?_, ?_⟩
  · refine ⟨fun b H4 => H4 = H3 ∧ (b = true → x = "box" ∨ x = "shared" ∨ x = "exclusive") ∧ (b = false → ¬ (x = "box" ∨ x = "shared" ∨ x = "exclusive")), ?_, ?_⟩
    · refine ⟨_, rfl, p, _, 0, _, rfl, rfl, sq2, atI_0, rfl, _, rfl, ite2 (fun c => ⟨rfl, fun _ => .inl (str_of_dec c), fun e => Bool.noConfusion e⟩) (fun c => ?_)⟩
      refine ⟨_, rfl, p, _, 0, _, rfl, rfl, sq2, atI_0, T.a_BORROWS, _, rfl, .inr (T.t_BORROWS _), rfl, rfl, _, rfl, rfl, fun e => ?_, fun e => ?_⟩
      · have e' : inV (.str x) ((["shared", "exclusive"] : List Str).map V.str) = true := e
        rw [inV_str] at e'
        exact .inr (by simpa using of_decide_eq_true e')
      · have e' : inV (.str x) ((["shared", "exclusive"] : List Str).map V.str) = false := e
        rw [inV_str] at e'
        rintro (z | z)
        · exact c (decide_eq_true (by rw [z]))
        · exact of_decide_eq_false e' (by simpa using z)
    · rintro b H4 ⟨rfl, c1, c2⟩
      refine ite2 (fun c => ?_) (fun c => ⟨rfl, fun e => Bool.noConfusion e, fun _ e => absurd e (c2 (Bool.eq_false_iff.mpr c))⟩)
      refine ⟨_, rfl, sc2, _, rfl, rfl, fun e => ⟨c1 c, of_decide_eq_true e⟩, fun e _ => ?_⟩
      obtain ⟨u, _, rfl⟩ := oa.one (c1 c)
      have ne : ¬ V.str "^" = sv := fun z => (of_decide_eq_false e) z.symm
      show (if V.str "^" = sv then some u else none) = none
      rw [if_neg ne]
  rintro b H4 ⟨rfl, b5, b6⟩
  refine ite2 (fun c => ?_) (fun c4 => ?_)
  · obtain ⟨ex, rfl⟩ := b5 c
    obtain ⟨u, rfl, rfl⟩ := oa.one ex
    exact ⟨_, rfl, p, _, 1, _, rfl, rfl, sq2, atI_1, qs u rfl _ g2⟩
  have h4 := b6 (Bool.eq_false_iff.mpr c4)
  have hn : hit sv os = none := by
    by_cases e1 : x = "maybe"
    · exact h3 e1
    by_cases e2 : x = "box" ∨ x = "shared" ∨ x = "exclusive"
    · exact h4 e2
    by_cases e3 : x = "tuple"
    · exact h1 e3
    by_cases e4 : x = "record"
    · exact h2 e4
    rw [oa.rest e1 e2 e3 e4]; rfl
  have fin := qn hn _ g2
  have gr : (reprText x).length ≤ 1000 := Nat.le_trans (StrLaws.reprText_len x gx.2) (by have := gx.1; omega)
  have l1 : ("the step " : Str).length = 9 := by decide +kernel
  have l2 : (" does not fit a kind that begins with " : Str).length = 38 := by decide +kernel
  have l0 : (Str.empty : Str).length = 0 := rfl
  rcases hsv with ⟨i, rfl, hi⟩ | ⟨y, rfl, gy⟩
  · have hlog : i.natAbs.log2 < 1920 := Nat.lt_trans (show i.natAbs.log2 < 100 from PySem.Flt.log2_lt_of (by decide) hi) (by decide)
    have gi : (Str.ofString (toString i)).length ≤ 2000 := by
      have := int_text_length_le (k := 1920) (by decide) hlog
      rw [ofString_length]; omega
    refine ⟨_, rfl, ?_, _, rfl, .inr ⟨i, rfl, hlog, _, rfl, ?_, _, rfl, ?_, _, rfl, p, _, 0, _, rfl, rfl, sq2, atI_0, .inl ⟨x, rfl, line_of (by omega), _, rfl, ?_, ?_⟩⟩⟩
    all_goals first | exact fin | (simp only [str_len]; exact line_of (by omega))
  · have gy2 : (reprText y).length ≤ 2000 := Nat.le_trans (StrLaws.reprText_len y gy.2) (by have := gy.1; omega)
    refine ⟨_, rfl, ?_, _, rfl, .inl ⟨y, rfl, line_of (by omega), _, rfl, ?_, _, rfl, ?_, _, rfl, p, _, 0, _, rfl, rfl, sq2, atI_0, .inl ⟨x, rfl, line_of (by omega), _, rfl, ?_, ?_⟩⟩⟩
    all_goals first | exact fin | (simp only [str_len]; exact line_of (by omega))
end
end Kk
namespace Kk
open PySem PySem.Spec PyProof.Rows L2
/-! ### several except clauses with names -/
abbrev Cls3 := Value × Nat × (Addr → Value → Option Addr → TS)
def endsOf (i : Nat) (D : Ends) : Ends := { nx := fun τ J => D.nx (τ.set i none) J, rt := D.rt, bk := fun τ J => D.bk (τ.set i none) J, ct := fun τ J => D.ct (τ.set i none) J }
/-- what the named clauses wish of an error of the body -/
def wNamed (K : PySem.W.Frag) (Wout : WX) (D : Ends) : List Cls3 → WX
  | [] => Wout
  | (c, i, ts) :: r => fun cls d σ H => ∃ b, PySem.W.exmOne K cls c = some b ∧ (b = true → ∀ a, H a = none → ts a cls d (endsOf i D) (σ.set i (some (.ref a))) H) ∧ (b = false → wNamed K Wout D r cls d σ H)
inductive HdsN (X : Cx) : List ExceptHandler → List Cls3 → Prop
  | nil : HdsN X [] []
  | cons {x n : Str} {c : Value} {i : Nat} {ts : Addr → Value → Option Addr → TS} {b₁ : Stmt} {rest : List Stmt} {p1 p2 : Pos} {hds : List ExceptHandler} {l : List Cls3} (hi : X.N[i]? = some n) (hln : X.env.kindOf n = some .local) (hc : Names X x c)
      (hsu : ∀ (a : Addr) (ob : Obj) (cls : Value) (d : Option Addr) (pn : List (Addr × Obj)), Zc cls d ob → (∃ vs, ob.data = .fields vs) → PSs (X.suite a ((a, ob) :: pn)) (b₁ :: rest) (ts a cls d)) (r : HdsN X hds l) :
      HdsN X (.ExceptHandler (some (.Name x p1)) (some n) (b₁ :: rest) p2 :: hds) ((c, i, ts) :: l)
section
variable {X : Cx} {body : List Stmt} {h₁ : ExceptHandler} {hds : List ExceptHandler} {l : List Cls3} {pos : Pos} {tb : WX → TS} {Wout : WX}
theorem ps_try_named (hs : X.stack = X.env :: X.outer) (hf : X.env.frame = some X.env.locals) (hN : X.N.Nodup) (tk : Takes X Wout)
    (hb : ∀ (W : WX) (pn : List (Addr × Obj)) (ye : Value → Shared → Prop), Takes (X.tr pn ye) W → PassesOwn (model X.prog X.w) X.A X.env ye → PSs (X.tr pn ye) body (tb W))
    (hh : HdsN X (h₁ :: hds) l) : PS X (.Try body (h₁ :: hds) [] [] pos) (fun D σ H => tb (wNamed X.K Wout D l) D σ H) := by
  refine ⟨fun pins s σ H D I h => ?_⟩
  have okX := I.ok
  have frX : X.A.frames = some (X.env :: X.outer) := by rw [okX.frames]; exact congrArg some hs
  refine wpAny_Try_except ?_
  refine wpAny_mono ((hb (wNamed X.K Wout D l) (X.pn ++ pins)
    (fun e t₁ => wpAny (model X.prog X.w) X.A (noteFrame e X.env) (fun _ t₂ => wpAny (model X.prog X.w) X.A (setFlight e none) (fun _ t₃ =>
      wpAny (model X.prog X.w) X.A (handleBy e X.env (h₁ :: hds)) (SP X pins D) X.xe t₃) X.xe t₂) X.xe t₁)
    (fun u s' hx => ?_) PassesOwn.looking).run [] s σ H D (I.toTry _) h) (fun f s1 hsp => ?_) (fun e s1 he => he)
  · obtain ⟨a, B, sI, pins', τ, G, cls, d, rfl, Jt, nb, up, sky, na, os, ag, wish⟩ := hx
    have J : Inv X pins τ G sI := Jt.ofTry okX
    have skyX : Sky B (X.env :: X.outer) a (Zc cls d) X.env.locals s'.heap := by rw [← hs]; exact sky
    show wpAny (model X.prog X.w) X.A (noteFrame (.ref a) X.env) _ _ _
    refine Sky.land Zc.steady frX hf skyX fun hp fl upp => ?_
    have Jp : Inv X pins τ G { s' with heap := hp } := J.landed nb fl.1 (up.trans upp) os ag
    obtain ⟨ob, fv, hob, hzb, hdb⟩ := fl.there
    have nofr : a ∉ frs (X.env :: X.outer) := fun hm => by
      obtain ⟨_, o', e', hnf⟩ := (fl.2.2.1).mem hm
      rw [hob] at e'; cases e'
      exact hnf _ hdb
    have nL : a ≠ X.env.locals := fun z => nofr (List.mem_filterMap.mpr ⟨X.env, List.mem_cons_self, by rw [hf]; exact congrArg some z.symm⟩)
    have nF : a ∉ X.fs := fun hm => by
      obtain ⟨e, he, q⟩ := List.mem_filterMap.mp hm
      exact nofr (List.mem_filterMap.mpr ⟨e, List.mem_cons_of_mem _ he, q⟩)
    have Sp := Jp.suite hob hdb na nL nF
    have walk : ∀ {hs' : List ExceptHandler} {l' : List Cls3}, HdsN X hs' l' → wNamed X.K Wout D l' cls d τ G → wpAny (model X.prog X.w) X.A (handleBy (.ref a) X.env hs') (SP X pins D) X.xe { s' with heap := hp } := by
      intro hs' l' hk
      induction hk with
      | nil =>
        intro wo
        refine wpAny_handleBy_nil ?_
        obtain ⟨_, _, _, oe, vs, T, oT, ts', he, hz, hd, h1, hr⟩ := id fl
        unfold PySem.passOn
        refine wpAny_bind (wpAny_field he hd h1 ?_)
        rw [if_neg (show ¬ ((Value.ref T == Value.none) = true) by simp)]
        have fin : wpAny (model X.prog X.w) X.A (setFlight (.ref a) X.env.frame) (fun _ t4 => wpAny (model X.prog X.w) X.A (throw (.ref a) : Sem Flow) (SP X pins D) X.xe t4) X.xe { s' with heap := hp } := by
          rw [hf]
          refine HandSPX.setFlight_upZ fl fun h4 hh4 up4 => wpAny_throw (tk _ _ ?_)
          exact ⟨a, B, sI, pins, τ, G, cls, d, rfl, J, nb, (up.trans upp).trans up4, .inr (.inr (by rw [hs]; exact hh4)), na, os, ag, wo⟩
        first | exact wpAny_bind (wpAny_pure (wpAny_bind fin)) | exact wpAny_bind fin
      | @cons x n c i ts b₁ rest p1 p2 hds2 l2 hi hln hc hsu r ih =>
        intro wo
        obtain ⟨b, hb1, hyes, hno⟩ := wo
        refine wpAny_handleBy_cons (codeAny_handlers_test ?_) (by intro q; cases q)
        have tyE : PySem.W.Looks (model X.prog X.w) hp (typeOf (.ref a)) cls := fun A Q E t k q => wpAny_typeOf_ref (k _ _ hob) (by rw [hzb.1]; exact q)
        have mtE := PySem.W.exm_one (M := model X.prog X.w) (Jp.kIn) tyE hb1
        have cls_of : ∀ {Q : Value → Shared → Prop} {E : Value → Shared → Prop}, Q c { s' with heap := hp } → wpAny (model X.prog X.w) (X.A.mark (some (.ref a))) (eval (.Name x p1) X.env) Q E { s' with heap := hp } := fun {Q E} q => by
          obtain ⟨hg, hdbg, hm | ⟨hm, hv, hnn⟩⟩ := hc
          · exact ld_glob (X := X.suite a ((a, ob) :: (X.pn ++ pins))) Sp hg hm q hdbg
          · exact ld_blt (X := X.suite a ((a, ob) :: (X.pn ++ pins))) Sp hg hm hv q hnn hdbg
        refine cls_of (mtE.here ?_)
        cases b with
        | false =>
          show wpAny _ X.A (handleBy (.ref a) X.env hds2) _ _ _
          exact ih (hno rfl)
        | true =>
          refine codeAny_handlers_suite_as ?_
          refine HandSPX.lands_againZ fl fun h4 fl4 up4 => ?_
          have Jq : Inv X pins τ G { s' with heap := h4 } := J.landed nb fl4.1 ((up.trans upp).trans up4) os ag
          obtain ⟨ob4, fv4, hob4, hz4, hd4⟩ := fl4.there
          have Sq := Jq.suite hob4 hd4 na nL nF
          refine store_ok (X := X.suite a ((a, ob4) :: (X.pn ++ pins))) (v := .ref a) Sq hN hi (.inl hln) rfl (fun s5 S5 => ?_) (.inr hln)
          refine wpAny_mono ((hsu a ob4 cls d (X.pn ++ pins) hz4 ⟨_, hd4⟩).run [] s5 _ G _ S5 (hyes rfl a na)) (fun f s6 hsp => ?_) (fun _ _ z => False.elim z)
          have goes : ∀ {σ6 : L2.St} {H6 : Hp} {Q : Shared → Prop}, Inv (X.suite a ((a, ob4) :: (X.pn ++ pins))) [] σ6 H6 s6 → (∀ s7, Inv X pins (σ6.set i none) H6 s7 → Q s7) →
              wpAny (model X.prog X.w) X.A (do bindName X.env n .none; unbindBehindTheSuite X.env n p2) (fun _ s7 => Q s7) X.xe s6 := fun {σ6 H6 Q} S6 hq => gone_ok (S6.unsuite okX) hN hi hln hq
          cases f with
          | next => exact hsp.elim fun σ6 hsp => hsp.elim fun H6 hsp => goes hsp.1 fun s7 J7 => ⟨_, _, J7, hsp.2⟩
          | brk => exact hsp.elim fun σ6 hsp => hsp.elim fun H6 hsp => goes hsp.1 fun s7 J7 => ⟨_, _, J7, hsp.2⟩
          | cont => exact hsp.elim fun σ6 hsp => hsp.elim fun H6 hsp => goes hsp.1 fun s7 J7 => ⟨_, _, J7, hsp.2⟩
          | ret u => exact hsp.elim fun v6 hsp => hsp.elim fun σ6 hsp => hsp.elim fun H6 hsp => goes hsp.1 fun s7 J7 => ⟨_, _, _, J7, hsp.2.1, hsp.2.2⟩
    exact walk hh wish
  · cases f with
    | next => exact hsp.elim fun τ hsp => hsp.elim fun G hsp => wpAny_execs_nil ⟨τ, G, hsp.1.ofTry okX, hsp.2⟩
    | brk => exact hsp.elim fun τ hsp => hsp.elim fun G hsp => ⟨τ, G, hsp.1.ofTry okX, hsp.2⟩
    | cont => exact hsp.elim fun τ hsp => hsp.elim fun G hsp => ⟨τ, G, hsp.1.ofTry okX, hsp.2⟩
    | ret u => exact hsp.elim fun v hsp => hsp.elim fun τ hsp => hsp.elim fun G hsp => ⟨v, τ, G, hsp.1.ofTry okX, hsp.2.1, hsp.2.2⟩
end
/-- one value by place, two by their names -/
def g3 {α : Type} : List α → List α → List α
  | [u], [a, b] => [u, a, b]
  | _, _ => []
theorem g3_rel : ∀ {vs : List V} {us : List Value} {zs : List V} {ws : List Value}, Vals vs us → Vals zs ws → Vals (g3 vs zs) (g3 us ws)
  | _, _, _, _, .nil, _ => .nil
  | _, _, _, _, .cons _ (.cons _ _), _ => .nil
  | _, _, _, _, .cons _ .nil, .nil => .nil
  | _, _, _, _, .cons _ .nil, .cons _ .nil => .nil
  | _, _, _, _, .cons a .nil, .cons b (.cons c .nil) => .cons a (.cons b (.cons c .nil))
  | _, _, _, _, .cons _ .nil, .cons _ (.cons _ (.cons _ _)) => .nil
theorem g3_len {α : Type} {us ws : List α} (h : (g3 us ws).length = 3) : ∃ u a b, us = [u] ∧ ws = [a, b] := by
  rcases us with _ | ⟨u, us⟩
  · exact absurd h (by simp [g3])
  · rcases us with _ | ⟨u2, us⟩
    · rcases ws with _ | ⟨a, ws⟩
      · exact absurd h (by simp [g3])
      · rcases ws with _ | ⟨b, ws⟩
        · exact absurd h (by simp [g3])
        · rcases ws with _ | ⟨c, ws⟩
          · exact ⟨u, a, b, rfl, rfl⟩
          · exact absurd h (by simp [g3])
    · exact absurd h (by simp [g3])
/-- a def whose call is bound by keywords -/
structure Df0 (K : PySem.W.Frag) (mg : Str → Option Value) (x : Str) (st : Stmt) where
  f : Addr
  fd : FuncData
  F : Fun K x x st f fd
  g : mg x = some (.ref f)
  b : KBinds K fd ["place", "records", "kinds"] ["records", "kinds"] g3 g3
/-! ### a call with keywords, in a try -/
section
variable {X : Cx} {CX : CXT} {k : Nat} {f : Addr} {fd : FuncData} {ps ks : List Str} {sp : Sp} {x : Str} {p pos : Pos} {e : Expr} {es : List Expr} {kws : List Keyword} {t tk : TA} {g : List Value → List Value → List Value} {gV : List V → List V → List V} {E : L2.St → XK}
def tCallKS (sp : Sp) (gV : List V → List V → List V) (E : L2.St → XK) (t tk : TA) : TE := fun σ H Q => t σ H fun vs H1 => tk σ H1 fun zs H2 => sp (gV vs zs) H2 Q (E σ)
theorem pe_callKS (F : FnOk X.prog X.w X.K X.mg X.base CX k f fd ps sp) (hr : Room k X.A) (hg : Gl X x) (hm : X.mg x = some (.ref f)) (hk : PySem.W.keepIn X.K (.ref f) = true) (hb : KBinds X.K fd ps ks g gV) (hx : ∀ σ, PassesAt CX X σ (E σ))
    (ha : PA X (e :: es) t) (hkw : PK X kws tk) (all1 : (backToKw pos (keywordEach kws X.env)).all (·.1.isSome) = true := by rfl) (nms : (backToKw pos (keywordEach kws X.env)).filterMap (·.1) = ks := by rfl)
    (ndb : (x == ("__debug__" : Str)) = false := by decide) (st1 : starEach (e :: es) X.env = (false, eval e X.env) :: starEach es X.env := by rfl)
    (pl1 : ((backTo pos (starEach (e :: es) X.env)).any (·.1) || (backToKw pos (keywordEach kws X.env)).any (·.1.isNone)) = false := by rfl) :
    PE X (.Call (.Name x p) (e :: es) kws pos) (tCallKS sp gV E t tk) := by
  refine ⟨fun pins s σ H Q I h => wpAny_Call_Name_kw (ld_glob I hg hm ?_ ndb)⟩
  refine PySem.W.callWith_KW (h₀ := X.base) I.ok.mod.kin hk all1 (thn (ha.run pos pins s σ H _ I h) fun us s1 ⟨vs, H1, I1, r, q⟩ => ?_) pl1 st1
  refine thn (hkw.run pos pins s1 σ H1 _ I1 q) fun ws s2 ⟨zs, H2, I2, rz, q2⟩ => ⟨I2.kIn, ?_⟩
  have r2 := hb.rel r rz
  have hl : (g us ws).length = ps.length := r2.length.symm.trans (F.len _ _ _ _ q2)
  rw [nms]
  refine wpAny_call (codeAny_mono (F.run X.A X.stack s2 H2 ⟨us, ks.zip ws⟩ (g us ws) (gV vs zs) Q (E σ) hr I2.env0 (hb.to s2 us ws I2.kIn hl) r2 q2) fun rr s' hq => ?_)
  cases rr with
  | error ee => exact hx σ pins H2 s2 ee s' I2 hq
  | ok fl =>
    cases fl with
    | ret u => exact I2.after hq
    | _ => exact False.elim hq
end
end Kk
namespace Kk
open PySem L2
abbrev s_kinds_along : Stmt := topS 15
theorem sc_kinds_along : FnScope ["place", "records", "kinds", "variable", "steps", "along", "step"] ["place", "records", "kinds"] (defScope s_kinds_along) := ⟨rfl, rfl, rfl, by decide +kernel, rfl, by decide +kernel, by decide +kernel⟩
abbrev s_kind_at : Stmt := topS 14
theorem sc_kind_at : FnScope ["place", "records", "kinds"] ["place", "records", "kinds"] (defScope s_kind_at) := ⟨rfl, rfl, rfl, by decide +kernel, rfl, by decide +kernel, by decide +kernel⟩
abbrev s__law_table : Stmt := topS 32
theorem sc__law_table : FnScope ["state", "script", "rows", "table", "k", "name"] ["state", "script", "rows"] (defScope s__law_table) := ⟨rfl, rfl, rfl, by decide +kernel, rfl, by decide +kernel, by decide +kernel⟩
abbrev s__law_walk : Stmt := topS 33
theorem sc__law_walk : FnScope ["state", "script", "rows", "name", "kind", "steps", "k", "options", "chosen"] ["state", "script", "rows", "name", "kind"] (defScope s__law_walk) := ⟨rfl, rfl, rfl, by decide +kernel, rfl, by decide +kernel, by decide +kernel⟩
abbrev s__law_followed : Stmt := topS 36
theorem sc__law_followed : FnScope ["rows", "kind", "steps", "step", "found", "option"] ["rows", "kind", "steps"] (defScope s__law_followed) := ⟨rfl, rfl, rfl, by decide +kernel, rfl, by decide +kernel, by decide +kernel⟩
structure Txt8 (K : PySem.W.Frag) (mg : Str → Option Value) extends Txt7 K mg where
  kinds_along : Df K mg "kinds_along" s_kinds_along ["place", "records", "kinds"]
  kind_at : Df0 K mg "kind_at" s_kind_at
  c_NoSuchVariable : ClX K mg "NoSuchVariable"
  _law_table : Df K mg "_law_table" s__law_table ["state", "script", "rows"]
  _law_walk : Df K mg "_law_walk" s__law_walk ["state", "script", "rows", "name", "kind"]
  _law_followed : Df K mg "_law_followed" s__law_followed ["rows", "kind", "steps"]
theorem take_more {α : Type} : ∀ {l : List α} {i : Nat} {x : α}, l[i]? = some x → l.take (i + 1) = l.take i ++ [x]
  | [], i, x, h => by simp at h
  | a :: l, 0, x, h => by
    have e : a = x := Option.some.inj h
    subst e
    rfl
  | a :: l, i + 1, x, h => congrArg (a :: ·) (take_more (l := l) (by simpa using h))
/-! ### ways along a place -/
inductive Fol (H : Hp) (us : List V) : V → List V → Option V → Prop
  | nil {v : V} : Fol H us v [] (some v)
  | stop {p : Addr} {s : V} {r : List V} {os : List (V × V)} (ho : Opts H us p os) (hn : hit s os = none) : Fol H us (.ref p) (s :: r) none
  | go {p : Addr} {s t : V} {r : List V} {os : List (V × V)} {o : Option V} (ho : Opts H us p os) (ht : hit s os = some t) (k : Fol H us t r o) : Fol H us (.ref p) (s :: r) o
theorem Fol.tm {H H' : Hp} (m : TM H H') {us : List V} {v : V} {svs : List V} {o : Option V} (h : Fol H us v svs o) : Fol H' us v svs o := by
  induction h with
  | nil => exact .nil
  | stop ho hn => exact .stop (ho.tm m) hn
  | go ho ht _ ih => exact .go (ho.tm m) ht ih
theorem fol_ex {H : Hp} {us : List V} {rank : Str → Nat} (hr : Rws rank H us) : ∀ (svs : List V) {v : V}, KV H (fun _ => True) 6 v → ∃ o, Fol H us v svs o ∧ ∀ t, o = some t → KV H (fun _ => True) 6 t
  | [], v, k => ⟨some v, .nil, fun t e => Option.some.inj e ▸ k⟩
  | s :: r, v, k => by
    obtain ⟨p, os, rfl, ho⟩ := opts_ex k (Nat.le_refl _) hr
    cases e : hit s os with
    | none => exact ⟨none, .stop ho e, fun t e => nomatch e⟩
    | some t =>
      obtain ⟨o, f, g⟩ := fol_ex hr r ((ho.ok _ (hit_mem e)).2.2)
      exact ⟨o, .go ho e f, g⟩
theorem Fol.snoc {H : Hp} {us : List V} {v : V} {svs : List V} {o : Option V} (h : Fol H us v svs o) : ∀ {p : Addr} {s t : V} {os : List (V × V)}, o = some (.ref p) → Opts H us p os → hit s os = some t → Fol H us v (svs ++ [s]) (some t) := by
  induction h with
  | nil =>
    intro p s t os e ho ht
    have e' := Option.some.inj e
    rw [e']
    exact .go ho ht .nil
  | stop ho hn => intro p s t os e; cases e
  | go ho ht k ih => intro p s t os e ho' ht'; exact .go ho ht (ih e ho' ht')
theorem str_nodup : ∀ {l : List Str}, l.Nodup → (l.map V.str).Nodup := fun {l} h => by
  unfold List.Nodup at h ⊢
  rw [List.pairwise_map]
  exact h.imp fun a e => a (V.str.inj e)
theorem en_fst : ∀ {k : Nat} {ws : List V}, (en k ws).map (·.1) = (List.range' k ws.length).map fun i : Nat => V.int (i : Int)
  | k, [] => rfl
  | k, w :: r => by
    show V.int (k : Int) :: (en (k + 1) r).map (·.1) = _
    rw [en_fst (k := k + 1) (ws := r)]; rfl
theorem en_nd (k : Nat) (ws : List V) : ((en k ws).map (·.1)).Nodup := by
  rw [en_fst]
  unfold List.Nodup
  rw [List.pairwise_map]
  exact (List.nodup_range' : (List.range' k ws.length).Nodup).imp fun a e => a (Int.ofNat.inj (V.int.inj e))
theorem ps_names {H : Hp} {ws : List V} {ns : List Str} (h : FNm H ws ns) : ∀ {os : List (V × V)}, PsL H ws os → os.map (·.1) = ns.map V.str := by
  induction h with
  | nil => intro os p; cases p; rfl
  | @cons x r fn ns t h k ih =>
    intro os p
    obtain ⟨a, rfl, ha⟩ := h
    cases p with
    | cons hp pr =>
      rw [ha] at hp
      have e := HO.tup.inj (Option.some.inj hp)
      injection e with e1 _
      rw [List.map_cons, List.map_cons, ih pr, ← e1]
theorem First.dst {H : Hp} {y : Str} {us : List V} {o : Option Addr} (h : First H y us o) (hd : RwsD H us) {f : Addr} {ws : List V} (e : o = some f) (hf : H f = some (.tup ws)) : ∃ ns, FNm H ws ns ∧ ns.Nodup := by
  obtain ⟨u, hu, p1, e1, g1⟩ := h.in_ e
  obtain ⟨n', f', ws', ns, ⟨p2, e2, g2⟩, hf', k, nd⟩ := hd u hu
  have ep : p1 = p2 := V.ref.inj (e1.symm.trans e2)
  subst ep
  rw [g1] at g2
  have ee := HO.tup.inj (Option.some.inj g2)
  injection ee with _ ee
  injection ee with ee _
  have ef := V.ref.inj ee
  subst ef
  rw [hf] at hf'
  have ew := HO.tup.inj (Option.some.inj hf')
  subst ew
  exact ⟨ns, k, nd⟩
theorem opts_nd {H : Hp} {us : List V} {p : Addr} {os : List (V × V)} (ho : Opts H us p os) (hd : RwsD H us) : (os.map (·.1)).Nodup := by
  obtain ⟨x, ts, _, _, oa⟩ := ho.ex
  rcases oa with ⟨_, u, _, rfl⟩ | ⟨_, u, _, rfl⟩ | ⟨_, q, ws, _, _, _, rfl⟩ | ⟨_, y, o, _, hf, h⟩ | ⟨_, rfl⟩
  · simp
  · simp
  · exact en_nd 0 ws
  · rcases h with ⟨_, rfl⟩ | ⟨f, ws, e, hw, ps⟩
    · simp
    · obtain ⟨ns, k, nd⟩ := hf.dst hd e hw
      rw [ps_names k ps]
      exact str_nodup nd
  · simp
theorem hit_of_mem {s t : V} : ∀ {os : List (V × V)}, (os.map (·.1)).Nodup → (s, t) ∈ os → hit s os = some t
  | [], _, h => by cases h
  | (a, b) :: r, nd, h => by
    have nd' := List.nodup_cons.mp (show (a :: r.map (·.1)).Nodup from nd)
    unfold hit
    rcases List.mem_cons.mp h with e | h
    · cases e; rw [if_pos rfl]
    · have ne : a ≠ s := fun e => nd'.1 (e ▸ List.mem_map.mpr ⟨_, h, rfl⟩)
      rw [if_neg ne]; exact hit_of_mem nd'.2 h
theorem atI_last {α : Type} {ks : List α} {c : α} : atI (ks ++ [c]) (-1) = some c := by
  have e : ixN (ks ++ [c]).length (-1) = some ks.length := by
    unfold ixN
    rw [if_neg (by decide), if_pos (by rw [List.length_append]; show -((ks.length + 1 : Nat) : Int) ≤ -1; omega)]
    rw [List.length_append]
    show some ((-1 + ((ks.length + 1 : Nat) : Int)).toNat) = _
    congr 1; omega
  unfold atI
  rw [e]
  show (ks ++ [c])[ks.length]? = some c
  rw [List.getElem?_append_right (Nat.le_refl _), Nat.sub_self]; rfl
/-! ### tables -/
def keysOf (tb : List (Str × V)) : List (Key × V) := tb.map fun q => (.inr q.1, q.2)
theorem keys_str (tb : List (Str × V)) : (keysOf tb).map (fun kv => kV kv.1) = (tb.map (·.1)).map V.str := by
  unfold keysOf
  rw [List.map_map, List.map_map]; rfl
theorem val_in {x : Str} : ∀ {tb : List (Str × V)}, (tb.map (·.1)).Nodup → ∀ {v : V}, (x, v) ∈ tb → valV (keysOf tb) (.inr x) = some v
  | [], _, v, h => by cases h
  | (y, w) :: r, nd, v, h => by
    have nd' := List.nodup_cons.mp (show (y :: r.map (·.1)).Nodup from nd)
    rcases List.mem_cons.mp h with e | h
    · cases e
      unfold valV keysOf
      rw [List.map_cons, List.find?_cons_of_pos (by simp)]; rfl
    · have ne : y ≠ x := fun e => nd'.1 (e ▸ List.mem_map.mpr ⟨_, h, rfl⟩)
      have ih := val_in (x := x) nd'.2 h
      unfold valV keysOf at ih ⊢
      rw [List.map_cons, List.find?_cons_of_neg (by simpa using ne)]; exact ih
theorem val_out {x : Str} {tb : List (Str × V)} (h : x ∉ tb.map (·.1)) : valV (keysOf tb) (.inr x) = none := by
  unfold valV
  rw [List.find?_eq_none.mpr]
  · rfl
  · intro q hq
    obtain ⟨r, hr, rfl⟩ := List.mem_map.mp hq
    intro e
    have e' : (Sum.inr r.1 : Key) = Sum.inr x := of_decide_eq_true e
    exact h (List.mem_map.mpr ⟨r, hr, Sum.inr.inj e'⟩)
theorem put_out {x : Str} {v : V} {tb : List (Str × V)} (h : x ∉ tb.map (·.1)) : putK (keysOf tb) (.inr x) v = keysOf (tb ++ [(x, v)]) := by
  unfold putK
  rw [if_neg]
  · unfold keysOf; rw [List.map_append]; rfl
  · intro e
    obtain ⟨q, hq, e2⟩ := List.any_eq_true.mp e
    obtain ⟨r, hr, rfl⟩ := List.mem_map.mp hq
    have e' : (Sum.inr r.1 : Key) = Sum.inr x := of_decide_eq_true e2
    exact h (List.mem_map.mpr ⟨r, hr, Sum.inr.inj e'⟩)
section
variable {P : Program} {w : World} {K : PySem.W.Frag} {mg : Str → Option Value} {base : Heap}
/-- a place, its records, its variables -/
structure Plc (H : Hp) (pl ra kd : Addr) (x : Str) (svs us : List V) (tb : List (Str × V)) : Prop where
  pl : ∃ sp, H pl = some (.tup [.str x, .ref sp]) ∧ H sp = some (.tup svs)
  sl : svs.length ≤ 50
  st : ∀ s ∈ svs, StepV s
  gx : Gd 22 x
  ra : H ra = some (.tup us)
  kd : H kd = some (.dK (keysOf tb))
/-- what comes of it: no such variable, no such step, or a kind -/
def Out (H : Hp) (x : Str) (svs us : List V) (tb : List (Str × V)) : Option (Option V) → Prop
  | none => x ∉ tb.map (·.1)
  | some o => ∃ v, valV (keysOf tb) (.inr x) = some v ∧ Fol H us v svs o
def spAlong (CS CV : Addr) : Sp := fun vs H Q E => ∃ (pl ra kd : Addr) (x : Str) (svs us : List V) (tb : List (Str × V)) (o : Option (Option V)), vs = [.ref pl, .ref ra, .ref kd] ∧ Plc H pl ra kd x svs us tb ∧ Out H x svs us tb o ∧
  (o = none → ∀ H', Same H H' → E (.ref CV) none H') ∧ (o = some none → ∀ H', Same H H' → E (.ref CS) none H') ∧ (∀ t, o = some (some t) → ∀ l ks H', Same H H' → H' l = some (.lst (ks ++ [t])) → Q (.ref l) H')
theorem ok_along (T : Txt8 K mg) : FnOk P w K mg base (L2.CX P w) 5 T.kinds_along.f T.kinds_along.fd ["place", "records", "kinds"] (spAlong T.c_NoSuchStep.C T.c_NoSuchVariable.C) := by
  refine T.kinds_along.F.okX sc_kinds_along (fun vs H Q E h => ?_) (fun cdv A outer s H vs Q E hr h => ?_)
  · obtain ⟨pl, ra, kd, x, svs, us, tb, o, rfl, _⟩ := h
    rfl
  obtain ⟨pl, ra, kd, x, svs, us, tb, o, rfl, hp, ho, q1, q2, q3⟩ := h
  refine ⟨_, (pss_cons (ps_asg (pv 0) (pg_tup rfl (pgs_cons (pg_name (i := 3) sc_kinds_along.nd rfl (Or.inl rfl)) (pgs_cons (pg_name (i := 4) sc_kinds_along.nd rfl (Or.inl rfl)) pgs_nil))))
    (pss_cons (ps_if (pt_cmp (pc_dnotin (hu_of hr) (pv 3) (pv 2))) (pss_one (ps_raise rfl (takes_of rfl rfl rfl rfl) (SkE.pmk_own1 PySem.F.excBase_ValueError T.c_NoSuchVariable.x T.c_NoSuchVariable.g T.c_NoSuchVariable.k (raises_own T.c_NoSuchVariable.b T.c_NoSuchVariable.t) rfl (pe_joined (.cons (pe_str) (.cons (pe_fmtR (pv 3)) .nil)))))) pss_nil)
    (pss_cons (ps_set (i := 5) sc_kinds_along.nd rfl (Or.inl rfl) (pe_lst (pa_cons (pe_dget (hu_of hr) (pv 2) (pv 3) (fun _ _ => rfl)) pa_nil)))
    (pss_cons (ps_for (passes_of rfl) rfl (pi_tup (pv 4)) (pg_name (i := 6) sc_kinds_along.nd rfl (Or.inl rfl)) (pss_one (ps_expr (pe_bm PySem.F.plainAttrs_list PySem.F.slot_list_append PySem.F.type_list_append mt_append (pv 5) (pa_cons (pe_call (ok_after T.toTxt7) (hr.mono (by omega)) rfl T.kind_after.g T.kind_after.F.kp T.kind_after.b .nil (passes_call (takes_of rfl rfl rfl rfl) fun _ _ _ _ h => h) (pa_cons (pv 1) (pa_cons (pe_ix ix_list (pv 5) (pe_un un_neg pe_int) (fun _ _ => rfl)) (pa_cons (pv 6) pa_nil)))) pa_nil)))))
    (pss_one (ps_ret (pv 5))))))), ?_⟩
  obtain ⟨sp, hpl, hsp⟩ := hp.pl
  refine ⟨_, rfl, pl, _, rfl, .inl (.inl hpl), rfl, _, _, rfl, _, _, rfl, rfl, ?_⟩
  refine ⟨_, rfl, _, rfl, kd, _, rfl, DGet.k (k := Sum.inr x) hp.kd, _, rfl, ite2 (fun c => ?_) (fun c => ?_)⟩
  · cases o with
    | some o =>
      obtain ⟨v, hv, _⟩ := ho
      rw [hv] at c; cases c
    | none =>
      have fin := q1 rfl H (.refl H)
      have gr : (reprText x).length ≤ 1000 := Nat.le_trans (StrLaws.reprText_len x hp.gx.2) (by have := hp.gx.1; omega)
      have l1 : ("there is no variable " : Str).length = 21 := by decide +kernel
      have l0 : (Str.empty : Str).length = 0 := rfl
      refine ⟨_, rfl, ?_, _, rfl, .inl ⟨x, rfl, line_of (by omega), _, rfl, ?_, ?_⟩⟩
      all_goals first | exact fin | (simp only [str_len]; exact line_of (by omega))
  · cases o with
    | none =>
      rw [val_out ho] at c; exact absurd rfl c
    | some o =>
      obtain ⟨v, hv, hf⟩ := ho
      refine ⟨_, rfl, _, rfl, kd, v, rfl, by have := DGet.k (k := Sum.inr x) hp.kd; rw [hv] at this; exact this, by show 1 ≤ sizeLine; decide, fun l hl => ?_⟩
      refine ⟨_, rfl, sp, rfl, ⟨_, .inl (.inl ((same_new hl _) _ _ hsp))⟩, for_tup (K := K) (a := sp) (xs := svs)
        (fun i σ' H' => ∃ ks cur st, σ' = [some (.ref pl), some (.ref ra), some (.ref kd), some (.str x), some (.ref sp), some (.ref l), st] ∧ H' l = some (.lst (ks ++ [cur])) ∧ ks.length = i ∧ Fol H us cur (svs.drop i) o ∧ Same H H') ⟨[], v, _, rfl, upd_same, rfl, hf, same_new hl _⟩ (fun i σ' H' _ ⟨_, _, _, _, _, _, _, g⟩ => .inl (.inl (g _ _ hsp))) ?_ ?_⟩
      · rintro i s' σ' H' hi ⟨ks, cur, st, rfl, hl', hlen, hf', g⟩
        have hi' : i < svs.length := (List.getElem?_eq_some_iff.mp hi).1
        have ed : svs.drop i = s' :: svs.drop (i + 1) := by
          rw [List.drop_eq_getElem_cons hi', (List.getElem?_eq_some_iff.mp hi).2]
        rw [ed] at hf'
        have hs' := hp.st s' (mem_of_get hi)
        have hsl := hp.sl
        cases hf' with
        | stop hop hn =>
          refine ⟨_, rfl, .inl ⟨rfl, _, SqL.of hl'⟩, ?_⟩
          refine ⟨_, rfl, _, rfl, _, rfl, l, _, _, _, rfl, rfl, SqL.of hl', atI_last, _, rfl, ra, us, _, _, s', rfl, g _ _ hp.ra, hop.tm (.same g), hs', (fun t e => by rw [hn] at e; cases e), fun _ H2 g2 => q2 rfl H2 (g.trans g2)⟩
        | go hop ht k =>
          refine ⟨_, rfl, .inl ⟨rfl, _, SqL.of hl'⟩, ?_⟩
          refine ⟨_, rfl, _, rfl, _, rfl, l, _, _, _, rfl, rfl, SqL.of hl', atI_last, _, rfl, ra, us, _, _, s', rfl, g _ _ hp.ra, hop.tm (.same g), hs', (fun t e H2 g2 => ?_), fun e => by rw [ht] at e; cases e⟩
          have et := Option.some.inj (ht.symm.trans e)
          subst et
          refine ⟨l, _, _, rfl, rfl, g2 _ _ hl', line_of (by rw [List.length_append]; show ks.length + 1 < _; omega), ?_⟩
          refine ⟨_, _, _, rfl, upd_same, by rw [List.length_append, hlen]; rfl, k, fun b o' e => ?_⟩
          rw [upd_ne (ne_of_none e hl)]
          exact g2 _ _ (g _ _ e)
      · rintro σ' H' ⟨ks, cur, st, rfl, hl', hlen, hf', g⟩
        rw [List.drop_eq_nil_of_le (Nat.le_refl _)] at hf'
        cases hf'
        exact ⟨_, rfl, q3 cur rfl l ks H' g hl'⟩
def spAt (CS CV : Addr) : Sp := fun vs H Q E => ∃ (pl ra kd : Addr) (x : Str) (svs us : List V) (tb : List (Str × V)) (o : Option (Option V)), vs = [.ref pl, .ref ra, .ref kd] ∧ Plc H pl ra kd x svs us tb ∧ Out H x svs us tb o ∧
  (o = none → ∀ H', Same H H' → E (.ref CV) none H') ∧ (o = some none → ∀ H', Same H H' → E (.ref CS) none H') ∧ (∀ t, o = some (some t) → ∀ H', Same H H' → Q t H')
theorem ok_at (T : Txt8 K mg) : FnOk P w K mg base (L2.CX P w) 6 T.kind_at.f T.kind_at.fd ["place", "records", "kinds"] (spAt T.c_NoSuchStep.C T.c_NoSuchVariable.C) := by
  refine T.kind_at.F.okX sc_kind_at (fun vs H Q E h => ?_) (fun cdv A outer s H vs Q E hr h => ?_)
  · obtain ⟨pl, ra, kd, x, svs, us, tb, o, rfl, _⟩ := h
    rfl
  obtain ⟨pl, ra, kd, x, svs, us, tb, o, rfl, hp, ho, q1, q2, q3⟩ := h
  refine ⟨_, (pss_one (ps_ret (pe_ix ix_list (pe_call (ok_along T) (hr.mono (by omega)) rfl T.kinds_along.g T.kinds_along.F.kp T.kinds_along.b .nil (passes_call (takes_of rfl rfl rfl rfl) fun _ _ _ _ h => h) (pa_cons (pv 0) (pa_cons (pv 1) (pa_cons (pv 2) pa_nil)))) (pe_un un_neg pe_int) (fun _ _ => rfl)))), ?_⟩
  exact ⟨_, rfl, _, rfl, _, rfl, pl, ra, kd, x, svs, us, tb, o, rfl, hp, ho, q1, q2, fun t e l ks H' g hl => ⟨_, rfl, l, _, _, t, rfl, rfl, SqL.of hl, atI_last, q3 t e H' g⟩⟩
end
end Kk
namespace Kk
open PySem L2
section
variable {P : Program} {w : World} {K : PySem.W.Frag} {mg : Str → Option Value} {base : Heap}
def spTable (K : PySem.W.Frag) : Sp := fun vs H Q _ => ∃ (a z : Addr) (ns : List Int) (ra : Addr) (us : List V) (rank : Str → Nat), vs = [.ref a, .ref z, .ref ra] ∧ St4 H a ∧ Awy K a z (ns.map V.int) ∧ SqL K H z (ns.map V.int) ∧
  H ra = some (.tup us) ∧ 1 ≤ us.length ∧ us.length ≤ 20 ∧ Rws rank H us ∧ (∀ x, rank x < 10) ∧
  ∀ d H' tb, H' d = some (.dK (keysOf tb)) → d ≠ a → 1 ≤ tb.length → tb.length ≤ 10 → (tb.map (·.1)).Nodup → (∀ q ∈ tb, Gd 22 q.1 ∧ KV H' (fun _ => True) 6 q.2) → St4 H' a → But a H H' → Q (.ref d) H'
theorem TM.dct {H : Hp} {p : Addr} {o : HO} {kvs : List (Key × V)} (h : H p = some (.dK kvs)) : TM H (upd H p o) := .put fun xs e => by rw [h] at e; cases e
theorem ok_table (T : Txt8 K mg) : FnOk P w K mg base CX0 95 T._law_table.f T._law_table.fd ["state", "script", "rows"] (spTable K) := by
  refine T._law_table.F.ok sc__law_table (fun vs H Q E h => ?_) (fun cdv A outer s H vs Q E hr h => ?_)
  · obtain ⟨a, z, ns, ra, us, rank, rfl, _⟩ := h
    rfl
  obtain ⟨a, z, ns, ra, us, rank, rfl, hst, hza, hz, hra, u1, u20, hrw, hrk, q⟩ := h
  refine ⟨_, (pss_cons (ps_set (i := 3) sc__law_table.nd rfl (Or.inl rfl) pe_dnewK)
    (pss_cons (ps_for PassesOwn.never rfl (pi_range1 (by rfl) T.z_range (pa_cons (pe_op op_add pe_int (pe_call (ok_pick T.toTxt1) (hr.mono (by omega)) rfl T._law_pick.g T._law_pick.F.kp T._law_pick.b .nil pass0 (pa_cons (pv 0) (pa_cons (pv 1) (pa_cons pe_int pa_nil))))) pa_nil)) (pg_name (i := 4) sc__law_table.nd rfl (Or.inl rfl)) (pss_cons (ps_set (i := 5) sc__law_table.nd rfl (Or.inl rfl) (pe_call (ok_new T.toTxt2) (hr.mono (by omega)) rfl T._law_new.g T._law_new.F.kp T._law_new.b .nil pass0 (pa_cons (pe_callTy (call_list_dK rfl) rfl T.z_list PyProof.Rows.boot_list (pa_cons (pv 3) pa_nil)) (pa_cons (pe_call (ok_name T.toTxt2) (hr.mono (by omega)) rfl T._law_name.g T._law_name.F.kp T._law_name.b .nil pass0 (pa_cons (pv 0) (pa_cons (pv 1) pa_nil))) pa_nil))))
      (pss_one (ps_dput (hu_of hr) (pv 3) (pv 5) (pe_call (ok_smallKind T.toTxt6) (hr.mono (by omega)) rfl T._law_small_kind.g T._law_small_kind.F.kp T._law_small_kind.b .nil pass0 (pa_cons (pv 0) (pa_cons (pv 1) (pa_cons (pv 2) pa_nil)))) rfl))))
    (pss_one (ps_ret (pv 3))))), ?_⟩
  intro d hd
  have da : d ≠ a := hst.ne hd
  have st1 : St4 (upd H d (.dK [])) a := hst.put da
  have b1 : But a H (upd H d (.dK [])) := .new hd _
  refine ⟨_, rfl, _, rfl, a, z, ns, 4, rfl, st1, hza, b1.scr hza hz, by decide, by decide, fun n H2 n0 n1 st2 b2 => ⟨_, _, rfl, rfl, 1 + n, rfl, by omega, by omega, for_range (lo := 0) (n := (1 + n).toNat)
    (fun i σ' H' => ∃ kk nm tb, σ' = [some (.ref a), some (.ref z), some (.ref ra), some (.ref d), kk, nm] ∧ H' d = some (.dK (keysOf tb)) ∧ tb.length = i ∧ (tb.map (·.1)).Nodup ∧ (∀ q ∈ tb, Gd 22 q.1 ∧ KV H' (fun _ => True) 6 q.2) ∧ Frm a H H') ?_ ?_ ?_⟩⟩
  · exact ⟨_, _, [], rfl, b2 _ _ da upd_same, rfl, List.nodup_nil, fun q hq => absurd hq (by simp), ⟨st2, b1.trans b2⟩⟩
  · rintro i σ' H3 hi ⟨kk, nm, tb, rfl, hd3, hlen, hnd, hok, f3⟩
    refine ⟨_, rfl, d, _, rfl, hd3, fun l hl => ?_⟩
    have f4 := f3.new (o := .lst ((keysOf tb).map fun kv => kV kv.1)) hl
    have la := f3.st.ne hl
    refine ⟨_, rfl, _, rfl, a, z, ns, rfl, f4.st, hza, f4.bt.scr hza hz, fun x H5 gx st5 b5 => ?_⟩
    have f5 : Frm a H H5 := ⟨st5, f4.bt.trans b5⟩
    have hl5 := b5 _ _ la upd_same
    rw [keys_str] at hl5
    refine ⟨l, x, tb.map (·.1), rfl, hl5, by rw [List.length_map]; omega, gx, fun y hy gy => ?_⟩
    have t5 := (TM.new (o := .lst ((keysOf tb).map fun kv => kV kv.1)) hl).trans (TM.but b5 f4.st)
    have hd5 := b5 _ _ da ((same_new hl _) _ _ hd3)
    have tH := TM.but f5.bt hst
    refine ⟨_, rfl, _, rfl, _, rfl, a, z, ns, ra, us, rank, rfl, st5, hza, f5.bt.scr hza hz, tH _ _ hra, u1, u20, hrw.tm tH, hrk, fun v H6 kv st6 b6 => ?_⟩
    have hd6 := b6 _ _ da hd5
    refine ⟨_, rfl, _, rfl, d, _, rfl, DPut.k (k := Sum.inr y) hd6 (by unfold keysOf; rw [List.length_map]; exact Nat.lt_of_lt_of_le (show tb.length < 1000 by omega) (by decide)), ?_⟩
    have t6 := t5.trans (TM.but b6 st5)
    have tD := TM.dct (o := .dK (putK (keysOf tb) (.inr y) v)) hd6
    refine ⟨_, _, tb ++ [(y, v)], rfl, by rw [upd_same, put_out hy], by rw [List.length_append, hlen]; rfl, ?_, fun q' hq => ?_, ⟨st6.put da, (f5.bt.trans b6).put hd⟩⟩
    · rw [List.map_append, List.nodup_append]
      exact ⟨hnd, by simp, fun u hu w' hw => by
        have e : w' = y := by simpa using hw
        rw [e]; intro e2; exact hy (e2 ▸ hu)⟩
    · rcases List.mem_append.mp hq with m | m
      · exact ⟨(hok q' m).1, ((hok q' m).2.tm t6).tm tD⟩
      · have e : q' = (y, v) := by simpa using m
        rw [e]; exact ⟨gy, kv.tm tD⟩
  · rintro σ' H3 ⟨kk, nm, tb, rfl, hd3, hlen, hnd, hok, f3⟩
    exact ⟨_, rfl, q d H3 tb hd3 da (by omega) (by omega) hnd hok f3.st f3.bt⟩
def spWalk (K : PySem.W.Frag) : Sp := fun vs H Q _ => ∃ (a z : Addr) (ns : List Int) (ra : Addr) (us : List V) (rank : Str → Nat) (x : Str) (v0 : V), vs = [.ref a, .ref z, .ref ra, .str x, v0] ∧ St4 H a ∧ Awy K a z (ns.map V.int) ∧ SqL K H z (ns.map V.int) ∧
  H ra = some (.tup us) ∧ Rws rank H us ∧ RwsD H us ∧ KV H (fun _ => True) 6 v0 ∧
  ∀ r pl sp svs v H', H' r = some (.tup [.ref pl, v]) → H' pl = some (.tup [.str x, .ref sp]) → H' sp = some (.tup svs) → svs.length ≤ 12 → (∀ s ∈ svs, StepV s) → Fol H' us v0 svs (some v) → KV H' (fun _ => True) 6 v → St4 H' a → But a H H' → Q (.ref r) H'
theorem ok_walk (T : Txt8 K mg) : FnOk P w K mg base CX0 2 T._law_walk.f T._law_walk.fd ["state", "script", "rows", "name", "kind"] (spWalk K) := by
  refine T._law_walk.F.ok sc__law_walk (fun vs H Q E h => ?_) (fun cdv A outer s H vs Q E hr h => ?_)
  · obtain ⟨a, z, ns, ra, us, rank, x, v0, rfl, _⟩ := h
    rfl
  obtain ⟨a, z, ns, ra, us, rank, x, v0, rfl, hst, hza, hz, hra, hrw, hrd, kv0, q⟩ := h
  refine ⟨_, (pss_cons (ps_set (i := 5) sc__law_walk.nd rfl (Or.inl rfl) (pe_lst pa_nil))
    (C8.pss_cut (ps_for PassesOwn.never rfl (pi_range1 (by rfl) T.z_range (pa_cons (pe_call (ok_pick T.toTxt1) (hr.mono (by omega)) rfl T._law_pick.g T._law_pick.F.kp T._law_pick.b .nil pass0 (pa_cons (pv 0) (pa_cons (pv 1) (pa_cons pe_int pa_nil)))) pa_nil)) (pg_name (i := 6) sc__law_walk.nd rfl (Or.inl rfl)) (pss_cons (ps_set (i := 7) sc__law_walk.nd rfl (Or.inl rfl) (pe_call (ok_options T.toTxt6) (hr.mono (by omega)) rfl T._law_options.g T._law_options.F.kp T._law_options.b .nil pass0 (pa_cons (pv 2) (pa_cons (pv 4) pa_nil))))
      (pss_cons (ps_if (pt_cmpR op_eq (pe_callB call_len_seq rfl T.z_len PySem.boot_len (pa_cons (pv 7) pa_nil)) pe_int (nomark _)) (pss_one ps_break) pss_nil)
      (pss_cons (ps_set (i := 8) sc__law_walk.nd rfl (Or.inl rfl) (pe_ix ix_list (pv 7) (pe_call (ok_pick T.toTxt1) (hr.mono (by omega)) rfl T._law_pick.g T._law_pick.F.kp T._law_pick.b .nil pass0 (pa_cons (pv 0) (pa_cons (pv 1) (pa_cons (pe_callB call_len_seq rfl T.z_len PySem.boot_len (pa_cons (pv 7) pa_nil)) pa_nil)))) (fun _ _ => rfl)))
      (pss_cons (ps_expr (pe_bm PySem.F.plainAttrs_list PySem.F.slot_list_append PySem.F.type_list_append mt_append (pv 5) (pa_cons (pe_ix ix_tup (pv 8) pe_int (fun _ _ => rfl)) pa_nil)))
      (pss_one (ps_set (i := 4) sc__law_walk.nd rfl (Or.inl rfl) (pe_ix ix_tup (pv 8) pe_int (fun _ _ => rfl)))))))))
    (pss_one (ps_ret (pe_tup (pa_cons (pe_tup (pa_cons (pv 3) (pa_cons (pe_callTy call_tuple_of rfl T.z_tuple PyProof.Rows.boot_tuple (pa_cons (pv 5) pa_nil)) pa_nil))) (pa_cons (pv 4) pa_nil))))))), ?_⟩
  have f0 : Frm a H H := ⟨hst, .refl a H⟩
  refine ⟨by show 0 ≤ sizeLine; decide, fun l hl => ?_⟩
  have f1 := f0.new (o := .lst []) hl
  have la := hst.ne hl
  refine ⟨fun σ' H' => ∃ svs v k1 k2 k3, σ' = [some (.ref a), some (.ref z), some (.ref ra), some (.str x), some v, some (.ref l), k1, k2, k3] ∧ H' l = some (.lst svs) ∧ svs.length ≤ 12 ∧ (∀ s ∈ svs, StepV s) ∧ Fol H' us v0 svs (some v) ∧ KV H' (fun _ => True) 6 v ∧ Frm a H H', ?_, ?_⟩
  · refine ⟨_, rfl, _, rfl, a, z, ns, 13, rfl, f1.st, hza, f1.bt.scr hza hz, by decide, by decide, fun n H2 n0 n1 st2 b2 => ⟨n, rfl, by omega, by omega, for_range (lo := 0) (n := n.toNat)
      (fun i σ' H' => ∃ svs v k1 k2 k3, σ' = [some (.ref a), some (.ref z), some (.ref ra), some (.str x), some v, some (.ref l), k1, k2, k3] ∧ H' l = some (.lst svs) ∧ svs.length = i ∧ (∀ s ∈ svs, StepV s) ∧ Fol H' us v0 svs (some v) ∧ KV H' (fun _ => True) 6 v ∧ Frm a H H') ?_ ?_ ?_⟩⟩
    · have t2 := (TM.new (o := .lst []) hl).trans (TM.but b2 f1.st)
      exact ⟨[], v0, _, _, _, rfl, b2 _ _ la upd_same, rfl, fun s hs => absurd hs (by simp), .nil, kv0.tm t2, ⟨st2, f1.bt.trans b2⟩⟩
    · rintro i σ' H3 hi ⟨svs, v, k1, k2, k3, rfl, hl3, hlen, hsv, hf, kv, f3⟩
      have tH := TM.but f3.bt hst
      obtain ⟨p, os, rfl, ho⟩ := opts_ex kv (Nat.le_refl _) (hrw.tm tH)
      have nd := opts_nd ho (hrd.tm tH)
      refine ⟨_, rfl, _, rfl, ra, us, p, os, rfl, tH _ _ hra, ho, fun ol H4 ls g4 hol ps => ?_⟩
      have st4 := f3.st.same g4
      have b4 : But a H H4 := f3.bt.trans (.of g4)
      have hl4 := g4 _ _ hl3
      have hol4 := ho.len
      have ola : ol ≠ a := fun e => by
        obtain ⟨i, pp, r, cc, h, _⟩ := st4
        rw [e, h] at hol
        have e2 := HO.lst.inj (Option.some.inj hol)
        rw [← e2] at ps
        cases ps
      refine ⟨_, rfl, ol, _, rfl, .inl (SqL.of hol), rfl, _, rfl, ite2 (fun c => ?_) (fun c => ?_)⟩
      · exact ⟨svs, _, _, _, _, rfl, hl4, by omega, hsv, hf.tm (.same g4), kv.tm (.same g4), ⟨st4, b4⟩⟩
      have c' : ¬ V.int ((ls.length : Nat) : Int) = V.int 0 := of_decide_eq_false (Bool.eq_false_iff.mpr c)
      have lp : 0 < ls.length := Nat.pos_of_ne_zero fun e => c' (by rw [e]; rfl)
      have lle : ls.length ≤ 100 := by rw [ps.len]; exact hol4
      refine ⟨_, rfl, _, rfl, _, rfl, _, rfl, ol, _, rfl, .inl (SqL.of hol), a, z, ns, _, rfl, st4, hza, b4.scr hza hz, by omega, by omega, fun m H5 m0 m1 st5 b5 => ?_⟩
      obtain ⟨u, hu, hu'⟩ := atI_ex (l := ls) m0 m1
      obtain ⟨pp, s', t', rfl, hpp, hoi⟩ := ps.get hu
      have t5 := TM.but b5 st4
      have sq : SqT K H5 pp [s', t'] := .inl (.inl (t5 _ _ hpp))
      refine ⟨ol, _, _, _, rfl, rfl, SqL.of (b5 _ _ ola hol), hu', ?_⟩
      have hl5 := b5 _ _ la hl4
      refine ⟨_, rfl, .inl ⟨rfl, _, SqL.of hl5⟩, ?_⟩
      refine ⟨_, rfl, pp, _, 0, _, rfl, rfl, sq, atI_0, l, _, _, rfl, rfl, hl5, line_of (by omega), ?_⟩
      have tL := TM.lst (o := .lst (svs ++ [s'])) hl5
      refine ⟨_, rfl, pp, _, 1, _, rfl, rfl, .inl (.inl (tL _ _ (t5 _ _ hpp))), atI_1, ?_⟩
      have tA := ((TM.same g4).trans t5).trans tL
      have hm := ho.ok _ (mem_of_get hoi)
      refine ⟨svs ++ [s'], t', _, _, _, rfl, upd_same, by rw [List.length_append, hlen]; rfl, fun s hs => ?_, (hf.tm tA).snoc rfl (ho.tm tA) (hit_of_mem nd (mem_of_get hoi)), hm.2.2.tm tA, ⟨st5.put la, (b4.trans b5).put hl⟩⟩
      rcases List.mem_append.mp hs with m | m
      · exact hsv s m
      · have e : s = s' := by simpa using m
        rw [e]; exact hm.1
    · rintro σ' H3 ⟨svs, v, k1, k2, k3, rfl, hl3, hlen, hsv, hf, kv, f3⟩
      exact ⟨svs, v, _, _, _, rfl, hl3, by omega, hsv, hf, kv, f3⟩
  · rintro σ' H3 ⟨svs, v, k1, k2, k3, rfl, hl3, hlen, hsv, hf, kv, f3⟩
    refine ⟨_, rfl, _, rfl, l, svs, rfl, .inl ⟨SqL.of hl3, fun sp hsp => ⟨by show 2 ≤ sizeLine; decide, fun pl hpl => ⟨_, rfl, by show 2 ≤ sizeLine; decide, fun r hr2 => ?_⟩⟩⟩⟩
    have f4 := ((f3.new (o := .tup svs) hsp).new (o := .tup [.str x, .ref sp]) hpl).new (o := .tup [.ref pl, v]) hr2
    have t3 := TM.new (o := .tup [.ref pl, v]) hr2
    have t2 := (TM.new (o := .tup [.str x, .ref sp]) hpl).trans t3
    have t1 := (TM.new (o := .tup svs) hsp).trans t2
    exact q r pl sp svs v _ upd_same (t3 _ _ upd_same) (t2 _ _ upd_same) hlen hsv (hf.tm t1) (kv.tm t1) f4.st f4.bt
def spFollowed : Sp := fun vs H Q _ => ∃ (ra sp : Addr) (us svs : List V) (v0 : V) (o : Option V), vs = [.ref ra, v0, .ref sp] ∧ H ra = some (.tup us) ∧ H sp = some (.tup svs) ∧ (∀ s ∈ svs, StepV s) ∧ Fol H us v0 svs o ∧
  (∀ t, o = some t → ∀ H', Same H H' → Q t H') ∧ (o = none → ∀ l H', Same H H' → H l = none → H' l = some (.lst [.str "step", .bl true]) → Q (.ref l) H')
theorem ok_followed (T : Txt8 K mg) : FnOk P w K mg base CX0 2 T._law_followed.f T._law_followed.fd ["rows", "kind", "steps"] spFollowed := by
  refine T._law_followed.F.ok sc__law_followed (fun vs H Q E h => ?_) (fun cdv A outer s H vs Q E hr h => ?_)
  · obtain ⟨ra, sp, us, svs, v0, o, rfl, _⟩ := h
    rfl
  obtain ⟨ra, sp, us, svs, v0, o, rfl, hra, hsp, hst, hf, q1, q2⟩ := h
  refine ⟨_, (pss_cons (ps_for PassesOwn.never rfl (pi_tup (pv 2)) (pg_name (i := 3) sc__law_followed.nd rfl (Or.inr rfl)) (pss_cons (ps_setLc (i := 4) (own := [("option", 5)]) (g := gName 5) rfl sc__law_followed.nd rfl rfl (sw_true rfl rfl rfl (by decide +kernel)) (pi_list (pe_call (ok_options T.toTxt6) (hr.mono (by omega)) rfl T._law_options.g T._law_options.F.kp T._law_options.b .nil pass0 (pa_cons (pv 0) (pa_cons (pv 1) pa_nil)))) (blkOk_by (N := ["rows", "kind", "steps", "step", "found", "option"]) (sc := defScope s__law_followed) (by decide +kernel)) (fun _ _ _ _ _ => pg_name (i := 5) sc__law_followed.nd rfl (Or.inl rfl)) (fun _ _ _ _ _ => pts_one (pt_cmpR op_eq (pe_ix (show IxR _ (rIxT K) from ix_tup) (pv 5) pe_int (fun _ _ => rfl)) (pv 3) (nomark _))) (fun _ _ _ _ _ => (pe_ix (show IxR _ (rIxT K) from ix_tup) (pv 5) pe_int (fun _ _ => rfl))))
      (pss_cons (ps_if (pt_cmpR op_eq (pe_callB call_len_seq rfl T.z_len PySem.boot_len (pa_cons (pv 4) pa_nil)) pe_int (nomark _)) (pss_one (ps_ret (pe_lst (pa_cons pe_str (pa_cons pe_bl pa_nil))))) pss_nil)
      (pss_one (ps_set (i := 1) sc__law_followed.nd rfl (Or.inl rfl) (pe_ix ix_list (pv 4) pe_int (fun _ _ => rfl)))))))
    (pss_one (ps_ret (pv 1)))), ?_⟩
  refine ⟨_, rfl, sp, rfl, ⟨_, .inl (.inl hsp)⟩, for_tup (K := K) (a := sp) (xs := svs)
    (fun i σ' H' => ∃ cur st fd', σ' = [some (.ref ra), some cur, some (.ref sp), st, fd', none] ∧ Fol H us cur (svs.drop i) o ∧ Same H H') ⟨v0, _, _, rfl, hf, .refl H⟩ (fun i σ' H' _ ⟨_, _, _, _, _, g⟩ => .inl (.inl (g _ _ hsp))) ?_ ?_⟩
  · rintro i sv σ' H' hi ⟨cur, st, fd', rfl, hfi, g⟩
    have hi' : i < svs.length := (List.getElem?_eq_some_iff.mp hi).1
    have ed : svs.drop i = sv :: svs.drop (i + 1) := by
      rw [List.drop_eq_getElem_cons hi', (List.getElem?_eq_some_iff.mp hi).2]
    rw [ed] at hfi
    have hsv := hst sv (mem_of_get hi)
    obtain ⟨p, os, rfl, ho, hcase⟩ : ∃ p os, cur = .ref p ∧ Opts H us p os ∧ ((hit sv os = none ∧ o = none) ∨ ∃ t, hit sv os = some t ∧ Fol H us t (svs.drop (i + 1)) o) := by
      cases hfi with
      | stop ho hn => exact ⟨_, _, rfl, ho, .inl ⟨hn, rfl⟩⟩
      | go ho ht k => exact ⟨_, _, rfl, ho, .inr ⟨_, ht, k⟩⟩
    have ho' := ho.tm (.same g)
    refine ⟨_, rfl, _, rfl, ra, us, p, os, rfl, g _ _ hra, ho', fun l H3 ls g3 hl ps => ⟨l, rfl, ⟨_, SqL.of hl⟩, fun D hD => lc_list (K := K) (a := l) (xs := ls) (fun i H' => H' D = some (.lst (hits sv (os.take i))) ∧ Same H3 H') ⟨upd_same, same_new hD _⟩ (fun i H' _ e => SqL.of (e.2 _ _ hl)) ?_ ?_⟩⟩
    · rintro j u H4 hj ⟨hD', g4⟩
      obtain ⟨pp, s', t', rfl, hpp, hoi⟩ := ps.get hj
      have hs' := (ho.ok _ (mem_of_get hoi)).1
      have sc : scal s' sv = true := by
        rcases hs' with ⟨i, rfl, _⟩ | ⟨x, rfl, _⟩ <;> rcases hsv with ⟨j, rfl, _⟩ | ⟨z, rfl, _⟩ <;> rfl
      have etk := take_more hoi
      refine ⟨rfl, _, rfl, pp, _, 0, _, rfl, rfl, .inl (.inl (g4 _ _ hpp)), atI_0, _, rfl, sc, _, rfl, ite2 (fun d => ?_) (fun d => ?_)⟩
      · have ee : s' = sv := of_decide_eq_true d
        refine ⟨_, rfl, pp, _, 1, _, rfl, rfl, .inl (.inl (g4 _ _ hpp)), atI_1, _, hD', ?_, ?_, ?_⟩
        · have := hits_len sv (os.take j)
          have h2 := ho.len
          rw [List.length_take] at this
          exact Nat.lt_of_lt_of_le (show _ < 1000 by omega) (by decide)
        · rw [upd_same, etk, hits_snoc, if_pos ee]
        · exact fun b o e => by rw [upd_ne (ne_of_none e hD)]; exact g4 _ _ e
      · have ee : ¬ s' = sv := of_decide_eq_false (Bool.eq_false_iff.mpr d)
        refine ⟨?_, g4⟩
        rw [etk, hits_snoc, if_neg ee, List.append_nil]; exact hD'
    · rintro H4 ⟨hD4, g4⟩
      rw [ps.len, List.take_of_length_le (Nat.le_refl _)] at hD4
      have hh := hits_head sv os
      have gA := (g.trans g3).trans g4
      refine ⟨_, rfl, D, _, rfl, .inl (SqL.of hD4), rfl, _, rfl, ite2 (fun c => ?_) (fun c => ?_)⟩
      · have c' : (((hits sv os).length : Nat) : Int) = 0 := V.int.inj (of_decide_eq_true c)
        have hn : hit sv os = none := by
          rw [← hh]; exact List.getElem?_eq_none_iff.mpr (by omega)
        rcases hcase with ⟨_, e⟩ | ⟨t, e, _⟩
        · exact ⟨by show 2 ≤ sizeLine; decide, fun b hb => q2 e b _ (gA.trans (same_new hb _)) (gA.free hb) upd_same⟩
        · rw [hn] at e; cases e
      · have c' : ¬ V.int (((hits sv os).length : Nat) : Int) = V.int 0 := of_decide_eq_false (Bool.eq_false_iff.mpr c)
        have hl1 : 0 < (hits sv os).length := Nat.pos_of_ne_zero fun e => c' (by rw [e]; rfl)
        rcases hcase with ⟨e, _⟩ | ⟨t, e, k⟩
        · rw [← hh] at e
          have := List.getElem?_eq_none_iff.mp e
          omega
        · exact ⟨_, rfl, D, _, 0, t, rfl, rfl, SqL.of hD4, at_of (j := 0) rfl (hh.trans e), t, _, _, rfl, k, gA⟩
  · rintro σ' H' ⟨cur, st, fd', rfl, hfi, g⟩
    rw [List.drop_eq_nil_of_le (Nat.le_refl _)] at hfi
    cases hfi
    exact ⟨_, rfl, q1 cur rfl H' g⟩
end
end Kk
namespace Kk
open PySem L2
abbrev s__law_told : Stmt := topS 35
theorem sc__law_told : FnScope ["place", "rows", "table", "e", "others"] ["place", "rows", "table"] (defScope s__law_told) := ⟨rfl, rfl, rfl, by decide +kernel, rfl, by decide +kernel, by decide +kernel⟩
abbrev s_law : Stmt := topS 37
theorem sc_law : FnScope ["script", "state", "rows", "table", "copy", "names", "name", "place", "kind", "due", "choice", "step", "at", "behind", "k", "actual"] ["script"] (defScope s_law) := ⟨rfl, rfl, rfl, by decide +kernel, rfl, by decide +kernel, by decide +kernel⟩
structure Txt9 (K : PySem.W.Frag) (mg : Str → Option Value) extends Txt8 K mg where
  _law_told : Df K mg "_law_told" s__law_told ["place", "rows", "table"]
  law : Df K mg "law" s_law ["script"]
  z_ValueError : mg "ValueError" = none
  c_ForkError : Cl K mg "ForkError"
  c_KindProblem : Cl K mg "KindProblem"
  c_NoSuchFunction : Cl K mg "NoSuchFunction"
  c_NotAllocated : Cl K mg "NotAllocated"
  c_Refused : Cl K mg "Refused"
  sv : PySem.W.exmOne K (.ref c_NoSuchStep.C) (.ref c_NoSuchVariable.C) = some false
  i1 : PySem.W.kitOne K (.ref c_NoSuchStep.C) (.ref c_KindProblem.C) = some false
  i2 : PySem.W.kitOne K (.ref c_NoSuchStep.C) (.ref c_NoSuchFunction.C) = some false
  i3 : PySem.W.kitOne K (.ref c_NoSuchStep.C) (.ref c_NoSuchVariable.C) = some false
  i4 : PySem.W.kitOne K (.ref c_NoSuchStep.C) (.ref c_NotAllocated.C) = some false
  i5 : PySem.W.kitOne K (.ref c_NoSuchStep.C) (.ref c_Refused.C) = some false
  i6 : PySem.W.kitOne K (.ref c_NoSuchStep.C) (.ref c_ForkError.C) = some true
  i7 : PySem.W.kitOne K (.ref c_NoSuchStep.C) (.type "ValueError") = some true
  v1 : PySem.W.kitOne K (.ref c_NoSuchVariable.C) (.ref c_KindProblem.C) = some false
  v2 : PySem.W.kitOne K (.ref c_NoSuchVariable.C) (.ref c_NoSuchFunction.C) = some false
  v3 : PySem.W.kitOne K (.ref c_NoSuchVariable.C) (.ref c_NoSuchStep.C) = some false
  v4 : PySem.W.kitOne K (.ref c_NoSuchVariable.C) (.ref c_NotAllocated.C) = some false
  v5 : PySem.W.kitOne K (.ref c_NoSuchVariable.C) (.ref c_Refused.C) = some false
  v6 : PySem.W.kitOne K (.ref c_NoSuchVariable.C) (.ref c_ForkError.C) = some true
  v7 : PySem.W.kitOne K (.ref c_NoSuchVariable.C) (.type "ValueError") = some true
theorem bt_ValueError : bootBuiltins "ValueError" = some (.type "ValueError") := by decide +kernel
theorem kitAny_no {K : PySem.W.Frag} {t c : Value} {cs : List Value} {r : Option Bool} (h : PySem.W.kitOne K t c = some false) (hr : PySem.W.kitAny K t cs = r) : PySem.W.kitAny K t (c :: cs) = r := by
  unfold PySem.W.kitAny
  rw [h]
  exact hr
section
variable {X : Cx}
/-- a value, with a word between it and what follows -/
theorem pe_mid {e : Expr} {t : TE} (h : PE X e t) : PE X e (fun σ H Q => ∃ Pm : V → Hp → Prop, t σ H Pm ∧ ∀ v H1, Pm v H1 → Q v H1) :=
  ⟨fun pins s σ H Q I ⟨Pm, h1, h2⟩ => thn (h.run pins s σ H Pm I h1) fun u s1 ⟨v, H1, I1, r, q⟩ => ⟨v, H1, I1, r, h2 v H1 q⟩⟩
end
/-! ### lists of items -/
theorem ref_get {ts : List Addr} {us : List Value} (r : Vals (ts.map V.ref) us) {j : Nat} {t : Addr} (h : ts[j]? = some t) : us[j]? = some (.ref t) := by
  obtain ⟨u, e, q⟩ := r.get (i := j) (x := .ref t) (by rw [List.getElem?_map, h]; rfl)
  cases q
  exact e
section
variable {X : Cx}
/-- == of two lists of the same items: a text and an object each -/
theorem op_eqI (hu : X.A.units + 64 < cLine) : OpR X (compareOp .Eq) (fun x y H Q => ∃ (a b : Addr) (t1 t2 : List Addr) (kvs : List (Key × V)), x = .ref a ∧ y = .ref b ∧ H a = some (.lst (t1.map V.ref)) ∧ H b = some (.lst (t2.map V.ref)) ∧
    Paired (fun (t : Addr) (q : Key × V) => H t = some (.tup [kV q.1, q.2])) t1 kvs ∧ Paired (fun (t : Addr) (q : Key × V) => H t = some (.tup [kV q.1, q.2])) t2 kvs ∧ (∀ q ∈ kvs, ∃ x p, q = (.inr x, .ref p)) ∧ Q (.bl true) H) := by
  intro pins s σ H x y v u Q I rx ry h
  obtain ⟨a, b, t1, t2, kvs, rfl, rfl, h1, h2, p1, p2, hk, q⟩ := h
  cases rx
  cases ry
  obtain ⟨i1, r1, l1, z1⟩ := I.list (SqL.of h1)
  obtain ⟨i2, r2, l2, z2⟩ := I.list (SqL.of h2)
  have n1 : i1.length = kvs.length := by rw [← r1.length, List.length_map, Paired.length p1]
  have n2 : i2.length = kvs.length := by rw [← r2.length, List.length_map, Paired.length p2]
  refine SeqAt.eq_listAt (e := fun _ => true) l1.isList l2.isList (by simp only [List.size_toArray]; omega) (by omega) (fun j g1 g2 => ?_) ⟨.bl true, H, I, ?_, q⟩
  · simp only [List.size_toArray] at g1 g2
    have m1 : j < t1.length := by rw [Paired.length p1]; omega
    have m2 : j < t2.length := by rw [Paired.length p2]; omega
    obtain ⟨q1, e1, f1⟩ := LiI.paired_get p1 (List.getElem?_eq_getElem m1)
    obtain ⟨q2, e2, f2⟩ := LiI.paired_get p2 (List.getElem?_eq_getElem m2)
    have eq : q1 = q2 := Option.some.inj (e1.symm.trans e2)
    subst eq
    obtain ⟨x, p, rfl⟩ := hk q1 (mem_of_get e1)
    have c1 := ref_get r1 (List.getElem?_eq_getElem m1)
    have c2 := ref_get r2 (List.getElem?_eq_getElem m2)
    have d1 : i1.toArray[j] = Value.ref t1[j] := by simpa using (List.getElem?_eq_some_iff.mp c1).2
    have d2 : i2.toArray[j] = Value.ref t2[j] := by simpa using (List.getElem?_eq_some_iff.mp c2).2
    rw [d1, d2]
    by_cases ne : t1[j] = t2[j]
    · rw [ne]; exact SeqAt.EqAt.same _
    · obtain ⟨w1, s1, T1, _⟩ := I.tuple (.inl (.inl f1))
      obtain ⟨w2, s2, T2, _⟩ := I.tuple (.inl (.inl f2))
      cases s1 with
      | cons a1 s1 =>
        cases s1 with
        | cons a2 s1 =>
          cases s1
          cases s2 with
          | cons b1 s2 =>
            cases s2 with
            | cons b2 s2 =>
              cases s2
              obtain ⟨k1, rfl⟩ := a1
              obtain ⟨k2, rfl⟩ := b1
              cases a2
              cases b2
              have hR := SeqAt.RcAt.tuples (A := X.A.in1) (s := s) (e := fun _ => true) T1 T2 (by show X.A.units + 1 < cLine; omega) (fun j g1 g2 => by
                match j, g1, g2 with
                | 0, _, _ =>
                  have e := SeqAt.EqAt.str_str (A := X.A.in1.in1) (s := s) x k1 x k2
                  rw [beq_self_eq_true] at e
                  exact e
                | 1, _, _ => exact SeqAt.EqAt.same _)
              exact SeqAt.EqAt.of_refs ne hR
  · show Value.bool _ = Value.bool true
    congr 1
    simp
end
section
variable {P : Program} {w : World} {K : PySem.W.Frag} {mg : Str → Option Value} {base : Heap}
def spTold : Sp := fun vs H Q _ => ∃ (pl ra kd : Addr) (x : Str) (svs us : List V) (tb : List (Str × V)) (o : Option (Option V)), vs = [.ref pl, .ref ra, .ref kd] ∧ Plc H pl ra kd x svs us tb ∧ Out H x svs us tb o ∧
  (o = none → ∀ l H', Same H H' → H' l = some (.lst [.str "variable", .bl true]) → Q (.ref l) H') ∧ (o = some none → ∀ l H', Same H H' → H' l = some (.lst [.str "step", .bl true]) → Q (.ref l) H') ∧ (∀ t, o = some (some t) → ∀ H', Same H H' → Q t H')
theorem ok_told (T : Txt9 K mg) : FnOk P w K mg base CX0 8 T._law_told.f T._law_told.fd ["place", "rows", "table"] spTold := by
  refine T._law_told.F.ok sc__law_told (fun vs H Q E h => ?_) (fun cdv A outer s H vs Q E hr h => ?_)
  · obtain ⟨pl, ra, kd, x, svs, us, tb, o, rfl, _⟩ := h
    rfl
  obtain ⟨pl, ra, kd, x, svs, us, tb, o, rfl, hp, ho, q1, q2, q3⟩ := h
  refine ⟨_, (pss_one (ps_try_named (tb := fun W => tRet (tCallKS (spAt T.c_NoSuchStep.C T.c_NoSuchVariable.C) g3 (WE W) (tCons (tVar 0) tNil) (tCons (tVar 1) (tCons (tVar 2) tNil)))) (Wout := fun _ _ _ _ => False) rfl rfl sc__law_told.nd takes0 (fun W pn xe tk _ => (pss_one (ps_ret (by exact (pe_callKS (ok_at T.toTxt8) (hr.mono (by omega)) rfl T.kind_at.g T.kind_at.F.kp T.kind_at.b (fun σ => passAt tk σ) (pa_cons (pv 0) pa_nil) (pk_cons (pv 1) (pk_cons (pv 2) pk_nil)))))))
      (.cons (i := 3) rfl rfl ⟨rfl, by decide, Or.inl T.c_NoSuchVariable.g⟩ (fun a oe cls d pn hz hf => pss_given (p := cls = .ref T.c_NoSuchVariable.C ∧ d = none) fun hp => have hz2 : Zc (.ref T.c_NoSuchVariable.C) none oe := hp.1 ▸ hp.2 ▸ hz; (pss_cons (ps_set (i := 4) sc__law_told.nd rfl (Or.inl rfl) (pe_callB (call_isET T.c_NoSuchVariable.e hz2 hf) rfl T.z_isinstance PyProof.Rows.boot_isinstance (pa_cons (pv 3) (pa_cons (pe_tup (pa_cons (pe_glob (v := .ref T.c_KindProblem.C) rfl T.c_KindProblem.g rfl) (pa_cons (pe_glob (v := .ref T.c_NoSuchFunction.C) rfl T.c_NoSuchFunction.g rfl) (pa_cons (pe_glob (v := .ref T.c_NoSuchStep.C) rfl T.c_NoSuchStep.g rfl) (pa_cons (pe_glob (v := .ref T.c_NotAllocated.C) rfl T.c_NotAllocated.g rfl) (pa_cons (pe_glob (v := .ref T.c_Refused.C) rfl T.c_Refused.g rfl) pa_nil)))))) pa_nil))))
        (pss_one (ps_ret (pe_lst (pa_cons pe_str (pa_cons (pe_and (pe_callB (call_isE T.c_NoSuchVariable.e hz2 hf) rfl T.z_isinstance PyProof.Rows.boot_isinstance (pa_cons (pv 3) (pa_cons (pe_glob (v := .ref T.c_ForkError.C) rfl T.c_ForkError.g rfl) pa_nil))) (pe_and (pe_callB (call_isE T.c_NoSuchVariable.e hz2 hf) rfl T.z_isinstance PyProof.Rows.boot_isinstance (pa_cons (pv 3) (pa_cons (pe_bltn (v := .ty "ValueError") rfl T.z_ValueError bt_ValueError rfl) pa_nil))) (pe_one (pe_not (pv 4))))) pa_nil)))))))
      (.cons (i := 3) rfl rfl ⟨rfl, by decide, Or.inl T.c_NoSuchStep.g⟩ (fun a oe cls d pn hz hf => pss_given (p := cls = .ref T.c_NoSuchStep.C ∧ d = none) fun hp => have hz2 : Zc (.ref T.c_NoSuchStep.C) none oe := hp.1 ▸ hp.2 ▸ hz; (pss_cons (ps_set (i := 4) sc__law_told.nd rfl (Or.inl rfl) (pe_callB (call_isET T.c_NoSuchStep.e hz2 hf) rfl T.z_isinstance PyProof.Rows.boot_isinstance (pa_cons (pv 3) (pa_cons (pe_tup (pa_cons (pe_glob (v := .ref T.c_KindProblem.C) rfl T.c_KindProblem.g rfl) (pa_cons (pe_glob (v := .ref T.c_NoSuchFunction.C) rfl T.c_NoSuchFunction.g rfl) (pa_cons (pe_glob (v := .ref T.c_NoSuchVariable.C) rfl T.c_NoSuchVariable.g rfl) (pa_cons (pe_glob (v := .ref T.c_NotAllocated.C) rfl T.c_NotAllocated.g rfl) (pa_cons (pe_glob (v := .ref T.c_Refused.C) rfl T.c_Refused.g rfl) pa_nil)))))) pa_nil))))
        (pss_one (ps_ret (pe_lst (pa_cons pe_str (pa_cons (pe_and (pe_callB (call_isE T.c_NoSuchStep.e hz2 hf) rfl T.z_isinstance PyProof.Rows.boot_isinstance (pa_cons (pv 3) (pa_cons (pe_glob (v := .ref T.c_ForkError.C) rfl T.c_ForkError.g rfl) pa_nil))) (pe_and (pe_callB (call_isE T.c_NoSuchStep.e hz2 hf) rfl T.z_isinstance PyProof.Rows.boot_isinstance (pa_cons (pv 3) (pa_cons (pe_bltn (v := .ty "ValueError") rfl T.z_ValueError bt_ValueError rfl) pa_nil))) (pe_one (pe_not (pv 4))))) pa_nil)))))))
      .nil)))), ?_⟩
  refine ⟨_, rfl, _, rfl, _, rfl, pl, ra, kd, x, svs, us, tb, o, rfl, hp, ho, fun e H1 g1 => ?_, fun e H1 g1 => ?_, fun t e H1 g1 => q3 t e H1 g1⟩
  · refine ⟨true, T.c_NoSuchVariable.m, fun _ a ha => ?_, fun z => Bool.noConfusion z⟩
    refine ⟨⟨rfl, rfl⟩, _, rfl, by show 5 ≤ sizeLine; decide, fun tp htp => ⟨tp, _, _, false, rfl, upd_same, .cons (.own _) (.cons (.own _) (.cons (.own _) (.cons (.own _) (.cons (.own _) .nil)))), kitAny_no T.v1 (kitAny_no T.v2 (kitAny_no T.v3 (kitAny_no T.v4 (kitAny_no T.v5 rfl)))), ?_⟩⟩
    refine ⟨_, rfl, _, _, true, rfl, fun u r => r, T.v6, _, rfl, iteT ⟨_, rfl, _, _, true, rfl, fun u r => r, T.v7, _, rfl, iteT ⟨_, rfl, _, rfl, by show 2 ≤ sizeLine; decide, fun l hl => ?_⟩⟩⟩
    exact q1 e l _ (g1.trans ((same_new htp _).trans (same_new hl _))) upd_same
  · refine ⟨false, T.sv, fun z => Bool.noConfusion z, fun _ => ⟨true, T.c_NoSuchStep.m, fun _ a ha => ?_, fun z => Bool.noConfusion z⟩⟩
    refine ⟨⟨rfl, rfl⟩, _, rfl, by show 5 ≤ sizeLine; decide, fun tp htp => ⟨tp, _, _, false, rfl, upd_same, .cons (.own _) (.cons (.own _) (.cons (.own _) (.cons (.own _) (.cons (.own _) .nil)))), kitAny_no T.i1 (kitAny_no T.i2 (kitAny_no T.i3 (kitAny_no T.i4 (kitAny_no T.i5 rfl)))), ?_⟩⟩
    refine ⟨_, rfl, _, _, true, rfl, fun u r => r, T.i6, _, rfl, iteT ⟨_, rfl, _, _, true, rfl, fun u r => r, T.i7, _, rfl, iteT ⟨_, rfl, _, rfl, by show 2 ≤ sizeLine; decide, fun l hl => ?_⟩⟩⟩
    exact q2 e l _ (g1.trans ((same_new htp _).trans (same_new hl _))) upd_same
end
end Kk
namespace Kk
open PySem L2
def Due (H : Hp) (a : Addr) : Option (Option V) → V → Prop
  | none, du => ∃ dl, du = .ref dl ∧ dl ≠ a ∧ H dl = some (.lst [.str "variable", .bl true])
  | some none, du => ∃ dl, du = .ref dl ∧ dl ≠ a ∧ H dl = some (.lst [.str "step", .bl true])
  | some (some t), du => du = t ∧ KV H (fun _ => True) 6 t
/-- a place, what comes of it, what is due -/
structure Here (a : Addr) (us : List V) (tb : List (Str × V)) (Hb H : Hp) (plc : Addr) (x : Str) (svs : List V) (o : Option (Option V)) (du : V) : Prop where
  pl : ∃ sp, H plc = some (.tup [.str x, .ref sp]) ∧ H sp = some (.tup svs)
  sl : svs.length ≤ 40
  sv : ∀ s ∈ svs, StepV s
  gx : Gd 22 x
  out : Out H x svs us tb o
  due : Due H a o du
  st : St4 H a
  bt : But a Hb H
theorem Out.tm {H H' : Hp} (m : TM H H') {x : Str} {svs us : List V} {tb : List (Str × V)} : ∀ {o : Option (Option V)}, Out H x svs us tb o → Out H' x svs us tb o
  | none, h => h
  | some o, ⟨v, a, b⟩ => ⟨v, a, b.tm m⟩
theorem Here.on {a : Addr} {us : List V} {tb : List (Str × V)} {Hb H H' : Hp} {plc : Addr} {x : Str} {svs : List V} {o : Option (Option V)} {du : V} (h : Here a us tb Hb H plc x svs o du) (b : But a H H') (st : St4 H' a) : Here a us tb Hb H' plc x svs o du := by
  have m := TM.but b h.st
  obtain ⟨sp, p1, p2⟩ := h.pl
  refine ⟨⟨sp, m _ _ p1, m _ _ p2⟩, h.sl, h.sv, h.gx, h.out.tm m, ?_, st, h.bt.trans b⟩
  have d := h.due
  match o, d with
  | none, ⟨dl, e1, e2, e3⟩ => exact ⟨dl, e1, e2, b _ _ e2 e3⟩
  | some none, ⟨dl, e1, e2, e3⟩ => exact ⟨dl, e1, e2, b _ _ e2 e3⟩
  | some (some t), ⟨e1, e2⟩ => exact ⟨e1, e2.tm m⟩
abbrev S16 (z a p d c q : Addr) (x : Str) (plc : Addr) (kd du ch st at' bh kk ac : Option V) : L2.St :=
  [some (.ref z), some (.ref a), some (.ref p), some (.ref d), some (.ref c), some (.ref q), some (.str x), some (.ref plc), kd, du, ch, st, at', bh, kk, ac]
/-- a tuple of steps -/
def Pt (a : Addr) (H0 : Hp) (n : Nat) (v : V) (H : Hp) : Prop := ∃ tp xs, v = .ref tp ∧ H tp = some (.tup xs) ∧ (∀ s ∈ xs, StepV s) ∧ xs.length ≤ n ∧ St4 H a ∧ But a H0 H
theorem paired_tm {H H' : Hp} (m : TM H H') : ∀ {ts : List Addr} {kvs : List (Key × V)}, Paired (fun (t : Addr) (q : Key × V) => H t = some (.tup [kV q.1, q.2])) ts kvs → Paired (fun (t : Addr) (q : Key × V) => H' t = some (.tup [kV q.1, q.2])) ts kvs
  | _, _, .nil => .nil
  | _, _, .cons h r => .cons (m _ _ h) (paired_tm m r)
theorem mem_cut {xs : List V} {lo hi : Option Int} {v : V} (h : v ∈ cutV xs lo hi) : v ∈ xs := List.mem_of_mem_drop (List.mem_of_mem_take h)
section
variable {P : Program} {w : World} {K : PySem.W.Frag} {mg : Str → Option Value} {base : Heap}
def spLaw (K : PySem.W.Frag) : Sp := fun vs H Q _ => ∃ (z : Addr) (ns : List Int), vs = [.ref z] ∧ SqL K H z (ns.map V.int) ∧ ∀ H', Q (.bl true) H'
theorem ok_law (T : Txt9 K mg) : FnOk P w K mg base CX0 110 T.law.f T.law.fd ["script"] (spLaw K) := by
  refine T.law.F.ok sc_law (fun vs H Q E h => ?_) (fun cdv A outer s H vs Q E hr h => ?_)
  · obtain ⟨z, ns, rfl, _⟩ := h
    rfl
  obtain ⟨z, ns, rfl, hz, q⟩ := h
  have hu64 : (A.deeper (PyProof.Rows.envOfC "law" (defScope s_law) s.heap.objs.size T.law.f cdv)).units + 64 < cLine := by
    have := hr.un
    omega
  refine ⟨_, (pss_cons (ps_set (i := 1) sc_law.nd rfl (Or.inl rfl) (pe_lst (pa_cons pe_int (pa_cons pe_int (pa_cons pe_int (pa_cons pe_int pa_nil))))))
    (pss_cons (ps_set (i := 2) sc_law.nd rfl (Or.inl rfl) (pe_call (ok_records T.toTxt5) (hr.mono (by omega)) rfl T._law_records.g T._law_records.F.kp T._law_records.b .nil pass0 (pa_cons (pv 1) (pa_cons (pv 0) pa_nil))))
    (pss_cons (ps_set (i := 3) sc_law.nd rfl (Or.inl rfl) (pe_call (ok_table T.toTxt8) (hr.mono (by omega)) rfl T._law_table.g T._law_table.F.kp T._law_table.b .nil pass0 (pa_cons (pv 1) (pa_cons (pv 0) (pa_cons (pv 2) pa_nil)))))
    (pss_cons (ps_set (i := 4) sc_law.nd rfl (Or.inl rfl) (LiI.pe_listItems rfl (pv 3) rfl T.z_list PyProof.Rows.boot_list))
    (pss_cons (ps_set (i := 5) sc_law.nd rfl (Or.inl rfl) (pe_callTy (call_list_dK rfl) rfl T.z_list PyProof.Rows.boot_list (pa_cons (pv 3) pa_nil)))
    (pss_cons (ps_set (i := 6) sc_law.nd rfl (Or.inl rfl) (pe_ix ix_list (pv 5) (pe_call (ok_pick T.toTxt1) (hr.mono (by omega)) rfl T._law_pick.g T._law_pick.F.kp T._law_pick.b .nil pass0 (pa_cons (pv 1) (pa_cons (pv 0) (pa_cons (pe_callB call_len_seq rfl T.z_len PySem.boot_len (pa_cons (pv 5) pa_nil)) pa_nil)))) (fun _ _ => rfl)))
    (pss_cons (ps_asg (pe_call (ok_walk T.toTxt8) (hr.mono (by omega)) rfl T._law_walk.g T._law_walk.F.kp T._law_walk.b .nil pass0 (pa_cons (pv 1) (pa_cons (pv 0) (pa_cons (pv 2) (pa_cons (pv 6) (pa_cons (pe_dget (hu_of hr) (pv 3) (pv 6) (fun _ _ => rfl)) pa_nil)))))) (pg_tup rfl (pgs_cons (pg_name (i := 7) sc_law.nd rfl (Or.inl rfl)) (pgs_cons (pg_name (i := 8) sc_law.nd rfl (Or.inl rfl)) pgs_nil))))
    (pss_cons (ps_set (i := 9) sc_law.nd rfl (Or.inl rfl) (pv 8))
    (pss_cons (ps_set (i := 10) sc_law.nd rfl (Or.inl rfl) (pe_call (ok_pick T.toTxt1) (hr.mono (by omega)) rfl T._law_pick.g T._law_pick.F.kp T._law_pick.b .nil pass0 (pa_cons (pv 1) (pa_cons (pv 0) (pa_cons pe_int pa_nil)))))
    (pss_cons (ps_set (i := 11) sc_law.nd rfl (Or.inl rfl) (pe_call (ok_step T.toTxt6) (hr.mono (by omega)) rfl T._law_step.g T._law_step.F.kp T._law_step.b .nil pass0 (pa_cons (pv 1) (pa_cons (pv 0) (pa_cons (pv 2) pa_nil)))))
    (C8.pss_cut (ps_if (pt_mid (PW.pt (pw_and (pt_cmpR op_eq (pv 10) pe_int (nomark _)) (pw_and1 (pt_cmpR op_lt (pe_callB call_len_seq rfl T.z_len PySem.boot_len (pa_cons (pe_ix ix_tup (pv 7) pe_int (fun _ _ => rfl)) pa_nil)) pe_int (nomark _)))))) (pss_cons (ps_set (i := 12) sc_law.nd rfl (Or.inl rfl) (pe_call (ok_pick T.toTxt1) (hr.mono (by omega)) rfl T._law_pick.g T._law_pick.F.kp T._law_pick.b .nil pass0 (pa_cons (pv 1) (pa_cons (pv 0) (pa_cons (pe_op op_add (pe_callB call_len_seq rfl T.z_len PySem.boot_len (pa_cons (pe_ix ix_tup (pv 7) pe_int (fun _ _ => rfl)) pa_nil)) pe_int) pa_nil)))))
      (pss_cons (ps_set (i := 13) sc_law.nd rfl (Or.inl rfl) (pe_mid (pe_slice sl_tupA (pe_ix ix_tup (pv 7) pe_int (fun _ _ => rfl)) (po_some (pe_op op_add (pv 12) (pe_call (ok_pick T.toTxt1) (hr.mono (by omega)) rfl T._law_pick.g T._law_pick.F.kp T._law_pick.b .nil pass0 (pa_cons (pv 1) (pa_cons (pv 0) (pa_cons pe_int pa_nil)))))) po_none)))
      (pss_cons (ps_set (i := 7) sc_law.nd rfl (Or.inl rfl) (pe_tup (pa_cons (pv 6) (pa_cons (pe_mid (pe_op op_catA (pe_mid (pe_op op_catA (pe_mid (pe_slice sl_tupA (pe_ix ix_tup (pv 7) pe_int (fun _ _ => rfl)) po_none (po_some (pv 12)))) (pe_tup (pa_cons (pv 11) pa_nil)))) (pv 13))) pa_nil))))
      (pss_one (ps_set (i := 9) sc_law.nd rfl (Or.inl rfl) (pe_call (ok_followed T.toTxt8) (hr.mono (by omega)) rfl T._law_followed.g T._law_followed.F.kp T._law_followed.b .nil pass0 (pa_cons (pv 2) (pa_cons (pe_dget (hu_of hr) (pv 3) (pv 6) (fun _ _ => rfl)) (pa_cons (pe_ix ix_tup (pv 7) pe_int (fun _ _ => rfl)) pa_nil))))))))) pss_nil)
    (C8.pss_cut (ps_if (pt_cmpR op_eq (pv 10) pe_int (nomark _)) (C8.pss_cut (ps_if (pt_cmpR op_eq (pe_call (ok_pick T.toTxt1) (hr.mono (by omega)) rfl T._law_pick.g T._law_pick.F.kp T._law_pick.b .nil pass0 (pa_cons (pv 1) (pa_cons (pv 0) (pa_cons pe_int pa_nil)))) pe_int (nomark _)) (pss_one (ps_set (i := 7) sc_law.nd rfl (Or.inl rfl) (pe_tup (pa_cons (pv 6) (pa_cons (pe_tup (pa_cons (pv 11) pa_nil)) pa_nil))))) pss_nil)
      (pss_cons (ps_set (i := 7) sc_law.nd rfl (Or.inl rfl) (pe_tup (pa_cons (pe_call (ok_new T.toTxt2) (hr.mono (by omega)) rfl T._law_new.g T._law_new.F.kp T._law_new.b .nil pass0 (pa_cons (pv 5) (pa_cons (pv 6) pa_nil))) (pa_cons (pe_ix ix_tup (pv 7) pe_int (fun _ _ => rfl)) pa_nil))))
      (pss_one (ps_set (i := 9) sc_law.nd rfl (Or.inl rfl) (pe_lst (pa_cons pe_str (pa_cons pe_bl pa_nil))))))) pss_nil)
    (pss_cons (ps_for PassesOwn.never rfl (pi_range1 (by rfl) T.z_range (pa_cons pe_int pa_nil)) (pg_name (i := 14) sc_law.nd rfl (Or.inl rfl)) (pss_cons (ps_set (i := 15) sc_law.nd rfl (Or.inl rfl) (pe_call (ok_told T) (hr.mono (by omega)) rfl T._law_told.g T._law_told.F.kp T._law_told.b .nil pass0 (pa_cons (pv 7) (pa_cons (pv 2) (pa_cons (pv 3) pa_nil)))))
      (pss_one (ps_if (pt_val (pe_callB call_isi rfl T.z_isinstance PyProof.Rows.boot_isinstance (pa_cons (pv 9) (pa_cons (pe_bltn (v := .ty "list") rfl T.z_list PyProof.Rows.boot_list rfl) pa_nil)))) (pss_one (ps_if (pt_cmpR (op_neD hu64) (pv 15) (pv 9) (nomark _)) (pss_one (ps_ret pe_bl)) pss_nil)) (pss_one (ps_if (pt_not (pt_val (pe_call (ok_sameN T.toTxt4 20) (hr.mono (by omega)) rfl T._law_same.g T._law_same.F.kp T._law_same.b .nil pass0 (pa_cons (pv 15) (pa_cons (pv 9) pa_nil))))) (pss_one (ps_ret pe_bl)) pss_nil))))))
    (pss_one (ps_ret (pe_cmpR (op_eqI hu64) (LiI.pe_listItems rfl (pv 3) rfl T.z_list PyProof.Rows.boot_list) (pv 4) (nomark _))))))))))))))))), ?_⟩
  refine ⟨by show 4 ≤ sizeLine; decide, fun a ha => ?_⟩
  have hza : Awy K a z (ns.map V.int) := by
    rcases hz with (h | ⟨o, h⟩) | h
    · exact .inl (ne_of_none h ha)
    · exact .inl (ne_of_none h ha)
    · exact .inr (.inr h)
  have st0 : St4 (upd H a (.lst [.int 0, .int 0, .int 1, .int 9])) a := ⟨0, 0, 1, 9, upd_same, by decide, by decide, by decide⟩
  have hz0 : SqL K (upd H a (.lst [.int 0, .int 0, .int 1, .int 9])) z (ns.map V.int) := (same_new ha _).seq hz
  refine ⟨_, rfl, _, rfl, a, z, ns, rfl, st0, hza, hz0, fun p H1 us rank hp u1 u20 hrw hrd hrk st1 b1 => ?_⟩
  refine ⟨_, rfl, _, rfl, _, rfl, a, z, ns, p, us, rank, rfl, st1, hza, b1.scr hza hz0, hp, u1, u20, hrw, hrk, fun d H2 tb hd da tb1 tb10 hnd hok st2 b2 => ?_⟩
  have t2 := TM.but b2 st1
  refine ⟨_, rfl, d, keysOf tb, rfl, hd, fun H3 c ts g3 hc hts hnc hc3 hpair => ?_⟩
  have st3 := st2.same g3
  have b3 := (b1.trans b2).trans (.of g3)
  have ca : c ≠ a := st2.ne hc
  refine ⟨_, rfl, d, _, rfl, g3 _ _ hd, fun qn hqn => ?_⟩
  have qa : qn ≠ a := st3.ne hqn
  have st4 := st3.put (o := .lst ((keysOf tb).map fun kv => kV kv.1)) qa
  have b4 := b3.trans (But.new (o := .lst ((keysOf tb).map fun kv => kV kv.1)) hqn)
  have t4 := TM.new (o := .lst ((keysOf tb).map fun kv => kV kv.1)) hqn
  have hq4 : (upd H3 qn (.lst ((keysOf tb).map fun kv => kV kv.1))) qn = some (.lst ((tb.map (·.1)).map V.str)) := by rw [upd_same, keys_str]
  have nl : ((tb.map (·.1)).map V.str).length = tb.length := by rw [List.length_map, List.length_map]
  refine ⟨_, rfl, _, rfl, _, rfl, _, rfl, qn, _, rfl, .inl (SqL.of hq4), a, z, ns, _, rfl, st4, hza, b4.scr hza hz0, by omega, by omega, fun n H5 n0 n1 st5 b5 => ?_⟩
  obtain ⟨xv, hx, hx'⟩ := atI_ex (l := (tb.map (·.1)).map V.str) n0 n1
  obtain ⟨x, hxm, rfl⟩ := List.mem_map.mp (mem_of_get hx)
  obtain ⟨⟨x1, v0⟩, hv0, rfl⟩ := List.mem_map.mp hxm
  have t25 := (TM.same g3).trans (t4.trans (TM.but b5 st4))
  have b25 : But a H2 H5 := (But.of g3).trans ((But.new (o := .lst ((keysOf tb).map fun kv => kV kv.1)) hqn).trans b5)
  have b05 := b4.trans b5
  have hd5 := b25 _ _ da hd
  have hval : valV (keysOf tb) (.inr x1) = some v0 := val_in hnd hv0
  have hg5 : DGet H5 d (.str x1) (some v0) := by
    have e := DGet.k (k := Sum.inr x1) hd5
    rw [hval] at e
    exact e
  refine ⟨qn, _, _, _, rfl, rfl, SqL.of (b5 _ _ qa hq4), hx', ?_⟩
  have tp5 := t2.trans t25
  have hrw5 := hrw.tm tp5
  have hrd5 := hrd.tm tp5
  refine ⟨_, rfl, _, rfl, _, rfl, _, rfl, _, rfl, _, rfl, d, v0, rfl, hg5, a, z, ns, p, us, rank, x1, v0, rfl, st5, hza, b05.scr hza hz0, tp5 _ _ hp, hrw5, hrd5, (hok _ hv0).2.tm t25, fun r pl sp svs v H6 hr6 hpl hsp hsl hsv hf kv st6 b6 => ?_⟩
  refine ⟨r, _, rfl, .inl (.inl hr6), rfl, _, _, rfl, _, _, rfl, rfl, ?_⟩
  refine ⟨_, rfl, ?_⟩
  have b06 := b05.trans b6
  refine ⟨_, rfl, _, rfl, a, z, ns, 4, rfl, st6, hza, b06.scr hza hz0, by decide, by decide, fun ch H7 _ _ st7 b7 => ?_⟩
  have b07 := b06.trans b7
  have t57 := (TM.but b6 st5).trans (TM.but b7 st6)
  have hp7 := t57 _ _ (tp5 _ _ hp)
  have hrw7 := hrw5.tm t57
  refine ⟨_, rfl, _, rfl, _, rfl, a, z, ns, p, us, rank, rfl, st7, hza, b07.scr hza hz0, hp7, u1, u20, hrw7, fun sv H8 hsv8 st8 b8 => ?_⟩
  -- what stands from here on
  have b08 := b07.trans b8
  have t78 := TM.but b8 st7
  have b28 : But a H2 H8 := b25.trans (b6.trans (b7.trans b8))
  have b58 : But a H5 H8 := b6.trans (b7.trans b8)
  have t28 := t25.trans (t57.trans t78)
  have hp8 := t78 _ _ hp7
  have hrw8 := hrw7.tm t78
  have hd8 := b28 _ _ da hd
  have hq8 : H8 qn = some (.lst ((tb.map (·.1)).map V.str)) := b58 _ _ qa (b5 _ _ qa hq4)
  have t38 := t4.trans ((TM.but b5 st4).trans (t57.trans t78))
  have hc8 : H8 c = some (.lst (ts.map V.ref)) := b58 _ _ ca (b5 _ _ ca ((same_new hqn _) _ _ hc3))
  have t68 := (TM.but b7 st6).trans t78
  have gx1 : Gd 22 x1 := (hok _ hv0).1
  have kv08 : KV H8 (fun _ => True) 6 v0 := (hok _ hv0).2.tm t28
  have start : Here a us tb H8 H8 pl x1 svs (some (some v)) v := ⟨⟨sp, t68 _ _ hpl, t68 _ _ hsp⟩, by omega, hsv, gx1, ⟨v0, hval, hf.tm t68⟩, ⟨rfl, kv.tm t68⟩, st8, .refl a H8⟩
  refine ⟨fun σ' H' => ∃ plc svs o du at' bh, σ' = S16 z a p d c qn x1 plc (some v) (some du) (some (.int ch)) (some sv) at' bh none none ∧ Here a us tb H8 H' plc x1 svs o du, ⟨fun _ H' => H' = H8, ?_, ?_⟩, ?_⟩
  · refine ⟨_, rfl, rfl, _, rfl, ite2 (fun _ => ?_) (fun _ => rfl)⟩
    exact ⟨_, rfl, pl, _, 1, _, rfl, rfl, .inl (.inl (t68 _ _ hpl)), atI_1, sp, _, rfl, .inr (.inl (.inl (t68 _ _ hsp))), _, _, rfl, rfl, _, rfl, rfl⟩
  · rintro b H8 rfl
    refine ite2 (fun _ => ?_) (fun _ => ⟨pl, svs, _, v, _, _, rfl, start⟩)
    have hpl8 := t68 _ _ hpl
    have hsp8 := t68 _ _ hsp
    refine ⟨_, rfl, _, rfl, _, rfl, pl, _, 1, _, rfl, rfl, .inl (.inl hpl8), atI_1, sp, _, rfl, .inr (.inl (.inl hsp8)), _, _, rfl, rfl, a, z, ns, _, rfl, st8, hza, b08.scr hza hz0, by omega, by omega, fun n9 H9 _ _ st9 b9 => ?_⟩
    have t89 := TM.but b9 st8
    have hpl9 := t89 _ _ hpl8
    have hsp9 := t89 _ _ hsp8
    refine ⟨Pt a H9 12, ⟨_, rfl, pl, _, 1, _, rfl, rfl, .inl (.inl hpl9), atI_1, _, rfl, _, rfl, _, rfl, a, z, ns, 2, rfl, st9, hza, (b08.trans b9).scr hza hz0, by decide, by decide, fun n10 H10 _ _ st10 b10 => ?_⟩, ?_⟩
    · have hsp10 := (TM.but b10 st9) _ _ hsp9
      exact ⟨_, _, rfl, rfl, _, rfl, sp, svs, rfl, .inl (.inl hsp10), fun _ => ⟨sp, svs, rfl, hsp10, hsv, hsl, st10, b10⟩, fun _ bp hbp => ⟨bp, _, rfl, upd_same, fun s hs => hsv s (mem_cut hs), Nat.le_trans (cutV_length _ _ _) hsl, st10.put (st10.ne hbp), b10.trans (.new hbp _)⟩⟩
    rintro _ H11 ⟨bp, bs, rfl, hbp, hbs, hbl, st11, b11⟩
    have t911 := TM.but b11 st9
    have hpl11 := t911 _ _ hpl9
    have hsp11 := t911 _ _ hsp9
    refine ⟨_, rfl, Pt a H11 40, ⟨Pt a H11 20, ⟨Pt a H11 12, ⟨_, rfl, pl, _, 1, _, rfl, rfl, .inl (.inl hpl11), atI_1, _, rfl, _, rfl, sp, svs, rfl, .inl (.inl hsp11), fun _ => ⟨sp, svs, rfl, hsp11, hsv, hsl, st11, .refl a _⟩,
      fun _ cp hcp => ⟨cp, _, rfl, upd_same, fun s hs => hsv s (mem_cut hs), Nat.le_trans (cutV_length _ _ _) hsl, st11.put (st11.ne hcp), .new hcp _⟩⟩, ?_⟩, ?_⟩, ?_⟩
    · rintro _ H12 ⟨cp, cs, rfl, hcp, hcs, hcl, st12, b12⟩
      refine ⟨_, rfl, by show 1 ≤ sizeLine; decide, fun tp htp => ⟨cp, tp, cs, [sv], rfl, rfl, .inl (.inl ((same_new htp _) _ _ hcp)), .inl (.inl upd_same), line_of (by show cs.length + 1 ≤ _; omega), fun _ => ?_, fun _ e => (by cases e), fun _ _ r2 hr2 => ?_⟩⟩
      · exact ⟨tp, [sv], rfl, upd_same, fun s hs => by
          have e : s = sv := by simpa using hs
          rw [e]; exact hsv8, by show 1 ≤ 20; decide, st12.put (st12.ne htp), b12.trans (.new htp _)⟩
      · have st13 := st12.put (o := .tup [sv]) (st12.ne htp)
        exact ⟨r2, _, rfl, upd_same, fun s hs => by
          rcases List.mem_append.mp hs with m | m
          · exact hcs s m
          · have e : s = sv := by simpa using m
            rw [e]; exact hsv8, by rw [List.length_append]; show cs.length + 1 ≤ 20; omega, st13.put (st13.ne hr2), (b12.trans (.new htp _)).trans (.new hr2 _)⟩
    · rintro _ H13 ⟨dp, ds, rfl, hdp, hds, hdl, st13, b13⟩
      have hbp13 := (TM.but b13 st11) _ _ hbp
      exact ⟨_, rfl, dp, bp, ds, bs, rfl, rfl, .inl (.inl hdp), .inl (.inl hbp13), line_of (by omega), fun _ => ⟨bp, bs, rfl, hbp13, hbs, by omega, st13, b13⟩, fun _ _ => ⟨dp, ds, rfl, hdp, hds, by omega, st13, b13⟩,
        fun _ _ r2 hr2 => ⟨r2, _, rfl, upd_same, fun s hs => (List.mem_append.mp hs).elim (hds s) (hbs s), by rw [List.length_append]; omega, st13.put (st13.ne hr2), b13.trans (.new hr2 _)⟩⟩
    rintro _ H14 ⟨ep, es, rfl, hep, hes, hel, st14, b14⟩
    refine ⟨by show 2 ≤ sizeLine; decide, fun np hnp => ?_⟩
    have st15 := st14.put (o := .tup [.str x1, .ref ep]) (st14.ne hnp)
    have b815 : But a H8 (upd H14 np (.tup [.str x1, .ref ep])) := b9.trans (b11.trans (b14.trans (.new hnp _)))
    have t815 := TM.but b815 st8
    have hep15 := (same_new hnp (.tup [.str x1, .ref ep])) _ _ hep
    have hd15 := b815 _ _ da hd8
    have hg15 : DGet (upd H14 np (.tup [.str x1, .ref ep])) d (.str x1) (some v0) := by
      have e := DGet.k (k := Sum.inr x1) hd15
      rw [hval] at e
      exact e
    obtain ⟨o', hfol, hkv⟩ := fol_ex (hrw8.tm t815) es (kv08.tm t815)
    refine ⟨_, rfl, _, rfl, _, rfl, d, v0, rfl, hg15, _, rfl, np, _, 1, _, rfl, rfl, .inl (.inl upd_same), atI_1, p, ep, us, es, v0, o', rfl, t815 _ _ hp8, hep15, hes, hfol, fun t e H16 g16 => ?_, fun e l H16 g16 hl0 hl => ?_⟩
    · subst e
      exact ⟨np, es, some (some t), t, _, _, rfl, ⟨⟨ep, g16 _ _ upd_same, g16 _ _ hep15⟩, hel, hes, gx1, ⟨v0, hval, hfol.tm (.same g16)⟩, ⟨rfl, (hkv t rfl).tm (.same g16)⟩, st15.same g16, b815.trans (.of g16)⟩⟩
    · subst e
      exact ⟨np, es, some none, .ref l, _, _, rfl, ⟨⟨ep, g16 _ _ upd_same, g16 _ _ hep15⟩, hel, hes, gx1, ⟨v0, hval, hfol.tm (.same g16)⟩, ⟨l, rfl, st15.ne hl0, hl⟩, st15.same g16, b815.trans (.of g16)⟩⟩
  · rintro σ' H9 ⟨plc, svs', o, du, at', bh, rfl, here⟩
    refine ⟨fun σ' H' => ∃ plc x' svs o du at' bh, σ' = S16 z a p d c qn x1 plc (some v) (some du) (some (.int ch)) (some sv) at' bh none none ∧ Here a us tb H8 H' plc x' svs o du, ⟨_, rfl, rfl, _, rfl, ite2 (fun _ => ?_) (fun _ => ⟨plc, x1, svs', o, du, _, _, rfl, here⟩)⟩, ?_⟩
    · refine ⟨fun σ' H' => ∃ plc svs at' bh, σ' = S16 z a p d c qn x1 plc (some v) (some du) (some (.int ch)) (some sv) at' bh none none ∧ (∃ sp, H' plc = some (.tup [.str x1, .ref sp]) ∧ H' sp = some (.tup svs)) ∧ svs.length ≤ 40 ∧ (∀ s ∈ svs, StepV s) ∧ St4 H' a ∧ But a H8 H',
        ⟨_, rfl, _, rfl, a, z, ns, 2, rfl, here.st, hza, (b08.trans here.bt).scr hza hz0, by decide, by decide, fun n10 H10 _ _ st10 b10 => ⟨rfl, _, rfl, ite2 (fun _ => ?_) (fun _ => ?_)⟩⟩, ?_⟩
      · refine ⟨_, rfl, _, rfl, by show 1 ≤ sizeLine; decide, fun tp htp => ⟨by show 2 ≤ sizeLine; decide, fun np hnp => ?_⟩⟩
        have st11 := st10.put (o := .tup [sv]) (st10.ne htp)
        exact ⟨np, [sv], _, _, rfl, ⟨tp, upd_same, (same_new hnp _) _ _ upd_same⟩, by show 1 ≤ 40; decide, fun s hs => by
          have e : s = sv := by simpa using hs
          rw [e]; exact hsv8, st11.put (st11.ne hnp), (here.bt.trans b10).trans ((But.new htp _).trans (.new hnp _))⟩
      · have h2 := here.on b10 st10
        exact ⟨plc, svs', _, _, rfl, h2.pl, h2.sl, h2.sv, st10, h2.bt⟩
      · rintro σ' H11 ⟨plc2, svs2, at2, bh2, rfl, ⟨sp2, e1, e2⟩, l2, sv2, st11, b11⟩
        refine ⟨_, rfl, _, rfl, qn, x1, tb.map (·.1), rfl, b11 _ _ qa hq8, by rw [List.length_map]; omega, gx1, fun y hy gy => ⟨_, rfl, plc2, _, 1, _, rfl, rfl, .inl (.inl e1), atI_1, by show 2 ≤ sizeLine; decide, fun np hnp => ⟨by show 2 ≤ sizeLine; decide, fun dl hdl => ?_⟩⟩⟩
        have st12 := st11.put (o := .tup [.str y, .ref sp2]) (st11.ne hnp)
        exact ⟨np, y, svs2, none, .ref dl, _, _, rfl, ⟨⟨sp2, (same_new hdl _) _ _ upd_same, (same_new hdl _) _ _ ((same_new hnp _) _ _ e2)⟩, l2, sv2, gy, hy, ⟨dl, rfl, st12.ne hdl, upd_same⟩, st12.put (st12.ne hdl), b11.trans ((But.new hnp _).trans (.new hdl _))⟩⟩
    · rintro σ' H12 ⟨plc, x', svs, o, du, at', bh, rfl, here⟩
      refine ⟨2, rfl, by decide, by decide, for_range (lo := 0) (n := 2) (fun i σ' H' => ∃ kk ac, σ' = S16 z a p d c qn x1 plc (some v) (some du) (some (.int ch)) (some sv) at' bh kk ac ∧ Here a us tb H8 H' plc x' svs o du) ⟨_, _, rfl, here⟩ ?_ ?_⟩
      · rintro i σ' H13 hi ⟨kk, ac, rfl, here⟩
        have t813 := TM.but here.bt st8
        have hl40 := here.sl
        refine ⟨_, rfl, _, rfl, _, rfl, plc, p, d, x', svs, us, tb, o, rfl, ⟨here.pl, by omega, here.sv, here.gx, t813 _ _ hp8, here.bt _ _ da hd8⟩, here.out, fun e l H14 g14 hl => ?_, fun e l H14 g14 hl => ?_, fun t e H14 g14 => ?_⟩
        · subst e
          obtain ⟨dl, rfl, dla, hdl⟩ := here.due
          refine ⟨_, rfl, _, _, _, _, true, rfl, .ty _, .base (.lst (g14 _ _ hdl)), kit_ty (by decide +kernel), _, rfl, iteT ?_⟩
          refine ⟨_, rfl, _, rfl, .list [.str "variable", .bool true], .list [.str "variable", .bool true], .lst (SqL.of hl) (.cons (.str _) (.cons (.bl _) .nil)), .lst (SqL.of (g14 _ _ hdl)) (.cons (.str _) (.cons (.bl _) .nil)), by decide +kernel, by decide +kernel, _, rfl, ?_⟩
          have e : PyData.eqv (.list [.str "variable", .bool true]) (.list [.str "variable", .bool true]) = true := by decide +kernel
          rw [e]
          exact iteF ⟨_, _, rfl, here.on (.of g14) (here.st.same g14)⟩
        · subst e
          obtain ⟨dl, rfl, dla, hdl⟩ := here.due
          refine ⟨_, rfl, _, _, _, _, true, rfl, .ty _, .base (.lst (g14 _ _ hdl)), kit_ty (by decide +kernel), _, rfl, iteT ?_⟩
          refine ⟨_, rfl, _, rfl, .list [.str "step", .bool true], .list [.str "step", .bool true], .lst (SqL.of hl) (.cons (.str _) (.cons (.bl _) .nil)), .lst (SqL.of (g14 _ _ hdl)) (.cons (.str _) (.cons (.bl _) .nil)), by decide +kernel, by decide +kernel, _, rfl, ?_⟩
          have e : PyData.eqv (.list [.str "step", .bool true]) (.list [.str "step", .bool true]) = true := by decide +kernel
          rw [e]
          exact iteF ⟨_, _, rfl, here.on (.of g14) (here.st.same g14)⟩
        · subst e
          obtain ⟨rfl, kt⟩ := here.due
          have kt14 := kt.tm (.same g14)
          obtain ⟨tp, w', ws, rfl, htp⟩ := kt14.hd
          refine ⟨_, rfl, _, _, _, _, false, rfl, .ty _, .base (.tup htp), kit_ty (by decide +kernel), _, rfl, iteF ?_⟩
          exact ⟨_, rfl, _, rfl, _, rfl, kt14.dv.up (by decide), true, rfl, iteF ⟨_, _, rfl, here.on (.of g14) (here.st.same g14)⟩⟩
      · rintro σ' H13 ⟨kk, ac, rfl, here⟩
        refine ⟨_, rfl, d, keysOf tb, rfl, here.bt _ _ da hd8, fun H14 c2 ts2 g14 hc2 hts2 hnc2 hcl2 hpair2 => ?_⟩
        have t314 := (t38.trans (TM.but here.bt st8)).trans (.same g14)
        refine ⟨_, rfl, c2, c, ts2, ts, keysOf tb, rfl, rfl, hcl2, g14 _ _ (here.bt _ _ ca hc8), hpair2, paired_tm t314 hpair, fun q' hq => ?_, q _⟩
        obtain ⟨r', hr', rfl⟩ := List.mem_map.mp hq
        obtain ⟨p', w', ws', e, _⟩ := (hok r' hr').2.hd
        exact ⟨r'.1, p', by rw [e]⟩
end
end Kk
namespace Kk
open PySem L2
theorem all_mk {l : PySem.W.OpenLaw} {w : World} {K : PySem.W.Frag} {h : Heap} {mg : Str → Option Value} {fa : Addr} (X : K.In h) (G : h.Ns mainGlobals mg) (hfa : mg "law" = some (.ref fa))
    {f0 : Addr} {od0 an0 : Option Addr} {sl0 : Array (Option Value)} {oc0 kV0 dc0 pm0 cd0 ct0 : Value}
    {f1 : Addr} {od1 an1 : Option Addr} {sl1 : Array (Option Value)} {oc1 kV1 dc1 pm1 cd1 ct1 : Value}
    {f2 : Addr} {od2 an2 : Option Addr} {sl2 : Array (Option Value)} {oc2 kV2 dc2 pm2 cd2 ct2 : Value}
    {f3 : Addr} {od3 an3 : Option Addr} {sl3 : Array (Option Value)} {oc3 kV3 dc3 pm3 cd3 ct3 : Value}
    {f4 : Addr} {od4 an4 : Option Addr} {sl4 : Array (Option Value)} {oc4 kV4 dc4 pm4 cd4 ct4 : Value}
    {f5 : Addr} {od5 an5 : Option Addr} {sl5 : Array (Option Value)} {oc5 kV5 dc5 pm5 cd5 ct5 : Value}
    {f6 : Addr} {od6 an6 : Option Addr} {sl6 : Array (Option Value)} {oc6 kV6 dc6 pm6 cd6 ct6 : Value}
    {f7 : Addr} {od7 an7 : Option Addr} {sl7 : Array (Option Value)} {oc7 kV7 dc7 pm7 cd7 ct7 : Value}
    {f8 : Addr} {od8 an8 : Option Addr} {sl8 : Array (Option Value)} {oc8 kV8 dc8 pm8 cd8 ct8 : Value}
    {f9 : Addr} {od9 an9 : Option Addr} {sl9 : Array (Option Value)} {oc9 kV9 dc9 pm9 cd9 ct9 : Value}
    {f10 : Addr} {od10 an10 : Option Addr} {sl10 : Array (Option Value)} {oc10 kV10 dc10 pm10 cd10 ct10 : Value}
    {f11 : Addr} {od11 an11 : Option Addr} {sl11 : Array (Option Value)} {oc11 kV11 dc11 pm11 cd11 ct11 : Value}
    {f12 : Addr} {od12 an12 : Option Addr} {sl12 : Array (Option Value)} {oc12 kV12 dc12 pm12 cd12 ct12 : Value}
    {f13 : Addr} {od13 an13 : Option Addr} {sl13 : Array (Option Value)} {oc13 kV13 dc13 pm13 cd13 ct13 : Value}
    {f14 : Addr} {od14 an14 : Option Addr} {sl14 : Array (Option Value)} {oc14 kV14 dc14 pm14 cd14 ct14 : Value}
    {f15 : Addr} {od15 an15 : Option Addr} {sl15 : Array (Option Value)} {oc15 kV15 dc15 pm15 cd15 ct15 : Value}
    {f16 : Addr} {od16 an16 : Option Addr} {sl16 : Array (Option Value)} {oc16 kV16 dc16 pm16 cd16 ct16 : Value}
    {f17 : Addr} {od17 an17 : Option Addr} {sl17 : Array (Option Value)} {oc17 kV17 dc17 pm17 cd17 ct17 : Value}
    {f18 : Addr} {od18 an18 : Option Addr} {sl18 : Array (Option Value)} {oc18 kV18 dc18 pm18 cd18 ct18 : Value}
    {f19 : Addr} {od19 an19 : Option Addr} {sl19 : Array (Option Value)} {oc19 kV19 dc19 pm19 cd19 ct19 : Value}
    {f20 : Addr} {od20 an20 : Option Addr} {sl20 : Array (Option Value)} {oc20 kV20 dc20 pm20 cd20 ct20 : Value}
    {f21 : Addr} {od21 an21 : Option Addr} {sl21 : Array (Option Value)} {oc21 kV21 dc21 pm21 cd21 ct21 : Value}
    {f22 : Addr} {od22 an22 : Option Addr} {sl22 : Array (Option Value)} {oc22 kV22 dc22 pm22 cd22 ct22 : Value}
    {f23 : Addr} {od23 an23 : Option Addr} {sl23 : Array (Option Value)} {oc23 kV23 dc23 pm23 cd23 ct23 : Value}
    {f24 : Addr} {od24 an24 : Option Addr} {sl24 : Array (Option Value)} {oc24 kV24 dc24 pm24 cd24 ct24 : Value}
    {f25 : Addr} {od25 an25 : Option Addr} {sl25 : Array (Option Value)} {oc25 kV25 dc25 pm25 cd25 ct25 : Value}
    {C_NoSuchStep : Addr}
    {C_NoSuchVariable : Addr}
    {C_ForkError : Addr}
    {C_KindProblem : Addr}
    {C_NoSuchFunction : Addr}
    {C_NotAllocated : Addr}
    {C_Refused : Addr}
    {A_BORROWS : Addr} {D_BORROWS : Option Addr} {N_BORROWS : Nat} {S_BORROWS : Array (Option Value)} {t0_BORROWS t1_BORROWS : Tok}
    (a0 : PySem.W.nsIn K mainGlobals "is_item" = some (some (.ref f0)))
    (l0 : K.lookup f0 = some ⟨oc0, od0, .func (PySem.W.fnOf "is_item" "is_item" (defArgs s_is_item) (defBody s_is_item) (defScope s_is_item) .none kV0 dc0 pm0 an0 cd0 ct0), sl0⟩)
    (c0 : PySem.W.codeIn K cd0 "is_item" = true) (k0 : PySem.W.keepIn K (.ref f0) = true)
    (a1 : PySem.W.nsIn K mainGlobals "fields_of" = some (some (.ref f1)))
    (l1 : K.lookup f1 = some ⟨oc1, od1, .func (PySem.W.fnOf "fields_of" "fields_of" (defArgs s_fields_of) (defBody s_fields_of) (defScope s_fields_of) .none kV1 dc1 pm1 an1 cd1 ct1), sl1⟩)
    (c1 : PySem.W.codeIn K cd1 "fields_of" = true) (k1 : PySem.W.keepIn K (.ref f1) = true)
    (a2 : PySem.W.nsIn K mainGlobals "_law_pick" = some (some (.ref f2)))
    (l2 : K.lookup f2 = some ⟨oc2, od2, .func (PySem.W.fnOf "_law_pick" "_law_pick" (defArgs s__law_pick) (defBody s__law_pick) (defScope s__law_pick) .none kV2 dc2 pm2 an2 cd2 ct2), sl2⟩)
    (c2 : PySem.W.codeIn K cd2 "_law_pick" = true) (k2 : PySem.W.keepIn K (.ref f2) = true)
    (a3 : PySem.W.nsIn K mainGlobals "_law_words" = some (some (.ref f3)))
    (l3 : K.lookup f3 = some ⟨oc3, od3, .func (PySem.W.fnOf "_law_words" "_law_words" (defArgs s__law_words) (defBody s__law_words) (defScope s__law_words) .none kV3 dc3 pm3 an3 cd3 ct3), sl3⟩)
    (c3 : PySem.W.codeIn K cd3 "_law_words" = true) (k3 : PySem.W.keepIn K (.ref f3) = true)
    (a4 : PySem.W.nsIn K mainGlobals "_law_name" = some (some (.ref f4)))
    (l4 : K.lookup f4 = some ⟨oc4, od4, .func (PySem.W.fnOf "_law_name" "_law_name" (defArgs s__law_name) (defBody s__law_name) (defScope s__law_name) .none kV4 dc4 pm4 an4 cd4 ct4), sl4⟩)
    (c4 : PySem.W.codeIn K cd4 "_law_name" = true) (k4 : PySem.W.keepIn K (.ref f4) = true)
    (a5 : PySem.W.nsIn K mainGlobals "_law_big" = some (some (.ref f5)))
    (l5 : K.lookup f5 = some ⟨oc5, od5, .func (PySem.W.fnOf "_law_big" "_law_big" (defArgs s__law_big) (defBody s__law_big) (defScope s__law_big) .none kV5 dc5 pm5 an5 cd5 ct5), sl5⟩)
    (c5 : PySem.W.codeIn K cd5 "_law_big" = true) (k5 : PySem.W.keepIn K (.ref f5) = true)
    (a6 : PySem.W.nsIn K mainGlobals "_law_new" = some (some (.ref f6)))
    (l6 : K.lookup f6 = some ⟨oc6, od6, .func (PySem.W.fnOf "_law_new" "_law_new" (defArgs s__law_new) (defBody s__law_new) (defScope s__law_new) .none kV6 dc6 pm6 an6 cd6 ct6), sl6⟩)
    (c6 : PySem.W.codeIn K cd6 "_law_new" = true) (k6 : PySem.W.keepIn K (.ref f6) = true)
    (a7 : PySem.W.nsIn K mainGlobals "_law_kind" = some (some (.ref f7)))
    (l7 : K.lookup f7 = some ⟨oc7, od7, .func (PySem.W.fnOf "_law_kind" "_law_kind" (defArgs s__law_kind) (defBody s__law_kind) (defScope s__law_kind) .none kV7 dc7 pm7 an7 cd7 ct7), sl7⟩)
    (c7 : PySem.W.codeIn K cd7 "_law_kind" = true) (k7 : PySem.W.keepIn K (.ref f7) = true)
    (a8 : PySem.W.nsIn K mainGlobals "_law_is_plain" = some (some (.ref f8)))
    (l8 : K.lookup f8 = some ⟨oc8, od8, .func (PySem.W.fnOf "_law_is_plain" "_law_is_plain" (defArgs s__law_is_plain) (defBody s__law_is_plain) (defScope s__law_is_plain) .none kV8 dc8 pm8 an8 cd8 ct8), sl8⟩)
    (c8 : PySem.W.codeIn K cd8 "_law_is_plain" = true) (k8 : PySem.W.keepIn K (.ref f8) = true)
    (a9 : PySem.W.nsIn K mainGlobals "_law_wide" = some (some (.ref f9)))
    (l9 : K.lookup f9 = some ⟨oc9, od9, .func (PySem.W.fnOf "_law_wide" "_law_wide" (defArgs s__law_wide) (defBody s__law_wide) (defScope s__law_wide) .none kV9 dc9 pm9 an9 cd9 ct9), sl9⟩)
    (c9 : PySem.W.codeIn K cd9 "_law_wide" = true) (k9 : PySem.W.keepIn K (.ref f9) = true)
    (a10 : PySem.W.nsIn K mainGlobals "_law_any_kind" = some (some (.ref f10)))
    (l10 : K.lookup f10 = some ⟨oc10, od10, .func (PySem.W.fnOf "_law_any_kind" "_law_any_kind" (defArgs s__law_any_kind) (defBody s__law_any_kind) (defScope s__law_any_kind) .none kV10 dc10 pm10 an10 cd10 ct10), sl10⟩)
    (c10 : PySem.W.codeIn K cd10 "_law_any_kind" = true) (k10 : PySem.W.keepIn K (.ref f10) = true)
    (a11 : PySem.W.nsIn K mainGlobals "_law_same" = some (some (.ref f11)))
    (l11 : K.lookup f11 = some ⟨oc11, od11, .func (PySem.W.fnOf "_law_same" "_law_same" (defArgs s__law_same) (defBody s__law_same) (defScope s__law_same) .none kV11 dc11 pm11 an11 cd11 ct11), sl11⟩)
    (c11 : PySem.W.codeIn K cd11 "_law_same" = true) (k11 : PySem.W.keepIn K (.ref f11) = true)
    (a12 : PySem.W.nsIn K mainGlobals "_law_size" = some (some (.ref f12)))
    (l12 : K.lookup f12 = some ⟨oc12, od12, .func (PySem.W.fnOf "_law_size" "_law_size" (defArgs s__law_size) (defBody s__law_size) (defScope s__law_size) .none kV12 dc12 pm12 an12 cd12 ct12), sl12⟩)
    (c12 : PySem.W.codeIn K cd12 "_law_size" = true) (k12 : PySem.W.keepIn K (.ref f12) = true)
    (a13 : PySem.W.nsIn K mainGlobals "_law_is_small" = some (some (.ref f13)))
    (l13 : K.lookup f13 = some ⟨oc13, od13, .func (PySem.W.fnOf "_law_is_small" "_law_is_small" (defArgs s__law_is_small) (defBody s__law_is_small) (defScope s__law_is_small) .none kV13 dc13 pm13 an13 cd13 ct13), sl13⟩)
    (c13 : PySem.W.codeIn K cd13 "_law_is_small" = true) (k13 : PySem.W.keepIn K (.ref f13) = true)
    (a14 : PySem.W.nsIn K mainGlobals "_law_records" = some (some (.ref f14)))
    (l14 : K.lookup f14 = some ⟨oc14, od14, .func (PySem.W.fnOf "_law_records" "_law_records" (defArgs s__law_records) (defBody s__law_records) (defScope s__law_records) .none kV14 dc14 pm14 an14 cd14 ct14), sl14⟩)
    (c14 : PySem.W.codeIn K cd14 "_law_records" = true) (k14 : PySem.W.keepIn K (.ref f14) = true)
    (a15 : PySem.W.nsIn K mainGlobals "_law_options" = some (some (.ref f15)))
    (l15 : K.lookup f15 = some ⟨oc15, od15, .func (PySem.W.fnOf "_law_options" "_law_options" (defArgs s__law_options) (defBody s__law_options) (defScope s__law_options) .none kV15 dc15 pm15 an15 cd15 ct15), sl15⟩)
    (c15 : PySem.W.codeIn K cd15 "_law_options" = true) (k15 : PySem.W.keepIn K (.ref f15) = true)
    (a16 : PySem.W.nsIn K mainGlobals "_law_step" = some (some (.ref f16)))
    (l16 : K.lookup f16 = some ⟨oc16, od16, .func (PySem.W.fnOf "_law_step" "_law_step" (defArgs s__law_step) (defBody s__law_step) (defScope s__law_step) .none kV16 dc16 pm16 an16 cd16 ct16), sl16⟩)
    (c16 : PySem.W.codeIn K cd16 "_law_step" = true) (k16 : PySem.W.keepIn K (.ref f16) = true)
    (a17 : PySem.W.nsIn K mainGlobals "_law_small_kind" = some (some (.ref f17)))
    (l17 : K.lookup f17 = some ⟨oc17, od17, .func (PySem.W.fnOf "_law_small_kind" "_law_small_kind" (defArgs s__law_small_kind) (defBody s__law_small_kind) (defScope s__law_small_kind) .none kV17 dc17 pm17 an17 cd17 ct17), sl17⟩)
    (c17 : PySem.W.codeIn K cd17 "_law_small_kind" = true) (k17 : PySem.W.keepIn K (.ref f17) = true)
    (a18 : PySem.W.nsIn K mainGlobals "kind_after" = some (some (.ref f18)))
    (l18 : K.lookup f18 = some ⟨oc18, od18, .func (PySem.W.fnOf "kind_after" "kind_after" (defArgs s_kind_after) (defBody s_kind_after) (defScope s_kind_after) .none kV18 dc18 pm18 an18 cd18 ct18), sl18⟩)
    (c18 : PySem.W.codeIn K cd18 "kind_after" = true) (k18 : PySem.W.keepIn K (.ref f18) = true)
    (a19 : PySem.W.nsIn K mainGlobals "kinds_along" = some (some (.ref f19)))
    (l19 : K.lookup f19 = some ⟨oc19, od19, .func (PySem.W.fnOf "kinds_along" "kinds_along" (defArgs s_kinds_along) (defBody s_kinds_along) (defScope s_kinds_along) .none kV19 dc19 pm19 an19 cd19 ct19), sl19⟩)
    (c19 : PySem.W.codeIn K cd19 "kinds_along" = true) (k19 : PySem.W.keepIn K (.ref f19) = true)
    (a20 : PySem.W.nsIn K mainGlobals "kind_at" = some (some (.ref f20)))
    (l20 : K.lookup f20 = some ⟨oc20, od20, .func (PySem.W.fnOf "kind_at" "kind_at" (defArgs s_kind_at) (defBody s_kind_at) (defScope s_kind_at) .none kV20 dc20 pm20 an20 cd20 ct20), sl20⟩)
    (c20 : PySem.W.codeIn K cd20 "kind_at" = true) (k20 : PySem.W.keepIn K (.ref f20) = true)
    (a21 : PySem.W.nsIn K mainGlobals "_law_table" = some (some (.ref f21)))
    (l21 : K.lookup f21 = some ⟨oc21, od21, .func (PySem.W.fnOf "_law_table" "_law_table" (defArgs s__law_table) (defBody s__law_table) (defScope s__law_table) .none kV21 dc21 pm21 an21 cd21 ct21), sl21⟩)
    (c21 : PySem.W.codeIn K cd21 "_law_table" = true) (k21 : PySem.W.keepIn K (.ref f21) = true)
    (a22 : PySem.W.nsIn K mainGlobals "_law_walk" = some (some (.ref f22)))
    (l22 : K.lookup f22 = some ⟨oc22, od22, .func (PySem.W.fnOf "_law_walk" "_law_walk" (defArgs s__law_walk) (defBody s__law_walk) (defScope s__law_walk) .none kV22 dc22 pm22 an22 cd22 ct22), sl22⟩)
    (c22 : PySem.W.codeIn K cd22 "_law_walk" = true) (k22 : PySem.W.keepIn K (.ref f22) = true)
    (a23 : PySem.W.nsIn K mainGlobals "_law_followed" = some (some (.ref f23)))
    (l23 : K.lookup f23 = some ⟨oc23, od23, .func (PySem.W.fnOf "_law_followed" "_law_followed" (defArgs s__law_followed) (defBody s__law_followed) (defScope s__law_followed) .none kV23 dc23 pm23 an23 cd23 ct23), sl23⟩)
    (c23 : PySem.W.codeIn K cd23 "_law_followed" = true) (k23 : PySem.W.keepIn K (.ref f23) = true)
    (a24 : PySem.W.nsIn K mainGlobals "_law_told" = some (some (.ref f24)))
    (l24 : K.lookup f24 = some ⟨oc24, od24, .func (PySem.W.fnOf "_law_told" "_law_told" (defArgs s__law_told) (defBody s__law_told) (defScope s__law_told) .none kV24 dc24 pm24 an24 cd24 ct24), sl24⟩)
    (c24 : PySem.W.codeIn K cd24 "_law_told" = true) (k24 : PySem.W.keepIn K (.ref f24) = true)
    (a25 : PySem.W.nsIn K mainGlobals "law" = some (some (.ref f25)))
    (l25 : K.lookup f25 = some ⟨oc25, od25, .func (PySem.W.fnOf "law" "law" (defArgs s_law) (defBody s_law) (defScope s_law) .none kV25 dc25 pm25 an25 cd25 ct25), sl25⟩)
    (c25 : PySem.W.codeIn K cd25 "law" = true) (k25 : PySem.W.keepIn K (.ref f25) = true)
    (z_len : PySem.W.nsIn K mainGlobals "len" = some none)
    (z_int : PySem.W.nsIn K mainGlobals "int" = some none)
    (z_abs : PySem.W.nsIn K mainGlobals "abs" = some none)
    (z_isinstance : PySem.W.nsIn K mainGlobals "isinstance" = some none)
    (z_bool : PySem.W.nsIn K mainGlobals "bool" = some none)
    (z_range : PySem.W.nsIn K mainGlobals "range" = some none)
    (z_str : PySem.W.nsIn K mainGlobals "str" = some none)
    (z_tuple : PySem.W.nsIn K mainGlobals "tuple" = some none)
    (z_list : PySem.W.nsIn K mainGlobals "list" = some none)
    (z_sum : PySem.W.nsIn K mainGlobals "sum" = some none)
    (z_ValueError : PySem.W.nsIn K mainGlobals "ValueError" = some none)
    (xsg : PySem.W.nsIn K mainGlobals "NoSuchStep" = some (some (.ref C_NoSuchStep))) (xsx : PySem.W.excIn K C_NoSuchStep [.type "ValueError", .type "Exception", .type "BaseException", .type "object"] "ValueError.__new__" = true) (xsk : PySem.W.keepIn K (.ref C_NoSuchStep) = true) (xsb : PySem.W.subIn K (.ref C_NoSuchStep) (.type "BaseException") = some true) (xst : PySem.W.typeIn K (.ref C_NoSuchStep) = some (.type "type")) (xss : PySem.W.subIn K (.ref C_NoSuchStep) (.ref C_NoSuchStep) = some true)
    (xs1 : PySem.W.findIn K (.ref C_NoSuchStep) "__getattribute__" = some (some (.builtin "BaseException.__getattribute__"))) (xs2 : PySem.W.findIn K (.ref C_NoSuchStep) "__getattr__" = some none) (xs3 : PySem.W.hasDictIn K C_NoSuchStep = true) (xs4 : PySem.W.findIn K (.ref C_NoSuchStep) "__class__" = some (some (.builtin "object.__class__")))
    (xs5 : PySem.W.specialIn K (.builtin "object.__class__") "__get__" = some (some (.builtin "getset_descriptor.__get__"))) (xs6 : PySem.W.takesIn K (.builtin "object.__class__") = some true) (xs7 : PySem.W.mroIn K C_NoSuchStep (.type "object") = some true)
    (xvg : PySem.W.nsIn K mainGlobals "NoSuchVariable" = some (some (.ref C_NoSuchVariable))) (xvx : PySem.W.excIn K C_NoSuchVariable [.type "ValueError", .type "Exception", .type "BaseException", .type "object"] "ValueError.__new__" = true) (xvk : PySem.W.keepIn K (.ref C_NoSuchVariable) = true) (xvb : PySem.W.subIn K (.ref C_NoSuchVariable) (.type "BaseException") = some true) (xvt : PySem.W.typeIn K (.ref C_NoSuchVariable) = some (.type "type")) (xvs : PySem.W.subIn K (.ref C_NoSuchVariable) (.ref C_NoSuchVariable) = some true)
    (xv1 : PySem.W.findIn K (.ref C_NoSuchVariable) "__getattribute__" = some (some (.builtin "BaseException.__getattribute__"))) (xv2 : PySem.W.findIn K (.ref C_NoSuchVariable) "__getattr__" = some none) (xv3 : PySem.W.hasDictIn K C_NoSuchVariable = true) (xv4 : PySem.W.findIn K (.ref C_NoSuchVariable) "__class__" = some (some (.builtin "object.__class__")))
    (xv5 : PySem.W.specialIn K (.builtin "object.__class__") "__get__" = some (some (.builtin "getset_descriptor.__get__"))) (xv6 : PySem.W.takesIn K (.builtin "object.__class__") = some true) (xv7 : PySem.W.mroIn K C_NoSuchVariable (.type "object") = some true)
    (g_ForkError : PySem.W.nsIn K mainGlobals "ForkError" = some (some (.ref C_ForkError)))
    (g_KindProblem : PySem.W.nsIn K mainGlobals "KindProblem" = some (some (.ref C_KindProblem)))
    (g_NoSuchFunction : PySem.W.nsIn K mainGlobals "NoSuchFunction" = some (some (.ref C_NoSuchFunction)))
    (g_NotAllocated : PySem.W.nsIn K mainGlobals "NotAllocated" = some (some (.ref C_NotAllocated)))
    (g_Refused : PySem.W.nsIn K mainGlobals "Refused" = some (some (.ref C_Refused)))
    (i1 : PySem.W.kitOne K (.ref C_NoSuchStep) (.ref C_KindProblem) = some false)
    (i2 : PySem.W.kitOne K (.ref C_NoSuchStep) (.ref C_NoSuchFunction) = some false)
    (i3 : PySem.W.kitOne K (.ref C_NoSuchStep) (.ref C_NoSuchVariable) = some false)
    (i4 : PySem.W.kitOne K (.ref C_NoSuchStep) (.ref C_NotAllocated) = some false)
    (i5 : PySem.W.kitOne K (.ref C_NoSuchStep) (.ref C_Refused) = some false)
    (i6 : PySem.W.kitOne K (.ref C_NoSuchStep) (.ref C_ForkError) = some true)
    (i7 : PySem.W.kitOne K (.ref C_NoSuchStep) (.type "ValueError") = some true)
    (v1 : PySem.W.kitOne K (.ref C_NoSuchVariable) (.ref C_KindProblem) = some false)
    (v2 : PySem.W.kitOne K (.ref C_NoSuchVariable) (.ref C_NoSuchFunction) = some false)
    (v3 : PySem.W.kitOne K (.ref C_NoSuchVariable) (.ref C_NoSuchStep) = some false)
    (v4 : PySem.W.kitOne K (.ref C_NoSuchVariable) (.ref C_NotAllocated) = some false)
    (v5 : PySem.W.kitOne K (.ref C_NoSuchVariable) (.ref C_Refused) = some false)
    (v6 : PySem.W.kitOne K (.ref C_NoSuchVariable) (.ref C_ForkError) = some true)
    (v7 : PySem.W.kitOne K (.ref C_NoSuchVariable) (.type "ValueError") = some true)
    (b_BORROWS : PySem.W.nsIn K mainGlobals "BORROWS" = some (some (.ref A_BORROWS))) (v_BORROWS : K.lookup A_BORROWS = some ⟨.type "tuple", D_BORROWS, .seq #[.str "shared" t0_BORROWS, .str "exclusive" t1_BORROWS] N_BORROWS, S_BORROWS⟩)
    (sv_ : PySem.W.subIn K (.ref C_NoSuchStep) (.ref C_NoSuchVariable) = some false) :
    ∃ fd : FuncData, (∀ (s : Shared) (v : Value), BindsTo s fd ⟨[v], []⟩ [("script", v)]) ∧ ∀ base : Heap, K.In base → base.Ns mainGlobals mg → FnOk l.prog w K mg base CX0 110 fa fd ["script"] (spLaw K) := by
  have e := hfa.symm.trans (PySem.W.mg_of X G a25)
  cases e
  let T : Txt9 K mg := {
    is_item := ⟨f0, _, fun_mk (st := s_is_item) l0 c0 k0, PySem.W.mg_of X G a0, (fun_mk (st := s_is_item) l0 c0 k0).binds (ps := ["items", "step"]) fun _ _ _ _ _ _ us hl => match us, hl with | [_, _], _ => rfl⟩,
    fields_of := ⟨f1, _, fun_mk (st := s_fields_of) l1 c1 k1, PySem.W.mg_of X G a1, (fun_mk (st := s_fields_of) l1 c1 k1).binds (ps := ["records", "name"]) fun _ _ _ _ _ _ us hl => match us, hl with | [_, _], _ => rfl⟩,
    _law_pick := ⟨f2, _, fun_mk (st := s__law_pick) l2 c2 k2, PySem.W.mg_of X G a2, (fun_mk (st := s__law_pick) l2 c2 k2).binds (ps := ["state", "script", "many"]) fun _ _ _ _ _ _ us hl => match us, hl with | [_, _, _], _ => rfl⟩,
    _law_words := ⟨f3, _, fun_mk (st := s__law_words) l3 c3 k3, PySem.W.mg_of X G a3, (fun_mk (st := s__law_words) l3 c3 k3).binds (ps := []) fun _ _ _ _ _ _ us hl => match us, hl with | [], _ => rfl⟩,
    _law_name := ⟨f4, _, fun_mk (st := s__law_name) l4 c4 k4, PySem.W.mg_of X G a4, (fun_mk (st := s__law_name) l4 c4 k4).binds (ps := ["state", "script"]) fun _ _ _ _ _ _ us hl => match us, hl with | [_, _], _ => rfl⟩,
    _law_big := ⟨f5, _, fun_mk (st := s__law_big) l5 c5 k5, PySem.W.mg_of X G a5, (fun_mk (st := s__law_big) l5 c5 k5).binds (ps := ["state", "script"]) fun _ _ _ _ _ _ us hl => match us, hl with | [_, _], _ => rfl⟩,
    _law_new := ⟨f6, _, fun_mk (st := s__law_new) l6 c6 k6, PySem.W.mg_of X G a6, (fun_mk (st := s__law_new) l6 c6 k6).binds (ps := ["taken", "word"]) fun _ _ _ _ _ _ us hl => match us, hl with | [_, _], _ => rfl⟩,
    _law_kind := ⟨f7, _, fun_mk (st := s__law_kind) l7 c7 k7, PySem.W.mg_of X G a7, (fun_mk (st := s__law_kind) l7 c7 k7).binds (ps := ["state", "script", "room", "plain", "names"]) fun _ _ _ _ _ _ us hl => match us, hl with | [_, _, _, _, _], _ => rfl⟩,
    _law_is_plain := ⟨f8, _, fun_mk (st := s__law_is_plain) l8 c8 k8, PySem.W.mg_of X G a8, (fun_mk (st := s__law_is_plain) l8 c8 k8).binds (ps := ["kind"]) fun _ _ _ _ _ _ us hl => match us, hl with | [_], _ => rfl⟩,
    _law_wide := ⟨f9, _, fun_mk (st := s__law_wide) l9 c9 k9, PySem.W.mg_of X G a9, (fun_mk (st := s__law_wide) l9 c9 k9).binds (ps := ["state", "script"]) fun _ _ _ _ _ _ us hl => match us, hl with | [_, _], _ => rfl⟩,
    _law_any_kind := ⟨f10, _, fun_mk (st := s__law_any_kind) l10 c10 k10, PySem.W.mg_of X G a10, (fun_mk (st := s__law_any_kind) l10 c10 k10).binds (ps := ["state", "script", "names"]) fun _ _ _ _ _ _ us hl => match us, hl with | [_, _, _], _ => rfl⟩,
    _law_same := ⟨f11, _, fun_mk (st := s__law_same) l11 c11 k11, PySem.W.mg_of X G a11, (fun_mk (st := s__law_same) l11 c11 k11).binds (ps := ["actual", "due"]) fun _ _ _ _ _ _ us hl => match us, hl with | [_, _], _ => rfl⟩,
    _law_size := ⟨f12, _, fun_mk (st := s__law_size) l12 c12 k12, PySem.W.mg_of X G a12, (fun_mk (st := s__law_size) l12 c12 k12).binds (ps := ["rows", "kind"]) fun _ _ _ _ _ _ us hl => match us, hl with | [_, _], _ => rfl⟩,
    _law_is_small := ⟨f13, _, fun_mk (st := s__law_is_small) l13 c13 k13, PySem.W.mg_of X G a13, (fun_mk (st := s__law_is_small) l13 c13 k13).binds (ps := ["rows", "kind"]) fun _ _ _ _ _ _ us hl => match us, hl with | [_, _], _ => rfl⟩,
    _law_records := ⟨f14, _, fun_mk (st := s__law_records) l14 c14 k14, PySem.W.mg_of X G a14, (fun_mk (st := s__law_records) l14 c14 k14).binds (ps := ["state", "script"]) fun _ _ _ _ _ _ us hl => match us, hl with | [_, _], _ => rfl⟩,
    _law_options := ⟨f15, _, fun_mk (st := s__law_options) l15 c15 k15, PySem.W.mg_of X G a15, (fun_mk (st := s__law_options) l15 c15 k15).binds (ps := ["rows", "kind"]) fun _ _ _ _ _ _ us hl => match us, hl with | [_, _], _ => rfl⟩,
    _law_step := ⟨f16, _, fun_mk (st := s__law_step) l16 c16 k16, PySem.W.mg_of X G a16, (fun_mk (st := s__law_step) l16 c16 k16).binds (ps := ["state", "script", "rows"]) fun _ _ _ _ _ _ us hl => match us, hl with | [_, _, _], _ => rfl⟩,
    _law_small_kind := ⟨f17, _, fun_mk (st := s__law_small_kind) l17 c17 k17, PySem.W.mg_of X G a17, (fun_mk (st := s__law_small_kind) l17 c17 k17).binds (ps := ["state", "script", "rows"]) fun _ _ _ _ _ _ us hl => match us, hl with | [_, _, _], _ => rfl⟩,
    kind_after := ⟨f18, _, fun_mk (st := s_kind_after) l18 c18 k18, PySem.W.mg_of X G a18, (fun_mk (st := s_kind_after) l18 c18 k18).binds (ps := ["records", "kind", "step"]) fun _ _ _ _ _ _ us hl => match us, hl with | [_, _, _], _ => rfl⟩,
    kinds_along := ⟨f19, _, fun_mk (st := s_kinds_along) l19 c19 k19, PySem.W.mg_of X G a19, (fun_mk (st := s_kinds_along) l19 c19 k19).binds (ps := ["place", "records", "kinds"]) fun _ _ _ _ _ _ us hl => match us, hl with | [_, _, _], _ => rfl⟩,
    kind_at := ⟨f20, _, fun_mk (st := s_kind_at) l20 c20 k20, PySem.W.mg_of X G a20, ⟨fun s us ws _ hl => by
        obtain ⟨u, v1, v2, rfl, rfl⟩ := g3_len hl
        exact .of_eq rfl, g3_rel⟩⟩,
    _law_table := ⟨f21, _, fun_mk (st := s__law_table) l21 c21 k21, PySem.W.mg_of X G a21, (fun_mk (st := s__law_table) l21 c21 k21).binds (ps := ["state", "script", "rows"]) fun _ _ _ _ _ _ us hl => match us, hl with | [_, _, _], _ => rfl⟩,
    _law_walk := ⟨f22, _, fun_mk (st := s__law_walk) l22 c22 k22, PySem.W.mg_of X G a22, (fun_mk (st := s__law_walk) l22 c22 k22).binds (ps := ["state", "script", "rows", "name", "kind"]) fun _ _ _ _ _ _ us hl => match us, hl with | [_, _, _, _, _], _ => rfl⟩,
    _law_followed := ⟨f23, _, fun_mk (st := s__law_followed) l23 c23 k23, PySem.W.mg_of X G a23, (fun_mk (st := s__law_followed) l23 c23 k23).binds (ps := ["rows", "kind", "steps"]) fun _ _ _ _ _ _ us hl => match us, hl with | [_, _, _], _ => rfl⟩,
    _law_told := ⟨f24, _, fun_mk (st := s__law_told) l24 c24 k24, PySem.W.mg_of X G a24, (fun_mk (st := s__law_told) l24 c24 k24).binds (ps := ["place", "rows", "table"]) fun _ _ _ _ _ _ us hl => match us, hl with | [_, _, _], _ => rfl⟩,
    law := ⟨fa, _, fun_mk (st := s_law) l25 c25 k25, PySem.W.mg_of X G a25, (fun_mk (st := s_law) l25 c25 k25).binds (ps := ["script"]) fun _ _ _ _ _ _ us hl => match us, hl with | [_], _ => rfl⟩,
    z_len := PySem.W.mg_none_of X G z_len,
    z_int := PySem.W.mg_none_of X G z_int,
    z_abs := PySem.W.mg_none_of X G z_abs,
    z_isinstance := PySem.W.mg_none_of X G z_isinstance,
    z_bool := PySem.W.mg_none_of X G z_bool,
    z_range := PySem.W.mg_none_of X G z_range,
    z_str := PySem.W.mg_none_of X G z_str,
    z_tuple := PySem.W.mg_none_of X G z_tuple,
    z_list := PySem.W.mg_none_of X G z_list,
    z_sum := PySem.W.mg_none_of X G z_sum,
    z_ValueError := PySem.W.mg_none_of X G z_ValueError,
    c_NoSuchStep := ⟨C_NoSuchStep, PySem.W.mg_of X G xsg, xsx, xsk, xsb, xst, ⟨xs1, xs2, xsb, xs3, xs4, xs5, xs6, xs7⟩, PySem.W.exm_ref xsb xs3 xst xss⟩,
    c_NoSuchVariable := ⟨C_NoSuchVariable, PySem.W.mg_of X G xvg, xvx, xvk, xvb, xvt, ⟨xv1, xv2, xvb, xv3, xv4, xv5, xv6, xv7⟩, PySem.W.exm_ref xvb xv3 xvt xvs⟩,
    sv := PySem.W.exm_ref xvb xv3 xvt sv_,
    c_ForkError := ⟨C_ForkError, PySem.W.mg_of X G g_ForkError⟩,
    c_KindProblem := ⟨C_KindProblem, PySem.W.mg_of X G g_KindProblem⟩,
    c_NoSuchFunction := ⟨C_NoSuchFunction, PySem.W.mg_of X G g_NoSuchFunction⟩,
    c_NotAllocated := ⟨C_NotAllocated, PySem.W.mg_of X G g_NotAllocated⟩,
    c_Refused := ⟨C_Refused, PySem.W.mg_of X G g_Refused⟩,
    i1 := i1,
    i2 := i2,
    i3 := i3,
    i4 := i4,
    i5 := i5,
    i6 := i6,
    i7 := i7,
    v1 := v1,
    v2 := v2,
    v3 := v3,
    v4 := v4,
    v5 := v5,
    v6 := v6,
    v7 := v7,
    a_BORROWS := A_BORROWS,
    g_BORROWS := PySem.W.mg_of X G b_BORROWS,
    t_BORROWS := fun _ => .inr ⟨_, _, _, v_BORROWS, rfl, rfl, by show 2 ≤ sizeLine; decide, (.cons ⟨t0_BORROWS, rfl⟩ (.cons ⟨t1_BORROWS, rfl⟩ .nil))⟩ }
  exact ⟨T.law.fd, fun s v => .of_eq rfl, fun base _ _ => ok_law (P := l.prog) (w := w) (base := base) T⟩
theorem walk {l : PySem.W.OpenLaw} {q : Program} {loose : List Str} {XP : (Str → Option Value) → Heap → Prop} {YP : World → Heap → Prop} {d : DefRec} {K : Params → PySem.W.Frag} (hn : l.most = some 63) (hdf : d.params.defaults = [])
    (hY : ∀ (w : World) (h : Heap), YP w h → (K w.params).In h)
    (F : ∀ (w : World) (mg : Str → Option Value) (fa : Addr) (h : Heap), (K w.params).In h → h.Ns mainGlobals mg → mg d.name = some (.ref fa) →
      ∃ fd : FuncData, (∀ (s : Shared) (u : Value), BindsTo s fd ⟨[u], []⟩ [("script", u)]) ∧ ∀ base : Heap, (K w.params).In base → base.Ns mainGlobals mg → FnOk l.prog w (K w.params) mg base CX0 110 fa fd ["script"] (spLaw (K w.params))) :
    PySem.W.WalkO q loose XP YP l.row.toRowW d [] (fun f vs => PySem.call f vs) :=
  L2.walk_of (n := 63) (k := 110) (x := "script") (CX := fun _ => CX0) (sp := fun w => spLaw (K w.params)) hn (by decide) hdf ⟨rfl, by decide, by decide⟩ hY F (fun _ _ a ns _ _ hS => ⟨a, ns, rfl, hS, fun _ => rfl⟩) fun _ _ _ _ _ z => z
end Kk
open PySem PySem.W PyProof.Rows
set_option maxRecDepth 100000 in
set_option maxHeartbeats 0 in
theorem PySem.Challenge.cw_forklent_k51_kinds_of_places_holds : PySem.Challenge.rw_forklent_k51_kinds_of_places.Holds := by
  w_on; o_law; k_head; (case hw => w_witness2)
  k_fill
  refine Kk.walk (l := PySem.Challenge.rw_forklent_k51_kinds_of_places) rfl rfl (fun w h Y => PySem.W.kIn_of Y) ?F
  case F =>
    intro w mg fa h KX G hmg
    refine' Kk.all_mk KX G hmg ?a0 ?l0 ?c0 ?k0 ?a1 ?l1 ?c1 ?k1 ?a2 ?l2 ?c2 ?k2 ?a3 ?l3 ?c3 ?k3 ?a4 ?l4 ?c4 ?k4 ?a5 ?l5 ?c5 ?k5 ?a6 ?l6 ?c6 ?k6 ?a7 ?l7 ?c7 ?k7 ?a8 ?l8 ?c8 ?k8 ?a9 ?l9 ?c9 ?k9 ?a10 ?l10 ?c10 ?k10 ?a11 ?l11 ?c11 ?k11 ?a12 ?l12 ?c12 ?k12 ?a13 ?l13 ?c13 ?k13 ?a14 ?l14 ?c14 ?k14 ?a15 ?l15 ?c15 ?k15 ?a16 ?l16 ?c16 ?k16 ?a17 ?l17 ?c17 ?k17 ?a18 ?l18 ?c18 ?k18 ?a19 ?l19 ?c19 ?k19 ?a20 ?l20 ?c20 ?k20 ?a21 ?l21 ?c21 ?k21 ?a22 ?l22 ?c22 ?k22 ?a23 ?l23 ?c23 ?k23 ?a24 ?l24 ?c24 ?k24 ?a25 ?l25 ?c25 ?k25 ?z_len ?z_int ?z_abs ?z_isinstance ?z_bool ?z_range ?z_str ?z_tuple ?z_list ?z_sum ?z_ValueError ?xsg ?xsx ?xsk ?xsb ?xst ?xss ?xs1 ?xs2 ?xs3 ?xs4 ?xs5 ?xs6 ?xs7 ?xvg ?xvx ?xvk ?xvb ?xvt ?xvs ?xv1 ?xv2 ?xv3 ?xv4 ?xv5 ?xv6 ?xv7 ?g_ForkError ?g_KindProblem ?g_NoSuchFunction ?g_NotAllocated ?g_Refused ?i1 ?i2 ?i3 ?i4 ?i5 ?i6 ?i7 ?v1 ?v2 ?v3 ?v4 ?v5 ?v6 ?v7 ?b_BORROWS ?v_BORROWS ?sv_
    (case a0 => k_is)
    (case l0 => k_is)
    (case c0 => k_is)
    (case k0 => k_is)
    (case a1 => k_is)
    (case l1 => k_is)
    (case c1 => k_is)
    (case k1 => k_is)
    (case a2 => k_is)
    (case l2 => k_is)
    (case c2 => k_is)
    (case k2 => k_is)
    (case a3 => k_is)
    (case l3 => k_is)
    (case c3 => k_is)
    (case k3 => k_is)
    (case a4 => k_is)
    (case l4 => k_is)
    (case c4 => k_is)
    (case k4 => k_is)
    (case a5 => k_is)
    (case l5 => k_is)
    (case c5 => k_is)
    (case k5 => k_is)
    (case a6 => k_is)
    (case l6 => k_is)
    (case c6 => k_is)
    (case k6 => k_is)
    (case a7 => k_is)
    (case l7 => k_is)
    (case c7 => k_is)
    (case k7 => k_is)
    (case a8 => k_is)
    (case l8 => k_is)
    (case c8 => k_is)
    (case k8 => k_is)
    (case a9 => k_is)
    (case l9 => k_is)
    (case c9 => k_is)
    (case k9 => k_is)
    (case a10 => k_is)
    (case l10 => k_is)
    (case c10 => k_is)
    (case k10 => k_is)
    (case a11 => k_is)
    (case l11 => k_is)
    (case c11 => k_is)
    (case k11 => k_is)
    (case a12 => k_is)
    (case l12 => k_is)
    (case c12 => k_is)
    (case k12 => k_is)
    (case a13 => k_is)
    (case l13 => k_is)
    (case c13 => k_is)
    (case k13 => k_is)
    (case a14 => k_is)
    (case l14 => k_is)
    (case c14 => k_is)
    (case k14 => k_is)
    (case a15 => k_is)
    (case l15 => k_is)
    (case c15 => k_is)
    (case k15 => k_is)
    (case a16 => k_is)
    (case l16 => k_is)
    (case c16 => k_is)
    (case k16 => k_is)
    (case a17 => k_is)
    (case l17 => k_is)
    (case c17 => k_is)
    (case k17 => k_is)
    (case a18 => k_is)
    (case l18 => k_is)
    (case c18 => k_is)
    (case k18 => k_is)
    (case a19 => k_is)
    (case l19 => k_is)
    (case c19 => k_is)
    (case k19 => k_is)
    (case a20 => k_is)
    (case l20 => k_is)
    (case c20 => k_is)
    (case k20 => k_is)
    (case a21 => k_is)
    (case l21 => k_is)
    (case c21 => k_is)
    (case k21 => k_is)
    (case a22 => k_is)
    (case l22 => k_is)
    (case c22 => k_is)
    (case k22 => k_is)
    (case a23 => k_is)
    (case l23 => k_is)
    (case c23 => k_is)
    (case k23 => k_is)
    (case a24 => k_is)
    (case l24 => k_is)
    (case c24 => k_is)
    (case k24 => k_is)
    (case a25 => k_is)
    (case l25 => k_is)
    (case c25 => k_is)
    (case k25 => k_is)
    (case z_len => k_is)
    (case z_int => k_is)
    (case z_abs => k_is)
    (case z_isinstance => k_is)
    (case z_bool => k_is)
    (case z_range => k_is)
    (case z_str => k_is)
    (case z_tuple => k_is)
    (case z_list => k_is)
    (case z_sum => k_is)
    (case z_ValueError => k_is)
    (case xsg => k_is)
    (case xsx => k_exc)
    (case xsk => k_is)
    (case xsb => k_is)
    (case xst => k_is)
    (case xss => k_is)
    (case xs1 => k_is)
    (case xs2 => k_is)
    (case xs3 => k_is)
    (case xs4 => k_is)
    (case xs5 => k_is)
    (case xs6 => k_is)
    (case xs7 => k_is)
    (case xvg => k_is)
    (case xvx => k_exc)
    (case xvk => k_is)
    (case xvb => k_is)
    (case xvt => k_is)
    (case xvs => k_is)
    (case xv1 => k_is)
    (case xv2 => k_is)
    (case xv3 => k_is)
    (case xv4 => k_is)
    (case xv5 => k_is)
    (case xv6 => k_is)
    (case xv7 => k_is)
    (case g_ForkError => k_is)
    (case g_KindProblem => k_is)
    (case g_NoSuchFunction => k_is)
    (case g_NotAllocated => k_is)
    (case g_Refused => k_is)
    (case i1 => kit_is)
    (case i2 => kit_is)
    (case i3 => kit_is)
    (case i4 => kit_is)
    (case i5 => kit_is)
    (case i6 => kit_is)
    (case i7 => kit_is)
    (case v1 => kit_is)
    (case v2 => kit_is)
    (case v3 => kit_is)
    (case v4 => kit_is)
    (case v5 => kit_is)
    (case v6 => kit_is)
    (case v7 => kit_is)
    (case b_BORROWS => k_is)
    (case v_BORROWS => k_is)
    (case sv_ => k_is)
