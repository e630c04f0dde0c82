import PyProof.Rows.All
import Wide.All
import OpenK.AllK
import Wide.FinOn
import PyProof.StrOps2
import HandS.ForMost
import HandS.ForExc
import HandS.SetKeys
import HandS.DictComp
import HandS.ExcInit
import HandS.IsInst
import HandS.Wide
import HandS.Evl
import OpenK.KEqL
import HandS.ExcValue
import HandS.ExcIs
import HandS.ExcField
import KE.KExcIs
import HandS.Defaults
import PySem.Challenge.RW_ownersagree_k01_errors_made
set_option Elab.async false
set_option linter.all false
set_option maxRecDepth 100000
set_option maxHeartbeats 4000000
namespace My
open PySem PySem.Spec PyProof.Rows L2
section
variable {X : Cx}
theorem op_powB : OpR X (binaryOp .Pow) (rI (fun i j => 0 ≤ j ∧ (Builtin.Int.intBits i : Int) * j ≤ 2 ^ 27) fun i j => .int (i ^ j.toNat)) := opI fun _ _ _ _ _ _ _ hc q => pow_int hc.1 hc.2 q
/-- a text, n times -/
def repS (x : Str) (n : Nat) : Str := ⟨(List.replicate n x.cps.toList).flatten.toArray⟩
theorem foldl_arr : ∀ (n : Nat) (a b : Array Nat), (List.replicate n a).foldl (· ++ ·) b = b ++ (List.replicate n a.toList).flatten.toArray
  | 0, a, b => by simp
  | n + 1, a, b => by
    rw [List.replicate_succ, List.foldl_cons, foldl_arr n a (b ++ a)]
    apply Array.ext'; simp [List.replicate_succ]
theorem len_rep {α : Type} : ∀ (n : Nat) (l : List α), (List.replicate n l).flatten.length = n * l.length
  | 0, l => by simp
  | n + 1, l => by rw [List.replicate_succ, List.flatten_cons, List.length_append, len_rep n l, Nat.succ_mul, Nat.add_comm]
theorem op_mulS : OpR X (binaryOp .Mult) (fun x y H Q => ∃ z n, x = .str z ∧ y = .int n ∧ 0 ≤ n ∧ n ≤ 1000 ∧ z.length ≤ 1000 ∧ Q (.str (repS z n.toNat)) H) := by
  intro pins s σ H x y v u Q I rx ry h
  obtain ⟨z, n, rfl, rfl, h0, h1, hz, q⟩ := h
  obtain ⟨t, rfl⟩ := rx
  obtain ⟨t', rfl⟩ := ry
  have fin : ∀ (w : Str) (tk : Tok) , w = repS z n.toNat → ∀ k, EP X pins σ Q (.str w tk) { s with toks := k } := fun w tk e k => ⟨.str (repS z n.toNat), H, I.tok _, ⟨tk, by rw [e]⟩, q⟩
  refine PySem.P.mul_str ?_ ?_ ?_ ?_
  · have a : ¬ n < -(2 ^ 63 : Int) := by omega
    have b : ¬ n ≥ 2 ^ 63 := by omega
    rw [decide_eq_false a, decide_eq_false b]; rfl
  · intro a _
    have : (z.length : Int) ≤ 1000 := by omega
    have h5 : (1000 : Int) ≤ (2 ^ 63 - 1) / n := (Int.le_ediv_iff_mul_le (by omega)).mpr (by omega)
    omega
  · intro a b
    have hz2 : z.length * n.toNat ≤ 1000 * 1000 := Nat.mul_le_mul hz (by omega)
    show decide (z.length * n.toNat > sizeLine) = false
    rw [sizeLine_eq]
    exact decide_eq_false (by omega)
  · by_cases a : n < 1
    · have e : n = 0 := by omega
      subst e
      rw [if_pos a]
      exact ⟨by decide, fin _ _ (by rfl) _⟩
    · rw [if_neg a]
      by_cases b : (n == 1 || z.length == 0) = true
      · rw [if_pos b]
        refine fin _ _ ?_ s.toks
        rcases Bool.or_eq_true _ _ ▸ b with e | e
        · have e : n = 1 := by simpa using e
          subst e
          show z = ⟨_⟩
          cases z; simp [repS]
        · have e : z.cps.size = 0 := by simpa [Str.length] using e
          have e2 : z.cps = #[] := Array.eq_empty_of_size_eq_zero e
          unfold repS
          rw [e2]
          cases z
          simp at e2
          simp [e2]
      · rw [if_neg b]
        refine ⟨?_, fin _ _ ?_ _⟩
        · have hz2 : z.length * n.toNat ≤ 1000 * 1000 := Nat.mul_le_mul hz (by omega)
          show Array.size _ ≤ sizeLine
          rw [foldl_arr, sizeLine_eq]
          have e : (#[] ++ (List.replicate n.toNat z.cps.toList).flatten.toArray).size = n.toNat * z.length := by
            rw [Array.size_append]
            simp only [List.size_toArray, len_rep]
            simp [Str.length]
          rw [e, Nat.mul_comm]
          omega
        · unfold repS
          rw [foldl_arr]
          simp
end
end My
namespace My
open PySem PySem.Spec PyProof.Rows L2
/-- what holds ahead of the rest of a block -/
theorem seq_cut {t u : TS} {D : Ends} {σ : L2.St} {H : Hp} (J : L2.St → Hp → Prop) (hu : ∀ σ H, J σ H → u D σ H) (ht : (∀ σ H, J σ H → u D σ H) → tSeq t u D σ H) : tSeq t u D σ H := ht hu
theorem atI_n {α : Type} {xs : List α} {i : Int} {j : Nat} {v : α} (e : i = (j : Int)) (h : xs[j]? = some v) : atI xs i = some v := by rw [e]; exact atI_nat h
theorem ixN_n {n : Nat} {i : Int} {j : Nat} (e : i = (j : Int)) (h : j < n) : ixN n i = some j := by
  unfold ixN
  rw [e, if_pos (by omega), if_pos (by omega)]
  simp
theorem fmod_rng {a b : Int} (h : 0 < b) : 0 ≤ a.fmod b ∧ a.fmod b < b := ⟨Int.fmod_nonneg_of_pos a h, Int.fmod_lt_of_pos a h⟩
end My

namespace My
open PySem PySem.Spec PyProof.Rows L2 Evl
section
variable {K : PySem.W.Frag} {H : Hp}
mutual
theorem dp_ex {H1 : Hp} (e : Ex H H1) : ∀ {d : PyData} {v : V}, Dp K H v d → Dp K H1 v d
  | _, _, .non => .non
  | _, _, .bl b => .bl b
  | _, _, .int i => .int i
  | _, _, .str x => .str x
  | _, _, .lst h a => .lst (ex_l e h) (dpa_ex e a)
  | _, _, .tup h a => .tup (ex_t e h) (dpa_ex e a)
theorem dpa_ex {H1 : Hp} (e : Ex H H1) : ∀ {ds : List PyData} {vs : List V}, DpAll K H vs ds → DpAll K H1 vs ds
  | _, _, .nil => .nil
  | _, _, .cons h a => .cons (dp_ex e h) (dpa_ex e a)
end
theorem rv_eqD {x y : V} {d e : PyData} {b : Bool} (h1 : Dp K H x d) (h2 : Dp K H y e) (s1 : SeqAt.shaped d = true) (s2 : SeqAt.shaped e = true) (hb : PyData.eqv d e = b) : RV (rEqD K) x y H (.bl b) :=
  fun H1 a _ q => ⟨d, e, dp_ex a h1, dp_ex a h2, s1, s2, by rw [hb]; exact q H1 (Ex.refl H1)⟩
theorem rv_neD {x y : V} {d e : PyData} {b : Bool} (h1 : Dp K H x d) (h2 : Dp K H y e) (s1 : SeqAt.shaped d = true) (s2 : SeqAt.shaped e = true) (hb : (!PyData.eqv d e) = b) : RV (rNeD K) x y H (.bl b) :=
  fun H1 a _ q => ⟨d, e, dp_ex a h1, dp_ex a h2, s1, s2, by rw [hb]; exact q H1 (Ex.refl H1)⟩
theorem rc_int {i : Int} : RC (fun xs H Q => (∃ i, xs = [V.int i] ∧ Q (.int i) H) ∨ ∃ k, xs = [V.bl k] ∧ Q (.int (if k then 1 else 0)) H) [.int i] H (.int i) := fun H1 _ _ q => .inl ⟨i, rfl, q H1 (Ex.refl H1)⟩
theorem rc_intB {b : Bool} : RC (fun xs H Q => (∃ i, xs = [V.int i] ∧ Q (.int i) H) ∨ ∃ k, xs = [V.bl k] ∧ Q (.int (if k then 1 else 0)) H) [.bl b] H (.int (if b then 1 else 0)) := fun H1 _ _ q => .inr ⟨b, rfl, q H1 (Ex.refl H1)⟩
theorem rc_abs {i : Int} : RC (fun xs H Q => ∃ i, xs = [V.int i] ∧ Q (.int (if i < 0 then -i else i)) H) [.int i] H (.int (if i < 0 then -i else i)) := fun H1 _ _ q => ⟨i, rfl, q H1 (Ex.refl H1)⟩
end
theorem shaped_ints (ns : List Int) : SeqAt.shaped (.list (ns.map PyData.int)) = true := PySem.W.ke_shaped_ints ns
end My
namespace My
open PySem PySem.Spec PyProof.Rows L2 Evl
section
variable {D : Ends} {σ : L2.St} {H : Hp} {t u : TS} {te ta tb : TE} {g : TG} {r : R2} {Q : VK} {v : V} {i : Nat}
theorem w_seq (h : t { D with nx := u D } σ H) : tSeq t u D σ H := h
theorem w_asg (h : te σ H fun v H1 => g v σ H1 D.nx) : tAsg te g D σ H := h
theorem w_set (h : te σ H fun v H1 => D.nx (σ.set i (some v)) H1) : tAsg te (gName i) D σ H := h
theorem q_set (h : te σ H fun v H1 => u D (σ.set i (some v)) H1) : tSeq (tAsg te (gName i)) u D σ H := h
theorem w_op (h : ta σ H fun x H1 => tb σ H1 fun y H2 => r x y H2 Q) : tOp r ta tb σ H Q := h
theorem w_ev (h : Ev te σ H v) (k : ∀ H1, Ex H H1 → Q v H1) : te σ H Q := h H (Ex.refl H) Q k
theorem w_evl {xs : List V} (h : EvL te σ H xs) (k : ∀ p H1, H p = none → Ex H H1 → H1 p = some (.lst xs) → Q (.ref p) H1) : te σ H Q := h H (Ex.refl H) Q k
theorem w_evu {xs : List V} (h : EvU te σ H xs) (k : ∀ p H1, H p = none → Ex H H1 → H1 p = some (.tup xs) → Q (.ref p) H1) : te σ H Q := h H (Ex.refl H) Q k
theorem w_eva {tl : TA} {vs : List V} {Q : List V → Hp → Prop} (h : EvA tl σ H vs) (k : ∀ H1, Ex H H1 → Q vs H1) : tl σ H Q := h H (Ex.refl H) Q k
theorem w_evt {tt : TT} {b : Bool} {Q : Bool → Hp → Prop} (h : EvT tt σ H b) (k : ∀ H1, Ex H H1 → Q b H1) : tt σ H Q := h H (Ex.refl H) Q k
theorem w_ret (h : te σ H D.rt) : tRet te D σ H := h
theorem w_drop (h : te σ H fun _ H1 => D.nx σ H1) : tDrop te D σ H := h
theorem q_drop' (h : te σ H fun _ H1 => u D σ H1) : tSeq (tDrop te) u D σ H := h
theorem w_call {sp : Sp} {dvs : List V} {E : XK} {tl : TA} (h : tl σ H fun vs H1 => sp (vs ++ dvs) H1 Q E) : tCall sp dvs E tl σ H Q := h
theorem w_cons {tl : TA} {Q : List V → Hp → Prop} (h : ta σ H fun x H1 => tl σ H1 fun xs H2 => Q (x :: xs) H2) : tCons ta tl σ H Q := h
theorem w_nil {Q : List V → Hp → Prop} (h : Q [] H) : tNil σ H Q := h
theorem w_cb {rc : List V → Hp → VK → Prop} {tl : TA} (h : tl σ H fun vs H1 => rc vs H1 Q) : tCB rc tl σ H Q := h
theorem w_ifS {c : TT} (h : c σ H fun b H1 => if b = true then t D σ H1 else u D σ H1) : tIfS c t u D σ H := h
theorem w_test {Q : Bool → Hp → Prop} (h : te σ H fun x H' => ∃ k, x = .bl k ∧ Q k H') : tTest te σ H Q := h
end
end My
namespace My
open PySem PySem.Spec PyProof.Rows L2 Evl
theorem s_norm {σ : L2.St} (σ' : L2.St) {t : TS} {D : Ends} {H : Hp} (h : σ = σ') (k : t D σ' H) : t D σ H := by rw [h]; exact k
theorem cast_mod (a b : Nat) : ((a % b : Nat) : Int) = (a : Int) % (b : Int) := by simp
end My
namespace My
open PySem PySem.Spec PyProof.Rows L2 Evl
section
variable {X : Cx}
theorem pe_cls {x : Str} {C : Addr} {pos : Pos} (hg : Gl X x) (hm : X.mg x = some (.ref C)) (hd : (x == ("__debug__" : Str)) = false := by decide) : PE X (.Name x pos) (tC (.ref C)) := pe_glob hg hm rfl hd
theorem pe_ty {x : Str} {n : String} {pos : Pos} (hg : Gl X x) (hm : X.mg x = none) (hv : bootBuiltins x = some (.type n)) (hn : x ≠ "__name__" := by decide) (hd : (x == ("__debug__" : Str)) = false := by decide) : PE X (.Name x pos) (tC (.ty n)) := pe_bltn hg hm hv rfl hn hd
end
end My
namespace My
open PySem PySem.Spec PyProof.Rows L2 Evl
/-! ### the rules with the written part named: within a comprehension it may not be read off the block's own context -/
section
variable {X : Cx}
theorem ixL (K : PySem.W.Frag) (h : X.K = K := by rfl) : IxR X (rIxL K) := by subst h; exact ix_list
theorem ixT (K : PySem.W.Frag) (h : X.K = K := by rfl) : IxR X (rIxT K) := by subst h; exact ix_tup
theorem slL (K : PySem.W.Frag) (h : X.K = K := by rfl) : SlR X (rSlL K) := by subst h; exact sl_list
theorem slT (K : PySem.W.Frag) (h : X.K = K := by rfl) : SlR X (rSlT K) := by subst h; exact sl_tup
theorem inSeq (K : PySem.W.Frag) (h : X.K = K := by rfl) : OpR X (compareOp .In) (rIn K false) := by subst h; exact op_in_seq
theorem notInSeq (K : PySem.W.Frag) (h : X.K = K := by rfl) : OpR X (compareOp .NotIn) (rIn K true) := by subst h; exact op_notIn_seq
theorem eqDK (K : PySem.W.Frag) (hu : X.A.units + 64 < cLine) (h : X.K = K := by rfl) : OpR X (compareOp .Eq) (rEqD K) := by subst h; exact op_eqD hu
theorem neDK (K : PySem.W.Frag) (hu : X.A.units + 64 < cLine) (h : X.K = K := by rfl) : OpR X (compareOp .NotEq) (rNeD K) := by subst h; exact op_neD hu
theorem lenSeq (K : PySem.W.Frag) (h : X.K = K := by rfl) : CallR X (.builtin "len") (rLenS K) := by subst h; exact call_len_seq
theorem listOf (K : PySem.W.Frag) (h : X.K = K := by rfl) : CallR X (.type "list") (rListS K) := by subst h; exact call_list_of
def rTupS (K : PySem.W.Frag) : List V → Hp → VK → Prop := fun xs H Q => ∃ p ys, xs = [.ref p] ∧ ((SqL K H p ys ∧ ∀ l, H l = none → Q (.ref l) (upd H l (.tup ys))) ∨ (SqT K H p ys ∧ Q (.ref p) H))
theorem tupOf (K : PySem.W.Frag) (h : X.K = K := by rfl) : CallR X (.type "tuple") (rTupS K) := by subst h; exact call_tuple_of
theorem allK (K : PySem.W.Frag) (hc : X.calm = true) (h : X.K = K := by rfl) : CallR X (.builtin "all") (rAll K) := by subst h; exact cr_all hc
theorem anyK (K : PySem.W.Frag) (hc : X.calm = true) (h : X.K = K := by rfl) : CallR X (.builtin "any") (rAny K) := by subst h; exact cr_any hc
theorem sortedK (K : PySem.W.Frag) (h : X.K = K := by rfl) : CallR X (.builtin "sorted") (rSortedS K) := by subst h; exact cr_sortedS
theorem isiK (K : PySem.W.Frag) (h : X.K = K := by rfl) : CallR X (.builtin "isinstance") (rIsi K) := by subst h; exact call_isi
theorem idxK (K : PySem.W.Frag) (h : X.K = K := by rfl) : MtR X "list.index" (rIndex K) := by subst h; exact mt_index
def rJoinS (K : PySem.W.Frag) : V → List V → Hp → VK → Prop := fun x xs H Q => ∃ a p, ∃ ys : List Str, x = .str a ∧ xs = [.ref p] ∧ (SqL K H p (ys.map V.str) ∨ SqT K H p (ys.map V.str)) ∧ (ys.map Str.length).sum + (ys.length - 1) * a.length ≤ 16777216 ∧ Q (.str (Txt.join a ys)) H
theorem piL (K : PySem.W.Frag) {tg l : Expr} {tl : TE} (hl : PE X l tl) (h : X.K = K := by rfl) : PI X tg l (iList K tl) := by subst h; exact pi_list hl
theorem piT (K : PySem.W.Frag) {tg l : Expr} {tl : TE} (hl : PE X l tl) (h : X.K = K := by rfl) : PI X tg l (iTup K tl) := by subst h; exact pi_tup hl
theorem fldK (K : PySem.W.Frag) {e : Expr} {f : Str} {pos : Pos} {ta : TE} (he : PE X e ta) (h : X.K = K := by rfl) (hb : attributeBase e f X.env (eval e X.env) = eval e X.env := by rfl) : PE X (.Attribute e f pos) (tFld K ta f) := by subst h; exact pe_fld he hb
theorem truK (K : PySem.W.Frag) {a : Expr} {ta : TE} (ha : PE X a ta) (h : X.K = K := by rfl) (he : ∀ whole, isTrue a X.env whole = (do let v ← whole; standAt a.pos; holding [v] (truthy v)) := by intro _; rfl) : PT X a (fun σ H Q => ta σ H fun x H' => ∃ k, TruV K x H' k ∧ Q k H') := by subst h; exact pt_truth ha he
theorem bmK (K : PySem.W.Frag) {o e : Expr} {es : List Expr} {to : TE} {t : TA} {name : Str} {apos cpos : Pos} {T id : String} {r : V → List V → Hp → VK → Prop} (pa : PlainAttrs T) (slot : Slot T name id) (hty : typeOf (.builtin id) = pure (.type "method_descriptor")) (hm : MtR X id r) (ho : PE X o to) (ha : PA X (e :: es) t) (h : X.K = K := by rfl)
    (hbase : attributeBase o name X.env (eval o X.env) = eval o X.env := by rfl)
    (hfew : ((backTo cpos (starEach (e :: es) X.env)).all (fun x => !x.1) && (backToKw cpos (keywordEach [] X.env)).all (fun x => x.1.isSome)
      && decide ((e :: es).length + ([] : List Keyword).length + (if ([] : List Keyword).isEmpty then 0 else 1) < 30)) = true := by rfl)
    (hline : (apos.endLine == cpos.line) = true := by rfl) (hs : starEach (e :: es) X.env = (false, eval e X.env) :: starEach es X.env := by rfl) (hplain : (backTo cpos (starEach es X.env)).any (·.1) = false := by rfl) :
    PE X (.Call (.Attribute o name apos) (e :: es) [] cpos) (tBM K T r to t) := by subst h; exact pe_bm pa slot hty hm ho ha hbase hfew hline hs hplain
theorem bmK0 (K : PySem.W.Frag) {o : Expr} {to : TE} {name : Str} {apos cpos : Pos} {T id : String} {r : V → List V → Hp → VK → Prop} (pa : PlainAttrs T) (slot : Slot T name id) (hty : typeOf (.builtin id) = pure (.type "method_descriptor")) (hm : MtR X id r) (ho : PE X o to) (h : X.K = K := by rfl)
    (hbase : attributeBase o name X.env (eval o X.env) = eval o X.env := by rfl) (hline : (apos.endLine == cpos.line) = true := by rfl) : PE X (.Call (.Attribute o name apos) [] [] cpos) (tBM0 K T r to) := by subst h; exact pe_bm0 pa slot hty hm ho hbase hline
end
end My

namespace My
open PySem PySem.Spec PyProof.Rows L2
theorem exc_cl {K : PySem.W.Frag} {D : Addr} (C : ExcC K D) : (PySem.W.clsIn K D).isSome = true := by
  obtain ⟨cd, e, _⟩ := PySem.W.any_some C.hd
  rw [e]; rfl
end My
namespace My
open PySem PySem.Spec PyProof.Rows L2
section
variable {X : Cx} {pins : List (Addr × Obj)} {σ : L2.St} {H : Hp} {s : Shared}
/-- an exception of the class at D, with attributes or with none, stands at a -/
def ExAny (H : Hp) (a D : Addr) : Prop := (∃ d fs, H a = some (exo a D (some d)) ∧ H d = some (exd d fs)) ∨ H a = some (ExO (.ref D) a)
theorem ExAny.inst {a D : Addr} (I : Inv X pins σ H s) (h : ExAny H a D) : ∃ ox od, PySem.W.InstAt s.heap a ox D od := by
  rcases h with ⟨d, fs, h1, h2⟩ | h
  · obtain ⟨t1, e1⟩ := exo_at I.hok h1
    obtain ⟨mA, hns, r⟩ := exd_at I.hok h2
    obtain ⟨o, es, ep, e2, _⟩ := hns
    exact ⟨_, some o, e1, rfl, rfl, e2⟩
  · obtain ⟨⟨oe, vs, e1, z, dd, _⟩, _⟩ := I.hok a _ h
    exact ⟨oe, none, e1, z.1, by unfold PySem.W.notCls; rw [dd], by rw [z.2]; trivial⟩
/-- isinstance(e, c) -/
def rIsX (K : PySem.W.Frag) : List V → Hp → VK → Prop := fun xs H Q => ∃ (a D : Addr) (c : V) (cv : Value) (b : Bool), xs = [.ref a, c] ∧ ClsV c cv ∧ ExcC K D ∧ ExAny H a D ∧ PySem.W.kitOne K (.ref D) cv = some b ∧ Q (.bl b) H
theorem call_isX : CallR X (.builtin "isinstance") (rIsX X.K) := by
  intro pins s σ H xs us Q I r h
  obtain ⟨a, D, c, cv, b, rfl, k, C, ea, e, q⟩ := h
  obtain ⟨u1, u2, rfl, r1, r2⟩ := vals2 r
  have e2 := k.eq r2
  subst e2
  cases (show u1 = Value.ref a from r1)
  obtain ⟨ox, od, J⟩ := ea.inst I
  exact PySem.W.kia_one (PySem.W.kitx_exc (exc_cl C) C.hg C.hk C.hs C.ha C.hn C.ht C.hm) I.kIn J e (fun z => nomatch z) fun tk => ⟨.bl b, H, I.tok tk, rfl, q⟩
/-- e.f of an exception -/
def tXf (K : PySem.W.Frag) (te : TE) (f : Str) : TE := fun σ H Q => te σ H fun x H1 => ∃ (a D d : Addr) (fs : List (Str × V)) (v : V), x = .ref a ∧ ExcC K D ∧ PySem.W.findIn K (.ref D) f = some none ∧ H1 a = some (exo a D (some d)) ∧ H1 d = some (exd d fs) ∧ fs.lookup f = some v ∧ Q v H1
theorem pe_xf {e : Expr} {te : TE} {f : Str} {pos : Pos} (he : PE X e te) (hb : attributeBase e f X.env (eval e X.env) = eval e X.env := by rfl) : PE X (.Attribute e f pos) (tXf X.K te f) := by
  refine ⟨fun pins s σ H Q I h => ?_⟩
  refine attr_of hb (thn (he.run pins s σ H _ I h) fun u s1 hh => ?_)
  obtain ⟨x, H1, I1, rx, a, D, d, fs, v, ex, C, hno, h1, h2, hl, q⟩ := hh
  subst ex
  obtain rfl : u = Value.ref a := rx
  obtain ⟨t1, e1⟩ := exo_at I1.hok h1
  obtain ⟨mA, hns, hr⟩ := exd_at I1.hok h2
  obtain ⟨od, ho, hlk⟩ := lookIn_ns hns
  obtain ⟨u, hu, ru⟩ := RelO.some_of (v := v) (o := mA f) (by rw [← hl]; exact hr f)
  have J : PySem.W.InstAt s1.heap a _ D (some od) := ⟨e1, rfl, rfl, ho⟩
  exact HandSPX.exc_get I1.kIn J C.hg C.hk C.hs (PySem.W.findObj_own C.hd hno rfl (by rw [hlk, hu])) (handed_of ru) ⟨v, H1, I1.tok _, ru, q⟩
/-- C(e, ..), an exception as a value, C's own __init__ keeping sp -/
def tMkX (C : Addr) (sp : Sp) (dvs : List V) (ta : TA) : TE := fun σ H Q => ta σ H fun vs H1 => vs.length ≤ 1000 ∧ ∀ a, H1 a = none → sp (.ref a :: (vs ++ dvs)) (upd H1 a (exo a C none)) (fun v H2 => v = .non ∧ Q (.ref a) H2) (fun _ _ _ => False)
theorem pe_oexV {CX : CXT} {x : Str} {C fI : Addr} {k : Nat} {fd : FuncData} {ps : List Str} {sp : Sp} {ds : List Value} {dvs : List V} {p pos : Pos} {e : Expr} {es : List Expr} {ta : TA} (T : OexC X.K C)
    (iC : PySem.W.findIn X.K (.ref C) "__init__" = some (some (.ref fI))) (tI : PySem.W.typeIn X.K (.ref fI) = some (.type "function")) (FI : FnOk X.prog X.w X.K X.mg X.base CX k fI fd ps sp)
    (room : Room (k + 1) X.A) (bi : Binds X.K fd ps ds) (vd : Vals dvs ds) (out : Passes CX X (fun _ _ _ => False)) (hg : Gl X x) (hm : X.mg x = some (.ref C)) (args : PA X (e :: es) ta)
    (nodbg : (x == ("__debug__" : Str)) = false := by decide) (st1 : starEach (e :: es) X.env = (false, eval e X.env) :: starEach es X.env := by rfl) (st2 : (backTo pos (starEach es X.env)).any (·.1) = false := by rfl) :
    PE X (.Call (.Name x p) (e :: es) [] pos) (tMkX C sp dvs ta) := by
  constructor; intro pins s σ H Q I want
  obtain ⟨_, _, _, _, bm, _, _, _, _, _, _, _, _, _, _, isC, chain⟩ := T.cls
  refine wpAny_Call_Name_kw (ld_glob I hg hm (PySem.W.callWith_K (h₀ := X.base) I.ok.mod.kin T.kC (thn (args.run pos pins s σ H _ I want) fun us s1 got => ?_) st1 st2) nodbg)
  obtain ⟨vs, H1, J, rel, few, made⟩ := got
  refine ⟨J.kIn, ?_⟩; obtain ⟨hp, gs, dr, tk, os⟩ := s1
  -- the new exception stands at the second free place
  obtain ⟨a, ea⟩ : ∃ a, a = hp.objs.size + 1 := ⟨_, rfl⟩
  have free : H1 a = none := by rw [ea]; exact J.hok.fresh (Nat.le_succ _)
  have promise := made a free
  obtain ⟨h2, eh⟩ : ∃ h2, h2 = (hp.push (PySem.W.kdv_tup us)).push (PySem.HandSPX.excO C hp.objs.size) := ⟨_, rfl⟩
  have grows : ∀ b o, hp.get? b = some o → h2.get? b = some o := fun b o q => by rw [eh]; exact Heap.get?_push_of_some _ (Heap.get?_push_of_some _ q)
  have there : h2.get? a = some (PySem.HandSPX.excO C hp.objs.size) := by rw [eh, ea]; heap_get
  have J2 : Inv X pins σ (upd H1 a (exo a C none)) ⟨h2, gs, dr, tk, os⟩ := J.laid (t' := tk) (h' := h2) grows (by rw [ea]; exact Nat.le_succ _) (exo_ok there)
  have rel2 : Vals (V.ref a :: (vs ++ dvs)) (Value.ref a :: (us ++ ds)) := .cons rfl (rel.append vd)
  have same : (Value.ref a :: us ++ ds).length = ps.length := Eq.trans rel2.length.symm (FI.len _ _ _ _ promise)
  have short : us.length ≤ sizeLine := by have z := Paired.length rel; rw [sizeLine_eq]; omega
  refine wpAny_call (PySem.HandSPX.call_own F.excBase_ValueError (fun Y => PySem.HandSPX.refsVE_contains Y bm chain) (J.kIn _ _ isC) (PySem.W.looks_findIn J.kIn iC) (fun self => PySem.W.bind_fn J.kIn self tI) short ?_)
  subst ea; subst eh
  refine codeAny_mono (FI.run _ X.stack _ _ ⟨Value.ref (hp.objs.size + 1) :: us, []⟩ _ _ _ (fun _ _ _ => False) (room.make C us []) (J2.env0.make C us []) (bi _ (Value.ref (hp.objs.size + 1) :: us) J2.kIn same) rel2 promise) fun r s' end_ => ?_
  match r, end_ with
  | .error er, z => exact out pins σ _ _ er s' J2 z
  | .ok (.ret u), ⟨v, H3, eo, eb, eu, ek, er, ev, want'⟩ => subst ev; exact ⟨er, .ref (hp.objs.size + 1), H3, J2.call' (ch := []) eo eu ek eb (fun b z => absurd z (by simp)), rfl, want'⟩
/-- C(), an exception class without an own __init__, as a value -/
def tMkX0 (C : Addr) : TE := fun _ H Q => ∀ a, H a = none → Q (.ref a) (upd H a (ExO (.ref C) a))
theorem pe_exc0 {C : Addr} {bmB : List Value} {B newId initId : String} {x : Str} {p pos : Pos} (F : ExcBaseFacts B newId initId bmB) (q : PySem.W.excIn X.K C bmB newId = true) (gC : X.mg x = some (.ref C)) (kC : PySem.W.keepIn X.K (.ref C) = true) (hg : Gl X x)
    (hdb : (x == ("__debug__" : Str)) = false := by decide) : PE X (.Call (.Name x p) [] [] pos) (tMkX0 C) := by
  refine ⟨fun pins s σ H Q I h => ?_⟩
  refine wpAny_Call_Name_kw (ld_glob I hg gC ?_ hdb)
  refine PySem.W.callWith_K0 I.kIn kC ?_
  obtain ⟨bm, N, nm, qn, bs, hdct, sn, sub, ab, col, dd, k0, k1, k2, k3, k5, mN, hC, hN, hni, T⟩ := exc_obj I.kIn q
  refine wpAny_call_exc_subT F T hC hN hni (fun h' a hm => ?_) (by show 0 ≤ sizeLine; omega)
  have hn : H a = none := I.hok.gone hm.new
  obtain ⟨t, ht, _, _⟩ := hm.there
  exact ⟨.ref a, upd H a (ExO (.ref C) a), I.laidN hm.keeps hm.new hn (exO_ok ht ⟨rfl, rfl⟩ rfl rfl rfl (show 4 < 6 by decide)), rfl, h a hn⟩
end
end My
namespace My
open PySem PySem.Spec PyProof.Rows L2
section
variable {X : Cx}
theorem xfK (K : PySem.W.Frag) {e : Expr} {te : TE} {f : Str} {pos : Pos} (he : PE X e te) (h : X.K = K := by rfl) (hb : attributeBase e f X.env (eval e X.env) = eval e X.env := by rfl) : PE X (.Attribute e f pos) (tXf K te f) := by subst h; exact pe_xf he hb
theorem isXK (K : PySem.W.Frag) (h : X.K = K := by rfl) : CallR X (.builtin "isinstance") (rIsX K) := by subst h; exact call_isX
end
end My

namespace My
open PySem PySem.Spec PyProof.Rows L2
/-- isinstance(e, c), e the exception that the suite holds, with its attributes -/
def rIsE2 (K : PySem.W.Frag) (a : Addr) (cls : Value) (d : Option Addr) : List V → Hp → VK → Prop := fun xs H Q => ∃ (D dd : Addr) (c : V) (cv : Value) (b : Bool) (fs : List (Str × V)), cls = .ref D ∧ d = some dd ∧ ExcC K D ∧ xs = [.ref a, c] ∧ ClsV c cv ∧ H dd = some (.xd fs) ∧ PySem.W.kitOne K (.ref D) cv = some b ∧ Q (.bl b) H
theorem call_isE2 {X : Cx} {a : Addr} {cls : Value} {d : Option Addr} {oe : Obj} {pn : List (Addr × Obj)} (hz : Zc cls d oe) (hf : ∃ vs, oe.data = .fields vs) : CallR (X.suite a ((a, oe) :: pn)) (.builtin "isinstance") (rIsE2 X.K a cls d) := by
  intro pins s σ H xs us Q I r h
  obtain ⟨D, dd, c, cv, b, fs, rfl, rfl, C, rfl, k, hx, e, q⟩ := h
  obtain ⟨u1, u2, rfl, r1, r2⟩ := vals2 r
  have e2 := k.eq r2
  subst e2
  cases (show u1 = Value.ref a from r1)
  obtain ⟨hget, _⟩ := I.pin (a, oe) (List.mem_append.mpr (.inl List.mem_cons_self))
  obtain ⟨vs, hv⟩ := hf
  have hxo : ObjOk X.prog X.w H s.heap dd (.xd fs) := I.hok dd _ hx
  obtain ⟨mA, ⟨o, es, ep, e2, _⟩, hr⟩ := hxo
  have J : PySem.W.InstAt s.heap a oe D (some o) := ⟨hget, hz.1, by unfold PySem.W.notCls; rw [hv], by rw [hz.2]; exact e2⟩
  exact PySem.W.kia_one (PySem.W.kitx_exc (exc_cl C) C.hg C.hk C.hs C.ha C.hn C.ht C.hm) I.kIn J e (fun z => nomatch z) fun tk => ⟨.bl b, H, I.tok tk, rfl, q⟩
end My

namespace My
open PySem PySem.Spec PyProof.Rows L2 Evl
def top (i : Nat) : Stmt := PySem.Challenge.pw_ownersagree_k01_errors_made.main.body.getD i (.Pass ⟨0, 0, 0, 0⟩)
/-! ### the drawing state: at st, its rest at l -/
def Ext (st l : Addr) (H H' : Hp) : Prop := ∀ b o, b ≠ st → b ≠ l → H b = some o → H' b = some o
theorem Ext.refl {st l : Addr} {H : Hp} : Ext st l H H := fun _ _ _ _ e => e
theorem Ext.trans {st l : Addr} {H H1 H2 : Hp} (a : Ext st l H H1) (b : Ext st l H1 H2) : Ext st l H H2 := fun c o n m e => b c o n m (a c o n m e)
theorem Ext.same {st l : Addr} {H H1 : Hp} (a : Same H H1) : Ext st l H H1 := fun c o _ _ e => a c o e
theorem Ext.upd1 {st l : Addr} {H H1 : Hp} {o : HO} (a : Ext st l H H1) : Ext st l H (upd H1 st o) := fun c u n m e => by rw [upd_ne n]; exact a c u n m e
theorem Ext.upd2 {st l : Addr} {H H1 : Hp} {o : HO} (a : Ext st l H H1) : Ext st l H (upd H1 l o) := fun c u n m e => by rw [upd_ne m]; exact a c u n m e
theorem Same.new {H : Hp} {p : Addr} {o : HO} (h : H p = none) : Same H (upd H p o) := fun b u e => by rw [upd_ne (ne_of_none e h)]; exact e
structure StAt (H : Hp) (st l : Addr) : Prop where
  ne : st ≠ l
  ex : ∃ (cs : List Int) (b c d : Int), H st = some (.lst [.ref l, .int b, .int c, .int d]) ∧ H l = some (.lst (cs.map V.int)) ∧ cs.length ≤ 63
theorem StAt.same {H H' : Hp} {st l : Addr} (S : StAt H st l) (e : Same H H') : StAt H' st l := by
  obtain ⟨n, cs, b, c, d, h1, h2, h3⟩ := S
  exact ⟨n, cs, b, c, d, e _ _ h1, e _ _ h2, h3⟩
theorem StAt.off {H : Hp} {st l p : Addr} (S : StAt H st l) (h : H p = none) : p ≠ st ∧ p ≠ l := by
  obtain ⟨n, cs, b, c, d, h1, h2, h3⟩ := S
  exact ⟨(ne_of_none h1 h).symm, (ne_of_none h2 h).symm⟩
theorem dp_ints {K : PySem.W.Frag} {H : Hp} : ∀ cs : List Int, DpAll K H (cs.map V.int) (cs.map PyData.int)
  | [] => .nil
  | c :: cs => .cons (.int c) (dp_ints cs)
abbrev sState : Stmt := top 25
abbrev sDraw : Stmt := top 26
/-- what the top leaves of the names that a draw needs -/
structure TD (mg : Str → Option Value) : Prop where
  n_int : mg "int" = none
  n_abs : mg "abs" = none
  n_range : mg "range" = none
  n_len : mg "len" = none
  n_list : mg "list" = none
def spState (K : PySem.W.Frag) : Sp := fun vs H Q _ => ∃ (a : Addr) (ns : List Int), vs = [.ref a] ∧ SqL K H a (ns.map V.int) ∧ ∀ (H' : Hp) (st l : Addr), Same H H' → StAt H' st l → H st = none → H l = none → Q (.ref st) H'
def spDraw : Sp := fun vs H Q _ => ∃ (st l : Addr) (n : Int), vs = [.ref st, .int n] ∧ StAt H st l ∧ 0 < n ∧ n < 1000000000 ∧
  ∀ (r : Int) (H' : Hp), 0 ≤ r → r < n → Ext st l H H' → StAt H' st l → Q (.int r) H'
section
variable {P : Program} {w : World} {K : PySem.W.Frag} {mg : Str → Option Value} {base : Heap}
theorem scD : FnScope ["st", "limit", "cell", "digit"] ["st", "limit"] (defScope sDraw) := ⟨rfl, rfl, rfl, by decide +kernel, rfl, by decide +kernel, by decide +kernel⟩
theorem ok_draw {f : Addr} {fd : FuncData} (F : Fun K "_law_draw" "_law_draw" sDraw f fd) (T : TD mg) : FnOk P w K mg base CX0 1 f fd ["st", "limit"] spDraw := by
  refine F.ok scD (fun vs H Q E h => ?_) (fun cdv A outer s H vs Q E hr h => ?_)
  · obtain ⟨st, l, n, rfl, _⟩ := h
    rfl
  · obtain ⟨st, l, n, rfl, ⟨hne, cs, b, c, d, h1, h2, h3⟩, hn, hn2, k⟩ := h
    have hu64 := hr.units
    refine ⟨_, (pss_cut (ps_if (PW.pt (pw_and (pt_cmpR op_eq (pe_ix (ixL K) (pv 0) pe_int (fun _ _ => rfl)) pe_int (nomark _)) (pw_and1 (pt_cmpR (neDK K hu64) (pe_ix (ixL K) (pv 0) pe_int (fun _ _ => rfl)) (pe_lst pa_nil) (nomark _)))))
      (pss_cons (ps_set (i := 2) scD.nd rfl (Or.inl rfl) (pe_op op_modN (pe_callTy call_int1 (by rfl) T.n_int (by decide +kernel) (pa_cons (bmK K PySem.F.plainAttrs_list PySem.F.slot_list_pop PySem.F.type_list_pop mt_popAt (pe_ix (ixL K) (pv 0) pe_int (fun _ _ => rfl)) (pa_cons pe_int pa_nil)) pa_nil)) (pe_op op_powB (pe_op op_pow pe_int pe_int) pe_int)))
      (pss_one (ps_if (pt_cmpR op_ge (pv 2) (pe_op op_pow pe_int pe_int) (nomark _))
        (pss_one (ps_asg (pv 2) (pg_sub (pv 0) pe_int set_list)))
        (pss_one (ps_asg (pe_op op_modN (pe_callTy call_int1 (by rfl) T.n_int (by decide +kernel) (pa_cons (pe_op op_add (pe_op op_add (pe_op op_mul (pe_ix (ixL K) (pv 0) pe_int (fun _ _ => rfl)) pe_int) (pe_op op_mul (pv 2) pe_int)) pe_int) pa_nil)) pe_int) (pg_sub (pv 0) pe_int set_list))))))
      pss_nil)
    (pss_cons (ps_if (pt_cmpR op_gt (pe_ix (ixL K) (pv 0) pe_int (fun _ _ => rfl)) pe_int (nomark _))
      (pss_cons (ps_set (i := 3) scD.nd rfl (Or.inl rfl) (pe_op op_modN (pe_callTy call_int1 (by rfl) T.n_int (by decide +kernel) (pa_cons (pe_ix (ixL K) (pv 0) pe_int (fun _ _ => rfl)) pa_nil)) (pv 1)))
      (pss_cons (ps_asg (pe_op op_fdivN (pe_ix (ixL K) (pv 0) pe_int (fun _ _ => rfl)) (pv 1)) (pg_sub (pv 0) pe_int set_list))
      (pss_one (ps_ret (pv 3)))))
      pss_nil)
    (pss_cons (ps_asg (pe_op op_add (pe_ix (ixL K) (pv 0) pe_int (fun _ _ => rfl)) pe_int) (pg_sub (pv 0) pe_int set_list))
    (pss_cons (ps_asg (pe_op op_modN (pe_callTy call_int1 (by rfl) T.n_int (by decide +kernel) (pa_cons (pe_op op_add (pe_op op_mul (pe_ix (ixL K) (pv 0) pe_int (fun _ _ => rfl)) pe_int) (pe_op op_mul (pe_ix (ixL K) (pv 0) pe_int (fun _ _ => rfl)) pe_int)) pa_nil)) pe_int) (pg_sub (pv 0) pe_int set_list))
    (pss_one (ps_ret (pe_op op_modN (pe_op op_modN (pe_callTy call_int1 (by rfl) T.n_int (by decide +kernel) (pa_cons (pe_op op_add (pe_op op_mul (pe_ix (ixL K) (pv 0) pe_int (fun _ _ => rfl)) pe_int) (pe_ix (ixL K) (pv 0) pe_int (fun _ _ => rfl))) pa_nil)) pe_int) (pv 1)))))))), ?_⟩
    refine q_cut (M := fun σ H' => ∃ (cs : List Int) (b c d : Int) (v : Option V), σ = [some (.ref st), some (.int n), v, none] ∧ H' st = some (.lst [.ref l, .int b, .int c, .int d]) ∧ H' l = some (.lst (cs.map V.int)) ∧ cs.length ≤ 63 ∧ Ext st l H H') ?_ ?_
    · refine s_when (b := decide (b = 0) && !decide (cs = [])) (et_and (et_test (ev_is (ev_op (ev_op (ev_var rfl) ev_c (rv_ixL (SqL.of h1) rfl)) ev_c (rv_eq rfl)) (by simp))) (fun _ => ?_)) (fun hb H1 e1 => ?_) (fun hb H1 e1 => ?_)
      · refine et_test (ev_opL (ev_op (ev_var rfl) ev_c (rv_ixL (SqL.of h1) rfl)) (el_lst ea_nil (by decide)) (fun p H2 hp e2 => rv_neD (d := .list (cs.map PyData.int)) (e := .list []) (.lst (SqL.of (e2 _ _ h2)) (dp_ints cs)) (.lst (SqL.of hp) .nil) (shaped_ints cs) (shaped_ints []) ?_))
        cases cs <;> rfl
      · obtain ⟨hb0, hcs⟩ : b = 0 ∧ cs ≠ [] := by simpa using hb
        obtain ⟨x, xs, rfl⟩ : ∃ x xs, cs = x :: xs := by cases cs with | nil => exact absurd rfl hcs | cons x xs => exact ⟨x, xs, rfl⟩
        refine ⟨_, rfl, _, _, _, _, rfl, rfl, SqL.of (e1 _ _ h1), rfl, .inl ⟨rfl, _, SqL.of (e1 _ _ h2)⟩, _, _, _, 0, _, rfl, rfl, e1 _ _ h2, by decide, by decide, by rw [seqIndex_of (by decide) (by simp)]; rfl, rfl, .inl ⟨_, rfl, ?_⟩⟩
        refine ⟨_, _, rfl, rfl, ⟨by decide, by decide, by decide⟩, _, _, rfl, rfl, ⟨by decide, by decide +kernel⟩, _, _, rfl, rfl, (by show ((10 : Int) ^ 50) ^ 8 ≠ 0; decide +kernel), ?_⟩
        dsimp only
        generalize (Int.fmod x _) = z
        generalize hH2 : upd H1 l _ = H2
        have m1 : H2 st = some (.lst [.ref l, .int b, .int c, .int d]) := by rw [← hH2, upd_ne hne]; exact e1 _ _ h1
        have m2 : H2 l = some (.lst (xs.map V.int)) := by rw [← hH2]; exact upd_same
        have m3 : Ext st l H H2 := by rw [← hH2]; exact (Ext.same e1).upd2
        have hxs : xs.length ≤ 63 := by simp at h3; omega
        refine s_if (b := decide (10 ^ 18 ≤ z)) (et_test (ev_op (ev_var rfl) (ev_op ev_c ev_c (rv_I ⟨by decide, by decide, by decide⟩)) rv_I0)) (fun _ H3 e3 => ?_) (fun _ H3 e3 => ?_)
        · refine s_setL (j := 1) (e3 _ _ m1) (ev_var rfl) (ev_var rfl) ev_c (by simp) (fun H4 e4 => ?_)
          exact ⟨xs, z, c, d, _, rfl, upd_same, by rw [upd_ne hne.symm]; exact (e3.trans e4) _ _ m2, hxs, (m3.trans (Ext.same (e3.trans e4))).upd1⟩
        · refine s_setL (j := 2) (e3 _ _ m1) (ev_op (ev_cb (ea_cons (ev_op (ev_op (ev_op (ev_op (ev_var rfl) ev_c (rv_ixL (SqL.of (e3 _ _ m1)) rfl)) ev_c (rv_I (.inr (by decide)))) (ev_op (ev_var rfl) ev_c (rv_I (.inr (by decide)))) rv_I0) ev_c rv_I0) ea_nil) rc_int) ev_c (rv_I (by decide))) (ev_var rfl) ev_c (by simp) (fun H4 e4 => ?_)
          exact ⟨xs, b, _, d, _, rfl, upd_same, by rw [upd_ne hne.symm]; exact (e3.trans e4) _ _ m2, hxs, (m3.trans (Ext.same (e3.trans e4))).upd1⟩
      · exact ⟨cs, b, c, d, none, rfl, e1 _ _ h1, e1 _ _ h2, h3, Ext.same e1⟩
    · rintro σ H0 ⟨cs, b, c, d, v, rfl, h1, h2, h3, hx⟩
      refine q_when (b := decide (0 < b)) (et_test (ev_op (ev_op (ev_var rfl) ev_c (rv_ixL (SqL.of h1) rfl)) ev_c rv_I0)) (fun hb H1 e1 => ?_) (fun hb H1 e1 => ?_)
      · refine q_asg (ev_op (ev_cb (ea_cons (ev_op (ev_var rfl) ev_c (rv_ixL (SqL.of (e1 _ _ h1)) rfl)) ea_nil) rc_int) (ev_var rfl) (rv_I (by omega))) (fun H2 e2 => ?_)
        have e12 := e1.trans e2
        refine q_setL (j := 1) (e12 _ _ h1) (ev_op (ev_op (ev_var rfl) ev_c (rv_ixL (SqL.of (e12 _ _ h1)) rfl)) (ev_var rfl) (rv_I ⟨by omega, by omega⟩)) (ev_var rfl) ev_c (by simp) (fun H3 e3 => ?_)
        refine s_ret (ev_var rfl) (fun H4 e4 => ?_)
        have g := fmod_rng (a := b) hn
        have e123 := e12.trans e3
        exact k _ _ g.1 g.2 ((hx.trans (Ext.same e123)).upd1.trans (Ext.same e4)) ⟨hne, cs, _, c, d, e4 _ _ upd_same, e4 _ _ (by rw [upd_ne hne.symm]; exact e123 _ _ h2), h3⟩
      · refine q_setL (j := 3) (e1 _ _ h1) (ev_op (ev_op (ev_var rfl) ev_c (rv_ixL (SqL.of (e1 _ _ h1)) rfl)) ev_c rv_I0) (ev_var rfl) ev_c (by simp) (fun H2 e2 => ?_)
        generalize hH3 : upd H2 st _ = H3
        have k1 : H3 st = some (.lst [.ref l, .int b, .int c, .int (d + 1)]) := by rw [← hH3]; exact upd_same
        have k2 : H3 l = some (.lst (cs.map V.int)) := by rw [← hH3, upd_ne hne.symm]; exact (e1.trans e2) _ _ h2
        have k3 : Ext st l H H3 := by rw [← hH3]; exact (hx.trans (Ext.same (e1.trans e2))).upd1
        refine q_setL (j := 2) k1 (ev_op (ev_cb (ea_cons (ev_op (ev_op (ev_op (ev_var rfl) ev_c (rv_ixL (SqL.of k1) rfl)) ev_c (rv_I (.inr (by decide)))) (ev_op (ev_op (ev_var rfl) ev_c (rv_ixL (SqL.of k1) rfl)) ev_c (rv_I (.inr (by decide)))) rv_I0) ea_nil) rc_int) ev_c (rv_I (by decide))) (ev_var rfl) ev_c (by simp) (fun H4 e4 => ?_)
        generalize hz : Int.fmod _ _ = z
        generalize hH5 : upd H4 st _ = H5
        have m1 : H5 st = some (.lst [.ref l, .int b, .int z, .int (d + 1)]) := by rw [← hH5]; exact upd_same
        have m2 : H5 l = some (.lst (cs.map V.int)) := by rw [← hH5, upd_ne hne.symm]; exact e4 _ _ k2
        have m3 : Ext st l H H5 := by rw [← hH5]; exact (k3.trans (Ext.same e4)).upd1
        refine s_ret (ev_op (ev_op (ev_cb (ea_cons (ev_op (ev_op (ev_op (ev_var rfl) ev_c (rv_ixL (SqL.of m1) rfl)) ev_c (rv_I (.inr (by decide)))) (ev_op (ev_var rfl) ev_c (rv_ixL (SqL.of m1) rfl)) rv_I0) ea_nil) rc_int) ev_c (rv_I (by decide))) (ev_var rfl) (rv_I (by omega))) (fun H6 e6 => ?_)
        have g := fmod_rng (a := Int.fmod (z * 16807 + (d + 1)) 2147483629) hn
        exact k _ _ g.1 g.2 (m3.trans (Ext.same e6)) ⟨hne, cs, _, _, _, e6 _ _ m1, e6 _ _ m2, h3⟩
end
end My
namespace My
open PySem PySem.Spec PyProof.Rows L2 Evl
theorem et_yes {σ : L2.St} {H : Hp} : EvT tYes σ H true := fun H1 _ _ q => q H1 (Ex.refl H1)
theorem wipe1 (σ : L2.St) (j : Nat) (x : Option V) : wipe ((wipe σ [j]).set j x) [j] = wipe σ [j] := by simp [wipe, List.set_set]
theorem given_all {n : Nat} {v : Nat → V} : given n (fun _ => true) v = (List.range n).map v := by
  unfold given
  rw [List.filter_eq_self.mpr (fun _ _ => rfl)]
theorem s_ret_lst {te : TE} {tr : TA} {D : Ends} {σ : L2.St} {H : Hp} {xs ws : List V} (h : EvL te σ H xs) (hr : ∀ H1, EvA tr σ H1 ws) (hl : ws.length < 1000) (k : ∀ p q H1, H p = none → Ex H H1 → H1 p = some (.lst xs) → H1 q = none → D.rt (.ref q) (upd H1 q (.lst (.ref p :: ws)))) : tRet (tLst (tCons te tr)) D σ H :=
  h H (Ex.refl H) _ fun p H1 hp e1 h1 => hr H1 H1 (Ex.refl H1) _ fun H2 e2 => ⟨Nat.le_of_lt (Nat.lt_of_le_of_lt (show ws.length + 1 ≤ 1000 from hl) (by decide)), fun q hq => k p q H2 hp (e1.trans e2) (e2 _ _ h1) hq⟩
theorem scS : FnScope ["script", "cell"] ["script"] (defScope sState) := ⟨rfl, rfl, rfl, by decide +kernel, rfl, by decide +kernel, by decide +kernel⟩
section
variable {P : Program} {w : World} {K : PySem.W.Frag} {mg : Str → Option Value} {base : Heap}
theorem ok_state {f : Addr} {fd : FuncData} (F : Fun K "_law_get_state" "_law_get_state" sState f fd) (T : TD mg) : FnOk P w K mg base CX0 1 f fd ["script"] (spState K) := by
  refine F.ok scS (fun vs H Q E h => ?_) (fun cdv A outer s H vs Q E hr h => ?_)
  · obtain ⟨a, ns, rfl, _⟩ := h
    rfl
  · obtain ⟨a, ns, rfl, hS, k⟩ := h
    refine ⟨_, (pss_one (ps_ret (pe_lst (pa_cons (pe_lc (own := [("cell", 1)]) (g := gName 1) (by rfl) scS.nd (piL K (pe_slice (slL K) (pv 0) po_none (po_some pe_int))) (blkOk_by (own := [("cell", 1)]) (N := ["script", "cell"]) (sc := defScope sState) (by decide +kernel)) (fun _ _ _ _ _ => (pg_name (i := 1) scS.nd rfl (Or.inl rfl))) (fun _ _ _ _ _ => pts_nil) (fun _ _ _ _ _ => (pe_op op_add (pe_op op_mul pe_int (pe_callB call_abs (by rfl) T.n_abs (by decide +kernel) (pa_cons (pv 1) pa_nil))) (pe_callTy call_int1 (by rfl) T.n_int (by decide +kernel) (pa_cons (pe_cmpR op_lt (pv 1) pe_int (nomark _)) pa_nil))))) (pa_cons pe_int (pa_cons pe_int (pa_cons pe_int pa_nil))))))), ?_⟩
    let g : Nat → Int := fun i => 2 * (if ns.getD i 0 < 0 then -(ns.getD i 0) else ns.getD i 0) + (if decide (ns.getD i 0 < 0) then 1 else 0)
    have hlen : (cutV (ns.map V.int) none (some 63)).length ≤ 63 := by
      unfold cutV
      rw [List.length_take]
      have := HT.sIx_nat (ns.map V.int).length (ns.map V.int).length 63
      have e : HT.sIx (ns.map V.int).length (ns.map V.int).length (some 63) = min 63 (ns.map V.int).length := this
      rw [e]
      omega
    have hget : ∀ (i : Nat) (x : V), (cutV (ns.map V.int) none (some 63))[i]? = some x → x = .int (ns.getD i 0) := fun i x hx => by
      unfold cutV at hx
      rw [HT.sIx_none, List.drop_zero] at hx
      have h2 := List.getElem?_take_of_lt (l := ns.map V.int) (i := i) (j := _) (by
        have := (List.getElem?_eq_some_iff.mp hx).1
        rw [List.length_take] at this
        exact Nat.lt_of_lt_of_le this (Nat.min_le_left _ _))
      rw [h2, List.getElem?_map] at hx
      cases e : ns[i]? with
      | none => rw [e] at hx; cases hx
      | some z =>
        rw [e] at hx
        rw [List.getD_eq_getElem?_getD, e]
        exact (Option.some.inj hx).symm
    refine s_ret_lst (ws := [.int 0, .int 1, .int 0]) (el_lcNL (fun _ => true) (fun i => V.int (g i)) (el_sl (ev_var rfl) eo_none (eo_some ev_c) hS) (Nat.le_trans hlen (by decide)) (fun x => rfl) (fun i x H1 e1 hx => et_yes) (fun i x H1 e1 hx _ => by
      rw [hget i x hx]
      exact ev_op (ev_op ev_c (ev_cb (ea_cons (ev_var rfl) ea_nil) rc_abs) (rv_I (.inl (by decide)))) (ev_cb (ea_cons (ev_op (ev_var rfl) ev_c rv_I0) ea_nil) rc_intB) rv_I0)) (fun H1 => ea_cons ev_c (ea_cons ev_c (ea_cons ev_c ea_nil))) (by decide) (fun p q H1 hp e1 h1 hq => ?_)
    rw [given_all] at h1
    refine k _ q p (e1.trans (Ex.new hq)) ⟨(ne_of_none h1 hq).symm, (List.range (cutV (ns.map V.int) none (some 63)).length).map g, 0, 1, 0, upd_same, ?_, ?_⟩ (fresh_back e1 hq) hp
    · rw [upd_ne (ne_of_none h1 hq), h1, List.map_map]
      rfl
    · rw [List.length_map, List.length_range]
      exact hlen
end
end My

namespace My
open PySem PySem.Spec PyProof.Rows L2 Evl
section
variable {σ : L2.St} {H : Hp} {st l : Addr} {n : Int} {Q : VK} {E : XK} {ta : TA} {D : Ends} {u : TS} {i : Nat}
theorem w_draw (ha : EvA ta σ H [.ref st, .int n]) (S : StAt H st l) (h0 : 0 < n) (h1 : n < 1000000000) (k : ∀ (r : Int) (H' : Hp), 0 ≤ r → r < n → Ext st l H H' → StAt H' st l → Q (.int r) H') : tCall spDraw [] E ta σ H Q :=
  w_call (w_eva ha fun H1 e1 => ⟨st, l, n, rfl, S.same e1, h0, h1, fun r H' r0 r1 e S' => k r H' r0 r1 ((Ext.same e1).trans e) S'⟩)
/-- x = draw(..) -/
theorem q_draw (ha : EvA ta σ H [.ref st, .int n]) (S : StAt H st l) (h0 : 0 < n) (h1 : n < 1000000000) (k : ∀ (r : Int) (H' : Hp), 0 ≤ r → r < n → Ext st l H H' → StAt H' st l → u D (σ.set i (some (.int r))) H') : tSeq (tAsg (tCall spDraw [] E ta) (gName i)) u D σ H :=
  q_set (w_draw ha S h0 h1 k)
/-- x = 1 + draw(..) -/
theorem q_draw1 (ha : EvA ta σ H [.ref st, .int n]) (S : StAt H st l) (h0 : 0 < n) (h1 : n < 1000000000) (k : ∀ (r : Int) (H' : Hp), 1 ≤ r → r ≤ n → Ext st l H H' → StAt H' st l → u D (σ.set i (some (.int r))) H') : tSeq (tAsg (tOp (rI0 fun i j => .int (i + j)) (tC (.int 1)) (tCall spDraw [] E ta)) (gName i)) u D σ H :=
  q_set (w_op (w_ev ev_c fun H1 e1 => w_draw (ha.mono e1) (S.same e1) h0 h1 fun r H' r0 r1 e S' => ⟨_, _, rfl, rfl, k (1 + r) H' (by omega) (by omega) ((Ext.same e1).trans e) S'⟩))
theorem StAt.ext {H' : Hp} (e : Ext st l H H') {p : Addr} {o : HO} (S : StAt H st l) (hp : H p = some o) (h1 : p ≠ st) (h2 : p ≠ l) : H' p = some o := e p o h1 h2 hp
end
end My

namespace My
open PySem PySem.Spec PyProof.Rows L2 Evl
/-! ### words -/
def sgL : List Nat := [97,98,99,100,101,102,103,104,105,106,107,108,109,110,111,112,113,114,115,116,117,118,119,120,121,122,48,49,50,51,52,53,54,55,56,57]
def mkS (l : List Nat) : Str := ⟨l.toArray⟩
theorem signs_is : (Str.ofString "abcdefghijklmnopqrstuvwxyz0123456789").cps.toList = sgL := by decide +kernel
theorem mkS_cps (l : List Nat) : (mkS l).cps.toList = l := rfl
theorem mkS_len (l : List Nat) : (mkS l).length = l.length := by simp [mkS, Str.length]
theorem mkS_add (a b : List Nat) : mkS a ++ mkS b = mkS (a ++ b) := by
  show Str.mk (a.toArray ++ b.toArray) = _
  simp [mkS]
theorem rep_one (c n : Nat) : repS (mkS [c]) n = mkS (List.replicate n c) := by
  unfold repS mkS
  congr 2
  induction n with
  | zero => rfl
  | succ n ih => rw [List.replicate_succ, List.flatten_cons, List.replicate_succ]; simpa using ih
theorem mkS_inj {a b : List Nat} (h : mkS a = mkS b) : a = b := by
  have := congrArg (fun s : Str => s.cps.toList) h
  simpa [mkS] using this
theorem mkS_eta (w : Str) : mkS w.cps.toList = w := by cases w; simp [mkS]
/-- a name of at most n signs -/
structure IsName (n : Nat) (w : Str) : Prop where
  pos : 1 ≤ w.length
  le : w.length ≤ n
  sg : ∀ c ∈ w.cps.toList, c ∈ sgL
  hd : ∀ c, w.cps.toList.head? = some c → c ∈ sgL.take 26
  me : w ≠ "me"
structure WordsOk (most count : Nat) (ws : List Str) : Prop where
  len : ws.length = count
  nd : ws.Nodup
  ok : ∀ w ∈ ws, IsName most w
def wd (fill place size s : Nat) : Str := mkS (List.replicate place fill ++ [s] ++ List.replicate (size - place - 1) fill)
theorem sg_get {i : Nat} (h : i < 36) : ∃ c, sgL[i]? = some c ∧ c ∈ sgL := by
  have h' : i < sgL.length := h
  exact ⟨sgL[i], List.getElem?_eq_getElem h', List.getElem_mem h'⟩
theorem sg_get26 {i : Nat} (h : i < 26) : ∃ c, sgL[i]? = some c ∧ c ∈ sgL.take 26 := by
  have h' : i < (sgL.take 26).length := h
  refine ⟨(sgL.take 26)[i], ?_, List.getElem_mem h'⟩
  rw [List.getElem_take]
  exact List.getElem?_eq_getElem (Nat.lt_trans h (by decide))
theorem sg_nd : sgL.Nodup := by decide +kernel
theorem take26 {c : Nat} (h : c ∈ sgL.take 26) : c ∈ sgL := List.mem_of_mem_take h
/-- the word of the k-th turn -/
def wk (fill place size first some : Nat) (k : Nat) : Str := wd fill place size (sgL.getD ((first + k) % some) 0)
theorem words_ok {fill place size first some most count : Nat} (h1 : 1 ≤ size) (h2 : size ≤ most) (hp : place < size) (hf : fill ∈ sgL.take 26) (hs : some = if place = 0 then 26 else 36) (hc : count ≤ 26) (hme : size = 2 → fill ≠ 109 ∧ fill ≠ 101) :
    WordsOk most count ((List.range count).map (wk fill place size first some)) := by
  have hs26 : 26 ≤ some ∧ some ≤ 36 := by rw [hs]; split <;> omega
  refine ⟨by simp, ?_, ?_⟩
  · rw [List.nodup_iff_pairwise_ne, List.pairwise_map]
    refine List.Pairwise.imp_of_mem ?_ (List.nodup_iff_pairwise_ne.mp List.nodup_range)
    intro a b ha hb hab e
    have ha := List.mem_range.mp ha
    have hb := List.mem_range.mp hb
    have e1 := mkS_inj e
    rw [List.append_assoc, List.append_assoc, List.append_cancel_left_eq] at e1
    have e2 : sgL.getD ((first + a) % some) 0 = sgL.getD ((first + b) % some) 0 := by
      simpa using e1
    have la : (first + a) % some < sgL.length := Nat.lt_of_lt_of_le (Nat.mod_lt _ (by omega)) hs26.2
    have lb : (first + b) % some < sgL.length := Nat.lt_of_lt_of_le (Nat.mod_lt _ (by omega)) hs26.2
    rw [List.getD_eq_getElem?_getD, List.getD_eq_getElem?_getD, List.getElem?_eq_getElem la, List.getElem?_eq_getElem lb, Option.getD_some, Option.getD_some] at e2
    have e3 := (List.getElem_inj sg_nd).mp e2
    apply hab
    have q1 := Nat.div_add_mod (first + a) some
    have q2 := Nat.div_add_mod (first + b) some
    rw [e3] at q1
    generalize (first + b) % some = r at q1 q2
    generalize (first + a) / some = x at q1
    generalize (first + b) / some = y at q2
    have : x = y := by
      rcases Nat.lt_trichotomy x y with h | h | h
      · have : some * x + some ≤ some * y := by rw [← Nat.mul_succ]; exact Nat.mul_le_mul_left _ h
        omega
      · exact h
      · have : some * y + some ≤ some * x := by rw [← Nat.mul_succ]; exact Nat.mul_le_mul_left _ h
        omega
    subst this
    omega
  · intro w hw
    obtain ⟨k, hk, rfl⟩ := List.mem_map.mp hw
    have lk : (first + k) % some < 36 := Nat.lt_of_lt_of_le (Nat.mod_lt _ (by omega)) hs26.2
    obtain ⟨c, hc1, hc2⟩ := sg_get lk
    have hcd : sgL.getD ((first + k) % some) 0 = c := by rw [List.getD_eq_getElem?_getD, hc1]; rfl
    have len : (wk fill place size first some k).length = size := by
      unfold wk wd
      rw [mkS_len]
      simp
      omega
    refine ⟨by omega, by omega, ?_, ?_, ?_⟩
    · intro x hx
      unfold wk wd at hx
      rw [mkS_cps, hcd] at hx
      simp only [List.mem_append, List.mem_replicate, List.mem_singleton] at hx
      rcases hx with (⟨_, rfl⟩ | rfl) | ⟨_, rfl⟩
      · exact take26 hf
      · exact hc2
      · exact take26 hf
    · intro x hx
      unfold wk wd at hx
      rw [mkS_cps, hcd] at hx
      by_cases h0 : place = 0
      · subst h0
        simp only [List.replicate_zero, List.nil_append, List.cons_append, List.head?_cons, Option.some.injEq] at hx
        subst hx
        rw [if_pos rfl] at hs
        subst hs
        obtain ⟨d, hd1, hd2⟩ := sg_get26 (i := (first + k) % 26) (Nat.mod_lt _ (by decide))
        rw [hc1] at hd1
        rw [Option.some.inj hd1]
        exact hd2
      · obtain ⟨m, rfl⟩ : ∃ m, place = m + 1 := ⟨place - 1, by omega⟩
        rw [List.replicate_succ] at hx
        simp only [List.cons_append, List.head?_cons, Option.some.injEq] at hx
        subst hx
        exact hf
    · intro e
      have e1 : (wk fill place size first some k).cps.toList = [109, 101] := by rw [e]; decide +kernel
      have e2 : (wk fill place size first some k).length = 2 := by
        have := congrArg List.length e1
        simpa [Str.length] using this
      have hz := hme (by omega)
      unfold wk wd at e1
      rw [mkS_cps] at e1
      have hsz : size = 2 := by omega
      subst hsz
      have hp2 : place = 0 ∨ place = 1 := by omega
      rcases hp2 with rfl | rfl
      · simp at e1
        exact hz.2 e1.2
      · simp at e1
        exact hz.1 e1.1
end My

namespace My
open PySem PySem.Spec PyProof.Rows L2 Evl
theorem rv_mulC {c n : Nat} {H : Hp} (hn : n ≤ 1000) : RV (fun x y H Q => ∃ z n, x = .str z ∧ y = .int n ∧ 0 ≤ n ∧ n ≤ 1000 ∧ z.length ≤ 1000 ∧ Q (.str (repS z n.toNat)) H) (.str (mkS [c])) (.int (n : Int)) H (.str (mkS (List.replicate n c))) :=
  rv_val fun H1 _ Q q => ⟨mkS [c], n, rfl, rfl, by omega, by omega, by rw [mkS_len]; simp, by rw [rep_one]; exact q⟩
theorem rv_addM {a b : List Nat} {H : Hp} (h : a.length + b.length ≤ 100000) : RV (fun x y H Q => ∃ i j, x = .str i ∧ y = .str j ∧ i.length + j.length ≤ sizeLine ∧ Q (.str (i ++ j)) H) (.str (mkS a)) (.str (mkS b)) H (.str (mkS (a ++ b))) :=
  rv_val fun H1 _ Q q => ⟨mkS a, mkS b, rfl, rfl, by rw [mkS_len, mkS_len]; exact Nat.le_trans h (by decide), by rw [mkS_add]; exact q⟩
theorem rv_sign {i : Int} {k c : Nat} {H : Hp} (e : i = (k : Int)) (h : sgL[k]? = some c) : RV rIxS (.str "abcdefghijklmnopqrstuvwxyz0123456789") (.int i) H (.str (mkS [c])) := rv_ixS (by decide +kernel) (atI_n e (by rw [signs_is]; exact h))
abbrev sWords : Stmt := top 27
def spWords : Sp := fun vs H Q _ => ∃ (st l : Addr) (most count : Nat), vs = [.ref st, .int (most : Int), .int (count : Int)] ∧ StAt H st l ∧ 1 ≤ most ∧ most ≤ 100 ∧ count ≤ 26 ∧
  ∀ (ws : List Str) (p : Addr) (H' : Hp), WordsOk most count ws → Ext st l H H' → StAt H' st l → H p = none → H' p = some (.lst (ws.map V.str)) → Q (.ref p) H'
theorem scW : FnScope ["st", "most", "count", "signs", "size", "place", "fill", "some", "first", "tail", "k"] ["st", "most", "count"] (defScope sWords) := ⟨rfl, rfl, rfl, by decide +kernel, rfl, by decide +kernel, by decide +kernel⟩
theorem fresh_ext {st l p : Addr} {H H' : Hp} (S : StAt H st l) (e : Ext st l H H') (S' : StAt H' st l) (h : H' p = none) : H p = none := by
  cases q : H p with
  | none => rfl
  | some o =>
    have n := S'.off h
    rw [e p o n.1 n.2 q] at h
    cases h
section
variable {P : Program} {w : World} {K : PySem.W.Frag} {mg : Str → Option Value} {base : Heap}
theorem ok_words {f fD : Addr} {fd fdD : FuncData} (F : Fun K "_law_get_words" "_law_get_words" sWords f fd) (T : TD mg) (G__law_draw : FnOk P w K mg base CX0 1 fD fdD ["st", "limit"] spDraw) (m__law_draw : mg "_law_draw" = some (.ref fD)) (k__law_draw : PySem.W.keepIn K (.ref fD) = true) (b__law_draw : Binds K fdD ["st", "limit"] []) :
    FnOk P w K mg base CX0 2 f fd ["st", "most", "count"] spWords := by
  refine F.ok scW (fun vs H Q E h => ?_) (fun cdv A outer s H vs Q E hr h => ?_)
  · obtain ⟨st, l, m, c, rfl, _⟩ := h
    rfl
  · obtain ⟨st, l, most, count, rfl, S, hm1, hm2, hc, k⟩ := h
    have hr__law_draw : Room 1 _ := hr
    have hcn : (0 : Int) ≤ (count : Int) ∧ (count : Int) ≤ 40000 := by omega
    refine ⟨_, (pss_cons (ps_set (i := 3) scW.nd rfl (Or.inr rfl) pe_str)
    (pss_cons (ps_set (i := 4) scW.nd rfl (Or.inl rfl) (pe_op op_add pe_int (pe_call G__law_draw hr__law_draw rfl m__law_draw k__law_draw b__law_draw .nil pass0 (pa_cons (pv 0) (pa_cons (pv 1) pa_nil)))))
    (pss_cons (ps_set (i := 5) scW.nd rfl (Or.inr rfl) (pe_call G__law_draw hr__law_draw rfl m__law_draw k__law_draw b__law_draw .nil pass0 (pa_cons (pv 0) (pa_cons (pv 4) pa_nil))))
    (pss_cons (ps_set (i := 6) scW.nd rfl (Or.inr rfl) (pe_ix ix_str (pv 3) (pe_call G__law_draw hr__law_draw rfl m__law_draw k__law_draw b__law_draw .nil pass0 (pa_cons (pv 0) (pa_cons pe_int pa_nil))) (fun _ _ => rfl)))
    (pss_cons (ps_if (PW.pt (pw_and (pt_cmpR op_eq (pv 4) pe_int (nomark _)) (pw_and1 (pt_cmpR op_in_sign (pv 6) pe_str (by rfl)))))
      (pss_one (ps_set (i := 6) scW.nd rfl (Or.inr rfl) pe_str))
      pss_nil)
    (pss_cons (ps_set (i := 7) scW.nd rfl (Or.inr rfl) (pe_ifExp (pt_cmpR op_eq (pv 5) pe_int (nomark _)) pe_int pe_int))
    (pss_cons (ps_set (i := 8) scW.nd rfl (Or.inr rfl) (pe_call G__law_draw hr__law_draw rfl m__law_draw k__law_draw b__law_draw .nil pass0 (pa_cons (pv 0) (pa_cons (pv 7) pa_nil))))
    (pss_cons (ps_set (i := 9) scW.nd rfl (Or.inr rfl) (pe_op op_mulS (pv 6) (pe_op op_sub (pe_op op_sub (pv 4) (pv 5)) pe_int)))
    (pss_one (ps_ret (pe_lc (own := [("k", 10)]) (g := gName 10) (by rfl) scW.nd (pi_range1 rfl T.n_range (pa_cons (pv 2) pa_nil)) (blkOk_by (own := [("k", 10)]) (N := ["st", "most", "count", "signs", "size", "place", "fill", "some", "first", "tail", "k"]) (sc := defScope sWords) (by decide +kernel)) (fun _ _ _ _ _ => (pg_name (i := 10) scW.nd rfl (Or.inl rfl))) (fun _ _ _ _ _ => pts_nil) (fun _ _ _ _ _ => (pe_op op_add_str (pe_op op_add_str (pe_op op_mulS (pv 6) (pv 5)) (pe_ix ix_str (pv 3) (pe_op op_modN (pe_callTy call_int1 (by rfl) T.n_int (by decide +kernel) (pa_cons (pe_op op_add (pv 8) (pv 10)) pa_nil)) (pv 7)) (fun _ _ => rfl))) (pv 9)))))))))))))), ?_⟩
    refine q_asg ev_c (fun H1 e1 => ?_)
    refine q_draw1 (st := st) (l := l) (n := most) (ea_cons (ev_var rfl) (ea_cons (ev_var rfl) ea_nil)) (S.same e1) (by omega) (by omega) (fun size H2 s0 s1 e2 S2 => ?_)
    refine q_draw (st := st) (l := l) (n := size) (ea_cons (ev_var rfl) (ea_cons (ev_var rfl) ea_nil)) S2 (by omega) (by omega) (fun place H3 p0 p1 e3 S3 => ?_)
    refine q_set (w_op (w_ev (ev_var rfl) fun H4 e4 => w_draw (st := st) (l := l) (n := 26) (ea_cons (ev_var rfl) (ea_cons ev_c ea_nil)) (S3.same e4) (by decide) (by decide) (fun r H5 r0 r1 e5 S5 => ?_)))
    obtain ⟨c, hc1, hc2⟩ := sg_get26 (i := r.toNat) (by omega)
    refine ⟨_, _, c, rfl, rfl, by decide +kernel, atI_n (j := r.toNat) (by omega) (by rw [signs_is]; exact hc1), ?_⟩
    obtain ⟨sz, rfl⟩ : ∃ n : Nat, size = n := ⟨size.toNat, by omega⟩
    obtain ⟨pl, rfl⟩ : ∃ n : Nat, place = n := ⟨place.toNat, by omega⟩
    have hme : decide (c ∈ (Str.ofString "me").cps.toList) = decide (c = 109 ∨ c = 101) := by
      have : (Str.ofString "me").cps.toList = [109, 101] := by decide +kernel
      rw [this]; simp
    let fill : Nat := if decide ((sz : Int) = 2) && decide (c = 109 ∨ c = 101) then 122 else c
    have hz : Str.ofString "z" = mkS [122] := by decide +kernel
    refine q_ifAsg (v := .str (mkS [fill])) (b := decide ((sz : Int) = 2) && decide (c = 109 ∨ c = 101)) (et_and (et_test (ev_is (ev_op (ev_var rfl) ev_c (rv_eq rfl)) (by simp))) (fun _ => et_test (ev_is (ev_op (ev_var rfl) ev_c (rv_val fun H1 _ Q q => ⟨c, _, rfl, rfl, q⟩)) (by rw [hme]))))
      (fun hb => ?_) (fun hb => ?_) (fun H6 e6 => ?_)
    · have : fill = 122 := if_pos hb
      rw [this, ← hz]
      exact ev_c
    · have : fill = c := if_neg (by rw [hb]; decide)
      rw [this]
      rfl
    have hfill : fill ∈ sgL.take 26 := by
      show (if _ then 122 else c) ∈ sgL.take 26
      split
      · decide
      · exact hc2
    have hfme : sz = 2 → fill ≠ 109 ∧ fill ≠ 101 := by
      intro e
      show (if _ then 122 else c) ≠ 109 ∧ (if _ then 122 else c) ≠ 101
      by_cases hcc : c = 109 ∨ c = 101
      · rw [if_pos (by simp [e, hcc])]
        decide
      · rw [if_neg (by simp [hcc])]
        exact ⟨fun z => hcc (.inl z), fun z => hcc (.inr z)⟩
    generalize fill = fl at hfill hfme
    let some' : Nat := if pl = 0 then 26 else 36
    have hso : some' = if pl = 0 then 26 else 36 := rfl
    have hsr : 26 ≤ some' ∧ some' ≤ 36 := by rw [hso]; split <;> omega
    refine q_asg (v := .int (some' : Nat)) (ev_if (b := decide (pl = 0)) (et_test (ev_is (ev_op (ev_var rfl) ev_c (rv_eq rfl)) (by simp))) (fun hb => ?_) (fun hb => ?_)) (fun H7 e7 => ?_)
    · rw [hso, if_pos (by simpa using hb)]
      exact ev_c
    · rw [hso, if_neg (by simpa using hb)]
      exact ev_c
    generalize some' = so at hso hsr
    have hso0 : (0 : Int) ≤ (so : Int) ∧ (so : Int) ≠ 0 := by omega
    have S7 := S5.same (e6.trans e7)
    refine q_draw (st := st) (l := l) (n := so) (ea_cons (ev_var rfl) (ea_cons (ev_var rfl) ea_nil)) S7 (by omega) (by omega) (fun first H8 f0 f1 e8 S8 => ?_)
    obtain ⟨fi, rfl⟩ : ∃ n : Nat, first = n := ⟨first.toNat, by omega⟩
    have hpl : pl ≤ 1000 := by omega
    have hsp : pl + 1 + (sz - pl - 1) ≤ 100 := by omega
    have hsub : ((sz : Int) - (pl : Int)) - 1 = ((sz - pl - 1 : Nat) : Int) := by omega
    refine q_asg (v := .str (mkS (List.replicate (sz - pl - 1) fl))) (ev_op (ev_var rfl) (ev_is (ev_op (ev_op (ev_var rfl) (ev_var rfl) rv_I0) ev_c rv_I0) (congrArg V.int hsub)) (rv_mulC (by omega))) (fun H9 e9 => ?_)
    have X9 : Ext st l H H9 := (((((((((Ext.same e1).trans e2).trans e3).trans (Ext.same e4)).trans e5).trans (Ext.same e6)).trans (Ext.same e7)).trans e8).trans (Ext.same e9))
    refine s_norm [some (.ref st), some (.int most), some (.int count), some (.str "abcdefghijklmnopqrstuvwxyz0123456789"), some (.int sz), some (.int pl), some (.str (mkS [fl])), some (.int so), some (.int fi), some (.str (mkS (List.replicate (sz - pl - 1) fl))), none] rfl ?_
    refine s_retL (el_lcR1 (fun _ => true) (fun i => V.str (wk fl pl sz fi so i)) (ea_cons (ev_var rfl) ea_nil) hcn (fun _ => wipe1 _ _ _) (fun _ _ _ _ => et_yes) (fun i H1 e1 hi _ => ?_)) (fun p H10 hp e10 h10 => ?_)
    · have lk : (fi + i) % so < 36 := Nat.lt_of_lt_of_le (Nat.mod_lt _ (by omega)) hsr.2
      obtain ⟨d, hd1, hd2⟩ := sg_get lk
      have hmod : ((fi : Int) + (i : Int)).fmod (so : Int) = (((fi + i) % so : Nat) : Int) := by
        rw [Int.fmod_eq_emod_of_nonneg _ hso0.1, cast_mod, Int.natCast_add]
      have hcd : sgL.getD ((fi + i) % so) 0 = d := by rw [List.getD_eq_getElem?_getD, hd1]; rfl
      refine ev_is (v := .str (mkS (List.replicate pl fl ++ [d] ++ List.replicate (sz - pl - 1) fl))) (ev_op (ev_op (ev_op (ev_var rfl) (ev_var rfl) (rv_mulC hpl))
        (ev_op (ev_var rfl) (ev_op (ev_cb (ea_cons (ev_op (ev_var rfl) (ev_var rfl) rv_I0) ea_nil) rc_int) (ev_var rfl) (rv_I hso0.2)) (rv_sign hmod hd1)) (rv_addM ?_)) (ev_var rfl) (rv_addM ?_)) ?_
      · simp only [List.length_replicate, List.length_singleton]
        exact Nat.le_trans (Nat.le_trans (Nat.le_add_right _ _) hsp) (by decide)
      · simp only [List.length_append, List.length_replicate, List.length_singleton]
        exact Nat.le_trans hsp (by decide)
      · unfold wk wd
        rw [hcd]
    · rw [given_all] at h10
      refine k _ p H10 (words_ok (first := fi) (by omega) (by omega) (by omega) hfill hso hc hfme) (X9.trans (Ext.same e10)) ((S8.same e9).same e10) (fresh_ext S X9 (S8.same e9) hp) ?_
      rw [h10, List.map_map]
      rfl
end
end My

namespace My
open PySem PySem.Spec PyProof.Rows L2 Evl
/-! ### errors as values -/
/-- an exception of the class at C with its attributes l -/
def XAt (H : Hp) (a C : Addr) (l : List (Str × V)) : Prop := ∃ d l', H a = some (exo a C (some d)) ∧ H d = some (exd d l') ∧ ∀ q ∈ l, l'.lookup q.1 = some q.2
theorem XAt.ex {H H' : Hp} {a C : Addr} {l : List (Str × V)} (e : Ex H H') (h : XAt H a C l) : XAt H' a C l := by
  obtain ⟨d, l', h1, h2, h3⟩ := h
  exact ⟨d, l', e _ _ h1, e _ _ h2, h3⟩
theorem XAt.any {H : Hp} {a C : Addr} {l : List (Str × V)} (h : XAt H a C l) : ExAny H a C := by
  obtain ⟨d, l', h1, h2, h3⟩ := h
  exact .inl ⟨d, l', h1, h2⟩
theorem ExAny.ex {H H' : Hp} {a C : Addr} (e : Ex H H') (h : ExAny H a C) : ExAny H' a C := by
  rcases h with ⟨d, l', h1, h2⟩ | h
  · exact .inl ⟨d, l', e _ _ h1, e _ _ h2⟩
  · exact .inr (e _ _ h)
/-- an __init__ that stores its arguments under the names fs -/
def spX (K : PySem.W.Frag) (C : Addr) (fs : List Str) : Sp := fun vs H Q _ => ∃ (a : Addr) (ws : List V), vs = .ref a :: ws ∧ ws.length = fs.length ∧ H a = some (exo a C none) ∧
  ∀ (H' : Hp) (d : Addr) (l : List (Str × V)), H' a = some (exo a C (some d)) → H' d = some (exd d l) → H d = none → (∀ q ∈ fs.zip ws, l.lookup q.1 = some q.2) → (∀ b o, b ≠ a → H b = some o → H' b = some o) → Q .non H'
section
variable {K : PySem.W.Frag} {σ : L2.St} {H : Hp} {te : TE} {ta : TA} {D : Ends} {u : TS} {i : Nat}
/-- C(e, ..): a new exception -/
def EvX (te : TE) (σ : L2.St) (H : Hp) (C : Addr) (l : List (Str × V)) : Prop := ∀ H1, Ex H H1 → ∀ Q : VK, (∀ p H2, H1 p = none → Ex H1 H2 → XAt H2 p C l → Q (.ref p) H2) → te σ H1 Q
theorem ex_mk {C : Addr} {fs : List Str} {vs dvs : List V} (ha : EvA ta σ H vs) (hl : (vs ++ dvs).length = fs.length) (hs : vs.length ≤ 1000) : EvX (tMkX C (spX K C fs) dvs ta) σ H C (fs.zip (vs ++ dvs)) := fun H1 e1 Q k =>
  ha H1 e1 _ fun H2 e2 => ⟨hs, fun a hn => ⟨a, vs ++ dvs, rfl, hl, upd_same, fun H' d l h1 h2 _ h3 h4 => ⟨rfl, k a H' (fresh_back e2 hn) (e2.trans fun b o hb => h4 b o (ne_of_none hb hn) (by rw [upd_ne (ne_of_none hb hn)]; exact hb)) ⟨d, l, h1, h2, h3⟩⟩⟩⟩
def EvX0 (te : TE) (σ : L2.St) (H : Hp) (C : Addr) : Prop := ∀ H1, Ex H H1 → ∀ Q : VK, (∀ p H2, H1 p = none → Ex H1 H2 → ExAny H2 p C → Q (.ref p) H2) → te σ H1 Q
theorem ex_mk0 {C : Addr} : EvX0 (tMkX0 C) σ H C := fun H1 _ Q k a hn => k a _ hn (Ex.new hn) (.inr upd_same)
theorem q_asgX {C : Addr} {l : List (Str × V)} (h : EvX te σ H C l) (k : ∀ p H1, Ex H H1 → XAt H1 p C l → u D (σ.set i (some (.ref p))) H1) : tSeq (tAsg te (gName i)) u D σ H := h H (Ex.refl H) _ fun p H1 _ e h1 => k p H1 e h1
theorem ev_xf {f : Str} {p C : Addr} {l : List (Str × V)} {v : V} (h : Ev te σ H (.ref p)) (hx : XAt H p C l) (C' : ExcC K C) (hno : PySem.W.findIn K (.ref C) f = some none) (hm : (f, v) ∈ l) : Ev (tXf K te f) σ H v := fun H1 e1 Q q =>
  h H1 e1 _ fun H2 e2 => by
    obtain ⟨d, l', h1, h2, h3⟩ := hx.ex (e1.trans e2)
    exact ⟨p, C, d, l', v, rfl, C', hno, h1, h2, h3 _ hm, q H2 e2⟩
/-- a list, new or old -/
def EvK (te : TE) (σ : L2.St) (H : Hp) (xs : List V) : Prop := ∀ H1, Ex H H1 → ∀ Q : VK, (∀ p H2, Ex H1 H2 → H2 p = some (.lst xs) → Q (.ref p) H2) → te σ H1 Q
theorem el_k {xs : List V} (h : EvL te σ H xs) : EvK te σ H xs := fun H1 e1 Q q => h H1 e1 Q fun p H2 _ e2 h2 => q p H2 e2 h2
theorem el_get {p : Addr} {xs : List V} (h : Ev te σ H (.ref p)) (hp : H p = some (.lst xs)) : EvK te σ H xs := fun H1 e1 Q q => h H1 e1 _ fun H2 e2 => q p H2 e2 ((e1.trans e2) _ _ hp)
theorem el_cat {ta tb : TE} {xs ys : List V} (ha : EvK ta σ H xs) (hb : EvK tb σ H ys) (hl : xs.length + ys.length ≤ 100000) : EvL (tOp rCat ta tb) σ H (xs ++ ys) := fun H1 e Q k =>
  ha H1 e _ fun p H2 e2 h2 => hb H2 (e.trans e2) _ fun q H3 e3 h3 => ⟨p, q, xs, ys, rfl, rfl, e3 _ _ h2, h3, sz_of hl, fun r hr => k r _ (fresh_back (e2.trans e3) hr) ((e2.trans e3).trans (Ex.new hr)) upd_same⟩
theorem ev_opLL' {r : R2} {ta tb : TE} {xs ys : List V} {z : V} (ha : EvK ta σ H xs) (hb : EvL tb σ H ys) (hr : ∀ p q H1, H1 p = some (.lst xs) → H1 q = some (.lst ys) → Ex H H1 → RV r (.ref p) (.ref q) H1 z) : Ev (tOp r ta tb) σ H z := fun H1 e Q k =>
  ha H1 e _ fun p H2 e2 hp => hb H2 (e.trans e2) _ fun q H3 _ e3 hq => hr p q H3 (e3 p _ hp) hq ((e.trans e2).trans e3) H3 (Ex.refl H3) Q fun H4 e4 => k H4 ((e2.trans e3).trans e4)
end
end My

namespace My
open PySem PySem.Spec PyProof.Rows L2 Evl
/-! ### the errors' own __init__ -/
section
variable {K : PySem.W.Frag} {C a : Addr} {H : Hp} {D : Ends}
theorem rd_init1 {f : Str} {v : V} (T : OexC K C) (n1 : PySem.W.findIn K (.ref C) f = some none) (hH : H a = some (exo a C none))
    (k : ∀ (H' : Hp) (d : Addr) (l : List (Str × V)), H' a = some (exo a C (some d)) → H' d = some (exd d l) → H d = none → (∀ q ∈ [f].zip [v], l.lookup q.1 = some q.2) → (∀ b o, b ≠ a → H b = some o → H' b = some o) → D.nx [some (.ref a), some v] H') :
    tOst K f (tVar 0) (tVar 1) D [some (.ref a), some v] H := by
  refine ⟨_, rfl, _, rfl, a, C, rfl, T, n1, .inl ⟨hH, fun dx hd hne => ?_⟩⟩
  refine k _ dx _ upd_same (by rw [upd_ne hne]; exact upd_same) hd (fun q hq => ?_) (fun b o hb h => ?_)
  · have : q = (f, v) := by simpa using hq
    subst this
    rw [lookup_put, if_pos rfl]
  · rw [upd_ne hb, upd_ne (ne_of_none h hd)]
    exact h
theorem rd_init2 {f g : Str} {v w : V} (T : OexC K C) (n1 : PySem.W.findIn K (.ref C) f = some none) (n2 : PySem.W.findIn K (.ref C) g = some none) (hfg : f ≠ g) (hH : H a = some (exo a C none))
    (k : ∀ (H' : Hp) (d : Addr) (l : List (Str × V)), H' a = some (exo a C (some d)) → H' d = some (exd d l) → H d = none → (∀ q ∈ [f, g].zip [v, w], l.lookup q.1 = some q.2) → (∀ b o, b ≠ a → H b = some o → H' b = some o) → D.nx [some (.ref a), some v, some w] H') :
    tSeq (tOst K f (tVar 0) (tVar 1)) (tOst K g (tVar 0) (tVar 2)) D [some (.ref a), some v, some w] H := by
  refine ⟨_, rfl, _, rfl, a, C, rfl, T, n1, .inl ⟨hH, fun dx hd hne => ?_⟩⟩
  refine ⟨_, rfl, _, rfl, a, C, rfl, T, n2, .inr ⟨dx, _, upd_same, (by rw [upd_ne hne]; exact upd_same), by simp, ?_⟩⟩
  refine k _ dx _ (by rw [upd_ne hne.symm]; exact upd_same) upd_same hd (fun q hq => ?_) (fun b o hb h => ?_)
  · have : q = (f, v) ∨ q = (g, w) := by simpa using hq
    rcases this with rfl | rfl
    · rw [lookup_put, if_neg hfg, lookup_put, if_pos rfl]
    · rw [lookup_put, if_pos rfl]
  · rw [upd_ne (ne_of_none h hd), upd_ne hb, upd_ne (ne_of_none h hd)]
    exact h
theorem rd_init4 {f1 f2 f3 f4 : Str} {v1 v2 v3 v4 : V} (T : OexC K C) (n1 : PySem.W.findIn K (.ref C) f1 = some none) (n2 : PySem.W.findIn K (.ref C) f2 = some none) (n3 : PySem.W.findIn K (.ref C) f3 = some none) (n4 : PySem.W.findIn K (.ref C) f4 = some none)
    (hn : [f1, f2, f3, f4].Nodup) (hH : H a = some (exo a C none))
    (k : ∀ (H' : Hp) (d : Addr) (l : List (Str × V)), H' a = some (exo a C (some d)) → H' d = some (exd d l) → H d = none → (∀ q ∈ [f1, f2, f3, f4].zip [v1, v2, v3, v4], l.lookup q.1 = some q.2) → (∀ b o, b ≠ a → H b = some o → H' b = some o) → D.nx [some (.ref a), some v1, some v2, some v3, some v4] H') :
    tSeq (tOst K f1 (tVar 0) (tVar 1)) (tSeq (tOst K f2 (tVar 0) (tVar 2)) (tSeq (tOst K f3 (tVar 0) (tVar 3)) (tOst K f4 (tVar 0) (tVar 4)))) D [some (.ref a), some v1, some v2, some v3, some v4] H := by
  have hn' : (f1 ≠ f2 ∧ f1 ≠ f3 ∧ f1 ≠ f4) ∧ (f2 ≠ f3 ∧ f2 ≠ f4) ∧ f3 ≠ f4 := by
    simp only [List.nodup_cons, List.mem_cons, not_or, List.not_mem_nil, not_false_eq_true, and_true, List.nodup_nil] at hn
    exact hn
  obtain ⟨⟨a12, a13, a14⟩, ⟨a23, a24⟩, a34⟩ := hn'
  refine ⟨_, rfl, _, rfl, a, C, rfl, T, n1, .inl ⟨hH, fun dx hd hne => ?_⟩⟩
  refine ⟨_, rfl, _, rfl, a, C, rfl, T, n2, .inr ⟨dx, _, upd_same, (by rw [upd_ne hne]; exact upd_same), by simp, ?_⟩⟩
  refine ⟨_, rfl, _, rfl, a, C, rfl, T, n3, .inr ⟨dx, _, (by rw [upd_ne hne.symm]; exact upd_same), upd_same, by simp, ?_⟩⟩
  refine ⟨_, rfl, _, rfl, a, C, rfl, T, n4, .inr ⟨dx, _, (by rw [upd_ne hne.symm, upd_ne hne.symm]; exact upd_same), upd_same, by simp, ?_⟩⟩
  refine k _ dx _ (by rw [upd_ne hne.symm, upd_ne hne.symm, upd_ne hne.symm]; exact upd_same) upd_same hd (fun q hq => ?_) (fun b o hb h => ?_)
  · have : q = (f1, v1) ∨ q = (f2, v2) ∨ q = (f3, v3) ∨ q = (f4, v4) := by simpa using hq
    rcases this with rfl | rfl | rfl | rfl
    · rw [lookup_put, if_neg a14, lookup_put, if_neg a13, lookup_put, if_neg a12, lookup_put, if_pos rfl]
    · rw [lookup_put, if_neg a24, lookup_put, if_neg a23, lookup_put, if_pos rfl]
    · rw [lookup_put, if_neg a34, lookup_put, if_pos rfl]
    · rw [lookup_put, if_pos rfl]
  · rw [upd_ne (ne_of_none h hd), upd_ne (ne_of_none h hd), upd_ne (ne_of_none h hd), upd_ne hb, upd_ne (ne_of_none h hd)]
    exact h
end
section
variable {P : Program} {w : World} {K : PySem.W.Frag} {mg : Str → Option Value} {base : Heap}
abbrev sI_BadLine : Stmt := inClass (top 3) 0
theorem scI_BadLine : FnScope ["self", "line"] ["self", "line"] (defScope sI_BadLine) := ⟨rfl, rfl, rfl, by decide +kernel, rfl, by decide +kernel, by decide +kernel⟩
theorem ok_I_BadLine {f C : Addr} {fd : FuncData} (F : Fun K "__init__" "BadLine.__init__" sI_BadLine f fd) (T : OexC K C) (n1 : PySem.W.findIn K (.ref C) "line" = some none) : FnOk P w K mg base CX0 1 f fd ["self", "line"] (spX K C ["line"]) := by
  refine F.ok scI_BadLine (fun vs H Q E h => ?_) (fun cdv A outer s H vs Q E hr h => ?_)
  · obtain ⟨a, ws, rfl, hl, _⟩ := h
    exact congrArg Nat.succ hl
  · obtain ⟨a, ws, rfl, hl, hH, k⟩ := h
    refine ⟨_, (pss_one (ps_ost (pv 0) (pv 1))), ?_⟩
    match ws, hl with
    | [v], _ => exact rd_init1 T n1 hH k
abbrev sI_DuplicateName : Stmt := inClass (top 4) 0
theorem scI_DuplicateName : FnScope ["self", "line", "name"] ["self", "line", "name"] (defScope sI_DuplicateName) := ⟨rfl, rfl, rfl, by decide +kernel, rfl, by decide +kernel, by decide +kernel⟩
theorem ok_I_DuplicateName {f C : Addr} {fd : FuncData} (F : Fun K "__init__" "DuplicateName.__init__" sI_DuplicateName f fd) (T : OexC K C) (n1 : PySem.W.findIn K (.ref C) "line" = some none) (n2 : PySem.W.findIn K (.ref C) "name" = some none) : FnOk P w K mg base CX0 1 f fd ["self", "line", "name"] (spX K C ["line", "name"]) := by
  refine F.ok scI_DuplicateName (fun vs H Q E h => ?_) (fun cdv A outer s H vs Q E hr h => ?_)
  · obtain ⟨a, ws, rfl, hl, _⟩ := h
    exact congrArg Nat.succ hl
  · obtain ⟨a, ws, rfl, hl, hH, k⟩ := h
    refine ⟨_, (pss_cons (ps_ost (pv 0) (pv 1))
    (pss_one (ps_ost (pv 0) (pv 2)))), ?_⟩
    match ws, hl with
    | [v, w], _ => exact rd_init2 T n1 n2 (by decide +kernel) hH k
abbrev sI_UnknownName : Stmt := inClass (top 5) 0
theorem scI_UnknownName : FnScope ["self", "line", "name"] ["self", "line", "name"] (defScope sI_UnknownName) := ⟨rfl, rfl, rfl, by decide +kernel, rfl, by decide +kernel, by decide +kernel⟩
theorem ok_I_UnknownName {f C : Addr} {fd : FuncData} (F : Fun K "__init__" "UnknownName.__init__" sI_UnknownName f fd) (T : OexC K C) (n1 : PySem.W.findIn K (.ref C) "line" = some none) (n2 : PySem.W.findIn K (.ref C) "name" = some none) : FnOk P w K mg base CX0 1 f fd ["self", "line", "name"] (spX K C ["line", "name"]) := by
  refine F.ok scI_UnknownName (fun vs H Q E h => ?_) (fun cdv A outer s H vs Q E hr h => ?_)
  · obtain ⟨a, ws, rfl, hl, _⟩ := h
    exact congrArg Nat.succ hl
  · obtain ⟨a, ws, rfl, hl, hH, k⟩ := h
    refine ⟨_, (pss_cons (ps_ost (pv 0) (pv 1))
    (pss_one (ps_ost (pv 0) (pv 2)))), ?_⟩
    match ws, hl with
    | [v, w], _ => exact rd_init2 T n1 n2 (by decide +kernel) hH k
abbrev sI_WrongTable : Stmt := inClass (top 6) 0
theorem scI_WrongTable : FnScope ["self", "line", "name"] ["self", "line", "name"] (defScope sI_WrongTable) := ⟨rfl, rfl, rfl, by decide +kernel, rfl, by decide +kernel, by decide +kernel⟩
theorem ok_I_WrongTable {f C : Addr} {fd : FuncData} (F : Fun K "__init__" "WrongTable.__init__" sI_WrongTable f fd) (T : OexC K C) (n1 : PySem.W.findIn K (.ref C) "line" = some none) (n2 : PySem.W.findIn K (.ref C) "name" = some none) : FnOk P w K mg base CX0 1 f fd ["self", "line", "name"] (spX K C ["line", "name"]) := by
  refine F.ok scI_WrongTable (fun vs H Q E h => ?_) (fun cdv A outer s H vs Q E hr h => ?_)
  · obtain ⟨a, ws, rfl, hl, _⟩ := h
    exact congrArg Nat.succ hl
  · obtain ⟨a, ws, rfl, hl, hH, k⟩ := h
    refine ⟨_, (pss_cons (ps_ost (pv 0) (pv 1))
    (pss_one (ps_ost (pv 0) (pv 2)))), ?_⟩
    match ws, hl with
    | [v, w], _ => exact rd_init2 T n1 n2 (by decide +kernel) hH k
abbrev sI_WrongCount : Stmt := inClass (top 7) 0
theorem scI_WrongCount : FnScope ["self", "line"] ["self", "line"] (defScope sI_WrongCount) := ⟨rfl, rfl, rfl, by decide +kernel, rfl, by decide +kernel, by decide +kernel⟩
theorem ok_I_WrongCount {f C : Addr} {fd : FuncData} (F : Fun K "__init__" "WrongCount.__init__" sI_WrongCount f fd) (T : OexC K C) (n1 : PySem.W.findIn K (.ref C) "line" = some none) : FnOk P w K mg base CX0 1 f fd ["self", "line"] (spX K C ["line"]) := by
  refine F.ok scI_WrongCount (fun vs H Q E h => ?_) (fun cdv A outer s H vs Q E hr h => ?_)
  · obtain ⟨a, ws, rfl, hl, _⟩ := h
    exact congrArg Nat.succ hl
  · obtain ⟨a, ws, rfl, hl, hH, k⟩ := h
    refine ⟨_, (pss_one (ps_ost (pv 0) (pv 1))), ?_⟩
    match ws, hl with
    | [v], _ => exact rd_init1 T n1 hH k
abbrev sI_TooMany : Stmt := inClass (top 8) 0
theorem scI_TooMany : FnScope ["self", "line"] ["self", "line"] (defScope sI_TooMany) := ⟨rfl, rfl, rfl, by decide +kernel, rfl, by decide +kernel, by decide +kernel⟩
theorem ok_I_TooMany {f C : Addr} {fd : FuncData} (F : Fun K "__init__" "TooMany.__init__" sI_TooMany f fd) (T : OexC K C) (n1 : PySem.W.findIn K (.ref C) "line" = some none) : FnOk P w K mg base CX0 1 f fd ["self", "line"] (spX K C ["line"]) := by
  refine F.ok scI_TooMany (fun vs H Q E h => ?_) (fun cdv A outer s H vs Q E hr h => ?_)
  · obtain ⟨a, ws, rfl, hl, _⟩ := h
    exact congrArg Nat.succ hl
  · obtain ⟨a, ws, rfl, hl, hH, k⟩ := h
    refine ⟨_, (pss_one (ps_ost (pv 0) (pv 1))), ?_⟩
    match ws, hl with
    | [v], _ => exact rd_init1 T n1 hH k
abbrev sI_BadPattern : Stmt := inClass (top 9) 0
theorem scI_BadPattern : FnScope ["self", "place"] ["self", "place"] (defScope sI_BadPattern) := ⟨rfl, rfl, rfl, by decide +kernel, rfl, by decide +kernel, by decide +kernel⟩
theorem ok_I_BadPattern {f C : Addr} {fd : FuncData} (F : Fun K "__init__" "BadPattern.__init__" sI_BadPattern f fd) (T : OexC K C) (n1 : PySem.W.findIn K (.ref C) "place" = some none) : FnOk P w K mg base CX0 1 f fd ["self", "place"] (spX K C ["place"]) := by
  refine F.ok scI_BadPattern (fun vs H Q E h => ?_) (fun cdv A outer s H vs Q E hr h => ?_)
  · obtain ⟨a, ws, rfl, hl, _⟩ := h
    exact congrArg Nat.succ hl
  · obtain ⟨a, ws, rfl, hl, hH, k⟩ := h
    refine ⟨_, (pss_one (ps_ost (pv 0) (pv 1))), ?_⟩
    match ws, hl with
    | [v], _ => exact rd_init1 T n1 hH k
abbrev sI_ConstantsMeet : Stmt := inClass (top 10) 0
theorem scI_ConstantsMeet : FnScope ["self", "first", "second"] ["self", "first", "second"] (defScope sI_ConstantsMeet) := ⟨rfl, rfl, rfl, by decide +kernel, rfl, by decide +kernel, by decide +kernel⟩
theorem ok_I_ConstantsMeet {f C : Addr} {fd : FuncData} (F : Fun K "__init__" "ConstantsMeet.__init__" sI_ConstantsMeet f fd) (T : OexC K C) (n1 : PySem.W.findIn K (.ref C) "first" = some none) (n2 : PySem.W.findIn K (.ref C) "second" = some none) : FnOk P w K mg base CX0 1 f fd ["self", "first", "second"] (spX K C ["first", "second"]) := by
  refine F.ok scI_ConstantsMeet (fun vs H Q E h => ?_) (fun cdv A outer s H vs Q E hr h => ?_)
  · obtain ⟨a, ws, rfl, hl, _⟩ := h
    exact congrArg Nat.succ hl
  · obtain ⟨a, ws, rfl, hl, hH, k⟩ := h
    refine ⟨_, (pss_cons (ps_ost (pv 0) (pv 1))
    (pss_one (ps_ost (pv 0) (pv 2)))), ?_⟩
    match ws, hl with
    | [v, w], _ => exact rd_init2 T n1 n2 (by decide +kernel) hH k
abbrev sI_BadValue : Stmt := inClass (top 13) 0
theorem scI_BadValue : FnScope ["self", "value"] ["self", "value"] (defScope sI_BadValue) := ⟨rfl, rfl, rfl, by decide +kernel, rfl, by decide +kernel, by decide +kernel⟩
theorem ok_I_BadValue {f C : Addr} {fd : FuncData} (F : Fun K "__init__" "BadValue.__init__" sI_BadValue f fd) (T : OexC K C) (n1 : PySem.W.findIn K (.ref C) "value" = some none) : FnOk P w K mg base CX0 1 f fd ["self", "value"] (spX K C ["value"]) := by
  refine F.ok scI_BadValue (fun vs H Q E h => ?_) (fun cdv A outer s H vs Q E hr h => ?_)
  · obtain ⟨a, ws, rfl, hl, _⟩ := h
    exact congrArg Nat.succ hl
  · obtain ⟨a, ws, rfl, hl, hH, k⟩ := h
    refine ⟨_, (pss_one (ps_ost (pv 0) (pv 1))), ?_⟩
    match ws, hl with
    | [v], _ => exact rd_init1 T n1 hH k
abbrev sI_NoRow : Stmt := inClass (top 14) 0
theorem scI_NoRow : FnScope ["self", "table", "number"] ["self", "table", "number"] (defScope sI_NoRow) := ⟨rfl, rfl, rfl, by decide +kernel, rfl, by decide +kernel, by decide +kernel⟩
theorem ok_I_NoRow {f C : Addr} {fd : FuncData} (F : Fun K "__init__" "NoRow.__init__" sI_NoRow f fd) (T : OexC K C) (n1 : PySem.W.findIn K (.ref C) "table" = some none) (n2 : PySem.W.findIn K (.ref C) "number" = some none) : FnOk P w K mg base CX0 1 f fd ["self", "table", "number"] (spX K C ["table", "number"]) := by
  refine F.ok scI_NoRow (fun vs H Q E h => ?_) (fun cdv A outer s H vs Q E hr h => ?_)
  · obtain ⟨a, ws, rfl, hl, _⟩ := h
    exact congrArg Nat.succ hl
  · obtain ⟨a, ws, rfl, hl, hH, k⟩ := h
    refine ⟨_, (pss_cons (ps_ost (pv 0) (pv 1))
    (pss_one (ps_ost (pv 0) (pv 2)))), ?_⟩
    match ws, hl with
    | [v, w], _ => exact rd_init2 T n1 n2 (by decide +kernel) hH k
abbrev sI_Refused : Stmt := inClass (top 15) 0
theorem scI_Refused : FnScope ["self", "handler", "guard", "agreement", "number"] ["self", "handler", "guard", "agreement", "number"] (defScope sI_Refused) := ⟨rfl, rfl, rfl, by decide +kernel, rfl, by decide +kernel, by decide +kernel⟩
theorem ok_I_Refused {f C : Addr} {fd : FuncData} (F : FunD K "__init__" "Refused.__init__" (defArgs sI_Refused) (defBody sI_Refused) (defScope sI_Refused) [.non, .non] [] f fd) (T : OexC K C) (n1 : PySem.W.findIn K (.ref C) "handler" = some none) (n2 : PySem.W.findIn K (.ref C) "guard" = some none) (n3 : PySem.W.findIn K (.ref C) "agreement" = some none) (n4 : PySem.W.findIn K (.ref C) "number" = some none) : FnOk P w K mg base CX0 1 f fd ["self", "handler", "guard", "agreement", "number"] (spX K C ["handler", "guard", "agreement", "number"]) := by
  refine F.ok scI_Refused (fun vs H Q E h => ?_) (fun cdv A outer s H vs Q E hr h => ?_)
  · obtain ⟨a, ws, rfl, hl, _⟩ := h
    exact congrArg Nat.succ hl
  · obtain ⟨a, ws, rfl, hl, hH, k⟩ := h
    refine ⟨_, (pss_cons (ps_ost (pv 0) (pv 1))
    (pss_cons (ps_ost (pv 0) (pv 2))
    (pss_cons (ps_ost (pv 0) (pv 3))
    (pss_one (ps_ost (pv 0) (pv 4)))))), ?_⟩
    match ws, hl with
    | [v1, v2, v3, v4], _ => exact rd_init4 T n1 n2 n3 n4 (by decide +kernel) hH k
abbrev sI_Broken : Stmt := inClass (top 16) 0
theorem scI_Broken : FnScope ["self", "agreement", "number"] ["self", "agreement", "number"] (defScope sI_Broken) := ⟨rfl, rfl, rfl, by decide +kernel, rfl, by decide +kernel, by decide +kernel⟩
theorem ok_I_Broken {f C : Addr} {fd : FuncData} (F : Fun K "__init__" "Broken.__init__" sI_Broken f fd) (T : OexC K C) (n1 : PySem.W.findIn K (.ref C) "agreement" = some none) (n2 : PySem.W.findIn K (.ref C) "number" = some none) : FnOk P w K mg base CX0 1 f fd ["self", "agreement", "number"] (spX K C ["agreement", "number"]) := by
  refine F.ok scI_Broken (fun vs H Q E h => ?_) (fun cdv A outer s H vs Q E hr h => ?_)
  · obtain ⟨a, ws, rfl, hl, _⟩ := h
    exact congrArg Nat.succ hl
  · obtain ⟨a, ws, rfl, hl, hH, k⟩ := h
    refine ⟨_, (pss_cons (ps_ost (pv 0) (pv 1))
    (pss_one (ps_ost (pv 0) (pv 2)))), ?_⟩
    match ws, hl with
    | [v, w], _ => exact rd_init2 T n1 n2 (by decide +kernel) hH k
abbrev sI_TooManyPatterns : Stmt := inClass (top 18) 0
theorem scI_TooManyPatterns : FnScope ["self", "table"] ["self", "table"] (defScope sI_TooManyPatterns) := ⟨rfl, rfl, rfl, by decide +kernel, rfl, by decide +kernel, by decide +kernel⟩
theorem ok_I_TooManyPatterns {f C : Addr} {fd : FuncData} (F : Fun K "__init__" "TooManyPatterns.__init__" sI_TooManyPatterns f fd) (T : OexC K C) (n1 : PySem.W.findIn K (.ref C) "table" = some none) : FnOk P w K mg base CX0 1 f fd ["self", "table"] (spX K C ["table"]) := by
  refine F.ok scI_TooManyPatterns (fun vs H Q E h => ?_) (fun cdv A outer s H vs Q E hr h => ?_)
  · obtain ⟨a, ws, rfl, hl, _⟩ := h
    exact congrArg Nat.succ hl
  · obtain ⟨a, ws, rfl, hl, hH, k⟩ := h
    refine ⟨_, (pss_one (ps_ost (pv 0) (pv 1))), ?_⟩
    match ws, hl with
    | [v], _ => exact rd_init1 T n1 hH k
abbrev sI_BadDerivation : Stmt := inClass (top 19) 0
theorem scI_BadDerivation : FnScope ["self", "line"] ["self", "line"] (defScope sI_BadDerivation) := ⟨rfl, rfl, rfl, by decide +kernel, rfl, by decide +kernel, by decide +kernel⟩
theorem ok_I_BadDerivation {f C : Addr} {fd : FuncData} (F : Fun K "__init__" "BadDerivation.__init__" sI_BadDerivation f fd) (T : OexC K C) (n1 : PySem.W.findIn K (.ref C) "line" = some none) : FnOk P w K mg base CX0 1 f fd ["self", "line"] (spX K C ["line"]) := by
  refine F.ok scI_BadDerivation (fun vs H Q E h => ?_) (fun cdv A outer s H vs Q E hr h => ?_)
  · obtain ⟨a, ws, rfl, hl, _⟩ := h
    exact congrArg Nat.succ hl
  · obtain ⟨a, ws, rfl, hl, hH, k⟩ := h
    refine ⟨_, (pss_one (ps_ost (pv 0) (pv 1))), ?_⟩
    match ws, hl with
    | [v], _ => exact rd_init1 T n1 hH k
abbrev sI_TooLong : Stmt := inClass (top 21) 0
theorem scI_TooLong : FnScope ["self", "size"] ["self", "size"] (defScope sI_TooLong) := ⟨rfl, rfl, rfl, by decide +kernel, rfl, by decide +kernel, by decide +kernel⟩
theorem ok_I_TooLong {f C : Addr} {fd : FuncData} (F : Fun K "__init__" "TooLong.__init__" sI_TooLong f fd) (T : OexC K C) (n1 : PySem.W.findIn K (.ref C) "size" = some none) : FnOk P w K mg base CX0 1 f fd ["self", "size"] (spX K C ["size"]) := by
  refine F.ok scI_TooLong (fun vs H Q E h => ?_) (fun cdv A outer s H vs Q E hr h => ?_)
  · obtain ⟨a, ws, rfl, hl, _⟩ := h
    exact congrArg Nat.succ hl
  · obtain ⟨a, ws, rfl, hl, hH, k⟩ := h
    refine ⟨_, (pss_one (ps_ost (pv 0) (pv 1))), ?_⟩
    match ws, hl with
    | [v], _ => exact rd_init1 T n1 hH k
abbrev sI_BadOffer : Stmt := inClass (top 23) 0
theorem scI_BadOffer : FnScope ["self", "number"] ["self", "number"] (defScope sI_BadOffer) := ⟨rfl, rfl, rfl, by decide +kernel, rfl, by decide +kernel, by decide +kernel⟩
theorem ok_I_BadOffer {f C : Addr} {fd : FuncData} (F : Fun K "__init__" "BadOffer.__init__" sI_BadOffer f fd) (T : OexC K C) (n1 : PySem.W.findIn K (.ref C) "number" = some none) : FnOk P w K mg base CX0 1 f fd ["self", "number"] (spX K C ["number"]) := by
  refine F.ok scI_BadOffer (fun vs H Q E h => ?_) (fun cdv A outer s H vs Q E hr h => ?_)
  · obtain ⟨a, ws, rfl, hl, _⟩ := h
    exact congrArg Nat.succ hl
  · obtain ⟨a, ws, rfl, hl, hH, k⟩ := h
    refine ⟨_, (pss_one (ps_ost (pv 0) (pv 1))), ?_⟩
    match ws, hl with
    | [v], _ => exact rd_init1 T n1 hH k
end
end My

namespace My
open PySem PySem.Spec PyProof.Rows L2 Evl
/-! ### what the top leaves of the errors: A the base class, cs d the d-th class, fi d its __init__ -/
structure TXX (K : PySem.W.Frag) (mg : Str → Option Value) (A : Addr) (cs fi : Nat → Addr) : Prop where
  exc : ∀ d, d < 21 → ExcC K (cs d)
  kit : ∀ d i, d < 21 → i < 21 → PySem.W.kitOne K (.ref (cs d)) (.ref (cs i)) = some (decide (d = i))
  kitA : ∀ d, d < 21 → PySem.W.kitOne K (.ref (cs d)) (.ref A) = some true
  kitV : ∀ d, d < 21 → PySem.W.kitOne K (.ref (cs d)) (.type "ValueError") = some true
  exmA : ∀ d, d < 21 → PySem.W.exmOne K (.ref (cs d)) (.ref A) = some true
  g_AgreeError : mg "AgreeError" = some (.ref A)
  g_BadLine : mg "BadLine" = some (.ref (cs 0))
  o_BadLine : OexC K (cs 0)
  i_BadLine : PySem.W.findIn K (.ref (cs 0)) "__init__" = some (some (.ref (fi 0)))
  t_BadLine : PySem.W.typeIn K (.ref (fi 0)) = some (.type "function")
  no_BadLine_line : PySem.W.findIn K (.ref (cs 0)) "line" = some none
  g_DuplicateName : mg "DuplicateName" = some (.ref (cs 1))
  o_DuplicateName : OexC K (cs 1)
  i_DuplicateName : PySem.W.findIn K (.ref (cs 1)) "__init__" = some (some (.ref (fi 1)))
  t_DuplicateName : PySem.W.typeIn K (.ref (fi 1)) = some (.type "function")
  no_DuplicateName_line : PySem.W.findIn K (.ref (cs 1)) "line" = some none
  no_DuplicateName_name : PySem.W.findIn K (.ref (cs 1)) "name" = some none
  g_UnknownName : mg "UnknownName" = some (.ref (cs 2))
  o_UnknownName : OexC K (cs 2)
  i_UnknownName : PySem.W.findIn K (.ref (cs 2)) "__init__" = some (some (.ref (fi 2)))
  t_UnknownName : PySem.W.typeIn K (.ref (fi 2)) = some (.type "function")
  no_UnknownName_line : PySem.W.findIn K (.ref (cs 2)) "line" = some none
  no_UnknownName_name : PySem.W.findIn K (.ref (cs 2)) "name" = some none
  g_WrongTable : mg "WrongTable" = some (.ref (cs 3))
  o_WrongTable : OexC K (cs 3)
  i_WrongTable : PySem.W.findIn K (.ref (cs 3)) "__init__" = some (some (.ref (fi 3)))
  t_WrongTable : PySem.W.typeIn K (.ref (fi 3)) = some (.type "function")
  no_WrongTable_line : PySem.W.findIn K (.ref (cs 3)) "line" = some none
  no_WrongTable_name : PySem.W.findIn K (.ref (cs 3)) "name" = some none
  g_WrongCount : mg "WrongCount" = some (.ref (cs 4))
  o_WrongCount : OexC K (cs 4)
  i_WrongCount : PySem.W.findIn K (.ref (cs 4)) "__init__" = some (some (.ref (fi 4)))
  t_WrongCount : PySem.W.typeIn K (.ref (fi 4)) = some (.type "function")
  no_WrongCount_line : PySem.W.findIn K (.ref (cs 4)) "line" = some none
  g_TooMany : mg "TooMany" = some (.ref (cs 5))
  o_TooMany : OexC K (cs 5)
  i_TooMany : PySem.W.findIn K (.ref (cs 5)) "__init__" = some (some (.ref (fi 5)))
  t_TooMany : PySem.W.typeIn K (.ref (fi 5)) = some (.type "function")
  no_TooMany_line : PySem.W.findIn K (.ref (cs 5)) "line" = some none
  g_BadPattern : mg "BadPattern" = some (.ref (cs 6))
  o_BadPattern : OexC K (cs 6)
  i_BadPattern : PySem.W.findIn K (.ref (cs 6)) "__init__" = some (some (.ref (fi 6)))
  t_BadPattern : PySem.W.typeIn K (.ref (fi 6)) = some (.type "function")
  no_BadPattern_place : PySem.W.findIn K (.ref (cs 6)) "place" = some none
  g_ConstantsMeet : mg "ConstantsMeet" = some (.ref (cs 7))
  o_ConstantsMeet : OexC K (cs 7)
  i_ConstantsMeet : PySem.W.findIn K (.ref (cs 7)) "__init__" = some (some (.ref (fi 7)))
  t_ConstantsMeet : PySem.W.typeIn K (.ref (fi 7)) = some (.type "function")
  no_ConstantsMeet_first : PySem.W.findIn K (.ref (cs 7)) "first" = some none
  no_ConstantsMeet_second : PySem.W.findIn K (.ref (cs 7)) "second" = some none
  g_OtherPlaces : mg "OtherPlaces" = some (.ref (cs 8))
  k_OtherPlaces : PySem.W.keepIn K (.ref (cs 8)) = true
  e_OtherPlaces : PySem.W.excIn K (cs 8) [.type "ValueError", .type "Exception", .type "BaseException", .type "object"] "ValueError.__new__" = true
  g_OtherSchema : mg "OtherSchema" = some (.ref (cs 9))
  k_OtherSchema : PySem.W.keepIn K (.ref (cs 9)) = true
  e_OtherSchema : PySem.W.excIn K (cs 9) [.type "ValueError", .type "Exception", .type "BaseException", .type "object"] "ValueError.__new__" = true
  g_BadValue : mg "BadValue" = some (.ref (cs 10))
  o_BadValue : OexC K (cs 10)
  i_BadValue : PySem.W.findIn K (.ref (cs 10)) "__init__" = some (some (.ref (fi 10)))
  t_BadValue : PySem.W.typeIn K (.ref (fi 10)) = some (.type "function")
  no_BadValue_value : PySem.W.findIn K (.ref (cs 10)) "value" = some none
  g_NoRow : mg "NoRow" = some (.ref (cs 11))
  o_NoRow : OexC K (cs 11)
  i_NoRow : PySem.W.findIn K (.ref (cs 11)) "__init__" = some (some (.ref (fi 11)))
  t_NoRow : PySem.W.typeIn K (.ref (fi 11)) = some (.type "function")
  no_NoRow_table : PySem.W.findIn K (.ref (cs 11)) "table" = some none
  no_NoRow_number : PySem.W.findIn K (.ref (cs 11)) "number" = some none
  g_Refused : mg "Refused" = some (.ref (cs 12))
  o_Refused : OexC K (cs 12)
  i_Refused : PySem.W.findIn K (.ref (cs 12)) "__init__" = some (some (.ref (fi 12)))
  t_Refused : PySem.W.typeIn K (.ref (fi 12)) = some (.type "function")
  no_Refused_handler : PySem.W.findIn K (.ref (cs 12)) "handler" = some none
  no_Refused_guard : PySem.W.findIn K (.ref (cs 12)) "guard" = some none
  no_Refused_agreement : PySem.W.findIn K (.ref (cs 12)) "agreement" = some none
  no_Refused_number : PySem.W.findIn K (.ref (cs 12)) "number" = some none
  g_Broken : mg "Broken" = some (.ref (cs 13))
  o_Broken : OexC K (cs 13)
  i_Broken : PySem.W.findIn K (.ref (cs 13)) "__init__" = some (some (.ref (fi 13)))
  t_Broken : PySem.W.typeIn K (.ref (fi 13)) = some (.type "function")
  no_Broken_agreement : PySem.W.findIn K (.ref (cs 13)) "agreement" = some none
  no_Broken_number : PySem.W.findIn K (.ref (cs 13)) "number" = some none
  g_BadCase : mg "BadCase" = some (.ref (cs 14))
  k_BadCase : PySem.W.keepIn K (.ref (cs 14)) = true
  e_BadCase : PySem.W.excIn K (cs 14) [.type "ValueError", .type "Exception", .type "BaseException", .type "object"] "ValueError.__new__" = true
  g_TooManyPatterns : mg "TooManyPatterns" = some (.ref (cs 15))
  o_TooManyPatterns : OexC K (cs 15)
  i_TooManyPatterns : PySem.W.findIn K (.ref (cs 15)) "__init__" = some (some (.ref (fi 15)))
  t_TooManyPatterns : PySem.W.typeIn K (.ref (fi 15)) = some (.type "function")
  no_TooManyPatterns_table : PySem.W.findIn K (.ref (cs 15)) "table" = some none
  g_BadDerivation : mg "BadDerivation" = some (.ref (cs 16))
  o_BadDerivation : OexC K (cs 16)
  i_BadDerivation : PySem.W.findIn K (.ref (cs 16)) "__init__" = some (some (.ref (fi 16)))
  t_BadDerivation : PySem.W.typeIn K (.ref (fi 16)) = some (.type "function")
  no_BadDerivation_line : PySem.W.findIn K (.ref (cs 16)) "line" = some none
  g_NotReachable : mg "NotReachable" = some (.ref (cs 17))
  k_NotReachable : PySem.W.keepIn K (.ref (cs 17)) = true
  e_NotReachable : PySem.W.excIn K (cs 17) [.type "ValueError", .type "Exception", .type "BaseException", .type "object"] "ValueError.__new__" = true
  g_TooLong : mg "TooLong" = some (.ref (cs 18))
  o_TooLong : OexC K (cs 18)
  i_TooLong : PySem.W.findIn K (.ref (cs 18)) "__init__" = some (some (.ref (fi 18)))
  t_TooLong : PySem.W.typeIn K (.ref (fi 18)) = some (.type "function")
  no_TooLong_size : PySem.W.findIn K (.ref (cs 18)) "size" = some none
  g_NotComparable : mg "NotComparable" = some (.ref (cs 19))
  k_NotComparable : PySem.W.keepIn K (.ref (cs 19)) = true
  e_NotComparable : PySem.W.excIn K (cs 19) [.type "ValueError", .type "Exception", .type "BaseException", .type "object"] "ValueError.__new__" = true
  g_BadOffer : mg "BadOffer" = some (.ref (cs 20))
  o_BadOffer : OexC K (cs 20)
  i_BadOffer : PySem.W.findIn K (.ref (cs 20)) "__init__" = some (some (.ref (fi 20)))
  t_BadOffer : PySem.W.typeIn K (.ref (fi 20)) = some (.type "function")
  no_BadOffer_number : PySem.W.findIn K (.ref (cs 20)) "number" = some none
structure TL (mg : Str → Option Value) : Prop where
  d : TD mg
  n_isinstance : mg "isinstance" = none
  n_range : mg "range" = none
  n_ValueError : mg "ValueError" = none
abbrev sFamily : Stmt := top 28
abbrev sKin : Stmt := top 29
theorem scFam : FnScope ["error", "found"] ["error"] (defScope sFamily) := ⟨rfl, rfl, rfl, by decide +kernel, rfl, by decide +kernel, by decide +kernel⟩
theorem scKin : FnScope ["error", "place", "found", "k"] ["error", "place"] (defScope sKin) := ⟨rfl, rfl, rfl, by decide +kernel, rfl, by decide +kernel, by decide +kernel⟩
def famL (d : Nat) : List V := (List.range 21).map fun i => V.bl (decide (d = i))
def spFam (cs : Nat → Addr) : Sp := fun vs H Q _ => ∃ (e : Addr) (d : Nat), vs = [.ref e] ∧ d < 21 ∧ ExAny H e (cs d) ∧ ∀ (p : Addr) (H' : Hp), H p = none → Ex H H' → H' p = some (.lst (famL d)) → Q (.ref p) H'
def spKin (cs : Nat → Addr) : Sp := fun vs H Q _ => ∃ (e : Addr) (d k : Nat), vs = [.ref e, .int (k : Int)] ∧ d < 21 ∧ ExAny H e (cs d) ∧ ∀ (H' : Hp), Ex H H' → Q (.bl (decide (d = k))) H'
section
variable {K : PySem.W.Frag} {mg : Str → Option Value} {A : Addr} {cs fi : Nat → Addr} {σ : L2.St} {H : Hp} {te : TE}
theorem ev_isX {e D : Addr} {c : V} {cv : Value} {b : Bool} {tc : TE} (h : Ev te σ H (.ref e)) (hc : Ev tc σ H c) (he : ExAny H e D) (C : ExcC K D) (hcv : ClsV c cv) (hk : PySem.W.kitOne K (.ref D) cv = some b) : Ev (tCB (rIsX K) (tCons te (tCons tc tNil))) σ H (.bl b) :=
  ev_cb (ea_cons h (ea_cons hc ea_nil)) fun H1 e1 Q q => ⟨e, D, c, cv, b, rfl, hcv, C, he.ex e1, hk, q H1 (Ex.refl H1)⟩
theorem ev_is21 {e : Addr} {d i : Nat} {tc : TE} (TX : TXX K mg A cs fi) (hd : d < 21) (hi : i < 21) (h : Ev te σ H (.ref e)) (hc : Ev tc σ H (.ref (cs i))) (he : ExAny H e (cs d)) : Ev (tCB (rIsX K) (tCons te (tCons tc tNil))) σ H (.bl (decide (d = i))) :=
  ev_isX h hc he (TX.exc d hd) (.own _) (TX.kit d i hd hi)
variable {P : Program} {w : World} {base : Heap}
theorem ok_fam {f : Addr} {fd : FuncData} (F : Fun K "_law_family" "_law_family" sFamily f fd) (T : TL mg) (TX : TXX K mg A cs fi) : FnOk P w K mg base CX0 1 f fd ["error"] (spFam cs) := by
  refine F.ok scFam (fun vs H Q E h => ?_) (fun cdv A outer s H vs Q E hr h => ?_)
  · obtain ⟨e, d, rfl, _⟩ := h
    rfl
  · obtain ⟨e, d, rfl, hd, he, k⟩ := h
    refine ⟨_, (pss_cons (ps_set (i := 1) scFam.nd rfl (Or.inl rfl) (pe_lst (pa_cons (pe_callB (isXK K) (by rfl) T.n_isinstance (by decide +kernel) (pa_cons (pv 0) (pa_cons (pe_cls rfl TX.g_BadLine) pa_nil))) (pa_cons (pe_callB (isXK K) (by rfl) T.n_isinstance (by decide +kernel) (pa_cons (pv 0) (pa_cons (pe_cls rfl TX.g_DuplicateName) pa_nil))) (pa_cons (pe_callB (isXK K) (by rfl) T.n_isinstance (by decide +kernel) (pa_cons (pv 0) (pa_cons (pe_cls rfl TX.g_UnknownName) pa_nil))) pa_nil)))))
    (pss_cons (ps_set (i := 1) scFam.nd rfl (Or.inl rfl) (pe_op op_cat (pv 1) (pe_lst (pa_cons (pe_callB (isXK K) (by rfl) T.n_isinstance (by decide +kernel) (pa_cons (pv 0) (pa_cons (pe_cls rfl TX.g_WrongTable) pa_nil))) (pa_cons (pe_callB (isXK K) (by rfl) T.n_isinstance (by decide +kernel) (pa_cons (pv 0) (pa_cons (pe_cls rfl TX.g_WrongCount) pa_nil))) (pa_cons (pe_callB (isXK K) (by rfl) T.n_isinstance (by decide +kernel) (pa_cons (pv 0) (pa_cons (pe_cls rfl TX.g_TooMany) pa_nil))) pa_nil))))))
    (pss_cons (ps_set (i := 1) scFam.nd rfl (Or.inl rfl) (pe_op op_cat (pv 1) (pe_lst (pa_cons (pe_callB (isXK K) (by rfl) T.n_isinstance (by decide +kernel) (pa_cons (pv 0) (pa_cons (pe_cls rfl TX.g_BadPattern) pa_nil))) (pa_cons (pe_callB (isXK K) (by rfl) T.n_isinstance (by decide +kernel) (pa_cons (pv 0) (pa_cons (pe_cls rfl TX.g_ConstantsMeet) pa_nil))) (pa_cons (pe_callB (isXK K) (by rfl) T.n_isinstance (by decide +kernel) (pa_cons (pv 0) (pa_cons (pe_cls rfl TX.g_OtherPlaces) pa_nil))) pa_nil))))))
    (pss_cons (ps_set (i := 1) scFam.nd rfl (Or.inl rfl) (pe_op op_cat (pv 1) (pe_lst (pa_cons (pe_callB (isXK K) (by rfl) T.n_isinstance (by decide +kernel) (pa_cons (pv 0) (pa_cons (pe_cls rfl TX.g_OtherSchema) pa_nil))) (pa_cons (pe_callB (isXK K) (by rfl) T.n_isinstance (by decide +kernel) (pa_cons (pv 0) (pa_cons (pe_cls rfl TX.g_BadValue) pa_nil))) (pa_cons (pe_callB (isXK K) (by rfl) T.n_isinstance (by decide +kernel) (pa_cons (pv 0) (pa_cons (pe_cls rfl TX.g_NoRow) pa_nil))) pa_nil))))))
    (pss_cons (ps_set (i := 1) scFam.nd rfl (Or.inl rfl) (pe_op op_cat (pv 1) (pe_lst (pa_cons (pe_callB (isXK K) (by rfl) T.n_isinstance (by decide +kernel) (pa_cons (pv 0) (pa_cons (pe_cls rfl TX.g_Refused) pa_nil))) (pa_cons (pe_callB (isXK K) (by rfl) T.n_isinstance (by decide +kernel) (pa_cons (pv 0) (pa_cons (pe_cls rfl TX.g_Broken) pa_nil))) (pa_cons (pe_callB (isXK K) (by rfl) T.n_isinstance (by decide +kernel) (pa_cons (pv 0) (pa_cons (pe_cls rfl TX.g_BadCase) pa_nil))) pa_nil))))))
    (pss_cons (ps_set (i := 1) scFam.nd rfl (Or.inl rfl) (pe_op op_cat (pv 1) (pe_lst (pa_cons (pe_callB (isXK K) (by rfl) T.n_isinstance (by decide +kernel) (pa_cons (pv 0) (pa_cons (pe_cls rfl TX.g_TooManyPatterns) pa_nil))) (pa_cons (pe_callB (isXK K) (by rfl) T.n_isinstance (by decide +kernel) (pa_cons (pv 0) (pa_cons (pe_cls rfl TX.g_BadDerivation) pa_nil))) pa_nil)))))
    (pss_cons (ps_set (i := 1) scFam.nd rfl (Or.inl rfl) (pe_op op_cat (pv 1) (pe_lst (pa_cons (pe_callB (isXK K) (by rfl) T.n_isinstance (by decide +kernel) (pa_cons (pv 0) (pa_cons (pe_cls rfl TX.g_NotReachable) pa_nil))) (pa_cons (pe_callB (isXK K) (by rfl) T.n_isinstance (by decide +kernel) (pa_cons (pv 0) (pa_cons (pe_cls rfl TX.g_TooLong) pa_nil))) (pa_cons (pe_callB (isXK K) (by rfl) T.n_isinstance (by decide +kernel) (pa_cons (pv 0) (pa_cons (pe_cls rfl TX.g_NotComparable) pa_nil))) pa_nil))))))
    (pss_one (ps_ret (pe_op op_cat (pv 1) (pe_lst (pa_cons (pe_callB (isXK K) (by rfl) T.n_isinstance (by decide +kernel) (pa_cons (pv 0) (pa_cons (pe_cls rfl TX.g_BadOffer) pa_nil))) pa_nil)))))))))))), ?_⟩
    have is : ∀ {i : Nat} {H1 : Hp} {te tc : TE} {σ : L2.St}, i < 21 → Ex H H1 → Ev te σ H1 (.ref e) → Ev tc σ H1 (.ref (cs i)) → Ev (tCB (rIsX K) (tCons te (tCons tc tNil))) σ H1 (.bl (decide (d = i))) := fun hi e1 h hc => ev_is21 TX hd hi h hc (he.ex e1)
    refine q_asgL (el_lst (ea_cons (is (i := 0) (by decide) (Ex.refl H) (ev_var rfl) ev_c) (ea_cons (is (i := 1) (by decide) (Ex.refl H) (ev_var rfl) ev_c) (ea_cons (is (i := 2) (by decide) (Ex.refl H) (ev_var rfl) ev_c) ea_nil))) (by simp)) (fun p1 H1 n1 e1 h1 => ?_)
    refine q_asgL (el_cat (el_get (ev_var rfl) h1) (el_k (el_lst (ea_cons (is (i := 3) (by decide) e1 (ev_var rfl) ev_c) (ea_cons (is (i := 4) (by decide) e1 (ev_var rfl) ev_c) (ea_cons (is (i := 5) (by decide) e1 (ev_var rfl) ev_c) ea_nil))) (by simp))) (by simp)) (fun p2 H2 n2 f2 h2 => ?_)
    have e2 := e1.trans f2
    refine q_asgL (el_cat (el_get (ev_var rfl) h2) (el_k (el_lst (ea_cons (is (i := 6) (by decide) e2 (ev_var rfl) ev_c) (ea_cons (is (i := 7) (by decide) e2 (ev_var rfl) ev_c) (ea_cons (is (i := 8) (by decide) e2 (ev_var rfl) ev_c) ea_nil))) (by simp))) (by simp)) (fun p3 H3 n3 f3 h3 => ?_)
    have e3 := e2.trans f3
    refine q_asgL (el_cat (el_get (ev_var rfl) h3) (el_k (el_lst (ea_cons (is (i := 9) (by decide) e3 (ev_var rfl) ev_c) (ea_cons (is (i := 10) (by decide) e3 (ev_var rfl) ev_c) (ea_cons (is (i := 11) (by decide) e3 (ev_var rfl) ev_c) ea_nil))) (by simp))) (by simp)) (fun p4 H4 n4 f4 h4 => ?_)
    have e4 := e3.trans f4
    refine q_asgL (el_cat (el_get (ev_var rfl) h4) (el_k (el_lst (ea_cons (is (i := 12) (by decide) e4 (ev_var rfl) ev_c) (ea_cons (is (i := 13) (by decide) e4 (ev_var rfl) ev_c) (ea_cons (is (i := 14) (by decide) e4 (ev_var rfl) ev_c) ea_nil))) (by simp))) (by simp)) (fun p5 H5 n5 f5 h5 => ?_)
    have e5 := e4.trans f5
    refine q_asgL (el_cat (el_get (ev_var rfl) h5) (el_k (el_lst (ea_cons (is (i := 15) (by decide) e5 (ev_var rfl) ev_c) (ea_cons (is (i := 16) (by decide) e5 (ev_var rfl) ev_c) ea_nil)) (by simp))) (by simp)) (fun p6 H6 n6 f6 h6 => ?_)
    have e6 := e5.trans f6
    refine q_asgL (el_cat (el_get (ev_var rfl) h6) (el_k (el_lst (ea_cons (is (i := 17) (by decide) e6 (ev_var rfl) ev_c) (ea_cons (is (i := 18) (by decide) e6 (ev_var rfl) ev_c) (ea_cons (is (i := 19) (by decide) e6 (ev_var rfl) ev_c) ea_nil))) (by simp))) (by simp)) (fun p7 H7 n7 f7 h7 => ?_)
    have e7 := e6.trans f7
    refine s_retL (el_cat (el_get (ev_var rfl) h7) (el_k (el_lst (ea_cons (is (i := 20) (by decide) e7 (ev_var rfl) ev_c) ea_nil) (by simp))) (by simp)) (fun p8 H8 n8 f8 h8 => ?_)
    exact k p8 H8 (fresh_back e7 n8) (e7.trans f8) h8
theorem fam_pick : ∀ d : Nat, d < 21 → given 21 (fun i => decide (d = i)) (fun i => V.int (i : Int)) = [.int (d : Int)] := by decide +kernel
theorem fam_get {d i : Nat} (hi : i < 21) : (famL d)[i]? = some (.bl (decide (d = i))) := by
  unfold famL
  rw [List.getElem?_map, List.getElem?_range hi]
  rfl
theorem ok_kin {f fF : Addr} {fd fdF : FuncData} (F : Fun K "_law_get_kin" "_law_get_kin" sKin f fd) (T : TL mg) (TX : TXX K mg A cs fi) (G__law_family : FnOk P w K mg base CX0 1 fF fdF ["error"] (spFam cs)) (m__law_family : mg "_law_family" = some (.ref fF)) (k__law_family : PySem.W.keepIn K (.ref fF) = true) (b__law_family : Binds K fdF ["error"] []) :
    FnOk P w K mg base CX0 2 f fd ["error", "place"] (spKin cs) := by
  refine F.ok scKin (fun vs H Q E h => ?_) (fun cdv A outer s H vs Q E hr h => ?_)
  · obtain ⟨e, d, k, rfl, _⟩ := h
    rfl
  · obtain ⟨e, d, j, rfl, hd, he, k⟩ := h
    have hr__law_family : Room 1 _ := hr
    have hu64 := hr.units
    refine ⟨_, (pss_cons (ps_if (PW.pt (pw_or (pt_not (pt_val (pe_callB (isXK K) (by rfl) T.n_isinstance (by decide +kernel) (pa_cons (pv 0) (pa_cons (pe_cls rfl TX.g_AgreeError) pa_nil))))) (pw_or1 (pt_not (pt_val (pe_callB (isXK K) (by rfl) T.n_isinstance (by decide +kernel) (pa_cons (pv 0) (pa_cons (pe_ty (n := "ValueError") (by rfl) T.n_ValueError (by decide +kernel)) pa_nil))))))))
      (pss_one (ps_ret pe_bl))
      pss_nil)
    (pss_cons (ps_set (i := 2) scKin.nd rfl (Or.inr rfl) (pe_call G__law_family hr__law_family rfl m__law_family k__law_family b__law_family .nil pass0 (pa_cons (pv 0) pa_nil)))
    (pss_one (ps_ret (pe_cmpR (eqDK K hu64) (pe_lc (own := [("k", 3)]) (g := gName 3) (by rfl) scKin.nd (pi_range1 rfl T.n_range (pa_cons pe_int pa_nil)) (blkOk_by (own := [("k", 3)]) (N := ["error", "place", "found", "k"]) (sc := defScope sKin) (by decide +kernel)) (fun _ _ _ _ _ => (pg_name (i := 3) scKin.nd rfl (Or.inl rfl))) (fun _ _ _ _ _ => (pts_one (pt_val (pe_ix (ixL K) (pv 2) (pv 3) (fun _ _ => rfl))))) (fun _ _ _ _ _ => (pv 3))) (pe_lst (pa_cons (pv 1) pa_nil)) (nomark _)))))), ?_⟩
    refine q_when (b := false) (et_or (a := false) (et_not (a := true) (et_B (ev_isX (ev_var rfl) ev_c he (TX.exc d hd) (.own _) (TX.kitA d hd)))) (fun _ => et_not (a := true) (et_B (ev_isX (ev_var rfl) ev_c he (TX.exc d hd) (.ty _) (TX.kitV d hd))))) (fun hb => absurd hb (by decide)) (fun _ H1 e1 => ?_)
    refine q_asgL (xs := famL d) (el_call (ea_cons (ev_var rfl) ea_nil) (fun H2 e2 Q q E => ⟨e, d, rfl, hd, he.ex (e1.trans e2), fun p H' hp ee h => q p H' hp ee h⟩)) (fun p2 H2 n2 e2 h2 => ?_)
    refine s_ret (v := .bl (decide (d = j))) (ev_opLL (xs := [.int (d : Int)]) (ys := [.int (j : Int)]) ?_ (el_lst (ea_cons (ev_var rfl) ea_nil) (by simp)) (fun p q H3 hp hq e3 => rv_eqD (d := .list ([(d : Int)].map PyData.int)) (e := .list ([(j : Int)].map PyData.int)) (.lst (SqL.of hp) (dp_ints [(d : Int)])) (.lst (SqL.of hq) (dp_ints [(j : Int)])) (shaped_ints _) (shaped_ints _) ?_)) (fun H4 e4 => k H4 ((e1.trans e2).trans e4))
    · rw [← fam_pick d hd]
      refine el_lcR1 (n := 21) (fun i => decide (d = i)) (fun i => V.int (i : Int)) (ea_cons ev_c ea_nil) (by decide) (fun _ => wipe1 _ _ _) (fun i H3 e3 hi => ?_) (fun i H3 e3 hi _ => ev_var rfl)
      exact et_B (ev_op (ev_var rfl) (ev_var rfl) (rv_ixL (SqL.of (e3 _ _ h2)) (atI_n rfl (fam_get (by omega)))))
    · show ((d : Int) == (j : Int) && true) = decide (d = j)
      by_cases h : d = j
      · subst h; simp
      · have : ¬ (d : Int) = (j : Int) := by omega
        simp [h, this]
end
end My

namespace My
open PySem PySem.Spec PyProof.Rows L2 Evl
/-! ### lists of equal data -/
section
variable {K : PySem.W.Frag} {σ : L2.St} {H : Hp} {te ta tb : TE}
theorem el_rep {xs : List V} {k : Nat} (h : EvL ta σ H xs) (hk : Ev tb σ H (.int (k : Int))) (hz : xs.length * k ≤ 100000 ∧ k ≤ 100000) : EvL (tOp rRep ta tb) σ H (List.replicate k xs).flatten := fun H1 e1 Q q =>
  h H1 e1 _ fun p H2 hp e2 h2 => hk H2 (e1.trans e2) _ fun H3 e3 => ⟨p, k, xs, rfl, rfl, e3 _ _ h2, by omega, by omega, sz_of hz.1, fun r hr => q r _ (fresh_back (e2.trans e3) hr) ((e2.trans e3).trans (Ex.new hr)) upd_same⟩
theorem rv_neS {p q : Addr} {xs : List V} (ds : List PyData) (hp : H p = some (.lst xs)) (hq : H q = some (.lst xs)) (hd : DpAll K H xs ds) (hs : SeqAt.shaped (.list ds) = true) : RV (rNeD K) (.ref p) (.ref q) H (.bl false) :=
  rv_neD (.lst (SqL.of hp) hd) (.lst (SqL.of hq) hd) hs hs (by rw [SeqAt.eqv_refl _ (SeqAt.canLay_of_shaped hs)]; rfl)
theorem rv_eqS {p q : Addr} {xs : List V} (ds : List PyData) (hp : H p = some (.lst xs)) (hq : H q = some (.lst xs)) (hd : DpAll K H xs ds) (hs : SeqAt.shaped (.list ds) = true) : RV (rEqD K) (.ref p) (.ref q) H (.bl true) :=
  rv_eqD (.lst (SqL.of hp) hd) (.lst (SqL.of hq) hd) hs hs (SeqAt.eqv_refl _ (SeqAt.canLay_of_shaped hs))
theorem rv_neU {p q : Addr} {xs : List V} (ds : List PyData) (hp : H p = some (.tup xs)) (hq : H q = some (.tup xs)) (hd : DpAll K H xs ds) (hs : SeqAt.shaped (.tuple ds) = true) : RV (rNeD K) (.ref p) (.ref q) H (.bl false) :=
  rv_neD (.tup (SqT.of hp) hd) (.tup (SqT.of hq) hd) hs hs (by rw [SeqAt.eqv_refl _ (SeqAt.canLay_of_shaped hs)]; rfl)
theorem dp_strs : ∀ cs : List Str, DpAll K H (cs.map V.str) (cs.map PyData.str)
  | [] => .nil
  | c :: cs => .cons (.str c) (dp_strs cs)
theorem dp_bls : ∀ cs : List Bool, DpAll K H (cs.map V.bl) (cs.map PyData.bool)
  | [] => .nil
  | c :: cs => .cons (.bl c) (dp_bls cs)
end
theorem shaped_strs {cs : List Str} (h : ∀ c ∈ cs, PyData.strOk c = true) : SeqAt.shaped (.list (cs.map PyData.str)) = true := by
  have a : PyData.canLayAll0 (cs.map PyData.str) = true := by
    induction cs with
    | nil => rfl
    | cons c cs ih => simp [PyData.canLayAll0, PyData.canLay0, h c (List.mem_cons_self ..), ih (fun d hd => h d (List.mem_cons_of_mem _ hd))]
  have b : PyData.depthAll (cs.map PyData.str) = 0 := by
    clear h a
    induction cs with
    | nil => rfl
    | cons c cs ih => simp [PyData.depthAll, PyData.depth, ih]
  simp [SeqAt.shaped, PyData.canLay0, PyData.depth, a, b]
theorem IsName.strOk {n : Nat} {w : Str} (h : IsName n w) : PyData.strOk w = true := by
  have : ∀ c ∈ sgL, c < 0x110000 := by decide +kernel
  show w.cps.all _ = true
  rw [← Array.all_toList, List.all_eq_true]
  intro c hc
  exact decide_eq_true (this c (h.sg c hc))
/-! ### the inits as the law finds them -/
structure TII (P : Program) (w : World) (K : PySem.W.Frag) (mg : Str → Option Value) (base : Heap) (cs fi : Nat → Addr) (fdI : Nat → FuncData) : Prop where
  I_BadLine : FnOk P w K mg base CX0 1 (fi 0) (fdI 0) ["self", "line"] (spX K (cs 0) ["line"])
  b_BadLine : Binds K (fdI 0) ["self", "line"] []
  I_DuplicateName : FnOk P w K mg base CX0 1 (fi 1) (fdI 1) ["self", "line", "name"] (spX K (cs 1) ["line", "name"])
  b_DuplicateName : Binds K (fdI 1) ["self", "line", "name"] []
  I_UnknownName : FnOk P w K mg base CX0 1 (fi 2) (fdI 2) ["self", "line", "name"] (spX K (cs 2) ["line", "name"])
  b_UnknownName : Binds K (fdI 2) ["self", "line", "name"] []
  I_WrongTable : FnOk P w K mg base CX0 1 (fi 3) (fdI 3) ["self", "line", "name"] (spX K (cs 3) ["line", "name"])
  b_WrongTable : Binds K (fdI 3) ["self", "line", "name"] []
  I_WrongCount : FnOk P w K mg base CX0 1 (fi 4) (fdI 4) ["self", "line"] (spX K (cs 4) ["line"])
  b_WrongCount : Binds K (fdI 4) ["self", "line"] []
  I_TooMany : FnOk P w K mg base CX0 1 (fi 5) (fdI 5) ["self", "line"] (spX K (cs 5) ["line"])
  b_TooMany : Binds K (fdI 5) ["self", "line"] []
  I_BadPattern : FnOk P w K mg base CX0 1 (fi 6) (fdI 6) ["self", "place"] (spX K (cs 6) ["place"])
  b_BadPattern : Binds K (fdI 6) ["self", "place"] []
  I_ConstantsMeet : FnOk P w K mg base CX0 1 (fi 7) (fdI 7) ["self", "first", "second"] (spX K (cs 7) ["first", "second"])
  b_ConstantsMeet : Binds K (fdI 7) ["self", "first", "second"] []
  I_BadValue : FnOk P w K mg base CX0 1 (fi 10) (fdI 10) ["self", "value"] (spX K (cs 10) ["value"])
  b_BadValue : Binds K (fdI 10) ["self", "value"] []
  I_NoRow : FnOk P w K mg base CX0 1 (fi 11) (fdI 11) ["self", "table", "number"] (spX K (cs 11) ["table", "number"])
  b_NoRow : Binds K (fdI 11) ["self", "table", "number"] []
  I_Refused : FnOk P w K mg base CX0 1 (fi 12) (fdI 12) ["self", "handler", "guard", "agreement", "number"] (spX K (cs 12) ["handler", "guard", "agreement", "number"])
  b_Refused : Binds K (fdI 12) ["self", "handler", "guard", "agreement", "number"] []
  I_Broken : FnOk P w K mg base CX0 1 (fi 13) (fdI 13) ["self", "agreement", "number"] (spX K (cs 13) ["agreement", "number"])
  b_Broken : Binds K (fdI 13) ["self", "agreement", "number"] []
  I_TooManyPatterns : FnOk P w K mg base CX0 1 (fi 15) (fdI 15) ["self", "table"] (spX K (cs 15) ["table"])
  b_TooManyPatterns : Binds K (fdI 15) ["self", "table"] []
  I_BadDerivation : FnOk P w K mg base CX0 1 (fi 16) (fdI 16) ["self", "line"] (spX K (cs 16) ["line"])
  b_BadDerivation : Binds K (fdI 16) ["self", "line"] []
  I_TooLong : FnOk P w K mg base CX0 1 (fi 18) (fdI 18) ["self", "size"] (spX K (cs 18) ["size"])
  b_TooLong : Binds K (fdI 18) ["self", "size"] []
  I_BadOffer : FnOk P w K mg base CX0 1 (fi 20) (fdI 20) ["self", "number"] (spX K (cs 20) ["number"])
  b_BadOffer : Binds K (fdI 20) ["self", "number"] []
  b_Refused_2 : Binds K (fdI 12) ["self", "handler", "guard", "agreement", "number"] [.none, .none]
structure TKin (K : PySem.W.Frag) (mg : Str → Option Value) (fK : Addr) (fdK : FuncData) : Prop where
  m : mg "_law_get_kin" = some (.ref fK)
  k : PySem.W.keepIn K (.ref fK) = true
  b : Binds K fdK ["error", "place"] []
abbrev sNum : Stmt := top 30
abbrev sOth : Stmt := top 31
theorem scNum : FnScope ["number", "word", "line", "count", "many", "derived", "size", "offer", "kin", "double", "unknown", "table", "row"] ["number", "word"] (defScope sNum) := ⟨rfl, rfl, rfl, by decide +kernel, rfl, by decide +kernel, by decide +kernel⟩
theorem scOth : FnScope ["number", "word", "other", "agreement", "pattern", "meet", "value", "plain", "full", "broken", "many", "kin"] ["number", "word", "other", "agreement"] (defScope sOth) := ⟨rfl, rfl, rfl, by decide +kernel, rfl, by decide +kernel, by decide +kernel⟩
def spNum : Sp := fun vs H Q _ => ∃ (n : Int) (wd : Str), vs = [.int n, .str wd] ∧ PyData.strOk wd = true ∧ ∀ H' : Hp, Ex H H' → Q (.bl true) H'
def spOth (K : PySem.W.Frag) : Sp := fun vs H Q _ => ∃ (n : Int) (wd ot a1 a2 a3 : Str) (ag : Addr), vs = [.int n, .str wd, .str ot, .ref ag] ∧ (∀ c ∈ [wd, ot, a1, a2, a3], PyData.strOk c = true) ∧ SqT K H ag [.str a1, .str a2, .str a3] ∧ ∀ H' : Hp, Ex H H' → Q (.bl true) H'
section
variable {P : Program} {w : World} {K : PySem.W.Frag} {mg : Str → Option Value} {base : Heap} {A : Addr} {cs fi : Nat → Addr} {fdI : Nat → FuncData}
theorem kin_ev {σ : L2.St} {H : Hp} {ta : TA} {E : XK} {e : Addr} {d : Nat} (h : EvA ta σ H [.ref e, .int (d : Int)]) (hd : d < 21) (he : ExAny H e (cs d)) : Ev (tCall (spKin cs) [] E ta) σ H (.bl true) :=
  ev_call h fun H1 e1 Q q E => ⟨e, d, d, rfl, hd, he.ex e1, fun H' e' => by rw [decide_eq_true rfl]; exact q H' e'⟩
theorem ok_num {f fK : Addr} {fd fdK : FuncData} (F : Fun K "_law_get_numbers" "_law_get_numbers" sNum f fd) (T : TL mg) (TX : TXX K mg A cs fi) (TI : TII P w K mg base cs fi fdI) (G__law_get_kin : FnOk P w K mg base CX0 2 fK fdK ["error", "place"] (spKin cs)) (TK : TKin K mg fK fdK) :
    FnOk P w K mg base CX0 3 f fd ["number", "word"] spNum := by
  refine F.ok scNum (fun vs H Q E h => ?_) (fun cdv A' outer s H vs Q E hr h => ?_)
  · obtain ⟨n, wd, rfl, _⟩ := h
    rfl
  · obtain ⟨n, wd, rfl, hw, k⟩ := h
    have hr__law_get_kin : Room 2 _ := hr
    have hrX : Room 2 _ := hr
    have hu64 := hr.units
    have m__law_get_kin := TK.m
    have k__law_get_kin := TK.k
    have b__law_get_kin := TK.b
    refine ⟨_, (pss_cons (ps_set (i := 2) scNum.nd rfl (Or.inl rfl) (pe_oexV TX.o_BadLine TX.i_BadLine TX.t_BadLine TI.I_BadLine hrX TI.b_BadLine .nil pass0 rfl TX.g_BadLine (pa_cons (pv 0) pa_nil)))
    (pss_cons (ps_set (i := 3) scNum.nd rfl (Or.inl rfl) (pe_oexV TX.o_WrongCount TX.i_WrongCount TX.t_WrongCount TI.I_WrongCount hrX TI.b_WrongCount .nil pass0 rfl TX.g_WrongCount (pa_cons (pv 0) pa_nil)))
    (pss_cons (ps_set (i := 4) scNum.nd rfl (Or.inl rfl) (pe_oexV TX.o_TooMany TX.i_TooMany TX.t_TooMany TI.I_TooMany hrX TI.b_TooMany .nil pass0 rfl TX.g_TooMany (pa_cons (pv 0) pa_nil)))
    (pss_cons (ps_set (i := 5) scNum.nd rfl (Or.inl rfl) (pe_oexV TX.o_BadDerivation TX.i_BadDerivation TX.t_BadDerivation TI.I_BadDerivation hrX TI.b_BadDerivation .nil pass0 rfl TX.g_BadDerivation (pa_cons (pv 0) pa_nil)))
    (pss_cons (ps_set (i := 6) scNum.nd rfl (Or.inl rfl) (pe_oexV TX.o_TooLong TX.i_TooLong TX.t_TooLong TI.I_TooLong hrX TI.b_TooLong .nil pass0 rfl TX.g_TooLong (pa_cons (pv 0) pa_nil)))
    (pss_cons (ps_set (i := 7) scNum.nd rfl (Or.inl rfl) (pe_oexV TX.o_BadOffer TX.i_BadOffer TX.t_BadOffer TI.I_BadOffer hrX TI.b_BadOffer .nil pass0 rfl TX.g_BadOffer (pa_cons (pv 0) pa_nil)))
    (pss_cons (ps_if (pt_cmpR (neDK K hu64) (pe_lst (pa_cons (xfK K (pv 2)) (pa_cons (xfK K (pv 3)) (pa_cons (xfK K (pv 4)) (pa_cons (xfK K (pv 5)) (pa_cons (xfK K (pv 6)) (pa_cons (xfK K (pv 7)) pa_nil))))))) (pe_op op_rep (pe_lst (pa_cons (pv 0) pa_nil)) pe_int) (nomark _))
      (pss_one (ps_ret pe_bl))
      pss_nil)
    (pss_cons (ps_set (i := 8) scNum.nd rfl (Or.inl rfl) (pe_lst (pa_cons (pe_call G__law_get_kin hr__law_get_kin rfl m__law_get_kin k__law_get_kin b__law_get_kin .nil pass0 (pa_cons (pv 2) (pa_cons pe_int pa_nil))) (pa_cons (pe_call G__law_get_kin hr__law_get_kin rfl m__law_get_kin k__law_get_kin b__law_get_kin .nil pass0 (pa_cons (pv 3) (pa_cons pe_int pa_nil))) (pa_cons (pe_call G__law_get_kin hr__law_get_kin rfl m__law_get_kin k__law_get_kin b__law_get_kin .nil pass0 (pa_cons (pv 4) (pa_cons pe_int pa_nil))) (pa_cons (pe_call G__law_get_kin hr__law_get_kin rfl m__law_get_kin k__law_get_kin b__law_get_kin .nil pass0 (pa_cons (pv 5) (pa_cons pe_int pa_nil))) pa_nil))))))
    (pss_cons (ps_if (pt_cmpR (neDK K hu64) (pe_op op_cat (pv 8) (pe_lst (pa_cons (pe_call G__law_get_kin hr__law_get_kin rfl m__law_get_kin k__law_get_kin b__law_get_kin .nil pass0 (pa_cons (pv 6) (pa_cons pe_int pa_nil))) (pa_cons (pe_call G__law_get_kin hr__law_get_kin rfl m__law_get_kin k__law_get_kin b__law_get_kin .nil pass0 (pa_cons (pv 7) (pa_cons pe_int pa_nil))) pa_nil)))) (pe_op op_rep (pe_lst (pa_cons pe_bl pa_nil)) pe_int) (nomark _))
      (pss_one (ps_ret pe_bl))
      pss_nil)
    (pss_cons (ps_set (i := 9) scNum.nd rfl (Or.inl rfl) (pe_oexV TX.o_DuplicateName TX.i_DuplicateName TX.t_DuplicateName TI.I_DuplicateName hrX TI.b_DuplicateName .nil pass0 rfl TX.g_DuplicateName (pa_cons (pv 0) (pa_cons (pv 1) pa_nil))))
    (pss_cons (ps_set (i := 10) scNum.nd rfl (Or.inl rfl) (pe_oexV TX.o_UnknownName TX.i_UnknownName TX.t_UnknownName TI.I_UnknownName hrX TI.b_UnknownName .nil pass0 rfl TX.g_UnknownName (pa_cons (pv 0) (pa_cons (pv 1) pa_nil))))
    (pss_cons (ps_set (i := 11) scNum.nd rfl (Or.inl rfl) (pe_oexV TX.o_WrongTable TX.i_WrongTable TX.t_WrongTable TI.I_WrongTable hrX TI.b_WrongTable .nil pass0 rfl TX.g_WrongTable (pa_cons (pv 0) (pa_cons (pv 1) pa_nil))))
    (pss_cons (ps_set (i := 12) scNum.nd rfl (Or.inl rfl) (pe_oexV TX.o_NoRow TX.i_NoRow TX.t_NoRow TI.I_NoRow hrX TI.b_NoRow .nil pass0 rfl TX.g_NoRow (pa_cons (pv 1) (pa_cons (pv 0) pa_nil))))
    (pss_cons (ps_if (pt_cmpR (neDK K hu64) (pe_lst (pa_cons (xfK K (pv 9)) (pa_cons (xfK K (pv 10)) (pa_cons (xfK K (pv 11)) (pa_cons (xfK K (pv 12)) pa_nil))))) (pe_op op_rep (pe_lst (pa_cons (pv 0) pa_nil)) pe_int) (nomark _))
      (pss_one (ps_ret pe_bl))
      pss_nil)
    (pss_cons (ps_if (pt_cmpR (neDK K hu64) (pe_lst (pa_cons (xfK K (pv 9)) (pa_cons (xfK K (pv 10)) (pa_cons (xfK K (pv 11)) (pa_cons (xfK K (pv 12)) pa_nil))))) (pe_op op_rep (pe_lst (pa_cons (pv 1) pa_nil)) pe_int) (nomark _))
      (pss_one (ps_ret pe_bl))
      pss_nil)
    (pss_one (ps_ret (pe_cmpR (eqDK K hu64) (pe_lst (pa_cons (pe_call G__law_get_kin hr__law_get_kin rfl m__law_get_kin k__law_get_kin b__law_get_kin .nil pass0 (pa_cons (pv 9) (pa_cons pe_int pa_nil))) (pa_cons (pe_call G__law_get_kin hr__law_get_kin rfl m__law_get_kin k__law_get_kin b__law_get_kin .nil pass0 (pa_cons (pv 10) (pa_cons pe_int pa_nil))) (pa_cons (pe_call G__law_get_kin hr__law_get_kin rfl m__law_get_kin k__law_get_kin b__law_get_kin .nil pass0 (pa_cons (pv 11) (pa_cons pe_int pa_nil))) (pa_cons (pe_call G__law_get_kin hr__law_get_kin rfl m__law_get_kin k__law_get_kin b__law_get_kin .nil pass0 (pa_cons (pv 12) (pa_cons pe_int pa_nil))) pa_nil))))) (pe_op op_rep (pe_lst (pa_cons pe_bl pa_nil)) pe_int) (nomark _))))))))))))))))))), ?_⟩
    refine q_asgX (ex_mk (ea_cons (ev_var rfl) ea_nil) rfl (by simp)) (fun p1 H1 e1 x1 => ?_)
    refine q_asgX (ex_mk (ea_cons (ev_var rfl) ea_nil) rfl (by simp)) (fun p2 H2 e2 x2 => ?_)
    refine q_asgX (ex_mk (ea_cons (ev_var rfl) ea_nil) rfl (by simp)) (fun p3 H3 e3 x3 => ?_)
    refine q_asgX (ex_mk (ea_cons (ev_var rfl) ea_nil) rfl (by simp)) (fun p4 H4 e4 x4 => ?_)
    refine q_asgX (ex_mk (ea_cons (ev_var rfl) ea_nil) rfl (by simp)) (fun p5 H5 e5 x5 => ?_)
    refine q_asgX (ex_mk (ea_cons (ev_var rfl) ea_nil) rfl (by simp)) (fun p6 H6 e6 x6 => ?_)
    replace x1 := x1.ex ((((e2.trans e3).trans e4).trans e5).trans e6)
    replace x2 := x2.ex (((e3.trans e4).trans e5).trans e6)
    replace x3 := x3.ex ((e4.trans e5).trans e6)
    replace x4 := x4.ex (e5.trans e6)
    replace x5 := x5.ex e6
    refine q_when (b := false) (et_test (ev_opLL (xs := [.int n, .int n, .int n, .int n, .int n, .int n]) (el_lst (ea_cons (ev_xf (ev_var rfl) x1 (TX.exc 0 (by decide)) TX.no_BadLine_line (by simp)) (ea_cons (ev_xf (ev_var rfl) x2 (TX.exc 4 (by decide)) TX.no_WrongCount_line (by simp)) (ea_cons (ev_xf (ev_var rfl) x3 (TX.exc 5 (by decide)) TX.no_TooMany_line (by simp)) (ea_cons (ev_xf (ev_var rfl) x4 (TX.exc 16 (by decide)) TX.no_BadDerivation_line (by simp)) (ea_cons (ev_xf (ev_var rfl) x5 (TX.exc 18 (by decide)) TX.no_TooLong_size (by simp)) (ea_cons (ev_xf (ev_var rfl) x6 (TX.exc 20 (by decide)) TX.no_BadOffer_number (by simp)) ea_nil)))))) (by simp)) (el_rep (k := 6) (el_lst (ea_cons (ev_var rfl) ea_nil) (by simp)) ev_c (by simp)) (fun p q H1 hp hq e => rv_neS ([n, n, n, n, n, n].map PyData.int) hp hq (dp_ints [n, n, n, n, n, n]) (shaped_ints _)))) (fun hb => absurd hb (by decide)) (fun _ H7 e7 => ?_)
    replace x1 := x1.ex e7
    replace x2 := x2.ex e7
    replace x3 := x3.ex e7
    replace x4 := x4.ex e7
    replace x5 := x5.ex e7
    replace x6 := x6.ex e7
    refine q_asgL (el_lst (ea_cons (kin_ev (cs := cs) (d := 0) (ea_cons (ev_var rfl) (ea_cons ev_c ea_nil)) (by decide) x1.any) (ea_cons (kin_ev (cs := cs) (d := 4) (ea_cons (ev_var rfl) (ea_cons ev_c ea_nil)) (by decide) x2.any) (ea_cons (kin_ev (cs := cs) (d := 5) (ea_cons (ev_var rfl) (ea_cons ev_c ea_nil)) (by decide) x3.any) (ea_cons (kin_ev (cs := cs) (d := 16) (ea_cons (ev_var rfl) (ea_cons ev_c ea_nil)) (by decide) x4.any) ea_nil)))) (by simp)) (fun p8 H8 n8 e8 h8 => ?_)
    replace x1 := x1.ex e8
    replace x2 := x2.ex e8
    replace x3 := x3.ex e8
    replace x4 := x4.ex e8
    replace x5 := x5.ex e8
    replace x6 := x6.ex e8
    refine q_when (b := false) (et_test (ev_opLL (xs := [.bl true, .bl true, .bl true, .bl true, .bl true, .bl true]) (el_cat (el_get (ev_var rfl) h8) (el_k (el_lst (ea_cons (kin_ev (cs := cs) (d := 18) (ea_cons (ev_var rfl) (ea_cons ev_c ea_nil)) (by decide) x5.any) (ea_cons (kin_ev (cs := cs) (d := 20) (ea_cons (ev_var rfl) (ea_cons ev_c ea_nil)) (by decide) x6.any) ea_nil)) (by simp))) (by simp)) (el_rep (k := 6) (el_lst (ea_cons ev_c ea_nil) (by simp)) ev_c (by simp)) (fun p q H1 hp hq e => rv_neS ([true, true, true, true, true, true].map PyData.bool) hp hq (dp_bls [true, true, true, true, true, true]) (by decide +kernel)))) (fun hb => absurd hb (by decide)) (fun _ H9 e9 => ?_)
    refine q_asgX (ex_mk (ea_cons (ev_var rfl) (ea_cons (ev_var rfl) ea_nil)) rfl (by simp)) (fun p10 H10 e10 x10 => ?_)
    refine q_asgX (ex_mk (ea_cons (ev_var rfl) (ea_cons (ev_var rfl) ea_nil)) rfl (by simp)) (fun p11 H11 e11 x11 => ?_)
    refine q_asgX (ex_mk (ea_cons (ev_var rfl) (ea_cons (ev_var rfl) ea_nil)) rfl (by simp)) (fun p12 H12 e12 x12 => ?_)
    refine q_asgX (ex_mk (ea_cons (ev_var rfl) (ea_cons (ev_var rfl) ea_nil)) rfl (by simp)) (fun p13 H13 e13 x13 => ?_)
    replace x10 := x10.ex ((e11.trans e12).trans e13)
    replace x11 := x11.ex (e12.trans e13)
    replace x12 := x12.ex e13
    refine q_when (b := false) (et_test (ev_opLL (xs := [.int n, .int n, .int n, .int n]) (el_lst (ea_cons (ev_xf (ev_var rfl) x10 (TX.exc 1 (by decide)) TX.no_DuplicateName_line (by simp)) (ea_cons (ev_xf (ev_var rfl) x11 (TX.exc 2 (by decide)) TX.no_UnknownName_line (by simp)) (ea_cons (ev_xf (ev_var rfl) x12 (TX.exc 3 (by decide)) TX.no_WrongTable_line (by simp)) (ea_cons (ev_xf (ev_var rfl) x13 (TX.exc 11 (by decide)) TX.no_NoRow_number (by simp)) ea_nil)))) (by simp)) (el_rep (k := 4) (el_lst (ea_cons (ev_var rfl) ea_nil) (by simp)) ev_c (by simp)) (fun p q H1 hp hq e => rv_neS ([n, n, n, n].map PyData.int) hp hq (dp_ints [n, n, n, n]) (shaped_ints _)))) (fun hb => absurd hb (by decide)) (fun _ H14 e14 => ?_)
    replace x10 := x10.ex e14
    replace x11 := x11.ex e14
    replace x12 := x12.ex e14
    replace x13 := x13.ex e14
    refine q_when (b := false) (et_test (ev_opLL (xs := [.str wd, .str wd, .str wd, .str wd]) (el_lst (ea_cons (ev_xf (ev_var rfl) x10 (TX.exc 1 (by decide)) TX.no_DuplicateName_name (by simp)) (ea_cons (ev_xf (ev_var rfl) x11 (TX.exc 2 (by decide)) TX.no_UnknownName_name (by simp)) (ea_cons (ev_xf (ev_var rfl) x12 (TX.exc 3 (by decide)) TX.no_WrongTable_name (by simp)) (ea_cons (ev_xf (ev_var rfl) x13 (TX.exc 11 (by decide)) TX.no_NoRow_table (by simp)) ea_nil)))) (by simp)) (el_rep (k := 4) (el_lst (ea_cons (ev_var rfl) ea_nil) (by simp)) ev_c (by simp)) (fun p q H1 hp hq e => rv_neS ([wd, wd, wd, wd].map PyData.str) hp hq (dp_strs [wd, wd, wd, wd]) (shaped_strs (by simp [hw]))))) (fun hb => absurd hb (by decide)) (fun _ H15 e15 => ?_)
    replace x10 := x10.ex e15
    replace x11 := x11.ex e15
    replace x12 := x12.ex e15
    replace x13 := x13.ex e15
    refine s_ret (v := .bl true) (ev_opLL (xs := [.bl true, .bl true, .bl true, .bl true]) (el_lst (ea_cons (kin_ev (cs := cs) (d := 1) (ea_cons (ev_var rfl) (ea_cons ev_c ea_nil)) (by decide) x10.any) (ea_cons (kin_ev (cs := cs) (d := 2) (ea_cons (ev_var rfl) (ea_cons ev_c ea_nil)) (by decide) x11.any) (ea_cons (kin_ev (cs := cs) (d := 3) (ea_cons (ev_var rfl) (ea_cons ev_c ea_nil)) (by decide) x12.any) (ea_cons (kin_ev (cs := cs) (d := 11) (ea_cons (ev_var rfl) (ea_cons ev_c ea_nil)) (by decide) x13.any) ea_nil)))) (by simp)) (el_rep (k := 4) (el_lst (ea_cons ev_c ea_nil) (by simp)) ev_c (by simp)) (fun p q H1 hp hq e => rv_eqS ([true, true, true, true].map PyData.bool) hp hq (dp_bls [true, true, true, true]) (by decide +kernel))) (fun H16 e16 => k H16 (((((((((((((((e1.trans e2).trans e3).trans e4).trans e5).trans e6).trans e7).trans e8).trans e9).trans e10).trans e11).trans e12).trans e13).trans e14).trans e15).trans e16))
end
end My

namespace My
open PySem PySem.Spec PyProof.Rows L2 Evl
section
variable {P : Program} {w : World} {K : PySem.W.Frag} {mg : Str → Option Value} {base : Heap} {A : Addr} {cs fi : Nat → Addr} {fdI : Nat → FuncData}
theorem kin_evN {σ : L2.St} {H : Hp} {te : TE} {E : XK} {d : Nat} (h : EvX0 te σ H (cs d)) (hd : d < 21) : Ev (tCall (spKin cs) [] E (tCons te (tCons (tC (.int (d : Int))) tNil))) σ H (.bl true) := fun H1 e1 Q q =>
  h H1 e1 _ fun p H2 _ e2 hx => ⟨p, d, d, rfl, hd, hx, fun H' e' => by rw [decide_eq_true rfl]; exact q H' (e2.trans e')⟩
theorem ok_oth {f fK : Addr} {fd fdK : FuncData} (F : Fun K "_law_get_others" "_law_get_others" sOth f fd) (T : TL mg) (TX : TXX K mg A cs fi) (TI : TII P w K mg base cs fi fdI) (G__law_get_kin : FnOk P w K mg base CX0 2 fK fdK ["error", "place"] (spKin cs)) (TK : TKin K mg fK fdK) :
    FnOk P w K mg base CX0 3 f fd ["number", "word", "other", "agreement"] (spOth K) := by
  refine F.ok scOth (fun vs H Q E h => ?_) (fun cdv A' outer s H vs Q E hr h => ?_)
  · obtain ⟨n, wd, ot, a1, a2, a3, ag, rfl, _⟩ := h
    rfl
  · obtain ⟨n, wd, ot, a1, a2, a3, ag, rfl, hw, hag, k⟩ := h
    have hr__law_get_kin : Room 2 _ := hr
    have hrX : Room 2 _ := hr
    have hu64 := hr.units
    have m__law_get_kin := TK.m
    have k__law_get_kin := TK.k
    have b__law_get_kin := TK.b
    have w1 := hw wd (by simp)
    have w2 := hw ot (by simp)
    have w3 := hw a1 (by simp)
    have w4 := hw a2 (by simp)
    have w5 := hw a3 (by simp)
    have dag : ∀ {H1 : Hp}, Ex H H1 → Dp K H1 (.ref ag) (.tuple ([a1, a2, a3].map PyData.str)) := fun e => .tup (ex_t e hag) (dp_strs [a1, a2, a3])
    refine ⟨_, (pss_cons (ps_set (i := 4) scOth.nd rfl (Or.inl rfl) (pe_oexV TX.o_BadPattern TX.i_BadPattern TX.t_BadPattern TI.I_BadPattern hrX TI.b_BadPattern .nil pass0 rfl TX.g_BadPattern (pa_cons (pv 1) pa_nil)))
    (pss_cons (ps_set (i := 5) scOth.nd rfl (Or.inl rfl) (pe_oexV TX.o_ConstantsMeet TX.i_ConstantsMeet TX.t_ConstantsMeet TI.I_ConstantsMeet hrX TI.b_ConstantsMeet .nil pass0 rfl TX.g_ConstantsMeet (pa_cons (pv 1) (pa_cons (pv 2) pa_nil))))
    (pss_cons (ps_set (i := 6) scOth.nd rfl (Or.inl rfl) (pe_oexV TX.o_BadValue TX.i_BadValue TX.t_BadValue TI.I_BadValue hrX TI.b_BadValue .nil pass0 rfl TX.g_BadValue (pa_cons (pv 3) pa_nil)))
    (pss_cons (ps_set (i := 7) scOth.nd rfl (Or.inl rfl) (pe_oexV TX.o_Refused TX.i_Refused TX.t_Refused TI.I_Refused hrX TI.b_Refused_2 (.cons (show RelV .non Value.none from rfl) (.cons (show RelV .non Value.none from rfl) .nil)) pass0 rfl TX.g_Refused (pa_cons (pv 1) (pa_cons (pv 0) pa_nil))))
    (pss_cons (ps_set (i := 8) scOth.nd rfl (Or.inl rfl) (pe_oexV TX.o_Refused TX.i_Refused TX.t_Refused TI.I_Refused hrX TI.b_Refused .nil pass0 rfl TX.g_Refused (pa_cons (pv 1) (pa_cons pe_non (pa_cons (pv 3) (pa_cons (pv 0) pa_nil))))))
    (pss_cons (ps_set (i := 9) scOth.nd rfl (Or.inl rfl) (pe_oexV TX.o_Broken TX.i_Broken TX.t_Broken TI.I_Broken hrX TI.b_Broken .nil pass0 rfl TX.g_Broken (pa_cons (pv 3) (pa_cons (pv 0) pa_nil))))
    (pss_cons (ps_set (i := 10) scOth.nd rfl (Or.inl rfl) (pe_oexV TX.o_TooManyPatterns TX.i_TooManyPatterns TX.t_TooManyPatterns TI.I_TooManyPatterns hrX TI.b_TooManyPatterns .nil pass0 rfl TX.g_TooManyPatterns (pa_cons (pv 1) pa_nil)))
    (pss_cons (ps_if (pt_cmpR (neDK K hu64) (pe_tup (pa_cons (xfK K (pv 4)) (pa_cons (xfK K (pv 5)) (pa_cons (xfK K (pv 5)) (pa_cons (xfK K (pv 6)) pa_nil))))) (pe_tup (pa_cons (pv 1) (pa_cons (pv 1) (pa_cons (pv 2) (pa_cons (pv 3) pa_nil))))) (nomark _))
      (pss_one (ps_ret pe_bl))
      pss_nil)
    (pss_cons (ps_if (pt_cmpR (neDK K hu64) (pe_tup (pa_cons (xfK K (pv 7)) (pa_cons (xfK K (pv 7)) (pa_cons (xfK K (pv 7)) (pa_cons (xfK K (pv 7)) pa_nil))))) (pe_tup (pa_cons (pv 1) (pa_cons (pv 0) (pa_cons pe_non (pa_cons pe_non pa_nil))))) (nomark _))
      (pss_one (ps_ret pe_bl))
      pss_nil)
    (pss_cons (ps_if (pt_cmpR (neDK K hu64) (pe_tup (pa_cons (xfK K (pv 8)) (pa_cons (xfK K (pv 8)) (pa_cons (xfK K (pv 8)) (pa_cons (xfK K (pv 8)) pa_nil))))) (pe_tup (pa_cons (pv 1) (pa_cons pe_non (pa_cons (pv 3) (pa_cons (pv 0) pa_nil))))) (nomark _))
      (pss_one (ps_ret pe_bl))
      pss_nil)
    (pss_cons (ps_if (pt_cmpR (neDK K hu64) (pe_tup (pa_cons (xfK K (pv 9)) (pa_cons (xfK K (pv 9)) (pa_cons (xfK K (pv 10)) pa_nil)))) (pe_tup (pa_cons (pv 3) (pa_cons (pv 0) (pa_cons (pv 1) pa_nil)))) (nomark _))
      (pss_one (ps_ret pe_bl))
      pss_nil)
    (pss_cons (ps_set (i := 11) scOth.nd rfl (Or.inl rfl) (pe_lst (pa_cons (pe_call G__law_get_kin hr__law_get_kin rfl m__law_get_kin k__law_get_kin b__law_get_kin .nil pass0 (pa_cons (pv 4) (pa_cons pe_int pa_nil))) (pa_cons (pe_call G__law_get_kin hr__law_get_kin rfl m__law_get_kin k__law_get_kin b__law_get_kin .nil pass0 (pa_cons (pv 5) (pa_cons pe_int pa_nil))) (pa_cons (pe_call G__law_get_kin hr__law_get_kin rfl m__law_get_kin k__law_get_kin b__law_get_kin .nil pass0 (pa_cons (pe_exc0 PySem.F.excBase_ValueError TX.e_OtherPlaces TX.g_OtherPlaces TX.k_OtherPlaces rfl) (pa_cons pe_int pa_nil))) (pa_cons (pe_call G__law_get_kin hr__law_get_kin rfl m__law_get_kin k__law_get_kin b__law_get_kin .nil pass0 (pa_cons (pe_exc0 PySem.F.excBase_ValueError TX.e_OtherSchema TX.g_OtherSchema TX.k_OtherSchema rfl) (pa_cons pe_int pa_nil))) pa_nil))))))
    (pss_cons (ps_set (i := 11) scOth.nd rfl (Or.inl rfl) (pe_op op_cat (pv 11) (pe_lst (pa_cons (pe_call G__law_get_kin hr__law_get_kin rfl m__law_get_kin k__law_get_kin b__law_get_kin .nil pass0 (pa_cons (pv 6) (pa_cons pe_int pa_nil))) (pa_cons (pe_call G__law_get_kin hr__law_get_kin rfl m__law_get_kin k__law_get_kin b__law_get_kin .nil pass0 (pa_cons (pv 7) (pa_cons pe_int pa_nil))) (pa_cons (pe_call G__law_get_kin hr__law_get_kin rfl m__law_get_kin k__law_get_kin b__law_get_kin .nil pass0 (pa_cons (pv 8) (pa_cons pe_int pa_nil))) (pa_cons (pe_call G__law_get_kin hr__law_get_kin rfl m__law_get_kin k__law_get_kin b__law_get_kin .nil pass0 (pa_cons (pv 9) (pa_cons pe_int pa_nil))) pa_nil)))))))
    (pss_cons (ps_set (i := 11) scOth.nd rfl (Or.inl rfl) (pe_op op_cat (pv 11) (pe_lst (pa_cons (pe_call G__law_get_kin hr__law_get_kin rfl m__law_get_kin k__law_get_kin b__law_get_kin .nil pass0 (pa_cons (pe_exc0 PySem.F.excBase_ValueError TX.e_BadCase TX.g_BadCase TX.k_BadCase rfl) (pa_cons pe_int pa_nil))) (pa_cons (pe_call G__law_get_kin hr__law_get_kin rfl m__law_get_kin k__law_get_kin b__law_get_kin .nil pass0 (pa_cons (pv 10) (pa_cons pe_int pa_nil))) (pa_cons (pe_call G__law_get_kin hr__law_get_kin rfl m__law_get_kin k__law_get_kin b__law_get_kin .nil pass0 (pa_cons (pe_exc0 PySem.F.excBase_ValueError TX.e_NotReachable TX.g_NotReachable TX.k_NotReachable rfl) (pa_cons pe_int pa_nil))) pa_nil))))))
    (pss_one (ps_ret (pe_cmpR (eqDK K hu64) (pe_op op_cat (pv 11) (pe_lst (pa_cons (pe_call G__law_get_kin hr__law_get_kin rfl m__law_get_kin k__law_get_kin b__law_get_kin .nil pass0 (pa_cons (pe_exc0 PySem.F.excBase_ValueError TX.e_NotComparable TX.g_NotComparable TX.k_NotComparable rfl) (pa_cons pe_int pa_nil))) pa_nil))) (pe_op op_rep (pe_lst (pa_cons pe_bl pa_nil)) pe_int) (nomark _)))))))))))))))))), ?_⟩
    refine q_asgX (ex_mk (ea_cons (ev_var rfl) ea_nil) rfl (by simp)) (fun p1 H1 e1 x1 => ?_)
    refine q_asgX (ex_mk (ea_cons (ev_var rfl) (ea_cons (ev_var rfl) ea_nil)) rfl (by simp)) (fun p2 H2 e2 x2 => ?_)
    refine q_asgX (ex_mk (ea_cons (ev_var rfl) ea_nil) rfl (by simp)) (fun p3 H3 e3 x3 => ?_)
    refine q_asgX (ex_mk (fs := ["handler", "guard", "agreement", "number"]) (dvs := [.non, .non]) (ea_cons (ev_var rfl) (ea_cons (ev_var rfl) ea_nil)) rfl (by simp)) (fun p4 H4 e4 x4 => ?_)
    refine q_asgX (ex_mk (ea_cons (ev_var rfl) (ea_cons ev_c (ea_cons (ev_var rfl) (ea_cons (ev_var rfl) ea_nil)))) rfl (by simp)) (fun p5 H5 e5 x5 => ?_)
    refine q_asgX (ex_mk (ea_cons (ev_var rfl) (ea_cons (ev_var rfl) ea_nil)) rfl (by simp)) (fun p6 H6 e6 x6 => ?_)
    refine q_asgX (ex_mk (ea_cons (ev_var rfl) ea_nil) rfl (by simp)) (fun p7 H7 e7 x7 => ?_)
    replace x1 := x1.ex (((((e2.trans e3).trans e4).trans e5).trans e6).trans e7)
    replace x2 := x2.ex ((((e3.trans e4).trans e5).trans e6).trans e7)
    replace x3 := x3.ex (((e4.trans e5).trans e6).trans e7)
    replace x4 := x4.ex ((e5.trans e6).trans e7)
    replace x5 := x5.ex (e6.trans e7)
    replace x6 := x6.ex e7
    refine q_when (b := false) (et_test (ev_opUU (xs := [.str wd, .str wd, .str ot, .ref ag]) (eu_tup (ea_cons (ev_xf (ev_var rfl) x1 (TX.exc 6 (by decide)) TX.no_BadPattern_place (by simp)) (ea_cons (ev_xf (ev_var rfl) x2 (TX.exc 7 (by decide)) TX.no_ConstantsMeet_first (by simp)) (ea_cons (ev_xf (ev_var rfl) x2 (TX.exc 7 (by decide)) TX.no_ConstantsMeet_second (by simp)) (ea_cons (ev_xf (ev_var rfl) x3 (TX.exc 10 (by decide)) TX.no_BadValue_value (by simp)) ea_nil)))) (by simp)) (eu_tup (ea_cons (ev_var rfl) (ea_cons (ev_var rfl) (ea_cons (ev_var rfl) (ea_cons (ev_var rfl) ea_nil)))) (by simp)) (fun p q H1 hp hq e => rv_neU [.str wd, .str wd, .str ot, .tuple ([a1, a2, a3].map PyData.str)] hp hq (.cons (.str _) (.cons (.str _) (.cons (.str _) (.cons (dag (((((((e1.trans e2).trans e3).trans e4).trans e5).trans e6).trans e7).trans e)) .nil)))) (by simp [SeqAt.shaped, PyData.canLay0, PyData.canLayAll0, PyData.depth, PyData.depthAll, w1, w2, w3, w4, w5])))) (fun hb => absurd hb (by decide)) (fun _ H8 e8 => ?_)
    replace x1 := x1.ex e8
    replace x2 := x2.ex e8
    replace x3 := x3.ex e8
    replace x4 := x4.ex e8
    replace x5 := x5.ex e8
    replace x6 := x6.ex e8
    replace x7 := x7.ex e8
    refine q_when (b := false) (et_test (ev_opUU (xs := [.str wd, .int n, .non, .non]) (eu_tup (ea_cons (ev_xf (ev_var rfl) x4 (TX.exc 12 (by decide)) TX.no_Refused_handler (by simp)) (ea_cons (ev_xf (ev_var rfl) x4 (TX.exc 12 (by decide)) TX.no_Refused_guard (by simp)) (ea_cons (ev_xf (ev_var rfl) x4 (TX.exc 12 (by decide)) TX.no_Refused_agreement (by simp)) (ea_cons (ev_xf (ev_var rfl) x4 (TX.exc 12 (by decide)) TX.no_Refused_number (by simp)) ea_nil)))) (by simp)) (eu_tup (ea_cons (ev_var rfl) (ea_cons (ev_var rfl) (ea_cons ev_c (ea_cons ev_c ea_nil)))) (by simp)) (fun p q H1 hp hq e => rv_neU [.str wd, .int n, .none, .none] hp hq (.cons (.str _) (.cons (.int _) (.cons .non (.cons .non .nil)))) (by simp [SeqAt.shaped, PyData.canLay0, PyData.canLayAll0, PyData.depth, PyData.depthAll, w1, w2, w3, w4, w5])))) (fun hb => absurd hb (by decide)) (fun _ H9 e9 => ?_)
    replace x1 := x1.ex e9
    replace x2 := x2.ex e9
    replace x3 := x3.ex e9
    replace x4 := x4.ex e9
    replace x5 := x5.ex e9
    replace x6 := x6.ex e9
    replace x7 := x7.ex e9
    refine q_when (b := false) (et_test (ev_opUU (xs := [.str wd, .non, .ref ag, .int n]) (eu_tup (ea_cons (ev_xf (ev_var rfl) x5 (TX.exc 12 (by decide)) TX.no_Refused_handler (by simp)) (ea_cons (ev_xf (ev_var rfl) x5 (TX.exc 12 (by decide)) TX.no_Refused_guard (by simp)) (ea_cons (ev_xf (ev_var rfl) x5 (TX.exc 12 (by decide)) TX.no_Refused_agreement (by simp)) (ea_cons (ev_xf (ev_var rfl) x5 (TX.exc 12 (by decide)) TX.no_Refused_number (by simp)) ea_nil)))) (by simp)) (eu_tup (ea_cons (ev_var rfl) (ea_cons ev_c (ea_cons (ev_var rfl) (ea_cons (ev_var rfl) ea_nil)))) (by simp)) (fun p q H1 hp hq e => rv_neU [.str wd, .none, .tuple ([a1, a2, a3].map PyData.str), .int n] hp hq (.cons (.str _) (.cons .non (.cons (dag (((((((((e1.trans e2).trans e3).trans e4).trans e5).trans e6).trans e7).trans e8).trans e9).trans e)) (.cons (.int _) .nil)))) (by simp [SeqAt.shaped, PyData.canLay0, PyData.canLayAll0, PyData.depth, PyData.depthAll, w1, w2, w3, w4, w5])))) (fun hb => absurd hb (by decide)) (fun _ H10 e10 => ?_)
    replace x1 := x1.ex e10
    replace x2 := x2.ex e10
    replace x3 := x3.ex e10
    replace x4 := x4.ex e10
    replace x5 := x5.ex e10
    replace x6 := x6.ex e10
    replace x7 := x7.ex e10
    refine q_when (b := false) (et_test (ev_opUU (xs := [.ref ag, .int n, .str wd]) (eu_tup (ea_cons (ev_xf (ev_var rfl) x6 (TX.exc 13 (by decide)) TX.no_Broken_agreement (by simp)) (ea_cons (ev_xf (ev_var rfl) x6 (TX.exc 13 (by decide)) TX.no_Broken_number (by simp)) (ea_cons (ev_xf (ev_var rfl) x7 (TX.exc 15 (by decide)) TX.no_TooManyPatterns_table (by simp)) ea_nil))) (by simp)) (eu_tup (ea_cons (ev_var rfl) (ea_cons (ev_var rfl) (ea_cons (ev_var rfl) ea_nil))) (by simp)) (fun p q H1 hp hq e => rv_neU [.tuple ([a1, a2, a3].map PyData.str), .int n, .str wd] hp hq (.cons (dag ((((((((((e1.trans e2).trans e3).trans e4).trans e5).trans e6).trans e7).trans e8).trans e9).trans e10).trans e)) (.cons (.int _) (.cons (.str _) .nil))) (by simp [SeqAt.shaped, PyData.canLay0, PyData.canLayAll0, PyData.depth, PyData.depthAll, w1, w2, w3, w4, w5])))) (fun hb => absurd hb (by decide)) (fun _ H11 e11 => ?_)
    replace x1 := x1.ex e11
    replace x2 := x2.ex e11
    replace x3 := x3.ex e11
    replace x4 := x4.ex e11
    replace x5 := x5.ex e11
    replace x6 := x6.ex e11
    replace x7 := x7.ex e11
    refine q_asgL (el_lst (ea_cons (kin_ev (cs := cs) (d := 6) (ea_cons (ev_var rfl) (ea_cons ev_c ea_nil)) (by decide) x1.any) (ea_cons (kin_ev (cs := cs) (d := 7) (ea_cons (ev_var rfl) (ea_cons ev_c ea_nil)) (by decide) x2.any) (ea_cons (kin_evN (cs := cs) (d := 8) ex_mk0 (by decide)) (ea_cons (kin_evN (cs := cs) (d := 9) ex_mk0 (by decide)) ea_nil)))) (by simp)) (fun p12 H12 n12 e12 h12 => ?_)
    replace x1 := x1.ex e12
    replace x2 := x2.ex e12
    replace x3 := x3.ex e12
    replace x4 := x4.ex e12
    replace x5 := x5.ex e12
    replace x6 := x6.ex e12
    replace x7 := x7.ex e12
    refine q_asgL (el_cat (el_get (ev_var rfl) h12) (el_k (el_lst (ea_cons (kin_ev (cs := cs) (d := 10) (ea_cons (ev_var rfl) (ea_cons ev_c ea_nil)) (by decide) x3.any) (ea_cons (kin_ev (cs := cs) (d := 12) (ea_cons (ev_var rfl) (ea_cons ev_c ea_nil)) (by decide) x4.any) (ea_cons (kin_ev (cs := cs) (d := 12) (ea_cons (ev_var rfl) (ea_cons ev_c ea_nil)) (by decide) x5.any) (ea_cons (kin_ev (cs := cs) (d := 13) (ea_cons (ev_var rfl) (ea_cons ev_c ea_nil)) (by decide) x6.any) ea_nil)))) (by simp))) (by simp)) (fun p13 H13 n13 e13 h13 => ?_)
    replace x1 := x1.ex e13
    replace x2 := x2.ex e13
    replace x3 := x3.ex e13
    replace x4 := x4.ex e13
    replace x5 := x5.ex e13
    replace x6 := x6.ex e13
    replace x7 := x7.ex e13
    refine q_asgL (el_cat (el_get (ev_var rfl) h13) (el_k (el_lst (ea_cons (kin_evN (cs := cs) (d := 14) ex_mk0 (by decide)) (ea_cons (kin_ev (cs := cs) (d := 15) (ea_cons (ev_var rfl) (ea_cons ev_c ea_nil)) (by decide) x7.any) (ea_cons (kin_evN (cs := cs) (d := 17) ex_mk0 (by decide)) ea_nil))) (by simp))) (by simp)) (fun p14 H14 n14 e14 h14 => ?_)
    refine s_ret (v := .bl true) (ev_opLL (xs := (List.replicate 12 true).map V.bl) (el_cat (el_get (ev_var rfl) h14) (el_k (el_lst (ea_cons (kin_evN (cs := cs) (d := 19) ex_mk0 (by decide)) ea_nil) (by simp))) (by simp)) (el_rep (k := 12) (el_lst (ea_cons ev_c ea_nil) (by simp)) ev_c (by simp)) (fun p q H1 hp hq e => rv_eqS ((List.replicate 12 true).map PyData.bool) hp hq (dp_bls _) (by decide +kernel))) (fun H15 e15 => k H15 ((((((((((((((e1.trans e2).trans e3).trans e4).trans e5).trans e6).trans e7).trans e8).trans e9).trans e10).trans e11).trans e12).trans e13).trans e14).trans e15))
end
end My

namespace My
open PySem PySem.Spec PyProof.Rows L2 Evl
abbrev sCau : Stmt := top 32
abbrev sLaw : Stmt := top 33
theorem scCau : FnScope ["number", "e"] ["number"] (defScope sCau) := ⟨rfl, rfl, rfl, by decide +kernel, rfl, by decide +kernel, by decide +kernel⟩
theorem scLaw : FnScope ["script", "state", "words", "number", "agreement"] ["script"] (defScope sLaw) := ⟨rfl, rfl, rfl, by decide +kernel, rfl, by decide +kernel, by decide +kernel⟩
def spCau : Sp := fun vs H Q _ => ∃ n : Int, vs = [.int n] ∧ ∀ H' : Hp, Ex H H' → Q (.bl true) H'
def spLaw (K : PySem.W.Frag) : Sp := fun vs H Q _ => ∃ (a : Addr) (ns : List Int), vs = [.ref a] ∧ SqL K H a (ns.map V.int) ∧ ns.length ≤ 63 ∧ ∀ H', Q (.bl true) H'
section
variable {P : Program} {w : World} {K : PySem.W.Frag} {mg : Str → Option Value} {base : Heap} {A : Addr} {cs fi : Nat → Addr} {fdI : Nat → FuncData}
theorem ok_cau {f : Addr} {fd : FuncData} (F : Fun K "_law_caught" "_law_caught" sCau f fd) (T : TL mg) (TX : TXX K mg A cs fi) (TI : TII P w K mg base cs fi fdI) : FnOk P w K mg base CX0 3 f fd ["number"] spCau := by
  refine F.ok scCau (fun vs H Q E h => ?_) (fun cdv A' outer s H vs Q E hr h => ?_)
  · obtain ⟨n, rfl, _⟩ := h
    rfl
  · obtain ⟨n, rfl, k⟩ := h
    have hrX : Room 2 _ := hr
    refine ⟨_, (pss_cons (ps_try_as (i := 1) (Wout := fun _ _ _ _ => False) rfl rfl scCau.nd rfl rfl ⟨rfl, by decide, .inl TX.g_AgreeError⟩ takes0
      (fun W pn xe tk _ => (pss_one (ps_raise rfl tk (pmk_oex TX.o_BadLine TX.i_BadLine TX.t_BadLine TI.I_BadLine hrX TI.b_BadLine .nil pass0 rfl TX.g_BadLine (pa_cons (pv 0) pa_nil)))))
      (fun a oe cls d pn hz hf => (pss_one (ps_ret (pe_callB (call_isE2 hz hf) (by rfl) T.n_isinstance (by decide +kernel) (pa_cons (pv 1) (pa_cons (pe_cls rfl TX.g_BadLine) pa_nil)))))))
    (pss_one (ps_ret pe_bl))), ?_⟩
    refine ⟨_, rfl, by simp, fun a hn => ⟨a, [.int n], rfl, rfl, upd_same, fun H' d l h1 h2 hd _ h4 => ⟨rfl, d, l, h1, h2, ?_, true, TX.exmA 0 (by decide), fun _ a0 ha0 => ?_, fun q => nomatch q⟩⟩⟩
    · by_cases e : d = a
      · rw [e, upd_same] at hd
        cases hd
      · rw [upd_ne e] at hd
        exact hd
    · have hda : d ≠ a := fun e => by
        rw [e, upd_same] at hd
        cases hd
      have hd0 : H d = none := by rw [upd_ne hda] at hd; exact hd
      refine ⟨_, rfl, cs 0, d, _, _, true, _, rfl, rfl, TX.exc 0 (by decide), rfl, .own _, upd_same, TX.kit 0 0 (by decide) (by decide), k _ fun b o hb => ?_⟩
      rw [upd_ne (ne_of_none hb hd0), del_ne (ne_of_none hb hn)]
      exact h4 b o (ne_of_none hb hn) (by rw [upd_ne (ne_of_none hb hn)]; exact hb)
theorem menu5 {r : Int} (h0 : 0 ≤ r) (h1 : r < 5) (a b c d e : Int) : ∃ z : Int, atI ([.int a, .int b, .int c, .int d, .int e] : List V) r = some (.int z) := by
  have : r = 0 ∨ r = 1 ∨ r = 2 ∨ r = 3 ∨ r = 4 := by omega
  rcases this with rfl | rfl | rfl | rfl | rfl
  · exact ⟨a, rfl⟩
  · exact ⟨b, rfl⟩
  · exact ⟨c, rfl⟩
  · exact ⟨d, rfl⟩
  · exact ⟨e, rfl⟩
structure TM (K : PySem.W.Frag) (mg : Str → Option Value) (x : Str) (ps : List Str) (f : Addr) (fd : FuncData) : Prop where
  m : mg x = some (.ref f)
  k : PySem.W.keepIn K (.ref f) = true
  b : Binds K fd ps []
theorem ok_law {f fS fD fW fN fC fO : Addr} {fd fdS fdD fdW fdN fdC fdO : FuncData} (F : Fun K "law" "law" sLaw f fd) (T : TL mg) (TX : TXX K mg A cs fi)
    (G__law_get_state : FnOk P w K mg base CX0 1 fS fdS ["script"] (spState K)) (MS : TM K mg "_law_get_state" ["script"] fS fdS)
    (G__law_draw : FnOk P w K mg base CX0 1 fD fdD ["st", "limit"] spDraw) (MD : TM K mg "_law_draw" ["st", "limit"] fD fdD)
    (G__law_get_words : FnOk P w K mg base CX0 2 fW fdW ["st", "most", "count"] spWords) (MW : TM K mg "_law_get_words" ["st", "most", "count"] fW fdW)
    (G__law_get_numbers : FnOk P w K mg base CX0 3 fN fdN ["number", "word"] spNum) (MN : TM K mg "_law_get_numbers" ["number", "word"] fN fdN)
    (G__law_caught : FnOk P w K mg base CX0 3 fC fdC ["number"] spCau) (MC : TM K mg "_law_caught" ["number"] fC fdC)
    (G__law_get_others : FnOk P w K mg base CX0 3 fO fdO ["number", "word", "other", "agreement"] (spOth K)) (MO : TM K mg "_law_get_others" ["number", "word", "other", "agreement"] fO fdO) :
    FnOk P w K mg base CX0 4 f fd ["script"] (spLaw K) := by
  refine F.ok scLaw (fun vs H Q E h => ?_) (fun cdv A' outer s H vs Q E hr h => ?_)
  · obtain ⟨a, ns, rfl, _⟩ := h
    rfl
  · obtain ⟨a, ns, rfl, hS, hlen, k⟩ := h
    have hr__law_get_state : Room 1 _ := hr.mono (by decide)
    have hr__law_draw : Room 1 _ := hr.mono (by decide)
    have hr__law_get_words : Room 2 _ := hr.mono (by decide)
    have hr__law_get_numbers : Room 3 _ := hr
    have hr__law_caught : Room 3 _ := hr
    have hr__law_get_others : Room 3 _ := hr
    have m__law_get_state := MS.m
    have k__law_get_state := MS.k
    have b__law_get_state := MS.b
    have m__law_draw := MD.m
    have k__law_draw := MD.k
    have b__law_draw := MD.b
    have m__law_get_words := MW.m
    have k__law_get_words := MW.k
    have b__law_get_words := MW.b
    have m__law_get_numbers := MN.m
    have k__law_get_numbers := MN.k
    have b__law_get_numbers := MN.b
    have m__law_caught := MC.m
    have k__law_caught := MC.k
    have b__law_caught := MC.b
    have m__law_get_others := MO.m
    have k__law_get_others := MO.k
    have b__law_get_others := MO.b
    refine ⟨_, (pss_cons (ps_set (i := 1) scLaw.nd rfl (Or.inl rfl) (pe_call G__law_get_state hr__law_get_state rfl m__law_get_state k__law_get_state b__law_get_state .nil pass0 (pa_cons (pv 0) pa_nil)))
    (pss_cons (ps_set (i := 2) scLaw.nd rfl (Or.inl rfl) (pe_call G__law_get_words hr__law_get_words rfl m__law_get_words k__law_get_words b__law_get_words .nil pass0 (pa_cons (pv 1) (pa_cons pe_int (pa_cons pe_int pa_nil)))))
    (pss_cons (ps_set (i := 3) scLaw.nd rfl (Or.inl rfl) (pe_op op_add (pe_ix (ixL K) (pe_lst (pa_cons pe_int (pa_cons pe_int (pa_cons pe_int (pa_cons (pe_op op_pow pe_int pe_int) (pa_cons (pe_op op_pow pe_int pe_int) pa_nil)))))) (pe_call G__law_draw hr__law_draw rfl m__law_draw k__law_draw b__law_draw .nil pass0 (pa_cons (pv 1) (pa_cons pe_int pa_nil))) (fun _ _ => rfl)) (pe_call G__law_draw hr__law_draw rfl m__law_draw k__law_draw b__law_draw .nil pass0 (pa_cons (pv 1) (pa_cons pe_int pa_nil)))))
    (pss_cons (ps_set (i := 4) scLaw.nd rfl (Or.inl rfl) (pe_tup (pa_cons (pe_ix (ixL K) (pv 2) pe_int (fun _ _ => rfl)) (pa_cons (pe_ix (ixL K) (pv 2) pe_int (fun _ _ => rfl)) (pa_cons (pe_ix (ixL K) (pv 2) pe_int (fun _ _ => rfl)) pa_nil)))))
    (pss_cons (ps_if (PW.pt (pw_or (pt_not (pt_val (pe_call G__law_get_numbers hr__law_get_numbers rfl m__law_get_numbers k__law_get_numbers b__law_get_numbers .nil pass0 (pa_cons (pv 3) (pa_cons (pe_ix (ixL K) (pv 2) pe_int (fun _ _ => rfl)) pa_nil))))) (pw_or1 (pt_not (pt_val (pe_call G__law_caught hr__law_caught rfl m__law_caught k__law_caught b__law_caught .nil pass0 (pa_cons (pv 3) pa_nil)))))))
      (pss_one (ps_ret pe_bl))
      pss_nil)
    (pss_one (ps_ret (pe_call G__law_get_others hr__law_get_others rfl m__law_get_others k__law_get_others b__law_get_others .nil pass0 (pa_cons (pv 3) (pa_cons (pe_ix (ixL K) (pv 2) pe_int (fun _ _ => rfl)) (pa_cons (pe_ix (ixL K) (pv 2) pe_int (fun _ _ => rfl)) (pa_cons (pv 4) pa_nil)))))))))))), ?_⟩
    refine q_set (w_call (w_eva (ea_cons (ev_var rfl) ea_nil) fun H1 e1 => ⟨a, ns, rfl, ex_l e1 hS, fun H2 st l e2 S2 _ _ => ?_⟩))
    refine q_set (w_call (w_eva (ea_cons (ev_var rfl) (ea_cons ev_c (ea_cons ev_c ea_nil))) fun H3 e3 => ⟨st, l, 12, 4, rfl, S2.same e3, by decide, by decide, by decide, fun ws p H4 W X4 S4 n4 h4 => ?_⟩))
    refine q_set (w_op (w_op (w_evl (el_lst (ea_cons ev_c (ea_cons ev_c (ea_cons ev_c (ea_cons (ev_op ev_c ev_c (rv_I ⟨by decide, by decide, by decide⟩)) (ea_cons (ev_op ev_c ev_c (rv_I ⟨by decide, by decide, by decide⟩)) ea_nil))))) (by simp)) fun q H5 n5 e5 h5 => ?_)))
    refine w_draw (st := st) (l := l) (n := 5) (ea_cons (ev_var rfl) (ea_cons ev_c ea_nil)) (S4.same e5) (by decide) (by decide) (fun r H6 r0 r1 X6 S6 => ?_)
    obtain ⟨z, hz⟩ := menu5 r0 r1 0 1 2 (10 ^ 9) (10 ^ 30)
    have hq6 : H6 q = some _ := X6 q _ ((S4.off n5).1) ((S4.off n5).2) h5
    refine ⟨q, _, r, _, rfl, rfl, SqL.of hq6, hz, ?_⟩
    refine w_draw (st := st) (l := l) (n := 100) (ea_cons (ev_var rfl) (ea_cons ev_c ea_nil)) S6 (by decide) (by decide) (fun r' H7 r0' r1' X7 S7 => ?_)
    refine ⟨_, _, rfl, rfl, ?_⟩
    have op := (S2.same e3).off n4
    have h7 : H7 p = some (.lst (ws.map V.str)) := X7 _ _ op.1 op.2 (X6 _ _ op.1 op.2 (e5 _ _ h4))
    have w3 : ∃ w0 w1 w2 w3, ws = [w0, w1, w2, w3] := by
      match ws, W.len with
      | [a, b, c, d], _ => exact ⟨a, b, c, d, rfl⟩
    obtain ⟨w0, w1, w2, w3, rfl⟩ := w3
    have so : ∀ c ∈ [w0, w1, w2, w3], PyData.strOk c = true := fun c hc => (W.ok c hc).strOk
    have ix : ∀ {H1 : Hp} {σ : L2.St} {i : Nat} {c : Str}, Ex H7 H1 → σ[2]? = some (some (.ref p)) → ([.str w0, .str w1, .str w2, .str w3] : List V)[i]? = some (.str c) → Ev (tOp (rIxL K) (tVar 2) (tC (.int (i : Int)))) σ H1 (.str c) := fun e hσ hi => ev_op (ev_var hσ) ev_c (rv_ixL (SqL.of (e _ _ h7)) (atI_n rfl hi))
    refine q_asgU (eu_tup (ea_cons (ix (i := 0) (Ex.refl _) rfl rfl) (ea_cons (ix (i := 1) (Ex.refl _) rfl rfl) (ea_cons (ix (i := 2) (Ex.refl _) rfl rfl) ea_nil))) (by simp)) (fun t H8 n8 e8 h8 => ?_)
    refine q_when (b := false) (et_or (a := false) (et_not (a := true) (et_B (ev_call (ea_cons (ev_var rfl) (ea_cons (ix (i := 0) e8 rfl rfl) ea_nil)) (fun H9 e9 Q q E => ⟨_, _, rfl, so _ (by simp), q⟩)))) (fun _ => et_not (a := true) (et_B (ev_call (ea_cons (ev_var rfl) ea_nil) (fun H9 e9 Q q E => ⟨_, rfl, q⟩))))) (fun hb => absurd hb (by decide)) (fun _ H9 e9 => ?_)
    refine s_ret (v := .bl true) (ev_call (ea_cons (ev_var rfl) (ea_cons (ix (i := 1) (e8.trans e9) rfl rfl) (ea_cons (ix (i := 2) (e8.trans e9) rfl rfl) (ea_cons (ev_var rfl) ea_nil)))) (fun H10 e10 Q q E => ⟨_, _, _, w0, w1, w2, t, rfl, ?_, SqT.of ((e9.trans e10) _ _ h8), q⟩)) (fun H11 e11 => k H11)
    intro c hc
    simp only [List.mem_cons, List.not_mem_nil, or_false] at hc
    rcases hc with rfl | rfl | rfl | rfl | rfl <;> exact so _ (by simp)
end
end My

namespace My
open PySem PySem.Spec PyProof.Rows L2 Evl
/-! ### the end: what the top has written -/
/-- what is written of an error's class at C, below the base class at A -/
structure CF (K : PySem.W.Frag) (A C : Addr) : Prop where
  cl : ∃ (nm q : Str) (N : Addr) (bs : List Value) (sn : List Str) (sub : List Value) (ab : Bool) (col : Option Bool) (dd : Option Addr) (k0 k1 k2 k3 k5 : Option Value), K.lookup C = some (excClassObj nm q C N bs [.ref A, .type "ValueError", .type "Exception", .type "BaseException", .type "object"] true sn sub ab col dd k0 k1 k2 k3 k5 "ValueError.__new__")
  sa : PySem.W.findIn K (.ref C) "__setattr__" = some (some (.builtin "object.__setattr__"))
  hg : PySem.W.findIn K (.ref C) "__getattribute__" = some (some (.builtin "BaseException.__getattribute__"))
  hk : PySem.W.findIn K (.ref C) "__getattr__" = some none
  ha : PySem.W.findIn K (.ref C) "__class__" = some (some (.builtin "object.__class__"))
  kp : PySem.W.keepIn K (.ref C) = true
  ty : PySem.W.typeIn K (.ref C) = some (.type "type")
theorem CF.of {K : PySem.W.Frag} {A C : Addr} {nm q : Str} {N : Addr} {bs : List Value} {sn : List Str} {sub : List Value} {ab : Bool} {col : Option Bool} {dd : Option Addr} {k0 k1 k2 k3 k5 : Option Value}
    (l : K.lookup C = some (excClassObj nm q C N bs [.ref A, .type "ValueError", .type "Exception", .type "BaseException", .type "object"] true sn sub ab col dd k0 k1 k2 k3 k5 "ValueError.__new__"))
    (sa : PySem.W.findIn K (.ref C) "__setattr__" = some (some (.builtin "object.__setattr__"))) (hg : PySem.W.findIn K (.ref C) "__getattribute__" = some (some (.builtin "BaseException.__getattribute__"))) (hk : PySem.W.findIn K (.ref C) "__getattr__" = some none)
    (ha : PySem.W.findIn K (.ref C) "__class__" = some (some (.builtin "object.__class__"))) (kp : PySem.W.keepIn K (.ref C) = true) (ty : PySem.W.typeIn K (.ref C) = some (.type "type")) : CF K A C :=
  ⟨⟨nm, q, N, bs, sn, sub, ab, col, dd, k0, k1, k2, k3, k5, l⟩, sa, hg, hk, ha, kp, ty⟩
theorem CF.cls {K : PySem.W.Frag} {A C : Addr} (h : CF K A C) : ∃ cd, PySem.W.clsIn K C = some cd ∧ cd.mro = [.ref C, .ref A, .type "ValueError", .type "Exception", .type "BaseException", .type "object"] ∧ cd.hasDict = true := by
  obtain ⟨nm, q, N, bs, sn, sub, ab, col, dd, k0, k1, k2, k3, k5, e⟩ := h.cl
  refine ⟨_, by unfold PySem.W.clsIn; rw [e], rfl, rfl⟩
theorem CF.mro {K : PySem.W.Frag} {A C : Addr} (h : CF K A C) (v : Value) : PySem.W.mroIn K C v = some (([.ref C, .ref A, .type "ValueError", .type "Exception", .type "BaseException", .type "object"] : List Value).contains v) := by
  obtain ⟨cd, e, m, _⟩ := h.cls
  unfold PySem.W.mroIn
  rw [e, Option.bind_some, m]
  rfl
theorem CF.oex {K : PySem.W.Frag} {A C : Addr} (h : CF K A C) : OexC K C := by
  obtain ⟨nm, q, N, bs, sn, sub, ab, col, dd, k0, k1, k2, k3, k5, e⟩ := h.cl
  exact ⟨⟨nm, q, N, bs, _, sn, sub, ab, col, dd, k0, k1, k2, k3, k5, e, rfl⟩, h.sa, (by show PySem.W.mroIn K C _ = _; rw [h.mro]; rfl), h.ty, h.kp⟩
theorem CF.exc {K : PySem.W.Frag} {A C : Addr} (h : CF K A C) (hn : PySem.W.specialIn K (.builtin "object.__class__") "__get__" = some (some (.builtin "getset_descriptor.__get__"))) (ht : PySem.W.takesIn K (.builtin "object.__class__") = some true) : ExcC K C := by
  obtain ⟨cd, e, m, d⟩ := h.cls
  exact ⟨h.hg, h.hk, (by show PySem.W.mroIn K C _ = _; rw [h.mro]; rfl), (by unfold PySem.W.hasDictIn; rw [e]; exact d), h.ha, hn, ht, (by rw [h.mro]; rfl)⟩
theorem beq_ref {a b : Addr} (h : a ≠ b) : (Value.ref a == Value.ref b) = false := beq_eq_false_iff_ne.mpr fun e => h (Value.ref.inj e)
theorem CF.kit {K : PySem.W.Frag} {A C D : Addr} (hD : CF K A D) (hC : CF K A C) (hA : C ≠ A) : PySem.W.kitOne K (.ref D) (.ref C) = some (decide (D = C)) := by
  unfold PySem.W.kitOne
  by_cases e : D = C
  · subst e
    rw [if_pos (beq_self_eq_true _), decide_eq_true rfl]
  · rw [if_neg (by rw [beq_ref e]; exact Bool.false_ne_true), decide_eq_false e]
    obtain ⟨cd, e1, _, _⟩ := hC.cls
    show (if ((PySem.W.clsIn K C).isSome && PySem.W.typeIn K (.ref C) == some (.type "type")) = true then PySem.W.mroIn K D (.ref C) else none) = _
    rw [e1, hC.ty]
    simp only [Option.isSome_some, Bool.true_and, beq_self_eq_true, if_true]
    rw [hD.mro]
    have h1 : (Value.ref C == Value.ref D) = false := beq_ref (fun z => e z.symm)
    have h2 : (Value.ref C == Value.ref A) = false := beq_ref hA
    simp only [List.contains_cons, h1, h2]
    rfl
theorem CF.kitA {K : PySem.W.Frag} {A D : Addr} (hD : CF K A D) (hA : D ≠ A) (hc : (PySem.W.clsIn K A).isSome = true) (ht : PySem.W.typeIn K (.ref A) = some (.type "type")) : PySem.W.kitOne K (.ref D) (.ref A) = some true := by
  unfold PySem.W.kitOne
  rw [if_neg (by rw [beq_ref hA]; exact Bool.false_ne_true)]
  show (if ((PySem.W.clsIn K A).isSome && PySem.W.typeIn K (.ref A) == some (.type "type")) = true then PySem.W.mroIn K D (.ref A) else none) = _
  rw [hc, ht]
  simp only [Bool.true_and, beq_self_eq_true, if_true]
  rw [hD.mro]
  have h1 : (Value.ref A == Value.ref D) = false := beq_ref (fun z => hA z.symm)
  simp only [List.contains_cons, h1, beq_self_eq_true]
  rfl
theorem CF.kitV {K : PySem.W.Frag} {A D : Addr} (hD : CF K A D) : PySem.W.kitOne K (.ref D) (.type "ValueError") = some true := by
  show (if (Value.ref D == Value.type "ValueError") = true then some true else PySem.W.kitCls K (.ref D) (.type "ValueError")) = _
  rw [if_neg (by rw [show (Value.ref D == Value.type "ValueError") = false from rfl]; exact Bool.false_ne_true)]
  show (if PySem.W.kitMeta "ValueError" = true then PySem.W.mroIn K D (.type "ValueError") else none) = _
  rw [if_pos (by decide +kernel), hD.mro]
  rfl
theorem CF.exmA {K : PySem.W.Frag} {A D : Addr} (hD : CF K A D) (hA : D ≠ A) (hc : (PySem.W.clsIn K A).isSome = true) (ht : PySem.W.typeIn K (.ref A) = some (.type "type")) (hb : PySem.W.subIn K (.ref A) (.type "BaseException") = some true) : PySem.W.exmOne K (.ref D) (.ref A) = some true := by
  have q := hD.kitA hA hc ht
  unfold PySem.W.kitOne at q
  rw [if_neg (by rw [beq_ref hA]; exact Bool.false_ne_true)] at q
  unfold PySem.W.exmOne
  rw [hb]
  exact q
/-- a def as it is written -/
def FE (K : PySem.W.Frag) (x qual : Str) (st : Stmt) (f : Addr) : Prop := (∃ (oc : Value) (od : Option Addr) (kV doc pm : Value) (an : Option Addr) (cdv ct : Value) (osl : Array (Option Value)),
    K.lookup f = some ⟨oc, od, .func (PySem.W.fnOf x qual (defArgs st) (defBody st) (defScope st) .none kV doc pm an cdv ct), osl⟩ ∧ PySem.W.codeIn K cdv qual = true) ∧ PySem.W.keepIn K (.ref f) = true
theorem FE.of {K : PySem.W.Frag} {x qual : Str} {st : Stmt} {f : Addr} {oc : Value} {od : Option Addr} {kV doc pm : Value} {an : Option Addr} {cdv ct : Value} {osl : Array (Option Value)}
    (l : K.lookup f = some ⟨oc, od, .func (PySem.W.fnOf x qual (defArgs st) (defBody st) (defScope st) .none kV doc pm an cdv ct), osl⟩) (c : PySem.W.codeIn K cdv qual = true) (k : PySem.W.keepIn K (.ref f) = true) : FE K x qual st f := ⟨⟨oc, od, kV, doc, pm, an, cdv, ct, osl, l, c⟩, k⟩
theorem FE.fn {K : PySem.W.Frag} {x qual : Str} {st : Stmt} {f : Addr} (h : FE K x qual st f) : ∃ fd, Fun K x qual st f fd := by
  obtain ⟨⟨oc, od, kV, doc, pm, an, cdv, ct, osl, l, c⟩, k⟩ := h
  exact ⟨_, fun_mk l c k⟩
/-- a def with a tuple of two defaults -/
def FE2 (K : PySem.W.Frag) (x qual : Str) (st : Stmt) (f : Addr) : Prop := (∃ (oc : Value) (od : Option Addr) (T : Addr) (kV doc pm : Value) (an : Option Addr) (cdv ct : Value) (osl : Array (Option Value)),
    K.lookup f = some ⟨oc, od, .func (PySem.W.fnOf x qual (defArgs st) (defBody st) (defScope st) (.ref T) kV doc pm an cdv ct), osl⟩ ∧ PySem.W.codeIn K cdv qual = true ∧ ∃ (tc : Value) (td : Option Addr) (n : Nat) (ts : Array (Option Value)), K.lookup T = some ⟨tc, td, .seq #[.none, .none] n, ts⟩) ∧ PySem.W.keepIn K (.ref f) = true
theorem FE2.of {K : PySem.W.Frag} {x qual : Str} {st : Stmt} {f : Addr} {oc : Value} {od : Option Addr} {T : Addr} {kV doc pm : Value} {an : Option Addr} {cdv ct : Value} {osl : Array (Option Value)} {tc : Value} {td : Option Addr} {n : Nat} {ts : Array (Option Value)}
    (l : K.lookup f = some ⟨oc, od, .func (PySem.W.fnOf x qual (defArgs st) (defBody st) (defScope st) (.ref T) kV doc pm an cdv ct), osl⟩) (c : PySem.W.codeIn K cdv qual = true) (m : K.lookup T = some ⟨tc, td, .seq #[.none, .none] n, ts⟩) (k : PySem.W.keepIn K (.ref f) = true) : FE2 K x qual st f := ⟨⟨oc, od, T, kV, doc, pm, an, cdv, ct, osl, l, c, tc, td, n, ts, m⟩, k⟩
theorem FE2.fn {K : PySem.W.Frag} {x qual : Str} {st : Stmt} {f : Addr} (h : FE2 K x qual st f) : ∃ fd, FunD K x qual (defArgs st) (defBody st) (defScope st) [.non, .non] [] f fd := by
  obtain ⟨⟨oc, od, T, kV, doc, pm, an, cdv, ct, osl, l, c, tc, td, n, ts, lT⟩, k⟩ := h
  exact ⟨_, ⟨⟨oc, od, .ref T, kV, doc, pm, an, cdv, ct, osl, rfl, l, c, .inr ⟨by simp, T, _, [.none, .none], n, rfl, lT, rfl, .cons rfl (.cons rfl .nil)⟩, .inl rfl⟩, k⟩⟩
section
variable {P : Program} {w : World} {K : PySem.W.Frag} {mg : Str → Option Value} {base : Heap}
theorem vals_non : ∀ {n : Nat} {us : List Value}, Vals (List.replicate n .non) us → us = List.replicate n Value.none
  | 0, _, .nil => rfl
  | n + 1, _, .cons r t => by
    cases (show _ = Value.none from r)
    rw [vals_non t]
    rfl
def at21 (l : List Addr) (d : Nat) : Addr := l.getD d 0
theorem at21_mem {l : List Addr} (hl : l.length = 21) {d : Nat} (h : d < 21) : at21 l d ∈ l := by
  unfold at21
  rw [List.getD_eq_getElem?_getD, List.getElem?_eq_getElem (by omega), Option.getD_some]
  exact List.getElem_mem _
theorem at21_inj {l : List Addr} (hl : l.length = 21) (hn : l.Nodup) {d i : Nat} (hd : d < 21) (hi : i < 21) (e : at21 l d = at21 l i) : d = i := by
  unfold at21 at e
  rw [List.getD_eq_getElem?_getD, List.getElem?_eq_getElem (by omega), Option.getD_some, List.getD_eq_getElem?_getD, List.getElem?_eq_getElem (by omega), Option.getD_some] at e
  exact (List.getElem_inj hn).mp e
theorem all_mk {l : PySem.W.OpenLaw} {w : World} {K : PySem.W.Frag} {h : Heap} {mg : Str → Option Value} {fa A : Addr} {C0 C1 C2 C3 C4 C5 C6 C7 C8 C9 C10 C11 C12 C13 C14 C15 C16 C17 C18 C19 C20 : Addr} {I0 I1 I2 I3 I4 I5 I6 I7 I10 I11 I12 I13 I15 I16 I18 I20 : Addr} {f0 f1 f2 f3 f4 f5 f6 f7 f8 : Addr} (X : K.In h) (G : h.Ns mainGlobals mg) (hfa : mg "law" = some (.ref fa))
    (aA : PySem.W.nsIn K mainGlobals "AgreeError" = some (some (.ref A))) (cA : PySem.W.isClsIn K A = true) (tA : PySem.W.typeIn K (.ref A) = some (.type "type")) (bA : PySem.W.subIn K (.ref A) (.type "BaseException") = some true)
    (aC0 : PySem.W.nsIn K mainGlobals "BadLine" = some (some (.ref C0)))
    (aC1 : PySem.W.nsIn K mainGlobals "DuplicateName" = some (some (.ref C1)))
    (aC2 : PySem.W.nsIn K mainGlobals "UnknownName" = some (some (.ref C2)))
    (aC3 : PySem.W.nsIn K mainGlobals "WrongTable" = some (some (.ref C3)))
    (aC4 : PySem.W.nsIn K mainGlobals "WrongCount" = some (some (.ref C4)))
    (aC5 : PySem.W.nsIn K mainGlobals "TooMany" = some (some (.ref C5)))
    (aC6 : PySem.W.nsIn K mainGlobals "BadPattern" = some (some (.ref C6)))
    (aC7 : PySem.W.nsIn K mainGlobals "ConstantsMeet" = some (some (.ref C7)))
    (aC8 : PySem.W.nsIn K mainGlobals "OtherPlaces" = some (some (.ref C8)))
    (aC9 : PySem.W.nsIn K mainGlobals "OtherSchema" = some (some (.ref C9)))
    (aC10 : PySem.W.nsIn K mainGlobals "BadValue" = some (some (.ref C10)))
    (aC11 : PySem.W.nsIn K mainGlobals "NoRow" = some (some (.ref C11)))
    (aC12 : PySem.W.nsIn K mainGlobals "Refused" = some (some (.ref C12)))
    (aC13 : PySem.W.nsIn K mainGlobals "Broken" = some (some (.ref C13)))
    (aC14 : PySem.W.nsIn K mainGlobals "BadCase" = some (some (.ref C14)))
    (aC15 : PySem.W.nsIn K mainGlobals "TooManyPatterns" = some (some (.ref C15)))
    (aC16 : PySem.W.nsIn K mainGlobals "BadDerivation" = some (some (.ref C16)))
    (aC17 : PySem.W.nsIn K mainGlobals "NotReachable" = some (some (.ref C17)))
    (aC18 : PySem.W.nsIn K mainGlobals "TooLong" = some (some (.ref C18)))
    (aC19 : PySem.W.nsIn K mainGlobals "NotComparable" = some (some (.ref C19)))
    (aC20 : PySem.W.nsIn K mainGlobals "BadOffer" = some (some (.ref C20)))
    (nd : (A :: [C0, C1, C2, C3, C4, C5, C6, C7, C8, C9, C10, C11, C12, C13, C14, C15, C16, C17, C18, C19, C20]).Nodup) (cf : ∀ C ∈ [C0, C1, C2, C3, C4, C5, C6, C7, C8, C9, C10, C11, C12, C13, C14, C15, C16, C17, C18, C19, C20], CF K A C) (hn : PySem.W.specialIn K (.builtin "object.__class__") "__get__" = some (some (.builtin "getset_descriptor.__get__"))) (ht : PySem.W.takesIn K (.builtin "object.__class__") = some true)
    (i0 : PySem.W.findIn K (.ref C0) "__init__" = some (some (.ref I0))) (t0 : PySem.W.typeIn K (.ref I0) = some (.type "function")) (e0 : FE K "__init__" "BadLine.__init__" sI_BadLine I0) (no0_line : PySem.W.findIn K (.ref C0) "line" = some none)
    (i1 : PySem.W.findIn K (.ref C1) "__init__" = some (some (.ref I1))) (t1 : PySem.W.typeIn K (.ref I1) = some (.type "function")) (e1 : FE K "__init__" "DuplicateName.__init__" sI_DuplicateName I1) (no1_line : PySem.W.findIn K (.ref C1) "line" = some none) (no1_name : PySem.W.findIn K (.ref C1) "name" = some none)
    (i2 : PySem.W.findIn K (.ref C2) "__init__" = some (some (.ref I2))) (t2 : PySem.W.typeIn K (.ref I2) = some (.type "function")) (e2 : FE K "__init__" "UnknownName.__init__" sI_UnknownName I2) (no2_line : PySem.W.findIn K (.ref C2) "line" = some none) (no2_name : PySem.W.findIn K (.ref C2) "name" = some none)
    (i3 : PySem.W.findIn K (.ref C3) "__init__" = some (some (.ref I3))) (t3 : PySem.W.typeIn K (.ref I3) = some (.type "function")) (e3 : FE K "__init__" "WrongTable.__init__" sI_WrongTable I3) (no3_line : PySem.W.findIn K (.ref C3) "line" = some none) (no3_name : PySem.W.findIn K (.ref C3) "name" = some none)
    (i4 : PySem.W.findIn K (.ref C4) "__init__" = some (some (.ref I4))) (t4 : PySem.W.typeIn K (.ref I4) = some (.type "function")) (e4 : FE K "__init__" "WrongCount.__init__" sI_WrongCount I4) (no4_line : PySem.W.findIn K (.ref C4) "line" = some none)
    (i5 : PySem.W.findIn K (.ref C5) "__init__" = some (some (.ref I5))) (t5 : PySem.W.typeIn K (.ref I5) = some (.type "function")) (e5 : FE K "__init__" "TooMany.__init__" sI_TooMany I5) (no5_line : PySem.W.findIn K (.ref C5) "line" = some none)
    (i6 : PySem.W.findIn K (.ref C6) "__init__" = some (some (.ref I6))) (t6 : PySem.W.typeIn K (.ref I6) = some (.type "function")) (e6 : FE K "__init__" "BadPattern.__init__" sI_BadPattern I6) (no6_place : PySem.W.findIn K (.ref C6) "place" = some none)
    (i7 : PySem.W.findIn K (.ref C7) "__init__" = some (some (.ref I7))) (t7 : PySem.W.typeIn K (.ref I7) = some (.type "function")) (e7 : FE K "__init__" "ConstantsMeet.__init__" sI_ConstantsMeet I7) (no7_first : PySem.W.findIn K (.ref C7) "first" = some none) (no7_second : PySem.W.findIn K (.ref C7) "second" = some none)
    (x8 : PySem.W.excIn K C8 [.type "ValueError", .type "Exception", .type "BaseException", .type "object"] "ValueError.__new__" = true)
    (x9 : PySem.W.excIn K C9 [.type "ValueError", .type "Exception", .type "BaseException", .type "object"] "ValueError.__new__" = true)
    (i10 : PySem.W.findIn K (.ref C10) "__init__" = some (some (.ref I10))) (t10 : PySem.W.typeIn K (.ref I10) = some (.type "function")) (e10 : FE K "__init__" "BadValue.__init__" sI_BadValue I10) (no10_value : PySem.W.findIn K (.ref C10) "value" = some none)
    (i11 : PySem.W.findIn K (.ref C11) "__init__" = some (some (.ref I11))) (t11 : PySem.W.typeIn K (.ref I11) = some (.type "function")) (e11 : FE K "__init__" "NoRow.__init__" sI_NoRow I11) (no11_table : PySem.W.findIn K (.ref C11) "table" = some none) (no11_number : PySem.W.findIn K (.ref C11) "number" = some none)
    (i12 : PySem.W.findIn K (.ref C12) "__init__" = some (some (.ref I12))) (t12 : PySem.W.typeIn K (.ref I12) = some (.type "function")) (e12 : FE2 K "__init__" "Refused.__init__" sI_Refused I12) (no12_handler : PySem.W.findIn K (.ref C12) "handler" = some none) (no12_guard : PySem.W.findIn K (.ref C12) "guard" = some none) (no12_agreement : PySem.W.findIn K (.ref C12) "agreement" = some none) (no12_number : PySem.W.findIn K (.ref C12) "number" = some none)
    (i13 : PySem.W.findIn K (.ref C13) "__init__" = some (some (.ref I13))) (t13 : PySem.W.typeIn K (.ref I13) = some (.type "function")) (e13 : FE K "__init__" "Broken.__init__" sI_Broken I13) (no13_agreement : PySem.W.findIn K (.ref C13) "agreement" = some none) (no13_number : PySem.W.findIn K (.ref C13) "number" = some none)
    (x14 : PySem.W.excIn K C14 [.type "ValueError", .type "Exception", .type "BaseException", .type "object"] "ValueError.__new__" = true)
    (i15 : PySem.W.findIn K (.ref C15) "__init__" = some (some (.ref I15))) (t15 : PySem.W.typeIn K (.ref I15) = some (.type "function")) (e15 : FE K "__init__" "TooManyPatterns.__init__" sI_TooManyPatterns I15) (no15_table : PySem.W.findIn K (.ref C15) "table" = some none)
    (i16 : PySem.W.findIn K (.ref C16) "__init__" = some (some (.ref I16))) (t16 : PySem.W.typeIn K (.ref I16) = some (.type "function")) (e16 : FE K "__init__" "BadDerivation.__init__" sI_BadDerivation I16) (no16_line : PySem.W.findIn K (.ref C16) "line" = some none)
    (x17 : PySem.W.excIn K C17 [.type "ValueError", .type "Exception", .type "BaseException", .type "object"] "ValueError.__new__" = true)
    (i18 : PySem.W.findIn K (.ref C18) "__init__" = some (some (.ref I18))) (t18 : PySem.W.typeIn K (.ref I18) = some (.type "function")) (e18 : FE K "__init__" "TooLong.__init__" sI_TooLong I18) (no18_size : PySem.W.findIn K (.ref C18) "size" = some none)
    (x19 : PySem.W.excIn K C19 [.type "ValueError", .type "Exception", .type "BaseException", .type "object"] "ValueError.__new__" = true)
    (i20 : PySem.W.findIn K (.ref C20) "__init__" = some (some (.ref I20))) (t20 : PySem.W.typeIn K (.ref I20) = some (.type "function")) (e20 : FE K "__init__" "BadOffer.__init__" sI_BadOffer I20) (no20_number : PySem.W.findIn K (.ref C20) "number" = some none)
    (a0 : PySem.W.nsIn K mainGlobals "_law_get_state" = some (some (.ref f0))) (g0 : FE K "_law_get_state" "_law_get_state" sState f0)
    (a1 : PySem.W.nsIn K mainGlobals "_law_draw" = some (some (.ref f1))) (g1 : FE K "_law_draw" "_law_draw" sDraw f1)
    (a2 : PySem.W.nsIn K mainGlobals "_law_get_words" = some (some (.ref f2))) (g2 : FE K "_law_get_words" "_law_get_words" sWords f2)
    (a3 : PySem.W.nsIn K mainGlobals "_law_family" = some (some (.ref f3))) (g3 : FE K "_law_family" "_law_family" sFamily f3)
    (a4 : PySem.W.nsIn K mainGlobals "_law_get_kin" = some (some (.ref f4))) (g4 : FE K "_law_get_kin" "_law_get_kin" sKin f4)
    (a5 : PySem.W.nsIn K mainGlobals "_law_get_numbers" = some (some (.ref f5))) (g5 : FE K "_law_get_numbers" "_law_get_numbers" sNum f5)
    (a6 : PySem.W.nsIn K mainGlobals "_law_get_others" = some (some (.ref f6))) (g6 : FE K "_law_get_others" "_law_get_others" sOth f6)
    (a7 : PySem.W.nsIn K mainGlobals "_law_caught" = some (some (.ref f7))) (g7 : FE K "_law_caught" "_law_caught" sCau f7)
    (a8 : PySem.W.nsIn K mainGlobals "law" = some (some (.ref f8))) (g8 : FE K "law" "law" sLaw f8)
    (z_int : PySem.W.nsIn K mainGlobals "int" = some none)
    (z_abs : PySem.W.nsIn K mainGlobals "abs" = some none)
    (z_range : PySem.W.nsIn K mainGlobals "range" = some none)
    (z_len : PySem.W.nsIn K mainGlobals "len" = some none)
    (z_list : PySem.W.nsIn K mainGlobals "list" = some none)
    (z_isinstance : PySem.W.nsIn K mainGlobals "isinstance" = some none)
    (z_ValueError : PySem.W.nsIn K mainGlobals "ValueError" = some none)
    : ∃ fd : FuncData, (∀ (s : Shared) (v : Value), BindsTo s fd ⟨[v], []⟩ [("script", v)]) ∧ ∀ base : Heap, K.In base → base.Ns mainGlobals mg → FnOk l.prog w K mg base CX0 4 fa fd ["script"] (spLaw K) := by
  have e := hfa.symm.trans (PySem.W.mg_of X G a8)
  cases e
  have hl : ([C0, C1, C2, C3, C4, C5, C6, C7, C8, C9, C10, C11, C12, C13, C14, C15, C16, C17, C18, C19, C20] : List Addr).length = 21 := rfl
  have hA : ∀ d, d < 21 → at21 [C0, C1, C2, C3, C4, C5, C6, C7, C8, C9, C10, C11, C12, C13, C14, C15, C16, C17, C18, C19, C20] d ≠ A := fun d hd z => (List.nodup_cons.mp nd).1 (by rw [← z]; exact at21_mem hl hd)
  have hN := (List.nodup_cons.mp nd).2
  have c0 := cf C0 (by simp)
  have c1 := cf C1 (by simp)
  have c2 := cf C2 (by simp)
  have c3 := cf C3 (by simp)
  have c4 := cf C4 (by simp)
  have c5 := cf C5 (by simp)
  have c6 := cf C6 (by simp)
  have c7 := cf C7 (by simp)
  have c8 := cf C8 (by simp)
  have c9 := cf C9 (by simp)
  have c10 := cf C10 (by simp)
  have c11 := cf C11 (by simp)
  have c12 := cf C12 (by simp)
  have c13 := cf C13 (by simp)
  have c14 := cf C14 (by simp)
  have c15 := cf C15 (by simp)
  have c16 := cf C16 (by simp)
  have c17 := cf C17 (by simp)
  have c18 := cf C18 (by simp)
  have c19 := cf C19 (by simp)
  have c20 := cf C20 (by simp)
  let fi : Nat → Addr := at21 [I0, I1, I2, I3, I4, I5, I6, I7, 0, 0, I10, I11, I12, I13, 0, I15, I16, 0, I18, 0, I20]
  have TX : TXX K mg A (at21 [C0, C1, C2, C3, C4, C5, C6, C7, C8, C9, C10, C11, C12, C13, C14, C15, C16, C17, C18, C19, C20]) fi :=
    { exc := fun d hd => (cf _ (at21_mem hl hd)).exc hn ht
      kit := fun d i hd hi => by
        rw [(cf _ (at21_mem hl hd)).kit (cf _ (at21_mem hl hi)) (hA i hi)]
        by_cases z : d = i
        · subst z; simp
        · rw [decide_eq_false z, decide_eq_false fun q => z (at21_inj hl hN hd hi q)]
      kitA := fun d hd => (cf _ (at21_mem hl hd)).kitA (hA d hd) cA tA
      kitV := fun d hd => (cf _ (at21_mem hl hd)).kitV
      exmA := fun d hd => (cf _ (at21_mem hl hd)).exmA (hA d hd) cA tA bA
      g_AgreeError := PySem.W.mg_of X G aA
      g_BadLine := PySem.W.mg_of X G aC0
      o_BadLine := c0.oex
      i_BadLine := i0
      t_BadLine := t0
      no_BadLine_line := no0_line
      g_DuplicateName := PySem.W.mg_of X G aC1
      o_DuplicateName := c1.oex
      i_DuplicateName := i1
      t_DuplicateName := t1
      no_DuplicateName_line := no1_line
      no_DuplicateName_name := no1_name
      g_UnknownName := PySem.W.mg_of X G aC2
      o_UnknownName := c2.oex
      i_UnknownName := i2
      t_UnknownName := t2
      no_UnknownName_line := no2_line
      no_UnknownName_name := no2_name
      g_WrongTable := PySem.W.mg_of X G aC3
      o_WrongTable := c3.oex
      i_WrongTable := i3
      t_WrongTable := t3
      no_WrongTable_line := no3_line
      no_WrongTable_name := no3_name
      g_WrongCount := PySem.W.mg_of X G aC4
      o_WrongCount := c4.oex
      i_WrongCount := i4
      t_WrongCount := t4
      no_WrongCount_line := no4_line
      g_TooMany := PySem.W.mg_of X G aC5
      o_TooMany := c5.oex
      i_TooMany := i5
      t_TooMany := t5
      no_TooMany_line := no5_line
      g_BadPattern := PySem.W.mg_of X G aC6
      o_BadPattern := c6.oex
      i_BadPattern := i6
      t_BadPattern := t6
      no_BadPattern_place := no6_place
      g_ConstantsMeet := PySem.W.mg_of X G aC7
      o_ConstantsMeet := c7.oex
      i_ConstantsMeet := i7
      t_ConstantsMeet := t7
      no_ConstantsMeet_first := no7_first
      no_ConstantsMeet_second := no7_second
      g_OtherPlaces := PySem.W.mg_of X G aC8
      k_OtherPlaces := c8.kp
      e_OtherPlaces := x8
      g_OtherSchema := PySem.W.mg_of X G aC9
      k_OtherSchema := c9.kp
      e_OtherSchema := x9
      g_BadValue := PySem.W.mg_of X G aC10
      o_BadValue := c10.oex
      i_BadValue := i10
      t_BadValue := t10
      no_BadValue_value := no10_value
      g_NoRow := PySem.W.mg_of X G aC11
      o_NoRow := c11.oex
      i_NoRow := i11
      t_NoRow := t11
      no_NoRow_table := no11_table
      no_NoRow_number := no11_number
      g_Refused := PySem.W.mg_of X G aC12
      o_Refused := c12.oex
      i_Refused := i12
      t_Refused := t12
      no_Refused_handler := no12_handler
      no_Refused_guard := no12_guard
      no_Refused_agreement := no12_agreement
      no_Refused_number := no12_number
      g_Broken := PySem.W.mg_of X G aC13
      o_Broken := c13.oex
      i_Broken := i13
      t_Broken := t13
      no_Broken_agreement := no13_agreement
      no_Broken_number := no13_number
      g_BadCase := PySem.W.mg_of X G aC14
      k_BadCase := c14.kp
      e_BadCase := x14
      g_TooManyPatterns := PySem.W.mg_of X G aC15
      o_TooManyPatterns := c15.oex
      i_TooManyPatterns := i15
      t_TooManyPatterns := t15
      no_TooManyPatterns_table := no15_table
      g_BadDerivation := PySem.W.mg_of X G aC16
      o_BadDerivation := c16.oex
      i_BadDerivation := i16
      t_BadDerivation := t16
      no_BadDerivation_line := no16_line
      g_NotReachable := PySem.W.mg_of X G aC17
      k_NotReachable := c17.kp
      e_NotReachable := x17
      g_TooLong := PySem.W.mg_of X G aC18
      o_TooLong := c18.oex
      i_TooLong := i18
      t_TooLong := t18
      no_TooLong_size := no18_size
      g_NotComparable := PySem.W.mg_of X G aC19
      k_NotComparable := c19.kp
      e_NotComparable := x19
      g_BadOffer := PySem.W.mg_of X G aC20
      o_BadOffer := c20.oex
      i_BadOffer := i20
      t_BadOffer := t20
      no_BadOffer_number := no20_number }
  obtain ⟨d0, F0⟩ := e0.fn
  obtain ⟨d1, F1⟩ := e1.fn
  obtain ⟨d2, F2⟩ := e2.fn
  obtain ⟨d3, F3⟩ := e3.fn
  obtain ⟨d4, F4⟩ := e4.fn
  obtain ⟨d5, F5⟩ := e5.fn
  obtain ⟨d6, F6⟩ := e6.fn
  obtain ⟨d7, F7⟩ := e7.fn
  obtain ⟨d10, F10⟩ := e10.fn
  obtain ⟨d11, F11⟩ := e11.fn
  obtain ⟨d12, F12⟩ := e12.fn
  obtain ⟨d13, F13⟩ := e13.fn
  obtain ⟨d15, F15⟩ := e15.fn
  obtain ⟨d16, F16⟩ := e16.fn
  obtain ⟨d18, F18⟩ := e18.fn
  obtain ⟨d20, F20⟩ := e20.fn
  obtain ⟨u0, U0⟩ := g0.fn
  obtain ⟨u1, U1⟩ := g1.fn
  obtain ⟨u2, U2⟩ := g2.fn
  obtain ⟨u3, U3⟩ := g3.fn
  obtain ⟨u4, U4⟩ := g4.fn
  obtain ⟨u5, U5⟩ := g5.fn
  obtain ⟨u6, U6⟩ := g6.fn
  obtain ⟨u7, U7⟩ := g7.fn
  obtain ⟨u8, U8⟩ := g8.fn
  have b0 := F0.binds (ps := ["self", "line"]) fun _ _ _ _ _ _ us hl => match us, hl with | [_, _], _ => rfl
  have b1 := F1.binds (ps := ["self", "line", "name"]) fun _ _ _ _ _ _ us hl => match us, hl with | [_, _, _], _ => rfl
  have b2 := F2.binds (ps := ["self", "line", "name"]) fun _ _ _ _ _ _ us hl => match us, hl with | [_, _, _], _ => rfl
  have b3 := F3.binds (ps := ["self", "line", "name"]) fun _ _ _ _ _ _ us hl => match us, hl with | [_, _, _], _ => rfl
  have b4 := F4.binds (ps := ["self", "line"]) fun _ _ _ _ _ _ us hl => match us, hl with | [_, _], _ => rfl
  have b5 := F5.binds (ps := ["self", "line"]) fun _ _ _ _ _ _ us hl => match us, hl with | [_, _], _ => rfl
  have b6 := F6.binds (ps := ["self", "place"]) fun _ _ _ _ _ _ us hl => match us, hl with | [_, _], _ => rfl
  have b7 := F7.binds (ps := ["self", "first", "second"]) fun _ _ _ _ _ _ us hl => match us, hl with | [_, _, _], _ => rfl
  have b10 := F10.binds (ps := ["self", "value"]) fun _ _ _ _ _ _ us hl => match us, hl with | [_, _], _ => rfl
  have b11 := F11.binds (ps := ["self", "table", "number"]) fun _ _ _ _ _ _ us hl => match us, hl with | [_, _, _], _ => rfl
  have b13 := F13.binds (ps := ["self", "agreement", "number"]) fun _ _ _ _ _ _ us hl => match us, hl with | [_, _, _], _ => rfl
  have b15 := F15.binds (ps := ["self", "table"]) fun _ _ _ _ _ _ us hl => match us, hl with | [_, _], _ => rfl
  have b16 := F16.binds (ps := ["self", "line"]) fun _ _ _ _ _ _ us hl => match us, hl with | [_, _], _ => rfl
  have b18 := F18.binds (ps := ["self", "size"]) fun _ _ _ _ _ _ us hl => match us, hl with | [_, _], _ => rfl
  have b20 := F20.binds (ps := ["self", "number"]) fun _ _ _ _ _ _ us hl => match us, hl with | [_, _], _ => rfl
  have b12 : Binds K d12 ["self", "handler", "guard", "agreement", "number"] [] := by
    obtain ⟨ds, r, b⟩ := F12.binds1 (ps := ["self", "handler", "guard", "agreement", "number"]) 5 2 (by simp) rfl (fun T kV doc pm an cdv ct us its h1 h2 => match us, its, h1, h2 with | [_, _, _, _, _], [_, _], _, _ => ⟨_, rfl, rfl⟩)
    cases r
    exact b
  have b12' : Binds K d12 ["self", "handler", "guard", "agreement", "number"] [.none, .none] := by
    obtain ⟨ds, r, b⟩ := F12.binds1 (ps := ["self", "handler", "guard", "agreement", "number"]) 3 0 (by simp) rfl (fun T kV doc pm an cdv ct us its h1 h2 => match us, its, h1, h2 with | [_, _, _], [_, _], _, _ => ⟨_, rfl, rfl⟩)
    have := vals_non (n := 2) r
    subst this
    exact b
  let fdI : Nat → FuncData := fun k => ([d0, d1, d2, d3, d4, d5, d6, d7, d0, d0, d10, d11, d12, d13, d0, d15, d16, d0, d18, d0, d20] : List FuncData).getD k d0
  have M0 : TM K mg "_law_get_state" ["script"] f0 u0 := ⟨PySem.W.mg_of X G a0, U0.kp, U0.binds (ps := ["script"]) fun _ _ _ _ _ _ us hl => match us, hl with | [_], _ => rfl⟩
  have M1 : TM K mg "_law_draw" ["st", "limit"] f1 u1 := ⟨PySem.W.mg_of X G a1, U1.kp, U1.binds (ps := ["st", "limit"]) fun _ _ _ _ _ _ us hl => match us, hl with | [_, _], _ => rfl⟩
  have M2 : TM K mg "_law_get_words" ["st", "most", "count"] f2 u2 := ⟨PySem.W.mg_of X G a2, U2.kp, U2.binds (ps := ["st", "most", "count"]) fun _ _ _ _ _ _ us hl => match us, hl with | [_, _, _], _ => rfl⟩
  have M3 : TM K mg "_law_family" ["error"] f3 u3 := ⟨PySem.W.mg_of X G a3, U3.kp, U3.binds (ps := ["error"]) fun _ _ _ _ _ _ us hl => match us, hl with | [_], _ => rfl⟩
  have M4 : TM K mg "_law_get_kin" ["error", "place"] f4 u4 := ⟨PySem.W.mg_of X G a4, U4.kp, U4.binds (ps := ["error", "place"]) fun _ _ _ _ _ _ us hl => match us, hl with | [_, _], _ => rfl⟩
  have M5 : TM K mg "_law_get_numbers" ["number", "word"] f5 u5 := ⟨PySem.W.mg_of X G a5, U5.kp, U5.binds (ps := ["number", "word"]) fun _ _ _ _ _ _ us hl => match us, hl with | [_, _], _ => rfl⟩
  have M6 : TM K mg "_law_get_others" ["number", "word", "other", "agreement"] f6 u6 := ⟨PySem.W.mg_of X G a6, U6.kp, U6.binds (ps := ["number", "word", "other", "agreement"]) fun _ _ _ _ _ _ us hl => match us, hl with | [_, _, _, _], _ => rfl⟩
  have M7 : TM K mg "_law_caught" ["number"] f7 u7 := ⟨PySem.W.mg_of X G a7, U7.kp, U7.binds (ps := ["number"]) fun _ _ _ _ _ _ us hl => match us, hl with | [_], _ => rfl⟩
  have D : TD mg := ⟨PySem.W.mg_none_of X G z_int, PySem.W.mg_none_of X G z_abs, PySem.W.mg_none_of X G z_range, PySem.W.mg_none_of X G z_len, PySem.W.mg_none_of X G z_list⟩
  have T : TL mg := ⟨D, PySem.W.mg_none_of X G z_isinstance, PySem.W.mg_none_of X G z_range, PySem.W.mg_none_of X G z_ValueError⟩
  obtain ⟨⟨oc, od, kV, doc, pm, an, cdv, ct, osl, lk, ck⟩, kp⟩ := g8
  refine ⟨PySem.W.fnOf "law" "law" (defArgs sLaw) (defBody sLaw) (defScope sLaw) .none kV doc pm an cdv ct, fun s v => .of_eq rfl, fun base _ _ => ?_⟩
  have TI : TII l.prog w K mg base (at21 [C0, C1, C2, C3, C4, C5, C6, C7, C8, C9, C10, C11, C12, C13, C14, C15, C16, C17, C18, C19, C20]) fi fdI :=
    { I_BadLine := ok_I_BadLine F0 c0.oex no0_line
      b_BadLine := b0
      I_DuplicateName := ok_I_DuplicateName F1 c1.oex no1_line no1_name
      b_DuplicateName := b1
      I_UnknownName := ok_I_UnknownName F2 c2.oex no2_line no2_name
      b_UnknownName := b2
      I_WrongTable := ok_I_WrongTable F3 c3.oex no3_line no3_name
      b_WrongTable := b3
      I_WrongCount := ok_I_WrongCount F4 c4.oex no4_line
      b_WrongCount := b4
      I_TooMany := ok_I_TooMany F5 c5.oex no5_line
      b_TooMany := b5
      I_BadPattern := ok_I_BadPattern F6 c6.oex no6_place
      b_BadPattern := b6
      I_ConstantsMeet := ok_I_ConstantsMeet F7 c7.oex no7_first no7_second
      b_ConstantsMeet := b7
      I_BadValue := ok_I_BadValue F10 c10.oex no10_value
      b_BadValue := b10
      I_NoRow := ok_I_NoRow F11 c11.oex no11_table no11_number
      b_NoRow := b11
      I_Refused := ok_I_Refused F12 c12.oex no12_handler no12_guard no12_agreement no12_number
      b_Refused := b12
      I_Broken := ok_I_Broken F13 c13.oex no13_agreement no13_number
      b_Broken := b13
      I_TooManyPatterns := ok_I_TooManyPatterns F15 c15.oex no15_table
      b_TooManyPatterns := b15
      I_BadDerivation := ok_I_BadDerivation F16 c16.oex no16_line
      b_BadDerivation := b16
      I_TooLong := ok_I_TooLong F18 c18.oex no18_size
      b_TooLong := b18
      I_BadOffer := ok_I_BadOffer F20 c20.oex no20_number
      b_BadOffer := b20
      b_Refused_2 := b12' }
  have gS := ok_state (P := l.prog) (w := w) (base := base) U0 D
  have gD := ok_draw (P := l.prog) (w := w) (base := base) U1 D
  have gW := ok_words (P := l.prog) (w := w) (base := base) U2 D gD M1.m M1.k M1.b
  have gF := ok_fam (P := l.prog) (w := w) (base := base) U3 T TX
  have gK := ok_kin (P := l.prog) (w := w) (base := base) U4 T TX gF M3.m M3.k M3.b
  have TK : TKin K mg f4 u4 := ⟨M4.m, M4.k, M4.b⟩
  have gN := ok_num U5 T TX TI gK TK
  have gO := ok_oth U6 T TX TI gK TK
  have gC := ok_cau U7 T TX TI
  exact ok_law (fun_mk lk ck kp) T TX gS M0 gD M1 gW M2 gN M5 gC M7 gO M6
end
theorem walk {l : PySem.W.OpenLaw} {q : Program} {loose : List Str} {XP : (Str → Option Value) → Heap → Prop} {YP : World → Heap → Prop} {d : DefRec} {K : Params → PySem.W.Frag} (hn : l.most = some 63) (hdf : d.params.defaults = [])
    (hY : ∀ (w : World) (h : Heap), YP w h → (K w.params).In h)
    (F : ∀ (w : World) (mg : Str → Option Value) (fa : Addr) (h : Heap), (K w.params).In h → h.Ns mainGlobals mg → mg d.name = some (.ref fa) →
      ∃ fd : FuncData, (∀ (s : Shared) (u : Value), BindsTo s fd ⟨[u], []⟩ [("script", u)]) ∧ ∀ base : Heap, (K w.params).In base → base.Ns mainGlobals mg → FnOk l.prog w (K w.params) mg base CX0 4 fa fd ["script"] (spLaw (K w.params))) :
    PySem.W.WalkO q loose XP YP l.row.toRowW d [] (fun f vs => PySem.call f vs) :=
  L2.walk_of (n := 63) (k := 4) (x := "script") (CX := fun _ => CX0) (sp := fun w => spLaw (K w.params)) hn (by decide) hdf ⟨rfl, by decide, by decide⟩ hY F (fun _ _ a ns hl _ hS => ⟨a, ns, rfl, hS, hl, fun _ => rfl⟩) fun _ _ _ _ _ z => z
end My


open PySem PySem.W PyProof.Rows in
set_option maxRecDepth 100000 in
set_option maxHeartbeats 0 in
theorem PySem.Challenge.cw_ownersagree_k01_errors_made_holds : PySem.Challenge.rw_ownersagree_k01_errors_made.Holds := by
  w_on; o_law; k_head; (case hw => w_witness2)
  k_fill
  refine My.walk (l := PySem.Challenge.rw_ownersagree_k01_errors_made) rfl rfl (fun w h Y => PySem.W.kIn_of Y) ?F
  case F =>
    intro w mg fa h KX G hmg
    refine' My.all_mk KX G hmg ?aA ?cA ?tA ?bA ?aC0 ?aC1 ?aC2 ?aC3 ?aC4 ?aC5 ?aC6 ?aC7 ?aC8 ?aC9 ?aC10 ?aC11 ?aC12 ?aC13 ?aC14 ?aC15 ?aC16 ?aC17 ?aC18 ?aC19 ?aC20 ?nd ?cf ?hn ?ht ?i0 ?t0 ?e0 ?no0_line ?i1 ?t1 ?e1 ?no1_line ?no1_name ?i2 ?t2 ?e2 ?no2_line ?no2_name ?i3 ?t3 ?e3 ?no3_line ?no3_name ?i4 ?t4 ?e4 ?no4_line ?i5 ?t5 ?e5 ?no5_line ?i6 ?t6 ?e6 ?no6_place ?i7 ?t7 ?e7 ?no7_first ?no7_second ?x8 ?x9 ?i10 ?t10 ?e10 ?no10_value ?i11 ?t11 ?e11 ?no11_table ?no11_number ?i12 ?t12 ?e12 ?no12_handler ?no12_guard ?no12_agreement ?no12_number ?i13 ?t13 ?e13 ?no13_agreement ?no13_number ?x14 ?i15 ?t15 ?e15 ?no15_table ?i16 ?t16 ?e16 ?no16_line ?x17 ?i18 ?t18 ?e18 ?no18_size ?x19 ?i20 ?t20 ?e20 ?no20_number ?a0 ?fe0 ?a1 ?fe1 ?a2 ?fe2 ?a3 ?fe3 ?a4 ?fe4 ?a5 ?fe5 ?a6 ?fe6 ?a7 ?fe7 ?a8 ?fe8 ?z_int ?z_abs ?z_range ?z_len ?z_list ?z_isinstance ?z_ValueError
    (case aA => k_is)
    (case aC0 => k_is)
    (case aC1 => k_is)
    (case aC2 => k_is)
    (case aC3 => k_is)
    (case aC4 => k_is)
    (case aC5 => k_is)
    (case aC6 => k_is)
    (case aC7 => k_is)
    (case aC8 => k_is)
    (case aC9 => k_is)
    (case aC10 => k_is)
    (case aC11 => k_is)
    (case aC12 => k_is)
    (case aC13 => k_is)
    (case aC14 => k_is)
    (case aC15 => k_is)
    (case aC16 => k_is)
    (case aC17 => k_is)
    (case aC18 => k_is)
    (case aC19 => k_is)
    (case aC20 => k_is)
    (case cA => k_is)
    (case tA => k_is)
    (case bA => k_is)
    (case nd => decide)
    (case hn => k_is)
    (case ht => k_is)
    (case cf =>
      refine' List.forall_mem_cons.mpr ⟨?q0, List.forall_mem_cons.mpr ⟨?q1, List.forall_mem_cons.mpr ⟨?q2, List.forall_mem_cons.mpr ⟨?q3, List.forall_mem_cons.mpr ⟨?q4, List.forall_mem_cons.mpr ⟨?q5, List.forall_mem_cons.mpr ⟨?q6, List.forall_mem_cons.mpr ⟨?q7, List.forall_mem_cons.mpr ⟨?q8, List.forall_mem_cons.mpr ⟨?q9, List.forall_mem_cons.mpr ⟨?q10, List.forall_mem_cons.mpr ⟨?q11, List.forall_mem_cons.mpr ⟨?q12, List.forall_mem_cons.mpr ⟨?q13, List.forall_mem_cons.mpr ⟨?q14, List.forall_mem_cons.mpr ⟨?q15, List.forall_mem_cons.mpr ⟨?q16, List.forall_mem_cons.mpr ⟨?q17, List.forall_mem_cons.mpr ⟨?q18, List.forall_mem_cons.mpr ⟨?q19, List.forall_mem_cons.mpr ⟨?q20, fun _ h => absurd h List.not_mem_nil⟩⟩⟩⟩⟩⟩⟩⟩⟩⟩⟩⟩⟩⟩⟩⟩⟩⟩⟩⟩⟩
      all_goals (refine' My.CF.of ?l ?a ?b ?c ?d ?e ?f; (case l => k_is); (case a => k_is); (case b => k_is); (case c => k_is); (case d => k_is); (case e => k_is); (case f => k_is)))
    (case i0 => k_is)
    (case t0 => k_is)
    (case e0 => refine' My.FE.of ?l ?c ?k; (case l => k_is); (case c => k_is); (case k => k_is))
    (case no0_line => k_is)
    (case i1 => k_is)
    (case t1 => k_is)
    (case e1 => refine' My.FE.of ?l ?c ?k; (case l => k_is); (case c => k_is); (case k => k_is))
    (case no1_line => k_is)
    (case no1_name => k_is)
    (case i2 => k_is)
    (case t2 => k_is)
    (case e2 => refine' My.FE.of ?l ?c ?k; (case l => k_is); (case c => k_is); (case k => k_is))
    (case no2_line => k_is)
    (case no2_name => k_is)
    (case i3 => k_is)
    (case t3 => k_is)
    (case e3 => refine' My.FE.of ?l ?c ?k; (case l => k_is); (case c => k_is); (case k => k_is))
    (case no3_line => k_is)
    (case no3_name => k_is)
    (case i4 => k_is)
    (case t4 => k_is)
    (case e4 => refine' My.FE.of ?l ?c ?k; (case l => k_is); (case c => k_is); (case k => k_is))
    (case no4_line => k_is)
    (case i5 => k_is)
    (case t5 => k_is)
    (case e5 => refine' My.FE.of ?l ?c ?k; (case l => k_is); (case c => k_is); (case k => k_is))
    (case no5_line => k_is)
    (case i6 => k_is)
    (case t6 => k_is)
    (case e6 => refine' My.FE.of ?l ?c ?k; (case l => k_is); (case c => k_is); (case k => k_is))
    (case no6_place => k_is)
    (case i7 => k_is)
    (case t7 => k_is)
    (case e7 => refine' My.FE.of ?l ?c ?k; (case l => k_is); (case c => k_is); (case k => k_is))
    (case no7_first => k_is)
    (case no7_second => k_is)
    (case x8 => k_exc)
    (case x9 => k_exc)
    (case i10 => k_is)
    (case t10 => k_is)
    (case e10 => refine' My.FE.of ?l ?c ?k; (case l => k_is); (case c => k_is); (case k => k_is))
    (case no10_value => k_is)
    (case i11 => k_is)
    (case t11 => k_is)
    (case e11 => refine' My.FE.of ?l ?c ?k; (case l => k_is); (case c => k_is); (case k => k_is))
    (case no11_table => k_is)
    (case no11_number => k_is)
    (case i12 => k_is)
    (case t12 => k_is)
    (case e12 => refine' My.FE2.of ?l ?c ?m ?k; (case l => k_is); (case c => k_is); (case m => k_is); (case k => k_is))
    (case no12_handler => k_is)
    (case no12_guard => k_is)
    (case no12_agreement => k_is)
    (case no12_number => k_is)
    (case i13 => k_is)
    (case t13 => k_is)
    (case e13 => refine' My.FE.of ?l ?c ?k; (case l => k_is); (case c => k_is); (case k => k_is))
    (case no13_agreement => k_is)
    (case no13_number => k_is)
    (case x14 => k_exc)
    (case i15 => k_is)
    (case t15 => k_is)
    (case e15 => refine' My.FE.of ?l ?c ?k; (case l => k_is); (case c => k_is); (case k => k_is))
    (case no15_table => k_is)
    (case i16 => k_is)
    (case t16 => k_is)
    (case e16 => refine' My.FE.of ?l ?c ?k; (case l => k_is); (case c => k_is); (case k => k_is))
    (case no16_line => k_is)
    (case x17 => k_exc)
    (case i18 => k_is)
    (case t18 => k_is)
    (case e18 => refine' My.FE.of ?l ?c ?k; (case l => k_is); (case c => k_is); (case k => k_is))
    (case no18_size => k_is)
    (case x19 => k_exc)
    (case i20 => k_is)
    (case t20 => k_is)
    (case e20 => refine' My.FE.of ?l ?c ?k; (case l => k_is); (case c => k_is); (case k => k_is))
    (case no20_number => k_is)
    (case a0 => k_is)
    (case fe0 => refine' My.FE.of ?l ?c ?k; (case l => k_is); (case c => k_is); (case k => k_is))
    (case a1 => k_is)
    (case fe1 => refine' My.FE.of ?l ?c ?k; (case l => k_is); (case c => k_is); (case k => k_is))
    (case a2 => k_is)
    (case fe2 => refine' My.FE.of ?l ?c ?k; (case l => k_is); (case c => k_is); (case k => k_is))
    (case a3 => k_is)
    (case fe3 => refine' My.FE.of ?l ?c ?k; (case l => k_is); (case c => k_is); (case k => k_is))
    (case a4 => k_is)
    (case fe4 => refine' My.FE.of ?l ?c ?k; (case l => k_is); (case c => k_is); (case k => k_is))
    (case a5 => k_is)
    (case fe5 => refine' My.FE.of ?l ?c ?k; (case l => k_is); (case c => k_is); (case k => k_is))
    (case a6 => k_is)
    (case fe6 => refine' My.FE.of ?l ?c ?k; (case l => k_is); (case c => k_is); (case k => k_is))
    (case a7 => k_is)
    (case fe7 => refine' My.FE.of ?l ?c ?k; (case l => k_is); (case c => k_is); (case k => k_is))
    (case a8 => k_is)
    (case fe8 => refine' My.FE.of ?l ?c ?k; (case l => k_is); (case c => k_is); (case k => k_is))
    (case z_int => k_is)
    (case z_abs => k_is)
    (case z_range => k_is)
    (case z_len => k_is)
    (case z_list => k_is)
    (case z_isinstance => k_is)
    (case z_ValueError => k_is)

