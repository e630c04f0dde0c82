import PyProof.Rows.All
import Wide.All
import OpenK.AllK
import Wide.FinOn
import PyProof.StrOps2
import HandS.ForMost
import HandS.ForExc
import HandS.SetKeys
import HandS.DictComp
import HandS.ExcInit
import HandS.IsInst
import HandS.Wide
import HandS.Evl
import OpenK.KEqL
import HandS.Walk
import HandS.Dict
import HandS.WordsDict
import KE.KCallOwn
import HandS.OwnEq
import KE.KDictList
import PySem.Challenge.RW_ownersagree_k09_patterns_made
set_option Elab.async false
set_option linter.all false
set_option maxRecDepth 100000
set_option maxHeartbeats 4000000
namespace My
open PySem PySem.Spec PyProof.Rows L2
section
variable {X : Cx}
theorem op_powB : OpR X (binaryOp .Pow) (rI (fun i j => 0 ≤ j ∧ (Builtin.Int.intBits i : Int) * j ≤ 2 ^ 27) fun i j => .int (i ^ j.toNat)) := opI fun _ _ _ _ _ _ _ hc q => pow_int hc.1 hc.2 q
/-- a text, n times -/
def repS (x : Str) (n : Nat) : Str := ⟨(List.replicate n x.cps.toList).flatten.toArray⟩
theorem foldl_arr : ∀ (n : Nat) (a b : Array Nat), (List.replicate n a).foldl (· ++ ·) b = b ++ (List.replicate n a.toList).flatten.toArray
  | 0, a, b => by simp
  | n + 1, a, b => by
    rw [List.replicate_succ, List.foldl_cons, foldl_arr n a (b ++ a)]
    apply Array.ext'; simp [List.replicate_succ]
theorem len_rep {α : Type} : ∀ (n : Nat) (l : List α), (List.replicate n l).flatten.length = n * l.length
  | 0, l => by simp
  | n + 1, l => by rw [List.replicate_succ, List.flatten_cons, List.length_append, len_rep n l, Nat.succ_mul, Nat.add_comm]
theorem op_mulS : OpR X (binaryOp .Mult) (fun x y H Q => ∃ z n, x = .str z ∧ y = .int n ∧ 0 ≤ n ∧ n ≤ 1000 ∧ z.length ≤ 1000 ∧ Q (.str (repS z n.toNat)) H) := by
  intro pins s σ H x y v u Q I rx ry h
  obtain ⟨z, n, rfl, rfl, h0, h1, hz, q⟩ := h
  obtain ⟨t, rfl⟩ := rx
  obtain ⟨t', rfl⟩ := ry
  have fin : ∀ (w : Str) (tk : Tok) , w = repS z n.toNat → ∀ k, EP X pins σ Q (.str w tk) { s with toks := k } := fun w tk e k => ⟨.str (repS z n.toNat), H, I.tok _, ⟨tk, by rw [e]⟩, q⟩
  refine PySem.P.mul_str ?_ ?_ ?_ ?_
  · have a : ¬ n < -(2 ^ 63 : Int) := by omega
    have b : ¬ n ≥ 2 ^ 63 := by omega
    rw [decide_eq_false a, decide_eq_false b]; rfl
  · intro a _
    have : (z.length : Int) ≤ 1000 := by omega
    have h5 : (1000 : Int) ≤ (2 ^ 63 - 1) / n := (Int.le_ediv_iff_mul_le (by omega)).mpr (by omega)
    omega
  · intro a b
    have hz2 : z.length * n.toNat ≤ 1000 * 1000 := Nat.mul_le_mul hz (by omega)
    show decide (z.length * n.toNat > sizeLine) = false
    rw [sizeLine_eq]
    exact decide_eq_false (by omega)
  · by_cases a : n < 1
    · have e : n = 0 := by omega
      subst e
      rw [if_pos a]
      exact ⟨by decide, fin _ _ (by rfl) _⟩
    · rw [if_neg a]
      by_cases b : (n == 1 || z.length == 0) = true
      · rw [if_pos b]
        refine fin _ _ ?_ s.toks
        rcases Bool.or_eq_true _ _ ▸ b with e | e
        · have e : n = 1 := by simpa using e
          subst e
          show z = ⟨_⟩
          cases z; simp [repS]
        · have e : z.cps.size = 0 := by simpa [Str.length] using e
          have e2 : z.cps = #[] := Array.eq_empty_of_size_eq_zero e
          unfold repS
          rw [e2]
          cases z
          simp at e2
          simp [e2]
      · rw [if_neg b]
        refine ⟨?_, fin _ _ ?_ _⟩
        · have hz2 : z.length * n.toNat ≤ 1000 * 1000 := Nat.mul_le_mul hz (by omega)
          show Array.size _ ≤ sizeLine
          rw [foldl_arr, sizeLine_eq]
          have e : (#[] ++ (List.replicate n.toNat z.cps.toList).flatten.toArray).size = n.toNat * z.length := by
            rw [Array.size_append]
            simp only [List.size_toArray, len_rep]
            simp [Str.length]
          rw [e, Nat.mul_comm]
          omega
        · unfold repS
          rw [foldl_arr]
          simp
end
end My
namespace My
open PySem PySem.Spec PyProof.Rows L2
/-- what holds ahead of the rest of a block -/
theorem seq_cut {t u : TS} {D : Ends} {σ : L2.St} {H : Hp} (J : L2.St → Hp → Prop) (hu : ∀ σ H, J σ H → u D σ H) (ht : (∀ σ H, J σ H → u D σ H) → tSeq t u D σ H) : tSeq t u D σ H := ht hu
theorem atI_n {α : Type} {xs : List α} {i : Int} {j : Nat} {v : α} (e : i = (j : Int)) (h : xs[j]? = some v) : atI xs i = some v := by rw [e]; exact atI_nat h
theorem ixN_n {n : Nat} {i : Int} {j : Nat} (e : i = (j : Int)) (h : j < n) : ixN n i = some j := by
  unfold ixN
  rw [e, if_pos (by omega), if_pos (by omega)]
  simp
theorem fmod_rng {a b : Int} (h : 0 < b) : 0 ≤ a.fmod b ∧ a.fmod b < b := ⟨Int.fmod_nonneg_of_pos a h, Int.fmod_lt_of_pos a h⟩
end My

namespace My
open PySem PySem.Spec PyProof.Rows L2 Evl
section
variable {K : PySem.W.Frag} {H : Hp}
mutual
theorem dp_ex {H1 : Hp} (e : Ex H H1) : ∀ {d : PyData} {v : V}, Dp K H v d → Dp K H1 v d
  | _, _, .non => .non
  | _, _, .bl b => .bl b
  | _, _, .int i => .int i
  | _, _, .str x => .str x
  | _, _, .lst h a => .lst (ex_l e h) (dpa_ex e a)
  | _, _, .tup h a => .tup (ex_t e h) (dpa_ex e a)
theorem dpa_ex {H1 : Hp} (e : Ex H H1) : ∀ {ds : List PyData} {vs : List V}, DpAll K H vs ds → DpAll K H1 vs ds
  | _, _, .nil => .nil
  | _, _, .cons h a => .cons (dp_ex e h) (dpa_ex e a)
end
theorem rv_eqD {x y : V} {d e : PyData} {b : Bool} (h1 : Dp K H x d) (h2 : Dp K H y e) (s1 : SeqAt.shaped d = true) (s2 : SeqAt.shaped e = true) (hb : PyData.eqv d e = b) : RV (rEqD K) x y H (.bl b) :=
  fun H1 a _ q => ⟨d, e, dp_ex a h1, dp_ex a h2, s1, s2, by rw [hb]; exact q H1 (Ex.refl H1)⟩
theorem rv_neD {x y : V} {d e : PyData} {b : Bool} (h1 : Dp K H x d) (h2 : Dp K H y e) (s1 : SeqAt.shaped d = true) (s2 : SeqAt.shaped e = true) (hb : (!PyData.eqv d e) = b) : RV (rNeD K) x y H (.bl b) :=
  fun H1 a _ q => ⟨d, e, dp_ex a h1, dp_ex a h2, s1, s2, by rw [hb]; exact q H1 (Ex.refl H1)⟩
theorem rc_int {i : Int} : RC (fun xs H Q => (∃ i, xs = [V.int i] ∧ Q (.int i) H) ∨ ∃ k, xs = [V.bl k] ∧ Q (.int (if k then 1 else 0)) H) [.int i] H (.int i) := fun H1 _ _ q => .inl ⟨i, rfl, q H1 (Ex.refl H1)⟩
theorem rc_intB {b : Bool} : RC (fun xs H Q => (∃ i, xs = [V.int i] ∧ Q (.int i) H) ∨ ∃ k, xs = [V.bl k] ∧ Q (.int (if k then 1 else 0)) H) [.bl b] H (.int (if b then 1 else 0)) := fun H1 _ _ q => .inr ⟨b, rfl, q H1 (Ex.refl H1)⟩
theorem rc_abs {i : Int} : RC (fun xs H Q => ∃ i, xs = [V.int i] ∧ Q (.int (if i < 0 then -i else i)) H) [.int i] H (.int (if i < 0 then -i else i)) := fun H1 _ _ q => ⟨i, rfl, q H1 (Ex.refl H1)⟩
end
theorem shaped_ints (ns : List Int) : SeqAt.shaped (.list (ns.map PyData.int)) = true := PySem.W.ke_shaped_ints ns
end My
namespace My
open PySem PySem.Spec PyProof.Rows L2 Evl
section
variable {D : Ends} {σ : L2.St} {H : Hp} {t u : TS} {te ta tb : TE} {g : TG} {r : R2} {Q : VK} {v : V} {i : Nat}
theorem w_seq (h : t { D with nx := u D } σ H) : tSeq t u D σ H := h
theorem w_asg (h : te σ H fun v H1 => g v σ H1 D.nx) : tAsg te g D σ H := h
theorem w_set (h : te σ H fun v H1 => D.nx (σ.set i (some v)) H1) : tAsg te (gName i) D σ H := h
theorem q_set (h : te σ H fun v H1 => u D (σ.set i (some v)) H1) : tSeq (tAsg te (gName i)) u D σ H := h
theorem w_op (h : ta σ H fun x H1 => tb σ H1 fun y H2 => r x y H2 Q) : tOp r ta tb σ H Q := h
theorem w_ev (h : Ev te σ H v) (k : ∀ H1, Ex H H1 → Q v H1) : te σ H Q := h H (Ex.refl H) Q k
theorem w_evl {xs : List V} (h : EvL te σ H xs) (k : ∀ p H1, H p = none → Ex H H1 → H1 p = some (.lst xs) → Q (.ref p) H1) : te σ H Q := h H (Ex.refl H) Q k
theorem w_evu {xs : List V} (h : EvU te σ H xs) (k : ∀ p H1, H p = none → Ex H H1 → H1 p = some (.tup xs) → Q (.ref p) H1) : te σ H Q := h H (Ex.refl H) Q k
theorem w_eva {tl : TA} {vs : List V} {Q : List V → Hp → Prop} (h : EvA tl σ H vs) (k : ∀ H1, Ex H H1 → Q vs H1) : tl σ H Q := h H (Ex.refl H) Q k
theorem w_evt {tt : TT} {b : Bool} {Q : Bool → Hp → Prop} (h : EvT tt σ H b) (k : ∀ H1, Ex H H1 → Q b H1) : tt σ H Q := h H (Ex.refl H) Q k
theorem w_ret (h : te σ H D.rt) : tRet te D σ H := h
theorem w_drop (h : te σ H fun _ H1 => D.nx σ H1) : tDrop te D σ H := h
theorem q_drop' (h : te σ H fun _ H1 => u D σ H1) : tSeq (tDrop te) u D σ H := h
theorem w_call {sp : Sp} {dvs : List V} {E : XK} {tl : TA} (h : tl σ H fun vs H1 => sp (vs ++ dvs) H1 Q E) : tCall sp dvs E tl σ H Q := h
theorem w_cons {tl : TA} {Q : List V → Hp → Prop} (h : ta σ H fun x H1 => tl σ H1 fun xs H2 => Q (x :: xs) H2) : tCons ta tl σ H Q := h
theorem w_nil {Q : List V → Hp → Prop} (h : Q [] H) : tNil σ H Q := h
theorem w_cb {rc : List V → Hp → VK → Prop} {tl : TA} (h : tl σ H fun vs H1 => rc vs H1 Q) : tCB rc tl σ H Q := h
theorem w_ifS {c : TT} (h : c σ H fun b H1 => if b = true then t D σ H1 else u D σ H1) : tIfS c t u D σ H := h
theorem w_test {Q : Bool → Hp → Prop} (h : te σ H fun x H' => ∃ k, x = .bl k ∧ Q k H') : tTest te σ H Q := h
end
end My
namespace My
open PySem PySem.Spec PyProof.Rows L2 Evl
theorem s_norm {σ : L2.St} (σ' : L2.St) {t : TS} {D : Ends} {H : Hp} (h : σ = σ') (k : t D σ' H) : t D σ H := by rw [h]; exact k
theorem cast_mod (a b : Nat) : ((a % b : Nat) : Int) = (a : Int) % (b : Int) := by simp
end My
namespace My
open PySem PySem.Spec PyProof.Rows L2 Evl
section
variable {X : Cx}
theorem pe_cls {x : Str} {C : Addr} {pos : Pos} (hg : Gl X x) (hm : X.mg x = some (.ref C)) (hd : (x == ("__debug__" : Str)) = false := by decide) : PE X (.Name x pos) (tC (.ref C)) := pe_glob hg hm rfl hd
theorem pe_ty {x : Str} {n : String} {pos : Pos} (hg : Gl X x) (hm : X.mg x = none) (hv : bootBuiltins x = some (.type n)) (hn : x ≠ "__name__" := by decide) (hd : (x == ("__debug__" : Str)) = false := by decide) : PE X (.Name x pos) (tC (.ty n)) := pe_bltn hg hm hv rfl hn hd
end
end My
namespace My
open PySem PySem.Spec PyProof.Rows L2 Evl
/-! ### the rules with the written part named: within a comprehension it may not be read off the block's own context -/
section
variable {X : Cx}
theorem ixL (K : PySem.W.Frag) (h : X.K = K := by rfl) : IxR X (rIxL K) := by subst h; exact ix_list
theorem ixT (K : PySem.W.Frag) (h : X.K = K := by rfl) : IxR X (rIxT K) := by subst h; exact ix_tup
theorem slL (K : PySem.W.Frag) (h : X.K = K := by rfl) : SlR X (rSlL K) := by subst h; exact sl_list
theorem slT (K : PySem.W.Frag) (h : X.K = K := by rfl) : SlR X (rSlT K) := by subst h; exact sl_tup
theorem inSeq (K : PySem.W.Frag) (h : X.K = K := by rfl) : OpR X (compareOp .In) (rIn K false) := by subst h; exact op_in_seq
theorem notInSeq (K : PySem.W.Frag) (h : X.K = K := by rfl) : OpR X (compareOp .NotIn) (rIn K true) := by subst h; exact op_notIn_seq
theorem eqDK (K : PySem.W.Frag) (hu : X.A.units + 64 < cLine) (h : X.K = K := by rfl) : OpR X (compareOp .Eq) (rEqD K) := by subst h; exact op_eqD hu
theorem neDK (K : PySem.W.Frag) (hu : X.A.units + 64 < cLine) (h : X.K = K := by rfl) : OpR X (compareOp .NotEq) (rNeD K) := by subst h; exact op_neD hu
theorem lenSeq (K : PySem.W.Frag) (h : X.K = K := by rfl) : CallR X (.builtin "len") (rLenS K) := by subst h; exact call_len_seq
theorem listOf (K : PySem.W.Frag) (h : X.K = K := by rfl) : CallR X (.type "list") (rListS K) := by subst h; exact call_list_of
def rTupS (K : PySem.W.Frag) : List V → Hp → VK → Prop := fun xs H Q => ∃ p ys, xs = [.ref p] ∧ ((SqL K H p ys ∧ ∀ l, H l = none → Q (.ref l) (upd H l (.tup ys))) ∨ (SqT K H p ys ∧ Q (.ref p) H))
theorem tupOf (K : PySem.W.Frag) (h : X.K = K := by rfl) : CallR X (.type "tuple") (rTupS K) := by subst h; exact call_tuple_of
theorem allK (K : PySem.W.Frag) (hc : X.calm = true) (h : X.K = K := by rfl) : CallR X (.builtin "all") (rAll K) := by subst h; exact cr_all hc
theorem anyK (K : PySem.W.Frag) (hc : X.calm = true) (h : X.K = K := by rfl) : CallR X (.builtin "any") (rAny K) := by subst h; exact cr_any hc
theorem sortedK (K : PySem.W.Frag) (h : X.K = K := by rfl) : CallR X (.builtin "sorted") (rSortedS K) := by subst h; exact cr_sortedS
theorem isiK (K : PySem.W.Frag) (h : X.K = K := by rfl) : CallR X (.builtin "isinstance") (rIsi K) := by subst h; exact call_isi
theorem idxK (K : PySem.W.Frag) (h : X.K = K := by rfl) : MtR X "list.index" (rIndex K) := by subst h; exact mt_index
def rJoinS (K : PySem.W.Frag) : V → List V → Hp → VK → Prop := fun x xs H Q => ∃ a p, ∃ ys : List Str, x = .str a ∧ xs = [.ref p] ∧ (SqL K H p (ys.map V.str) ∨ SqT K H p (ys.map V.str)) ∧ (ys.map Str.length).sum + (ys.length - 1) * a.length ≤ 16777216 ∧ Q (.str (Txt.join a ys)) H
theorem piL (K : PySem.W.Frag) {tg l : Expr} {tl : TE} (hl : PE X l tl) (h : X.K = K := by rfl) : PI X tg l (iList K tl) := by subst h; exact pi_list hl
theorem piT (K : PySem.W.Frag) {tg l : Expr} {tl : TE} (hl : PE X l tl) (h : X.K = K := by rfl) : PI X tg l (iTup K tl) := by subst h; exact pi_tup hl
theorem fldK (K : PySem.W.Frag) {e : Expr} {f : Str} {pos : Pos} {ta : TE} (he : PE X e ta) (h : X.K = K := by rfl) (hb : attributeBase e f X.env (eval e X.env) = eval e X.env := by rfl) : PE X (.Attribute e f pos) (tFld K ta f) := by subst h; exact pe_fld he hb
theorem truK (K : PySem.W.Frag) {a : Expr} {ta : TE} (ha : PE X a ta) (h : X.K = K := by rfl) (he : ∀ whole, isTrue a X.env whole = (do let v ← whole; standAt a.pos; holding [v] (truthy v)) := by intro _; rfl) : PT X a (fun σ H Q => ta σ H fun x H' => ∃ k, TruV K x H' k ∧ Q k H') := by subst h; exact pt_truth ha he
theorem bmK (K : PySem.W.Frag) {o e : Expr} {es : List Expr} {to : TE} {t : TA} {name : Str} {apos cpos : Pos} {T id : String} {r : V → List V → Hp → VK → Prop} (pa : PlainAttrs T) (slot : Slot T name id) (hty : typeOf (.builtin id) = pure (.type "method_descriptor")) (hm : MtR X id r) (ho : PE X o to) (ha : PA X (e :: es) t) (h : X.K = K := by rfl)
    (hbase : attributeBase o name X.env (eval o X.env) = eval o X.env := by rfl)
    (hfew : ((backTo cpos (starEach (e :: es) X.env)).all (fun x => !x.1) && (backToKw cpos (keywordEach [] X.env)).all (fun x => x.1.isSome)
      && decide ((e :: es).length + ([] : List Keyword).length + (if ([] : List Keyword).isEmpty then 0 else 1) < 30)) = true := by rfl)
    (hline : (apos.endLine == cpos.line) = true := by rfl) (hs : starEach (e :: es) X.env = (false, eval e X.env) :: starEach es X.env := by rfl) (hplain : (backTo cpos (starEach es X.env)).any (·.1) = false := by rfl) :
    PE X (.Call (.Attribute o name apos) (e :: es) [] cpos) (tBM K T r to t) := by subst h; exact pe_bm pa slot hty hm ho ha hbase hfew hline hs hplain
theorem bmK0 (K : PySem.W.Frag) {o : Expr} {to : TE} {name : Str} {apos cpos : Pos} {T id : String} {r : V → List V → Hp → VK → Prop} (pa : PlainAttrs T) (slot : Slot T name id) (hty : typeOf (.builtin id) = pure (.type "method_descriptor")) (hm : MtR X id r) (ho : PE X o to) (h : X.K = K := by rfl)
    (hbase : attributeBase o name X.env (eval o X.env) = eval o X.env := by rfl) (hline : (apos.endLine == cpos.line) = true := by rfl) : PE X (.Call (.Attribute o name apos) [] [] cpos) (tBM0 K T r to) := by subst h; exact pe_bm0 pa slot hty hm ho hbase hline
end
end My

namespace My
open PySem PySem.Spec PyProof.Rows L2 Evl
theorem et_yes {σ : L2.St} {H : Hp} : EvT tYes σ H true := fun H1 _ _ q => q H1 (Ex.refl H1)
theorem wipe1 (σ : L2.St) (j : Nat) (x : Option V) : wipe ((wipe σ [j]).set j x) [j] = wipe σ [j] := by simp [wipe, List.set_set]
theorem given_all {n : Nat} {v : Nat → V} : given n (fun _ => true) v = (List.range n).map v := by
  unfold given
  rw [List.filter_eq_self.mpr fun _ _ => rfl]
end My

/-! A dict comprehension with two clauses and no test: {k: v for t0 in i0 for t1 in i1}. -/
namespace My
open PySem PySem.Spec PyProof.Rows L2
section
variable (kx vx t0 i0 t1 i1 : Expr) (scope : Scope) (pos : Pos)
/-- the comprehension -/
def dcx : Expr := .DictComp kx vx [⟨t0, i0, [], 0⟩, ⟨t1, i1, [], 0⟩] scope pos
theorem dcx_outer (it acc : Value) (env : Env) : compTurn (dcx kx vx t0 i0 t1 i1 scope pos) 0 it acc env = (do
      standAt i0.pos
      match ← pyNext it with
      | none => pure (.done .next)
      | some v =>
        letOwnedTupleGo t0 it v
        assign t0 env v
        let mut ok := true
        for c in ([] : List Expr) do
          if ok then ok ← isTrue c env (eval c env)
        if ok then
          let src ← eval i1 env
          standAt i1.pos
          let src ← foldedSetIterable i1 env src
          let _ ← runOwn (.compStart (dcx kx vx t0 i0 t1 i1 scope pos) 1 (← holding [src] (pyIter src)) acc env) env
        again (.compLoop (dcx kx vx t0 i0 t1 i1 scope pos) 0 it acc env)) := by rfl
theorem dcx_inner (it : Value) (D : Addr) (env : Env) : compTurn (dcx kx vx t0 i0 t1 i1 scope pos) 1 it (.ref D) env = (do
      standAt i1.pos
      match ← pyNext it with
      | none => pure (.done .next)
      | some v =>
        letOwnedTupleGo t1 it v
        assign t1 env v
        let mut ok := true
        for c in ([] : List Expr) do
          if ok then ok ← isTrue c env (eval c env)
        if ok then
          (do
            let key ← eval kx env
            let val ← holding [key] (eval vx env)
            standAt { kx.pos with endLine := vx.pos.endLine, endCol := vx.pos.endCol }
            holding [key, val] (dictSet D key val))
        again (.compLoop (dcx kx vx t0 i0 t1 i1 scope pos) 1 it (.ref D) env)) := by rfl
end
end My

namespace My
open PySem PySem.Spec PyProof.Rows L2
section
variable {prog : Program} {w : World} {A : Around} {R : Result → Shared → Prop} {s : Shared} {kx vx t0 i0 t1 i1 : Expr} {scope : Scope} {pos : Pos} {it : Value} {D : Addr} {env : Env}
/-- the outer loop -/
theorem dcx_loop0 (fold : ∀ x, foldedSetIterable i1 env x = pure x) (G : Nat → Shared → Prop)
    (turn : ∀ n s, G n s → wpAny (model prog w) A (pyNext it) (fun r a1 => match r with
      | none => R (.ok .next) a1
      | some v => wpAny (model prog w) A (letOwnedTupleGo t0 it v) (fun _ a2 => wpAny (model prog w) A (assign t0 env v) (fun _ a3 =>
          wpAny (model prog w) A (eval i1 env) (fun x a4 => wpAny (model prog w) A (pyIter x) (fun j a5 =>
            codeAny (model prog w) A (.compStart (dcx kx vx t0 i0 t1 i1 scope pos) 1 j (.ref D) env) (fun r a6 => match r with
              | .ok _ => ∃ m, m < n ∧ G m a6
              | .error _ => False) a5) (notedBy (model prog w) A env fun e z => R (.error e) z) a4) (notedBy (model prog w) A env fun e z => R (.error e) z) a3) (notedBy (model prog w) A env fun e z => R (.error e) z) a2)
          (notedBy (model prog w) A env fun e z => R (.error e) z) a1) (notedBy (model prog w) A env fun e z => R (.error e) z) s)
    (n : Nat) (h : G n s) : codeAny (model prog w) A (.compLoop (dcx kx vx t0 i0 t1 i1 scope pos) 0 it (.ref D) env) R s := by
  refine codeAny_loop rfl G (fun n s g => ?_) n h
  show wpAny _ A ((compTurn (dcx kx vx t0 i0 t1 i1 scope pos) 0 it (.ref D) env).onRaise (fun x => do noteFrame x env; theTreesLotGoes x)) _ _ s
  refine wpAny_noted ?_
  rw [dcx_outer]
  refine wpAny_bind (wpAny_standAt (wpAny_bind (wpAny_mono (turn n s g) (fun r a1 q => ?_) fun _ _ z => z)))
  match r, q with
  | none, q => exact wpAny_pure q
  | some v, q =>
    refine wpAny_bind (wpAny_mono q (fun _ a2 q => wpAny_bind (wpAny_mono q (fun _ a3 q => wpAny_bind (wpAny_pure ?_)) fun _ _ z => z)) fun _ _ z => z)
    refine wpAny_bind (wpAny_mono q (fun x a4 q => wpAny_bind (wpAny_standAt (wpAny_bind (wpAny_of_eq (fold x) (wpAny_bind (wpAny_holding (wpAny_mono q (fun j a5 q => ?_) fun _ _ z => z))))))) fun _ _ z => z)
    refine wpAny_bind (wpAny_runOwn ?_)
    rw [Around.mark_none]
    refine codeAny_mono q fun r a6 q => ?_
    match r, q with
    | .ok _, q => first | exact wpAny_pure ⟨rfl, q⟩ | exact wpAny_bind (wpAny_pure (wpAny_pure ⟨rfl, q⟩))
    | .error _, q => exact q.elim
/-- the inner loop -/
theorem dcx_loop1 (G : Nat → Shared → Prop)
    (turn : ∀ n s, G n s → wpAny (model prog w) A (pyNext it) (fun r a1 => match r with
      | none => R (.ok .next) a1
      | some v => wpAny (model prog w) A (letOwnedTupleGo t1 it v) (fun _ a2 => wpAny (model prog w) A (assign t1 env v) (fun _ a3 =>
          wpAny (model prog w) A (eval kx env) (fun kv a4 => wpAny (model prog w) A (eval vx env) (fun vv a5 =>
            wpAny (model prog w) A (dictSet D kv vv) (fun _ a6 => ∃ m, m < n ∧ G m a6) (notedBy (model prog w) A env fun e z => R (.error e) z) a5) (notedBy (model prog w) A env fun e z => R (.error e) z) a4) (notedBy (model prog w) A env fun e z => R (.error e) z) a3)
          (notedBy (model prog w) A env fun e z => R (.error e) z) a2) (notedBy (model prog w) A env fun e z => R (.error e) z) a1) (notedBy (model prog w) A env fun e z => R (.error e) z) s)
    (n : Nat) (h : G n s) : codeAny (model prog w) A (.compLoop (dcx kx vx t0 i0 t1 i1 scope pos) 1 it (.ref D) env) R s := by
  refine codeAny_loop rfl G (fun n s g => ?_) n h
  show wpAny _ A ((compTurn (dcx kx vx t0 i0 t1 i1 scope pos) 1 it (.ref D) env).onRaise (fun x => do noteFrame x env; theTreesLotGoes x)) _ _ s
  refine wpAny_noted ?_
  rw [dcx_inner]
  refine wpAny_bind (wpAny_standAt (wpAny_bind (wpAny_mono (turn n s g) (fun r a1 q => ?_) fun _ _ z => z)))
  match r, q with
  | none, q => exact wpAny_pure q
  | some v, q =>
    refine wpAny_bind (wpAny_mono q (fun _ a2 q => wpAny_bind (wpAny_mono q (fun _ a3 q => wpAny_bind (wpAny_pure ?_)) fun _ _ z => z)) fun _ _ z => z)
    exact wpAny_bind (wpAny_bind (wpAny_mono q (fun kv a4 q => wpAny_bind (wpAny_holding (wpAny_mono q (fun vv a5 q => wpAny_bind (wpAny_standAt (wpAny_holding (wpAny_mono q (fun _ a6 q => wpAny_pure ⟨rfl, q⟩) fun _ _ z => z)))) fun _ _ z => z))) fun _ _ z => z))
/-- the inner clause begins -/
theorem dcx_start1 (h0 : codeAny (model prog w) A (.compLoop (dcx kx vx t0 i0 t1 i1 scope pos) 1 it (.ref D) env) R s)
    (h : wpAny (model prog w) A (pyIter it) (fun j z => codeAny (model prog w) A (.compLoop (dcx kx vx t0 i0 t1 i1 scope pos) 1 j (.ref D) env) R z) (notedBy (model prog w) A env fun x z => R (.error x) z) s) :
    codeAny (model prog w) A (.compStart (dcx kx vx t0 i0 t1 i1 scope pos) 1 it (.ref D) env) R s := by
  refine codeAny_of_tree ?_
  show wpAny _ _ ((compStart (dcx kx vx t0 i0 t1 i1 scope pos) 1 it (.ref D) env).onRaise (fun x => do noteFrame x env; standAt theWindowsPlace)) _ _ s
  refine wpAny_notedAt ?_
  unfold compStart
  show wpAny _ _ (ask >>= _) _ _ s
  refine wpAny_bind (wpAny_askSetting (wpAny_ite ?_))
  split
  · first
      | exact wpAny_bind (wpAny_pure (wpAny_pure (And.intro rfl h0)))
      | exact wpAny_pure (And.intro rfl h0)
  · refine wpAny_bind (wpAny_rule ?_)
    first
      | exact wpAny_bind (wpAny_standAt (wpAny_bind (wpAny_mono h (fun j z q => wpAny_pure (And.intro rfl q)) fun _ _ x => x)))
      | (show wpAny _ _ (standAt i1.pos >>= _) _ _ s; exact wpAny_bind (wpAny_standAt (wpAny_bind (wpAny_mono h (fun j z q => wpAny_pure (And.intro rfl q)) fun _ _ x => x))))
end
end My
namespace My
open PySem PySem.Spec PyProof.Rows L2
section
variable {X : Cx}
/-- {k: v for tg in .. for tg1 in ..}: D the new dict; from the inner loop's end Nx is reached -/
def tDc2 (wi : TI) (g : TG) (wi1 : TI) (g1 : TG) (tk tv : TE) (vs vs1 : List Nat) : TE := fun σ H Q => wi σ H fun J H1 => ∀ D, H1 D = none → ∃ W : Nat → Nat → Hp → Prop, (∃ m, W 0 m (upd H1 D (.dK []))) ∧ ∀ i m H, W i m H →
  (J.stop i H ∧ Q (.ref D) H) ∨ (J.go i H ∧ ∃ Nx : Hp → Prop, (∀ H', Nx H' → ∃ m', m' < m ∧ W (i + 1) m' H') ∧ ∀ x H', J.yld i H x H' → g x (wipe σ vs) H' fun σ2 H2 => wipe σ2 vs = wipe σ vs ∧
    wi1 σ2 H2 fun J1 H4 => ∃ W1 : Nat → Nat → Hp → Prop, (∃ m, W1 0 m H4) ∧ ∀ j k H, W1 j k H →
      (J1.stop j H ∧ Nx H) ∨ (J1.go j H ∧ ∃ Nx1 : Hp → Prop, (∀ H', Nx1 H' → ∃ k', k' < k ∧ W1 (j + 1) k' H') ∧ ∀ x H', J1.yld j H x H' → g1 x (wipe σ2 vs1) H' fun σ3 H5 => wipe σ3 vs1 = wipe σ2 vs1 ∧
        tk σ3 H5 fun y H7 => tv σ3 H7 fun z H8 => ∃ kvs q, y = kV q ∧ H8 D = some (.dK kvs) ∧ kvs.length < sizeLine ∧ Nx1 (upd H8 D (.dK (putK kvs q z)))))
variable {kx vx tg iter tg1 iter1 : Expr} {scope : Scope} {own : List (Str × Nat)} {vs1 : List Nat} {pos : Pos} {wi wi1 : TI} {g g1 : TG} {tk tv : TE}
theorem dc2_core {pins : List (Addr × Obj)} {s : Shared} {σ : L2.St} {H : Hp} {Q : VK} {pos' : Pos} {use : Option (Value → Sem Unit)} {Qf : Value → Shared → Prop} (calm : X.calm = true) (nd : X.N.Nodup) (I : Inv X pins σ H s) (src : PI X tg iter wi) (ok : BlkOk X.N X.env.scope scope own) (sub1 : ∀ i ∈ vs1, i ∈ own.map (·.2))
    (hg : ∀ (s : Shared) (H : Hp) (C : Addr) (cl : List (Str × Addr)) (fp : List Addr), PG (X.blk s H scope (compEnvC scope cl C X.env) fp) tg g)
    (src1 : ∀ (s : Shared) (H : Hp) (C : Addr) (cl : List (Str × Addr)) (fp : List Addr), PI (X.blk s H scope (compEnvC scope cl C X.env) fp) tg1 iter1 wi1)
    (hg1 : ∀ (s : Shared) (H : Hp) (C : Addr) (cl : List (Str × Addr)) (fp : List Addr), PG (X.blk s H scope (compEnvC scope cl C X.env) fp) tg1 g1)
    (hk : ∀ (s : Shared) (H : Hp) (C : Addr) (cl : List (Str × Addr)) (fp : List Addr), PE (X.blk s H scope (compEnvC scope cl C X.env) fp) kx tk)
    (hv : ∀ (s : Shared) (H : Hp) (C : Addr) (cl : List (Str × Addr)) (fp : List Addr), PE (X.blk s H scope (compEnvC scope cl C X.env) fp) vx tv)
    (fold0 : ∀ x, foldedSetIterable iter X.env x = pure x) (fold1 : ∀ env x, foldedSetIterable iter1 env x = pure x)
    (want : tDc2 wi g wi1 g1 tk tv (own.map (·.2)) vs1 σ H Q)
    (back0 : ∀ D C s' m H', Inv X pins σ H' s' → Q (.ref D) H' → s'.heap.Ns C m → FpOk X pins H' C → compPost (model X.prog X.w) X.A X.xe use Qf (.ref D) C (.ok .next) s') :
    wpAny (model X.prog X.w) X.A (comprehension (.DictComp kx vx [⟨tg, iter, [], 0⟩, ⟨tg1, iter1, [], 0⟩] scope pos) scope X.env pos' newDict false (eval iter X.env) use) Qf X.xe s := by
  have cells : ∀ y ∈ scope.names, y.2 = .free → ∃ c, X.env.cells.lookup y.1 = some c := fun y hy e => (ok.free y hy e).elim (fun z => I.ok.has _ (.inl z)) fun z => I.ok.has _ (.inr z)
  refine wpAny_comprehension_free (use := use) rfl fold0 (closure_ok cells) ok.kind (fun y hy e => by rw [ok.uniq y hy, e]) (thn (src.run pins s σ H _ I want) fun xv sA mid => thn mid fun itv sB got => ?_)
  obtain ⟨it, fp, tn, J, HB, rfl, IB, T, stB, fB, q⟩ := got
  refine wpAny_newObj_type (newEnv_comp ?_)
  generalize eD : sB.heap.objs.size = D
  have freeD : HB D = none := IB.hok.fresh (Nat.le_of_eq eD)
  obtain ⟨W, ⟨m0, w0⟩, turn⟩ := q D freeD
  generalize eC : ({ sB with heap := sB.heap.push { cls := .type "dict", data := .dict #[] } } : Shared) = sC
  have IC : Inv X pins σ (upd HB D (.dK [])) sC := by
    subst eC
    exact IB.laid (t' := sB.toks) (fun b o e => Heap.get?_push_of_some _ e) (Nat.le_of_eq eD) (by subst eD; exact dk_empty sB.heap IB.big)
  have hC : sC.heap = sB.heap.push { cls := .type "dict", data := .dict #[] } := by subst eC; rfl
  have fC : ∀ b ∈ fp, FpOk X pins (upd HB D (.dK [])) b ∧ b < sC.heap.objs.size := fun b hb => by
    obtain ⟨o, e, _⟩ := T.obj _ _ stB b hb
    have lt := Heap.lt_size e
    exact ⟨⟨by rw [upd_ne (by rw [← eD]; exact Nat.ne_of_lt lt)]; exact (fB b hb).1, (fB b hb).2⟩, by rw [hC, Heap.size_push]; exact Nat.lt_succ_of_lt lt⟩
  have stC : tn 0 sC.heap := T.keep _ _ _ stB fun b _ o e => by rw [hC]; exact Heap.get?_push_of_some _ e
  have IE := block_start IC ok nd fC
  generalize ecl : cellsFrom (sC.heap.objs.size + 1) scope.names (cloFrom X.env.cells scope.names []) = cl at IE ⊢
  have pg := hg sC (upd HB D (.dK [])) sC.heap.objs.size cl fp
  have pk := hk sC (upd HB D (.dK [])) sC.heap.objs.size cl fp
  have pv := hv sC (upd HB D (.dK [])) sC.heap.objs.size cl fp
  have p1 := src1 sC (upd HB D (.dK [])) sC.heap.objs.size cl fp
  have pg1 := hg1 sC (upd HB D (.dK [])) sC.heap.objs.size cl fp
  show codeAny _ _ (.compStart (dcx kx vx tg iter tg1 iter1 scope pos) 0 (.ref it) (.ref D) (compEnvC scope cl sC.heap.objs.size X.env)) (compPost (model X.prog X.w) X.A X.xe use Qf (.ref D) sC.heap.objs.size) { sC with heap := pushCells (sC.heap.push { cls := .type "dict", data := .dict #[] }) scope.names }
  have freeF : ∀ b ∈ fp, (upd HB D (.dK [])) b = none := fun b hb => (fC b hb).1.1
  generalize ee : compEnvC scope cl sC.heap.objs.size X.env = ce at IE pg pk pv p1 pg1 ⊢
  have locs : ce.locals = sC.heap.objs.size := by subst ee; rfl
  generalize eH : upd HB D (.dK []) = HC at IC IE pg pk pv p1 pg1 w0 freeF fC
  generalize eS : ({ sC with heap := pushCells (sC.heap.push { cls := .type "dict", data := .dict #[] }) scope.names } : Shared) = sE at IE ⊢
  have stE : tn 0 sE.heap := T.keep _ _ _ stC fun b _ o e => by subst eS; exact pushCells_keeps _ _ _ _ (Heap.get?_push_of_some _ e)
  have still : ∀ {σ' : L2.St} {H' : Hp} {z : Shared}, Inv (X.blk sC HC scope ce fp) [] σ' H' z → (∀ b ∈ fp, H' b = none) → ∀ b ∈ fp, FpOk (X.blk sC HC scope ce fp) [] H' b := fun {σ' H' z} K hn b hb =>
    ⟨hn b hb, (K.ok.exf b hb).1, K.ok.exfs b hb, .inl hb, fun x c e => (K.ok.exf b hb).2 x c e, fun p hp => absurd (show p ∈ ([] : List (Addr × Obj)) ++ [] from hp) (by simp)⟩
  -- what a turn of the outer loop starts from
  let Start : Nat → Shared → Prop := fun n z => ∃ i H', Inv (X.blk sC HC scope ce fp) [] (wipe σ (own.map (·.2))) H' z ∧ tn i z.heap ∧ (∀ b ∈ fp, H' b = none) ∧ W i n H'
  suffices run : codeAny (model X.prog X.w) X.A (.compLoop (dcx kx vx tg iter tg1 iter1 scope pos) 0 (.ref it) (.ref D) ce) (compPost (model X.prog X.w) X.A X.xe use Qf (.ref D) sC.heap.objs.size) sE from
    codeAny_compStart_dict run (T.self X.A 0 _ _ _ stE run)
  refine dcx_loop0 (fold1 ce) Start ?_ m0 ⟨0, HC, IE, stE, freeF, w0⟩
  rintro n z5 ⟨i, H5, I5, st5, n5, w5⟩
  rcases turn i n H5 w5 with ⟨stop, fin⟩ | ⟨go, Nx, back, step⟩
  · refine thnF (T.done (X.blk sC HC scope ce fp) rfl rfl rfl calm i [] z5 _ H5 (fun _ _ => False) I5 (still I5 n5) st5 stop) fun r z6 ⟨er, I6⟩ => ?_
    subst er
    have I7 : Inv X pins σ H5 z6 := IC.call' (ch := fp) I6.os I6.base I6.hok I6.bare fun b hb => ⟨(fC b hb).1.2.2.2.1, (fC b hb).1.2.1, (fC b hb).1.2.2.2.2.1, (fC b hb).1.2.2.2.2.2⟩
    have gone : H5 sC.heap.objs.size = none := by rw [← locs]; exact I6.free
    obtain ⟨m, ns, _⟩ := I6.loc
    have ns : z6.heap.Ns ce.locals m := ns
    rw [locs] at ns
    exact back0 D sC.heap.objs.size z6 m H5 I7 fin ns (IC.fpOk (Nat.le_refl _) gone)
  · refine thnF (T.item (X.blk sC HC scope ce fp) rfl rfl rfl calm i [] z5 _ H5 (fun _ _ => False) I5 (still I5 n5) st5 go) fun r z6 ⟨u, er, h6⟩ => ?_
    subst er
    refine thnF h6 fun _ z7 ⟨x, H7, I7, r7, y7, st7, n7⟩ => ?_
    refine thnF (pg.run _ z7 _ H7 x u _ (I7.pinned (still I7 n7) (T.obj _ _ st7)) r7 (step x H7 y7)) fun _ z8 ⟨σ8, H8, I8, same8, q8⟩ => ?_
    refine thnF (p1.run _ z8 σ8 H8 _ I8 q8) fun xv zA mid => thnF mid fun itv zB got => ?_
    obtain ⟨it1, fp1, tn1, J1, HI, e1, II, T1, st1, fI, W1, ⟨m1, w1⟩, turn1⟩ := got
    subst e1
    have still1 : ∀ {H' : Hp}, (∀ b ∈ fp1, H' b = none) → ∀ b ∈ fp1, FpOk (X.blk sC HC scope ce fp) ([] ++ pinsAt fp z7.heap) H' b := fun hn b hb => ⟨hn b hb, (fI b hb).2⟩
    suffices run1 : codeAny (model X.prog X.w) X.A (.compLoop (dcx kx vx tg iter tg1 iter1 scope pos) 1 (.ref it1) (.ref D) ce) (fun r z => match r with | .ok _ => ∃ m, m < n ∧ Start m z | .error _ => False) zB from
      dcx_start1 run1 (T1.self X.A 0 _ _ _ st1 run1)
    refine dcx_loop1 (fun k z => ∃ j H', Inv (X.blk sC HC scope ce fp) ([] ++ pinsAt fp z7.heap) (wipe σ8 vs1) H' z ∧ tn1 j z.heap ∧ (∀ b ∈ fp1, H' b = none) ∧ W1 j k H') ?_ m1 ⟨0, HI, II.weak (wipe_length _ _) (fun j v e => (wipe_some e).1), st1, fun b hb => (fI b hb).1, w1⟩
    rintro k zC ⟨j, H12, I12, st12, n12, w12⟩
    rcases turn1 j k H12 w12 with ⟨stop1, nx⟩ | ⟨go1, Nx1, back1, step1⟩
    · refine thnF (T1.done (X.blk sC HC scope ce fp) rfl rfl rfl calm j _ zC (wipe σ8 vs1) H12 (fun _ _ => False) I12 (still1 n12) st12 stop1) fun r zD ⟨er, I13⟩ => ?_
      subst er
      obtain ⟨m', lt, w'⟩ := back H12 nx
      have kept : ∀ b ∈ fp, ∀ o, z7.heap.get? b = some o → zD.heap.get? b = some o ∧ H12 b = none := fun b hb o e =>
        let z := I13.pin (b, o) (List.mem_append_right _ (List.mem_append_right _ (mem_pinsAt hb e)))
        ⟨z.1, z.2.1⟩
      refine ⟨m', lt, i + 1, H12, (I13.unpinned (pins := [])).weak (by rw [← same8, wipe_length, wipe_length]) (fun a v e => ?_), T.keep _ _ _ st7 fun b hb o e => (kept b hb o e).1, fun b hb => ?_, w'⟩
      · rw [← same8] at e
        obtain ⟨e1, e2⟩ := wipe_some e
        rw [wipe_out fun z => e2 (sub1 a z)]
        exact e1
      · obtain ⟨o, e, _⟩ := T.obj _ _ st7 b hb
        exact (kept b hb o e).2
    · refine thnF (T1.item (X.blk sC HC scope ce fp) rfl rfl rfl calm j _ zC (wipe σ8 vs1) H12 (fun _ _ => False) I12 (still1 n12) st12 go1) fun r zD ⟨u1, er, h13⟩ => ?_
      subst er
      refine thnF h13 fun _ zE ⟨x1, H14, I14, r14, y14, st14, n14⟩ => ?_
      refine thnF (pg1.run _ zE (wipe σ8 vs1) H14 x1 u1 _ (I14.pinned (still1 n14) (T1.obj _ _ st14)) r14 (step1 x1 H14 y14)) fun _ zF ⟨σ15, H15, I15, same15, q15⟩ => ?_
      refine thnF (pk.run _ zF σ15 H15 _ I15 q15) fun kz zG ⟨yk, H16, I16, r16, q16⟩ => ?_
      refine thnF (pv.run _ zG σ15 H16 _ I16 q16) fun vz zH ⟨yv, H17, I17, r17, kvs, kq, ek, hD, few, nx⟩ => ?_
      subst ek
      refine d_dictSet (X := X.blk sC HC scope ce fp) I17 hD few r16 r17 fun zI I18 => ?_
      obtain ⟨m', lt, w'⟩ := back1 _ nx
      have kept : ∀ b ∈ fp1, ∀ o, zE.heap.get? b = some o → zI.heap.get? b = some o ∧ (upd H17 D (.dK (putK kvs kq yv))) b = none := fun b hb o e =>
        let z := I18.pin (b, o) (List.mem_append_right _ (List.mem_append_right _ (mem_pinsAt hb e)))
        ⟨z.1, z.2.1⟩
      refine ⟨m', lt, j + 1, _, I18.unpinned.weak (by rw [← same15, wipe_length]) (fun a v e => by rw [← same15] at e; exact (wipe_some e).1), T1.keep _ _ _ st14 fun b hb o e => (kept b hb o e).1, fun b hb => ?_, w'⟩
      obtain ⟨o, e, _⟩ := T1.obj _ _ st14 b hb
      exact (kept b hb o e).2
theorem pe_dc2 (calm : X.calm = true) (nd : X.N.Nodup) (src : PI X tg iter wi) (ok : BlkOk X.N X.env.scope scope own) (sub1 : ∀ i ∈ vs1, i ∈ own.map (·.2))
    (hg : ∀ (s : Shared) (H : Hp) (C : Addr) (cl : List (Str × Addr)) (fp : List Addr), PG (X.blk s H scope (compEnvC scope cl C X.env) fp) tg g)
    (src1 : ∀ (s : Shared) (H : Hp) (C : Addr) (cl : List (Str × Addr)) (fp : List Addr), PI (X.blk s H scope (compEnvC scope cl C X.env) fp) tg1 iter1 wi1)
    (hg1 : ∀ (s : Shared) (H : Hp) (C : Addr) (cl : List (Str × Addr)) (fp : List Addr), PG (X.blk s H scope (compEnvC scope cl C X.env) fp) tg1 g1)
    (hk : ∀ (s : Shared) (H : Hp) (C : Addr) (cl : List (Str × Addr)) (fp : List Addr), PE (X.blk s H scope (compEnvC scope cl C X.env) fp) kx tk)
    (hv : ∀ (s : Shared) (H : Hp) (C : Addr) (cl : List (Str × Addr)) (fp : List Addr), PE (X.blk s H scope (compEnvC scope cl C X.env) fp) vx tv)
    (fold0 : ∀ x, foldedSetIterable iter X.env x = pure x := by intro _; rfl) (fold1 : ∀ env x, foldedSetIterable iter1 env x = pure x := by intro _ _; rfl) :
    PE X (.DictComp kx vx [⟨tg, iter, [], 0⟩, ⟨tg1, iter1, [], 0⟩] scope pos) (tDc2 wi g wi1 g1 tk tv (own.map (·.2)) vs1) := by
  constructor; intro pins s σ H Q I want
  rw [arm_eval_DictComp]
  refine dc2_core calm nd I src ok sub1 hg src1 hg1 hk hv fold0 fold1 want fun D C s' m H' J q ns f => ⟨m, ns, fun h2 sb => ?_⟩
  obtain ⟨a0, a1, a2, a3, a4, a5⟩ := f
  exact ⟨.ref D, H', J.turned (t' := s'.toks) (fun b o hb e => (sb.2 b hb).trans e) a0 a1 a3 a4 a5, rfl, q⟩
/-- a local is set to such a dict, in one row -/
theorem ps_setDc2 {i : Nat} {y : Str} {py spos : Pos} (calm : X.calm = true) (nd : X.N.Nodup) (hy : X.N[i]? = some y) (loc : X.env.scope.names.lookup y = some .local)
    (swap : swapsWith (.DictComp kx vx [⟨tg, iter, [], 0⟩, ⟨tg1, iter1, [], 0⟩] scope pos) (some (.Name y py)) spos.line X.env = pure true)
    (src : PI X tg iter wi) (ok : BlkOk X.N X.env.scope scope own) (sub1 : ∀ i ∈ vs1, i ∈ own.map (·.2))
    (hg : ∀ (s : Shared) (H : Hp) (C : Addr) (cl : List (Str × Addr)) (fp : List Addr), PG (X.blk s H scope (compEnvC scope cl C X.env) fp) tg g)
    (src1 : ∀ (s : Shared) (H : Hp) (C : Addr) (cl : List (Str × Addr)) (fp : List Addr), PI (X.blk s H scope (compEnvC scope cl C X.env) fp) tg1 iter1 wi1)
    (hg1 : ∀ (s : Shared) (H : Hp) (C : Addr) (cl : List (Str × Addr)) (fp : List Addr), PG (X.blk s H scope (compEnvC scope cl C X.env) fp) tg1 g1)
    (hk : ∀ (s : Shared) (H : Hp) (C : Addr) (cl : List (Str × Addr)) (fp : List Addr), PE (X.blk s H scope (compEnvC scope cl C X.env) fp) kx tk)
    (hv : ∀ (s : Shared) (H : Hp) (C : Addr) (cl : List (Str × Addr)) (fp : List Addr), PE (X.blk s H scope (compEnvC scope cl C X.env) fp) vx tv)
    (fold0 : ∀ x, foldedSetIterable iter X.env x = pure x := by intro _; rfl) (fold1 : ∀ env x, foldedSetIterable iter1 env x = pure x := by intro _ _; rfl) :
    PS X (.Assign [.Name y py] (.DictComp kx vx [⟨tg, iter, [], 0⟩, ⟨tg1, iter1, [], 0⟩] scope pos) spos) (tAsg (tDc2 wi g wi1 g1 tk tv (own.map (·.2)) vs1) (gName i)) := by
  constructor; intro pins s σ H D I want
  rw [exec_Assign_Name_used _ _ _ _ swap]
  refine wpAny_bind (wpAny_standAt (wpAny_bind ?_))
  show wpAny _ X.A (do let _ ← comprehension (.DictComp kx vx [⟨tg, iter, [], 0⟩, ⟨tg1, iter1, [], 0⟩] scope pos) scope X.env (firstIterPos [⟨tg, iter, [], 0⟩, ⟨tg1, iter1, [], 0⟩] pos) newDict false (eval iter X.env) (some (assign (.Name y py) X.env))) _ _ s
  have want : tDc2 wi g wi1 g1 tk tv (own.map (·.2)) vs1 σ H (fun x H1 => gName i x σ H1 D.nx) := want
  refine wpAny_bind (thn (dc2_core (Qf := fun _ z => SP X pins D .next z) calm nd I src ok sub1 hg src1 hg1 hk hv fold0 fold1 want fun L C s' m H' J q ns f => ?_) fun _ z zq => wpAny_pure (wpAny_pure zq))
  show wpAny _ _ (assign (.Name y py) X.env (.ref L)) _ _ _
  refine wpAny_assign_Name (store_ok2 (v := V.ref L) J nd hy (.inl loc) rfl (fun s2 I2 ⟨a, sb, ha⟩ => ?_) (.inr loc))
  obtain ⟨a0, a1, a2, a3, a4, a5⟩ := f
  have off : C ≠ a := by
    rcases ha with z | z
    · rw [z]; exact a1
    · exact fun e => a4 y a z e.symm
  refine ⟨m, ns.sameBut sb off, fun h3 sb3 => ?_⟩
  exact ⟨_, H', I2.turned (t' := s2.toks) (fun b o hb e => (sb3.2 b hb).trans e) a0 a1 a3 a4 a5, q⟩
theorem sw_dict {gs : List Comprehension} {py : Pos} {y : Str} {l : Nat} {env : Env} (kind : env.scope.kind = .function) (loc : env.scope.names.lookup y = some .local) (row : (py.line == pos.line) = true)
    (off : (scope.names.any fun (n, k) => n == y && (k == .local || k == .cell)) = false) : swapsWith (.DictComp kx vx gs scope pos) (some (.Name y py)) l env = pure true := by
  have k1 : env.kindOf y = some .local := loc
  have k2 : env.blockKind = .function := by unfold Env.blockKind; rw [kind]; rfl
  unfold swapsWith
  simp only [k2, k1, off, Expr.pos, row]
  rfl
end
end My

namespace My
open PySem PySem.Spec PyProof.Rows L2 Evl
section
variable {X : Cx}
theorem pe_gstr {x z : Str} {t : Tok} {pos : Pos} (hg : Gl X x) (hm : X.mg x = some (.str z t)) (hd : (x == ("__debug__" : Str)) = false := by decide) : PE X (.Name x pos) (tC (.str z)) := pe_glob hg hm ⟨t, rfl⟩ hd
theorem pe_gint {x : Str} {z : Int} {t : Tok} {pos : Pos} (hg : Gl X x) (hm : X.mg x = some (.int z t)) (hd : (x == ("__debug__" : Str)) = false := by decide) : PE X (.Name x pos) (tC (.int z)) := pe_glob hg hm ⟨t, rfl⟩ hd
/-- a list or a tuple -/
def SqA (K : PySem.W.Frag) (H : Hp) (a : Addr) (xs : List V) : Prop := SqL K H a xs ∨ SqT K H a xs
theorem SqA.ex {K : PySem.W.Frag} {H H' : Hp} {a : Addr} {xs : List V} (e : Ex H H') (h : SqA K H a xs) : SqA K H' a xs := h.elim (fun z => .inl (ex_l e z)) fun z => .inr (ex_t e z)
/-- what a name holds is walked, a list or a tuple -/
def iAny (K : PySem.W.Frag) (i : Nat) : TI := fun σ H R => ∃ a, σ[i]? = some (some (.ref a)) ∧ (((∃ xs, SqL K H a xs) ∧ R (Itl K a) H) ∨ ((∃ xs, SqT K H a xs) ∧ R (Itt K a) H))
theorem pi_any (K : PySem.W.Frag) (i : Nat) {tg : Expr} {x : Str} {pos : Pos} (h : PE X (.Name x pos) (tVar i)) (hK : X.K = K := by rfl) : PI X tg (.Name x pos) (iAny K i) := by
  subst hK
  refine ⟨fun pins s σ H R I q => ?_⟩
  obtain ⟨a, e, q | q⟩ := q
  · exact (pi_list h).run pins s σ H R I ⟨_, e, a, rfl, q⟩
  · exact (pi_tup h).run pins s σ H R I ⟨_, e, a, rfl, q⟩
end
section
variable {K : PySem.W.Frag} {σ : L2.St} {H H' : Hp} {ta tb te tx tc : TE} {t u : TT} {x y z v : V} {r r' : R2}
theorem ev_chain {a b : Bool} (ha : Ev ta σ H x) (hb : Ev tb σ H y) (h1 : RV r x y H (.bl a)) (hc : a = true → Ev tc σ H z) (h2 : a = true → RV r' y z H (.bl b)) : Ev (tChain r r' ta tb tc) σ H (.bl (a && b)) := fun H1 e Q q =>
  ha H1 e _ fun H2 e2 => hb H2 (e.trans e2) _ fun H3 e3 => h1 H3 ((e.trans e2).trans e3) _ fun H4 e4 => ⟨a, rfl, by
    have ee := ((e.trans e2).trans e3).trans e4
    cases a with
    | false => exact q H4 ((e2.trans e3).trans e4)
    | true => exact hc rfl H4 ee _ fun H5 e5 => h2 rfl H5 (ee.trans e5) Q fun H6 e6 => q H6 ((((e2.trans e3).trans e4).trans e5).trans e6)⟩
theorem ev_all {bs : List Bool} (h : EvL te σ H (bs.map V.bl)) : Ev (tCB (rAll K) (tCons te tNil)) σ H (.bl (bs.all id)) := fun H1 e Q q => h H1 e _ fun p H2 _ e2 h2 => ⟨p, bs, rfl, SqL.of h2, q H2 e2⟩
theorem ev_any {bs : List Bool} (h : EvL te σ H (bs.map V.bl)) : Ev (tCB (rAny K) (tCons te tNil)) σ H (.bl (bs.any id)) := fun H1 e Q q => h H1 e _ fun p H2 _ e2 h2 => ⟨p, bs, rfl, SqL.of h2, q H2 e2⟩
/-- a comprehension over anything that gives its items and leaves the heap -/
theorem el_lcW {wi : TI} {j : Nat} {vs : List Nat} {n : Nat} (f : Nat → Bool) (v : Nat → V) (hn : n ≤ 40000) (X : Nat → V → Prop)
    (hi : ∀ H1, Ex H H1 → ∀ R : It → Hp → Prop, (∀ J H2, Ex H1 H2 → (∃ G, Walk J n G (fun i H3 x H4 => H4 = H3 ∧ X i x) ∧ ∀ H3, Ex H2 H3 → G H3) → R J H2) → wi σ H1 R)
    (hw : ∀ x, wipe ((wipe σ vs).set j (some x)) vs = wipe σ vs)
    (ht : ∀ (i : Nat) (x : V) H1, Ex H H1 → i < n → X i x → EvT t ((wipe σ vs).set j (some x)) H1 (f i)) (he : ∀ (i : Nat) (x : V) H1, Ex H H1 → i < n → X i x → f i = true → Ev te ((wipe σ vs).set j (some x)) H1 (v i)) :
    EvL (tLc wi (gName j) t te vs) σ H (given n f v) := fun H0 e Q q => hi H0 e _ fun J H1 e1 ⟨G, wk, hG⟩ Dl hD =>
  lc_it wk (Cw H1 f v Dl) ⟨hD, Ex.new hD, upd_same⟩ (fun i H' _ p => hG H' p.2.1) (fun i x H2 H' hi p y => by
    obtain ⟨rfl, hx⟩ := y
    exact ⟨hw x, cw_turn p (by omega) (ht i x H1 (e.trans e1) hi hx) (fun hf => he i x H1 (e.trans e1) hi hx hf)⟩) (fun H' p => q Dl H' (fresh_back e1 p.1) (e1.trans p.2.1) p.2.2)
/-- the sources -/
theorem wi_str {w : Str} (h : Ev te σ H (.str w)) : ∀ H1, Ex H H1 → ∀ R : It → Hp → Prop, (∀ J H2, Ex H1 H2 → (∃ G, Walk J w.cps.size G (fun i H3 x H4 => H4 = H3 ∧ ∃ c, w.cps[i]? = some c ∧ x = .str ⟨#[c]⟩) ∧ ∀ H3, Ex H2 H3 → G H3) → R J H2) → iStr te σ H1 R :=
  fun H1 e R k => h H1 e _ fun H2 e2 => ⟨w, rfl, k _ H2 e2 ⟨_, walk_str, fun _ _ => trivial⟩⟩
theorem wi_list {a : Addr} {xs : List V} (h : Ev te σ H (.ref a)) (hx : SqL K H a xs) : ∀ H1, Ex H H1 → ∀ R : It → Hp → Prop, (∀ J H2, Ex H1 H2 → (∃ G, Walk J xs.length G (fun i H3 x H4 => H4 = H3 ∧ xs[i]? = some x) ∧ ∀ H3, Ex H2 H3 → G H3) → R J H2) → iList K te σ H1 R :=
  fun H1 e R k => h H1 e _ fun H2 e2 => ⟨a, rfl, ⟨xs, ex_l (e.trans e2) hx⟩, k _ H2 e2 ⟨_, walk_list, fun H3 e3 => ex_l ((e.trans e2).trans e3) hx⟩⟩
theorem wi_tup {a : Addr} {xs : List V} (h : Ev te σ H (.ref a)) (hx : SqT K H a xs) : ∀ H1, Ex H H1 → ∀ R : It → Hp → Prop, (∀ J H2, Ex H1 H2 → (∃ G, Walk J xs.length G (fun i H3 x H4 => H4 = H3 ∧ xs[i]? = some x) ∧ ∀ H3, Ex H2 H3 → G H3) → R J H2) → iTup K te σ H1 R :=
  fun H1 e R k => h H1 e _ fun H2 e2 => ⟨a, rfl, ⟨xs, ex_t (e.trans e2) hx⟩, k _ H2 e2 ⟨_, walk_tup, fun H3 e3 => ex_t ((e.trans e2).trans e3) hx⟩⟩
theorem wi_any {a : Addr} {xs : List V} {i : Nat} (h : σ[i]? = some (some (.ref a))) (hx : SqA K H a xs) : ∀ H1, Ex H H1 → ∀ R : It → Hp → Prop, (∀ J H2, Ex H1 H2 → (∃ G, Walk J xs.length G (fun i H3 x H4 => H4 = H3 ∧ xs[i]? = some x) ∧ ∀ H3, Ex H2 H3 → G H3) → R J H2) → iAny K i σ H1 R :=
  fun H1 e R k => ⟨a, h, hx.elim (fun z => .inl ⟨⟨xs, ex_l e z⟩, k _ H1 (Ex.refl _) ⟨_, walk_list, fun H3 e3 => ex_l (e.trans e3) z⟩⟩) fun z => .inr ⟨⟨xs, ex_t e z⟩, k _ H1 (Ex.refl _) ⟨_, walk_tup, fun H3 e3 => ex_t (e.trans e3) z⟩⟩⟩
/-- a for over a list or a tuple that stood at H0 -/
theorem s_forA {a : Addr} {xs : List V} {i : Nat} {g : TG} {tu : TS} {D : Ends} {H0 : Hp} (h : σ[i]? = some (some (.ref a))) (hx : SqA K H0 a xs) (Pv : Nat → L2.St → Hp → Prop) (h0 : Pv 0 σ H) (hP : ∀ i σ' H', i ≤ xs.length → Pv i σ' H' → Ex H0 H')
    (hs : ∀ i x σ' H', xs[i]? = some x → Pv i σ' H' → g x σ' H' fun σ2 H2 => tu { D with nx := Pv (i + 1), ct := Pv (i + 1), bk := D.nx } σ2 H2) (hd : ∀ σ' H', Pv xs.length σ' H' → D.nx σ' H') : tFor (iAny K i) g tu D σ H := by
  have e0 := hP 0 σ H (Nat.zero_le _) h0
  rcases hx with z | z
  · exact ⟨a, h, .inl ⟨⟨xs, ex_l e0 z⟩, for_list (K := K) (a := a) (xs := xs) Pv h0 (fun i σ' H' hi p => ex_l (hP i σ' H' hi p) z) hs hd⟩⟩
  · exact ⟨a, h, .inr ⟨⟨xs, ex_t e0 z⟩, for_tup (K := K) (a := a) (xs := xs) Pv h0 (fun i σ' H' hi p => ex_t (hP i σ' H' hi p) z) hs hd⟩⟩
theorem q_forA {a : Addr} {xs : List V} {i : Nat} {g : TG} {tu tz : TS} {D : Ends} {H0 : Hp} (h : σ[i]? = some (some (.ref a))) (hx : SqA K H0 a xs) (Pv : Nat → L2.St → Hp → Prop) (h0 : Pv 0 σ H) (hP : ∀ i σ' H', i ≤ xs.length → Pv i σ' H' → Ex H0 H')
    (hs : ∀ i x σ' H', xs[i]? = some x → Pv i σ' H' → g x σ' H' fun σ2 H2 => tu { D with nx := Pv (i + 1), ct := Pv (i + 1), bk := tz D } σ2 H2) (hd : ∀ σ' H', Pv xs.length σ' H' → tz D σ' H') : tSeq (tFor (iAny K i) g tu) tz D σ H := s_forA (D := { D with nx := tz D }) h hx Pv h0 hP hs hd
/-! ### a dict of the rows' members -/
def rowKeys (a : Addr) (r : List Str) : List (Key × V) := r.map fun m => (Sum.inr m, V.ref a)
def dictOf (as : List Addr) (rows : List (List Str)) : List (Key × V) := (as.zip rows).flatMap fun p => rowKeys p.1 p.2
theorem keys_row (a : Addr) (r : List Str) : (rowKeys a r).map (·.1) = r.map Sum.inr := by simp [rowKeys, List.map_map, Function.comp_def]
theorem keys_dictOf : ∀ (as : List Addr) (rows : List (List Str)), as.length = rows.length → (dictOf as rows).map (·.1) = (rows.flatten).map Sum.inr
  | [], [], _ => rfl
  | [], _ :: _, h => by simp at h
  | _ :: _, [], h => by simp at h
  | a :: as, r :: rows, h => by
    have ih := keys_dictOf as rows (by simpa using h)
    show ((rowKeys a r) ++ dictOf as rows).map (·.1) = _
    rw [List.map_append, keys_row, ih, List.flatten_cons, List.map_append]
theorem not_valV {κ : Type} [DecidableEq κ] {kvs : List (κ × V)} {k : κ} (h : k ∉ kvs.map (·.1)) : valV kvs k = none := by
  cases e : valV kvs k with
  | none => rfl
  | some v => exact absurd (valV_in e) h
theorem paired_get {α β : Type} {F : α → β → Prop} : ∀ {as : List α} {bs : List β}, Paired F as bs → ∀ {i : Nat} (h : i < as.length) (h' : i < bs.length), F as[i] bs[i]
  | _, _, .cons r t, 0, _, _ => r
  | _, _, .cons r t, i + 1, h, h' => paired_get t (Nat.lt_of_succ_lt_succ h) (Nat.lt_of_succ_lt_succ h')
theorem dictOf_snoc {as : List Addr} {rows : List (List Str)} {k : Nat} (h : k < as.length) (h' : k < rows.length) : dictOf (as.take (k + 1)) (rows.take (k + 1)) = dictOf (as.take k) (rows.take k) ++ rowKeys as[k] rows[k] := by
  unfold dictOf
  rw [List.take_succ_eq_append_getElem h, List.take_succ_eq_append_getElem h', List.zip_append (by simp; omega), List.flatMap_append]
  simp
theorem wipe_two {i j : Nat} {x : Option V} : wipe ((wipe σ [i, j]).set i x) [i, j] = wipe σ [i, j] := by
  show ((((σ.set j none).set i none).set i x).set j none).set i none = (σ.set j none).set i none
  rw [List.set_set]
  by_cases h : i = j
  · subst h; simp [List.set_set]
  · rw [List.set_comm _ _ h, List.set_set, List.set_set]
theorem ed_rows {wi : TI} {i j : Nat} (as : List Addr) (rows : List (List Str)) (hr : Paired (fun a xs => SqA K H a (xs.map V.str)) as rows) (nd : rows.flatten.Nodup) (few : rows.flatten.length ≤ 10000) (li : i < σ.length) (lj : j < σ.length) (hij : i ≠ j)
    (hi : ∀ H1, Ex H H1 → ∀ R : It → Hp → Prop, (∀ J H2, Ex H1 H2 → (∃ G, Walk J (as.map V.ref).length G (fun i H3 x H4 => H4 = H3 ∧ (as.map V.ref)[i]? = some x) ∧ ∀ H3, Ex H2 H3 → G H3) → R J H2) → wi σ H1 R) :
    ∀ H1, Ex H H1 → ∀ Q : VK, (∀ p H2, H1 p = none → Ex H1 H2 → H2 p = some (.dK (dictOf as rows)) → Q (.ref p) H2) → tDc2 wi (gName i) (iAny K i) (gName j) (tVar j) (tVar i) [i, j] [j] σ H1 Q := by
  intro H1 e1 Q want
  refine hi H1 e1 _ fun J H2 e2 ⟨G, wk, hG⟩ D hD => ?_
  have hlen : as.length = rows.length := Paired.length hr
  have hn : (as.map V.ref).length = as.length := by simp
  refine ⟨fun k m H3 => m = as.length - k ∧ k ≤ as.length ∧ Ex H2 H3 ∧ H3 D = some (.dK (dictOf (as.take k) (rows.take k))), ⟨as.length, by simp, Nat.zero_le _, Ex.new hD, upd_same⟩, ?_⟩
  rintro k m H3 ⟨rfl, hk, e3, h3⟩
  by_cases hlt : k < as.length
  · refine .inr ⟨wk.goes k H3 (by rw [hn]; exact hlt) (hG H3 e3), fun H4 => Ex H2 H4 ∧ H4 D = some (.dK (dictOf (as.take (k + 1)) (rows.take (k + 1)))), fun H4 p => ⟨as.length - (k + 1), by omega, rfl, hlt, p.1, p.2⟩, fun x H4 y => ?_⟩
    obtain ⟨e4, hx⟩ := wk.yields k H3 x H4 (by rw [hn]; exact hlt) (hG H3 e3) y
    clear y
    subst e4
    rw [List.getElem?_map, List.getElem?_eq_getElem hlt] at hx
    obtain rfl : x = V.ref as[k] := (Option.some.inj hx).symm
    have hlt2 : k < rows.length := by omega
    have hrow : SqA K H as[k] ((rows[k]).map V.str) := paired_get hr hlt hlt2
    have snoc := dictOf_snoc hlt hlt2
    have key : ∀ a : Nat, (ha : a < (rows[k]).length) → (Sum.inr ((rows[k])[a]) : Key) ∉ (dictOf (as.take k) (rows.take k) ++ rowKeys as[k] ((rows[k]).take a)).map (·.1) := by
      intro a ha
      rw [List.map_append, keys_dictOf _ _ (by simp; omega), keys_row]
      have sp : rows.flatten = (rows.take k).flatten ++ ((rows[k]).take a ++ ((rows[k])[a] :: (rows[k]).drop (a + 1))) ++ (rows.drop (k + 1)).flatten := by
        have q1 : (rows[k]).take a ++ ((rows[k])[a] :: (rows[k]).drop (a + 1)) = rows[k] := by
          rw [← List.drop_eq_getElem_cons ha]; exact List.take_append_drop _ _
        rw [q1]
        have q2 : rows = rows.take k ++ (rows[k] :: rows.drop (k + 1)) := by
          rw [← List.drop_eq_getElem_cons hlt2]; exact (List.take_append_drop _ _).symm
        conv => lhs; rw [q2]
        rw [List.flatten_append, List.flatten_cons, List.append_assoc]
      rw [sp] at nd
      have nd1 := (List.nodup_append.mp nd).1
      obtain ⟨_, n2, n3⟩ := List.nodup_append.mp nd1
      obtain ⟨_, _, n5⟩ := List.nodup_append.mp n2
      intro m
      rcases List.mem_append.mp m with m | m
      · obtain ⟨w, hw, e⟩ := List.mem_map.mp m
        cases e
        exact n3 _ hw _ (List.mem_append_right _ (List.mem_cons_self ..)) rfl
      · obtain ⟨w, hw, e⟩ := List.mem_map.mp m
        cases e
        exact n5 _ hw _ (List.mem_cons_self ..) rfl
    have small : ∀ a : Nat, a < (rows[k]).length → (dictOf (as.take k) (rows.take k) ++ rowKeys as[k] ((rows[k]).take a)).length < sizeLine := by
      intro a ha
      have q := congrArg List.length (keys_dictOf (as.take k) (rows.take k) (by simp; omega))
      have q1 : (rows.take k).flatten.length + (rows[k]).length ≤ rows.flatten.length := by
        have q2 : rows = rows.take k ++ (rows[k] :: rows.drop (k + 1)) := by
          rw [← List.drop_eq_getElem_cons hlt2]; exact (List.take_append_drop _ _).symm
        conv => rhs; rw [q2]
        simp only [List.flatten_append, List.flatten_cons, List.length_append]
        omega
      simp only [List.length_map] at q
      rw [List.length_append]
      simp only [rowKeys, List.length_map, List.length_take]
      have : (10000 : Nat) < sizeLine := by decide
      omega
    refine ⟨wipe_two, ?_⟩
    have gi : ((wipe σ [i, j]).set i (some (V.ref as[k])))[i]? = some (some (V.ref as[k])) := List.getElem?_set_self (by rw [wipe_length]; exact li)
    have eH4 : Ex H H4 := (e1.trans e2).trans e3
    have core : ∀ (J1 : It) (G1 : Hp → Prop), Walk J1 (rows[k]).length G1 (fun a H5 x H6 => H6 = H5 ∧ ((rows[k]).map V.str)[a]? = some x) → (∀ H5, Ex H2 H5 → G1 H5) →
        ∃ W1 : Nat → Nat → Hp → Prop, (∃ m, W1 0 m H4) ∧ ∀ a m H5, W1 a m H5 → (J1.stop a H5 ∧ (Ex H2 H5 ∧ H5 D = some (.dK (dictOf (as.take (k + 1)) (rows.take (k + 1)))))) ∨
          (J1.go a H5 ∧ ∃ Nx1 : Hp → Prop, (∀ H', Nx1 H' → ∃ m', m' < m ∧ W1 (a + 1) m' H') ∧ ∀ x H', J1.yld a H5 x H' → gName j x (wipe ((wipe σ [i, j]).set i (some (V.ref as[k]))) [j]) H' fun σ3 H5 => wipe σ3 [j] = wipe ((wipe σ [i, j]).set i (some (V.ref as[k]))) [j] ∧
            tVar j σ3 H5 fun y H7 => tVar i σ3 H7 fun z H8 => ∃ kvs q, y = kV q ∧ H8 D = some (.dK kvs) ∧ kvs.length < sizeLine ∧ Nx1 (upd H8 D (.dK (putK kvs q z)))) := by
      intro J1 G1 wk1 hG1
      refine ⟨fun a m H5 => m = (rows[k]).length - a ∧ a ≤ (rows[k]).length ∧ Ex H2 H5 ∧ H5 D = some (.dK (dictOf (as.take k) (rows.take k) ++ rowKeys as[k] ((rows[k]).take a))), ⟨(rows[k]).length, by simp, Nat.zero_le _, e3, by rw [h3]; simp [rowKeys]⟩, ?_⟩
      rintro a m H5 ⟨rfl, ha, e5, h5⟩
      by_cases hla : a < (rows[k]).length
      · refine .inr ⟨wk1.goes a H5 hla (hG1 H5 e5), _, fun H7 p => ⟨(rows[k]).length - (a + 1), by omega, rfl, hla, p⟩, fun x H7 y => ?_⟩
        obtain ⟨e7, hx7⟩ := wk1.yields a H5 x H7 hla (hG1 H5 e5) y
        clear y
        subst e7
        rw [List.getElem?_map, List.getElem?_eq_getElem hla] at hx7
        obtain rfl : x = V.str ((rows[k])[a]) := (Option.some.inj hx7).symm
        refine ⟨wipe1 _ _ _, V.str ((rows[k])[a]), List.getElem?_set_self (by rw [wipe_length, List.length_set, wipe_length]; exact lj), V.ref as[k], ?_, _, Sum.inr ((rows[k])[a]), rfl, h5, small a hla, ?_, ?_⟩
        · rw [List.getElem?_set_ne (Ne.symm hij)]
          show (((wipe σ [i, j]).set i (some (V.ref as[k]))).set j none)[i]? = _
          rw [List.getElem?_set_ne (Ne.symm hij)]
          exact gi
        · exact Ex.mut e5 hD
        · rw [upd_same, putK_new _ (not_valV (key a hla)), List.append_assoc]
          congr 3
          unfold rowKeys
          rw [List.take_succ_eq_append_getElem hla, List.map_append]
          rfl
      · have ea : a = (rows[k]).length := by omega
        subst ea
        refine .inl ⟨wk1.stops H5 (hG1 H5 e5), e5, ?_⟩
        rw [h5, List.take_length, snoc]
    rcases hrow with z | z
    · exact ⟨as[k], gi, .inl ⟨⟨_, ex_l eH4 z⟩, core _ _ (by have q := walk_list (K := K) (a := as[k]) (xs := (rows[k]).map V.str); rw [List.length_map] at q; exact q) fun H5 e5 => ex_l ((e1.trans e2).trans e5) z⟩⟩
    · exact ⟨as[k], gi, .inr ⟨⟨_, ex_t eH4 z⟩, core _ _ (by have q := walk_tup (K := K) (a := as[k]) (xs := (rows[k]).map V.str); rw [List.length_map] at q; exact q) fun H5 e5 => ex_t ((e1.trans e2).trans e5) z⟩⟩
  · have ek : k = as.length := by omega
    subst ek
    refine .inl ⟨by rw [← hn]; exact wk.stops H3 (hG H3 e3), ?_⟩
    refine want D H3 (fresh_back e2 hD) (e2.trans e3) ?_
    rw [h3, List.take_length, hlen, List.take_length]
end
end My
namespace My
open PySem PySem.Spec PyProof.Rows L2 Evl
theorem el_is {te : TE} {σ : L2.St} {H : Hp} {xs ys : List V} (h : EvL te σ H xs) (e : xs = ys) : EvL te σ H ys := by rw [← e]; exact h
end My

namespace My
open PySem PySem.Spec PyProof.Rows L2 Evl
section
variable {K : PySem.W.Frag} {σ : L2.St} {H : Hp} {te : TE}
/-- a method of a text -/
theorem ev_bmS {w : Str} {z : V} {r : V → List V → Hp → VK → Prop} {ta : TA} {vs : List V} (h : Ev te σ H (.str w)) (ha : EvA ta σ H vs) (hr : RC (r (.str w)) vs H z) : Ev (tBM K "str" r te ta) σ H z := fun H1 e Q q =>
  h H1 e _ fun H2 e2 => ⟨rfl, ha H2 (e.trans e2) _ fun H3 e3 => hr H3 ((e.trans e2).trans e3) Q fun H4 e4 => q H4 ((e2.trans e3).trans e4)⟩
theorem ev_slS {w : Str} {tl th : TO} {lo hi : Option Int} (h : Ev te σ H (.str w)) (h1 : EvO tl σ H lo) (h2 : EvO th σ H hi) (hz : w.length ≤ sizeLine) : Ev (tSl rSlS te tl th) σ H (.str (cutS w lo hi)) := fun H1 e Q q =>
  h H1 e _ fun H2 e2 => h1 H2 (e.trans e2) _ fun H3 e3 => h2 H3 ((e.trans e2).trans e3) _ fun H4 e4 => ⟨w, rfl, hz, q H4 ((e2.trans e3).trans e4)⟩
end
end My
namespace My
open PySem PySem.Spec PyProof.Rows L2 Evl
section
variable {K : PySem.W.Frag} {σ : L2.St} {H : Hp} {te : TE}
theorem inV_strs (m : Str) : ∀ ps : List Str, inV (.str m) (ps.map V.str) = decide (m ∈ ps)
  | [] => by simp [inV]
  | p :: ps => by
    have ih := inV_strs m ps
    show (eqV (.str p) (.str m) || inV (.str m) (ps.map V.str)) = _
    rw [ih]
    show ((p == m) || decide (m ∈ ps)) = _
    by_cases h : p = m
    · subst h; simp
    · have h' : ¬ m = p := fun e => h e.symm
      simp [h, h']
theorem flat_strs (ps : List Str) : (ps.map V.str).all flatV = true := by
  rw [List.all_map, List.all_eq_true]
  intro x _
  rfl
theorem rv_inA {neg : Bool} {p : Addr} {xs : List V} {x : V} (h : SqA K H p xs) (hx : flatV x = true) (ha : xs.all flatV = true) : RV (rIn K neg) x (.ref p) H (.bl (if neg then !inV x xs else inV x xs)) :=
  fun H1 e _ q => ⟨p, xs, rfl, (h.ex e), hx, ha, q H1 (Ex.refl H1)⟩
theorem rv_inStr {p : Addr} {ps : List Str} {m : Str} (h : SqA K H p (ps.map V.str)) : RV (rIn K false) (.str m) (.ref p) H (.bl (decide (m ∈ ps))) := by
  have q := rv_inA (neg := false) (x := .str m) h rfl (flat_strs ps)
  rw [inV_strs] at q
  exact q
theorem rv_niStr {p : Addr} {ps : List Str} {m : Str} (h : SqA K H p (ps.map V.str)) : RV (rIn K true) (.str m) (.ref p) H (.bl (decide (m ∉ ps))) := by
  have q := rv_inA (neg := true) (x := .str m) h rfl (flat_strs ps)
  rw [inV_strs] at q
  by_cases z : m ∈ ps
  · simpa [z] using q
  · simpa [z] using q
theorem rv_sin {P : Program} {w : World} {a : Addr} {S : Key → Bool} {n : Nat} {k : Key} (h : H a = some (SetK P w a S n)) : RV (rSInK P w false) (kV k) (.ref a) H (.bl (S k)) := fun H1 e _ q => ⟨k, a, S, n, rfl, rfl, e _ _ h, q H1 (Ex.refl H1)⟩
theorem et_truL {p : Addr} {xs : List V} (h : Ev te σ H (.ref p)) (hp : H p = some (.lst xs)) : EvT (fun σ H Q => te σ H fun x H' => ∃ k, TruV K x H' k ∧ Q k H') σ H (!xs.isEmpty) := fun H1 e _ q => h H1 e _ fun H2 e2 => ⟨_, .inl ⟨xs, SqL.of ((e.trans e2) _ _ hp), rfl⟩, q H2 e2⟩
theorem ev_lenA {p : Addr} {xs : List V} (ha : Ev te σ H (.ref p)) (h : SqA K H p xs) : Ev (tCB (rLenS K) (tCons te tNil)) σ H (.int (xs.length : Int)) := fun H1 e Q q =>
  ha H1 e _ fun H2 e2 => ⟨p, xs, rfl, h.ex (e.trans e2), q H2 e2⟩
end
end My

namespace My
open PySem PySem.Spec PyProof.Rows L2 Evl
section
variable {K : PySem.W.Frag} {σ : L2.St} {H H' : Hp} {ta tb te tx td ty : TE} {t u : TT} {x y z v : V} {D : Ends} {tz : TS}
theorem given_filter {ps : List Str} {p : Str → Bool} : given ps.length (fun i => p (ps.getD i "")) (fun i => V.str (ps.getD i "")) = (ps.filter p).map V.str := by
  have e : (List.range ps.length).map (fun i => ps.getD i "") = ps := by
    apply List.ext_getElem
    · simp
    · intro i h1 h2
      simp [List.getD_eq_getElem?_getD, List.getElem?_eq_getElem h2]
  unfold given
  conv => rhs; rw [← e, List.filter_map, List.map_map]
  rfl
/-- the names of a sequence that pass a test -/
theorem el_filtW {wi : TI} {j : Nat} {vs : List Nat} {ps : List Str} (p : Str → Bool) (hn : ps.length ≤ 40000) (lj : j < σ.length)
    (hi : ∀ H1, Ex H H1 → ∀ R : It → Hp → Prop, (∀ J H2, Ex H1 H2 → (∃ G, Walk J (ps.map V.str).length G (fun i H3 x H4 => H4 = H3 ∧ (ps.map V.str)[i]? = some x) ∧ ∀ H3, Ex H2 H3 → G H3) → R J H2) → wi σ H1 R)
    (hw : ∀ x, wipe ((wipe σ vs).set j (some x)) vs = wipe σ vs)
    (ht : ∀ m ∈ ps, ∀ H1, Ex H H1 → EvT t ((wipe σ vs).set j (some (.str m))) H1 (p m)) :
    EvL (tLc wi (gName j) t (tVar j) vs) σ H ((ps.filter p).map V.str) := by
  rw [← given_filter]
  refine el_lcW (n := ps.length) (fun i => p (ps.getD i "")) (fun i => V.str (ps.getD i "")) hn (fun i x => (ps.map V.str)[i]? = some x) (by rw [← List.length_map (f := V.str)]; exact hi) hw (fun i x H1 e1 hlt hx => ?_) (fun i x H1 e1 hlt hx _ => ?_)
  all_goals
    rw [List.getElem?_map, List.getElem?_eq_getElem hlt] at hx
    obtain rfl : x = V.str ps[i] := (Option.some.inj hx).symm
    rw [List.getD_eq_getElem?_getD, List.getElem?_eq_getElem hlt]
  · exact ht _ (List.getElem_mem hlt) H1 e1
  · exact ev_var (by rw [List.getElem?_set_self (by rw [wipe_length]; exact lj)]; rfl)
theorem el_filtA {i j : Nat} {vs : List Nat} {ps : List Str} {a : Addr} (p : Str → Bool) (h : σ[i]? = some (some (.ref a))) (hx : SqA K H a (ps.map V.str)) (hn : ps.length ≤ 40000) (lj : j < σ.length)
    (hw : ∀ x, wipe ((wipe σ vs).set j (some x)) vs = wipe σ vs) (ht : ∀ m ∈ ps, ∀ H1, Ex H H1 → EvT t ((wipe σ vs).set j (some (.str m))) H1 (p m)) :
    EvL (tLc (iAny K i) (gName j) t (tVar j) vs) σ H ((ps.filter p).map V.str) := el_filtW p hn lj (wi_any h hx) hw ht
theorem isD_of {a : Addr} {kvs : List (Key × V)} (h : H a = some (.dK kvs)) : IsD H a := .inl ⟨kvs, .inl h⟩
/-- d.get(k, [..]) -/
theorem w_dget2L {a : Addr} {kvs : List (Key × V)} {k : Key} {xs : List V} {Q : VK} (hd : Ev td σ H (.ref a)) (h : H a = some (.dK kvs)) (hy : Ev ty σ H (kV k)) (hx : EvL tx σ H xs)
    (q1 : ∀ v, valV kvs k = some v → ∀ H', Ex H H' → Q v H') (q2 : valV kvs k = none → ∀ p H', H p = none → Ex H H' → H' p = some (.lst xs) → Q (.ref p) H') : tDGet2 td ty tx σ H Q :=
  hd H (Ex.refl H) _ fun H1 e1 => ⟨a, rfl, isD_of (e1 _ _ h), hy H1 e1 _ fun H2 e2 => hx H2 (e1.trans e2) _ fun p H3 hp e3 h3 => by
    have e := (e1.trans e2).trans e3
    refine ⟨valV kvs k, DGet.k (e _ _ h), ?_⟩
    cases hv : valV kvs k with
    | some v => exact q1 v hv H3 e
    | none => exact q2 hv p H3 (fresh_back (e1.trans e2) hp) e h3⟩
/-- tuple(a new list), tuple(a list) -/
theorem eu_tupL {xs : List V} (h : EvL te σ H xs) : EvU (tCB (rTupS K) (tCons te tNil)) σ H xs := fun H1 e Q q =>
  h H1 e _ fun p H2 _ e2 h2 => ⟨p, xs, rfl, .inl ⟨SqL.of h2, fun l hl => q l _ (fresh_back e2 hl) (e2.trans (Ex.new hl)) upd_same⟩⟩
theorem eu_tupR {a : Addr} {xs : List V} (h : Ev te σ H (.ref a)) (ha : SqL K H a xs) : EvU (tCB (rTupS K) (tCons te tNil)) σ H xs := fun H1 e Q q =>
  h H1 e _ fun H2 e2 => ⟨a, xs, rfl, .inl ⟨ex_l (e.trans e2) ha, fun l hl => q l _ (fresh_back e2 hl) (e2.trans (Ex.new hl)) upd_same⟩⟩
/-- a list and a list -/
theorem el_cat {a b : Addr} {xs zs : List V} (ha : Ev ta σ H (.ref a)) (hb : Ev tb σ H (.ref b)) (h1 : H a = some (.lst xs)) (h2 : H b = some (.lst zs)) (hz : xs.length + zs.length ≤ 100000) : EvL (tOp rCat ta tb) σ H (xs ++ zs) := fun H1 e Q q =>
  ha H1 e _ fun H2 e2 => hb H2 (e.trans e2) _ fun H3 e3 => ⟨a, b, xs, zs, rfl, rfl, ((e.trans e2).trans e3) _ _ h1, ((e.trans e2).trans e3) _ _ h2, sz_of hz, fun p hp => q p _ (fresh_back (e2.trans e3) hp) ((e2.trans e3).trans (Ex.new hp)) upd_same⟩
end
/-- rows that are found -/
theorem val_rows {F : Addr → List Str → Prop} (p : Str) : ∀ {as : List Addr} {rows : List (List Str)}, Paired F as rows →
    (valV (dictOf as rows) (.inr p) = none ∧ rows.find? (fun b => decide (p ∈ b)) = none) ∨ ∃ a row, valV (dictOf as rows) (.inr p) = some (.ref a) ∧ rows.find? (fun b => decide (p ∈ b)) = some row ∧ F a row
  | _, _, .nil => .inl ⟨rfl, rfl⟩
  | a :: as, r :: rows, .cons h t => by
    have e : dictOf (a :: as) (r :: rows) = rowKeys a r ++ dictOf as rows := rfl
    by_cases hp : p ∈ r
    · refine .inr ⟨a, r, ?_, by rw [List.find?_cons, decide_eq_true hp], h⟩
      rw [e]
      unfold valV
      rw [List.find?_append]
      have q : ((rowKeys a r).find? fun kv => decide (kv.1 = Sum.inr p)) = some (Sum.inr p, V.ref a) := by
        unfold rowKeys
        rw [List.find?_map]
        have z : r.find? ((fun kv : Key × V => decide (kv.1 = Sum.inr p)) ∘ fun m => (Sum.inr m, V.ref a)) = some p := by
          rw [List.find?_eq_some_iff_append]
          obtain ⟨s, u, hs, hn⟩ := List.append_of_mem hp |> fun ⟨s, u, h⟩ => (⟨_, _, List.eq_append_cons_of_mem hp |>.choose_spec.choose_spec.1, (List.eq_append_cons_of_mem hp).choose_spec.choose_spec.2⟩ : ∃ s u, r = s ++ p :: u ∧ p ∉ s)
          exact ⟨by simp, s, u, hs, fun m hm => by
            simp only [Function.comp, Bool.not_eq_true', decide_eq_false_iff_not]
            intro z
            cases z
            exact hn hm⟩
        rw [z]
        rfl
      rw [q]
      rfl
    · have none_here : valV (rowKeys a r) (.inr p) = none := not_valV (by
        rw [keys_row]
        intro z
        obtain ⟨w, hw, e⟩ := List.mem_map.mp z
        cases e
        exact hp hw)
      have ee : valV (dictOf (a :: as) (r :: rows)) (.inr p) = valV (dictOf as rows) (.inr p) := by
        rw [e]
        unfold valV at none_here ⊢
        rw [List.find?_append]
        have := Option.map_eq_none_iff.mp none_here
        rw [this]
        rfl
      rw [ee, List.find?_cons, decide_eq_false hp]
      exact val_rows p t
/-! ### join -/
def rJoin (K : PySem.W.Frag) : V → List V → Hp → VK → Prop := fun x xs H Q => ∃ a p, ∃ ys : List Str, x = .str a ∧ xs = [.ref p] ∧ (SqL K H p (ys.map V.str) ∨ SqT K H p (ys.map V.str)) ∧
    (ys.map (·.length)).sum + ys.length * a.length ≤ 16777216 ∧ Q (.str (Txt.join a ys)) H
theorem mtJoinK {X : Cx} (K : PySem.W.Frag) (h : X.K = K := by rfl) : MtR X "str.join" (rJoin K) := by subst h; exact mt_join
section
variable {K : PySem.W.Frag} {σ : L2.St} {H : Hp} {te to : TE}
theorem ev_joinL {a : Str} {ys : List Str} (ha : Ev to σ H (.str a)) (h : EvL te σ H (ys.map V.str)) (few : (ys.map (·.length)).sum + ys.length * a.length ≤ 16777216) : Ev (tBM K "str" (rJoin K) to (tCons te tNil)) σ H (.str (Txt.join a ys)) := fun H1 e Q q =>
  ha H1 e _ fun H2 e2 => ⟨rfl, h H2 (e.trans e2) _ fun p H3 _ e3 h3 => ⟨a, p, ys, rfl, rfl, .inl (SqL.of h3), few, q H3 (e2.trans e3)⟩⟩
theorem ev_joinA {a : Str} {ys : List Str} {p : Addr} (ha : Ev to σ H (.str a)) (h : Ev te σ H (.ref p)) (hx : SqA K H p (ys.map V.str)) (few : (ys.map (·.length)).sum + ys.length * a.length ≤ 16777216) : Ev (tBM K "str" (rJoin K) to (tCons te tNil)) σ H (.str (Txt.join a ys)) := fun H1 e Q q =>
  ha H1 e _ fun H2 e2 => ⟨rfl, h H2 (e.trans e2) _ fun H3 e3 => ⟨a, p, ys, rfl, rfl, hx.ex ((e.trans e2).trans e3), few, q H3 (e2.trans e3)⟩⟩
end
theorem sum_le {n : Nat} : ∀ {l : List Nat}, (∀ x ∈ l, x ≤ n) → l.sum ≤ l.length * n
  | [], _ => Nat.zero_le _
  | a :: t, h => by
    have := sum_le (l := t) fun x hx => h x (List.mem_cons_of_mem _ hx)
    have h0 := h a (List.mem_cons_self ..)
    rw [List.sum_cons, List.length_cons, Nat.succ_mul]
    omega
theorem app_len (x y : Str) : (x ++ y).length = x.length + y.length := by
  show (x.cps ++ y.cps).size = _
  rw [Array.size_append]
  rfl
theorem join_len0 (y : Str) : ∀ ys : List Str, (Str.join y ys).length ≤ (ys.map (·.length)).sum + ys.length * y.length
  | [] => Nat.zero_le _
  | [x] => by
    show x.length ≤ _
    simp
  | x :: z :: r => by
    have ih := join_len0 y (z :: r)
    show (x ++ y ++ Str.join y (z :: r)).length ≤ _
    rw [app_len, app_len, List.map_cons, List.sum_cons, List.length_cons, Nat.succ_mul]
    omega
theorem join_len (y : Str) (ys : List Str) : (Txt.join y ys).length ≤ (ys.map (·.length)).sum + ys.length * y.length := by
  rw [TL.join_eq]
  exact join_len0 y ys
theorem lens_sum {ys : List Str} {n : Nat} (h : ∀ m ∈ ys, m.length ≤ n) : (ys.map (·.length)).sum ≤ ys.length * n := by
  have := sum_le (l := ys.map (·.length)) (n := n) (fun x hx => by
    obtain ⟨m, hm, rfl⟩ := List.mem_map.mp hx
    exact h m hm)
  rwa [List.length_map] at this
/-- a comprehension over the rows of a list or tuple, each row's text -/
theorem given_map {n : Nat} {v : Nat → V} : given n (fun _ => true) v = (List.range n).map v := by
  unfold given
  congr 1
  exact List.filter_eq_self.mpr fun _ _ => rfl
end My

namespace My
open PySem PySem.Spec PyProof.Rows L2
/-! ### an instance's own special methods -/
/-- the class at C has the def f under the name m -/
structure Own (K : PySem.W.Frag) (C : Addr) (m : Str) (f : Addr) : Prop where
  at_ : PySem.W.findIn K (.ref C) m = some (some (.ref f))
  fn : PySem.W.isFn K (.ref f) = true
section
variable {X : Cx} {CX : CXT} {n : Nat} {f C : Addr} {fd : FuncData} {ps : List Str} {sp : Sp} {E : XK} {A : Around}
theorem run_in {pins : List (Addr × Obj)} {σ : L2.St} {H : Hp} {s : Shared} {Q : VK} {us : List Value} {vs : List V} (F : FnOk X.prog X.w X.K X.mg X.base CX n f fd ps sp) (room : Room n A) (fr : A.frames = X.A.frames) (hb : Binds X.K fd ps []) (hx : Passes CX X E)
    (I : Inv X pins σ H s) (r : Vals vs us) (h : sp vs H Q E) : wpAny (model X.prog X.w) A (call (.ref f) us) (EP X pins σ Q) X.xe s := by
  have e0 : Env0 X.prog X.w X.K X.mg X.base A X.stack s H := by
    have e := I.env0
    exact ⟨by rw [fr]; exact e.frames, e.mod, e.bs, e.bsz, e.funs, e.frf, e.hok, e.bare⟩
  have hl := F.len _ _ _ _ h
  refine wpAny_call (codeAny_mono (F.run A X.stack s H ⟨us, []⟩ us vs Q E room e0 (by
    have z := hb s us I.kIn (by rw [List.append_nil, ← r.length]; exact hl)
    rw [List.append_nil] at z
    exact z) r h) fun r s' hq => ?_)
  cases r with
  | error e => exact hx pins σ H s e s' I hq
  | ok fl =>
    cases fl with
    | ret u => exact I.after hq
    | next => exact False.elim hq
    | brk => exact False.elim hq
    | cont => exact False.elim hq
/-- len(o) -/
def rLenO (C : Addr) (sp : Sp) (E : XK) : List V → Hp → VK → Prop := fun xs H Q => ∃ (a dx : Addr) (fs : List (Str × V)), xs = [.ref a] ∧ H a = some (.ins C dx fs) ∧ sp [.ref a] H (fun v H' => ∃ i : Int, v = .int i ∧ (0 ≤ i ∧ i < 2 ^ 63) ∧ Q (.int i) H') E
theorem call_lenO (o : Own X.K C "__len__" f) (F : FnOk X.prog X.w X.K X.mg X.base CX n f fd ps sp) (hr : Room (n + 1) X.A) (hb : Binds X.K fd ps []) (hx : Passes CX X E) : CallR X (.builtin "len") (rLenO C sp E) := by
  intro pins s σ H xs us Q I r h
  obtain ⟨a, dx, fs, rfl, ha, q⟩ := h
  obtain ⟨u, rfl, ru⟩ := vals1 r
  cases (show u = Value.ref a from ru)
  obtain ⟨mA, J, _⟩ := ins_get I.hok ha
  obtain ⟨od, J, _⟩ := J.look
  obtain ⟨m, hF⟩ := I.fr
  refine PySem.W.len_K hF I.ok.mod.kin J o.at_ o.fn (wpAny_mono (run_in F hr.in1 rfl hb hx I r q) (fun v s' hv => ?_) fun _ _ z => z)
  obtain ⟨x, H', I', rx, i, rfl, hi, hq⟩ := hv
  obtain ⟨t, rfl⟩ := rx
  exact ⟨hi, .int i, H', I'.tok _, ⟨_, rfl⟩, hq⟩
/-- str(o) -/
def rStrO (C : Addr) (sp : Sp) (E : XK) : List V → Hp → VK → Prop := fun xs H Q => ∃ (a dx : Addr) (fs : List (Str × V)), xs = [.ref a] ∧ H a = some (.ins C dx fs) ∧ sp [.ref a] H (fun v H' => ∃ y : Str, v = .str y ∧ Q (.str y) H') E
theorem call_strO (o : Own X.K C "__str__" f) (F : FnOk X.prog X.w X.K X.mg X.base CX n f fd ps sp) (hr : Room (n + 2) X.A) (hb : Binds X.K fd ps []) (hx : Passes CX X E) : CallR X (.type "str") (rStrO C sp E) := by
  intro pins s σ H xs us Q I r h
  obtain ⟨a, dx, fs, rfl, ha, q⟩ := h
  obtain ⟨u, rfl, ru⟩ := vals1 r
  cases (show u = Value.ref a from ru)
  obtain ⟨mA, J, _⟩ := ins_get I.hok ha
  obtain ⟨od, J, _⟩ := J.look
  have r2 : Room n X.A.in1.in1 := hr.in1.in1
  refine PySem.W.kso_call r2.units0 I.kIn J o.at_ o.fn (wpAny_mono (run_in F r2 rfl hb hx I r q) (fun v s' hv => ?_) fun _ _ z => z)
  obtain ⟨x, H', I', rx, y, rfl, hq⟩ := hv
  obtain ⟨t, rfl⟩ := rx
  exact ⟨.str y, H', I', ⟨_, rfl⟩, hq⟩
end
end My

namespace My
open PySem PySem.Spec PyProof.Rows L2 Evl
/-! ### list(d.values()) -/
def tListVals (te : TE) : TE := fun σ H Q => te σ H fun x H1 => ∃ (d : Addr) (kvs : List (Key × V)), x = .ref d ∧ H1 d = some (.dK kvs) ∧ ∀ p, H1 p = none → Q (.ref p) (upd H1 p (.lst (kvs.map (·.2))))
theorem vals_of_kv : ∀ {kvs : List (Key × V)} {vs : List (Key × Value)}, KV kvs vs → Vals (kvs.map (·.2)) (vs.map (·.2))
  | _, _, .nil => .nil
  | _, _, .cons h t => .cons h.2 (vals_of_kv t)
section
variable {X : Cx} {e : Expr} {te : TE} {p apos cpos pos : Pos}
theorem pe_listVals (calm : X.calm = true) (he : PE X e te) (hg : Gl X "list") (hm : X.mg "list" = none) (base : attributeBase e "values" X.env (eval e X.env) = eval e X.env := by rfl) (row : (apos.endLine == cpos.line) = true := by rfl)
    (each : starEach [.Call (.Attribute e "values" apos) [] [] cpos] X.env = (false, eval (.Call (.Attribute e "values" apos) [] [] cpos) X.env) :: starEach [] X.env := by rfl) :
    PE X (.Call (.Name "list" p) [.Call (.Attribute e "values" apos) [] [] cpos] [] pos) (tListVals te) := by
  constructor; intro pins s σ H Q I want
  refine wpAny_Call_Name_kw (ld_blt I hg hm boot_list ?_)
  refine PyProof.Rows.callWith_type1 ?_ each rfl
  rw [each]
  show wpAny _ _ (spliced ((false, eval (.Call (.Attribute e "values" apos) [] [] cpos) X.env) :: backTo pos (starEach [] X.env))) _ _ s
  refine Calls.spliced_cons ?_
  refine wpAny_Call_method (T := "dict") (id := "dict.values") base rfl row F.plainAttrs_dict F.slot_dict_values F.type_dict_values (thn (he.run pins s σ H _ I want) fun u s1 ⟨x, H1, I1, rx, d, kvs, ex, hd, q⟩ => ?_)
  subst ex
  cases (show u = Value.ref d from rx)
  obtain ⟨few, low, vs, kv, hdo⟩ := I1.hok d _ hd
  obtain ⟨ep, hat⟩ := hdo.dictAt
  have lk : kvs.length = vs.length := Paired.length kv
  have I2 : Inv X pins σ H1 { s1 with heap := s1.heap.push { cls := .type "dict_values", data := .fields #[.ref d] } } := I1.kept (t' := s1.toks) fun b ob z => Heap.get?_push_of_some _ z
  refine ⟨hdo.typeIs, hdo.mapOf.noDict, ?_⟩
  show wpAny _ _ (callWith cpos (.builtin "dict.values") [.ref d] [] []) _ X.xe s1
  refine method_meetsIn F.slot_dict_values F.entry_dict_values rfl (PySem.evalArgs_none ⟨rfl, hdo.typeIs, F.args_dict_values_1 _, _, meets_dict_values (mixKind X.prog X.w) d low, ⟨vs, hdo⟩, ?_⟩)
  refine Calls.spliced_nil ?_
  refine PySem.W.kdl_call (PySem.W.kdl_values (knd := mixKind X.prog X.w) (kvs := vs) (ep := ep)) (I1.ok.hd calm) ⟨⟨_, Heap.get?_push_size _ rfl, rfl, rfl⟩, hat.push _⟩ (by omega) fun h' tk acc c keep hS got => ?_
  have eq : acc.toList = vs.map (·.2) := PySem.W.kdl_vals_eq acc.toList (by rw [Array.length_toList, got.1]) fun j v hj => got.2 j v (by rw [← Array.getElem?_toList]; exact hj)
  refine ⟨.ref _, upd H1 _ (.lst (kvs.map (·.2))), I2.laid (t' := tk) keep (Nat.le_refl _) (show ObjOk X.prog X.w _ _ _ (.lst (kvs.map (·.2))) from ⟨?_, acc.toList, c, ?_, ?_⟩), rfl, q _ (I2.hok.fresh (Nat.le_refl _))⟩
  · rw [List.length_map]; omega
  · rw [eq]; exact vals_of_kv kv
  · rw [Array.toArray_toList]; exact hS
end
section
variable {σ : L2.St} {H : Hp} {te : TE}
theorem el_vals {d : Addr} {kvs : List (Key × V)} (h : Ev te σ H (.ref d)) (hd : H d = some (.dK kvs)) : EvL (tListVals te) σ H (kvs.map (·.2)) := fun H1 e1 Q q =>
  h H1 e1 _ fun H2 e2 => ⟨d, kvs, rfl, (e1.trans e2) _ _ hd, fun p hp => q p _ (fresh_back e2 hp) (e2.trans (Ex.new hp)) upd_same⟩
end
end My

namespace My
open PySem PySem.Spec PyProof.Rows L2 Evl
section
variable {K : PySem.W.Frag} {σ : L2.St} {H : Hp} {te : TE} {ta : TA} {j : Nat} {vs : List Nat} {Q : VK}
/-- a comprehension over range(n) whose element may change things: Pv by the list, the turn and the heap -/
theorem w_lcR {n : Nat} (h : EvA ta σ H [.int (n : Int)]) (hn : n ≤ 40000) (hw : ∀ x, wipe ((wipe σ vs).set j (some x)) vs = wipe σ vs) (Pv : Addr → Nat → Hp → Prop) (h0 : ∀ D H1, Ex H H1 → H1 D = none → Pv D 0 (upd H1 D (.lst [])))
    (hs : ∀ D i H', i < n → Pv D i H' → te ((wipe σ vs).set j (some (.int (i : Int)))) H' fun y H4 => ∃ acc, H4 D = some (.lst acc) ∧ acc.length < sizeLine ∧ Pv D (i + 1) (upd H4 D (.lst (acc ++ [y])))) (hd : ∀ D H', Pv D n H' → Q (.ref D) H') :
    tLc (iRng1 ta) (gName j) tYes te vs σ H Q := h H (Ex.refl H) _ fun H1 e1 => ⟨(n : Int), rfl, by omega, by omega, fun D hD =>
  lc_range (lo := 0) (n := (n : Int).toNat) (Pv D) (h0 D H1 e1 hD) (fun i H' hi p => by
    have e0 : (0 : Int) + (i : Int) = (i : Int) := Int.zero_add _
    show wipe ((wipe σ vs).set j (some (.int ((0 : Int) + (i : Int))))) vs = wipe σ vs ∧ (if true = true then te ((wipe σ vs).set j (some (.int ((0 : Int) + (i : Int))))) H' fun y H4 => ∃ acc, H4 D = some (.lst acc) ∧ acc.length < sizeLine ∧ Pv D (i + 1) (upd H4 D (.lst (acc ++ [y]))) else Pv D (i + 1) H')
    rw [e0, if_pos rfl]
    exact ⟨hw _, hs D i H' (by omega) p⟩) (fun H' p => hd D H' (by simpa using p))⟩
end
/-- labels: where the same number stands first -/
def labOf (ds : List Int) (d : Int) : Nat := ds.findIdx fun z => decide (z = d)
structure LabOk (count : Nat) (ls : List Nat) : Prop where
  n : ls.length = count
  le : ∀ k, k < count → ls.getD k 0 ≤ k
  id : ∀ k, k < count → ls.getD (ls.getD k 0) 0 = ls.getD k 0
theorem lab_at {ds : List Int} {k : Nat} (h : k < ds.length) : labOf ds ds[k] ≤ k := by
  rcases Nat.lt_or_ge k (labOf ds ds[k]) with z | z
  · exact absurd (List.not_of_lt_findIdx z) (by simp)
  · exact z
theorem lab_in {ds : List Int} {k : Nat} (h : k < ds.length) : ∃ h' : labOf ds ds[k] < ds.length, ds[labOf ds ds[k]] = ds[k] := by
  have h' : labOf ds ds[k] < ds.length := Nat.lt_of_le_of_lt (lab_at h) h
  have q := List.findIdx_getElem (xs := ds) (p := fun z => decide (z = ds[k])) (w := h')
  exact ⟨h', of_decide_eq_true q⟩
theorem labels_ok (ds : List Int) : LabOk ds.length (ds.map (labOf ds)) := by
  have g : ∀ k (h : k < ds.length), (ds.map (labOf ds)).getD k 0 = labOf ds ds[k] := fun k h => by
    simp [List.getD_eq_getElem?_getD, List.getElem?_map, List.getElem?_eq_getElem h]
  refine ⟨by simp, fun k h => by rw [g k h]; exact lab_at h, fun k h => ?_⟩
  obtain ⟨h', e⟩ := lab_in h
  rw [g k h, g _ h', e]
/-- the index of an int in a list of ints -/
theorem rv_idx {K : PySem.W.Frag} {H : Hp} {a : Addr} {ds : List Int} {d : Int} {Q : VK} (h : SqL K H a (ds.map V.int)) (hd : d ∈ ds) (q : Q (.int (labOf ds d : Nat)) H) : rIndex K (.ref a) [.int d] H Q := by
  have lt : labOf ds d < ds.length := List.findIdx_lt_length_of_exists ⟨d, hd, by simp⟩
  have at_ := List.findIdx_getElem (xs := ds) (p := fun z => decide (z = d)) (w := lt)
  refine ⟨a, ds.map V.int, .int d, labOf ds d, .int ds[labOf ds d], rfl, rfl, h, rfl, ?_, ?_, ?_, fun m z hm hz => ?_, q⟩
  · rw [List.all_map, List.all_eq_true]; intro x _; rfl
  · rw [List.getElem?_map, List.getElem?_eq_getElem lt]; rfl
  · exact beq_iff_eq.mpr (of_decide_eq_true at_)
  · have lm : m < ds.length := Nat.lt_trans hm lt
    rw [List.getElem?_map, List.getElem?_eq_getElem lm] at hz
    obtain rfl : z = V.int ds[m] := (Option.some.inj hz).symm
    have := List.not_of_lt_findIdx hm
    exact beq_eq_false_iff_ne.mpr (by simpa using this)
theorem ev_idx {K : PySem.W.Frag} {σ : L2.St} {H : Hp} {to te : TE} {a : Addr} {ds : List Int} {d : Int} (ho : Ev to σ H (.ref a)) (he : Ev te σ H (.int d)) (h : SqL K H a (ds.map V.int)) (hd : d ∈ ds) : Ev (tBM K "list" (rIndex K) to (tCons te tNil)) σ H (.int (labOf ds d : Nat)) := fun H1 e Q q =>
  ho H1 e _ fun H2 e2 => ⟨Or.inl ⟨rfl, _, ex_l (e.trans e2) h⟩, he H2 (e.trans e2) _ fun H3 e3 => rv_idx (ex_l ((e.trans e2).trans e3) h) hd (q H3 (e2.trans e3))⟩
end My
namespace My
open PySem PySem.Spec PyProof.Rows L2 Evl
section
variable {K : PySem.W.Frag} {σ : L2.St} {H : Hp} {te ta tb td ty tv : TE} {t u : TT} {D : Ends} {tz : TS}
theorem w_and {a : Bool} {Q : Bool → Hp → Prop} (h : EvT t σ H a) (k1 : a = true → ∀ H1, Ex H H1 → u σ H1 Q) (k2 : a = false → ∀ H1, Ex H H1 → Q false H1) : tAnd t u σ H Q := h H (Ex.refl H) _ fun H1 e1 => by
  cases a with
  | true => exact k1 rfl H1 e1
  | false => exact k2 rfl H1 e1
theorem w_or {a : Bool} {Q : Bool → Hp → Prop} (h : EvT t σ H a) (k1 : a = true → ∀ H1, Ex H H1 → Q true H1) (k2 : a = false → ∀ H1, Ex H H1 → u σ H1 Q) : tOr t u σ H Q := h H (Ex.refl H) _ fun H1 e1 => by
  cases a with
  | true => exact k1 rfl H1 e1
  | false => exact k2 rfl H1 e1
theorem dp_strs {H : Hp} : ∀ cs : List Str, DpAll K H (cs.map V.str) (cs.map PyData.str)
  | [] => .nil
  | c :: cs => .cons (.str c) (dp_strs cs)
theorem lay_strs : ∀ cs : List Str, (∀ c ∈ cs, PyData.strOk c = true) → PyData.canLayAll0 (cs.map PyData.str) = true
  | [], _ => rfl
  | c :: t, h => by simp [PyData.canLayAll0, PyData.canLay0, lay_strs t fun x hx => h x (List.mem_cons_of_mem _ hx), h c (List.mem_cons_self ..)]
theorem deep_strs : ∀ cs : List Str, PyData.depthAll (cs.map PyData.str) = 0
  | [] => rfl
  | c :: t => by simp [PyData.depthAll, PyData.depth, deep_strs t]
theorem shaped_strs (cs : List Str) (h : ∀ c ∈ cs, PyData.strOk c = true) : SeqAt.shaped (.list (cs.map PyData.str)) = true := by
  unfold SeqAt.shaped
  simp [PyData.canLay0, PyData.depth, lay_strs cs h, deep_strs]
/-- xs != [] of texts -/
theorem ev_ne_nil {cs : List Str} {a : Addr} (hc : ∀ c ∈ cs, PyData.strOk c = true) (h : Ev te σ H (.ref a)) (hx : H a = some (.lst (cs.map V.str))) : Ev (tOp (rNeD K) te (tLst tNil)) σ H (.bl (!decide (cs = []))) :=
  ev_opL h (el_lst ea_nil (by decide)) fun p H2 hp e2 => rv_neD (d := .list (cs.map PyData.str)) (e := .list []) (.lst (SqL.of (e2 _ _ hx)) (dp_strs cs)) (.lst (SqL.of hp) .nil) (shaped_strs cs hc) (shaped_ints []) (by cases cs <;> rfl)
theorem w_sdput (h : tv σ H fun v H1 => td σ H1 fun x H2 => ty σ H2 fun y H3 => ∃ a H4, x = .ref a ∧ DPut H3 a y v H4 ∧ D.nx σ H4) : sDPut td ty tv D σ H := h
/-- d[k] = v, the value made -/
theorem w_dput {d : Addr} {kvs : List (Key × V)} {k : Key} {v : V} (hd : Ev td σ H (.ref d)) (hy : Ev ty σ H (kV k)) (h : H d = some (.dK kvs)) (few : kvs.length < 1000) (no : k ∉ kvs.map (·.1)) (q : ∀ H1, Ex H H1 → D.nx σ (upd H1 d (.dK (kvs ++ [(k, v)])))) :
    td σ H fun x H2 => ty σ H2 fun y H3 => ∃ a H4, x = .ref a ∧ DPut H3 a y v H4 ∧ D.nx σ H4 :=
  hd H (Ex.refl H) _ fun H1 e1 => hy H1 e1 _ fun H2 e2 => ⟨d, _, rfl, DPut.k ((e1.trans e2) _ _ h) (sz_lt (by omega)), by rw [putK_new _ (not_valV no)]; exact q H2 (e1.trans e2)⟩
end
end My
namespace My
open PySem PySem.Spec PyProof.Rows L2 Evl
section
variable {K : PySem.W.Frag} {σ : L2.St} {H : Hp} {te ta tb td ty tv : TE} {t u : TT} {D : Ends} {tz : TS}
theorem el_if {b : Bool} {xs : List V} (h : EvT t σ H b) (h1 : b = true → EvL ta σ H xs) (h2 : b = false → EvL tb σ H xs) : EvL (tIf t ta tb) σ H xs := fun H1 e Q q => h H1 e _ fun H2 e2 => by
  cases b with
  | true =>
    show ta σ H2 Q
    exact h1 rfl H2 (e.trans e2) Q fun p H3 hp e3 h3 => q p H3 (fresh_back e2 hp) (e2.trans e3) h3
  | false =>
    show tb σ H2 Q
    exact h2 rfl H2 (e.trans e2) Q fun p H3 hp e3 h3 => q p H3 (fresh_back e2 hp) (e2.trans e3) h3
theorem ev_din {d : Addr} {kvs : List (Key × V)} {k : Key} (hy : Ev ty σ H (kV k)) (hd : Ev td σ H (.ref d)) (h : H d = some (.dK kvs)) : Ev (tDIn ty td) σ H (.bl (valV kvs k).isSome) := fun H1 e Q q =>
  hy H1 e _ fun H2 e2 => hd H2 (e.trans e2) _ fun H3 e3 => ⟨d, _, rfl, DGet.k (((e.trans e2).trans e3) _ _ h), q H3 (e2.trans e3)⟩
theorem ev_dget {d : Addr} {kvs : List (Key × V)} {k : Key} {v : V} (hd : Ev td σ H (.ref d)) (hy : Ev ty σ H (kV k)) (h : H d = some (.dK kvs)) (hv : valV kvs k = some v) : Ev (tDGet td ty) σ H v := fun H1 e Q q =>
  hd H1 e _ fun H2 e2 => hy H2 (e.trans e2) _ fun H3 e3 => ⟨d, v, rfl, by rw [← hv]; exact DGet.k (((e.trans e2).trans e3) _ _ h), q H3 (e2.trans e3)⟩
theorem el_catL {a : Addr} {xs zs : List V} (ha : Ev ta σ H (.ref a)) (h1 : H a = some (.lst xs)) (hb : EvL tb σ H zs) (hz : xs.length + zs.length ≤ 100000) : EvL (tOp rCat ta tb) σ H (xs ++ zs) := fun H1 e Q q =>
  ha H1 e _ fun H2 e2 => hb H2 (e.trans e2) _ fun b H3 _ e3 h3 => ⟨a, b, xs, zs, rfl, rfl, ((e.trans e2).trans e3) _ _ h1, h3, sz_of hz, fun p hp => q p _ (fresh_back (e2.trans e3) hp) ((e2.trans e3).trans (Ex.new hp)) upd_same⟩
end
end My

namespace My
open PySem PySem.Spec PyProof.Rows L2 Evl
section
variable {K : PySem.W.Frag} {σ : L2.St} {H : Hp} {te ta tb : TE} {t : TT} {x : V}
/-- a comprehension over rows, for each a new list -/
theorem w_lcNew {wi : TI} {j : Nat} {vs : List Nat} {as : List Addr} {bs : List (List Str)} (g : List Str → List V) {Q : VK} (hr : Paired (fun a xs => SqA K H a (xs.map V.str)) as bs) (n : bs.length ≤ 1000)
    (hi : ∀ H1, Ex H H1 → ∀ R : It → Hp → Prop, (∀ J H2, Ex H1 H2 → (∃ G, Walk J (as.map V.ref).length G (fun i H3 x H4 => H4 = H3 ∧ (as.map V.ref)[i]? = some x) ∧ ∀ H3, Ex H2 H3 → G H3) → R J H2) → wi σ H1 R)
    (hw : ∀ x, wipe ((wipe σ vs).set j (some x)) vs = wipe σ vs)
    (he : ∀ (a : Addr) (b : List Str) H1, Ex H H1 → b ∈ bs → SqA K H1 a (b.map V.str) → EvL te ((wipe σ vs).set j (some (.ref a))) H1 (g b))
    (k : ∀ p cs H2, H p = none → Ex H H2 → H2 p = some (.lst (cs.map V.ref)) → Paired (fun a xs => H a = none ∧ H2 a = some (.lst xs)) cs (bs.map g) → Q (.ref p) H2) : tLc wi (gName j) tYes te vs σ H Q := by
  have hlen : as.length = bs.length := Paired.length hr
  have ln : (as.map V.ref).length = bs.length := by rw [List.length_map, hlen]
  refine hi H (Ex.refl H) _ fun J H1 e1 ⟨G, wk, hG⟩ D hD => ?_
  have hD0 := fresh_back e1 hD
  refine lc_it wk (fun i H' => Ex H H' ∧ Ex H1 H' ∧ ∃ cs, H' D = some (.lst (cs.map V.ref)) ∧ Paired (fun a xs => (H a = none ∧ a ≠ D) ∧ H' a = some (.lst xs)) cs ((bs.take i).map g)) ⟨Ex.mut e1 hD0, Ex.new hD, [], upd_same, .nil⟩ (fun i H' _ p => hG H' p.2.1) (fun i x H2 H' hi' p y => ?_) (fun H' p => ?_)
  · obtain ⟨rfl, hx⟩ := y
    obtain ⟨e2, e12, cs, hd, hp⟩ := p
    have hib : i < bs.length := by omega
    have hia : i < as.length := by omega
    rw [List.getElem?_map, List.getElem?_eq_getElem hia] at hx
    obtain rfl : x = V.ref as[i] := (Option.some.inj hx).symm
    have lcs : cs.length = i := by
      have := Paired.length hp
      rw [List.length_map, List.length_take] at this
      omega
    refine ⟨hw _, ?_⟩
    dsimp only [tYes]
    rw [if_pos rfl]
    refine he as[i] bs[i] H' e2 (List.getElem_mem hib) ((paired_get hr hia hib).ex e2) H' (Ex.refl H') _ fun q H4 hq e4 h4 => ?_
    have qD : q ≠ D := fun z => by rw [z, hd] at hq; cases hq
    refine ⟨cs.map V.ref, e4 _ _ hd, sz_lt (by rw [List.length_map]; omega), Ex.mut (e2.trans e4) hD0, Ex.mut (e12.trans e4) hD, cs ++ [q], by rw [upd_same, List.map_append]; rfl, ?_⟩
    rw [List.take_succ_eq_append_getElem hib, List.map_append]
    refine Paired.snoc (Paired.mapP hp fun a b z => ⟨z.1, by rw [upd_ne z.1.2]; exact e4 _ _ z.2⟩) ⟨⟨fresh_back e2 hq, qD⟩, by rw [upd_ne qD]; exact h4⟩
  · obtain ⟨e2, e12, cs, hd, hp⟩ := p
    rw [ln, List.take_length] at hp
    exact k D cs H' hD0 e2 hd (Paired.mapP hp fun a b z => ⟨z.1.1, z.2⟩)
/-- lists of lists of texts as data -/
def dRows (rows : List (List Str)) : PyData := .list (rows.map fun r => .list (r.map PyData.str))
theorem dp_rows {as : List Addr} {rows : List (List Str)} (h : Paired (fun a xs => SqL K H a (xs.map V.str)) as rows) : DpAll K H (as.map V.ref) (rows.map fun r => PyData.list (r.map PyData.str)) := by
  induction h with
  | nil => exact .nil
  | cons a _ ih => exact .cons (.lst a (dp_strs _)) ih
theorem lay_rows : ∀ rows : List (List Str), (∀ r ∈ rows, ∀ c ∈ r, PyData.strOk c = true) → PyData.canLayAll0 (rows.map fun r => PyData.list (r.map PyData.str)) = true
  | [], _ => rfl
  | r :: t, h => by
    have a := lay_rows t fun x hx => h x (List.mem_cons_of_mem _ hx)
    have b := lay_strs r (h r (List.mem_cons_self ..))
    simp [PyData.canLayAll0, PyData.canLay0, a, b]
theorem deep_rows : ∀ rows : List (List Str), PyData.depthAll (rows.map fun r => PyData.list (r.map PyData.str)) ≤ 1
  | [] => Nat.zero_le _
  | r :: t => by
    have a := deep_rows t
    have b := deep_strs r
    simp only [List.map_cons, PyData.depthAll, PyData.depth, b]
    omega
theorem rows_canLay (rows : List (List Str)) (h : ∀ r ∈ rows, ∀ c ∈ r, PyData.strOk c = true) : (dRows rows).canLay0 = true := by
  unfold dRows
  simp [PyData.canLay0, lay_rows rows h]
theorem shaped_rows (rows : List (List Str)) (h : ∀ r ∈ rows, ∀ c ∈ r, PyData.strOk c = true) : SeqAt.shaped (dRows rows) = true := by
  unfold SeqAt.shaped
  rw [rows_canLay rows h]
  have := deep_rows rows
  show decide ((dRows rows).depth ≤ 64) = true
  refine decide_eq_true ?_
  unfold dRows
  simp only [PyData.depth]
  omega
theorem rv_eqRows {a b : Addr} {as cs : List Addr} {rows : List (List Str)} (ok : ∀ r ∈ rows, ∀ c ∈ r, PyData.strOk c = true) (ha : H a = some (.lst (as.map V.ref))) (hb : H b = some (.lst (cs.map V.ref))) (h1 : Paired (fun a xs => SqL K H a (xs.map V.str)) as rows) (h2 : Paired (fun a xs => SqL K H a (xs.map V.str)) cs rows) : RV (rEqD K) (.ref a) (.ref b) H (.bl true) :=
  rv_eqD (d := dRows rows) (e := dRows rows) (.lst (SqL.of ha) (dp_rows h1)) (.lst (SqL.of hb) (dp_rows h2)) (shaped_rows rows ok) (shaped_rows rows ok) (SeqAt.eqv_refl _ (rows_canLay rows ok))
theorem rv_neRows {a b : Addr} {as cs : List Addr} {rows : List (List Str)} (ok : ∀ r ∈ rows, ∀ c ∈ r, PyData.strOk c = true) (ha : H a = some (.lst (as.map V.ref))) (hb : H b = some (.lst (cs.map V.ref))) (h1 : Paired (fun a xs => SqL K H a (xs.map V.str)) as rows) (h2 : Paired (fun a xs => SqL K H a (xs.map V.str)) cs rows) : RV (rNeD K) (.ref a) (.ref b) H (.bl false) :=
  rv_neD (d := dRows rows) (e := dRows rows) (.lst (SqL.of ha) (dp_rows h1)) (.lst (SqL.of hb) (dp_rows h2)) (shaped_rows rows ok) (shaped_rows rows ok) (by rw [SeqAt.eqv_refl _ (rows_canLay rows ok)]; rfl)
theorem rv_neStrs {a b : Addr} {cs : List Str} (ok : ∀ c ∈ cs, PyData.strOk c = true) (ha : SqL K H a (cs.map V.str)) (hb : SqL K H b (cs.map V.str)) : RV (rNeD K) (.ref a) (.ref b) H (.bl false) :=
  rv_neD (d := .list (cs.map PyData.str)) (e := .list (cs.map PyData.str)) (.lst ha (dp_strs cs)) (.lst hb (dp_strs cs)) (shaped_strs cs ok) (shaped_strs cs ok) (by rw [SeqAt.eqv_refl _ (by simp [PyData.canLay0, lay_strs cs ok])]; rfl)
theorem ev_isT {T U : String} {b : Bool} (h : Ev te σ H x) (ty : ∀ H', Ex H H' → TyX K H' x (.type T)) (k : PySem.W.kitOne K (.type T) (.type U) = some b) : Ev (tCB (rIsi K) (tCons te (tCons (tC (.ty U)) tNil))) σ H (.bl b) := fun H1 e1 Q q =>
  h H1 e1 _ fun H2 e2 => ⟨x, .ty U, .type T, .type U, b, rfl, .ty U, ty H2 (e1.trans e2), k, q H2 e2⟩
end
end My

namespace My
open PySem PySem.Spec PyProof.Rows L2 Evl
def top (i : Nat) : Stmt := PySem.Challenge.pw_ownersagree_k09_patterns_made.main.body.getD i (.Pass ⟨0, 0, 0, 0⟩)
/-! ### the drawing state: at st, its rest at l -/
def Ext (st l : Addr) (H H' : Hp) : Prop := ∀ b o, b ≠ st → b ≠ l → H b = some o → H' b = some o
theorem Ext.refl {st l : Addr} {H : Hp} : Ext st l H H := fun _ _ _ _ e => e
theorem Ext.trans {st l : Addr} {H H1 H2 : Hp} (a : Ext st l H H1) (b : Ext st l H1 H2) : Ext st l H H2 := fun c o n m e => b c o n m (a c o n m e)
theorem Ext.same {st l : Addr} {H H1 : Hp} (a : Same H H1) : Ext st l H H1 := fun c o _ _ e => a c o e
theorem Ext.upd1 {st l : Addr} {H H1 : Hp} {o : HO} (a : Ext st l H H1) : Ext st l H (upd H1 st o) := fun c u n m e => by rw [upd_ne n]; exact a c u n m e
theorem Ext.upd2 {st l : Addr} {H H1 : Hp} {o : HO} (a : Ext st l H H1) : Ext st l H (upd H1 l o) := fun c u n m e => by rw [upd_ne m]; exact a c u n m e
theorem Same.new {H : Hp} {p : Addr} {o : HO} (h : H p = none) : Same H (upd H p o) := fun b u e => by rw [upd_ne (ne_of_none e h)]; exact e
structure StAt (H : Hp) (st l : Addr) : Prop where
  ne : st ≠ l
  ex : ∃ (cs : List Int) (b c d : Int), H st = some (.lst [.ref l, .int b, .int c, .int d]) ∧ H l = some (.lst (cs.map V.int)) ∧ cs.length ≤ 63
theorem StAt.same {H H' : Hp} {st l : Addr} (S : StAt H st l) (e : Same H H') : StAt H' st l := by
  obtain ⟨n, cs, b, c, d, h1, h2, h3⟩ := S
  exact ⟨n, cs, b, c, d, e _ _ h1, e _ _ h2, h3⟩
theorem StAt.off {H : Hp} {st l p : Addr} (S : StAt H st l) (h : H p = none) : p ≠ st ∧ p ≠ l := by
  obtain ⟨n, cs, b, c, d, h1, h2, h3⟩ := S
  exact ⟨(ne_of_none h1 h).symm, (ne_of_none h2 h).symm⟩
theorem dp_ints {K : PySem.W.Frag} {H : Hp} : ∀ cs : List Int, DpAll K H (cs.map V.int) (cs.map PyData.int)
  | [] => .nil
  | c :: cs => .cons (.int c) (dp_ints cs)
abbrev sState : Stmt := top 27
abbrev sDraw : Stmt := top 28
/-- what the top leaves of the names that a draw needs -/
structure TD (mg : Str → Option Value) : Prop where
  n_int : mg "int" = none
  n_abs : mg "abs" = none
  n_range : mg "range" = none
  n_len : mg "len" = none
  n_list : mg "list" = none
def spState (K : PySem.W.Frag) : Sp := fun vs H Q _ => ∃ (a : Addr) (ns : List Int), vs = [.ref a] ∧ SqL K H a (ns.map V.int) ∧ ∀ (H' : Hp) (st l : Addr), Same H H' → StAt H' st l → H st = none → H l = none → Q (.ref st) H'
def spDraw : Sp := fun vs H Q _ => ∃ (st l : Addr) (n : Int), vs = [.ref st, .int n] ∧ StAt H st l ∧ 0 < n ∧ n < 1000000000 ∧
  ∀ (r : Int) (H' : Hp), 0 ≤ r → r < n → Ext st l H H' → StAt H' st l → Q (.int r) H'
section
variable {P : Program} {w : World} {K : PySem.W.Frag} {mg : Str → Option Value} {base : Heap}
theorem scD : FnScope ["st", "limit", "cell", "digit"] ["st", "limit"] (defScope sDraw) := ⟨rfl, rfl, rfl, by decide +kernel, rfl, by decide +kernel, by decide +kernel⟩
theorem ok_draw {f : Addr} {fd : FuncData} (F : Fun K "_law_draw" "_law_draw" sDraw f fd) (T : TD mg) : FnOk P w K mg base CX0 1 f fd ["st", "limit"] spDraw := by
  refine F.ok scD (fun vs H Q E h => ?_) (fun cdv A outer s H vs Q E hr h => ?_)
  · obtain ⟨st, l, n, rfl, _⟩ := h
    rfl
  · obtain ⟨st, l, n, rfl, ⟨hne, cs, b, c, d, h1, h2, h3⟩, hn, hn2, k⟩ := h
    have hu64 := hr.units
    refine ⟨_, (pss_cut (ps_if (PW.pt (pw_and (pt_cmpR op_eq (pe_ix (ixL K) (pv 0) pe_int (fun _ _ => rfl)) pe_int (nomark _)) (pw_and1 (pt_cmpR (neDK K hu64) (pe_ix (ixL K) (pv 0) pe_int (fun _ _ => rfl)) (pe_lst pa_nil) (nomark _)))))
      (pss_cons (ps_set (i := 2) scD.nd rfl (Or.inl rfl) (pe_op op_modN (pe_callTy call_int1 (by rfl) T.n_int (by decide +kernel) (pa_cons (bmK K PySem.F.plainAttrs_list PySem.F.slot_list_pop PySem.F.type_list_pop mt_popAt (pe_ix (ixL K) (pv 0) pe_int (fun _ _ => rfl)) (pa_cons pe_int pa_nil)) pa_nil)) (pe_op op_powB (pe_op op_pow pe_int pe_int) pe_int)))
      (pss_one (ps_if (pt_cmpR op_ge (pv 2) (pe_op op_pow pe_int pe_int) (nomark _))
        (pss_one (ps_asg (pv 2) (pg_sub (pv 0) pe_int set_list)))
        (pss_one (ps_asg (pe_op op_modN (pe_callTy call_int1 (by rfl) T.n_int (by decide +kernel) (pa_cons (pe_op op_add (pe_op op_add (pe_op op_mul (pe_ix (ixL K) (pv 0) pe_int (fun _ _ => rfl)) pe_int) (pe_op op_mul (pv 2) pe_int)) pe_int) pa_nil)) pe_int) (pg_sub (pv 0) pe_int set_list))))))
      pss_nil)
    (pss_cons (ps_if (pt_cmpR op_gt (pe_ix (ixL K) (pv 0) pe_int (fun _ _ => rfl)) pe_int (nomark _))
      (pss_cons (ps_set (i := 3) scD.nd rfl (Or.inl rfl) (pe_op op_modN (pe_callTy call_int1 (by rfl) T.n_int (by decide +kernel) (pa_cons (pe_ix (ixL K) (pv 0) pe_int (fun _ _ => rfl)) pa_nil)) (pv 1)))
      (pss_cons (ps_asg (pe_op op_fdivN (pe_ix (ixL K) (pv 0) pe_int (fun _ _ => rfl)) (pv 1)) (pg_sub (pv 0) pe_int set_list))
      (pss_one (ps_ret (pv 3)))))
      pss_nil)
    (pss_cons (ps_asg (pe_op op_add (pe_ix (ixL K) (pv 0) pe_int (fun _ _ => rfl)) pe_int) (pg_sub (pv 0) pe_int set_list))
    (pss_cons (ps_asg (pe_op op_modN (pe_callTy call_int1 (by rfl) T.n_int (by decide +kernel) (pa_cons (pe_op op_add (pe_op op_mul (pe_ix (ixL K) (pv 0) pe_int (fun _ _ => rfl)) pe_int) (pe_op op_mul (pe_ix (ixL K) (pv 0) pe_int (fun _ _ => rfl)) pe_int)) pa_nil)) pe_int) (pg_sub (pv 0) pe_int set_list))
    (pss_one (ps_ret (pe_op op_modN (pe_op op_modN (pe_callTy call_int1 (by rfl) T.n_int (by decide +kernel) (pa_cons (pe_op op_add (pe_op op_mul (pe_ix (ixL K) (pv 0) pe_int (fun _ _ => rfl)) pe_int) (pe_ix (ixL K) (pv 0) pe_int (fun _ _ => rfl))) pa_nil)) pe_int) (pv 1)))))))), ?_⟩
    refine q_cut (M := fun σ H' => ∃ (cs : List Int) (b c d : Int) (v : Option V), σ = [some (.ref st), some (.int n), v, none] ∧ H' st = some (.lst [.ref l, .int b, .int c, .int d]) ∧ H' l = some (.lst (cs.map V.int)) ∧ cs.length ≤ 63 ∧ Ext st l H H') ?_ ?_
    · refine s_when (b := decide (b = 0) && !decide (cs = [])) (et_and (et_test (ev_is (ev_op (ev_op (ev_var rfl) ev_c (rv_ixL (SqL.of h1) rfl)) ev_c (rv_eq rfl)) (by simp))) (fun _ => ?_)) (fun hb H1 e1 => ?_) (fun hb H1 e1 => ?_)
      · refine et_test (ev_opL (ev_op (ev_var rfl) ev_c (rv_ixL (SqL.of h1) rfl)) (el_lst ea_nil (by decide)) (fun p H2 hp e2 => rv_neD (d := .list (cs.map PyData.int)) (e := .list []) (.lst (SqL.of (e2 _ _ h2)) (dp_ints cs)) (.lst (SqL.of hp) .nil) (shaped_ints cs) (shaped_ints []) ?_))
        cases cs <;> rfl
      · obtain ⟨hb0, hcs⟩ : b = 0 ∧ cs ≠ [] := by simpa using hb
        obtain ⟨x, xs, rfl⟩ : ∃ x xs, cs = x :: xs := by cases cs with | nil => exact absurd rfl hcs | cons x xs => exact ⟨x, xs, rfl⟩
        refine ⟨_, rfl, _, _, _, _, rfl, rfl, SqL.of (e1 _ _ h1), rfl, .inl ⟨rfl, _, SqL.of (e1 _ _ h2)⟩, _, _, _, 0, _, rfl, rfl, e1 _ _ h2, by decide, by decide, by rw [seqIndex_of (by decide) (by simp)]; rfl, rfl, .inl ⟨_, rfl, ?_⟩⟩
        refine ⟨_, _, rfl, rfl, ⟨by decide, by decide, by decide⟩, _, _, rfl, rfl, ⟨by decide, by decide +kernel⟩, _, _, rfl, rfl, (by show ((10 : Int) ^ 50) ^ 8 ≠ 0; decide +kernel), ?_⟩
        dsimp only
        generalize (Int.fmod x _) = z
        generalize hH2 : upd H1 l _ = H2
        have m1 : H2 st = some (.lst [.ref l, .int b, .int c, .int d]) := by rw [← hH2, upd_ne hne]; exact e1 _ _ h1
        have m2 : H2 l = some (.lst (xs.map V.int)) := by rw [← hH2]; exact upd_same
        have m3 : Ext st l H H2 := by rw [← hH2]; exact (Ext.same e1).upd2
        have hxs : xs.length ≤ 63 := by simp at h3; omega
        refine s_if (b := decide (10 ^ 18 ≤ z)) (et_test (ev_op (ev_var rfl) (ev_op ev_c ev_c (rv_I ⟨by decide, by decide, by decide⟩)) rv_I0)) (fun _ H3 e3 => ?_) (fun _ H3 e3 => ?_)
        · refine s_setL (j := 1) (e3 _ _ m1) (ev_var rfl) (ev_var rfl) ev_c (by simp) (fun H4 e4 => ?_)
          exact ⟨xs, z, c, d, _, rfl, upd_same, by rw [upd_ne hne.symm]; exact (e3.trans e4) _ _ m2, hxs, (m3.trans (Ext.same (e3.trans e4))).upd1⟩
        · refine s_setL (j := 2) (e3 _ _ m1) (ev_op (ev_cb (ea_cons (ev_op (ev_op (ev_op (ev_op (ev_var rfl) ev_c (rv_ixL (SqL.of (e3 _ _ m1)) rfl)) ev_c (rv_I (.inr (by decide)))) (ev_op (ev_var rfl) ev_c (rv_I (.inr (by decide)))) rv_I0) ev_c rv_I0) ea_nil) rc_int) ev_c (rv_I (by decide))) (ev_var rfl) ev_c (by simp) (fun H4 e4 => ?_)
          exact ⟨xs, b, _, d, _, rfl, upd_same, by rw [upd_ne hne.symm]; exact (e3.trans e4) _ _ m2, hxs, (m3.trans (Ext.same (e3.trans e4))).upd1⟩
      · exact ⟨cs, b, c, d, none, rfl, e1 _ _ h1, e1 _ _ h2, h3, Ext.same e1⟩
    · rintro σ H0 ⟨cs, b, c, d, v, rfl, h1, h2, h3, hx⟩
      refine q_when (b := decide (0 < b)) (et_test (ev_op (ev_op (ev_var rfl) ev_c (rv_ixL (SqL.of h1) rfl)) ev_c rv_I0)) (fun hb H1 e1 => ?_) (fun hb H1 e1 => ?_)
      · refine q_asg (ev_op (ev_cb (ea_cons (ev_op (ev_var rfl) ev_c (rv_ixL (SqL.of (e1 _ _ h1)) rfl)) ea_nil) rc_int) (ev_var rfl) (rv_I (by omega))) (fun H2 e2 => ?_)
        have e12 := e1.trans e2
        refine q_setL (j := 1) (e12 _ _ h1) (ev_op (ev_op (ev_var rfl) ev_c (rv_ixL (SqL.of (e12 _ _ h1)) rfl)) (ev_var rfl) (rv_I ⟨by omega, by omega⟩)) (ev_var rfl) ev_c (by simp) (fun H3 e3 => ?_)
        refine s_ret (ev_var rfl) (fun H4 e4 => ?_)
        have g := fmod_rng (a := b) hn
        have e123 := e12.trans e3
        exact k _ _ g.1 g.2 ((hx.trans (Ext.same e123)).upd1.trans (Ext.same e4)) ⟨hne, cs, _, c, d, e4 _ _ upd_same, e4 _ _ (by rw [upd_ne hne.symm]; exact e123 _ _ h2), h3⟩
      · refine q_setL (j := 3) (e1 _ _ h1) (ev_op (ev_op (ev_var rfl) ev_c (rv_ixL (SqL.of (e1 _ _ h1)) rfl)) ev_c rv_I0) (ev_var rfl) ev_c (by simp) (fun H2 e2 => ?_)
        generalize hH3 : upd H2 st _ = H3
        have k1 : H3 st = some (.lst [.ref l, .int b, .int c, .int (d + 1)]) := by rw [← hH3]; exact upd_same
        have k2 : H3 l = some (.lst (cs.map V.int)) := by rw [← hH3, upd_ne hne.symm]; exact (e1.trans e2) _ _ h2
        have k3 : Ext st l H H3 := by rw [← hH3]; exact (hx.trans (Ext.same (e1.trans e2))).upd1
        refine q_setL (j := 2) k1 (ev_op (ev_cb (ea_cons (ev_op (ev_op (ev_op (ev_var rfl) ev_c (rv_ixL (SqL.of k1) rfl)) ev_c (rv_I (.inr (by decide)))) (ev_op (ev_op (ev_var rfl) ev_c (rv_ixL (SqL.of k1) rfl)) ev_c (rv_I (.inr (by decide)))) rv_I0) ea_nil) rc_int) ev_c (rv_I (by decide))) (ev_var rfl) ev_c (by simp) (fun H4 e4 => ?_)
        generalize hz : Int.fmod _ _ = z
        generalize hH5 : upd H4 st _ = H5
        have m1 : H5 st = some (.lst [.ref l, .int b, .int z, .int (d + 1)]) := by rw [← hH5]; exact upd_same
        have m2 : H5 l = some (.lst (cs.map V.int)) := by rw [← hH5, upd_ne hne.symm]; exact e4 _ _ k2
        have m3 : Ext st l H H5 := by rw [← hH5]; exact (k3.trans (Ext.same e4)).upd1
        refine s_ret (ev_op (ev_op (ev_cb (ea_cons (ev_op (ev_op (ev_op (ev_var rfl) ev_c (rv_ixL (SqL.of m1) rfl)) ev_c (rv_I (.inr (by decide)))) (ev_op (ev_var rfl) ev_c (rv_ixL (SqL.of m1) rfl)) rv_I0) ea_nil) rc_int) ev_c (rv_I (by decide))) (ev_var rfl) (rv_I (by omega))) (fun H6 e6 => ?_)
        have g := fmod_rng (a := Int.fmod (z * 16807 + (d + 1)) 2147483629) hn
        exact k _ _ g.1 g.2 (m3.trans (Ext.same e6)) ⟨hne, cs, _, _, _, e6 _ _ m1, e6 _ _ m2, h3⟩
end
end My
namespace My
open PySem PySem.Spec PyProof.Rows L2 Evl
theorem s_ret_lst {te : TE} {tr : TA} {D : Ends} {σ : L2.St} {H : Hp} {xs ws : List V} (h : EvL te σ H xs) (hr : ∀ H1, EvA tr σ H1 ws) (hl : ws.length < 1000) (k : ∀ p q H1, H p = none → Ex H H1 → H1 p = some (.lst xs) → H1 q = none → D.rt (.ref q) (upd H1 q (.lst (.ref p :: ws)))) : tRet (tLst (tCons te tr)) D σ H :=
  h H (Ex.refl H) _ fun p H1 hp e1 h1 => hr H1 H1 (Ex.refl H1) _ fun H2 e2 => ⟨Nat.le_of_lt (Nat.lt_of_le_of_lt (show ws.length + 1 ≤ 1000 from hl) (by decide)), fun q hq => k p q H2 hp (e1.trans e2) (e2 _ _ h1) hq⟩
theorem scS : FnScope ["script", "cell"] ["script"] (defScope sState) := ⟨rfl, rfl, rfl, by decide +kernel, rfl, by decide +kernel, by decide +kernel⟩
section
variable {P : Program} {w : World} {K : PySem.W.Frag} {mg : Str → Option Value} {base : Heap}
theorem ok_state {f : Addr} {fd : FuncData} (F : Fun K "_law_get_state" "_law_get_state" sState f fd) (T : TD mg) : FnOk P w K mg base CX0 1 f fd ["script"] (spState K) := by
  refine F.ok scS (fun vs H Q E h => ?_) (fun cdv A outer s H vs Q E hr h => ?_)
  · obtain ⟨a, ns, rfl, _⟩ := h
    rfl
  · obtain ⟨a, ns, rfl, hS, k⟩ := h
    refine ⟨_, (pss_one (ps_ret (pe_lst (pa_cons (pe_lc (own := [("cell", 1)]) (g := gName 1) (by rfl) scS.nd (piL K (pe_slice (slL K) (pv 0) po_none (po_some pe_int))) (blkOk_by (own := [("cell", 1)]) (N := ["script", "cell"]) (sc := defScope sState) (by decide +kernel)) (fun _ _ _ _ _ => (pg_name (i := 1) scS.nd rfl (Or.inl rfl))) (fun _ _ _ _ _ => pts_nil) (fun _ _ _ _ _ => (pe_op op_add (pe_op op_mul pe_int (pe_callB call_abs (by rfl) T.n_abs (by decide +kernel) (pa_cons (pv 1) pa_nil))) (pe_callTy call_int1 (by rfl) T.n_int (by decide +kernel) (pa_cons (pe_cmpR op_lt (pv 1) pe_int (nomark _)) pa_nil))))) (pa_cons pe_int (pa_cons pe_int (pa_cons pe_int pa_nil))))))), ?_⟩
    let g : Nat → Int := fun i => 2 * (if ns.getD i 0 < 0 then -(ns.getD i 0) else ns.getD i 0) + (if decide (ns.getD i 0 < 0) then 1 else 0)
    have hlen : (cutV (ns.map V.int) none (some 63)).length ≤ 63 := by
      unfold cutV
      rw [List.length_take]
      have := HT.sIx_nat (ns.map V.int).length (ns.map V.int).length 63
      have e : HT.sIx (ns.map V.int).length (ns.map V.int).length (some 63) = min 63 (ns.map V.int).length := this
      rw [e]
      omega
    have hget : ∀ (i : Nat) (x : V), (cutV (ns.map V.int) none (some 63))[i]? = some x → x = .int (ns.getD i 0) := fun i x hx => by
      unfold cutV at hx
      rw [HT.sIx_none, List.drop_zero] at hx
      have h2 := List.getElem?_take_of_lt (l := ns.map V.int) (i := i) (j := _) (by
        have := (List.getElem?_eq_some_iff.mp hx).1
        rw [List.length_take] at this
        exact Nat.lt_of_lt_of_le this (Nat.min_le_left _ _))
      rw [h2, List.getElem?_map] at hx
      cases e : ns[i]? with
      | none => rw [e] at hx; cases hx
      | some z =>
        rw [e] at hx
        rw [List.getD_eq_getElem?_getD, e]
        exact (Option.some.inj hx).symm
    refine s_ret_lst (ws := [.int 0, .int 1, .int 0]) (el_lcNL (fun _ => true) (fun i => V.int (g i)) (el_sl (ev_var rfl) eo_none (eo_some ev_c) hS) (Nat.le_trans hlen (by decide)) (fun x => rfl) (fun i x H1 e1 hx => et_yes) (fun i x H1 e1 hx _ => by
      rw [hget i x hx]
      exact ev_op (ev_op ev_c (ev_cb (ea_cons (ev_var rfl) ea_nil) rc_abs) (rv_I (.inl (by decide)))) (ev_cb (ea_cons (ev_op (ev_var rfl) ev_c rv_I0) ea_nil) rc_intB) rv_I0)) (fun H1 => ea_cons ev_c (ea_cons ev_c (ea_cons ev_c ea_nil))) (by decide) (fun p q H1 hp e1 h1 hq => ?_)
    rw [given_all] at h1
    refine k _ q p (e1.trans (Ex.new hq)) ⟨(ne_of_none h1 hq).symm, (List.range (cutV (ns.map V.int) none (some 63)).length).map g, 0, 1, 0, upd_same, ?_, ?_⟩ (fresh_back e1 hq) hp
    · rw [upd_ne (ne_of_none h1 hq), h1, List.map_map]
      rfl
    · rw [List.length_map, List.length_range]
      exact hlen
end
end My

namespace My
open PySem PySem.Spec PyProof.Rows L2 Evl
section
variable {σ : L2.St} {H : Hp} {st l : Addr} {n : Int} {Q : VK} {E : XK} {ta : TA} {D : Ends} {u : TS} {i : Nat}
theorem w_draw (ha : EvA ta σ H [.ref st, .int n]) (S : StAt H st l) (h0 : 0 < n) (h1 : n < 1000000000) (k : ∀ (r : Int) (H' : Hp), 0 ≤ r → r < n → Ext st l H H' → StAt H' st l → Q (.int r) H') : tCall spDraw [] E ta σ H Q :=
  w_call (w_eva ha fun H1 e1 => ⟨st, l, n, rfl, S.same e1, h0, h1, fun r H' r0 r1 e S' => k r H' r0 r1 ((Ext.same e1).trans e) S'⟩)
/-- x = draw(..) -/
theorem q_draw (ha : EvA ta σ H [.ref st, .int n]) (S : StAt H st l) (h0 : 0 < n) (h1 : n < 1000000000) (k : ∀ (r : Int) (H' : Hp), 0 ≤ r → r < n → Ext st l H H' → StAt H' st l → u D (σ.set i (some (.int r))) H') : tSeq (tAsg (tCall spDraw [] E ta) (gName i)) u D σ H :=
  q_set (w_draw ha S h0 h1 k)
/-- x = 1 + draw(..) -/
theorem q_draw1 (ha : EvA ta σ H [.ref st, .int n]) (S : StAt H st l) (h0 : 0 < n) (h1 : n < 1000000000) (k : ∀ (r : Int) (H' : Hp), 1 ≤ r → r ≤ n → Ext st l H H' → StAt H' st l → u D (σ.set i (some (.int r))) H') : tSeq (tAsg (tOp (rI0 fun i j => .int (i + j)) (tC (.int 1)) (tCall spDraw [] E ta)) (gName i)) u D σ H :=
  q_set (w_op (w_ev ev_c fun H1 e1 => w_draw (ha.mono e1) (S.same e1) h0 h1 fun r H' r0 r1 e S' => ⟨_, _, rfl, rfl, k (1 + r) H' (by omega) (by omega) ((Ext.same e1).trans e) S'⟩))
theorem StAt.ext {H' : Hp} (e : Ext st l H H') {p : Addr} {o : HO} (S : StAt H st l) (hp : H p = some o) (h1 : p ≠ st) (h2 : p ≠ l) : H' p = some o := e p o h1 h2 hp
end
end My

namespace My
open PySem PySem.Spec PyProof.Rows L2 Evl
/-! ### words -/
def sgL : List Nat := [97,98,99,100,101,102,103,104,105,106,107,108,109,110,111,112,113,114,115,116,117,118,119,120,121,122,48,49,50,51,52,53,54,55,56,57]
def mkS (l : List Nat) : Str := ⟨l.toArray⟩
theorem signs_is : (Str.ofString "abcdefghijklmnopqrstuvwxyz0123456789").cps.toList = sgL := by decide +kernel
theorem mkS_cps (l : List Nat) : (mkS l).cps.toList = l := rfl
theorem mkS_len (l : List Nat) : (mkS l).length = l.length := by simp [mkS, Str.length]
theorem mkS_add (a b : List Nat) : mkS a ++ mkS b = mkS (a ++ b) := by
  show Str.mk (a.toArray ++ b.toArray) = _
  simp [mkS]
theorem rep_one (c n : Nat) : repS (mkS [c]) n = mkS (List.replicate n c) := by
  unfold repS mkS
  congr 2
  induction n with
  | zero => rfl
  | succ n ih => rw [List.replicate_succ, List.flatten_cons, List.replicate_succ]; simpa using ih
theorem mkS_inj {a b : List Nat} (h : mkS a = mkS b) : a = b := by
  have := congrArg (fun s : Str => s.cps.toList) h
  simpa [mkS] using this
theorem mkS_eta (w : Str) : mkS w.cps.toList = w := by cases w; simp [mkS]
/-- a name of at most n signs -/
structure IsName (n : Nat) (w : Str) : Prop where
  pos : 1 ≤ w.length
  le : w.length ≤ n
  sg : ∀ c ∈ w.cps.toList, c ∈ sgL
  hd : ∀ c, w.cps.toList.head? = some c → c ∈ sgL.take 26
  me : w ≠ "me"
structure WordsOk (most count : Nat) (ws : List Str) : Prop where
  len : ws.length = count
  nd : ws.Nodup
  ok : ∀ w ∈ ws, IsName most w
  ln : ∃ s, ∀ w ∈ ws, w.length = s
def wd (fill place size s : Nat) : Str := mkS (List.replicate place fill ++ [s] ++ List.replicate (size - place - 1) fill)
theorem sg_get {i : Nat} (h : i < 36) : ∃ c, sgL[i]? = some c ∧ c ∈ sgL := by
  have h' : i < sgL.length := h
  exact ⟨sgL[i], List.getElem?_eq_getElem h', List.getElem_mem h'⟩
theorem sg_get26 {i : Nat} (h : i < 26) : ∃ c, sgL[i]? = some c ∧ c ∈ sgL.take 26 := by
  have h' : i < (sgL.take 26).length := h
  refine ⟨(sgL.take 26)[i], ?_, List.getElem_mem h'⟩
  rw [List.getElem_take]
  exact List.getElem?_eq_getElem (Nat.lt_trans h (by decide))
theorem sg_nd : sgL.Nodup := by decide +kernel
theorem take26 {c : Nat} (h : c ∈ sgL.take 26) : c ∈ sgL := List.mem_of_mem_take h
/-- the word of the k-th turn -/
def wk (fill place size first some : Nat) (k : Nat) : Str := wd fill place size (sgL.getD ((first + k) % some) 0)
theorem words_ok {fill place size first some most count : Nat} (h1 : 1 ≤ size) (h2 : size ≤ most) (hp : place < size) (hf : fill ∈ sgL.take 26) (hs : some = if place = 0 then 26 else 36) (hc : count ≤ 26) (hme : size = 2 → fill ≠ 109 ∧ fill ≠ 101) :
    WordsOk most count ((List.range count).map (wk fill place size first some)) := by
  have hs26 : 26 ≤ some ∧ some ≤ 36 := by rw [hs]; split <;> omega
  refine ⟨by simp, ?_, ?_, size, fun w hw => ?_⟩
  · rw [List.nodup_iff_pairwise_ne, List.pairwise_map]
    refine List.Pairwise.imp_of_mem ?_ (List.nodup_iff_pairwise_ne.mp List.nodup_range)
    intro a b ha hb hab e
    have ha := List.mem_range.mp ha
    have hb := List.mem_range.mp hb
    have e1 := mkS_inj e
    rw [List.append_assoc, List.append_assoc, List.append_cancel_left_eq] at e1
    have e2 : sgL.getD ((first + a) % some) 0 = sgL.getD ((first + b) % some) 0 := by
      simpa using e1
    have la : (first + a) % some < sgL.length := Nat.lt_of_lt_of_le (Nat.mod_lt _ (by omega)) hs26.2
    have lb : (first + b) % some < sgL.length := Nat.lt_of_lt_of_le (Nat.mod_lt _ (by omega)) hs26.2
    rw [List.getD_eq_getElem?_getD, List.getD_eq_getElem?_getD, List.getElem?_eq_getElem la, List.getElem?_eq_getElem lb, Option.getD_some, Option.getD_some] at e2
    have e3 := (List.getElem_inj sg_nd).mp e2
    apply hab
    have q1 := Nat.div_add_mod (first + a) some
    have q2 := Nat.div_add_mod (first + b) some
    rw [e3] at q1
    generalize (first + b) % some = r at q1 q2
    generalize (first + a) / some = x at q1
    generalize (first + b) / some = y at q2
    have : x = y := by
      rcases Nat.lt_trichotomy x y with h | h | h
      · have : some * x + some ≤ some * y := by rw [← Nat.mul_succ]; exact Nat.mul_le_mul_left _ h
        omega
      · exact h
      · have : some * y + some ≤ some * x := by rw [← Nat.mul_succ]; exact Nat.mul_le_mul_left _ h
        omega
    subst this
    omega
  · intro w hw
    obtain ⟨k, hk, rfl⟩ := List.mem_map.mp hw
    have lk : (first + k) % some < 36 := Nat.lt_of_lt_of_le (Nat.mod_lt _ (by omega)) hs26.2
    obtain ⟨c, hc1, hc2⟩ := sg_get lk
    have hcd : sgL.getD ((first + k) % some) 0 = c := by rw [List.getD_eq_getElem?_getD, hc1]; rfl
    have len : (wk fill place size first some k).length = size := by
      unfold wk wd
      rw [mkS_len]
      simp
      omega
    refine ⟨by omega, by omega, ?_, ?_, ?_⟩
    · intro x hx
      unfold wk wd at hx
      rw [mkS_cps, hcd] at hx
      simp only [List.mem_append, List.mem_replicate, List.mem_singleton] at hx
      rcases hx with (⟨_, rfl⟩ | rfl) | ⟨_, rfl⟩
      · exact take26 hf
      · exact hc2
      · exact take26 hf
    · intro x hx
      unfold wk wd at hx
      rw [mkS_cps, hcd] at hx
      by_cases h0 : place = 0
      · subst h0
        simp only [List.replicate_zero, List.nil_append, List.cons_append, List.head?_cons, Option.some.injEq] at hx
        subst hx
        rw [if_pos rfl] at hs
        subst hs
        obtain ⟨d, hd1, hd2⟩ := sg_get26 (i := (first + k) % 26) (Nat.mod_lt _ (by decide))
        rw [hc1] at hd1
        rw [Option.some.inj hd1]
        exact hd2
      · obtain ⟨m, rfl⟩ : ∃ m, place = m + 1 := ⟨place - 1, by omega⟩
        rw [List.replicate_succ] at hx
        simp only [List.cons_append, List.head?_cons, Option.some.injEq] at hx
        subst hx
        exact hf
    · intro e
      have e1 : (wk fill place size first some k).cps.toList = [109, 101] := by rw [e]; decide +kernel
      have e2 : (wk fill place size first some k).length = 2 := by
        have := congrArg List.length e1
        simpa [Str.length] using this
      have hz := hme (by omega)
      unfold wk wd at e1
      rw [mkS_cps] at e1
      have hsz : size = 2 := by omega
      subst hsz
      have hp2 : place = 0 ∨ place = 1 := by omega
      rcases hp2 with rfl | rfl
      · simp at e1
        exact hz.2 e1.2
      · simp at e1
        exact hz.1 e1.1
  · obtain ⟨k, _, rfl⟩ := List.mem_map.mp hw
    unfold wk wd
    rw [mkS_len, List.length_append, List.length_append, List.length_replicate, List.length_replicate]
    show place + 1 + (size - place - 1) = size
    omega
end My

namespace My
open PySem PySem.Spec PyProof.Rows L2 Evl
theorem rv_mulC {c n : Nat} {H : Hp} (hn : n ≤ 1000) : RV (fun x y H Q => ∃ z n, x = .str z ∧ y = .int n ∧ 0 ≤ n ∧ n ≤ 1000 ∧ z.length ≤ 1000 ∧ Q (.str (repS z n.toNat)) H) (.str (mkS [c])) (.int (n : Int)) H (.str (mkS (List.replicate n c))) :=
  rv_val fun H1 _ Q q => ⟨mkS [c], n, rfl, rfl, by omega, by omega, by rw [mkS_len]; simp, by rw [rep_one]; exact q⟩
theorem rv_addM {a b : List Nat} {H : Hp} (h : a.length + b.length ≤ 100000) : RV (fun x y H Q => ∃ i j, x = .str i ∧ y = .str j ∧ i.length + j.length ≤ sizeLine ∧ Q (.str (i ++ j)) H) (.str (mkS a)) (.str (mkS b)) H (.str (mkS (a ++ b))) :=
  rv_val fun H1 _ Q q => ⟨mkS a, mkS b, rfl, rfl, by rw [mkS_len, mkS_len]; exact Nat.le_trans h (by decide), by rw [mkS_add]; exact q⟩
theorem rv_sign {i : Int} {k c : Nat} {H : Hp} (e : i = (k : Int)) (h : sgL[k]? = some c) : RV rIxS (.str "abcdefghijklmnopqrstuvwxyz0123456789") (.int i) H (.str (mkS [c])) := rv_ixS (by decide +kernel) (atI_n e (by rw [signs_is]; exact h))
abbrev sWords : Stmt := top 29
def spWords : Sp := fun vs H Q _ => ∃ (st l : Addr) (most count : Nat), vs = [.ref st, .int (most : Int), .int (count : Int)] ∧ StAt H st l ∧ 1 ≤ most ∧ most ≤ 100 ∧ count ≤ 26 ∧
  ∀ (ws : List Str) (p : Addr) (H' : Hp), WordsOk most count ws → Ext st l H H' → StAt H' st l → H p = none → H' p = some (.lst (ws.map V.str)) → Q (.ref p) H'
theorem scW : FnScope ["st", "most", "count", "signs", "size", "place", "fill", "some", "first", "tail", "k"] ["st", "most", "count"] (defScope sWords) := ⟨rfl, rfl, rfl, by decide +kernel, rfl, by decide +kernel, by decide +kernel⟩
theorem fresh_ext {st l p : Addr} {H H' : Hp} (S : StAt H st l) (e : Ext st l H H') (S' : StAt H' st l) (h : H' p = none) : H p = none := by
  cases q : H p with
  | none => rfl
  | some o =>
    have n := S'.off h
    rw [e p o n.1 n.2 q] at h
    cases h
section
variable {P : Program} {w : World} {K : PySem.W.Frag} {mg : Str → Option Value} {base : Heap}
theorem ok_words {f fD : Addr} {fd fdD : FuncData} (F : Fun K "_law_get_words" "_law_get_words" sWords f fd) (T : TD mg) (G__law_draw : FnOk P w K mg base CX0 1 fD fdD ["st", "limit"] spDraw) (m__law_draw : mg "_law_draw" = some (.ref fD)) (k__law_draw : PySem.W.keepIn K (.ref fD) = true) (b__law_draw : Binds K fdD ["st", "limit"] []) :
    FnOk P w K mg base CX0 2 f fd ["st", "most", "count"] spWords := by
  refine F.ok scW (fun vs H Q E h => ?_) (fun cdv A outer s H vs Q E hr h => ?_)
  · obtain ⟨st, l, m, c, rfl, _⟩ := h
    rfl
  · obtain ⟨st, l, most, count, rfl, S, hm1, hm2, hc, k⟩ := h
    have hr__law_draw : Room 1 _ := hr
    have hcn : (0 : Int) ≤ (count : Int) ∧ (count : Int) ≤ 40000 := by omega
    refine ⟨_, (pss_cons (ps_set (i := 3) scW.nd rfl (Or.inr rfl) pe_str)
    (pss_cons (ps_set (i := 4) scW.nd rfl (Or.inl rfl) (pe_op op_add pe_int (pe_call G__law_draw hr__law_draw rfl m__law_draw k__law_draw b__law_draw .nil pass0 (pa_cons (pv 0) (pa_cons (pv 1) pa_nil)))))
    (pss_cons (ps_set (i := 5) scW.nd rfl (Or.inr rfl) (pe_call G__law_draw hr__law_draw rfl m__law_draw k__law_draw b__law_draw .nil pass0 (pa_cons (pv 0) (pa_cons (pv 4) pa_nil))))
    (pss_cons (ps_set (i := 6) scW.nd rfl (Or.inr rfl) (pe_ix ix_str (pv 3) (pe_call G__law_draw hr__law_draw rfl m__law_draw k__law_draw b__law_draw .nil pass0 (pa_cons (pv 0) (pa_cons pe_int pa_nil))) (fun _ _ => rfl)))
    (pss_cons (ps_if (PW.pt (pw_and (pt_cmpR op_eq (pv 4) pe_int (nomark _)) (pw_and1 (pt_cmpR op_in_sign (pv 6) pe_str (by rfl)))))
      (pss_one (ps_set (i := 6) scW.nd rfl (Or.inr rfl) pe_str))
      pss_nil)
    (pss_cons (ps_set (i := 7) scW.nd rfl (Or.inr rfl) (pe_ifExp (pt_cmpR op_eq (pv 5) pe_int (nomark _)) pe_int pe_int))
    (pss_cons (ps_set (i := 8) scW.nd rfl (Or.inr rfl) (pe_call G__law_draw hr__law_draw rfl m__law_draw k__law_draw b__law_draw .nil pass0 (pa_cons (pv 0) (pa_cons (pv 7) pa_nil))))
    (pss_cons (ps_set (i := 9) scW.nd rfl (Or.inr rfl) (pe_op op_mulS (pv 6) (pe_op op_sub (pe_op op_sub (pv 4) (pv 5)) pe_int)))
    (pss_one (ps_ret (pe_lc (own := [("k", 10)]) (g := gName 10) (by rfl) scW.nd (pi_range1 rfl T.n_range (pa_cons (pv 2) pa_nil)) (blkOk_by (own := [("k", 10)]) (N := ["st", "most", "count", "signs", "size", "place", "fill", "some", "first", "tail", "k"]) (sc := defScope sWords) (by decide +kernel)) (fun _ _ _ _ _ => (pg_name (i := 10) scW.nd rfl (Or.inl rfl))) (fun _ _ _ _ _ => pts_nil) (fun _ _ _ _ _ => (pe_op op_add_str (pe_op op_add_str (pe_op op_mulS (pv 6) (pv 5)) (pe_ix ix_str (pv 3) (pe_op op_modN (pe_callTy call_int1 (by rfl) T.n_int (by decide +kernel) (pa_cons (pe_op op_add (pv 8) (pv 10)) pa_nil)) (pv 7)) (fun _ _ => rfl))) (pv 9)))))))))))))), ?_⟩
    refine q_asg ev_c (fun H1 e1 => ?_)
    refine q_draw1 (st := st) (l := l) (n := most) (ea_cons (ev_var rfl) (ea_cons (ev_var rfl) ea_nil)) (S.same e1) (by omega) (by omega) (fun size H2 s0 s1 e2 S2 => ?_)
    refine q_draw (st := st) (l := l) (n := size) (ea_cons (ev_var rfl) (ea_cons (ev_var rfl) ea_nil)) S2 (by omega) (by omega) (fun place H3 p0 p1 e3 S3 => ?_)
    refine q_set (w_op (w_ev (ev_var rfl) fun H4 e4 => w_draw (st := st) (l := l) (n := 26) (ea_cons (ev_var rfl) (ea_cons ev_c ea_nil)) (S3.same e4) (by decide) (by decide) (fun r H5 r0 r1 e5 S5 => ?_)))
    obtain ⟨c, hc1, hc2⟩ := sg_get26 (i := r.toNat) (by omega)
    refine ⟨_, _, c, rfl, rfl, by decide +kernel, atI_n (j := r.toNat) (by omega) (by rw [signs_is]; exact hc1), ?_⟩
    obtain ⟨sz, rfl⟩ : ∃ n : Nat, size = n := ⟨size.toNat, by omega⟩
    obtain ⟨pl, rfl⟩ : ∃ n : Nat, place = n := ⟨place.toNat, by omega⟩
    have hme : decide (c ∈ (Str.ofString "me").cps.toList) = decide (c = 109 ∨ c = 101) := by
      have : (Str.ofString "me").cps.toList = [109, 101] := by decide +kernel
      rw [this]; simp
    let fill : Nat := if decide ((sz : Int) = 2) && decide (c = 109 ∨ c = 101) then 122 else c
    have hz : Str.ofString "z" = mkS [122] := by decide +kernel
    refine q_ifAsg (v := .str (mkS [fill])) (b := decide ((sz : Int) = 2) && decide (c = 109 ∨ c = 101)) (et_and (et_test (ev_is (ev_op (ev_var rfl) ev_c (rv_eq rfl)) (by simp))) (fun _ => et_test (ev_is (ev_op (ev_var rfl) ev_c (rv_val fun H1 _ Q q => ⟨c, _, rfl, rfl, q⟩)) (by rw [hme]))))
      (fun hb => ?_) (fun hb => ?_) (fun H6 e6 => ?_)
    · have : fill = 122 := if_pos hb
      rw [this, ← hz]
      exact ev_c
    · have : fill = c := if_neg (by rw [hb]; decide)
      rw [this]
      rfl
    have hfill : fill ∈ sgL.take 26 := by
      show (if _ then 122 else c) ∈ sgL.take 26
      split
      · decide
      · exact hc2
    have hfme : sz = 2 → fill ≠ 109 ∧ fill ≠ 101 := by
      intro e
      show (if _ then 122 else c) ≠ 109 ∧ (if _ then 122 else c) ≠ 101
      by_cases hcc : c = 109 ∨ c = 101
      · rw [if_pos (by simp [e, hcc])]
        decide
      · rw [if_neg (by simp [hcc])]
        exact ⟨fun z => hcc (.inl z), fun z => hcc (.inr z)⟩
    generalize fill = fl at hfill hfme
    let some' : Nat := if pl = 0 then 26 else 36
    have hso : some' = if pl = 0 then 26 else 36 := rfl
    have hsr : 26 ≤ some' ∧ some' ≤ 36 := by rw [hso]; split <;> omega
    refine q_asg (v := .int (some' : Nat)) (ev_if (b := decide (pl = 0)) (et_test (ev_is (ev_op (ev_var rfl) ev_c (rv_eq rfl)) (by simp))) (fun hb => ?_) (fun hb => ?_)) (fun H7 e7 => ?_)
    · rw [hso, if_pos (by simpa using hb)]
      exact ev_c
    · rw [hso, if_neg (by simpa using hb)]
      exact ev_c
    generalize some' = so at hso hsr
    have hso0 : (0 : Int) ≤ (so : Int) ∧ (so : Int) ≠ 0 := by omega
    have S7 := S5.same (e6.trans e7)
    refine q_draw (st := st) (l := l) (n := so) (ea_cons (ev_var rfl) (ea_cons (ev_var rfl) ea_nil)) S7 (by omega) (by omega) (fun first H8 f0 f1 e8 S8 => ?_)
    obtain ⟨fi, rfl⟩ : ∃ n : Nat, first = n := ⟨first.toNat, by omega⟩
    have hpl : pl ≤ 1000 := by omega
    have hsp : pl + 1 + (sz - pl - 1) ≤ 100 := by omega
    have hsub : ((sz : Int) - (pl : Int)) - 1 = ((sz - pl - 1 : Nat) : Int) := by omega
    refine q_asg (v := .str (mkS (List.replicate (sz - pl - 1) fl))) (ev_op (ev_var rfl) (ev_is (ev_op (ev_op (ev_var rfl) (ev_var rfl) rv_I0) ev_c rv_I0) (congrArg V.int hsub)) (rv_mulC (by omega))) (fun H9 e9 => ?_)
    have X9 : Ext st l H H9 := (((((((((Ext.same e1).trans e2).trans e3).trans (Ext.same e4)).trans e5).trans (Ext.same e6)).trans (Ext.same e7)).trans e8).trans (Ext.same e9))
    refine s_norm [some (.ref st), some (.int most), some (.int count), some (.str "abcdefghijklmnopqrstuvwxyz0123456789"), some (.int sz), some (.int pl), some (.str (mkS [fl])), some (.int so), some (.int fi), some (.str (mkS (List.replicate (sz - pl - 1) fl))), none] rfl ?_
    refine s_retL (el_lcR1 (fun _ => true) (fun i => V.str (wk fl pl sz fi so i)) (ea_cons (ev_var rfl) ea_nil) hcn (fun _ => wipe1 _ _ _) (fun _ _ _ _ => et_yes) (fun i H1 e1 hi _ => ?_)) (fun p H10 hp e10 h10 => ?_)
    · have lk : (fi + i) % so < 36 := Nat.lt_of_lt_of_le (Nat.mod_lt _ (by omega)) hsr.2
      obtain ⟨d, hd1, hd2⟩ := sg_get lk
      have hmod : ((fi : Int) + (i : Int)).fmod (so : Int) = (((fi + i) % so : Nat) : Int) := by
        rw [Int.fmod_eq_emod_of_nonneg _ hso0.1, cast_mod, Int.natCast_add]
      have hcd : sgL.getD ((fi + i) % so) 0 = d := by rw [List.getD_eq_getElem?_getD, hd1]; rfl
      refine ev_is (v := .str (mkS (List.replicate pl fl ++ [d] ++ List.replicate (sz - pl - 1) fl))) (ev_op (ev_op (ev_op (ev_var rfl) (ev_var rfl) (rv_mulC hpl))
        (ev_op (ev_var rfl) (ev_op (ev_cb (ea_cons (ev_op (ev_var rfl) (ev_var rfl) rv_I0) ea_nil) rc_int) (ev_var rfl) (rv_I hso0.2)) (rv_sign hmod hd1)) (rv_addM ?_)) (ev_var rfl) (rv_addM ?_)) ?_
      · simp only [List.length_replicate, List.length_singleton]
        exact Nat.le_trans (Nat.le_trans (Nat.le_add_right _ _) hsp) (by decide)
      · simp only [List.length_append, List.length_replicate, List.length_singleton]
        exact Nat.le_trans hsp (by decide)
      · unfold wk wd
        rw [hcd]
    · rw [given_all] at h10
      refine k _ p H10 (words_ok (first := fi) (by omega) (by omega) (by omega) hfill hso hc hfme) (X9.trans (Ext.same e10)) ((S8.same e9).same e10) (fresh_ext S X9 (S8.same e9) hp) ?_
      rw [h10, List.map_map]
      rfl
end
end My

namespace My
open PySem PySem.Spec PyProof.Rows L2 Evl
/-! ### texts -/
abbrev sIsValue : Stmt := top 10
abbrev sIsConst : Stmt := top 11
/-- a value, a constant, as the program asks -/
def isVal (w : Str) : Bool := (decide (1 ≤ (w.length : Int)) && decide ((w.length : Int) ≤ 20)) && w.cps.toList.all fun c => decide (c ∈ sgL)
def isCon (w : Str) : Bool := Txt.startswith w "'" && (Txt.endswith w "'" && isVal (cutS w (some 1) (some (-1))))
def spStrB (f : Str → Bool) : Sp := fun vs H Q _ => ∃ w : Str, vs = [.str w] ∧ w.length ≤ 1000 ∧ ∀ H', Ex H H' → Q (.bl (f w)) H'
structure TT0 (mg : Str → Option Value) : Prop where
  c_LETTERS_AND_DIGITS : ∃ t, mg "LETTERS_AND_DIGITS" = some (.str "abcdefghijklmnopqrstuvwxyz0123456789" t)
  c_LONGEST_VALUE : ∃ t, mg "LONGEST_VALUE" = some (.int 20 t)
  n_len : mg "len" = none
  n_all : mg "all" = none
  n_isinstance : mg "isinstance" = none
  n_str : mg "str" = none
theorem scIV : FnScope ["word", "sign"] ["word"] (defScope sIsValue) := ⟨rfl, rfl, rfl, by decide +kernel, rfl, by decide +kernel, by decide +kernel⟩
theorem scIC : FnScope ["word"] ["word"] (defScope sIsConst) := ⟨rfl, rfl, rfl, by decide +kernel, rfl, by decide +kernel, by decide +kernel⟩
theorem rv_in1 {c : Nat} {z : Str} {H : Hp} : RV (fun x y H Q => ∃ (c : Nat) (z : Str), x = .str ⟨#[c]⟩ ∧ y = .str z ∧ Q (.bl (decide (c ∈ z.cps.toList))) H) (.str ⟨#[c]⟩) (.str z) H (.bl (decide (c ∈ z.cps.toList))) := rv_val fun H1 _ Q q => ⟨c, z, rfl, rfl, q⟩
theorem all_range {l : List Nat} {p : Nat → Bool} : ((List.range l.length).map fun i => p (l.getD i 0)).all id = l.all p := by
  have e : (List.range l.length).map (fun i => p (l.getD i 0)) = l.map p := by
    apply List.ext_getElem
    · simp
    · intro i h1 h2
      simp at h1
      simp [List.getD_eq_getElem?_getD, List.getElem?_eq_getElem h1]
  rw [e, List.all_map]
  rfl
section
variable {P : Program} {w : World} {K : PySem.W.Frag} {mg : Str → Option Value} {base : Heap}
theorem ok_isval {f : Addr} {fd : FuncData} (F : Fun K "is_value" "is_value" sIsValue f fd) (T : TT0 mg) : FnOk P w K mg base CX0 1 f fd ["word"] (spStrB isVal) := by
  refine F.ok scIV (fun vs H Q E h => ?_) (fun cdv A outer s H vs Q E hr h => ?_)
  · obtain ⟨w, rfl, _⟩ := h
    rfl
  · obtain ⟨w, rfl, hw, k⟩ := h
    obtain ⟨t1, c_LETTERS_AND_DIGITS⟩ := T.c_LETTERS_AND_DIGITS
    obtain ⟨t2, c_LONGEST_VALUE⟩ := T.c_LONGEST_VALUE
    refine ⟨_, (pss_cons (ps_if (pt_not (pt_val (pe_callB (isiK K) (by rfl) T.n_isinstance (by decide +kernel) (pa_cons (pv 0) (pa_cons (pe_ty (n := "str") (by rfl) T.n_str (by decide +kernel)) pa_nil)))))
      (pss_one (ps_ret pe_bl))
      pss_nil)
    (pss_one (ps_ret (pe_and (pe_chain op_le op_le pe_int (pe_callB call_len_str (by rfl) T.n_len (by decide +kernel) (pa_cons (pv 0) pa_nil)) (pe_gint rfl c_LONGEST_VALUE)) (pe_one (pe_callB (allK K rfl) (by rfl) T.n_all (by decide +kernel) (pa_cons (pe_lc (own := [("sign", 1)]) (g := gName 1) (by rfl) scIV.nd (pi_str (pv 0)) (blkOk_by (own := [("sign", 1)]) (N := ["word", "sign"]) (sc := defScope sIsValue) (by decide +kernel)) (fun _ _ _ _ _ => (pg_name (i := 1) scIV.nd rfl (Or.inl rfl))) (fun _ _ _ _ _ => pts_nil) (fun _ _ _ _ _ => (pe_cmpR op_in_sign (pv 1) (pe_gstr rfl c_LETTERS_AND_DIGITS) (by rfl)))) pa_nil))))))), ?_⟩
    refine q_when (b := false) (et_not (a := true) (et_B (fun H1 e1 Q q => ⟨.str w, rfl, .str w, .ty "str", .type "str", .type "str", true, rfl, .ty "str", .base (.str w), by rfl, q H1 (Ex.refl H1)⟩))) (fun hb => absurd hb (by decide)) (fun _ H0 e0 => ?_)
    refine s_ret (v := .bl (isVal w)) (ev_andV (a := decide (1 ≤ (w.length : Int)) && decide ((w.length : Int) ≤ 20)) (b := w.cps.toList.all fun c => decide (c ∈ sgL)) (ev_chain ev_c (ev_cb (ea_cons (ev_var rfl) ea_nil) fun H1 _ Q q => ⟨w, rfl, by exact Nat.le_trans hw (by decide), q H1 (Ex.refl H1)⟩) rv_I0 (fun _ => ev_c) (fun _ => rv_I0)) (fun _ => ?_)) (fun H1 e1 => k H1 (e0.trans e1))
    have hn : w.cps.size ≤ 40000 := Nat.le_trans hw (by decide)
    rw [← all_range (l := w.cps.toList) (p := fun c => decide (c ∈ sgL))]
    refine ev_all (el_is (el_lcW (n := w.cps.size) (fun _ => true) (fun i => V.bl (decide (w.cps.toList.getD i 0 ∈ sgL))) hn _ (wi_str (ev_var rfl)) (fun _ => wipe1 _ _ _) (fun _ _ _ _ _ _ => et_yes) (fun i x H1 e1 hi hx _ => ?_)) ?_)
    · obtain ⟨c, hc, rfl⟩ := hx
      have hg : w.cps.toList.getD i 0 = c := by
        rw [List.getD_eq_getElem?_getD, Array.getElem?_toList, hc]; rfl
      rw [hg, ← signs_is]
      exact ev_op (ev_var rfl) ev_c rv_in1
    · rw [given_all, List.map_map]
      simp [Function.comp_def]
theorem ok_iscon {f fV : Addr} {fd fdV : FuncData} (F : Fun K "is_constant" "is_constant" sIsConst f fd) (T : TT0 mg) (G_is_value : FnOk P w K mg base CX0 1 fV fdV ["word"] (spStrB isVal)) (m_is_value : mg "is_value" = some (.ref fV)) (k_is_value : PySem.W.keepIn K (.ref fV) = true) (b_is_value : Binds K fdV ["word"] []) :
    FnOk P w K mg base CX0 2 f fd ["word"] (spStrB isCon) := by
  refine F.ok scIC (fun vs H Q E h => ?_) (fun cdv A outer s H vs Q E hr h => ?_)
  · obtain ⟨w, rfl, _⟩ := h
    rfl
  · obtain ⟨w, rfl, hw, k⟩ := h
    have hr_is_value : Room 1 _ := hr
    refine ⟨_, (pss_one (ps_ret (pe_and (bmK K PySem.F.plainAttrs_str PySem.F.slot_str_startswith PySem.F.type_str_startswith mt_startswith (pv 0) (pa_cons pe_str pa_nil)) (pe_and (bmK K PySem.F.plainAttrs_str PySem.F.slot_str_endswith PySem.F.type_str_endswith mt_endswith (pv 0) (pa_cons pe_str pa_nil)) (pe_one (pe_call G_is_value hr_is_value rfl m_is_value k_is_value b_is_value .nil pass0 (pa_cons (pe_slice sl_str (pv 0) (po_some pe_int) (po_some (pe_un un_neg pe_int))) pa_nil))))))), ?_⟩
    refine s_ret (v := .bl (isCon w)) (ev_andV (a := Txt.startswith w "'") (ev_bmS (ev_var rfl) (ea_cons ev_c ea_nil) fun H1 _ Q q => ⟨w, _, rfl, rfl, q H1 (Ex.refl H1)⟩) fun _ => ev_andV (a := Txt.endswith w "'") (ev_bmS (ev_var rfl) (ea_cons ev_c ea_nil) fun H1 _ Q q => ⟨w, _, rfl, rfl, q H1 (Ex.refl H1)⟩) fun _ => ?_) (fun H1 e1 => k H1 e1)
    refine ev_call (ea_cons (ev_slS (ev_var rfl) (eo_some ev_c) (eo_some (ev_un ev_c ru_neg)) (Nat.le_trans hw (by decide))) ea_nil) (fun H1 e1 Q q E => ⟨_, rfl, Nat.le_trans (cutS_length w _ _) hw, q⟩)
end
end My

namespace My
open PySem PySem.Spec PyProof.Rows L2 Evl
/-! ### the blocks are looked at -/
instance memKey (q : Key) (l : List Key) : Decidable (q ∈ l) := @List.instDecidableMemOfLawfulBEq Key instBEqOfDecidableEq _ q l
structure Valid (ps : List Str) (bs : List (List Str)) : Prop where
  nd : bs.flatten.Nodup
  con : ∀ b ∈ bs, ∀ m ∈ b, m ∉ ps → isCon m = true
  one : ∀ b ∈ bs, (b.filter fun m => decide (m ∉ ps)).length ≤ 1
  pos : ∀ b ∈ bs, ∃ m ∈ b, m ∈ ps
  len : ∀ b ∈ bs, ∀ m ∈ b, m.length ≤ 1000
  few : bs.length ≤ 1000 ∧ bs.flatten.length ≤ 1000
/-- lists (or tuples) of texts at the addresses as -/
def Rws (K : PySem.W.Frag) (H : Hp) (as : List Addr) (rows : List (List Str)) : Prop := Paired (fun a xs => SqA K H a (xs.map V.str)) as rows
theorem Rws.ex {K : PySem.W.Frag} {H H' : Hp} {as : List Addr} {rows : List (List Str)} (e : Ex H H') (h : Rws K H as rows) : Rws K H' as rows := Paired.mapP h fun _ _ z => z.ex e
abbrev sCheck : Stmt := top 13
theorem scCk : FnScope ["places", "blocks", "seen", "block", "constants", "member"] ["places", "blocks"] (defScope sCheck) := ⟨rfl, rfl, rfl, by decide +kernel, rfl, by decide +kernel, by decide +kernel⟩
def spCheck (K : PySem.W.Frag) : Sp := fun vs H Q _ => ∃ (pl bl : Addr) (ps : List Str) (as : List Addr) (bs : List (List Str)), vs = [.ref pl, .ref bl] ∧ SqA K H pl (ps.map V.str) ∧ SqA K H bl (as.map V.ref) ∧ Rws K H as bs ∧ Valid ps bs ∧ ∀ H', Ex H H' → Q .non H'
structure TC0 (mg : Str → Option Value) : Prop where
  n_set : mg "set" = none
  n_len : mg "len" = none
section
variable {P : Program} {w : World} {K : PySem.W.Frag} {mg : Str → Option Value} {base : Heap}
theorem ok_check {f fC : Addr} {fd fdC : FuncData} (F : Fun K "_check_blocks" "_check_blocks" sCheck f fd) (T : TC0 mg) (G_is_constant : FnOk P w K mg base CX0 2 fC fdC ["word"] (spStrB isCon)) (m_is_constant : mg "is_constant" = some (.ref fC)) (k_is_constant : PySem.W.keepIn K (.ref fC) = true) (b_is_constant : Binds K fdC ["word"] []) :
    FnOk P w K mg base CX0 3 f fd ["places", "blocks"] (spCheck K) := by
  refine F.ok scCk (fun vs H Q E h => ?_) (fun cdv A outer s H vs Q E hr h => ?_)
  · obtain ⟨pl, bl, ps, as, bs, rfl, _⟩ := h
    rfl
  · obtain ⟨pl, bl, ps, as, bs, rfl, hpl, hbl, hrw, hv, k⟩ := h
    have hr_is_constant : Room 2 _ := hr
    have hu := hu_of hr
    refine ⟨_, (pss_cons (ps_set (i := 2) scCk.nd rfl (Or.inl rfl) (pe_callTy0 cr_set0K (by rfl) T.n_set (by decide +kernel)))
    (pss_one (ps_for PassesOwn.never rfl (pi_any K 1 (pv 1)) (pg_name (i := 3) scCk.nd rfl (Or.inl rfl))
      (pss_cons (ps_set (i := 4) scCk.nd rfl (Or.inl rfl) (pe_lst pa_nil))
      (pss_cons (ps_for PassesOwn.never rfl (pi_any K 3 (pv 3)) (pg_name (i := 5) scCk.nd rfl (Or.inl rfl))
        (pss_cons (ps_if (pt_cmpR or_sinK (pv 5) (pv 2) (by rfl))
          (pss_one ps_never)
          pss_nil)
        (pss_cons (ps_expr (pe_saddK (pv 2) (pa_cons (pv 5) pa_nil)))
        (pss_one (ps_if (pt_cmpR (notInSeq K) (pv 5) (pv 0) (by rfl))
          (pss_cons (ps_if (PW.pt (pw_or (truK K (pv 4)) (pw_or1 (pt_not (pt_val (pe_call G_is_constant hr_is_constant rfl m_is_constant k_is_constant b_is_constant .nil pass0 (pa_cons (pv 5) pa_nil)))))))
            (pss_one ps_never)
            pss_nil)
          (pss_one (ps_expr (bmK K PySem.F.plainAttrs_list PySem.F.slot_list_append PySem.F.type_list_append mt_append (pv 4) (pa_cons (pv 5) pa_nil)))))
          pss_nil)))))
      (pss_one (ps_if (pt_cmpR op_eq (pe_callB (lenSeq K) (by rfl) T.n_len (by decide +kernel) (pa_cons (pv 4) pa_nil)) (pe_callB (lenSeq K) (by rfl) T.n_len (by decide +kernel) (pa_cons (pv 3) pa_nil)) (nomark _))
        (pss_one ps_never)
        pss_nil))))))), ?_⟩
    have hlen : as.length = bs.length := Paired.length hrw
    refine q_set (w_cb (w_nil ⟨rfl, fun se hse => ?_⟩))
    have in_take : ∀ {i : Nat} (hi : i < bs.length) (q : Key), decide (q ∈ (((bs.take i).flatten ++ (bs[i]).take (bs[i]).length)).map (Sum.inr : Str → Key)) = decide (q ∈ ((bs.take (i + 1)).flatten).map (Sum.inr : Str → Key)) := fun hi q => by
      rw [List.take_length, List.take_succ_eq_append_getElem hi, List.flatten_append, List.flatten_singleton]
    refine s_forA (a := bl) (xs := as.map V.ref) (H0 := H) rfl hbl (fun i σ' H' => ∃ v3 v4 v5 S n, σ' = [some (.ref pl), some (.ref bl), some (.ref se), v3, v4, v5] ∧ Ex H H' ∧ H' se = some (SetK P w se S n) ∧ (∀ q, S q = decide (q ∈ ((bs.take i).flatten).map (Sum.inr : Str → Key))) ∧ n ≤ ((bs.take i).flatten).length)
      ⟨none, none, none, _, _, rfl, Ex.new hse, upd_same, fun q => by simp, Nat.zero_le _⟩ (fun i σ' H' _ p => by obtain ⟨_, _, _, _, _, _, e, _⟩ := p; exact e) (fun i x σ' H' hx p => ?_) (fun σ' H' p => by obtain ⟨_, _, _, _, _, _, e, _⟩ := p; exact k _ e)
    obtain ⟨v3, v4, v5, S, n, rfl, e', hS, hSq, hn⟩ := p
    have hia : i < as.length := by
      have := (List.getElem?_eq_some_iff.mp hx).1
      simpa using this
    have hib : i < bs.length := by omega
    rw [List.getElem?_map, List.getElem?_eq_getElem hia] at hx
    obtain rfl : x = V.ref as[i] := (Option.some.inj hx).symm
    have hrow : SqA K H as[i] ((bs[i]).map V.str) := paired_get hrw hia hib
    have hmem : bs[i] ∈ bs := List.getElem_mem hib
    have split : bs.flatten = (bs.take i).flatten ++ (bs[i] ++ (bs.drop (i + 1)).flatten) := by
      have q2 : bs = bs.take i ++ (bs[i] :: bs.drop (i + 1)) := by
        rw [← List.drop_eq_getElem_cons hib]; exact (List.take_append_drop _ _).symm
      conv => lhs; rw [q2]
      rw [List.flatten_append, List.flatten_cons]
    have small : (bs.take i).flatten.length + (bs[i]).length ≤ 1000 := by
      have := hv.few.2
      rw [split] at this
      simp only [List.length_append] at this
      omega
    refine q_asgL (el_lst ea_nil (by simp)) (fun co H2 hco e2 h2 => ?_)
    have nco : co ≠ se := (ne_of_none hS hco).symm
    refine q_forA (a := as[i]) (xs := (bs[i]).map V.str) (H0 := H) rfl hrow (fun a σ' H' => ∃ v5 S n, σ' = [some (.ref pl), some (.ref bl), some (.ref se), some (.ref as[i]), some (.ref co), v5] ∧ Ex H H' ∧ H' se = some (SetK P w se S n) ∧ (∀ q, S q = decide (q ∈ ((bs.take i).flatten ++ (bs[i]).take a).map (Sum.inr : Str → Key))) ∧ n ≤ ((bs.take i).flatten ++ (bs[i]).take a).length ∧ H' co = some (.lst ((((bs[i]).take a).filter fun m => decide (m ∉ ps)).map V.str)))
      ⟨v5, S, n, rfl, e'.trans e2, e2 _ _ hS, fun q => by rw [hSq]; simp, by simpa using hn, by rw [h2]; rfl⟩ (fun a σ' H' _ p => by obtain ⟨_, _, _, _, e, _⟩ := p; exact e) (fun a x σ' H3 hx p => ?_) (fun σ' H3 p => ?_)
    · obtain ⟨v5, S, n, rfl, e3, hS, hSq, hn, h3⟩ := p
      have ha : a < (bs[i]).length := by
        have := (List.getElem?_eq_some_iff.mp hx).1
        simpa using this
      rw [List.getElem?_map, List.getElem?_eq_getElem ha] at hx
      obtain rfl : x = V.str ((bs[i])[a]) := (Option.some.inj hx).symm
      have hsp : bs[i] = (bs[i]).take a ++ ((bs[i])[a] :: (bs[i]).drop (a + 1)) := by
        rw [← List.drop_eq_getElem_cons ha]; exact (List.take_append_drop _ _).symm
      generalize hm : (bs[i])[a] = m at hsp ⊢
      have hmb : m ∈ bs[i] := by rw [← hm]; exact List.getElem_mem ha
      have fresh : S (Sum.inr m) = false := by
        rw [hSq]
        refine decide_eq_false fun z => ?_
        obtain ⟨w', hw', e⟩ := List.mem_map.mp z
        cases e
        have nd := hv.nd
        rw [split, hsp] at nd
        obtain ⟨_, n2, n3⟩ := List.nodup_append.mp nd
        rcases List.mem_append.mp hw' with q | q
        · exact n3 _ q _ (List.mem_append_left _ (List.mem_append_right _ (List.mem_cons_self ..))) rfl
        · obtain ⟨n4, _, _⟩ := List.nodup_append.mp n2
          obtain ⟨_, _, n5⟩ := List.nodup_append.mp n4
          exact n5 _ q _ (List.mem_cons_self ..) rfl
      have htk : (bs[i]).take (a + 1) = (bs[i]).take a ++ [m] := by rw [List.take_succ_eq_append_getElem ha, hm]
      refine q_when (b := false) (et_test (ev_is (ev_op (ev_var rfl) (ev_var rfl) (rv_sin (k := Sum.inr m) hS)) (by rw [fresh]))) (fun hb => absurd hb (by decide)) (fun _ H4 e4 => ?_)
      refine q_drop' ⟨_, rfl, ⟨se, S, n, rfl, e4 _ _ hS⟩, _, rfl, se, Sum.inr m, S, n, rfl, rfl, e4 _ _ hS, ?_, ?_⟩
      · have : n ≤ (bs.take i).flatten.length + a := by
          refine Nat.le_trans hn ?_
          rw [List.length_append, List.length_take]
          omega
        show n + 1 < 4096
        omega
      generalize hH5 : upd H4 se _ = H5
      have s5 : H5 se = some (SetK P w se (fun j => S j || decide (j = Sum.inr m)) (if S (Sum.inr m) = true then n else n + 1)) := by rw [← hH5]; exact upd_same
      have e5 : Ex H H5 := by rw [← hH5]; exact Ex.mut (e3.trans e4) hse
      have c5 : H5 co = some (.lst ((((bs[i]).take a).filter fun m => decide (m ∉ ps)).map V.str)) := by rw [← hH5, upd_ne nco]; exact e4 _ _ h3
      have set5 : ∀ q, (S q || decide (q = Sum.inr m)) = decide (q ∈ ((bs.take i).flatten ++ (bs[i]).take (a + 1)).map (Sum.inr : Str → Key)) := fun q => by
        rw [hSq, htk, ← List.append_assoc, List.map_append (l₂ := [m])]
        simp only [List.map_cons, List.map_nil, List.mem_append, List.mem_singleton, Bool.decide_or]
      have n5 : (if S (Sum.inr m) = true then n else n + 1) ≤ ((bs.take i).flatten ++ (bs[i]).take (a + 1)).length := by
        rw [fresh, if_neg Bool.false_ne_true, htk, ← List.append_assoc, List.length_append (bs := [m])]
        exact Nat.succ_le_succ hn
      refine s_when (b := decide (m ∉ ps)) (et_test (ev_op (ev_var rfl) (ev_var rfl) (rv_niStr (hpl.ex e5)))) (fun hb H6 e6 => ?_) (fun hb H6 e6 => ?_)
      · have hnp : m ∉ ps := of_decide_eq_true hb
        have none_before : ((bs[i]).take a).filter (fun m => decide (m ∉ ps)) = [] := by
          have o := hv.one _ hmem
          rw [hsp, List.filter_append, List.filter_cons, if_pos hb, List.length_append, List.length_cons] at o
          exact List.length_eq_zero_iff.mp (by omega)
        refine q_when (b := false) (et_or (a := false) (et_is (et_truL (ev_var rfl) (e6 _ _ c5)) (by rw [none_before]; rfl)) (fun _ => et_not (a := true) (et_B (ev_call (ea_cons (ev_var rfl) ea_nil) (fun H7 e7 Q q E => ⟨m, rfl, hv.len _ hmem _ hmb, by rw [hv.con _ hmem _ hmb hnp]; exact q⟩))))) (fun hb => absurd hb (by decide)) (fun _ H7 e7 => ?_)
        refine s_app ((e6.trans e7) _ _ c5) (ev_var rfl) (ev_var rfl) (by rw [none_before]; decide) (fun H8 e8 => ?_)
        have e58 := (e6.trans e7).trans e8
        refine ⟨_, _, _, rfl, Ex.mut (e5.trans e58) ?_, ?_, set5, n5, ?_⟩
        · exact fresh_back e' hco
        · rw [upd_ne nco.symm]; exact e58 _ _ s5
        · rw [upd_same, htk, List.filter_append, List.map_append]
          simp [hnp]
      · have hp : m ∈ ps := by
          have := of_decide_eq_false hb
          simpa using this
        refine ⟨_, _, _, rfl, e5.trans e6, e6 _ _ s5, set5, n5, ?_⟩
        rw [e6 _ _ c5, htk, List.filter_append]
        simp [hp]
    · obtain ⟨v5, S, n, rfl, e3, hS, hSq, hn, h3⟩ := p
      rw [List.length_map] at hSq hn h3
      have hne : ((bs[i]).filter fun m => decide (m ∉ ps)).length ≠ (bs[i]).length := by
        obtain ⟨m, hm, hp⟩ := hv.pos _ hmem
        intro q
        have := List.length_filter_eq_length_iff.mp q m hm
        simp [hp] at this
      rw [List.take_length] at h3
      refine s_when (b := false) (et_test (ev_is (ev_op (ev_lenA (ev_var rfl) (.inl (SqL.of h3))) (ev_lenA (ev_var rfl) (hrow.ex e3)) (rv_eq rfl)) ?_)) (fun hb => absurd hb (by decide)) (fun _ H4 e4 => ⟨_, _, _, S, n, rfl, e3.trans e4, e4 _ _ hS, fun q => by rw [hSq, in_take hib], ?_⟩)
      · rw [List.length_map, List.length_map]
        refine congrArg V.bl (decide_eq_false fun z => hne ?_)
        have := V.int.inj z
        omega
      · rw [List.take_length] at hn
        rw [List.take_succ_eq_append_getElem hib, List.flatten_append, List.flatten_singleton]
        exact hn
end
end My

namespace My
open PySem PySem.Spec PyProof.Rows L2 Evl
/-! ### the blocks in order -/
abbrev sOrder : Stmt := top 14
theorem scOr : FnScope ["places", "blocks", "listed", "block", "member", "ordered", "place", "positions", "other", "constants"] ["places", "blocks"] (defScope sOrder) := ⟨rfl, rfl, rfl, by decide +kernel, rfl, by decide +kernel, by decide +kernel⟩
def blockOf (bs : List (List Str)) (p : Str) : List Str := (bs.find? fun b => decide (p ∈ b)).getD [p]
def rowPos (ps : List Str) (bs : List (List Str)) (p : Str) : List Str := ps.filter fun o => decide (o ∈ blockOf bs p)
def rowOf (ps : List Str) (bs : List (List Str)) (p : Str) : List Str := rowPos ps bs p ++ (blockOf bs p).filter fun m => decide (m ∉ ps)
def leads (ps : List Str) (bs : List (List Str)) (p : Str) : Bool := decide ((rowPos ps bs p).head? = some p)
def canon (ps : List Str) (bs : List (List Str)) : List (List Str) := (ps.filter (leads ps bs)).map (rowOf ps bs)
/-- tuples of texts at the addresses as -/
def RwT (H : Hp) (as : List Addr) (rows : List (List Str)) : Prop := Paired (fun a xs => H a = some (.tup (xs.map V.str))) as rows
theorem RwT.ex {H H' : Hp} {as : List Addr} {rows : List (List Str)} (e : Ex H H') (h : RwT H as rows) : RwT H' as rows := Paired.mapP h fun _ _ z => e _ _ z
theorem RwT.off {H : Hp} {as : List Addr} {rows : List (List Str)} {l : Addr} {xs : List V} {o : HO} (hl : H l = some (.lst xs)) (h : RwT H as rows) : RwT (upd H l o) as rows := Paired.mapP h fun a b z => by
  rw [upd_ne (fun e => by rw [e, hl] at z; cases z)]
  exact z
theorem blockOf_mem {bs : List (List Str)} {p : Str} : p ∈ blockOf bs p := by
  unfold blockOf
  cases h : bs.find? fun b => decide (p ∈ b) with
  | none => simp
  | some b => simpa using List.find?_some h
theorem blockOf_len {bs : List (List Str)} {p : Str} {n : Nat} (h1 : 1 ≤ n) (h : bs.flatten.length ≤ n) : (blockOf bs p).length ≤ n := by
  unfold blockOf
  cases e : bs.find? fun b => decide (p ∈ b) with
  | none => exact h1
  | some b => exact Nat.le_trans (List.Sublist.length_le (List.sublist_flatten_of_mem (List.mem_of_find?_eq_some e))) h
def spOrder (K : PySem.W.Frag) : Sp := fun vs H Q _ => ∃ (pl bl : Addr) (ps : List Str) (as : List Addr) (bs : List (List Str)), vs = [.ref pl, .ref bl] ∧ SqA K H pl (ps.map V.str) ∧ SqA K H bl (as.map V.ref) ∧ Rws K H as bs ∧ bs.flatten.Nodup ∧ bs.flatten.length ≤ 1000 ∧ ps.length ≤ 1000 ∧
  ∀ H' r as', Ex H H' → H r = none → H' r = some (.tup (as'.map V.ref)) → RwT H' as' (canon ps bs) → Q (.ref r) H'
structure TO0 (mg : Str → Option Value) : Prop where
  n_tuple : mg "tuple" = none
theorem atI0 {x : V} {xs : List V} : atI (x :: xs) 0 = some x := by simp [atI, ixN]
theorem w_getRow {K : PySem.W.Frag} {td ty tx : TE} {σ : L2.St} {H : Hp} {d : Addr} {as : List Addr} {bs : List (List Str)} {p : Str} {Q : VK} (hd : Ev td σ H (.ref d)) (h : H d = some (.dK (dictOf as bs))) (hrw : Rws K H as bs) (hy : Ev ty σ H (.str p)) (hx : EvL tx σ H [.str p])
    (k : ∀ a H', Ex H H' → SqA K H' a ((blockOf bs p).map V.str) → Q (.ref a) H') : tDGet2 td ty tx σ H Q := by
  refine w_dget2L (k := .inr p) hd h hy hx (fun v hv H' e => ?_) (fun hv q H' hq e h2 => ?_)
  · rcases val_rows p hrw with ⟨n, _⟩ | ⟨a, row, e1, e2, f⟩
    · rw [n] at hv
      cases hv
    · rw [e1] at hv
      cases hv
      refine k a H' e ?_
      unfold blockOf
      rw [e2]
      exact f.ex e
  · rcases val_rows p hrw with ⟨n, e2⟩ | ⟨a, row, e1, e2, f⟩
    · refine k q H' e ?_
      unfold blockOf
      rw [e2]
      exact .inl (SqL.of h2)
    · rw [e1] at hv
      cases hv
theorem leads_no {ps : List Str} {bs : List (List Str)} {p : Str} (hp : p ∈ ps) : ∃ q t, rowPos ps bs p = q :: t := by
  have h : p ∈ rowPos ps bs p := List.mem_filter.mpr ⟨hp, decide_eq_true blockOf_mem⟩
  cases e : rowPos ps bs p with
  | nil => rw [e] at h; cases h
  | cons q t => exact ⟨q, t, rfl⟩
section
variable {P : Program} {w : World} {K : PySem.W.Frag} {mg : Str → Option Value} {base : Heap}
theorem ok_order {f : Addr} {fd : FuncData} (F : Fun K "_in_order" "_in_order" sOrder f fd) (T : TO0 mg) : FnOk P w K mg base CX0 1 f fd ["places", "blocks"] (spOrder K) := by
  refine F.ok scOr (fun vs H Q E h => ?_) (fun cdv A outer s H vs Q E hr h => ?_)
  · obtain ⟨pl, bl, ps, as, bs, rfl, _⟩ := h
    rfl
  · obtain ⟨pl, bl, ps, as, bs, rfl, hpl, hbl, hrw, nd, few, pfew, k⟩ := h
    have hu := hu_of hr
    refine ⟨_, (pss_cons (ps_setDc2 (i := 2) (own := [("block", 3), ("member", 4)]) (vs1 := [4]) (g := gName 3) (g1 := gName 4) (by rfl) scOr.nd rfl rfl (sw_dict rfl rfl rfl (by decide +kernel)) (pi_any K 1 (pv 1)) (blkOk_by (own := [("block", 3), ("member", 4)]) (N := ["places", "blocks", "listed", "block", "member", "ordered", "place", "positions", "other", "constants"]) (sc := defScope sOrder) (by decide +kernel)) (by decide) (fun _ _ _ _ _ => (pg_name (i := 3) scOr.nd rfl (Or.inl rfl))) (fun _ _ _ _ _ => (pi_any K 3 (pv 3))) (fun _ _ _ _ _ => (pg_name (i := 4) scOr.nd rfl (Or.inl rfl))) (fun _ _ _ _ _ => (pv 4)) (fun _ _ _ _ _ => (pv 3)))
    (pss_cons (ps_set (i := 5) scOr.nd rfl (Or.inl rfl) (pe_lst pa_nil))
    (pss_cons (ps_for PassesOwn.never rfl (pi_any K 0 (pv 0)) (pg_name (i := 6) scOr.nd rfl (Or.inl rfl))
      (pss_cons (ps_set (i := 3) scOr.nd rfl (Or.inr rfl) (pe_dget2 hu (pv 2) (pv 6) (pe_lst (pa_cons (pv 6) pa_nil)) ⟨rfl, rfl, rfl, rfl⟩))
      (pss_cons (ps_setLc (i := 7) (own := [("other", 8)]) (g := gName 8) (by rfl) scOr.nd rfl rfl (sw_true rfl rfl rfl (by decide +kernel)) (pi_any K 0 (pv 0)) (blkOk_by (own := [("other", 8)]) (N := ["places", "blocks", "listed", "block", "member", "ordered", "place", "positions", "other", "constants"]) (sc := defScope sOrder) (by decide +kernel)) (fun _ _ _ _ _ => (pg_name (i := 8) scOr.nd rfl (Or.inl rfl))) (fun _ _ _ _ _ => (pts_one (pt_cmpR (inSeq K) (pv 8) (pv 3) (by rfl)))) (fun _ _ _ _ _ => (pv 8)))
      (pss_one (ps_if (pt_cmpR op_eq (pe_ix (ixL K) (pv 7) pe_int (fun _ _ => rfl)) (pv 6) (nomark _))
        (pss_cons (ps_setLc (i := 9) (own := [("member", 4)]) (g := gName 4) (by rfl) scOr.nd rfl rfl (sw_true rfl rfl rfl (by decide +kernel)) (pi_any K 3 (pv 3)) (blkOk_by (own := [("member", 4)]) (N := ["places", "blocks", "listed", "block", "member", "ordered", "place", "positions", "other", "constants"]) (sc := defScope sOrder) (by decide +kernel)) (fun _ _ _ _ _ => (pg_name (i := 4) scOr.nd rfl (Or.inl rfl))) (fun _ _ _ _ _ => (pts_one (pt_cmpR (notInSeq K) (pv 4) (pv 0) (by rfl)))) (fun _ _ _ _ _ => (pv 4)))
        (pss_one (ps_expr (bmK K PySem.F.plainAttrs_list PySem.F.slot_list_append PySem.F.type_list_append mt_append (pv 5) (pa_cons (pe_callTy (tupOf K) (by rfl) T.n_tuple (by decide +kernel) (pa_cons (pe_op op_cat (pv 7) (pv 9)) pa_nil)) pa_nil)))))
        pss_nil)))))
    (pss_one (ps_ret (pe_callTy (tupOf K) (by rfl) T.n_tuple (by decide +kernel) (pa_cons (pv 5) pa_nil))))))), ?_⟩
    refine q_set (ed_rows as bs hrw nd (Nat.le_trans few (by decide)) (by show 3 < 10; decide) (by show 4 < 10; decide) (by decide) (wi_any rfl hbl) H (Ex.refl H) _ fun di H1 hdi e1 h1 => ?_)
    refine q_asgL (el_lst ea_nil (by decide)) (fun od H2 hod e2 h2 => ?_)
    refine q_forA (a := pl) (xs := ps.map V.str) (H0 := H) rfl hpl (fun i σ' H' => ∃ v3 v4 v6 v7 v8 v9 as', σ' = [some (.ref pl), some (.ref bl), some (.ref di), v3, v4, some (.ref od), v6, v7, v8, v9] ∧ Ex H1 H' ∧ H' od = some (.lst (as'.map V.ref)) ∧ RwT H' as' (((ps.take i).filter (leads ps bs)).map (rowOf ps bs)))
      ⟨none, none, none, none, none, none, [], rfl, e2, h2, .nil⟩ (fun i σ' H' _ p => by obtain ⟨_, _, _, _, _, _, _, _, e, _⟩ := p; exact e1.trans e) (fun i x σ' H' hx p => ?_) (fun σ' H' p => ?_)
    · obtain ⟨v3, v4, v6, v7, v8, v9, as', rfl, e, hl, rw'⟩ := p
      have hi : i < ps.length := by
        have := (List.getElem?_eq_some_iff.mp hx).1
        simpa using this
      rw [List.getElem?_map, List.getElem?_eq_getElem hi] at hx
      obtain rfl : x = V.str ps[i] := (Option.some.inj hx).symm
      have hmem : ps[i] ∈ ps := List.getElem_mem hi
      have htk : ps.take (i + 1) = ps.take i ++ [ps[i]] := List.take_succ_eq_append_getElem hi
      have las : as'.length ≤ 1000 := by
        have q := Paired.length rw'
        have z := List.length_filter_le (leads ps bs) (ps.take i)
        rw [List.length_map] at q
        rw [List.length_take] at z
        omega
      generalize ps[i] = p at hmem htk
      have eH := e1.trans e
      refine q_set (w_getRow (as := as) (bs := bs) (p := p) (ev_var rfl) (e _ _ h1) (hrw.ex eH) (ev_var rfl) (el_lst (ea_cons (ev_var rfl) ea_nil) (by show 1 ≤ 100000; decide)) (fun bk H4 e4 hbk => ?_))
      have few4 : (blockOf bs p).length ≤ 1000 := blockOf_len (by decide) few
      refine q_asgL (el_filtA (fun o => decide (o ∈ blockOf bs p)) rfl (hpl.ex (eH.trans e4)) (by omega) (by show 8 < 10; decide) (fun _ => rfl) (fun m _ H5 e5 => et_test (ev_op (ev_var rfl) (ev_var rfl) (rv_inStr (hbk.ex e5))))) (fun po H5 hpo e5 h5 => ?_)
      obtain ⟨q, t, hq⟩ := leads_no (bs := bs) hmem
      refine s_when (b := leads ps bs p) (et_test (ev_is (ev_op (ev_op (ev_var rfl) ev_c (rv_ixL (v := .str q) (SqL.of h5) (by rw [show ps.filter (fun o => decide (o ∈ blockOf bs p)) = q :: t from hq]; exact atI0))) (ev_var rfl) (rv_eq rfl)) (by unfold leads; rw [hq]; simp))) (fun hb H6 e6 => ?_) (fun hb H6 e6 => ?_)
      · refine q_asgL (el_filtA (fun m => decide (m ∉ ps)) rfl (hbk.ex (e5.trans e6)) (by omega) (by show 4 < 10; decide) (fun _ => rfl) (fun m _ H7 e7 => et_test (ev_op (ev_var rfl) (ev_var rfl) (rv_niStr (hpl.ex ((eH.trans e4).trans ((e5.trans e6).trans e7))))))) (fun co H7 hco e7 h7 => ?_)
        have e47 := ((e4.trans e5).trans e6).trans e7
        refine s_appU (e47 _ _ hl) (ev_var rfl) (eu_tupL (el_cat (ev_var rfl) (ev_var rfl) ((e6.trans e7) _ _ h5) h7 ?_)) (by rw [List.length_map]; omega) (fun tp H8 htp e8 h8 => ?_)
        · have z := List.length_filter_le (fun o => decide (o ∈ blockOf bs p)) ps
          have z2 := List.length_filter_le (fun m => decide (m ∉ ps)) (blockOf bs p)
          rw [List.length_map, List.length_map]
          omega
        · have e48 := e47.trans e8
          have l8 := e48 _ _ hl
          refine ⟨_, _, _, _, _, _, as' ++ [tp], rfl, Ex.mut (e.trans e48) hod, ?_, ?_⟩
          · rw [upd_same, List.map_append]
            rfl
          · rw [htk, List.filter_append, List.map_append]
            have : [p].filter (leads ps bs) = [p] := by rw [List.filter_cons, if_pos hb]; rfl
            rw [this]
            refine Paired.snoc ((rw'.ex e48).off l8) ?_
            rw [upd_ne (fun z => by rw [z, l8] at h8; cases h8), h8, ← List.map_append]
            rfl
      · have e46 := (e4.trans e5).trans e6
        refine ⟨_, _, _, _, _, _, as', rfl, e.trans e46, e46 _ _ hl, ?_⟩
        rw [htk, List.filter_append, List.map_append]
        have : [p].filter (leads ps bs) = [] := by rw [List.filter_cons, hb]; rfl
        rw [this, List.map_nil, List.append_nil]
        exact rw'.ex e46
    · obtain ⟨v3, v4, v6, v7, v8, v9, as', rfl, e, hl, rw'⟩ := p
      refine s_retU (eu_tupR (ev_var rfl) (SqL.of hl)) (fun r H9 hr9 e9 h9 => k H9 r as' ((e1.trans e).trans e9) ?_ h9 ?_)
      · exact fresh_back (e1.trans e) hr9
      · rw [List.length_map, List.take_length] at rw'
        exact rw'.ex e9
end
end My

namespace My
open PySem PySem.Spec PyProof.Rows L2 Evl
/-! ### the canonical blocks -/
theorem flat_uniq {bs : List (List Str)} (nd : bs.flatten.Nodup) {b c : List Str} {m : Str} (hb : b ∈ bs) (hc : c ∈ bs) (m1 : m ∈ b) (m2 : m ∈ c) : b = c := by
  induction bs with
  | nil => cases hb
  | cons r t ih =>
    rw [List.flatten_cons] at nd
    obtain ⟨_, n2, n3⟩ := List.nodup_append.mp nd
    rcases List.mem_cons.mp hb with hb1 | hb1
    · rcases List.mem_cons.mp hc with hc1 | hc1
      · rw [hb1, hc1]
      · rw [hb1] at m1
        exact absurd rfl (n3 _ m1 _ (List.mem_flatten_of_mem hc1 m2))
    · rcases List.mem_cons.mp hc with hc1 | hc1
      · rw [hc1] at m2
        exact absurd rfl (n3 _ m2 _ (List.mem_flatten_of_mem hb1 m1))
      · exact ih n2 hb1 hc1
theorem blockOf_in {bs : List (List Str)} (nd : bs.flatten.Nodup) {b : List Str} {m : Str} (hb : b ∈ bs) (hm : m ∈ b) : blockOf bs m = b := by
  unfold blockOf
  cases h : bs.find? fun b => decide (m ∈ b) with
  | none => exact absurd hm (by simpa using List.find?_eq_none.mp h b hb)
  | some c => exact flat_uniq nd (List.mem_of_find?_eq_some h) hb (by simpa using List.find?_some h) hm
theorem blockOf_cases {bs : List (List Str)} {p : Str} : blockOf bs p ∈ bs ∨ (blockOf bs p = [p] ∧ ∀ b ∈ bs, p ∉ b) := by
  unfold blockOf
  cases h : bs.find? fun b => decide (p ∈ b) with
  | none => exact .inr ⟨rfl, fun b hb => by simpa using List.find?_eq_none.mp h b hb⟩
  | some c => exact .inl (List.mem_of_find?_eq_some h)
theorem blockOf_same {bs : List (List Str)} (nd : bs.flatten.Nodup) {m p : Str} (h : m ∈ blockOf bs p) : blockOf bs m = blockOf bs p := by
  rcases blockOf_cases (bs := bs) (p := p) with hb | ⟨hb, _⟩
  · exact blockOf_in nd hb h
  · rw [hb] at h ⊢
    obtain rfl : m = p := by simpa using h
    exact hb
theorem blockOf_nd {bs : List (List Str)} (nd : bs.flatten.Nodup) {p : Str} : (blockOf bs p).Nodup := by
  rcases blockOf_cases (bs := bs) (p := p) with hb | ⟨hb, _⟩
  · exact List.Nodup.sublist (List.sublist_flatten_of_mem hb) nd
  · rw [hb]; simp
theorem rowOf_nd {ps : List Str} {bs : List (List Str)} (np : ps.Nodup) (nd : bs.flatten.Nodup) {p : Str} : (rowOf ps bs p).Nodup := by
  refine List.nodup_append.mpr ⟨np.filter _, (blockOf_nd nd).filter _, fun a ha b hb e => ?_⟩
  have h1 := (List.mem_filter.mp ha).1
  have h2 := (List.mem_filter.mp hb).2
  rw [← e] at h2
  exact of_decide_eq_true h2 h1
theorem rowOf_mem {ps : List Str} {bs : List (List Str)} {p m : Str} (h : m ∈ rowOf ps bs p) : m ∈ blockOf bs p := by
  rcases List.mem_append.mp h with h | h
  · exact of_decide_eq_true (List.mem_filter.mp h).2
  · exact (List.mem_filter.mp h).1
theorem leads_inj {ps : List Str} {bs : List (List Str)} (nd : bs.flatten.Nodup) {p q m : Str} (hp : leads ps bs p = true) (hq : leads ps bs q = true) (h1 : m ∈ blockOf bs p) (h2 : m ∈ blockOf bs q) : p = q := by
  have e : blockOf bs p = blockOf bs q := (blockOf_same nd h1).symm.trans (blockOf_same nd h2)
  have r : rowPos ps bs p = rowPos ps bs q := by unfold rowPos; rw [e]
  have a := of_decide_eq_true hp
  have b := of_decide_eq_true hq
  rw [r, b] at a
  exact (Option.some.inj a).symm
theorem canon_nd {ps : List Str} {bs : List (List Str)} (np : ps.Nodup) (nd : bs.flatten.Nodup) : (canon ps bs).flatten.Nodup := by
  unfold canon
  have go : ∀ qs : List Str, qs.Nodup → (∀ q ∈ qs, leads ps bs q = true) → ((qs.map (rowOf ps bs)).flatten).Nodup := by
    intro qs
    induction qs with
    | nil => intro _ _; simp
    | cons q t ih =>
      intro n l
      rw [List.map_cons, List.flatten_cons]
      obtain ⟨n1, n2⟩ := List.nodup_cons.mp n
      refine List.nodup_append.mpr ⟨rowOf_nd np nd, ih n2 fun x hx => l x (List.mem_cons_of_mem _ hx), fun a ha b hb e => ?_⟩
      subst e
      obtain ⟨r, hr, ar⟩ := List.mem_flatten.mp hb
      obtain ⟨x, hx, rfl⟩ := List.mem_map.mp hr
      have := leads_inj nd (l q (List.mem_cons_self ..)) (l x (List.mem_cons_of_mem _ hx)) (rowOf_mem ha) (rowOf_mem ar)
      exact n1 (this ▸ hx)
  exact go _ (np.filter _) fun q hq => (List.mem_filter.mp hq).2
theorem nd_le : ∀ {l1 l2 : List Str}, l1.Nodup → (∀ m ∈ l1, m ∈ l2) → l1.length ≤ l2.length
  | [], _, _, _ => Nat.zero_le _
  | a :: t, l2, nd, h => by
    obtain ⟨n1, n2⟩ := List.nodup_cons.mp nd
    have ha := h a (List.mem_cons_self ..)
    have q := nd_le (l2 := l2.filter fun m => decide (m ≠ a)) n2 fun m hm => List.mem_filter.mpr ⟨h m (List.mem_cons_of_mem _ hm), by
      simp only [decide_eq_true_eq]
      intro z
      exact n1 (z ▸ hm)⟩
    have lt : (l2.filter fun m => decide (m ≠ a)).length < l2.length := by
      rw [List.length_filter_lt_length_iff_exists]
      exact ⟨a, ha, by simp⟩
    rw [List.length_cons]
    omega
theorem canon_few {ps : List Str} {bs : List (List Str)} (np : ps.Nodup) (nd : bs.flatten.Nodup) : (canon ps bs).flatten.length ≤ ps.length + bs.flatten.length := by
  rw [← List.length_append]
  refine nd_le (canon_nd np nd) fun m hm => ?_
  obtain ⟨r, hr, ar⟩ := List.mem_flatten.mp hm
  obtain ⟨p, hp, rfl⟩ := List.mem_map.mp hr
  have h := rowOf_mem ar
  rcases blockOf_cases (bs := bs) (p := p) with hb | ⟨hb, _⟩
  · exact List.mem_append_right _ (List.mem_flatten_of_mem hb h)
  · rw [hb] at h
    obtain rfl : m = p := by simpa using h
    exact List.mem_append_left _ ((List.mem_filter.mp hp).1)
end My

namespace My
open PySem PySem.Spec PyProof.Rows L2 Evl
/-! ### a pattern -/
structure PatAt (K : PySem.W.Frag) (C : Addr) (H : Hp) (a : Addr) (ps : List Str) (bs : List (List Str)) : Prop where
  ex : ∃ (dx pl bl di : Addr) (as : List Addr), H a = some (.ins C dx [("places", .ref pl), ("_blocks", .ref bl), ("_block_of", .ref di)]) ∧ SqT K H pl (ps.map V.str) ∧ H bl = some (.tup (as.map V.ref)) ∧ RwT H as bs ∧ H di = some (.dK (dictOf as bs))
theorem PatAt.same {K : PySem.W.Frag} {C : Addr} {H H' : Hp} {a : Addr} {ps : List Str} {bs : List (List Str)} (e : Ex H H') (h : PatAt K C H a ps bs) : PatAt K C H' a ps bs := by
  obtain ⟨dx, pl, bl, di, as, h1, h2, h3, h4, h5⟩ := h
  exact ⟨dx, pl, bl, di, as, e _ _ h1, ex_t e h2, e _ _ h3, h4.ex e, e _ _ h5⟩
def spInit (K : PySem.W.Frag) (C : Addr) : Sp := fun vs H Q _ => ∃ (x dx pl bl : Addr) (ps : List Str) (as : List Addr) (bs : List (List Str)), vs = [.ref x, .ref pl, .ref bl] ∧ H x = some (.ins C dx []) ∧ SqA K H pl (ps.map V.str) ∧ SqA K H bl (as.map V.ref) ∧ Rws K H as bs ∧ Valid ps bs ∧ ps.Nodup ∧ ps.length ≤ 1000 ∧
  ∀ H', (∀ b o, b ≠ x → H b = some o → H' b = some o) → PatAt K C H' x ps (canon ps bs) → Q .non H'
structure TP0 (K : PySem.W.Frag) (C : Addr) : Prop where
  cl : Cls K C
  n1 : NoAttr K C "places"
  n2 : NoAttr K C "_blocks"
  n3 : NoAttr K C "_block_of"
abbrev sPInit : Stmt := inClass (top 18) 0
theorem scPInit : FnScope ["self", "places", "blocks", "block", "member"] ["self", "places", "blocks"] (defScope sPInit) := ⟨rfl, rfl, rfl, by decide +kernel, rfl, by decide +kernel, by decide +kernel⟩
theorem w_tupA {K : PySem.W.Frag} {te : TE} {σ : L2.St} {H : Hp} {a : Addr} {xs : List V} {Q : VK} (h : Ev te σ H (.ref a)) (hx : SqA K H a xs) (k : ∀ r H', Ex H H' → SqT K H' r xs → Q (.ref r) H') : tCB (rTupS K) (tCons te tNil) σ H Q :=
  h H (Ex.refl H) _ fun H1 e1 => ⟨a, xs, rfl, (hx.ex e1).elim (fun z => .inl ⟨z, fun l hl => k l _ (e1.trans (Ex.new hl)) (st_of upd_same)⟩) fun z => .inr ⟨z, k a H1 e1 z⟩⟩
/-- all but the object at x stands -/
def But (x : Addr) (H H' : Hp) : Prop := ∀ b o, b ≠ x → H b = some o → H' b = some o
theorem But.of {x : Addr} {H H' : Hp} (e : Ex H H') : But x H H' := fun b o _ h => e b o h
theorem But.trans {x : Addr} {H H1 H2 : Hp} (a : But x H H1) (b : But x H1 H2) : But x H H2 := fun c o n h => b c o n (a c o n h)
theorem But.upd {x : Addr} {H : Hp} {o : HO} : But x H (upd H x o) := fun b u n h => by rw [upd_ne n]; exact h
theorem Rd.but {x : Addr} {H H' : Hp} {a : Addr} {u : HO} {C dx : Addr} {fs : List (Str × V)} (e : But x H H') (hx : H x = some (.ins C dx fs)) (hu : ∀ C dx fs, u ≠ .ins C dx fs) (h : Rd H a u) : Rd H' a u := by
  have n : a ≠ x := fun z => by
    subst z
    rcases h with h | ⟨o, h⟩
    · rw [hx] at h
      exact hu _ _ _ (Option.some.inj h).symm
    · rw [hx] at h
      cases h
  rcases h with h | ⟨o, h⟩
  · exact .inl (e _ _ n h)
  · exact .inr ⟨o, e _ _ n h⟩
theorem SqT.but {K : PySem.W.Frag} {x : Addr} {H H' : Hp} {a : Addr} {xs : List V} {C dx : Addr} {fs : List (Str × V)} (e : But x H H') (hx : H x = some (.ins C dx fs)) (h : SqT K H a xs) : SqT K H' a xs := h.elim (fun z => .inl (Rd.but e hx (fun _ _ _ w => nomatch w) z)) .inr
theorem SqA.but {K : PySem.W.Frag} {x : Addr} {H H' : Hp} {a : Addr} {xs : List V} {C dx : Addr} {fs : List (Str × V)} (e : But x H H') (hx : H x = some (.ins C dx fs)) (h : SqA K H a xs) : SqA K H' a xs :=
  h.elim (fun z => .inl (z.elim (fun z => .inl (Rd.but e hx (fun _ _ _ w => nomatch w) z)) .inr)) fun z => .inr (SqT.but e hx z)
theorem RwT.but {x : Addr} {H H' : Hp} {as : List Addr} {rows : List (List Str)} {C dx : Addr} {fs : List (Str × V)} (e : But x H H') (hx : H x = some (.ins C dx fs)) (h : RwT H as rows) : RwT H' as rows := Paired.mapP h fun a _ z => e _ _ (fun w => by rw [w, hx] at z; cases z) z
theorem RwT.any {K : PySem.W.Frag} {H : Hp} {as : List Addr} {rows : List (List Str)} (h : RwT H as rows) : Rws K H as rows := Paired.mapP h fun _ _ z => .inr (st_of z)
theorem Rws.but {K : PySem.W.Frag} {x : Addr} {H H' : Hp} {as : List Addr} {rows : List (List Str)} {C dx : Addr} {fs : List (Str × V)} (e : But x H H') (hx : H x = some (.ins C dx fs)) (h : Rws K H as rows) : Rws K H' as rows := Paired.mapP h fun _ _ z => SqA.but e hx z
/-- o.f = e, the value made; o.f -/
theorem w_st {K : PySem.W.Frag} {ta : TE} {R : L2.St → Hp → Prop} {σ : L2.St} {H : Hp} {f : Str} {x C dx : Addr} {fs : List (Str × V)} {y : V} (cl : Cls K C) (no : NoAttr K C f) (few : fs.length < 1000) (ho : Ev ta σ H (.ref x)) (hx : H x = some (.ins C dx fs))
    (k : ∀ H', Ex H H' → R σ (upd H' x (.ins C dx (putF f y fs)))) : ta σ H fun z H2 => ∃ a C dx fs, z = .ref a ∧ H2 a = some (.ins C dx fs) ∧ Cls K C ∧ NoAttr K C f ∧ fs.length < 1000 ∧ R σ (upd H2 a (.ins C dx (putF f y fs))) :=
  ho H (Ex.refl H) _ fun H1 e1 => ⟨x, C, dx, fs, rfl, e1 _ _ hx, cl, no, few, k H1 e1⟩
theorem s_fld_of {K : PySem.W.Frag} {ta tv : TE} {f : Str} {D : Ends} {σ : L2.St} {H : Hp} (h : tv σ H fun y H1 => ta σ H1 fun z H2 => ∃ a C dx fs, z = .ref a ∧ H2 a = some (.ins C dx fs) ∧ Cls K C ∧ NoAttr K C f ∧ fs.length < 1000 ∧ D.nx σ (upd H2 a (.ins C dx (putF f y fs)))) : sFld K ta tv f D σ H := h
theorem ev_fld {K : PySem.W.Frag} {te : TE} {σ : L2.St} {H : Hp} {f : Str} {x C dx : Addr} {fs : List (Str × V)} {y : V} (cl : Cls K C) (no : NoAttr K C f) (h : Ev te σ H (.ref x)) (hx : H x = some (.ins C dx fs)) (l : fs.lookup f = some y) : Ev (tFld K te f) σ H y := fun H1 e1 Q q =>
  h H1 e1 _ fun H2 e2 => ⟨x, C, dx, fs, y, rfl, (e1.trans e2) _ _ hx, cl, no, l, q H2 e2⟩
section
variable {P : Program} {w : World} {K : PySem.W.Frag} {mg : Str → Option Value} {base : Heap}
theorem ok_pinit {C f fC fO : Addr} {fd fdC fdO : FuncData} (F : Fun K "__init__" "Pattern.__init__" sPInit f fd) (T : TO0 mg) (TC : TP0 K C)
    (G__check_blocks : FnOk P w K mg base CX0 3 fC fdC ["places", "blocks"] (spCheck K)) (m__check_blocks : mg "_check_blocks" = some (.ref fC)) (k__check_blocks : PySem.W.keepIn K (.ref fC) = true) (b__check_blocks : Binds K fdC ["places", "blocks"] [])
    (G__in_order : FnOk P w K mg base CX0 1 fO fdO ["places", "blocks"] (spOrder K)) (m__in_order : mg "_in_order" = some (.ref fO)) (k__in_order : PySem.W.keepIn K (.ref fO) = true) (b__in_order : Binds K fdO ["places", "blocks"] []) :
    FnOk P w K mg base CX0 4 f fd ["self", "places", "blocks"] (spInit K C) := by
  refine F.ok scPInit (fun vs H Q E h => ?_) (fun cdv A outer s H vs Q E hr h => ?_)
  · obtain ⟨x, dx, pl, bl, ps, as, bs, rfl, _⟩ := h
    rfl
  · obtain ⟨x, dx, pl, bl, ps, as, bs, rfl, hx, hpl, hbl, hrw, hv, np, pfew, k⟩ := h
    have hr__check_blocks : Room 3 _ := hr
    have hr__in_order : Room 1 _ := hr.mono (by decide)
    refine ⟨_, (pss_cons (ps_expr (pe_call G__check_blocks hr__check_blocks rfl m__check_blocks k__check_blocks b__check_blocks .nil pass0 (pa_cons (pv 1) (pa_cons (pv 2) pa_nil))))
    (pss_cons (ps_fld (pv 0) (pe_callTy (tupOf K) (by rfl) T.n_tuple (by decide +kernel) (pa_cons (pv 1) pa_nil)) rfl)
    (pss_cons (ps_fld (pv 0) (pe_call G__in_order hr__in_order rfl m__in_order k__in_order b__in_order .nil pass0 (pa_cons (pv 1) (pa_cons (pv 2) pa_nil))) rfl)
    (pss_one (ps_fld (pv 0) (pe_dc2 (own := [("block", 3), ("member", 4)]) (vs1 := [4]) (g := gName 3) (g1 := gName 4) (by rfl) scPInit.nd (piT K (fldK K (pv 0))) (blkOk_by (own := [("block", 3), ("member", 4)]) (N := ["self", "places", "blocks", "block", "member"]) (sc := defScope sPInit) (by decide +kernel)) (by decide) (fun _ _ _ _ _ => (pg_name (i := 3) scPInit.nd rfl (Or.inl rfl))) (fun _ _ _ _ _ => (pi_any K 3 (pv 3))) (fun _ _ _ _ _ => (pg_name (i := 4) scPInit.nd rfl (Or.inl rfl))) (fun _ _ _ _ _ => (pv 4)) (fun _ _ _ _ _ => (pv 3))) rfl))))), ?_⟩
    refine q_drop (ev_call (ea_cons (ev_var rfl) (ea_cons (ev_var rfl) ea_nil)) (fun H1 e1 Q q E => ⟨pl, bl, ps, as, bs, rfl, hpl.ex e1, hbl.ex e1, hrw.ex e1, hv, q⟩)) (fun H1 e1 => ?_)
    refine w_tupA (ev_var rfl) (hpl.ex e1) (fun r H2 e2 hr2 => ?_)
    refine w_st TC.cl TC.n1 (by decide) (ev_var rfl) ((e1.trans e2) _ _ hx) (fun H3 e3 => ?_)
    have e123 := (e1.trans e2).trans e3
    generalize hH4 : upd H3 x _ = H4
    have x4 : H4 x = some (.ins C dx [("places", .ref r)]) := by rw [← hH4]; exact upd_same
    have b34 : But x H3 H4 := by rw [← hH4]; exact But.upd
    have b4 : But x H H4 := (But.of e123).trans b34
    have r4 : SqT K H4 r (ps.map V.str) := SqT.but b34 (e123 _ _ hx) (ex_t e3 hr2)
    refine w_call (w_eva (ea_cons (ev_var rfl) (ea_cons (ev_var rfl) ea_nil)) (fun H5 e5 => ⟨pl, bl, ps, as, bs, rfl, (hpl.but b4 hx).ex e5, (hbl.but b4 hx).ex e5, (hrw.but b4 hx).ex e5, hv.nd, hv.few.2, pfew, fun H6 o as' e6 ho h6 hrow => ?_⟩))
    have e56 := e5.trans e6
    refine w_st TC.cl TC.n2 (by show 1 < 1000; decide) (ev_var rfl) (e56 _ _ x4) (fun H7 e7 => ?_)
    have e57 := e56.trans e7
    generalize hH8 : upd H7 x _ = H8
    have x8 : H8 x = some (.ins C dx [("places", .ref r), ("_blocks", .ref o)]) := by rw [← hH8]; exact upd_same
    have b78 : But x H7 H8 := by rw [← hH8]; exact But.upd
    have x7 := e57 _ _ x4
    have r8 : SqT K H8 r (ps.map V.str) := SqT.but b78 x7 (ex_t e57 r4)
    have o8 : H8 o = some (.tup (as'.map V.ref)) := b78 _ _ (fun z => by rw [z] at h6; rw [e56 _ _ x4] at h6; cases h6) (e7 _ _ h6)
    have w8 : RwT H8 as' (canon ps bs) := (hrow.ex e7).but b78 x7
    have few8 : (canon ps bs).flatten.length ≤ 10000 := Nat.le_trans (canon_few np hv.nd) (by have := hv.few.2; omega)
    dsimp only
    refine s_fld_of ?_
    refine ed_rows as' (canon ps bs) w8.any (canon_nd np hv.nd) few8 (by show 3 < 5; decide) (by show 4 < 5; decide) (by decide) (wi_tup (ev_fld TC.cl TC.n2 (ev_var rfl) x8 rfl) (st_of o8)) H8 (Ex.refl H8) _ (fun di H9 hdi e9 h9 => ?_)
    refine w_st TC.cl TC.n3 (by show 2 < 1000; decide) (ev_var rfl) (e9 _ _ x8) (fun H10 e10 => ?_)
    have e910 := e9.trans e10
    have x10 := e910 _ _ x8
    refine k _ ((((b4.trans (But.of e57)).trans b78).trans (But.of e910)).trans But.upd) ⟨dx, r, o, di, as', upd_same, SqT.but But.upd x10 (ex_t e910 r8), ?_, (w8.ex e910).but But.upd x10, ?_⟩
    · exact But.upd _ _ (fun z => by rw [z, x8] at o8; cases o8) (e910 _ _ o8)
    · exact But.upd _ _ (fun z => by rw [z, e9 _ _ x8] at h9; cases h9) (e10 _ _ h9)
end
end My

namespace My
open PySem PySem.Spec PyProof.Rows L2 Evl
/-! ### a pattern's text and its length -/
def written (bs : List (List Str)) : Str := Txt.join "; " (bs.map (Txt.join " = "))
structure Small (bs : List (List Str)) : Prop where
  m : ∀ b ∈ bs, ∀ m ∈ b, m.length ≤ 100
  n : bs.length ≤ 1000
  b : ∀ b ∈ bs, b.length ≤ 100
def spPStr (K : PySem.W.Frag) (C : Addr) : Sp := fun vs H Q _ => ∃ (x : Addr) (ps : List Str) (bs : List (List Str)), vs = [.ref x] ∧ PatAt K C H x ps bs ∧ Small bs ∧ ∀ H', Ex H H' → Q (.str (written bs)) H'
def spPLen (K : PySem.W.Frag) (C : Addr) : Sp := fun vs H Q _ => ∃ (x : Addr) (ps : List Str) (bs : List (List Str)), vs = [.ref x] ∧ PatAt K C H x ps bs ∧ Small bs ∧ ∀ H', Ex H H' → Q (.int (bs.length : Int)) H'
abbrev sPStr : Stmt := inClass (top 18) 2
abbrev sPLen : Stmt := inClass (top 18) 3
theorem scPStr : FnScope ["self", "block"] ["self"] (defScope sPStr) := ⟨rfl, rfl, rfl, by decide +kernel, rfl, by decide +kernel, by decide +kernel⟩
theorem scPLen : FnScope ["self"] ["self"] (defScope sPLen) := ⟨rfl, rfl, rfl, by decide +kernel, rfl, by decide +kernel, by decide +kernel⟩
structure TL0 (mg : Str → Option Value) : Prop where
  n_len : mg "len" = none
theorem row_few {b : List Str} (hm : ∀ m ∈ b, m.length ≤ 100) (hb : b.length ≤ 100) : (b.map (·.length)).sum + b.length * (3 : Nat) ≤ 10300 := by
  have := lens_sum hm
  have : b.length * 100 ≤ 100 * 100 := Nat.mul_le_mul_right _ hb
  omega
/-- the texts of the rows, made by a comprehension -/
theorem el_rows {K : PySem.W.Frag} {wi : TI} {t : TT} {σ : L2.St} {H : Hp} {te : TE} {j : Nat} {vs : List Nat} {as : List Addr} {bs : List (List Str)} (g : List Str → V) (hr : Rws K H as bs) (n : bs.length ≤ 1000)
    (hi : ∀ H1, Ex H H1 → ∀ R : It → Hp → Prop, (∀ J H2, Ex H1 H2 → (∃ G, Walk J (as.map V.ref).length G (fun i H3 x H4 => H4 = H3 ∧ (as.map V.ref)[i]? = some x) ∧ ∀ H3, Ex H2 H3 → G H3) → R J H2) → wi σ H1 R)
    (hw : ∀ x, wipe ((wipe σ vs).set j (some x)) vs = wipe σ vs) (ht : ∀ x H1, EvT t ((wipe σ vs).set j (some x)) H1 true)
    (he : ∀ (a : Addr) (b : List Str) H1, Ex H H1 → b ∈ bs → SqA K H1 a (b.map V.str) → Ev te ((wipe σ vs).set j (some (.ref a))) H1 (g b)) : EvL (tLc wi (gName j) t te vs) σ H (bs.map g) := by
  have hlen : as.length = bs.length := Paired.length hr
  have e : given as.length (fun _ => true) (fun i => g (bs.getD i [])) = bs.map g := by
    rw [given_map, hlen]
    apply List.ext_getElem
    · simp
    · intro i h1 h2
      simp at h2
      simp [List.getD_eq_getElem?_getD, List.getElem?_eq_getElem h2]
  rw [← e]
  refine el_lcW (n := as.length) (fun _ => true) (fun i => g (bs.getD i [])) (by omega) (fun i x => (as.map V.ref)[i]? = some x) (by rw [← List.length_map (f := V.ref)]; exact hi) hw (fun i x H1 e1 hlt hx => ht x H1) (fun i x H1 e1 hlt hx _ => ?_)
  rw [List.getElem?_map, List.getElem?_eq_getElem hlt] at hx
  obtain rfl : x = V.ref as[i] := (Option.some.inj hx).symm
  have hl2 : i < bs.length := by omega
  rw [List.getD_eq_getElem?_getD, List.getElem?_eq_getElem hl2]
  exact he _ _ H1 e1 (List.getElem_mem hl2) ((paired_get hr hlt hl2).ex e1)
section
variable {P : Program} {w : World} {K : PySem.W.Frag} {mg : Str → Option Value} {base : Heap}
theorem ok_pstr {C f : Addr} {fd : FuncData} (F : Fun K "__str__" "Pattern.__str__" sPStr f fd) (TC : TP0 K C) : FnOk P w K mg base CX0 1 f fd ["self"] (spPStr K C) := by
  refine F.ok scPStr (fun vs H Q E h => ?_) (fun cdv A outer s H vs Q E hr h => ?_)
  · obtain ⟨x, ps, bs, rfl, _⟩ := h
    rfl
  · obtain ⟨x, ps, bs, rfl, ⟨dx, pl, bl, di, as, h1, h2, h3, h4, h5⟩, sm, k⟩ := h
    refine ⟨_, (pss_one (ps_ret (bmK K PySem.F.plainAttrs_str PySem.F.slot_str_join PySem.F.type_str_join (mtJoinK K) pe_str (pa_cons (pe_lc (own := [("block", 1)]) (g := gName 1) (by rfl) scPStr.nd (piT K (fldK K (pv 0))) (blkOk_by (own := [("block", 1)]) (N := ["self", "block"]) (sc := defScope sPStr) (by decide +kernel)) (fun _ _ _ _ _ => (pg_name (i := 1) scPStr.nd rfl (Or.inl rfl))) (fun _ _ _ _ _ => pts_nil) (fun _ _ _ _ _ => (bmK K PySem.F.plainAttrs_str PySem.F.slot_str_join PySem.F.type_str_join (mtJoinK K) pe_str (pa_cons (pv 1) pa_nil)))) pa_nil)))), ?_⟩
    refine s_ret (ev_joinL (ys := bs.map (Txt.join " = ")) ev_c (el_is (el_rows (K := K) (fun b => .str (Txt.join " = " b)) h4.any sm.n (wi_tup (ev_fld TC.cl TC.n2 (ev_var rfl) h1 rfl) (st_of h3)) (fun _ => rfl) (fun _ _ => et_yes) (fun a b H1 e1 hb ha => ?_)) (by rw [List.map_map]; rfl)) ?_) (fun H1 e1 => k H1 e1)
    · refine ev_joinA ev_c (ev_var rfl) ha (Nat.le_trans (row_few (sm.m b hb) (sm.b b hb)) (by decide))
    · have q := lens_sum (ys := bs.map (Txt.join " = ")) (n := 10300) (fun m hm => by
        obtain ⟨b, hb, rfl⟩ := List.mem_map.mp hm
        exact Nat.le_trans (join_len _ _) (row_few (sm.m b hb) (sm.b b hb)))
      rw [List.length_map] at q ⊢
      have n := sm.n
      show _ + bs.length * 2 ≤ _
      have : bs.length * 10300 ≤ 1000 * 10300 := Nat.mul_le_mul_right _ n
      omega
theorem ok_plen {C f : Addr} {fd : FuncData} (F : Fun K "__len__" "Pattern.__len__" sPLen f fd) (TC : TP0 K C) (T : TL0 mg) : FnOk P w K mg base CX0 1 f fd ["self"] (spPLen K C) := by
  refine F.ok scPLen (fun vs H Q E h => ?_) (fun cdv A outer s H vs Q E hr h => ?_)
  · obtain ⟨x, ps, bs, rfl, _⟩ := h
    rfl
  · obtain ⟨x, ps, bs, rfl, ⟨dx, pl, bl, di, as, h1, h2, h3, h4, h5⟩, sm, k⟩ := h
    refine ⟨_, (pss_one (ps_ret (pe_callB (lenSeq K) (by rfl) T.n_len (by decide +kernel) (pa_cons (fldK K (pv 0)) pa_nil)))), ?_⟩
    have e : ((as.map V.ref).length : Int) = (bs.length : Int) := by rw [List.length_map, Paired.length h4]
    exact s_ret (ev_is (ev_lenA (ev_fld TC.cl TC.n2 (ev_var rfl) h1 rfl) (.inr (st_of h3))) (by rw [e])) (fun H1 e1 => k H1 e1)
end
end My

namespace My
open PySem PySem.Spec PyProof.Rows L2 Evl
/-! ### constants and positions drawn -/
def quote (w : Str) : Str := "'" ++ w ++ "'"
theorem quote_len (w : Str) : (quote w).length = w.length + 2 := by
  unfold quote
  rw [app_len, app_len]
  show 1 + w.length + 1 = _
  omega
abbrev sConsts : Stmt := top 30
theorem scCo : FnScope ["st", "count", "value"] ["st", "count"] (defScope sConsts) := ⟨rfl, rfl, rfl, by decide +kernel, rfl, by decide +kernel, by decide +kernel⟩
def spConsts : Sp := fun vs H Q _ => ∃ (st l : Addr) (count : Nat), vs = [.ref st, .int (count : Int)] ∧ StAt H st l ∧ count ≤ 26 ∧
  ∀ (ws : List Str) (p : Addr) (H' : Hp), WordsOk 20 count ws → Ext st l H H' → StAt H' st l → H p = none → H' p = some (.lst ((ws.map quote).map V.str)) → Q (.ref p) H'
section
variable {P : Program} {w : World} {K : PySem.W.Frag} {mg : Str → Option Value} {base : Heap}
theorem ok_consts {f fW : Addr} {fd fdW : FuncData} (F : Fun K "_law_get_constants" "_law_get_constants" sConsts f fd) (G__law_get_words : FnOk P w K mg base CX0 2 fW fdW ["st", "most", "count"] spWords) (m__law_get_words : mg "_law_get_words" = some (.ref fW)) (k__law_get_words : PySem.W.keepIn K (.ref fW) = true) (b__law_get_words : Binds K fdW ["st", "most", "count"] []) :
    FnOk P w K mg base CX0 3 f fd ["st", "count"] spConsts := by
  refine F.ok scCo (fun vs H Q E h => ?_) (fun cdv A outer s H vs Q E hr h => ?_)
  · obtain ⟨st, l, c, rfl, _⟩ := h
    rfl
  · obtain ⟨st, l, count, rfl, S, hc, k⟩ := h
    have hr__law_get_words : Room 2 _ := hr
    refine ⟨_, (pss_one (ps_ret (pe_lc (own := [("value", 2)]) (g := gName 2) (by rfl) scCo.nd (piL K (pe_call G__law_get_words hr__law_get_words rfl m__law_get_words k__law_get_words b__law_get_words .nil pass0 (pa_cons (pv 0) (pa_cons pe_int (pa_cons (pv 1) pa_nil))))) (blkOk_by (own := [("value", 2)]) (N := ["st", "count", "value"]) (sc := defScope sConsts) (by decide +kernel)) (fun _ _ _ _ _ => (pg_name (i := 2) scCo.nd rfl (Or.inl rfl))) (fun _ _ _ _ _ => pts_nil) (fun _ _ _ _ _ => (pe_op op_add_str (pe_op op_add_str pe_str (pv 2)) pe_str))))), ?_⟩
    refine w_ret ?_
    refine w_call (w_eva (ea_cons (ev_var rfl) (ea_cons ev_c (ea_cons (ev_var rfl) ea_nil))) fun H1 e1 => ⟨st, l, 20, count, rfl, S.same e1, by decide, by decide, hc, fun ws p H2 ok e2 S2 hp h2 => ?_⟩)
    have lw : (ws.map V.str).length = ws.length := by simp
    refine (el_lcL (tl := tC (.ref p)) (fun _ => true) (fun i => V.str (quote (ws.getD i ""))) ev_c (SqL.of h2) (by rw [lw, ok.len]; omega) (fun _ => wipe1 _ _ _) (fun _ _ _ _ _ => et_yes) (fun i x H3 e3 hx _ => ?_)) H2 (Ex.refl H2) _ (fun q H3 hq e3 h3 => ?_)
    · have hi : i < ws.length := by
        have := (List.getElem?_eq_some_iff.mp hx).1
        simpa using this
      rw [List.getElem?_map, List.getElem?_eq_getElem hi] at hx
      obtain rfl : x = V.str ws[i] := (Option.some.inj hx).symm
      rw [List.getD_eq_getElem?_getD, List.getElem?_eq_getElem hi]
      have := (ok.ok _ (List.getElem_mem hi)).le
      exact ev_op (ev_op ev_c (ev_var rfl) (rv_val fun H4 _ Q q => ⟨_, _, rfl, rfl, Nat.le_trans (show 1 + (ws[i]).length ≤ 30 by omega) (by decide), q⟩)) ev_c (rv_val fun H4 _ Q q => ⟨_, _, rfl, rfl, Nat.le_trans (show (("'" : Str) ++ ws[i]).length + 1 ≤ 30 by rw [app_len]; show 1 + _ + 1 ≤ 30; omega) (by decide), q⟩)
    · have X2 := (Ext.same e1).trans e2
      refine k ws q H3 ok (X2.trans (Ext.same e3)) (S2.same e3) (fresh_ext S X2 S2 hq) ?_
      rw [h3, given_map, lw, List.map_map]
      congr 2
      apply List.ext_getElem
      · simp
      · intro i h1 h2
        simp at h2
        simp [List.getD_eq_getElem?_getD, List.getElem?_eq_getElem h2]
end
end My

namespace My
open PySem PySem.Spec PyProof.Rows L2 Evl
/-! ### positions -/
structure PlOk (most : Nat) (ps : List Str) : Prop where
  nd : ps.Nodup
  n1 : 1 ≤ ps.length
  n : ps.length ≤ most
  le : ∀ p ∈ ps, p.length ≤ 25
  sg : ∀ p ∈ ps, ∀ c ∈ p.cps.toList, c ∈ sgL ∨ c = 46
  ne : ∀ p ∈ ps, 1 ≤ p.length
  ap : ∀ p ∈ ps, p ++ "q" ∉ ps
/-- a name, or a name behind a name and a dot -/
def IsPl (ws : List Str) (p w : Str) : Prop := p = w ∨ ∃ v ∈ ws, p = v ++ "." ++ w
def lastPart (p : Str) : List Nat := p.cps.toList.reverse.takeWhile fun c => decide (c ≠ 46)
theorem no_dot {n : Nat} {w : Str} (h : IsName n w) : ∀ c ∈ w.cps.toList, c ≠ 46 := fun c hc e => by
  have := h.sg c hc
  rw [e] at this
  exact absurd this (by decide)
theorem app_list (x y : Str) : (x ++ y).cps.toList = x.cps.toList ++ y.cps.toList := by
  show (x.cps ++ y.cps).toList = _
  simp
theorem dot_list : ("." : Str).cps.toList = [46] := by decide +kernel
theorem dotted_list (v w : Str) : (v ++ "." ++ w).cps.toList = v.cps.toList ++ 46 :: w.cps.toList := by
  rw [app_list, app_list, dot_list, List.append_assoc]
  rfl
theorem tw_all {l : List Nat} (h : ∀ c ∈ l, c ≠ 46) (r : List Nat) : (l ++ 46 :: r).takeWhile (fun c => decide (c ≠ 46)) = l := by
  induction l with
  | nil => simp
  | cons a t ih =>
    rw [List.cons_append, List.takeWhile_cons, if_pos (by simpa using h a (List.mem_cons_self ..)), ih fun c hc => h c (List.mem_cons_of_mem _ hc)]
theorem tw_all0 {l : List Nat} (h : ∀ c ∈ l, c ≠ 46) : l.takeWhile (fun c => decide (c ≠ 46)) = l := by
  induction l with
  | nil => rfl
  | cons a t ih =>
    rw [List.takeWhile_cons, if_pos (by simpa using h a (List.mem_cons_self ..)), ih fun c hc => h c (List.mem_cons_of_mem _ hc)]
theorem last_of {n : Nat} {ws : List Str} {p w : Str} (hw : IsName n w) (h : IsPl ws p w) : lastPart p = w.cps.toList.reverse := by
  have nd : ∀ c ∈ w.cps.toList.reverse, c ≠ 46 := fun c hc => no_dot hw c (List.mem_reverse.mp hc)
  unfold lastPart
  rcases h with rfl | ⟨v, _, rfl⟩
  · exact tw_all0 nd
  · rw [dotted_list, List.reverse_append, List.reverse_cons, List.append_assoc]
    exact tw_all nd _
theorem places_ok {most : Nat} {ws ps : List Str} (ok : WordsOk 12 16 ws) {c : Nat} (h1 : 1 ≤ c) (hc : c ≤ most) (hm : most ≤ 16) (h : Paired (IsPl ws) ps (ws.take c)) : PlOk most ps := by
  have len : ps.length = c := by
    have := Paired.length h
    rw [List.length_take, ok.len] at this
    omega
  have each : ∀ p ∈ ps, ∃ w ∈ ws, IsPl ws p w := by
    have go : ∀ {xs ys : List Str}, Paired (IsPl ws) xs ys → ∀ p ∈ xs, ∃ w ∈ ys, IsPl ws p w := by
      intro xs ys hp
      induction hp with
      | nil => intro p hp; cases hp
      | cons a t ih =>
        intro p hp
        rcases List.mem_cons.mp hp with rfl | hp
        · exact ⟨_, List.mem_cons_self .., a⟩
        · obtain ⟨w, hw, hh⟩ := ih p hp
          exact ⟨w, List.mem_cons_of_mem _ hw, hh⟩
    intro p hp
    obtain ⟨w, hw, hh⟩ := go h p hp
    exact ⟨w, List.mem_of_mem_take hw, hh⟩
  obtain ⟨sz, ln⟩ := ok.ln
  have two : ∀ p ∈ ps, 1 ≤ sz ∧ (p.length = sz ∨ p.length = sz + 1 + sz) := fun p hp => by
    obtain ⟨w, hw, hh⟩ := each p hp
    have lw := (ok.ok w hw).pos
    have l1 := ln w hw
    rcases hh with rfl | ⟨v, hv, rfl⟩
    · exact ⟨by omega, .inl l1⟩
    · have l2 := ln v hv
      refine ⟨by omega, .inr ?_⟩
      rw [app_len, app_len]
      show v.length + 1 + w.length = _
      omega
  refine ⟨?_, by omega, by omega, fun p hp => ?_, fun p hp c hc => ?_, fun p hp => ?_, fun p hp hq => ?_⟩
  · have e : ∀ {xs ys : List Str}, Paired (IsPl ws) xs ys → (∀ y ∈ ys, y ∈ ws) → xs.map lastPart = ys.map fun w => w.cps.toList.reverse := by
      intro xs ys hp
      induction hp with
      | nil => intro _; rfl
      | cons a t ih =>
        intro hy
        rw [List.map_cons, List.map_cons, ih fun y h => hy y (List.mem_cons_of_mem _ h), last_of (ok.ok _ (hy _ (List.mem_cons_self ..))) a]
    have e1 := e h fun y hy => List.mem_of_mem_take hy
    have nd : (ps.map lastPart).Nodup := by
      rw [e1]
      rw [List.nodup_iff_pairwise_ne, List.pairwise_map]
      refine List.Pairwise.imp ?_ (List.nodup_iff_pairwise_ne.mp (List.Nodup.sublist (List.take_sublist _ _) ok.nd))
      intro a b hab z
      have := List.reverse_inj.mp z
      exact hab (by rw [← mkS_eta a, ← mkS_eta b, this])
    rw [List.nodup_iff_pairwise_ne, List.pairwise_map] at nd
    exact List.nodup_iff_pairwise_ne.mpr (nd.imp fun hab e => hab (by rw [e]))
  · obtain ⟨w, hw, hh⟩ := each p hp
    have lw := (ok.ok w hw).le
    rcases hh with rfl | ⟨v, hv, rfl⟩
    · omega
    · have lv := (ok.ok v hv).le
      rw [app_len, app_len]
      show v.length + 1 + w.length ≤ 25
      omega
  · obtain ⟨w, hw, hh⟩ := each p hp
    rcases hh with rfl | ⟨v, hv, rfl⟩
    · exact .inl ((ok.ok _ hw).sg c hc)
    · rw [dotted_list] at hc
      rcases List.mem_append.mp hc with hc | hc
      · exact .inl ((ok.ok v hv).sg c hc)
      · rcases List.mem_cons.mp hc with rfl | hc
        · exact .inr rfl
        · exact .inl ((ok.ok w hw).sg c hc)
  · obtain ⟨w, hw, hh⟩ := each p hp
    have lw := (ok.ok w hw).pos
    rcases hh with rfl | ⟨v, hv, rfl⟩
    · exact lw
    · rw [app_len, app_len]
      show 1 ≤ v.length + 1 + w.length
      omega
  · have a := two p hp
    have b := two _ hq
    rw [app_len] at b
    have c : (("q" : Str)).length = 1 := rfl
    omega
abbrev sPlaces : Stmt := top 20
theorem scPl : FnScope ["state", "most", "words", "count", "found", "k"] ["state", "most"] (defScope sPlaces) := ⟨rfl, rfl, rfl, by decide +kernel, rfl, by decide +kernel, by decide +kernel⟩
def spPlaces : Sp := fun vs H Q _ => ∃ (st l : Addr) (most : Nat), vs = [.ref st, .int (most : Int)] ∧ StAt H st l ∧ 1 ≤ most ∧ most ≤ 16 ∧
  ∀ (ps : List Str) (p : Addr) (H' : Hp), PlOk most ps → Ext st l H H' → StAt H' st l → H p = none → H' p = some (.lst (ps.map V.str)) → Q (.ref p) H'
theorem StAt.ne_l {H : Hp} {st l p : Addr} {xs : List V} {o : HO} (S : StAt H st l) (n1 : p ≠ st) (n2 : p ≠ l) : StAt (upd H p o) st l := by
  obtain ⟨n, cs, b, c, d, h1, h2, h3⟩ := S
  exact ⟨n, cs, b, c, d, by rw [upd_ne n1.symm]; exact h1, by rw [upd_ne n2.symm]; exact h2, h3⟩
/-- xs.append(e), e's value and what it changes on the way -/
theorem w_app {K : PySem.W.Frag} {ta te : TE} {D : Ends} {σ : L2.St} {H : Hp} {l : Addr} {xs : List V} (hl : H l = some (.lst xs)) (ha : Ev ta σ H (.ref l))
    (h : ∀ H1, Ex H H1 → te σ H1 fun v H2 => ∃ l' ys v', V.ref l = .ref l' ∧ [v] = [v'] ∧ H2 l' = some (.lst ys) ∧ ys.length < sizeLine ∧ D.nx σ (upd H2 l' (.lst (ys ++ [v'])))) : tDrop (tBM K "list" rAppend ta (tCons te tNil)) D σ H :=
  ha H (Ex.refl H) _ fun H1 e1 => ⟨Or.inl ⟨rfl, xs, sq_of (e1 l _ hl)⟩, h H1 e1⟩
/-- an object that H does not know may change -/
theorem Ext.mut {st l : Addr} {H H' : Hp} {p : Addr} {o : HO} (e : Ext st l H H') (h : H p = none) : Ext st l H (upd H' p o) := fun a u n m ha => by
  rw [upd_ne (ne_of_none ha h)]
  exact e a u n m ha
section
variable {P : Program} {w : World} {K : PySem.W.Frag} {mg : Str → Option Value} {base : Heap}
theorem ok_places {f fW fD : Addr} {fd fdW fdD : FuncData} (F : Fun K "_law_places_drawn" "_law_places_drawn" sPlaces f fd) (T : TD mg) (G__law_get_words : FnOk P w K mg base CX0 2 fW fdW ["st", "most", "count"] spWords) (m__law_get_words : mg "_law_get_words" = some (.ref fW)) (k__law_get_words : PySem.W.keepIn K (.ref fW) = true) (b__law_get_words : Binds K fdW ["st", "most", "count"] [])
    (G__law_draw : FnOk P w K mg base CX0 1 fD fdD ["st", "limit"] spDraw) (m__law_draw : mg "_law_draw" = some (.ref fD)) (k__law_draw : PySem.W.keepIn K (.ref fD) = true) (b__law_draw : Binds K fdD ["st", "limit"] []) :
    FnOk P w K mg base CX0 3 f fd ["state", "most"] spPlaces := by
  refine F.ok scPl (fun vs H Q E h => ?_) (fun cdv A outer s H vs Q E hr h => ?_)
  · obtain ⟨st, l, c, rfl, _⟩ := h
    rfl
  · obtain ⟨st, l, most, rfl, S, hm1, hm, k⟩ := h
    have hr__law_get_words : Room 2 _ := hr
    have hr__law_draw : Room 1 _ := hr.mono (by decide)
    refine ⟨_, (pss_cons (ps_set (i := 2) scPl.nd rfl (Or.inl rfl) (pe_call G__law_get_words hr__law_get_words rfl m__law_get_words k__law_get_words b__law_get_words .nil pass0 (pa_cons (pv 0) (pa_cons pe_int (pa_cons pe_int pa_nil)))))
    (pss_cons (ps_set (i := 3) scPl.nd rfl (Or.inl rfl) (pe_op op_add pe_int (pe_call G__law_draw hr__law_draw rfl m__law_draw k__law_draw b__law_draw .nil pass0 (pa_cons (pv 0) (pa_cons (pv 1) pa_nil)))))
    (pss_cons (ps_set (i := 4) scPl.nd rfl (Or.inl rfl) (pe_lst pa_nil))
    (pss_cons (ps_for PassesOwn.never rfl (pi_range1 rfl T.n_range (pa_cons (pv 3) pa_nil)) (pg_name (i := 5) scPl.nd rfl (Or.inl rfl))
      (pss_one (ps_if (pt_cmpR op_eq (pe_call G__law_draw hr__law_draw rfl m__law_draw k__law_draw b__law_draw .nil pass0 (pa_cons (pv 0) (pa_cons pe_int pa_nil))) pe_int (nomark _))
        (pss_one (ps_expr (bmK K PySem.F.plainAttrs_list PySem.F.slot_list_append PySem.F.type_list_append mt_append (pv 4) (pa_cons (pe_ix (ixL K) (pv 2) (pv 5) (fun _ _ => rfl)) pa_nil))))
        (pss_one (ps_expr (bmK K PySem.F.plainAttrs_list PySem.F.slot_list_append PySem.F.type_list_append mt_append (pv 4) (pa_cons (pe_op op_add_str (pe_op op_add_str (pe_ix (ixL K) (pv 2) (pe_call G__law_draw hr__law_draw rfl m__law_draw k__law_draw b__law_draw .nil pass0 (pa_cons (pv 0) (pa_cons pe_int pa_nil))) (fun _ _ => rfl)) pe_str) (pe_ix (ixL K) (pv 2) (pv 5) (fun _ _ => rfl))) pa_nil)))))))
    (pss_one (ps_ret (pv 4))))))), ?_⟩
    refine q_set (w_call (w_eva (ea_cons (ev_var rfl) (ea_cons ev_c (ea_cons ev_c ea_nil))) fun H1 e1 => ⟨st, l, 12, 16, rfl, S.same e1, by decide, by decide, by decide, fun ws wp H2 ok e2 S2 hwp h2 => ?_⟩))
    refine q_draw1 (st := st) (l := l) (n := most) (ea_cons (ev_var rfl) (ea_cons (ev_var rfl) ea_nil)) S2 (by omega) (by omega) (fun count H3 c1 c2 e3 S3 => ?_)
    obtain ⟨c, rfl⟩ : ∃ n : Nat, count = n := ⟨count.toNat, by omega⟩
    have X2 := (Ext.same e1).trans e2
    have wne := (S.same e1).off hwp
    have X3 := X2.trans e3
    have h3 : H3 wp = some (.lst (ws.map V.str)) := e3 _ _ wne.1 wne.2 h2
    refine q_asgL (el_lst ea_nil (by decide)) (fun fo H4 hfo e4 h4 => ?_)
    have X4 := X3.trans (Ext.same e4)
    have fne := S3.off hfo
    have hfo0 : H fo = none := fresh_ext S X3 S3 hfo
    have wf : wp ≠ fo := (ne_of_none h3 hfo)
    refine q_forR1 (n := c) (ea_cons (ev_var rfl) ea_nil) ⟨by omega, by omega⟩ (fun i σ' H' => ∃ v ps, σ' = [some (.ref st), some (.int most), some (.ref wp), some (.int c), some (.ref fo), v] ∧ Ext st l H H' ∧ StAt H' st l ∧ H' wp = some (.lst (ws.map V.str)) ∧ H' fo = some (.lst (ps.map V.str)) ∧ Paired (IsPl ws) ps (ws.take i))
      (fun H5 e5 => ⟨none, [], rfl, X4.trans (Ext.same e5), (S3.same e4).same e5, (e4.trans e5) _ _ h3, e5 _ _ h4, .nil⟩) (fun i σ' H' hi p => ?_) (fun σ' H' p => ?_)
    · obtain ⟨v, ps, rfl, X', S', hw', hf', hp'⟩ := p
      have hi16 : i < ws.length := by rw [ok.len]; omega
      have lps : ps.length = i := by
        have := Paired.length hp'
        rw [List.length_take] at this
        omega
      have hwi : (ws.map V.str)[i]? = some (V.str ws[i]) := by rw [List.getElem?_map, List.getElem?_eq_getElem hi16]; rfl
      refine w_ifS (w_test (w_op (w_draw (st := st) (l := l) (n := 2) (ea_cons (ev_var rfl) (ea_cons ev_c ea_nil)) S' (by decide) (by decide) (fun r H5 r0 r1 e5 S5 => ?_))))
      have X5 := X'.trans e5
      have w5 : H5 wp = some (.lst (ws.map V.str)) := e5 _ _ wne.1 wne.2 hw'
      have f5 : H5 fo = some (.lst (ps.map V.str)) := e5 _ _ fne.1 fne.2 hf'
      have lw := (ok.ok _ (List.getElem_mem hi16)).le
      have few : (ps.map V.str).length < 100000 := by rw [List.length_map]; omega
      have htk : ws.take (i + 1) = ws.take i ++ [ws[i]] := List.take_succ_eq_append_getElem hi16
      refine ⟨rfl, _, rfl, ?_⟩
      by_cases hz : r = 0
      · rw [if_pos (by simp [hz])]
        refine s_app f5 (ev_var rfl) (ev_op (ev_var rfl) (ev_var rfl) (rv_ixL (SqL.of w5) (atI_n rfl hwi))) few (fun H6 e6 => ?_)
        refine ⟨_, ps ++ [ws[i]], rfl, (X5.trans (Ext.same e6)).mut hfo0, (S5.same e6).ne_l (xs := []) fne.1 fne.2, ?_, ?_, ?_⟩
        · rw [upd_ne wf]; exact e6 _ _ w5
        · rw [upd_same, List.map_append]; rfl
        · rw [htk]; exact Paired.snoc hp' (.inl rfl)
      · rw [if_neg (by simp [hz])]
        refine w_app f5 (ev_var rfl) (fun H6 e6 => ?_)
        refine w_op (w_op (w_op (w_ev (ev_var rfl) fun H7 e7 => w_draw (st := st) (l := l) (n := 16) (ea_cons (ev_var rfl) (ea_cons ev_c ea_nil)) ((S5.same e6).same e7) (by decide) (by decide) (fun q H8 q0 q1 e8 S8 => ?_))))
        have w8 : H8 wp = some (.lst (ws.map V.str)) := e8 _ _ wne.1 wne.2 ((e6.trans e7) _ _ w5)
        have f8 : H8 fo = some (.lst (ps.map V.str)) := e8 _ _ fne.1 fne.2 ((e6.trans e7) _ _ f5)
        have hq : q.toNat < ws.length := by rw [ok.len]; omega
        have lv := (ok.ok _ (List.getElem_mem hq)).le
        refine ⟨_, _, _, _, rfl, rfl, SqL.of w8, atI_n (j := q.toNat) (by omega) (by rw [List.getElem?_map, List.getElem?_eq_getElem hq]; rfl), ?_⟩
        refine ⟨_, _, rfl, rfl, Nat.le_trans (show (ws[q.toNat]).length + 1 ≤ 30 by omega) (by decide), ?_⟩
        refine ⟨_, rfl, _, rfl, _, _, _, _, rfl, rfl, SqL.of w8, atI_n rfl hwi, ?_⟩
        refine ⟨_, _, rfl, rfl, Nat.le_trans (show ((ws[q.toNat]) ++ ("." : Str)).length + (ws[i]).length ≤ 30 by rw [app_len]; show _ + 1 + _ ≤ 30; omega) (by decide), ?_⟩
        refine ⟨fo, _, _, rfl, rfl, f8, sz_lt few, ?_⟩
        refine ⟨_, ps ++ [ws[q.toNat] ++ "." ++ ws[i]], rfl, ((X5.trans (Ext.same (e6.trans e7))).trans e8).mut hfo0, S8.ne_l (xs := []) fne.1 fne.2, ?_, ?_, ?_⟩
        · rw [upd_ne wf]; exact w8
        · rw [upd_same, List.map_append]; rfl
        · rw [htk]; exact Paired.snoc hp' (.inr ⟨_, List.getElem_mem hq, rfl⟩)
    · obtain ⟨v, ps, rfl, X', S', hw', hf', hp'⟩ := p
      exact s_ret (ev_var rfl) (fun H5 e5 => k ps fo H5 (places_ok ok (by omega) (by omega) hm hp') (X'.trans (Ext.same e5)) (S'.same e5) hfo0 (e5 _ _ hf'))
end
end My

namespace My
open PySem PySem.Spec PyProof.Rows L2 Evl
/-! ### labels -/
abbrev sLabels : Stmt := top 24
theorem scLa : FnScope ["state", "count", "most", "drawn", "k", "label"] ["state", "count", "most"] (defScope sLabels) := ⟨rfl, rfl, rfl, by decide +kernel, rfl, by decide +kernel, by decide +kernel⟩
def natV (ls : List Nat) : List V := ls.map fun n : Nat => V.int (n : Int)
def spLabels : Sp := fun vs H Q _ => ∃ (st l : Addr) (count : Nat) (most : Int), vs = [.ref st, .int (count : Int), .int most] ∧ StAt H st l ∧ 0 < most ∧ most < 1000000000 ∧ count ≤ 100 ∧
  ∀ (ls : List Nat) (p : Addr) (H' : Hp), LabOk count ls → Ext st l H H' → StAt H' st l → H p = none → H' p = some (.lst (natV ls)) → Q (.ref p) H'
section
variable {P : Program} {w : World} {K : PySem.W.Frag} {mg : Str → Option Value} {base : Heap}
theorem ok_labels {f fD : Addr} {fd fdD : FuncData} (F : Fun K "_law_get_labels" "_law_get_labels" sLabels f fd) (T : TD mg)
    (G__law_draw : FnOk P w K mg base CX0 1 fD fdD ["st", "limit"] spDraw) (m__law_draw : mg "_law_draw" = some (.ref fD)) (k__law_draw : PySem.W.keepIn K (.ref fD) = true) (b__law_draw : Binds K fdD ["st", "limit"] []) :
    FnOk P w K mg base CX0 2 f fd ["state", "count", "most"] spLabels := by
  refine F.ok scLa (fun vs H Q E h => ?_) (fun cdv A outer s H vs Q E hr h => ?_)
  · obtain ⟨st, l, c, m, rfl, _⟩ := h
    rfl
  · obtain ⟨st, l, count, most, rfl, S, m1, m2, hc, k⟩ := h
    have hr__law_draw : Room 1 _ := hr
    refine ⟨_, (pss_cons (ps_set (i := 3) scLa.nd rfl (Or.inr rfl) (pe_lc (own := [("k", 4)]) (g := gName 4) (by rfl) scLa.nd (pi_range1 rfl T.n_range (pa_cons (pv 1) pa_nil)) (blkOk_by (own := [("k", 4)]) (N := ["state", "count", "most", "drawn", "k", "label"]) (sc := defScope sLabels) (by decide +kernel)) (fun _ _ _ _ _ => (pg_name (i := 4) scLa.nd rfl (Or.inl rfl))) (fun _ _ _ _ _ => pts_nil) (fun _ _ _ _ _ => (pe_call G__law_draw hr__law_draw rfl m__law_draw k__law_draw b__law_draw .nil pass0 (pa_cons (pv 0) (pa_cons (pv 2) pa_nil))))))
    (pss_one (ps_ret (pe_lc (own := [("label", 5)]) (g := gName 5) (by rfl) scLa.nd (piL K (pv 3)) (blkOk_by (own := [("label", 5)]) (N := ["state", "count", "most", "drawn", "k", "label"]) (sc := defScope sLabels) (by decide +kernel)) (fun _ _ _ _ _ => (pg_name (i := 5) scLa.nd rfl (Or.inl rfl))) (fun _ _ _ _ _ => pts_nil) (fun _ _ _ _ _ => (bmK K PySem.F.plainAttrs_list PySem.F.slot_list_index PySem.F.type_list_index (idxK K) (pv 3) (pa_cons (pv 5) pa_nil))))))), ?_⟩
    refine q_set (w_lcR (n := count) (ea_cons (ev_var rfl) ea_nil) (by omega) (fun _ => wipe1 _ _ _) (fun D i H' => H D = none ∧ ∃ ds : List Int, ds.length = i ∧ Ext st l H H' ∧ StAt H' st l ∧ H' D = some (.lst (ds.map V.int))) (fun D H1 e1 hD => ?_) (fun D i H' hi p => ?_) (fun D H' p => ?_))
    · have off := (S.same e1).off hD
      exact ⟨fresh_back e1 hD, [], rfl, (Ext.same e1).mut (fresh_back e1 hD), (S.same e1).ne_l (xs := []) off.1 off.2, upd_same⟩
    · obtain ⟨hD, ds, hl, X, S', hd⟩ := p
      have off := S.off hD
      refine w_draw (st := st) (l := l) (n := most) (ea_cons (ev_var rfl) (ea_cons (ev_var rfl) ea_nil)) S' m1 m2 (fun r H5 r0 r1 e5 S5 => ?_)
      refine ⟨_, e5 _ _ off.1 off.2 hd, sz_lt (by rw [List.length_map]; omega), hD, ds ++ [r], by simp [hl], (X.trans e5).mut hD, S5.ne_l (xs := []) off.1 off.2, ?_⟩
      rw [upd_same, List.map_append]
      rfl
    · obtain ⟨hD, ds, hl, X, S', hd⟩ := p
      have lds : (ds.map V.int).length = ds.length := by simp
      refine s_retL (el_lcL (fun _ => true) (fun i => V.int (labOf ds (ds.getD i 0) : Nat)) (ev_var rfl) (SqL.of hd) (by rw [lds]; omega) (fun _ => wipe1 _ _ _) (fun _ _ _ _ _ => et_yes) (fun i x H3 e3 hx _ => ?_)) (fun q H3 hq e3 h3 => ?_)
      · have hi : i < ds.length := by
          have := (List.getElem?_eq_some_iff.mp hx).1
          simpa using this
        rw [List.getElem?_map, List.getElem?_eq_getElem hi] at hx
        obtain rfl : x = V.int ds[i] := (Option.some.inj hx).symm
        rw [List.getD_eq_getElem?_getD, List.getElem?_eq_getElem hi]
        exact ev_idx (ev_var rfl) (ev_var rfl) (SqL.of (e3 _ _ hd)) (List.getElem_mem hi)
      · have ok := labels_ok ds
        rw [hl] at ok
        refine k _ q H3 ok (X.trans (Ext.same e3)) (S'.same e3) (fresh_ext S X S' hq) ?_
        rw [h3, given_map, lds]
        unfold natV
        rw [List.map_map]
        congr 2
        apply List.ext_getElem
        · simp
        · intro i h1 h2
          simp at h2
          simp [List.getD_eq_getElem?_getD, List.getElem?_eq_getElem h2]
end
end My

namespace My
open PySem PySem.Spec PyProof.Rows L2 Evl
/-! ### constants at the labels -/
abbrev sTags : Stmt := top 21
theorem scTg : FnScope ["state", "labels", "pool", "tags", "k", "free", "constant"] ["state", "labels", "pool"] (defScope sTags) := ⟨rfl, rfl, rfl, by decide +kernel, rfl, by decide +kernel, by decide +kernel⟩
def tagV (ts : List (Nat × Str)) : List (Key × V) := ts.map fun t : Nat × Str => ((Sum.inl (t.1 : Int) : Key), V.str t.2)
structure TagOk (ls : List Nat) (cs : List Str) (k : Nat) (ts : List (Nat × Str)) : Prop where
  lt : ∀ t ∈ ts, t.1 < k
  lab : ∀ t ∈ ts, ls.getD t.1 0 = t.1
  pool : ∀ t ∈ ts, t.2 ∈ cs
  one : (ts.map (·.2)).Nodup
  key : (ts.map (·.1)).Nodup
  n : ts.length ≤ k
theorem TagOk.more {ls : List Nat} {cs : List Str} {k : Nat} {ts : List (Nat × Str)} (h : TagOk ls cs k ts) : TagOk ls cs (k + 1) ts := ⟨fun t m => Nat.lt_succ_of_lt (h.lt t m), h.lab, h.pool, h.one, h.key, Nat.le_succ_of_le h.n⟩
theorem TagOk.snoc {ls : List Nat} {cs : List Str} {k : Nat} {ts : List (Nat × Str)} {c : Str} (h : TagOk ls cs k ts) (hl : ls.getD k 0 = k) (hc : c ∈ cs) (no : c ∉ ts.map (·.2)) : TagOk ls cs (k + 1) (ts ++ [(k, c)]) := by
  refine ⟨fun t m => ?_, fun t m => ?_, fun t m => ?_, ?_, ?_, by have := h.n; simp; omega⟩
  · rcases List.mem_append.mp m with m | m
    · exact Nat.lt_succ_of_lt (h.lt t m)
    · obtain rfl : t = (k, c) := by simpa using m
      exact Nat.lt_succ_self k
  · rcases List.mem_append.mp m with m | m
    · exact h.lab t m
    · obtain rfl : t = (k, c) := by simpa using m
      exact hl
  · rcases List.mem_append.mp m with m | m
    · exact h.pool t m
    · obtain rfl : t = (k, c) := by simpa using m
      exact hc
  · rw [List.map_append]
    refine List.nodup_append.mpr ⟨h.one, by simp, fun a ha b hb e => ?_⟩
    obtain rfl : b = c := by simpa using hb
    exact no (e ▸ ha)
  · rw [List.map_append]
    refine List.nodup_append.mpr ⟨h.key, by simp, fun a ha b hb e => ?_⟩
    obtain rfl : b = k := by simpa using hb
    obtain ⟨t, ht, rfl⟩ := List.mem_map.mp ha
    have := h.lt t ht
    omega
theorem tag_keys {ls : List Nat} {cs : List Str} {k : Nat} {ts : List (Nat × Str)} (h : TagOk ls cs k ts) : (Sum.inl (k : Int) : Key) ∉ (tagV ts).map (·.1) := fun m => by
  unfold tagV at m
  rw [List.map_map] at m
  obtain ⟨t, ht, e⟩ := List.mem_map.mp m
  have e1 : ((t.1 : Nat) : Int) = (k : Int) := Sum.inl.inj e
  have := h.lt t ht
  omega
theorem tag_vals (ts : List (Nat × Str)) : (tagV ts).map (·.2) = (ts.map (·.2)).map V.str := by
  unfold tagV
  rw [List.map_map, List.map_map]
  rfl
def spTags : Sp := fun vs H Q _ => ∃ (st l la po : Addr) (ls : List Nat) (cs : List Str), vs = [.ref st, .ref la, .ref po] ∧ StAt H st l ∧ (H la = some (.lst (natV ls)) ∧ la ≠ st ∧ la ≠ l) ∧ (H po = some (.lst (cs.map V.str)) ∧ po ≠ st ∧ po ≠ l) ∧ ls.length ≤ 100 ∧ cs.length ≤ 100 ∧ (∀ c ∈ cs, PyData.strOk c = true) ∧
  ∀ (ts : List (Nat × Str)) (p : Addr) (H' : Hp), TagOk ls cs ls.length ts → Ext st l H H' → StAt H' st l → H p = none → H' p = some (.dK (tagV ts)) → Q (.ref p) H'
section
variable {P : Program} {w : World} {K : PySem.W.Frag} {mg : Str → Option Value} {base : Heap}
theorem ok_tags {f fD : Addr} {fd fdD : FuncData} (F : Fun K "_law_get_tags" "_law_get_tags" sTags f fd) (T : TD mg)
    (G__law_draw : FnOk P w K mg base CX0 1 fD fdD ["st", "limit"] spDraw) (m__law_draw : mg "_law_draw" = some (.ref fD)) (k__law_draw : PySem.W.keepIn K (.ref fD) = true) (b__law_draw : Binds K fdD ["st", "limit"] []) :
    FnOk P w K mg base CX0 2 f fd ["state", "labels", "pool"] spTags := by
  refine F.ok scTg (fun vs H Q E h => ?_) (fun cdv A outer s H vs Q E hr h => ?_)
  · obtain ⟨st, l, la, po, ls, cs, rfl, _⟩ := h
    rfl
  · obtain ⟨st, l, la, po, ls, cs, rfl, S, ⟨hla, la1, la2⟩, ⟨hpo, po1, po2⟩, nl, nc, cok, k⟩ := h
    have hr__law_draw : Room 1 _ := hr
    have hu := hu_of hr
    have hu64 := hr.units
    refine ⟨_, (pss_cons (ps_set (i := 3) scTg.nd rfl (Or.inr rfl) pe_dnewK)
    (pss_cons (ps_for PassesOwn.never rfl (pi_range1 rfl T.n_range (pa_cons (pe_callB (lenSeq K) (by rfl) T.n_len (by decide +kernel) (pa_cons (pv 1) pa_nil)) pa_nil)) (pg_name (i := 4) scTg.nd rfl (Or.inl rfl))
      (pss_cons (ps_setLc (i := 5) (own := [("constant", 6)]) (g := gName 6) (by rfl) scTg.nd rfl rfl (sw_true rfl rfl rfl (by decide +kernel)) (piL K (pv 2)) (blkOk_by (own := [("constant", 6)]) (N := ["state", "labels", "pool", "tags", "k", "free", "constant"]) (sc := defScope sTags) (by decide +kernel)) (fun _ _ _ _ _ => (pg_name (i := 6) scTg.nd rfl (Or.inl rfl))) (fun _ _ _ _ _ => (pts_one (pt_cmpR (notInSeq K) (pv 6) (pe_listVals (by rfl) (pv 3) (by rfl) T.n_list) (by rfl)))) (fun _ _ _ _ _ => (pv 6)))
      (pss_one (ps_if (PW.pt (pw_and (pt_cmpR op_eq (pe_ix (ixL K) (pv 1) (pv 4) (fun _ _ => rfl)) (pv 4) (nomark _)) (pw_and (pt_cmpR (neDK K hu64) (pv 5) (pe_lst pa_nil) (nomark _)) (pw_and1 (pt_cmpR op_eq (pe_call G__law_draw hr__law_draw rfl m__law_draw k__law_draw b__law_draw .nil pass0 (pa_cons (pv 0) (pa_cons pe_int pa_nil))) pe_int (nomark _))))))
        (pss_one (ps_dput hu (pv 3) (pv 4) (pe_ix (ixL K) (pv 5) (pe_call G__law_draw hr__law_draw rfl m__law_draw k__law_draw b__law_draw .nil pass0 (pa_cons (pv 0) (pa_cons (pe_callB (lenSeq K) (by rfl) T.n_len (by decide +kernel) (pa_cons (pv 5) pa_nil)) pa_nil))) (fun _ _ => rfl)) rfl))
        pss_nil))))
    (pss_one (ps_ret (pv 3))))), ?_⟩
    refine q_set (fun di hdi => ?_)
    have off := S.off hdi
    have lla : (natV ls).length = ls.length := by unfold natV; simp
    refine q_forR1 (n := ls.length) (ea_cons (ev_is (ev_lenA (xs := natV ls) (ev_var rfl) (.inl (SqL.of ?_))) (by rw [lla])) ea_nil) ⟨by omega, by omega⟩ (fun i σ' H' => ∃ v1 v2 v3 ts, σ' = [some (.ref st), some (.ref la), some (.ref po), some (.ref di), v1, v2, v3] ∧ Ext st l H H' ∧ StAt H' st l ∧ H' di = some (.dK (tagV ts)) ∧ TagOk ls cs i ts)
      (fun H1 e1 => ⟨none, none, none, [], rfl, ?_, ?_, e1 _ _ upd_same, ⟨by simp, by simp, by simp, by simp, by simp, by simp⟩⟩) (fun i σ' H' hi p => ?_) (fun σ' H' p => ?_)
    · rw [upd_ne (ne_of_none hla hdi)]; exact hla
    · exact (Ext.refl.mut hdi).trans (Ext.same e1)
    · exact (S.ne_l (xs := []) off.1 off.2).same e1
    · obtain ⟨v1, v2, v3, ts, rfl, X, S', hd, ok⟩ := p
      have hi' : i < ls.length := by omega
      have lat : ∀ {H2 : Hp}, Ext st l H H2 → H2 la = some (.lst (natV ls)) := fun X2 => X2 _ _ la1 la2 hla
      have nts := ok.n
      refine q_asgL (el_filtW (ps := cs) (fun m => decide (m ∉ ts.map (·.2))) (by omega) (by show 6 < 7; decide) (wi_list (ev_var rfl) (SqL.of (X _ _ po1 po2 hpo))) (fun _ => rfl) (fun m _ H5 e5 => et_test (ev_opL (ev_var rfl) (el_vals (ev_var rfl) (e5 _ _ hd)) (fun p H6 h6 e6 => rv_niStr (.inl (SqL.of (by rw [h6, tag_vals]))))))) (fun fr H5 hfr e5 h5 => ?_)
      have X5 := X.trans (Ext.same e5)
      have S5 := S'.same e5
      have offr := S'.off hfr
      have labV : (natV ls)[i]? = some (V.int (ls.getD i 0 : Nat)) := by
        unfold natV
        rw [List.getElem?_map, List.getElem?_eq_getElem hi', List.getD_eq_getElem?_getD, List.getElem?_eq_getElem hi']
        rfl
      have pass : ∀ {H7 : Hp}, Ext st l H5 H7 → StAt H7 st l → (∃ w1 w2 w3 ts, ([some (V.ref st), some (.ref la), some (.ref po), some (.ref di), some (.int i), some (.ref fr), v3] : L2.St) = [some (.ref st), some (.ref la), some (.ref po), some (.ref di), w1, w2, w3] ∧ Ext st l H H7 ∧ StAt H7 st l ∧ H7 di = some (.dK (tagV ts)) ∧ TagOk ls cs (i + 1) ts) := fun {H7} X7 S7 =>
        ⟨some (.int i), some (.ref fr), v3, ts, rfl, X5.trans X7, S7, X7 _ _ off.1 off.2 (e5 _ _ hd), ok.more⟩
      refine w_ifS (w_and (a := decide (ls.getD i 0 = i)) (et_test (ev_is (ev_op (ev_op (ev_var rfl) (ev_var rfl) (rv_ixL (SqL.of (lat X5)) (atI_n rfl labV))) (ev_var rfl) (rv_eq rfl)) ?_)) (fun h1 H6 e6 => ?_) (fun h1 H6 e6 => ?_))
      · exact congrArg V.bl (decide_eq_decide.mpr ⟨fun z => by have := V.int.inj z; omega, fun z => by rw [z]⟩)
      · refine w_and (a := !decide (cs.filter (fun m => decide (m ∉ ts.map (·.2))) = [])) (et_test (ev_ne_nil (fun c hc => cok c (List.mem_filter.mp hc).1) (ev_var rfl) (e6 _ _ h5))) (fun h2 H7 e7 => ?_) (fun h2 H7 e7 => ?_)
        · have e67 := e6.trans e7
          refine w_test (w_op (w_draw (st := st) (l := l) (n := 3) (ea_cons (ev_var rfl) (ea_cons ev_c ea_nil)) (S5.same e67) (by decide) (by decide) (fun r H8 r0 r1 e8 S8 => ?_)))
          refine ⟨rfl, _, rfl, ?_⟩
          by_cases hz : r = 0
          · rw [if_pos (by simp [hz])]
            have hlab : ls.getD i 0 = i := of_decide_eq_true h1
            generalize hfree : cs.filter (fun m => decide (m ∉ ts.map (·.2))) = free at h5 h2
            have hne : free ≠ [] := by simpa using h2
            have hpos : 1 ≤ free.length := by
              cases hz : free with
              | nil => exact absurd hz hne
              | cons a t => simp
            have hle : free.length ≤ 100 := by
              have := List.length_filter_le (fun m => decide (m ∉ ts.map (·.2))) cs
              rw [hfree] at this
              omega
            have X8 := (X5.trans (Ext.same e67)).trans e8
            have f8 : H8 fr = some (.lst (free.map V.str)) := e8 _ _ offr.1 offr.2 (e67 _ _ h5)
            have d8 : H8 di = some (.dK (tagV ts)) := e8 _ _ off.1 off.2 ((e5.trans e67) _ _ hd)
            refine w_sdput (w_op (w_ev (ev_var rfl) fun H9 e9 => w_draw (st := st) (l := l) (n := (free.length : Int)) (ea_cons (ev_var rfl) (ea_cons (ev_is (ev_lenA (xs := free.map V.str) (ev_var rfl) (.inl (SqL.of (e9 _ _ f8)))) (by rw [List.length_map])) ea_nil)) (S8.same e9) (by omega) (by omega) (fun q H10 q0 q1 e10 S10 => ?_)))
            have X10 := (X8.trans (Ext.same e9)).trans e10
            have f10 := e10 _ _ offr.1 offr.2 (e9 _ _ f8)
            have d10 := e10 _ _ off.1 off.2 (e9 _ _ d8)
            have hq : q.toNat < free.length := by omega
            have hmem : free[q.toNat] ∈ cs.filter (fun m => decide (m ∉ ts.map (·.2))) := by rw [hfree]; exact List.getElem_mem hq
            refine ⟨_, _, _, _, rfl, rfl, SqL.of f10, atI_n (j := q.toNat) (by omega) (by rw [List.getElem?_map, List.getElem?_eq_getElem hq]; rfl), ?_⟩
            refine w_dput (k := Sum.inl (i : Int)) (ev_var rfl) (ev_var rfl) d10 (by unfold tagV; rw [List.length_map]; omega) (tag_keys ok) (fun H11 e11 => ?_)
            refine ⟨_, _, _, ts ++ [(i, free[q.toNat])], rfl, (X10.trans (Ext.same e11)).mut hdi, (S10.same e11).ne_l (xs := []) off.1 off.2, ?_, ok.snoc hlab (List.mem_filter.mp hmem).1 (by have := (List.mem_filter.mp hmem).2; simpa using this)⟩
            rw [upd_same]
            unfold tagV
            rw [List.map_append]
            rfl
          · rw [if_neg (by simp [hz])]
            exact pass ((Ext.same e67).trans e8) S8
        · exact pass (Ext.same (e6.trans e7)) (S5.same (e6.trans e7))
      · exact pass (Ext.same e6) (S5.same e6)
    · obtain ⟨v1, v2, v3, ts, rfl, X, S', hd, ok⟩ := p
      exact s_ret (ev_var rfl) (fun H5 e5 => k ts di H5 ok (X.trans (Ext.same e5)) (S'.same e5) hdi (e5 _ _ hd))
end
end My

namespace My
open PySem PySem.Spec PyProof.Rows L2 Evl
/-! ### the lists of blocks -/
def classOf (ps : List Str) (ls : List Nat) (k : Nat) : List Str := ((List.range ps.length).filter fun j => decide (ls.getD j 0 = k)).map fun j => ps.getD j ""
def rowAt (ps : List Str) (ls : List Nat) (ts : List (Nat × Str)) (k : Nat) : List Str := classOf ps ls k ++ (ts.lookup k).toList
def rowsTo (ps : List Str) (ls : List Nat) (ts : List (Nat × Str)) (n : Nat) : List (List Str) := ((List.range n).filter fun k => decide (ls.getD k 0 = k)).map (rowAt ps ls ts)
def rowsOf (ps : List Str) (ls : List Nat) (ts : List (Nat × Str)) : List (List Str) := rowsTo ps ls ts ps.length
theorem tag_val (k : Nat) : ∀ ts : List (Nat × Str), valV (tagV ts) (Sum.inl (k : Int) : Key) = (ts.lookup k).map V.str
  | [] => rfl
  | (n, c) :: t => by
    have ih := tag_val k t
    by_cases h : n = k
    · subst h
      rw [show tagV ((n, c) :: t) = ((Sum.inl (n : Int) : Key), V.str c) :: tagV t from rfl, valV_pos rfl]
      simp
    · rw [show tagV ((n, c) :: t) = ((Sum.inl (n : Int) : Key), V.str c) :: tagV t from rfl, valV_neg (fun z => h (by have := Sum.inl.inj z; omega)), ih]
      have hk : (k == n) = false := by simpa using fun z : k = n => h z.symm
      rw [List.lookup_cons, hk]
/-- lists of texts, new since H0 -/
def RwN (H0 H : Hp) (as : List Addr) (rows : List (List Str)) : Prop := Paired (fun a xs => H0 a = none ∧ H a = some (.lst (xs.map V.str))) as rows
theorem RwN.ex {H0 H H' : Hp} {as : List Addr} {rows : List (List Str)} (e : Ex H H') (h : RwN H0 H as rows) : RwN H0 H' as rows := Paired.mapP h fun _ _ z => ⟨z.1, e _ _ z.2⟩
theorem RwN.back {H00 H0 H : Hp} {as : List Addr} {rows : List (List Str)} (e : Ex H00 H0) (h : RwN H0 H as rows) : RwN H00 H as rows := Paired.mapP h fun _ _ z => ⟨fresh_back e z.1, z.2⟩
abbrev sLists : Stmt := top 25
theorem scLi : FnScope ["places", "labels", "tags", "found", "k", "block", "j"] ["places", "labels", "tags"] (defScope sLists) := ⟨rfl, rfl, rfl, by decide +kernel, rfl, by decide +kernel, by decide +kernel⟩
def spLists : Sp := fun vs H Q _ => ∃ (pl la ta : Addr) (ps : List Str) (ls : List Nat) (ts : List (Nat × Str)), vs = [.ref pl, .ref la, .ref ta] ∧ H pl = some (.lst (ps.map V.str)) ∧ H la = some (.lst (natV ls)) ∧ H ta = some (.dK (tagV ts)) ∧ ls.length = ps.length ∧ ps.length ≤ 100 ∧
  ∀ (as : List Addr) (p : Addr) (H' : Hp), Ex H H' → H p = none → H' p = some (.lst (as.map V.ref)) → RwN H H' as (rowsOf ps ls ts) → Q (.ref p) H'
theorem rowsTo_n {ps : List Str} {ls : List Nat} {ts : List (Nat × Str)} {n : Nat} : (rowsTo ps ls ts n).length ≤ n := by
  unfold rowsTo
  rw [List.length_map]
  have := List.length_filter_le (fun k => decide (ls.getD k 0 = k)) (List.range n)
  rwa [List.length_range] at this
section
variable {P : Program} {w : World} {K : PySem.W.Frag} {mg : Str → Option Value} {base : Heap}
theorem ok_lists {f : Addr} {fd : FuncData} (F : Fun K "_law_get_lists" "_law_get_lists" sLists f fd) (T : TD mg) : FnOk P w K mg base CX0 1 f fd ["places", "labels", "tags"] spLists := by
  refine F.ok scLi (fun vs H Q E h => ?_) (fun cdv A outer s H vs Q E hr h => ?_)
  · obtain ⟨pl, la, ta, ps, ls, ts, rfl, _⟩ := h
    rfl
  · obtain ⟨pl, la, ta, ps, ls, ts, rfl, hp, hl, ht, ln, n, k⟩ := h
    have hu := hu_of hr
    refine ⟨_, (pss_cons (ps_set (i := 3) scLi.nd rfl (Or.inl rfl) (pe_lst pa_nil))
    (pss_cons (ps_for PassesOwn.never rfl (pi_range1 rfl T.n_range (pa_cons (pe_callB (lenSeq K) (by rfl) T.n_len (by decide +kernel) (pa_cons (pv 0) pa_nil)) pa_nil)) (pg_name (i := 4) scLi.nd rfl (Or.inr rfl))
      (pss_one (ps_if (pt_cmpR op_eq (pe_ix (ixL K) (pv 1) (pv 4) (fun _ _ => rfl)) (pv 4) (nomark _))
        (pss_cons (ps_setLc (i := 5) (own := [("j", 6)]) (g := gName 6) (by rfl) scLi.nd rfl rfl (sw_true rfl rfl rfl (by decide +kernel)) (pi_range1 rfl T.n_range (pa_cons (pe_callB (lenSeq K) (by rfl) T.n_len (by decide +kernel) (pa_cons (pv 0) pa_nil)) pa_nil)) (blkOk_by (own := [("j", 6)]) (N := ["places", "labels", "tags", "found", "k", "block", "j"]) (sc := defScope sLists) (by decide +kernel)) (fun _ _ _ _ _ => (pg_name (i := 6) scLi.nd rfl (Or.inl rfl))) (fun _ _ _ _ _ => (pts_one (pt_cmpR op_eq (pe_ix (ixL K) (pv 1) (pv 6) (fun _ _ => rfl)) (pv 4) (nomark _)))) (fun _ _ _ _ _ => (pe_ix (ixL K) (pv 0) (pv 6) (fun _ _ => rfl))))
        (pss_one (ps_expr (bmK K PySem.F.plainAttrs_list PySem.F.slot_list_append PySem.F.type_list_append mt_append (pv 3) (pa_cons (pe_op op_cat (pv 5) (pe_ifExp (pt_cmp (pc_din hu (pv 4) (pv 2))) (pe_lst (pa_cons (pe_dget hu (pv 2) (pv 4) (fun _ _ => rfl)) pa_nil)) (pe_lst pa_nil))) pa_nil)))))
        pss_nil)))
    (pss_one (ps_ret (pv 3))))), ?_⟩
    have lps : (ps.map V.str).length = ps.length := by simp
    have labV : ∀ j, j < ps.length → (natV ls)[j]? = some (V.int (ls.getD j 0 : Nat)) := fun j hj => by
      have hj : j < ls.length := by omega
      unfold natV
      rw [List.getElem?_map, List.getElem?_eq_getElem hj, List.getD_eq_getElem?_getD, List.getElem?_eq_getElem hj]
      rfl
    have plV : ∀ j, j < ps.length → (ps.map V.str)[j]? = some (V.str (ps.getD j "")) := fun j hj => by
      rw [List.getElem?_map, List.getElem?_eq_getElem hj, List.getD_eq_getElem?_getD, List.getElem?_eq_getElem hj]
      rfl
    have same : ∀ {a b : Nat}, (V.bl (decide (V.int (a : Int) = V.int (b : Int)))) = V.bl (decide (a = b)) := fun {a b} => congrArg V.bl (decide_eq_decide.mpr ⟨fun z => by have := V.int.inj z; omega, fun z => by rw [z]⟩)
    refine q_asgL (el_lst ea_nil (by decide)) (fun fo H1 hfo e1 h1 => ?_)
    have lenE : ∀ {H' : Hp} {σ : L2.St} {te : TE}, Ex H H' → Ev te σ H' (.ref pl) → EvA (tCons (tCB (rLenS K) (tCons te tNil)) tNil) σ H' [.int (ps.length : Int)] := fun {H' σ te} e h => ea_cons (ev_is (ev_lenA (xs := ps.map V.str) h (.inl (SqL.of (e _ _ hp)))) (by rw [lps])) ea_nil
    refine q_forR1 (n := ps.length) (lenE e1 (ev_var rfl)) ⟨by omega, by omega⟩ (fun i σ' H' => ∃ v1 v2 v3 as, σ' = [some (.ref pl), some (.ref la), some (.ref ta), some (.ref fo), v1, v2, v3] ∧ Ex H H' ∧ H' fo = some (.lst (as.map V.ref)) ∧ Paired (fun a xs => (H a = none ∧ H' a = some (.lst (xs.map V.str))) ∧ a ≠ fo) as (rowsTo ps ls ts i))
      (fun H2 e2 => ⟨none, none, none, [], rfl, e1.trans e2, e2 _ _ h1, .nil⟩) (fun i σ' H' hi p => ?_) (fun σ' H' p => ?_)
    · obtain ⟨v1, v2, v3, as, rfl, e, hf, hr⟩ := p
      have hi' : i < ps.length := by omega
      have nas : as.length ≤ i := by
        have := Paired.length hr
        have := rowsTo_n (ps := ps) (ls := ls) (ts := ts) (n := i)
        omega
      have snoc : rowsTo ps ls ts (i + 1) = rowsTo ps ls ts i ++ if decide (ls.getD i 0 = i) = true then [rowAt ps ls ts i] else [] := by
        unfold rowsTo
        rw [List.range_succ, List.filter_append, List.map_append, List.filter_cons]
        split <;> rfl
      refine s_when (b := decide (ls.getD i 0 = i)) (et_test (ev_is (ev_op (ev_op (ev_var rfl) (ev_var rfl) (rv_ixL (SqL.of (e _ _ hl)) (atI_n rfl (labV i hi')))) (ev_var rfl) (rv_eq rfl)) same)) (fun hb H2 e2 => ?_) (fun hb H2 e2 => ?_)
      · have eH := e.trans e2
        refine q_asgL (el_is (el_lcR1 (fun j => decide (ls.getD j 0 = i)) (fun j => V.str (ps.getD j "")) (lenE eH (ev_var rfl)) (by omega) (fun _ => rfl) (fun j H3 e3 hj => et_test (ev_is (ev_op (ev_op (ev_var rfl) (ev_var rfl) (rv_ixL (SqL.of ((eH.trans e3) _ _ hl)) (atI_n rfl (labV j (by omega))))) (ev_var rfl) (rv_eq rfl)) same)) (fun j H3 e3 hj _ => ev_op (ev_var rfl) (ev_var rfl) (rv_ixL (SqL.of ((eH.trans e3) _ _ hp)) (atI_n rfl (plV j (by omega)))))) (ys := (classOf ps ls i).map V.str) ?_) (fun bo H3 hbo e3 h3 => ?_)
        · unfold classOf given
          rw [List.map_map]
          rfl
        · have e23 := e2.trans e3
          have lc : ((classOf ps ls i).map V.str).length ≤ 100 := by
            unfold classOf
            rw [List.length_map, List.length_map]
            have := List.length_filter_le (fun j => decide (ls.getD j 0 = i)) (List.range ps.length)
            rw [List.length_range] at this
            omega
          refine s_appL (xs := as.map V.ref) (e23 _ _ hf) (ev_var rfl) (el_catL (zs := ((ts.lookup i).toList).map V.str) (ev_var rfl) h3 (el_if (b := (valV (tagV ts) (Sum.inl (i : Int) : Key)).isSome) (et_test (ev_din (k := Sum.inl (i : Int)) (ev_var rfl) (ev_var rfl) ((e.trans e23) _ _ ht))) (fun hs => ?_) (fun hs => ?_)) ?_) (by rw [List.length_map]; omega) (fun q H4 hq e4 h4 => ?_)
          · rw [tag_val] at hs
            cases hc : ts.lookup i with
            | none => rw [hc] at hs; cases hs
            | some c => exact el_lst (ea_cons (ev_dget (k := Sum.inl (i : Int)) (ev_var rfl) (ev_var rfl) ((e.trans e23) _ _ ht) (by rw [tag_val, hc]; rfl)) ea_nil) (by show 1 ≤ 100000; decide)
          · rw [tag_val] at hs
            cases hc : ts.lookup i with
            | none => exact el_lst ea_nil (by decide)
            | some c => rw [hc] at hs; cases hs
          · have : (((ts.lookup i).toList).map V.str).length ≤ 1 := by cases ts.lookup i <;> simp
            omega
          · have e24 := e23.trans e4
            have hqH := fresh_back (e.trans e23) hq
            have hqf : q ≠ fo := fun z => by rw [z, e23 _ _ hf] at hq; cases hq
            refine ⟨_, _, _, as ++ [q], rfl, Ex.mut (e.trans e24) (fresh_back (Ex.refl H) hfo), ?_, ?_⟩
            · rw [upd_same, List.map_append]; rfl
            · rw [snoc, if_pos hb]
              refine Paired.snoc (Paired.mapP hr fun a b z => ⟨⟨z.1.1, ?_⟩, z.2⟩) ⟨⟨hqH, ?_⟩, hqf⟩
              · rw [upd_ne z.2]; exact e24 _ _ z.1.2
              · rw [upd_ne hqf, h4, ← List.map_append]; rfl
      · refine ⟨_, _, _, as, rfl, e.trans e2, e2 _ _ hf, ?_⟩
        rw [snoc, hb, if_neg Bool.false_ne_true, List.append_nil]
        exact Paired.mapP hr fun a b z => ⟨⟨z.1.1, e2 _ _ z.1.2⟩, z.2⟩
    · obtain ⟨v1, v2, v3, as, rfl, e, hf, hr⟩ := p
      refine s_ret (ev_var rfl) (fun H5 e5 => k as fo H5 (e.trans e5) hfo (e5 _ _ hf) ?_)
      have : ((ps.length : Nat) : Int).toNat = ps.length := by simp
      rw [this] at hr
      exact Paired.mapP hr fun a b z => ⟨z.1.1, e5 _ _ z.1.2⟩
end
end My

namespace My
open PySem PySem.Spec PyProof.Rows L2 Evl
/-! ### shuffled -/
theorem w_bm {K : PySem.W.Frag} {T : String} {r : V → List V → Hp → VK → Prop} {to : TE} {t : TA} {σ : L2.St} {H : Hp} {x : V} {Q : VK} (h : Ev to σ H x) (k : ∀ H1, Ex H H1 → tyV K T x H1 ∧ t σ H1 fun xs H2 => r x xs H2 Q) : tBM K T r to t σ H Q := h H (Ex.refl H) _ k
theorem erase_perm {rs : List V} {k : Nat} (h : k < rs.length) : ([rs[k]] ++ rs.eraseIdx k).Perm rs := by
  rw [List.eraseIdx_eq_take_drop_succ]
  refine (List.perm_middle (a := rs[k]) (l₁ := rs.take k) (l₂ := rs.drop (k + 1))).symm.trans ?_
  rw [← List.drop_eq_getElem_cons h, List.take_append_drop]
abbrev sShuf : Stmt := top 23
theorem scSh : FnScope ["state", "things", "rest", "k"] ["state", "things"] (defScope sShuf) := ⟨rfl, rfl, rfl, by decide +kernel, rfl, by decide +kernel, by decide +kernel⟩
def spShuf : Sp := fun vs H Q _ => ∃ (st l th : Addr) (xs : List V), vs = [.ref st, .ref th] ∧ StAt H st l ∧ H th = some (.lst xs) ∧ xs.length ≤ 1000 ∧
  ∀ (ys : List V) (p : Addr) (H' : Hp), ys.Perm xs → Ext st l H H' → StAt H' st l → H p = none → H' p = some (.lst ys) → Q (.ref p) H'
section
variable {P : Program} {w : World} {K : PySem.W.Frag} {mg : Str → Option Value} {base : Heap}
theorem ok_shuf {f fD : Addr} {fd fdD : FuncData} (F : Fun K "_law_shuffled" "_law_shuffled" sShuf f fd) (T : TD mg)
    (G__law_draw : FnOk P w K mg base CX0 1 fD fdD ["st", "limit"] spDraw) (m__law_draw : mg "_law_draw" = some (.ref fD)) (k__law_draw : PySem.W.keepIn K (.ref fD) = true) (b__law_draw : Binds K fdD ["st", "limit"] []) :
    FnOk P w K mg base CX0 2 f fd ["state", "things"] spShuf := by
  refine F.ok scSh (fun vs H Q E h => ?_) (fun cdv A outer s H vs Q E hr h => ?_)
  · obtain ⟨st, l, th, xs, rfl, _⟩ := h
    rfl
  · obtain ⟨st, l, th, xs, rfl, S, hth, n, k⟩ := h
    have hr__law_draw : Room 1 _ := hr
    refine ⟨_, (pss_cons (ps_set (i := 2) scSh.nd rfl (Or.inr rfl) (pe_callTy (listOf K) (by rfl) T.n_list (by decide +kernel) (pa_cons (pv 1) pa_nil)))
    (pss_one (ps_ret (pe_lc (own := [("k", 3)]) (g := gName 3) (by rfl) scSh.nd (pi_range1 rfl T.n_range (pa_cons (pe_callB (lenSeq K) (by rfl) T.n_len (by decide +kernel) (pa_cons (pv 1) pa_nil)) pa_nil)) (blkOk_by (own := [("k", 3)]) (N := ["state", "things", "rest", "k"]) (sc := defScope sShuf) (by decide +kernel)) (fun _ _ _ _ _ => (pg_name (i := 3) scSh.nd rfl (Or.inl rfl))) (fun _ _ _ _ _ => pts_nil) (fun _ _ _ _ _ => (bmK K PySem.F.plainAttrs_list PySem.F.slot_list_pop PySem.F.type_list_pop mt_popAt (pv 2) (pa_cons (pe_call G__law_draw hr__law_draw rfl m__law_draw k__law_draw b__law_draw .nil pass0 (pa_cons (pv 0) (pa_cons (pe_callB (lenSeq K) (by rfl) T.n_len (by decide +kernel) (pa_cons (pv 2) pa_nil)) pa_nil))) pa_nil))))))), ?_⟩
    refine q_asgL (el_list (ev_var rfl) (SqL.of hth)) (fun re H1 hre e1 h1 => ?_)
    have off := S.off hre
    refine w_ret ?_
    refine w_lcR (n := xs.length) (ea_cons (ev_lenA (ev_var rfl) (.inl (SqL.of (e1 _ _ hth)))) ea_nil) (by omega) (fun _ => wipe1 _ _ _) (fun D i H' => (H D = none ∧ D ≠ re) ∧ ∃ acc rs : List V, acc.length = i ∧ (acc ++ rs).Perm xs ∧ Ext st l H H' ∧ StAt H' st l ∧ H' re = some (.lst rs) ∧ H' D = some (.lst acc)) (fun D H2 e2 hD => ?_) (fun D i H' hi p => ?_) (fun D H' p => ?_)
    · have hD0 := fresh_back (e1.trans e2) hD
      have offD := S.off hD0
      have ne : D ≠ re := fun z => by rw [z, e2 _ _ h1] at hD; cases hD
      refine ⟨⟨hD0, ne⟩, [], xs, rfl, List.Perm.refl _, (Ext.same (e1.trans e2)).mut hD0, (S.same (e1.trans e2)).ne_l (xs := []) offD.1 offD.2, ?_, upd_same⟩
      rw [upd_ne ne.symm]
      exact e2 _ _ h1
    · obtain ⟨⟨hD0, ne⟩, acc, rs, la, pm, X, S', hr', hD⟩ := p
      have offD := S.off hD0
      have lrs : rs.length + i = xs.length := by
        have := pm.length_eq
        rw [List.length_append] at this
        omega
      refine w_bm (ev_var rfl) (fun H3 e3 => ⟨Or.inl ⟨rfl, _, SqL.of (e3 _ _ hr')⟩, ?_⟩)
      refine w_cons (w_draw (st := st) (l := l) (n := (rs.length : Int)) (ea_cons (ev_var rfl) (ea_cons (ev_lenA (ev_var rfl) (.inl (SqL.of (e3 _ _ hr')))) ea_nil)) (S'.same e3) (by omega) (by omega) (fun r H5 r0 r1 e5 S5 => ?_))
      have r5 := e5 _ _ off.1 off.2 (e3 _ _ hr')
      have D5 := e5 _ _ offD.1 offD.2 (e3 _ _ hD)
      have hq : r.toNat < rs.length := by omega
      refine w_nil ⟨re, rs, r, r.toNat, rs[r.toNat], rfl, rfl, r5, by omega, by omega, ?_, List.getElem?_eq_getElem hq, ?_⟩
      · rw [seqIndex_of r0 (by omega)]
      · refine ⟨acc, by rw [upd_ne ne]; exact D5, sz_lt (by omega), ⟨hD0, ne⟩, acc ++ [rs[r.toNat]], rs.eraseIdx r.toNat, by simp [la], ?_, ?_, ?_, ?_, upd_same⟩
        · refine List.Perm.trans ?_ pm
          rw [List.append_assoc]
          refine List.Perm.append_left acc ?_
          exact erase_perm hq
        · exact (((X.trans (Ext.same e3)).trans e5).mut hre).mut hD0
        · exact (S5.ne_l (xs := []) off.1 off.2).ne_l (xs := []) offD.1 offD.2
        · rw [upd_ne ne.symm, upd_same]
    · obtain ⟨⟨hD0, ne⟩, acc, rs, la, pm, X, S', hr', hD⟩ := p
      have : rs = [] := by
        have z := pm.length_eq
        rw [List.length_append] at z
        exact List.length_eq_zero_iff.mp (by omega)
      subst this
      rw [List.append_nil] at pm
      exact k acc D H' pm X S' hD0 hD
end
end My

namespace My
open PySem PySem.Spec PyProof.Rows L2 Evl
/-! ### handed in -/
def unref : V → Option Addr
  | .ref a => some a
  | _ => none
theorem unref_map (as : List Addr) : (as.map V.ref).filterMap unref = as := by
  induction as with
  | nil => rfl
  | cons a t ih => rw [List.map_cons, List.filterMap_cons]; show a :: _ = _; rw [ih]
theorem perm_refs {ys : List V} {as : List Addr} (h : ys.Perm (as.map V.ref)) : ∃ bs : List Addr, ys = bs.map V.ref ∧ bs.Perm as := by
  refine ⟨ys.filterMap unref, ?_, ?_⟩
  · have : ∀ y ∈ ys, ∃ a, y = V.ref a := fun y hy => by
      obtain ⟨a, _, rfl⟩ := List.mem_map.mp (h.mem_iff.mp hy)
      exact ⟨a, rfl⟩
    clear h
    induction ys with
    | nil => rfl
    | cons y t ih =>
      obtain ⟨a, rfl⟩ := this y (List.mem_cons_self ..)
      rw [List.filterMap_cons]
      show _ = V.ref a :: _
      rw [← ih fun z hz => this z (List.mem_cons_of_mem _ hz)]
  · have := h.filterMap unref
    rwa [unref_map] at this
theorem paired_perm {α β : Type} {F : α → β → Prop} {as as' : List α} (p : as'.Perm as) : ∀ {rows : List β}, Paired F as rows → ∃ rows', Paired F as' rows' ∧ rows'.Perm rows := by
  induction p with
  | nil => intro rows h; exact ⟨rows, h, List.Perm.refl _⟩
  | cons x _ ih =>
    intro rows h
    cases h with
    | cons a t =>
      obtain ⟨r, h1, h2⟩ := ih t
      exact ⟨_ :: r, .cons a h1, h2.cons _⟩
  | swap x y l =>
    intro rows h
    cases h with
    | cons a t =>
      cases t with
      | cons b t => exact ⟨_, .cons b (.cons a t), List.Perm.swap ..⟩
  | trans _ _ ih1 ih2 =>
    intro rows h
    obtain ⟨r, h1, h2⟩ := ih2 h
    obtain ⟨r', h3, h4⟩ := ih1 h1
    exact ⟨r', h3, h4.trans h2⟩
theorem perm_strs {ys : List V} {xs : List Str} (h : ys.Perm (xs.map V.str)) : ∃ zs : List Str, ys = zs.map V.str ∧ zs.Perm xs := by
  have f : ∀ xs : List Str, (xs.map V.str).filterMap (fun v => match v with | .str s => some s | _ => none) = xs := by
    intro xs
    induction xs with
    | nil => rfl
    | cons a t ih => rw [List.map_cons, List.filterMap_cons]; show a :: _ = _; rw [ih]
  refine ⟨ys.filterMap (fun v => match v with | .str s => some s | _ => none), ?_, ?_⟩
  · have : ∀ y ∈ ys, ∃ a, y = V.str a := fun y hy => by
      obtain ⟨a, _, rfl⟩ := List.mem_map.mp (h.mem_iff.mp hy)
      exact ⟨a, rfl⟩
    clear h
    induction ys with
    | nil => rfl
    | cons y t ih =>
      obtain ⟨a, rfl⟩ := this y (List.mem_cons_self ..)
      rw [List.filterMap_cons]
      show _ = V.str a :: _
      rw [← ih fun z hz => this z (List.mem_cons_of_mem _ hz)]
  · have := h.filterMap (fun v => match v with | .str s => some s | _ => none)
    rwa [f] at this
/-- what is handed in of the rows -/
inductive HandL : List (List Str) → List (List Str) → Prop
  | nil : HandL [] []
  | keep {rs ms : List (List Str)} {r m : List Str} : HandL rs ms → m.Perm r → HandL (rs ++ [r]) (ms ++ [m])
  | drop {rs ms : List (List Str)} {r : List Str} : HandL rs ms → r.length ≤ 1 → HandL (rs ++ [r]) ms
def Handed (rows rows' : List (List Str)) : Prop := ∃ ms, HandL rows ms ∧ rows'.Perm ms
abbrev sHand : Stmt := top 22
theorem scHd : FnScope ["state", "lists", "found", "block"] ["state", "lists"] (defScope sHand) := ⟨rfl, rfl, rfl, by decide +kernel, rfl, by decide +kernel, by decide +kernel⟩
def RwO (st l : Addr) (H : Hp) (as : List Addr) (rows : List (List Str)) : Prop := Paired (fun a xs => (a ≠ st ∧ a ≠ l) ∧ H a = some (.lst (xs.map V.str))) as rows
theorem RwO.ext {st l : Addr} {H H' : Hp} {as : List Addr} {rows : List (List Str)} (e : Ext st l H H') (h : RwO st l H as rows) : RwO st l H' as rows := Paired.mapP h fun _ _ z => ⟨z.1, e _ _ z.1.1 z.1.2 z.2⟩
def spHand : Sp := fun vs H Q _ => ∃ (st l li : Addr) (as : List Addr) (rows : List (List Str)), vs = [.ref st, .ref li] ∧ StAt H st l ∧ (H li = some (.lst (as.map V.ref)) ∧ li ≠ st ∧ li ≠ l) ∧ RwO st l H as rows ∧ rows.length ≤ 100 ∧ (∀ r ∈ rows, r.length ≤ 200) ∧
  ∀ (as' : List Addr) (rows' : List (List Str)) (p : Addr) (H' : Hp), Handed rows rows' → Ext st l H H' → StAt H' st l → H p = none → H' p = some (.lst (as'.map V.ref)) → RwO st l H' as' rows' → (∀ a ∈ as', H a = none) → Q (.ref p) H'
theorem hand_put {K : PySem.W.Frag} {E : XK} {D : Ends} {σ : L2.St} {H : Hp} {st l fo a : Addr} {fs : List V} {row : List Str} (s0 : σ[0]? = some (some (.ref st))) (s2 : σ[2]? = some (some (.ref fo))) (s3 : σ[3]? = some (some (.ref a))) (S : StAt H st l) (hf : H fo = some (.lst fs)) (off : fo ≠ st ∧ fo ≠ l) (nf : fs.length ≤ 1000) (ha : H a = some (.lst (row.map V.str))) (n : row.length ≤ 1000)
    (k : ∀ (zs : List Str) (q : Addr) (H' : Hp), zs.Perm row → Ext st l H H' → StAt H' st l → H q = none → H' q = some (.lst (zs.map V.str)) → D.nx σ (upd H' fo (.lst (fs ++ [.ref q])))) :
    tDrop (tBM K "list" rAppend (tVar 2) (tCons (tCall spShuf [] E (tCons (tVar 0) (tCons (tVar 3) tNil))) tNil)) D σ H := by
  refine w_app hf (ev_var s2) (fun H1 e1 => ?_)
  refine w_call (w_eva (ea_cons (ev_var s0) (ea_cons (ev_var s3) ea_nil)) fun H2 e2 => ⟨st, l, a, row.map V.str, rfl, (S.same e1).same e2, (e1.trans e2) _ _ ha, by rw [List.length_map]; exact n, fun ys q H3 pm e3 S3 hq h3 => ?_⟩)
  obtain ⟨zs, rfl, pz⟩ := perm_strs pm
  exact ⟨fo, fs, _, rfl, rfl, e3 _ _ off.1 off.2 ((e1.trans e2) _ _ hf), sz_lt (by omega), k zs q H3 pz ((Ext.same (e1.trans e2)).trans e3) S3 (fresh_back (e1.trans e2) hq) h3⟩
section
variable {P : Program} {w : World} {K : PySem.W.Frag} {mg : Str → Option Value} {base : Heap}
theorem ok_hand {f fD fS : Addr} {fd fdD fdS : FuncData} (F : Fun K "_law_get_handed" "_law_get_handed" sHand f fd) (T : TD mg)
    (G__law_draw : FnOk P w K mg base CX0 1 fD fdD ["st", "limit"] spDraw) (m__law_draw : mg "_law_draw" = some (.ref fD)) (k__law_draw : PySem.W.keepIn K (.ref fD) = true) (b__law_draw : Binds K fdD ["st", "limit"] [])
    (G__law_shuffled : FnOk P w K mg base CX0 2 fS fdS ["state", "things"] spShuf) (m__law_shuffled : mg "_law_shuffled" = some (.ref fS)) (k__law_shuffled : PySem.W.keepIn K (.ref fS) = true) (b__law_shuffled : Binds K fdS ["state", "things"] []) :
    FnOk P w K mg base CX0 3 f fd ["state", "lists"] spHand := by
  refine F.ok scHd (fun vs H Q E h => ?_) (fun cdv A outer s H vs Q E hr h => ?_)
  · obtain ⟨st, l, li, as, rows, rfl, _⟩ := h
    rfl
  · obtain ⟨st, l, li, as, rows, rfl, S, ⟨hli, li1, li2⟩, hrw, nr, nw, k⟩ := h
    have hr__law_draw : Room 1 _ := hr.mono (by decide)
    have hr__law_shuffled : Room 2 _ := hr
    refine ⟨_, (pss_cons (ps_set (i := 2) scHd.nd rfl (Or.inl rfl) (pe_lst pa_nil))
    (pss_cons (ps_for PassesOwn.never rfl (piL K (pv 1)) (pg_name (i := 3) scHd.nd rfl (Or.inl rfl))
      (pss_one (ps_if (PW.pt (pw_or (pt_cmpR op_gt (pe_callB (lenSeq K) (by rfl) T.n_len (by decide +kernel) (pa_cons (pv 3) pa_nil)) pe_int (nomark _)) (pw_or1 (pt_cmpR op_eq (pe_call G__law_draw hr__law_draw rfl m__law_draw k__law_draw b__law_draw .nil pass0 (pa_cons (pv 0) (pa_cons pe_int pa_nil))) pe_int (nomark _)))))
        (pss_one (ps_expr (bmK K PySem.F.plainAttrs_list PySem.F.slot_list_append PySem.F.type_list_append mt_append (pv 2) (pa_cons (pe_call G__law_shuffled hr__law_shuffled rfl m__law_shuffled k__law_shuffled b__law_shuffled .nil pass0 (pa_cons (pv 0) (pa_cons (pv 3) pa_nil))) pa_nil))))
        pss_nil)))
    (pss_one (ps_ret (pe_call G__law_shuffled hr__law_shuffled rfl m__law_shuffled k__law_shuffled b__law_shuffled .nil pass0 (pa_cons (pv 0) (pa_cons (pv 2) pa_nil))))))), ?_⟩
    have len : as.length = rows.length := Paired.length hrw
    refine q_asgL (el_lst ea_nil (by decide)) (fun fo H1 hfo e1 h1 => ?_)
    have off := S.off hfo
    have fl : fo ≠ li := fun z => by rw [z, hli] at hfo; cases hfo
    refine q_forLn (a := li) (xs := as.map V.ref) (ev_var rfl) (SqL.of (e1 _ _ hli)) (fun i σ' H' => ∃ v as' ms, σ' = [some (.ref st), some (.ref li), some (.ref fo), v] ∧ Ext st l H H' ∧ StAt H' st l ∧ H' fo = some (.lst (as'.map V.ref)) ∧ Paired (fun a xs => ((a ≠ st ∧ a ≠ l) ∧ H' a = some (.lst (xs.map V.str))) ∧ a ≠ fo) as' ms ∧ HandL (rows.take i) ms ∧ as'.length ≤ i ∧ ∀ a ∈ as', H a = none)
      (fun H2 e2 => ⟨none, [], [], rfl, Ext.same (e1.trans e2), S.same (e1.trans e2), e2 _ _ h1, .nil, .nil, Nat.le_refl _, fun a ha => nomatch ha⟩) (fun i σ' H' _ p => ?_) (fun i x σ' H' hx p => ?_) (fun σ' H' p => ?_)
    · obtain ⟨v, as', ms, rfl, X, _⟩ := p
      exact SqL.of (X _ _ li1 li2 hli)
    · obtain ⟨v, as', ms, rfl, X, S', hf, hp, hh, na, hnew⟩ := p
      have hia : i < as.length := by
        have := (List.getElem?_eq_some_iff.mp hx).1
        simpa using this
      have hib : i < rows.length := by omega
      rw [List.getElem?_map, List.getElem?_eq_getElem hia] at hx
      obtain rfl : x = V.ref as[i] := (Option.some.inj hx).symm
      obtain ⟨⟨a1, a2⟩, ha⟩ := paired_get hrw hia hib
      have htk : rows.take (i + 1) = rows.take i ++ [rows[i]] := List.take_succ_eq_append_getElem hib
      have nrow := nw _ (List.getElem_mem hib)
      have haf : as[i] ≠ fo := fun z => by rw [z, hfo] at ha; cases ha
      generalize hr0 : rows[i] = row at ha htk nrow
      generalize as[i] = a at a1 a2 ha haf
      have rl : (row.map V.str).length = row.length := by simp
      have nfs : (as'.map V.ref).length ≤ 1000 := by
        rw [List.length_map]
        omega
      have next : ∀ (H5 : Hp), Ext st l H' H5 → ∀ (zs : List Str) (q : Addr) (H6 : Hp), zs.Perm row → Ext st l H5 H6 → StAt H6 st l → StAt H5 st l → H5 q = none → H6 q = some (.lst (zs.map V.str)) →
          ∃ w as'' ms', ([some (.ref st), some (.ref li), some (.ref fo), some (.ref a)] : L2.St) = [some (.ref st), some (.ref li), some (.ref fo), w] ∧ Ext st l H (upd H6 fo (.lst (as'.map V.ref ++ [.ref q]))) ∧ StAt (upd H6 fo (.lst (as'.map V.ref ++ [.ref q]))) st l ∧ (upd H6 fo (.lst (as'.map V.ref ++ [.ref q]))) fo = some (.lst (as''.map V.ref)) ∧
            Paired (fun a xs => ((a ≠ st ∧ a ≠ l) ∧ (upd H6 fo (.lst (as'.map V.ref ++ [.ref q]))) a = some (.lst (xs.map V.str))) ∧ a ≠ fo) as'' ms' ∧ HandL (rows.take (i + 1)) ms' ∧ as''.length ≤ i + 1 ∧ ∀ a ∈ as'', H a = none := fun H5 X5 zs q H6 pz e6 S6 S5 hq h6 => by
        have qf : q ≠ fo := fun z => by rw [z, X5 _ _ off.1 off.2 hf] at hq; cases hq
        refine ⟨_, as' ++ [q], ms ++ [zs], rfl, ((X.trans X5).trans e6).mut hfo, S6.ne_l (xs := []) off.1 off.2, by rw [upd_same, List.map_append]; rfl, ?_, ?_, by simp; omega, fun b hb => ?_⟩
        · refine Paired.snoc (Paired.mapP hp fun b c z => ⟨⟨z.1.1, ?_⟩, z.2⟩) ⟨⟨S5.off hq, ?_⟩, qf⟩
          · rw [upd_ne z.2]
            exact e6 _ _ z.1.1.1 z.1.1.2 (X5 _ _ z.1.1.1 z.1.1.2 z.1.2)
          · rw [upd_ne qf]; exact h6
        · rw [htk]; exact .keep hh pz
        · rcases List.mem_append.mp hb with hb | hb
          · exact hnew b hb
          · obtain rfl : b = q := by simpa using hb
            exact fresh_ext S (X.trans X5) S5 hq
      have aE : ∀ {H5 : Hp}, Ext st l H' H5 → H5 a = some (.lst (row.map V.str)) := fun X5 => X5 _ _ a1 a2 (X _ _ a1 a2 ha)
      have h0 : Ext st l H' H' := Ext.refl
      refine w_ifS (w_or (a := decide ((row.length : Int) > 1)) (et_test (ev_is (ev_op (ev_lenA (xs := row.map V.str) (ev_var rfl) (.inl (SqL.of (aE h0)))) ev_c rv_I0) (by rw [rl]))) (fun _ H5 e5 => ?_) (fun hs H5 e5 => ?_))
      · have X5 : Ext st l H' H5 := Ext.same e5
        have S5 := S'.same e5
        rw [if_pos rfl]
        exact hand_put rfl rfl rfl S5 (e5 _ _ hf) off nfs (aE X5) (by omega) (fun zs q H6 pz e6 S6 hq h6 => next H5 X5 zs q H6 pz e6 S6 S5 hq h6)
      · refine w_test (w_op (w_draw (st := st) (l := l) (n := 2) (ea_cons (ev_var rfl) (ea_cons ev_c ea_nil)) (S'.same e5) (by decide) (by decide) (fun r H6 r0 r1 e6 S6 => ?_)))
        have X6 : Ext st l H' H6 := (Ext.same e5).trans e6
        refine ⟨rfl, _, rfl, ?_⟩
        by_cases hz : r = 0
        · rw [if_pos (by simp [hz])]
          exact hand_put rfl rfl rfl S6 (X6 _ _ off.1 off.2 hf) off nfs (aE X6) (by omega) (fun zs q H7 pz e7 S7 hq h7 => next H6 X6 zs q H7 pz e7 S7 S6 hq h7)
        · rw [if_neg (by simp [hz])]
          refine ⟨_, as', ms, rfl, X.trans X6, S6, X6 _ _ off.1 off.2 hf, Paired.mapP hp fun b c z => ⟨⟨z.1.1, X6 _ _ z.1.1.1 z.1.1.2 z.1.2⟩, z.2⟩, ?_, Nat.le_succ_of_le na, hnew⟩
          rw [htk]
          refine .drop hh ?_
          have := of_decide_eq_false hs
          omega
    · obtain ⟨v, as', ms, rfl, X, S', hf, hp, hh, na, hnew⟩ := p
      have lrow : (as.map V.ref).length = rows.length := by rw [List.length_map, len]
      rw [lrow, List.take_length] at hh
      refine w_ret ?_
      refine w_call (w_eva (ea_cons (ev_var rfl) (ea_cons (ev_var rfl) ea_nil)) fun H5 e5 => ⟨st, l, fo, as'.map V.ref, rfl, S'.same e5, e5 _ _ hf, by rw [List.length_map]; omega, fun ys q H6 pm e6 S6 hq h6 => ?_⟩)
      obtain ⟨bs, rfl, pb⟩ := perm_refs pm
      obtain ⟨rows', hp', pr⟩ := paired_perm pb hp
      refine k bs rows' q H6 ⟨ms, hh, pr⟩ ((X.trans (Ext.same e5)).trans e6) S6 (fresh_ext S (X.trans (Ext.same e5)) (S'.same e5) hq) h6 (Paired.mapP hp' fun _ _ z => ⟨z.1.1, e6 _ _ z.1.1.1 z.1.1.2 (e5 _ _ z.1.2)⟩) (fun b hb => hnew b (pb.mem_iff.mp hb))
end
end My

namespace My
open PySem PySem.Spec PyProof.Rows L2 Evl
/-! ### what is handed in stands for the blocks -/
theorem quote_cps (w : Str) : (quote w).cps.toList = 39 :: (w.cps.toList ++ [39]) := by
  unfold quote
  rw [app_list, app_list]
  have : ("'" : Str).cps.toList = [39] := by decide +kernel
  rw [this]
  rfl
theorem quote_con {n : Nat} {w : Str} (h : IsName n w) (hn : n ≤ 20) : isCon (quote w) = true := by
  have hl := h.le
  have hp := h.pos
  have q : (quote w).cps = (39 :: (w.cps.toList ++ [39])).toArray := by rw [← quote_cps]
  have ql : (quote w).length = w.length + 2 := quote_len w
  have wl : w.cps.toList.length = w.length := by simp [Str.length]
  have one : ("'" : Str).cps = #[39] := by decide +kernel
  have onel : ("'" : Str).length = 1 := by decide +kernel
  have e1 : Txt.startswith (quote w) "'" = true := by
    unfold Txt.startswith Builtin.Str.subAt
    rw [onel, one, q, ql]
    simp
  have e2 : Txt.endswith (quote w) "'" = true := by
    unfold Txt.endswith Builtin.Str.subAt
    rw [onel, one, q, ql]
    have d : (39 :: (w.cps.toList ++ [39])).drop (w.length + 2 - 1) = [39] := by
      rw [show w.length + 2 - 1 = w.cps.toList.length + 1 by omega, List.drop_succ_cons, List.drop_left]
    have t : (0 + 1 ≤ w.length + 2) := by omega
    rw [decide_eq_true t, List.extract_toArray, List.extract_eq_take_drop, d, show w.length + 2 - 1 + 1 - (w.length + 2 - 1) = 1 by omega]
    rfl
  have e3 : cutS (quote w) (some 1) (some (-1)) = w := by
    unfold cutS
    have s1 : HT.sIx (quote w).length 0 (some 1) = 1 := by
      rw [show (some (1 : Int)) = some ((1 : Nat) : Int) from rfl, HT.sIx_nat, ql]
      omega
    have s2 : HT.sIx (quote w).length (quote w).length (some (-1)) = w.length + 1 := by
      unfold HT.sIx
      rw [ql]
      show (if (-1 : Int) < 0 then _ else _) = _
      rw [if_pos (by decide)]
      omega
    rw [s1, s2, quote_cps, List.drop_succ_cons, List.drop_zero, show w.length + 1 - 1 = w.cps.toList.length by omega, List.take_left]
  unfold isCon
  rw [e1, e2, e3]
  unfold isVal
  have h4 : (w.cps.toList.all fun c => decide (c ∈ sgL)) = true := List.all_eq_true.mpr fun c hc => decide_eq_true (h.sg c hc)
  rw [h4, decide_eq_true (show (1 : Int) ≤ (w.length : Int) by omega), decide_eq_true (show (w.length : Int) ≤ 20 by omega)]
  rfl
theorem HandL.back {rs ms : List (List Str)} (h : HandL rs ms) : ∀ m ∈ ms, ∃ r ∈ rs, m.Perm r := by
  induction h with
  | nil => intro m hm; cases hm
  | keep _ pm ih =>
    intro m hm
    rcases List.mem_append.mp hm with hm | hm
    · obtain ⟨r, hr, p⟩ := ih m hm
      exact ⟨r, List.mem_append_left _ hr, p⟩
    · rw [List.mem_singleton] at hm
      subst hm
      exact ⟨_, List.mem_append_right _ (List.mem_singleton.mpr rfl), pm⟩
  | drop _ _ ih =>
    intro m hm
    obtain ⟨r, hr, p⟩ := ih m hm
    exact ⟨r, List.mem_append_left _ hr, p⟩
theorem nd_snoc {rs : List (List Str)} {r : List Str} (nd : (rs ++ [r]).flatten.Nodup) : rs.flatten.Nodup ∧ r.Nodup ∧ ∀ x ∈ r, ∀ s ∈ rs, x ∉ s := by
  rw [List.flatten_append, List.flatten_singleton] at nd
  obtain ⟨n1, n2, n3⟩ := List.nodup_append.mp nd
  exact ⟨n1, n2, fun x hx s hs m => n3 _ (List.mem_flatten_of_mem hs m) _ hx rfl⟩
theorem HandL.nd {rs ms : List (List Str)} (h : HandL rs ms) (nd : rs.flatten.Nodup) : ms.flatten.Nodup := by
  induction h with
  | nil => simp
  | keep hh pm ih =>
    obtain ⟨n1, n2, n3⟩ := nd_snoc nd
    rw [List.flatten_append, List.flatten_singleton]
    refine List.nodup_append.mpr ⟨ih n1, (pm.nodup_iff).mpr n2, fun a ha b hb e => ?_⟩
    subst e
    obtain ⟨m, hm, am⟩ := List.mem_flatten.mp ha
    obtain ⟨r, hr, pr⟩ := hh.back m hm
    exact n3 _ (pm.mem_iff.mp hb) r hr (pr.mem_iff.mp am)
  | drop hh _ ih => exact ih (nd_snoc nd).1
theorem HandL.each {rs ms : List (List Str)} (h : HandL rs ms) (nd : rs.flatten.Nodup) : ∀ r ∈ rs, (∃ m ∈ ms, m.Perm r) ∨ (r.length ≤ 1 ∧ ∀ m ∈ ms, ∀ x ∈ r, x ∉ m) := by
  induction h with
  | nil => intro r hr; cases hr
  | keep hh pm ih =>
    obtain ⟨n1, n2, n3⟩ := nd_snoc nd
    intro r hr
    rcases List.mem_append.mp hr with hr | hr
    · rcases ih n1 r hr with ⟨m, hm, p⟩ | ⟨l, no⟩
      · exact .inl ⟨m, List.mem_append_left _ hm, p⟩
      · refine .inr ⟨l, fun m hm x hx hxm => ?_⟩
        rcases List.mem_append.mp hm with hm | hm
        · exact no m hm x hx hxm
        · rw [List.mem_singleton] at hm
          subst hm
          exact n3 x (pm.mem_iff.mp hxm) r hr hx
    · rw [List.mem_singleton] at hr
      subst hr
      exact .inl ⟨_, List.mem_append_right _ (List.mem_singleton.mpr rfl), pm⟩
  | drop hh hl ih =>
    obtain ⟨n1, n2, n3⟩ := nd_snoc nd
    intro r hr
    rcases List.mem_append.mp hr with hr | hr
    · exact ih n1 r hr
    · rw [List.mem_singleton] at hr
      subst hr
      refine .inr ⟨hl, fun m hm x hx hxm => ?_⟩
      obtain ⟨s, hs, ps⟩ := hh.back m hm
      exact n3 x hx s hs (ps.mem_iff.mp hxm)
theorem HandL.len {rs ms : List (List Str)} (h : HandL rs ms) : ms.length ≤ rs.length := by
  induction h with
  | nil => exact Nat.le_refl _
  | keep _ _ ih => simp; omega
  | drop _ _ ih => simp; omega
structure HandOk (rows rows' : List (List Str)) : Prop where
  nd : rows'.flatten.Nodup
  back : ∀ m ∈ rows', ∃ r ∈ rows, m.Perm r
  each : ∀ r ∈ rows, (∃ m ∈ rows', m.Perm r) ∨ (r.length ≤ 1 ∧ ∀ m ∈ rows', ∀ x ∈ r, x ∉ m)
  len : rows'.length ≤ rows.length
theorem Handed.ok {rows rows' : List (List Str)} (h : Handed rows rows') (nd : rows.flatten.Nodup) : HandOk rows rows' := by
  obtain ⟨ms, h, p⟩ := h
  refine ⟨?_, fun m hm => h.back m (p.mem_iff.mp hm), fun r hr => ?_, by rw [p.length_eq]; exact h.len⟩
  · exact (p.flatten.nodup_iff).mpr (h.nd nd)
  · rcases h.each nd r hr with ⟨m, hm, q⟩ | ⟨l, no⟩
    · exact .inl ⟨m, p.mem_iff.mpr hm, q⟩
    · exact .inr ⟨l, fun m hm => no m (p.mem_iff.mp hm)⟩
theorem HandOk.block {rows rows' : List (List Str)} (h : HandOk rows rows') {r : List Str} (hr : r ∈ rows) {p : Str} (hp : p ∈ r) : (blockOf rows' p).Perm r := by
  rcases h.each r hr with ⟨m, hm, q⟩ | ⟨l, no⟩
  · rw [blockOf_in h.nd hm (q.mem_iff.mpr hp)]
    exact q
  · have e : blockOf rows' p = [p] := by
      rcases blockOf_cases (bs := rows') (p := p) with hb | ⟨hb, _⟩
      · exact absurd blockOf_mem (no _ hb p hp)
      · exact hb
    rw [e]
    match r, l, hp with
    | [x], _, hp =>
      rw [List.mem_singleton] at hp
      rw [hp]
end My

namespace My
open PySem PySem.Spec PyProof.Rows L2 Evl
/-! ### the rows that are drawn are canonical -/
structure Drawn (ps : List Str) (ls : List Nat) (cs : List Str) (ts : List (Nat × Str)) : Prop where
  pnd : ps.Nodup
  plen : ∀ p ∈ ps, p.length ≤ 25
  pn : 1 ≤ ps.length ∧ ps.length ≤ 16
  lab : LabOk ps.length ls
  tag : TagOk ls cs ls.length ts
  con : ∀ c ∈ cs, isCon c = true ∧ c ∉ ps ∧ c.length ≤ 25
  cn : cs.length ≤ 26
section
variable {ps : List Str} {ls : List Nat} {cs : List Str} {ts : List (Nat × Str)}
theorem Drawn.at_ (_ : Drawn ps ls cs ts) {j : Nat} (h : j < ps.length) : ps.getD j "" ∈ ps := by
  rw [List.getD_eq_getElem?_getD, List.getElem?_eq_getElem h]
  exact List.getElem_mem h
theorem Drawn.inj (d : Drawn ps ls cs ts) {i j : Nat} (hi : i < ps.length) (hj : j < ps.length) (e : ps.getD i "" = ps.getD j "") : i = j := by
  rw [List.getD_eq_getElem?_getD, List.getElem?_eq_getElem hi, List.getD_eq_getElem?_getD, List.getElem?_eq_getElem hj] at e
  exact (List.getElem_inj d.pnd).mp e
theorem Drawn.ix (_ : Drawn ps ls cs ts) {p : Str} (h : p ∈ ps) : ∃ j, j < ps.length ∧ ps.getD j "" = p := by
  obtain ⟨j, hj, e⟩ := List.getElem_of_mem h
  exact ⟨j, hj, by rw [List.getD_eq_getElem?_getD, List.getElem?_eq_getElem hj]; exact e⟩
theorem class_mem (d : Drawn ps ls cs ts) {k : Nat} {p : Str} : p ∈ classOf ps ls k ↔ ∃ j, j < ps.length ∧ ls.getD j 0 = k ∧ ps.getD j "" = p := by
  unfold classOf
  rw [List.mem_map]
  constructor
  · rintro ⟨j, hj, rfl⟩
    obtain ⟨a, b⟩ := List.mem_filter.mp hj
    exact ⟨j, List.mem_range.mp a, of_decide_eq_true b, rfl⟩
  · rintro ⟨j, hj, e, rfl⟩
    exact ⟨j, List.mem_filter.mpr ⟨List.mem_range.mpr hj, decide_eq_true e⟩, rfl⟩
theorem class_in (d : Drawn ps ls cs ts) {k : Nat} {p : Str} (h : p ∈ classOf ps ls k) : p ∈ ps := by
  obtain ⟨j, hj, _, rfl⟩ := (class_mem d).mp h
  exact d.at_ hj
theorem tag_in {n k : Nat} {c : Str} (t : TagOk ls cs n ts) (h : c ∈ (ts.lookup k).toList) : (k, c) ∈ ts := by
  cases e : ts.lookup k with
  | none => rw [e] at h; cases h
  | some x =>
    rw [e] at h
    obtain rfl : c = x := by simpa using h
    clear t h
    induction ts with
    | nil => cases e
    | cons a t ih =>
      obtain ⟨n', c'⟩ := a
      rw [List.lookup_cons] at e
      by_cases z : k = n'
      · subst z
        simp at e
        subst e
        exact List.mem_cons_self ..
      · have : (k == n') = false := by simpa using z
        rw [this] at e
        exact List.mem_cons_of_mem _ (ih e)
theorem tag_con (d : Drawn ps ls cs ts) {k : Nat} {c : Str} (h : c ∈ (ts.lookup k).toList) : c ∈ cs := d.tag.pool _ (tag_in d.tag h)
theorem tag_len {k : Nat} : ((ts.lookup k).toList).length ≤ 1 := by cases ts.lookup k <;> simp
theorem rows_nd (d : Drawn ps ls cs ts) : ∀ n, n ≤ ps.length → (rowsTo ps ls ts n).flatten.Nodup ∧ ∀ m ∈ (rowsTo ps ls ts n).flatten, (∃ j, j < ps.length ∧ ls.getD j 0 < n ∧ ps.getD j "" = m) ∨ ∃ k, k < n ∧ (k, m) ∈ ts := by
  intro n
  induction n with
  | zero => intro _; exact ⟨by simp [rowsTo], by simp [rowsTo]⟩
  | succ n ih =>
    intro hn
    obtain ⟨nd, mem⟩ := ih (by omega)
    have snoc : rowsTo ps ls ts (n + 1) = rowsTo ps ls ts n ++ if decide (ls.getD n 0 = n) = true then [rowAt ps ls ts n] else [] := by
      unfold rowsTo
      rw [List.range_succ, List.filter_append, List.map_append, List.filter_cons]
      split <;> rfl
    rw [snoc]
    by_cases hb : decide (ls.getD n 0 = n) = true
    · rw [if_pos hb, List.flatten_append, List.flatten_singleton]
      have rmem : ∀ m ∈ rowAt ps ls ts n, (∃ j, j < ps.length ∧ ls.getD j 0 = n ∧ ps.getD j "" = m) ∨ (n, m) ∈ ts := fun m hm => by
        rcases List.mem_append.mp hm with h | h
        · exact .inl ((class_mem d).mp h)
        · exact .inr (tag_in d.tag h)
      refine ⟨List.nodup_append.mpr ⟨nd, ?_, fun a ha b hb e => ?_⟩, fun m hm => ?_⟩
      · unfold rowAt
        refine List.nodup_append.mpr ⟨?_, ?_, fun a ha b hb e => ?_⟩
        · unfold classOf
          rw [List.nodup_iff_pairwise_ne, List.pairwise_map]
          refine List.Pairwise.imp_of_mem ?_ (List.nodup_iff_pairwise_ne.mp (List.nodup_range.filter _))
          intro a b ha hb hab e
          exact hab (d.inj (List.mem_range.mp (List.mem_filter.mp ha).1) (List.mem_range.mp (List.mem_filter.mp hb).1) e)
        · cases ts.lookup n <;> simp
        · subst e
          exact (d.con _ (tag_con d hb)).2.1 (class_in d ha)
      · subst e
        rcases mem a ha with ⟨j, hj, l1, e1⟩ | ⟨k, hk, t1⟩
        · rcases rmem a hb with ⟨j', hj', l2, e2⟩ | t2
          · have := d.inj hj hj' (e1.trans e2.symm)
            subst this
            omega
          · exact (d.con _ (d.tag.pool _ t2)).2.1 (e1 ▸ d.at_ hj)
        · rcases rmem a hb with ⟨j', hj', l2, e2⟩ | t2
          · exact (d.con _ (d.tag.pool _ t1)).2.1 (e2 ▸ d.at_ hj')
          · -- one constant at two keys
            have one := d.tag.one
            have go : ∀ us : List (Nat × Str), (us.map (·.2)).Nodup → (k, a) ∈ us → (n, a) ∈ us → k = n := by
              intro us
              induction us with
              | nil => intro _ h _; cases h
              | cons u r ih =>
                intro nd h1 h2
                obtain ⟨n1, n2⟩ := List.nodup_cons.mp nd
                rcases List.mem_cons.mp h1 with e1 | h1
                · rcases List.mem_cons.mp h2 with e2 | h2
                  · exact congrArg Prod.fst (e1.trans e2.symm)
                  · exact absurd (List.mem_map.mpr ⟨_, h2, by rw [← e1]⟩) n1
                · rcases List.mem_cons.mp h2 with e2 | h2
                  · exact absurd (List.mem_map.mpr ⟨_, h1, by rw [← e2]⟩) n1
                  · exact ih n2 h1 h2
            have := go ts one t1 t2
            omega
      · rcases List.mem_append.mp hm with h | h
        · rcases mem m h with ⟨j, hj, l1, e1⟩ | ⟨k, hk, t1⟩
          · exact .inl ⟨j, hj, by omega, e1⟩
          · exact .inr ⟨k, by omega, t1⟩
        · rcases rmem m h with ⟨j, hj, l1, e1⟩ | t1
          · exact .inl ⟨j, hj, by omega, e1⟩
          · exact .inr ⟨n, by omega, t1⟩
    · rw [if_neg hb, List.append_nil]
      refine ⟨nd, fun m hm => ?_⟩
      rcases mem m hm with ⟨j, hj, l1, e1⟩ | ⟨k, hk, t1⟩
      · exact .inl ⟨j, hj, by omega, e1⟩
      · exact .inr ⟨k, by omega, t1⟩
theorem row_in (d : Drawn ps ls cs ts) {k : Nat} (hk : k < ps.length) (hl : ls.getD k 0 = k) : rowAt ps ls ts k ∈ rowsOf ps ls ts := List.mem_map.mpr ⟨k, List.mem_filter.mpr ⟨List.mem_range.mpr hk, decide_eq_true hl⟩, rfl⟩
theorem in_row (d : Drawn ps ls cs ts) {r : List Str} (h : r ∈ rowsOf ps ls ts) : ∃ k, k < ps.length ∧ ls.getD k 0 = k ∧ r = rowAt ps ls ts k := by
  obtain ⟨k, hk, rfl⟩ := List.mem_map.mp h
  obtain ⟨a, b⟩ := List.mem_filter.mp hk
  exact ⟨k, List.mem_range.mp a, of_decide_eq_true b, rfl⟩
/-- the block of the j-th position -/
theorem at_row (d : Drawn ps ls cs ts) {j : Nat} (hj : j < ps.length) : ps.getD j "" ∈ rowAt ps ls ts (ls.getD j 0) ∧ rowAt ps ls ts (ls.getD j 0) ∈ rowsOf ps ls ts := by
  refine ⟨List.mem_append_left _ ((class_mem d).mpr ⟨j, hj, rfl, rfl⟩), row_in d ?_ (d.lab.id j hj)⟩
  have := d.lab.le j hj
  omega
theorem pos_of_row (d : Drawn ps ls cs ts) {b : List Str} {k : Nat} (h : b.Perm (rowAt ps ls ts k)) : ps.filter (fun o => decide (o ∈ b)) = classOf ps ls k := by
  have e : ps = (List.range ps.length).map fun j => ps.getD j "" := by
    apply List.ext_getElem
    · simp
    · intro i h1 h2
      simp [List.getD_eq_getElem?_getD, List.getElem?_eq_getElem h1]
  unfold classOf
  conv => lhs; rw [e, List.filter_map]
  congr 1
  refine List.filter_congr fun j hj => ?_
  have hj := List.mem_range.mp hj
  refine decide_eq_decide.mpr ⟨fun z => ?_, fun z => ?_⟩
  · rcases List.mem_append.mp (h.mem_iff.mp z) with c | c
    · obtain ⟨j', hj', l, e⟩ := (class_mem d).mp c
      rw [← d.inj hj' hj e]
      exact l
    · exact absurd (d.at_ hj) (d.con _ (tag_con d c)).2.1
  · exact h.mem_iff.mpr (List.mem_append_left _ ((class_mem d).mpr ⟨j, hj, z, rfl⟩))
theorem con_of_row (d : Drawn ps ls cs ts) {b : List Str} {k : Nat} (h : b.Perm (rowAt ps ls ts k)) : b.filter (fun m => decide (m ∉ ps)) = (ts.lookup k).toList := by
  have e : (rowAt ps ls ts k).filter (fun m => decide (m ∉ ps)) = (ts.lookup k).toList := by
    unfold rowAt
    rw [List.filter_append]
    have e1 : (classOf ps ls k).filter (fun m => decide (m ∉ ps)) = [] := List.filter_eq_nil_iff.mpr fun m hm => by simpa using class_in d hm
    have e2 : ((ts.lookup k).toList).filter (fun m => decide (m ∉ ps)) = (ts.lookup k).toList := List.filter_eq_self.mpr fun m hm => decide_eq_true (d.con _ (tag_con d hm)).2.1
    rw [e1, e2, List.nil_append]
  have q := h.filter (fun m => decide (m ∉ ps))
  rw [e] at q
  cases z : ts.lookup k with
  | none => rw [z] at q; exact List.perm_nil.mp q
  | some c => rw [z] at q; exact List.perm_singleton.mp q
theorem class_head (d : Drawn ps ls cs ts) {k : Nat} (hk : k < ps.length) (hl : ls.getD k 0 = k) : (classOf ps ls k).head? = some (ps.getD k "") := by
  unfold classOf
  have e : List.range ps.length = List.range k ++ (k :: (List.range' (k + 1) (ps.length - k - 1))) := by
    rw [List.range_eq_range', List.range_eq_range', ← List.range'_succ, show ps.length - k - 1 + 1 = ps.length - k by omega]
    have := List.range'_append (s := 0) (m := k) (n := ps.length - k) (step := 1)
    simp only [Nat.one_mul, Nat.zero_add] at this
    rw [this]
    congr 1
    omega
  rw [e, List.filter_append, List.filter_cons, if_pos (decide_eq_true hl)]
  have nil : (List.range k).filter (fun j => decide (ls.getD j 0 = k)) = [] := List.filter_eq_nil_iff.mpr fun j hj => by
    have := List.mem_range.mp hj
    have := d.lab.le j (by omega)
    simp only [decide_eq_true_eq]
    omega
  rw [nil]
  rfl
theorem canon_rows (d : Drawn ps ls cs ts) {rows' : List (List Str)} (h : HandOk (rowsOf ps ls ts) rows') : canon ps rows' = rowsOf ps ls ts := by
  have blk : ∀ j, j < ps.length → (blockOf rows' (ps.getD j "")).Perm (rowAt ps ls ts (ls.getD j 0)) := fun j hj => h.block (at_row d hj).2 (at_row d hj).1
  have gen : ∀ {β : Type} (f : Str → Bool) (g : Str → β), (ps.filter f).map g = ((List.range ps.length).filter fun j => f (ps.getD j "")).map fun j => g (ps.getD j "") := by
    intro β f g
    have e : ps = (List.range ps.length).map fun j => ps.getD j "" := by
      apply List.ext_getElem
      · simp
      · intro i h1 h2
        simp [List.getD_eq_getElem?_getD, List.getElem?_eq_getElem h1]
    conv => lhs; rw [e, List.filter_map, List.map_map]
    rfl
  unfold canon
  rw [gen]
  unfold rowsOf rowsTo
  have pos : ∀ j, j < ps.length → rowPos ps rows' (ps.getD j "") = classOf ps ls (ls.getD j 0) := fun j hj => pos_of_row d (blk j hj)
  have fe : (List.range ps.length).filter (fun j => leads ps rows' (ps.getD j "")) = (List.range ps.length).filter (fun k => decide (ls.getD k 0 = k)) := by
    refine List.filter_congr fun j hj => ?_
    have hj := List.mem_range.mp hj
    have hk : ls.getD j 0 < ps.length := by
      have := d.lab.le j hj
      omega
    unfold leads
    rw [pos j hj, class_head d hk (d.lab.id j hj)]
    refine decide_eq_decide.mpr ⟨fun z => d.inj hk hj (Option.some.inj z), fun z => by rw [z]⟩
  rw [fe]
  refine List.map_congr_left fun j hj => ?_
  obtain ⟨a, b⟩ := List.mem_filter.mp hj
  have hj := List.mem_range.mp a
  have hl : ls.getD j 0 = j := of_decide_eq_true b
  unfold rowOf rowAt
  rw [pos j hj, con_of_row d (blk j hj), hl]
theorem rows_few (d : Drawn ps ls cs ts) : (rowsOf ps ls ts).flatten.length ≤ 42 := by
  obtain ⟨nd, mem⟩ := rows_nd d ps.length (Nat.le_refl _)
  have := nd_le (l2 := ps ++ cs) nd fun m hm => by
    rcases mem m hm with ⟨j, hj, _, rfl⟩ | ⟨k, _, t⟩
    · exact List.mem_append_left _ (d.at_ hj)
    · exact List.mem_append_right _ (d.tag.pool _ t)
  rw [List.length_append] at this
  have := d.pn
  have := d.cn
  show (rowsTo ps ls ts ps.length).flatten.length ≤ 42
  omega
theorem rows_mem (d : Drawn ps ls cs ts) {r : List Str} (hr : r ∈ rowsOf ps ls ts) {m : Str} (hm : m ∈ r) : m.length ≤ 25 ∧ (m ∉ ps → isCon m = true) := by
  obtain ⟨k, hk, hl, rfl⟩ := in_row d hr
  rcases List.mem_append.mp hm with h | h
  · exact ⟨d.plen _ (class_in d h), fun z => absurd (class_in d h) z⟩
  · have := d.con _ (tag_con d h)
    exact ⟨this.2.2, fun _ => this.1⟩
theorem rows_small (d : Drawn ps ls cs ts) : Small (rowsOf ps ls ts) := by
  refine ⟨fun b hb m hm => Nat.le_trans (rows_mem d hb hm).1 (by decide), Nat.le_trans rowsTo_n (by have := d.pn; omega), fun b hb => ?_⟩
  exact Nat.le_trans (List.Sublist.length_le (List.sublist_flatten_of_mem hb)) (Nat.le_trans (rows_few d) (by decide))
theorem hand_valid (d : Drawn ps ls cs ts) {rows' : List (List Str)} (h : HandOk (rowsOf ps ls ts) rows') : Valid ps rows' := by
  have at_ : ∀ b ∈ rows', ∃ k, k < ps.length ∧ ls.getD k 0 = k ∧ b.Perm (rowAt ps ls ts k) := fun b hb => by
    obtain ⟨r, hr, p⟩ := h.back b hb
    obtain ⟨k, hk, hl, rfl⟩ := in_row d hr
    exact ⟨k, hk, hl, p⟩
  have mem : ∀ b ∈ rows', ∀ m ∈ b, m.length ≤ 25 ∧ (m ∉ ps → isCon m = true) := fun b hb m hm => by
    obtain ⟨r, hr, p⟩ := h.back b hb
    exact rows_mem d hr (p.mem_iff.mp hm)
  refine ⟨h.nd, fun b hb m hm => (mem b hb m hm).2, fun b hb => ?_, fun b hb => ?_, fun b hb m hm => Nat.le_trans (mem b hb m hm).1 (by decide), ?_, ?_⟩
  · obtain ⟨k, _, _, p⟩ := at_ b hb
    rw [con_of_row d p]
    exact tag_len
  · obtain ⟨k, hk, hl, p⟩ := at_ b hb
    exact ⟨ps.getD k "", p.mem_iff.mpr (List.mem_append_left _ ((class_mem d).mpr ⟨k, hk, hl, rfl⟩)), d.at_ hk⟩
  · exact Nat.le_trans h.len (Nat.le_trans rowsTo_n (by have := d.pn; omega))
  · have := nd_le (l2 := (rowsOf ps ls ts).flatten) h.nd fun m hm => by
      obtain ⟨b, hb, hm⟩ := List.mem_flatten.mp hm
      obtain ⟨r, hr, p⟩ := h.back b hb
      exact List.mem_flatten_of_mem hr (p.mem_iff.mp hm)
    exact Nat.le_trans this (Nat.le_trans (rows_few d) (by decide))
end
end My

namespace My
open PySem PySem.Spec PyProof.Rows L2 Evl
/-! ### common to the laws of patterns -/
def spLaw (K : PySem.W.Frag) : Sp := fun vs H Q _ => ∃ (a : Addr) (ns : List Int), vs = [.ref a] ∧ SqL K H a (ns.map V.int) ∧ ns.length ≤ 63 ∧ ∀ H', Q (.bl true) H'
structure TM (K : PySem.W.Frag) (mg : Str → Option Value) (x : Str) (ps : List Str) (f : Addr) (fd : FuncData) : Prop where
  m : mg x = some (.ref f)
  k : PySem.W.keepIn K (.ref f) = true
  b : Binds K fd ps []
/-- all but lists stands -/
def Kp (H H' : Hp) : Prop := ∀ b o, (∀ xs, o ≠ .lst xs) → H b = some o → H' b = some o
theorem Kp.refl {H : Hp} : Kp H H := fun _ _ _ h => h
theorem Kp.trans {H H1 H2 : Hp} (a : Kp H H1) (b : Kp H1 H2) : Kp H H2 := fun c o n h => b c o n (a c o n h)
theorem Kp.ex {H H' : Hp} (e : Ex H H') : Kp H H' := fun b o _ h => e b o h
theorem Kp.ext {st l : Addr} {H H' : Hp} (S : StAt H st l) (e : Ext st l H H') : Kp H H' := fun b o n h => by
  obtain ⟨_, cs, x, y, z, h1, h2, _⟩ := S
  exact e b o (fun q => by rw [q, h1] at h; exact n _ (Option.some.inj h).symm) (fun q => by rw [q, h2] at h; exact n _ (Option.some.inj h).symm) h
theorem Kp.upd {H : Hp} {p : Addr} {xs : List V} {o : HO} (h : H p = some (.lst xs)) : Kp H (upd H p o) := fun b u n hb => by
  rw [upd_ne (fun q => by rw [q, h] at hb; exact n _ (Option.some.inj hb).symm)]
  exact hb
theorem SqT.kp {K : PySem.W.Frag} {H H' : Hp} {a : Addr} {xs : List V} (e : Kp H H') (h : SqT K H a xs) : SqT K H' a xs := by
  rcases h with (h | ⟨o, h⟩) | h
  · exact .inl (.inl (e _ _ (fun _ => nofun) h))
  · exact .inl (.inr ⟨o, e _ _ (fun _ => nofun) h⟩)
  · exact .inr h
theorem PatAt.kp {K : PySem.W.Frag} {C : Addr} {H H' : Hp} {a : Addr} {ps : List Str} {bs : List (List Str)} (e : Kp H H') (h : PatAt K C H a ps bs) : PatAt K C H' a ps bs := by
  obtain ⟨dx, pl, bl, di, as, h1, h2, h3, h4, h5⟩ := h
  exact ⟨dx, pl, bl, di, as, e _ _ (fun _ => nofun) h1, SqT.kp e h2, e _ _ (fun _ => nofun) h3, Paired.mapP h4 fun _ _ z => e _ _ (fun _ => nofun) z, e _ _ (fun _ => nofun) h5⟩
theorem PatAt.ins {K : PySem.W.Frag} {C : Addr} {H : Hp} {a : Addr} {ps : List Str} {bs : List (List Str)} (h : PatAt K C H a ps bs) : ∃ dx fs, H a = some (.ins C dx fs) := by
  obtain ⟨dx, pl, bl, di, as, h1, _⟩ := h
  exact ⟨dx, _, h1⟩
theorem w_make {C : Addr} {sp : Sp} {dvs : List V} {E : XK} {t : TA} {σ : L2.St} {H : Hp} {Q : VK} (h : t σ H fun vs H1 => ∀ x dx, H1 x = none → H1 dx = none → dx ≠ x → sp (.ref x :: (vs ++ dvs)) (upd (upd H1 dx (.own x)) x (.ins C dx [])) (fun v H2 => v = .non ∧ Q (.ref x) H2) E) : tMake C sp dvs E t σ H Q := h
theorem RwO.any {K : PySem.W.Frag} {st l : Addr} {H : Hp} {as : List Addr} {rows : List (List Str)} (h : RwO st l H as rows) : Rws K H as rows := Paired.mapP h fun _ _ z => .inl (SqL.of z.2)
theorem RwO.ex {st l : Addr} {H H' : Hp} {as : List Addr} {rows : List (List Str)} (e : Ex H H') (h : RwO st l H as rows) : RwO st l H' as rows := Paired.mapP h fun _ _ z => ⟨z.1, e _ _ z.2⟩
theorem RwN.off {st l : Addr} {H0 H : Hp} {as : List Addr} {rows : List (List Str)} (S : StAt H0 st l) (h : RwN H0 H as rows) : RwO st l H as rows := Paired.mapP h fun _ _ z => ⟨S.off z.1, z.2⟩
theorem quote_ok {n : Nat} {w : Str} (h : IsName n w) : PyData.strOk (quote w) = true := by
  have hc : ∀ c ∈ (quote w).cps.toList, c < 0x110000 := fun c hc => by
    rw [quote_cps] at hc
    rcases List.mem_cons.mp hc with rfl | hc
    · decide
    · rcases List.mem_append.mp hc with hc | hc
      · have : ∀ x ∈ sgL, x < 0x110000 := by decide
        exact this c (h.sg c hc)
      · obtain rfl : c = 39 := by simpa using hc
        decide
  unfold PyData.strOk
  rw [Array.all_eq_true']
  intro c hm
  exact decide_eq_true (hc c (Array.mem_toList_iff.mpr hm))
theorem quote_no {n most : Nat} {w : Str} {ps : List Str} (ok : PlOk most ps) (h : IsName n w) : quote w ∉ ps := fun m => by
  have := ok.sg _ m 39 (by rw [quote_cps]; exact List.mem_cons_self ..)
  revert this
  decide
theorem place_ok {most : Nat} {ps : List Str} (ok : PlOk most ps) : ∀ p ∈ ps, PyData.strOk p = true := fun p hp => by
  unfold PyData.strOk
  rw [Array.all_eq_true']
  intro c hm
  refine decide_eq_true ?_
  rcases ok.sg p hp c (Array.mem_toList_iff.mpr hm) with h | h
  · have : ∀ x ∈ sgL, x < 0x110000 := by decide
    exact this c h
  · rw [h]; decide
end My

namespace My
open PySem PySem.Spec PyProof.Rows L2 Evl
/-! ### blocks() -/
theorem el_listA {K : PySem.W.Frag} {te : TE} {σ : L2.St} {H : Hp} {a : Addr} {xs : List V} (h : Ev te σ H (.ref a)) (hx : SqA K H a xs) : EvL (tCB (rListS K) (tCons te tNil)) σ H xs := fun H1 e Q q =>
  h H1 e _ fun H2 e2 => ⟨a, xs, rfl, hx.ex (e.trans e2), fun l hl => q l _ (fresh_back e2 hl) (e2.trans (Ex.new hl)) upd_same⟩
def spPBlocks (K : PySem.W.Frag) (C : Addr) : Sp := fun vs H Q _ => ∃ (x : Addr) (ps : List Str) (bs : List (List Str)), vs = [.ref x] ∧ PatAt K C H x ps bs ∧ Small bs ∧ ∀ (p : Addr) (cs : List Addr) H', H p = none → Ex H H' → H' p = some (.lst (cs.map V.ref)) → RwN H H' cs bs → Q (.ref p) H'
abbrev sPBlocks : Stmt := inClass (top 18) 1
theorem scPBlocks : FnScope ["self", "block"] ["self"] (defScope sPBlocks) := ⟨rfl, rfl, rfl, by decide +kernel, rfl, by decide +kernel, by decide +kernel⟩
structure TB0 (mg : Str → Option Value) : Prop where
  n_list : mg "list" = none
  n_isinstance : mg "isinstance" = none
  n_tuple : mg "tuple" = none
abbrev sIsL : Stmt := top 26
theorem scIsL : FnScope ["told", "due"] ["told", "due"] (defScope sIsL) := ⟨rfl, rfl, rfl, by decide +kernel, rfl, by decide +kernel, by decide +kernel⟩
def RowsOk (rows : List (List Str)) : Prop := ∀ r ∈ rows, ∀ c ∈ r, PyData.strOk c = true
def LsAt (H : Hp) (a : Addr) (as : List Addr) (rows : List (List Str)) : Prop := H a = some (.lst (as.map V.ref)) ∧ Paired (fun a xs => H a = some (.lst (xs.map V.str))) as rows
theorem LsAt.ex {H H' : Hp} {a : Addr} {as : List Addr} {rows : List (List Str)} (e : Ex H H') (h : LsAt H a as rows) : LsAt H' a as rows := ⟨e _ _ h.1, Paired.mapP h.2 fun _ _ z => e _ _ z⟩
theorem LsAt.sq {K : PySem.W.Frag} {H : Hp} {a : Addr} {as : List Addr} {rows : List (List Str)} (h : LsAt H a as rows) : Paired (fun a xs => SqL K H a (xs.map V.str)) as rows := Paired.mapP h.2 fun _ _ z => SqL.of z
theorem RwN.ls {H0 H : Hp} {p : Addr} {as : List Addr} {rows : List (List Str)} (h : H p = some (.lst (as.map V.ref))) (r : RwN H0 H as rows) : LsAt H p as rows := ⟨h, Paired.mapP r fun _ _ z => z.2⟩
def spIsL : Sp := fun vs H Q _ => ∃ (a b : Addr) (as cs : List Addr) (rows : List (List Str)), vs = [.ref a, .ref b] ∧ LsAt H a as rows ∧ LsAt H b cs rows ∧ RowsOk rows ∧ ∀ H', Ex H H' → Q (.bl true) H'
abbrev sRight : Stmt := top 31
theorem scRight : FnScope ["pattern", "places", "due", "told"] ["pattern", "places", "due"] (defScope sRight) := ⟨rfl, rfl, rfl, by decide +kernel, rfl, by decide +kernel, by decide +kernel⟩
def spRight (K : PySem.W.Frag) (C : Addr) : Sp := fun vs H Q _ => ∃ (x pl du : Addr) (ps : List Str) (as : List Addr) (rows : List (List Str)), vs = [.ref x, .ref pl, .ref du] ∧ PatAt K C H x ps rows ∧ Small rows ∧ RowsOk rows ∧ rows ≠ [] ∧ (∀ p ∈ ps, PyData.strOk p = true) ∧ H pl = some (.lst (ps.map V.str)) ∧ LsAt H du as rows ∧ ∀ H', Ex H H' → Q (.bl true) H'
theorem w_blocks {K : PySem.W.Frag} {C x : Addr} {ps : List Str} {rows : List (List Str)} {E : XK} {te : TE} {σ : L2.St} {H : Hp} {Q : VK} (h : Ev te σ H (.ref x)) (pat : PatAt K C H x ps rows) (sm : Small rows)
    (k : ∀ (p : Addr) (cs : List Addr) H', H p = none → Ex H H' → H' p = some (.lst (cs.map V.ref)) → RwN H H' cs rows → Q (.ref p) H') : tMeth C "blocks" (spPBlocks K C) [] E te tNil σ H Q :=
  h H (Ex.refl H) _ fun H1 e1 => by
    have p1 := pat.same e1
    obtain ⟨dx, pl, bl, di, as, hx, _⟩ := p1.ex
    exact ⟨x, dx, _, rfl, hx, rfl, x, ps, rows, rfl, p1, sm, fun p cs H' hp e h r => k p cs H' (fresh_back e1 hp) (e1.trans e) h (r.back e1)⟩
theorem tyx_tup {K : PySem.W.Frag} {H : Hp} {a : Addr} {xs : List V} (h : SqT K H a xs) : TyX K H (.ref a) (.type "tuple") := by
  rcases h with (h | ⟨o, h⟩) | ⟨o, its, n, h, c, _⟩
  · exact .base (.tup h)
  · exact .fTuple h
  · exact .kTuple h c
section
variable {P : Program} {w : World} {K : PySem.W.Frag} {mg : Str → Option Value} {base : Heap}
theorem ok_pblocks {C f : Addr} {fd : FuncData} (F : Fun K "blocks" "Pattern.blocks" sPBlocks f fd) (TC : TP0 K C) (T : TB0 mg) : FnOk P w K mg base CX0 1 f fd ["self"] (spPBlocks K C) := by
  refine F.ok scPBlocks (fun vs H Q E h => ?_) (fun cdv A outer s H vs Q E hr h => ?_)
  · obtain ⟨x, ps, bs, rfl, _⟩ := h
    rfl
  · obtain ⟨x, ps, bs, rfl, ⟨dx, pl, bl, di, as, h1, h2, h3, h4, h5⟩, sm, k⟩ := h
    refine ⟨_, (pss_one (ps_ret (pe_lc (own := [("block", 1)]) (g := gName 1) (by rfl) scPBlocks.nd (piT K (fldK K (pv 0))) (blkOk_by (own := [("block", 1)]) (N := ["self", "block"]) (sc := defScope sPBlocks) (by decide +kernel)) (fun _ _ _ _ _ => (pg_name (i := 1) scPBlocks.nd rfl (Or.inl rfl))) (fun _ _ _ _ _ => pts_nil) (fun _ _ _ _ _ => (pe_callTy (listOf K) (by rfl) T.n_list (by decide +kernel) (pa_cons (pv 1) pa_nil)))))), ?_⟩
    refine w_ret ?_
    refine w_lcNew (K := K) (fun b => b.map V.str) h4.any sm.n (wi_tup (ev_fld TC.cl TC.n2 (ev_var rfl) h1 rfl) (st_of h3)) (fun _ => rfl) (fun a b H1 e1 hb ha => el_listA (ev_var rfl) ha) (fun p cs H2 hp e2 h2 hr2 => k p cs H2 hp e2 h2 ?_)
    have : ∀ {cs : List Addr} {bs : List (List Str)}, Paired (fun a xs => H a = none ∧ H2 a = some (.lst xs)) cs (bs.map fun b => b.map V.str) → RwN H H2 cs bs := by
      intro cs bs
      induction bs generalizing cs with
      | nil => intro h; cases h; exact .nil
      | cons b t ih =>
        intro h
        rw [List.map_cons] at h
        cases h with
        | cons a r => exact .cons a (ih r)
    exact this hr2
theorem ok_isl {f : Addr} {fd : FuncData} (F : Fun K "_law_is_lists" "_law_is_lists" sIsL f fd) (T : TB0 mg) : FnOk P w K mg base CX0 1 f fd ["told", "due"] spIsL := by
  refine F.ok scIsL (fun vs H Q E h => ?_) (fun cdv A outer s H vs Q E hr h => ?_)
  · obtain ⟨a, b, as, cs, rows, rfl, _⟩ := h
    rfl
  · obtain ⟨a, b, as, cs, rows, rfl, ha, hb, ok, k⟩ := h
    have hu64 := hr.units
    refine ⟨_, (pss_one (ps_ret (pe_and (pe_callB (isiK K) (by rfl) T.n_isinstance (by decide +kernel) (pa_cons (pv 0) (pa_cons (pe_ty (n := "list") (by rfl) T.n_list (by decide +kernel)) pa_nil))) (pe_one (pe_cmpR (eqDK K hu64) (pv 0) (pv 1) (nomark _)))))), ?_⟩
    exact s_ret (ev_andV (a := true) (b := true) (ev_isT (T := "list") (ev_var rfl) (fun H' e => .base (.lst (e _ _ ha.1))) (by rfl)) (fun _ => ev_op (ev_var rfl) (ev_var rfl) (rv_eqRows ok ha.1 hb.1 ha.sq hb.sq))) (fun H' e => k H' e)
theorem ok_right {C f fB fI : Addr} {fd fdB fdI : FuncData} (F : Fun K "_law_get_right" "_law_get_right" sRight f fd) (TC : TP0 K C) (T : TB0 mg)
    (M_Pattern_blocks : Meth K C "blocks" fB) (G_Pattern_blocks : FnOk P w K mg base CX0 1 fB fdB ["self"] (spPBlocks K C)) (b_Pattern_blocks : Binds K fdB ["self"] [])
    (G__law_is_lists : FnOk P w K mg base CX0 1 fI fdI ["told", "due"] spIsL) (m__law_is_lists : mg "_law_is_lists" = some (.ref fI)) (k__law_is_lists : PySem.W.keepIn K (.ref fI) = true) (b__law_is_lists : Binds K fdI ["told", "due"] []) :
    FnOk P w K mg base CX0 2 f fd ["pattern", "places", "due"] (spRight K C) := by
  refine F.ok scRight (fun vs H Q E h => ?_) (fun cdv A outer s H vs Q E hr h => ?_)
  · obtain ⟨x, pl, du, ps, as, rows, rfl, _⟩ := h
    rfl
  · obtain ⟨x, pl, du, ps, as, rows, rfl, pat, sm, ok, ne, pok, hp, hd, k⟩ := h
    have hr_Pattern_blocks : Room 1 _ := hr
    have hr__law_is_lists : Room 1 _ := hr
    have hu64 := hr.units
    refine ⟨_, (pss_cons (ps_set (i := 3) scRight.nd rfl (Or.inl rfl) (pe_meth0 (pv 0) TC.cl M_Pattern_blocks G_Pattern_blocks hr_Pattern_blocks b_Pattern_blocks .nil pass0))
    (pss_cons (ps_if (pt_not (pt_val (pe_call G__law_is_lists hr__law_is_lists rfl m__law_is_lists k__law_is_lists b__law_is_lists .nil pass0 (pa_cons (pv 3) (pa_cons (pv 2) pa_nil)))))
      (pss_one (ps_ret pe_bl))
      pss_nil)
    (pss_cons (ps_if (PW.pt (pw_or (pt_not (pt_val (pe_callB (isiK K) (by rfl) T.n_isinstance (by decide +kernel) (pa_cons (fldK K (pv 0)) (pa_cons (pe_ty (n := "tuple") (by rfl) T.n_tuple (by decide +kernel)) pa_nil))))) (pw_or1 (pt_cmpR (neDK K hu64) (pe_callTy (listOf K) (by rfl) T.n_list (by decide +kernel) (pa_cons (fldK K (pv 0)) pa_nil)) (pv 1) (nomark _)))))
      (pss_one (ps_ret pe_bl))
      pss_nil)
    (pss_cons (ps_expr (bmK K PySem.F.plainAttrs_list PySem.F.slot_list_append PySem.F.type_list_append mt_append (pe_ix (ixL K) (pv 3) pe_int (fun _ _ => rfl)) (pa_cons pe_str pa_nil)))
    (pss_cons (ps_expr (bmK K PySem.F.plainAttrs_list PySem.F.slot_list_append PySem.F.type_list_append mt_append (pv 3) (pa_cons (pe_lst (pa_cons pe_str pa_nil)) pa_nil)))
    (pss_one (ps_ret (pe_call G__law_is_lists hr__law_is_lists rfl m__law_is_lists k__law_is_lists b__law_is_lists .nil pass0 (pa_cons (pe_meth0 (pv 0) TC.cl M_Pattern_blocks G_Pattern_blocks hr_Pattern_blocks b_Pattern_blocks .nil pass0) (pa_cons (pv 2) pa_nil)))))))))), ?_⟩
    refine q_set (w_blocks (ev_var rfl) pat sm (fun tp cs H1 htp e1 h1 hr1 => ?_))
    have l1 : LsAt H1 tp cs rows := hr1.ls h1
    refine q_when (b := false) (et_not (a := true) (et_B (ev_call (ea_cons (ev_var rfl) (ea_cons (ev_var rfl) ea_nil)) (fun H2 e2 Q q E => ⟨tp, du, cs, as, rows, rfl, l1.ex e2, hd.ex (e1.trans e2), ok, q⟩)))) (fun hb => absurd hb (by decide)) (fun _ H2 e2 => ?_)
    have e12 := e1.trans e2
    obtain ⟨dx, pp, bl, di, bs, hx, hpp, _, _, _⟩ := (pat.same e12).ex
    refine q_when (b := false) (et_or (a := false) (et_not (a := true) (et_B (ev_isT (T := "tuple") (ev_fld TC.cl TC.n1 (ev_var rfl) hx rfl) (fun H' e => tyx_tup (ex_t e hpp)) (by rfl)))) (fun _ => et_test (ev_opL1 (el_listA (ev_fld TC.cl TC.n1 (ev_var rfl) hx rfl) (.inr hpp)) (fun H3 e3 => ev_var rfl) (fun q H3 h3 e3 => rv_neStrs pok (SqL.of h3) (SqL.of ((e12.trans e3) _ _ hp)))))) (fun hb => absurd hb (by decide)) (fun _ H3 e3 => ?_)
    have e13 := e12.trans e3
    obtain ⟨c0, ct, hcs⟩ : ∃ c0 ct, cs = c0 :: ct := by
      cases cs with
      | nil =>
        have := Paired.length hr1
        exact absurd (List.length_eq_zero_iff.mp this.symm) ne
      | cons c t => exact ⟨c, t, rfl⟩
    subst hcs
    cases hr1 with
    | @cons _ r0 _ rt z0 zr =>
      have few0 : r0.length ≤ 100 := sm.b _ (List.mem_cons_self ..)
      have fewn := sm.n
      have fewc : ct.length ≤ 1000 := by
        have := Paired.length zr
        rw [List.length_cons] at fewn
        omega
      have c0t : tp ≠ c0 := fun z => by
        have q := z0.2
        rw [← z, h1] at q
        cases r0 with
        | nil => cases q
        | cons _ _ => cases q
      refine q_app (l := c0) (xs := r0.map V.str) ((e2.trans e3) _ _ z0.2) (ev_op (ev_var rfl) ev_c (rv_ixL (SqL.of ((e2.trans e3) _ _ h1)) atI0)) ev_c (by rw [List.length_map]; omega) (fun H4 e4 => ?_)
      have e14 := e13.trans e4
      generalize hH5 : upd H4 c0 _ = H5
      have e15 : Ex H H5 := by rw [← hH5]; exact Ex.mut e14 z0.1
      have h5 : H5 tp = some (.lst ((c0 :: ct).map V.ref)) := by rw [← hH5, upd_ne c0t]; exact ((e2.trans e3).trans e4) _ _ h1
      refine q_appL (l := tp) h5 (ev_var rfl) (el_lst (ea_cons ev_c ea_nil) (by show 1 ≤ 100000; decide)) (by rw [List.length_map, List.length_cons]; omega) (fun q H6 hq e6 h6 => ?_)
      generalize hH7 : upd H6 tp _ = H7
      have e17 : Ex H H7 := by rw [← hH7]; exact Ex.mut (e15.trans e6) htp
      refine w_ret (w_call (w_cons (w_blocks (ev_var rfl) (pat.same e17) sm (fun tq ds H8 htq e8 h8 hr8 => w_cons (w_ev (ev_var rfl) fun H9 e9 => w_nil ⟨tq, du, ds, as, _, rfl, (hr8.ls h8).ex e9, hd.ex ((e17.trans e8).trans e9), ok, fun H10 e10 => k H10 (((e17.trans e8).trans e9).trans e10)⟩)))))
end
end My

namespace My
open PySem PySem.Spec PyProof.Rows L2 Evl
/-! ### the law -/
abbrev sLaw : Stmt := top 32
theorem scLaw : FnScope ["script", "state", "places", "pool", "made", "turn", "labels", "due", "handed", "before", "block", "given", "pattern"] ["script"] (defScope sLaw) := ⟨rfl, rfl, rfl, by decide +kernel, rfl, by decide +kernel, by decide +kernel⟩
/-- all but three objects stands -/
def Fr (st l mo : Addr) (H H' : Hp) : Prop := ∀ b o, b ≠ st → b ≠ l → b ≠ mo → H b = some o → H' b = some o
section
variable {st l mo : Addr} {H H1 H2 : Hp}
theorem Fr.ex (e : Ex H H1) : Fr st l mo H H1 := fun b o _ _ _ h => e b o h
theorem Fr.ext (e : Ext st l H H1) : Fr st l mo H H1 := fun b o n m _ h => e b o n m h
theorem Fr.trans (a : Fr st l mo H H1) (b : Fr st l mo H1 H2) : Fr st l mo H H2 := fun c o n m k h => b c o n m k (a c o n m k h)
theorem Fr.mut {p : Addr} {o : HO} (a : Fr st l mo H H1) (h : H p = none) : Fr st l mo H (upd H1 p o) := fun c u n m k hc => by
  rw [upd_ne (ne_of_none hc h)]
  exact a c u n m k hc
theorem Fr.updm {o : HO} (a : Fr st l mo H H1) : Fr st l mo H (upd H1 mo o) := fun c u n m k hc => by
  rw [upd_ne k]
  exact a c u n m k hc
theorem Fr.kp {xs : List V} (S : StAt H st l) (hm : H mo = some (.lst xs)) (a : Fr st l mo H H1) : Kp H H1 := fun b o n h => by
  obtain ⟨_, cs, x, y, z, h1, h2, _⟩ := S
  exact a b o (fun q => by rw [q, h1] at h; exact n _ (Option.some.inj h).symm) (fun q => by rw [q, h2] at h; exact n _ (Option.some.inj h).symm) (fun q => by rw [q, hm] at h; exact n _ (Option.some.inj h).symm) h
end
def Out (st l mo a : Addr) : Prop := a ≠ st ∧ a ≠ l ∧ a ≠ mo
/-- a list of lists that is never touched -/
structure LsO (st l mo : Addr) (H : Hp) (a : Addr) (as : List Addr) (rows : List (List Str)) : Prop where
  h : H a = some (.lst (as.map V.ref))
  o : Out st l mo a
  r : Paired (fun a xs => Out st l mo a ∧ H a = some (.lst (xs.map V.str))) as rows
theorem LsO.fr {st l mo : Addr} {H H' : Hp} {a : Addr} {as : List Addr} {rows : List (List Str)} (F : Fr st l mo H H') (h : LsO st l mo H a as rows) : LsO st l mo H' a as rows := ⟨F _ _ h.o.1 h.o.2.1 h.o.2.2 h.h, h.o, Paired.mapP h.r fun _ _ z => ⟨z.1, F _ _ z.1.1 z.1.2.1 z.1.2.2 z.2⟩⟩
theorem LsO.ls {st l mo : Addr} {H : Hp} {a : Addr} {as : List Addr} {rows : List (List Str)} (h : LsO st l mo H a as rows) : LsAt H a as rows := ⟨h.h, Paired.mapP h.r fun _ _ z => z.2⟩
def Made9 (K : PySem.W.Frag) (C st l mo : Addr) (H : Hp) (ps : List Str) (t : Addr) : Prop := ∃ (x du : Addr) (as : List Addr) (rows : List (List Str)), H t = some (.tup [.ref x, .ref du]) ∧ PatAt K C H x ps rows ∧ (Small rows ∧ RowsOk rows ∧ rows ≠ []) ∧ LsO st l mo H du as rows
theorem Made9.fr {K : PySem.W.Frag} {C st l mo : Addr} {H H' : Hp} {ps : List Str} {t : Addr} (F : Fr st l mo H H') (k : Kp H H') (h : Made9 K C st l mo H ps t) : Made9 K C st l mo H' ps t := by
  obtain ⟨x, du, as, rows, h1, h2, h3, h4⟩ := h
  exact ⟨x, du, as, rows, k _ _ (fun _ => nofun) h1, h2.kp k, h3, h4.fr F⟩
structure Bun9 (K : PySem.W.Frag) (C st l pl po mo : Addr) (ps cs : List Str) (ts : List Addr) (H : Hp) : Prop where
  S : StAt H st l
  p : H pl = some (.lst (ps.map V.str))
  o : H po = some (.lst (cs.map V.str))
  m : H mo = some (.lst (ts.map V.ref))
  t : ∀ t ∈ ts, Made9 K C st l mo H ps t
structure Off9 (st l pl po mo : Addr) : Prop where
  p : Out st l mo pl
  o : Out st l mo po
  m : mo ≠ st ∧ mo ≠ l
section
variable {K : PySem.W.Frag} {C st l pl po mo : Addr} {ps cs : List Str} {ts : List Addr} {H H' : Hp}
theorem Bun9.fr (f : Off9 st l pl po mo) (b : Bun9 K C st l pl po mo ps cs ts H) (F : Fr st l mo H H') (S : StAt H' st l) (m : H' mo = some (.lst (ts.map V.ref))) : Bun9 K C st l pl po mo ps cs ts H' :=
  ⟨S, F _ _ f.p.1 f.p.2.1 f.p.2.2 b.p, F _ _ f.o.1 f.o.2.1 f.o.2.2 b.o, m, fun t ht => (b.t t ht).fr F (F.kp b.S b.m)⟩
theorem Bun9.ex (f : Off9 st l pl po mo) (b : Bun9 K C st l pl po mo ps cs ts H) (e : Ex H H') : Bun9 K C st l pl po mo ps cs ts H' := b.fr f (Fr.ex e) (b.S.same e) (e _ _ b.m)
theorem Bun9.ext (f : Off9 st l pl po mo) (b : Bun9 K C st l pl po mo ps cs ts H) (e : Ext st l H H') (S : StAt H' st l) : Bun9 K C st l pl po mo ps cs ts H' := b.fr f (Fr.ext e) S (e _ _ f.m.1 f.m.2 b.m)
end
theorem Fr.back {st l mo : Addr} {H H' : Hp} {p : Addr} (F : Fr st l mo H H') (o : Out st l mo p) (h : H' p = none) : H p = none := by
  cases q : H p with
  | none => rfl
  | some u => rw [F _ _ o.1 o.2.1 o.2.2 q] at h; cases h
theorem out_new {st l mo : Addr} {H : Hp} {p : Addr} {xs : List V} (S : StAt H st l) (m : H mo = some (.lst xs)) (h : H p = none) : Out st l mo p := ⟨(S.off h).1, (S.off h).2, fun z => by rw [z, m] at h; cases h⟩
theorem paired_of_map {α β γ : Type} {F : α → γ → Prop} {g : β → γ} : ∀ {cs : List α} {bs : List β}, Paired F cs (bs.map g) → Paired (fun a b => F a (g b)) cs bs
  | _, [], h => by cases h; exact .nil
  | _, b :: t, h => by
    rw [List.map_cons] at h
    cases h with
    | cons a r => exact .cons a (paired_of_map r)
theorem w_tup {t : TA} {σ : L2.St} {H : Hp} {Q : VK} (h : t σ H fun xs H1 => xs.length ≤ sizeLine ∧ ∀ p, H1 p = none → Q (.ref p) (upd H1 p (.tup xs))) : tTup t σ H Q := h
structure TLaw (mg : Str → Option Value) (C : Addr) : Prop where
  n_range : mg "range" = none
  n_len : mg "len" = none
  n_list : mg "list" = none
  g_Pattern : mg "Pattern" = some (.ref C)
section
variable {P : Program} {w : World} {K : PySem.W.Frag} {mg : Str → Option Value} {base : Heap}
theorem ok_law {C f fS fD fP fC fL fT fI fH fN fR : Addr} {fd fdS fdD fdP fdC fdL fdT fdI fdH fdN fdR : FuncData} (F : Fun K "law" "law" sLaw f fd) (T : TLaw mg C)
    (G__law_get_state : FnOk P w K mg base CX0 1 fS fdS ["script"] (spState K)) (MS : TM K mg "_law_get_state" ["script"] fS fdS)
    (G__law_draw : FnOk P w K mg base CX0 1 fD fdD ["st", "limit"] spDraw) (MD : TM K mg "_law_draw" ["st", "limit"] fD fdD)
    (G__law_places_drawn : FnOk P w K mg base CX0 3 fP fdP ["state", "most"] spPlaces) (MP : TM K mg "_law_places_drawn" ["state", "most"] fP fdP)
    (G__law_get_constants : FnOk P w K mg base CX0 3 fC fdC ["st", "count"] spConsts) (MC : TM K mg "_law_get_constants" ["st", "count"] fC fdC)
    (G__law_get_labels : FnOk P w K mg base CX0 2 fL fdL ["state", "count", "most"] spLabels) (ML : TM K mg "_law_get_labels" ["state", "count", "most"] fL fdL)
    (G__law_get_tags : FnOk P w K mg base CX0 2 fT fdT ["state", "labels", "pool"] spTags) (MT : TM K mg "_law_get_tags" ["state", "labels", "pool"] fT fdT)
    (G__law_get_lists : FnOk P w K mg base CX0 1 fI fdI ["places", "labels", "tags"] spLists) (MI : TM K mg "_law_get_lists" ["places", "labels", "tags"] fI fdI)
    (G__law_get_handed : FnOk P w K mg base CX0 3 fH fdH ["state", "lists"] spHand) (MH : TM K mg "_law_get_handed" ["state", "lists"] fH fdH)
    (M_Pattern : Mk K C fN) (I_Pattern : FnOk P w K mg base CX0 4 fN fdN ["self", "places", "blocks"] (spInit K C)) (bI_Pattern : Binds K fdN ["self", "places", "blocks"] [])
    (G__law_get_right : FnOk P w K mg base CX0 2 fR fdR ["pattern", "places", "due"] (spRight K C)) (MR : TM K mg "_law_get_right" ["pattern", "places", "due"] fR fdR) :
    FnOk P w K mg base CX0 6 f fd ["script"] (spLaw K) := by
  refine F.ok scLaw (fun vs H Q E h => ?_) (fun cdv A' outer s H vs Q E hr h => ?_)
  · obtain ⟨a, ns, rfl, _⟩ := h
    rfl
  · obtain ⟨a, ns, rfl, hS, hlen, k⟩ := h
    have hr__law_get_state : Room 1 _ := hr.mono (by decide)
    have hr__law_draw : Room 1 _ := hr.mono (by decide)
    have hr__law_places_drawn : Room 3 _ := hr.mono (by decide)
    have hr__law_get_constants : Room 3 _ := hr.mono (by decide)
    have hr__law_get_labels : Room 2 _ := hr.mono (by decide)
    have hr__law_get_tags : Room 2 _ := hr.mono (by decide)
    have hr__law_get_lists : Room 1 _ := hr.mono (by decide)
    have hr__law_get_handed : Room 3 _ := hr.mono (by decide)
    have hr__law_get_right : Room 2 _ := hr.mono (by decide)
    have hr_Pattern : Room (4 + 1) _ := hr
    have hu64 := hr.units
    obtain ⟨m__law_get_state, k__law_get_state, b__law_get_state⟩ := MS
    obtain ⟨m__law_draw, k__law_draw, b__law_draw⟩ := MD
    obtain ⟨m__law_places_drawn, k__law_places_drawn, b__law_places_drawn⟩ := MP
    obtain ⟨m__law_get_constants, k__law_get_constants, b__law_get_constants⟩ := MC
    obtain ⟨m__law_get_labels, k__law_get_labels, b__law_get_labels⟩ := ML
    obtain ⟨m__law_get_tags, k__law_get_tags, b__law_get_tags⟩ := MT
    obtain ⟨m__law_get_lists, k__law_get_lists, b__law_get_lists⟩ := MI
    obtain ⟨m__law_get_handed, k__law_get_handed, b__law_get_handed⟩ := MH
    obtain ⟨m__law_get_right, k__law_get_right, b__law_get_right⟩ := MR
    refine ⟨_, (pss_cons (ps_set (i := 1) scLaw.nd rfl (Or.inl rfl) (pe_call G__law_get_state hr__law_get_state rfl m__law_get_state k__law_get_state b__law_get_state .nil pass0 (pa_cons (pv 0) pa_nil)))
    (pss_cons (ps_set (i := 2) scLaw.nd rfl (Or.inl rfl) (pe_call G__law_places_drawn hr__law_places_drawn rfl m__law_places_drawn k__law_places_drawn b__law_places_drawn .nil pass0 (pa_cons (pv 1) (pa_cons pe_int pa_nil))))
    (pss_cons (ps_set (i := 3) scLaw.nd rfl (Or.inl rfl) (pe_call G__law_get_constants hr__law_get_constants rfl m__law_get_constants k__law_get_constants b__law_get_constants .nil pass0 (pa_cons (pv 1) (pa_cons pe_int pa_nil))))
    (pss_cons (ps_set (i := 4) scLaw.nd rfl (Or.inl rfl) (pe_lst pa_nil))
    (pss_cons (ps_for PassesOwn.never rfl (pi_range1 rfl T.n_range (pa_cons pe_int pa_nil)) (pg_name (i := 5) scLaw.nd rfl (Or.inl rfl))
      (pss_cons (ps_set (i := 6) scLaw.nd rfl (Or.inl rfl) (pe_call G__law_get_labels hr__law_get_labels rfl m__law_get_labels k__law_get_labels b__law_get_labels .nil pass0 (pa_cons (pv 1) (pa_cons (pe_callB (lenSeq K) (by rfl) T.n_len (by decide +kernel) (pa_cons (pv 2) pa_nil)) (pa_cons (pe_op op_add pe_int (pe_call G__law_draw hr__law_draw rfl m__law_draw k__law_draw b__law_draw .nil pass0 (pa_cons (pv 1) (pa_cons pe_int pa_nil)))) pa_nil)))))
      (pss_cons (ps_set (i := 7) scLaw.nd rfl (Or.inl rfl) (pe_call G__law_get_lists hr__law_get_lists rfl m__law_get_lists k__law_get_lists b__law_get_lists .nil pass0 (pa_cons (pv 2) (pa_cons (pv 6) (pa_cons (pe_call G__law_get_tags hr__law_get_tags rfl m__law_get_tags k__law_get_tags b__law_get_tags .nil pass0 (pa_cons (pv 1) (pa_cons (pv 6) (pa_cons (pv 3) pa_nil)))) pa_nil)))))
      (pss_cons (ps_set (i := 8) scLaw.nd rfl (Or.inl rfl) (pe_call G__law_get_handed hr__law_get_handed rfl m__law_get_handed k__law_get_handed b__law_get_handed .nil pass0 (pa_cons (pv 1) (pa_cons (pv 7) pa_nil))))
      (pss_cons (ps_setLc (i := 9) (own := [("block", 10)]) (g := gName 10) (by rfl) scLaw.nd rfl rfl (sw_true rfl rfl rfl (by decide +kernel)) (piL K (pv 8)) (blkOk_by (own := [("block", 10)]) (N := ["script", "state", "places", "pool", "made", "turn", "labels", "due", "handed", "before", "block", "given", "pattern"]) (sc := defScope sLaw) (by decide +kernel)) (fun _ _ _ _ _ => (pg_name (i := 10) scLaw.nd rfl (Or.inl rfl))) (fun _ _ _ _ _ => pts_nil) (fun _ _ _ _ _ => (pe_callTy (listOf K) (by rfl) T.n_list (by decide +kernel) (pa_cons (pv 10) pa_nil))))
      (pss_cons (ps_set (i := 11) scLaw.nd rfl (Or.inl rfl) (pe_callTy (listOf K) (by rfl) T.n_list (by decide +kernel) (pa_cons (pv 2) pa_nil)))
      (pss_cons (ps_expr (bmK K PySem.F.plainAttrs_list PySem.F.slot_list_append PySem.F.type_list_append mt_append (pv 4) (pa_cons (pe_tup (pa_cons (pe_make M_Pattern I_Pattern hr_Pattern (by rfl) T.g_Pattern bI_Pattern .nil pass0 (pa_cons (pv 11) (pa_cons (pv 8) pa_nil))) (pa_cons (pv 7) pa_nil))) pa_nil)))
      (pss_cons (ps_if (PW.pt (pw_or (pt_cmpR (neDK K hu64) (pv 8) (pv 9) (nomark _)) (pw_or1 (pt_cmpR (neDK K hu64) (pv 11) (pv 2) (nomark _)))))
        (pss_one (ps_ret pe_bl))
        pss_nil)
      (pss_cons (ps_expr (bmK K PySem.F.plainAttrs_list PySem.F.slot_list_append PySem.F.type_list_append mt_append (pv 11) (pa_cons pe_str pa_nil)))
      (pss_cons (ps_expr (bmK K PySem.F.plainAttrs_list PySem.F.slot_list_append PySem.F.type_list_append mt_append (pv 8) (pa_cons (pe_lst (pa_cons pe_str pa_nil)) pa_nil)))
      (pss_one (ps_for PassesOwn.never rfl (piL K (pv 8)) (pg_name (i := 10) scLaw.nd rfl (Or.inl rfl))
        (pss_one (ps_expr (bmK K PySem.F.plainAttrs_list PySem.F.slot_list_append PySem.F.type_list_append mt_append (pv 10) (pa_cons pe_str pa_nil))))))))))))))))
    (pss_cons (ps_for PassesOwn.never rfl (piL K (pv 4)) (pg_tup rfl (pgs_cons (pg_name (i := 12) scLaw.nd rfl (Or.inl rfl)) (pgs_cons (pg_name (i := 7) scLaw.nd rfl (Or.inl rfl)) pgs_nil)))
      (pss_one (ps_if (pt_not (pt_val (pe_call G__law_get_right hr__law_get_right rfl m__law_get_right k__law_get_right b__law_get_right .nil pass0 (pa_cons (pv 12) (pa_cons (pv 2) (pa_cons (pv 7) pa_nil))))))
        (pss_one (ps_ret pe_bl))
        pss_nil)))
    (pss_one (ps_ret pe_bl)))))))), ?_⟩
    refine q_set (w_call (w_eva (ea_cons (ev_var rfl) ea_nil) fun H1 e1 => ⟨a, ns, rfl, ex_l e1 hS, fun H2 st l e2 S _ _ => ?_⟩))
    refine q_set (w_call (w_eva (ea_cons (ev_var rfl) (ea_cons ev_c ea_nil)) fun H3 e3 => ⟨st, l, 16, rfl, S.same e3, by decide, by decide, fun ps pl H4 ok e4 S4 hpl h4 => ?_⟩))
    have offp := (S.same e3).off hpl
    refine q_set (w_call (w_eva (ea_cons (ev_var rfl) (ea_cons ev_c ea_nil)) fun H5 e5 => ⟨st, l, 4, rfl, S4.same e5, by decide, fun ws po H6 okw e6 S6 hpo h6 => ?_⟩))
    have offo := (S4.same e5).off hpo
    have p6 : H6 pl = some (.lst (ps.map V.str)) := e6 _ _ offp.1 offp.2 (e5 _ _ h4)
    refine q_asgL (el_lst ea_nil (by decide)) (fun mo H7 hmo e7 h7 => ?_)
    have fo : Off9 st l pl po mo := ⟨⟨offp.1, offp.2, ne_of_none p6 hmo⟩, ⟨offo.1, offo.2, ne_of_none h6 hmo⟩, S6.off hmo⟩
    have B7 : Bun9 K C st l pl po mo ps (ws.map quote) [] H7 := ⟨S6.same e7, e7 _ _ p6, e7 _ _ h6, h7, fun t ht => nomatch ht⟩
    have nps := ok.n
    have nps1 := ok.n1
    have pok := place_ok ok
    generalize hcs : ws.map quote = cs at B7
    have csn : cs.length = 4 := by rw [← hcs, List.length_map, okw.len]
    have cok : ∀ c ∈ cs, PyData.strOk c = true := fun c hc => by
      rw [← hcs] at hc
      obtain ⟨w', hw, rfl⟩ := List.mem_map.mp hc
      exact quote_ok (okw.ok _ hw)
    have ccon : ∀ c ∈ cs, isCon c = true ∧ c ∉ ps ∧ c.length ≤ 25 := fun c hc => by
      rw [← hcs] at hc
      obtain ⟨w', hw, rfl⟩ := List.mem_map.mp hc
      have nm := okw.ok _ hw
      exact ⟨quote_con nm (by decide), quote_no ok nm, by rw [quote_len]; have := nm.le; omega⟩
    refine q_forR1 (n := 2) (ea_cons ev_c ea_nil) ⟨by decide, by decide⟩ (fun i σ' H' => ∃ v5 v6 v7 v8 v9 v10 v11 v12 ts, σ' = [some (.ref a), some (.ref st), some (.ref pl), some (.ref po), some (.ref mo), v5, v6, v7, v8, v9, v10, v11, v12] ∧ Bun9 K C st l pl po mo ps cs ts H' ∧ ts.length ≤ i)
      (fun H8 e8 => ⟨none, none, none, none, none, none, none, none, [], rfl, B7.ex fo e8, Nat.le_refl _⟩) (fun i σ' H' hi p => ?_) (fun σ' H' p => ?_)
    · obtain ⟨v5, v6, v7, v8, v9, v10, v11, v12, ts, rfl, B, nt⟩ := p
      -- labels
      refine q_set (w_call (w_cons (w_ev (ev_var rfl) fun Ha ea => w_cons (w_ev (ev_is (ev_lenA (xs := ps.map V.str) (ev_var rfl) (.inl (SqL.of (ea _ _ B.p)))) (by rw [List.length_map])) fun Hb eb => w_cons (w_op (w_ev ev_c fun Hc ec => w_draw (st := st) (l := l) (n := 16) (ea_cons (ev_var rfl) (ea_cons ev_c ea_nil)) (B.S.same (ea.trans (eb.trans ec))) (by decide) (by decide) (fun r Hd r0 r1 ed Sd => ?_)))))))
      have Bd := (B.ex fo (ea.trans (eb.trans ec))).ext fo ed Sd
      refine ⟨_, _, rfl, rfl, w_nil ⟨st, l, ps.length, 1 + r, rfl, Sd, by omega, by omega, by omega, fun ls la He okl ee Se hla hle => ?_⟩⟩
      have Be := Bd.ext fo ee Se
      have offl := Sd.off hla
      -- the lists
      refine q_set (w_call (w_cons (w_ev (ev_var rfl) fun Hf ef => w_cons (w_ev (ev_var rfl) fun Hg eg => w_cons (w_call (w_eva (ea_cons (ev_var rfl) (ea_cons (ev_var rfl) (ea_cons (ev_var rfl) ea_nil))) fun Hh eh => ?_))))))
      have Bh := Be.ex fo (ef.trans (eg.trans eh))
      refine ⟨st, l, la, po, ls, cs, rfl, Bh.S, ⟨(ef.trans (eg.trans eh)) _ _ hle, offl⟩, ⟨Bh.o, fo.o.1, fo.o.2.1⟩, by rw [okl.n]; omega, by omega, cok, fun tg ta Hi okt ei Si hta hti => ?_⟩
      have Bi := Bh.ext fo ei Si
      have dr : Drawn ps ls cs tg := ⟨ok.nd, ok.le, ⟨nps1, nps⟩, okl, okt, ccon, by omega⟩
      refine w_nil ⟨pl, la, ta, ps, ls, tg, rfl, Bi.p, ei _ _ offl.1 offl.2 ((ef.trans (eg.trans eh)) _ _ hle), hti, okl.n, by omega, fun as li Hj ej hli hlj hrw => ?_⟩
      have Bj := Bi.ex fo ej
      have offli := Si.off hli
      have nmo : ∀ {b : Addr}, Hi b = none → b ≠ mo := fun {b} hb z => by rw [z, Bi.m] at hb; cases hb
      have due0 : LsO st l mo Hj li as (rowsOf ps ls tg) := ⟨hlj, ⟨offli.1, offli.2, nmo hli⟩, Paired.mapP hrw fun b c z => ⟨⟨(Si.off z.1).1, (Si.off z.1).2, nmo z.1⟩, z.2⟩⟩
      have row := hrw.off Si
      have sm := rows_small dr
      have nd := (rows_nd dr ps.length (Nat.le_refl _)).1
      have lrow : (rowsOf ps ls tg).length ≤ 16 := Nat.le_trans rowsTo_n nps
      have rne : rowsOf ps ls tg ≠ [] := fun z => by
        have := (at_row dr (j := 0) (by omega)).2
        rw [z] at this
        cases this
      have rok : RowsOk (rowsOf ps ls tg) := fun r hr c hc => by
        obtain ⟨k', hk, hl, rfl⟩ := in_row dr hr
        rcases List.mem_append.mp hc with h | h
        · exact pok _ (class_in dr h)
        · exact cok _ (tag_con dr h)
      have cano := fun rows' (h : Handed (rowsOf ps ls tg) rows') => canon_rows dr (h.ok nd)
      have vali := fun rows' (h : Handed (rowsOf ps ls tg) rows') => hand_valid dr (h.ok nd)
      have rok' : ∀ rows', Handed (rowsOf ps ls tg) rows' → RowsOk rows' := fun rows' h r hr c hc => by
        obtain ⟨q, hq, pm⟩ := (h.ok nd).back r hr
        exact rok q hq c (pm.mem_iff.mp hc)
      generalize rowsOf ps ls tg = rows at row sm nd lrow rne rok cano vali due0 rok'
      -- handed in
      refine q_set (w_call (w_eva (ea_cons (ev_var rfl) (ea_cons (ev_var rfl) ea_nil)) fun Hl el => ⟨st, l, li, as, rows, rfl, Bj.S.same el, ⟨el _ _ hlj, offli⟩, row.ex el, by omega, fun b hb => Nat.le_trans (sm.b b hb) (by decide), fun as' rows' hd Hm okh em Sm hhd hm hrw' hnew => ?_⟩))
      have va := vali _ okh
      have nrows' : rows'.length ≤ 1000 := va.few.1
      have F0 : Fr st l mo Hj Hm := (Fr.ex el).trans (Fr.ext em)
      have mo_m : Hm mo = some (.lst (ts.map V.ref)) := em _ _ fo.m.1 fo.m.2 (el _ _ Bj.m)
      have hdJ := fresh_back el hhd
      have newJ : ∀ b ∈ as', Hj b = none := fun b hb => fresh_back el (hnew b hb)
      have moJ : ∀ {b : Addr}, Hj b = none → b ≠ mo := fun {b} hb z => by rw [z, Bj.m] at hb; cases hb
      have outJ : ∀ {b : Addr}, Hj b = none → Out st l mo b := fun {b} hb => ⟨(Bj.S.off hb).1, (Bj.S.off hb).2, moJ hb⟩
      have as_hd : ∀ b ∈ as', b ≠ hd := fun b hb z => by
        obtain ⟨i, hi, hbi⟩ := List.getElem_of_mem hb
        have hi2 : i < rows'.length := by rw [← Paired.length hrw']; exact hi
        have q := (paired_get hrw' hi hi2).2
        rw [hbi, z, hm] at q
        have e := HO.lst.inj (Option.some.inj q)
        obtain ⟨m, hmem, _⟩ := va.pos _ (List.getElem_mem hi2)
        cases hr : rows'[i] with
        | nil => rw [hr] at hmem; cases hmem
        | cons c t =>
          rw [hr] at e
          cases as' with
          | nil => cases hb
          | cons _ _ => cases e
      -- before
      refine q_set (w_lcNew (K := K) (as := as') (bs := rows') (fun b => b.map V.str) (RwO.any hrw') nrows' (wi_list (ev_var rfl) (SqL.of hm)) (fun _ => rfl) (fun a b H1 e1 hb ha => el_listA (ev_var rfl) ha) (fun bf bs Hn hbf en hbn hbr => ?_))
      -- given
      have p_n : Hn pl = some (.lst (ps.map V.str)) := en _ _ (F0 _ _ fo.p.1 fo.p.2.1 fo.p.2.2 Bj.p)
      refine q_asgL (el_list (ev_var rfl) (SqL.of p_n)) (fun gv Ho hgv eo hgo => ?_)
      have eno := en.trans eo
      have hbr := paired_of_map hbr
      have Sn := (Sm.same en)
      have gvo : Out st l mo gv := out_new Sn (en _ _ mo_m) hgv
      have gvJ : Hj gv = none := (F0.trans (Fr.ex en)).back gvo hgv
      have gv_hd : hd ≠ gv := ne_of_none (en _ _ hm) hgv
      -- the pattern
      refine w_seq (w_app (xs := ts.map V.ref) (eno _ _ mo_m) (ev_var rfl) (fun Hp' ep => ?_))
      refine w_tup (w_cons (w_make (w_eva (ea_cons (ev_var rfl) (ea_cons (ev_var rfl) ea_nil)) fun Hq eq x dx hx hdx ne => ?_)))
      have emq : Ex Hm Hq := eno.trans (ep.trans eq)
      have e0 : Ex Hq (upd (upd Hq dx (.own x)) x (.ins C dx [])) := (Ex.new hdx).trans (Ex.new (by rw [upd_ne ne.symm]; exact hx))
      refine ⟨x, dx, gv, hd, ps, as', rows', rfl, upd_same, .inl (SqL.of (e0 _ _ ((ep.trans eq) _ _ hgo))), .inl (SqL.of (e0 _ _ (emq _ _ hm))), (RwO.ex (emq.trans e0) hrw').any, va, ok.nd, by omega, fun Hr bn pat => ⟨rfl, ?_⟩⟩
      rw [cano _ okh] at pat
      have er : Ex Hq Hr := fun b o hb => bn b o (fun z => by rw [z, hx] at hb; cases hb) (e0 _ _ hb)
      refine w_cons (w_ev (ev_var rfl) fun Hs es => w_nil ⟨by show 2 ≤ sizeLine; decide, fun t ht => ?_⟩)
      have emt : Ex Hm (upd Hs t (.tup [.ref x, .ref li])) := (emq.trans (er.trans es)).trans (Ex.new ht)
      have eot : Ex Ho (upd Hs t (.tup [.ref x, .ref li])) := ((ep.trans eq).trans (er.trans es)).trans (Ex.new ht)
      have patT : PatAt K C (upd Hs t (.tup [.ref x, .ref li])) x ps rows := pat.same (es.trans (Ex.new ht))
      have tT : (upd Hs t (.tup [.ref x, .ref li])) t = some (.tup [.ref x, .ref li]) := upd_same
      generalize upd Hs t (.tup [.ref x, .ref li]) = Ht at emt eot patT tT
      have moT : Ht mo = some (.lst (ts.map V.ref)) := emt _ _ mo_m
      refine ⟨mo, ts.map V.ref, _, rfl, rfl, moT, sz_lt (by rw [List.length_map]; omega), ?_⟩
      have ku : Kp Ht (upd Ht mo (.lst (ts.map V.ref ++ [.ref t]))) := Kp.upd moT
      have patU := patT.kp ku
      have tU := ku t (.tup [.ref x, .ref li]) (fun _ => nofun) tT
      have FU : Fr st l mo Hj (upd Ht mo (.lst (ts.map V.ref ++ [.ref t]))) := (F0.trans (Fr.ex emt)).updm
      have SU : StAt (upd Ht mo (.lst (ts.map V.ref ++ [.ref t]))) st l := (Sm.same emt).ne_l (xs := []) fo.m.1 fo.m.2
      have moU : (upd Ht mo (.lst (ts.map V.ref ++ [.ref t]))) mo = some (.lst ((ts ++ [t]).map V.ref)) := by rw [upd_same, List.map_append]; rfl
      have keep : ∀ b o, b ≠ mo → Ht b = some o → (upd Ht mo (.lst (ts.map V.ref ++ [.ref t]))) b = some o := fun b o n h => by rw [upd_ne n]; exact h
      generalize upd Ht mo (.lst (ts.map V.ref ++ [.ref t])) = U at ku patU tU FU SU moU keep
      have hdU : U hd = some (.lst (as'.map V.ref)) := keep _ _ (moJ hdJ) (emt _ _ hm)
      have mom : ∀ {b : Addr}, Hm b = none → b ≠ mo := fun {b} hb z => by rw [z, mo_m] at hb; cases hb
      have bfU : U bf = some (.lst (bs.map V.ref)) := keep _ _ (mom hbf) (eot _ _ (eo _ _ hbn))
      have rU : Paired (fun a xs => U a = some (.lst (xs.map V.str))) as' rows' := by
        have go : ∀ {as : List Addr} {rs : List (List Str)}, Paired (fun a xs => (a ≠ st ∧ a ≠ l) ∧ Hm a = some (.lst (xs.map V.str))) as rs → (∀ b ∈ as, Hj b = none) → Paired (fun a xs => U a = some (.lst (xs.map V.str))) as rs := by
          intro as rs h
          induction h with
          | nil => intro _; exact .nil
          | cons a _ ih => intro hn; exact .cons (keep _ _ (moJ (hn _ (List.mem_cons_self ..))) (emt _ _ a.2)) (ih fun b hb => hn b (List.mem_cons_of_mem _ hb))
        exact go hrw' newJ
      have bU : Paired (fun a xs => U a = some (.lst (xs.map V.str))) bs rows' := Paired.mapP hbr fun b c z => keep _ _ (mom z.1) (eot _ _ (eo _ _ z.2))
      have gvU : U gv = some (.lst (ps.map V.str)) := keep _ _ gvo.2.2 (eot _ _ hgo)
      have pU : U pl = some (.lst (ps.map V.str)) := FU _ _ fo.p.1 fo.p.2.1 fo.p.2.2 Bj.p
      have okr := rok' _ okh
      refine q_when (b := false) (et_or (a := false) (et_test (ev_op (ev_var rfl) (ev_var rfl) (rv_neRows okr hdU bfU (Paired.mapP rU fun _ _ z => SqL.of z) (Paired.mapP bU fun _ _ z => SqL.of z)))) (fun _ => et_test (ev_op (ev_var rfl) (ev_var rfl) (rv_neStrs pok (SqL.of gvU) (SqL.of pU))))) (fun hb => absurd hb (by decide)) (fun _ V0 e0' => ?_)
      -- what was handed in is changed
      refine q_app (l := gv) (xs := ps.map V.str) (e0' _ _ gvU) (ev_var rfl) ev_c (by rw [List.length_map]; omega) (fun V1 e1' => ?_)
      have eU1 := e0'.trans e1'
      have gv1 := eU1 _ _ gvU
      have F2 : Fr st l mo Hj (upd V1 gv (.lst (ps.map V.str ++ [.str "later"]))) := (FU.trans (Fr.ex eU1)).mut gvJ
      have S2 : StAt (upd V1 gv (.lst (ps.map V.str ++ [.str "later"]))) st l := (SU.same eU1).ne_l (xs := []) gvo.1 gvo.2.1
      have k2 : Kp U (upd V1 gv (.lst (ps.map V.str ++ [.str "later"]))) := (Kp.ex eU1).trans (Kp.upd gv1)
      have keep2 : ∀ b o, b ≠ gv → U b = some o → (upd V1 gv (.lst (ps.map V.str ++ [.str "later"]))) b = some o := fun b o n h => by rw [upd_ne n]; exact eU1 _ _ h
      generalize upd V1 gv (.lst (ps.map V.str ++ [.str "later"])) = V2 at F2 S2 k2 keep2
      have mo2 := keep2 _ _ gvo.2.2.symm moU
      have hd2 := keep2 _ _ gv_hd hdU
      have as_gv : ∀ b ∈ as', b ≠ gv := fun b hb z => by
        obtain ⟨i, hi, hbi⟩ := List.getElem_of_mem hb
        have hi2 : i < rows'.length := by rw [← Paired.length hrw']; exact hi
        have q := en _ _ (paired_get hrw' hi hi2).2
        rw [hbi, z, hgv] at q
        cases q
      refine q_appL (l := hd) (xs := as'.map V.ref) hd2 (ev_var rfl) (el_lst (ea_cons ev_c ea_nil) (by show 1 ≤ 100000; decide)) (by rw [List.length_map, Paired.length hrw']; omega) (fun nw V3 hnw e3' h3' => ?_)
      have nwo : Out st l mo nw := out_new S2 mo2 hnw
      have nwJ : Hj nw = none := F2.back nwo hnw
      have nw_hd : nw ≠ hd := (ne_of_none hd2 hnw).symm
      have hd3 := e3' _ _ hd2
      have hdo := outJ hdJ
      have F4 : Fr st l mo Hj (upd V3 hd (.lst (as'.map V.ref ++ [.ref nw]))) := (F2.trans (Fr.ex e3')).mut hdJ
      have S4' : StAt (upd V3 hd (.lst (as'.map V.ref ++ [.ref nw]))) st l := (S2.same e3').ne_l (xs := []) hdo.1 hdo.2.1
      have k4 : Kp U (upd V3 hd (.lst (as'.map V.ref ++ [.ref nw]))) := (k2.trans (Kp.ex e3')).trans (Kp.upd hd3)
      have mo4 : (upd V3 hd (.lst (as'.map V.ref ++ [.ref nw]))) mo = some (.lst ((ts ++ [t]).map V.ref)) := by rw [upd_ne hdo.2.2.symm]; exact e3' _ _ mo2
      have hd4 : (upd V3 hd (.lst (as'.map V.ref ++ [.ref nw]))) hd = some (.lst ((as' ++ [nw]).map V.ref)) := by rw [upd_same, List.map_append]; rfl
      have bl4 : ∀ b ∈ as' ++ [nw], ∃ ys, (upd V3 hd (.lst (as'.map V.ref ++ [.ref nw]))) b = some (.lst ys) ∧ ys.length ≤ 1000 := fun b hb => by
        rcases List.mem_append.mp hb with hb | hb
        · obtain ⟨i, hi, hbi⟩ := List.getElem_of_mem hb
          have hi2 : i < rows'.length := by rw [← Paired.length hrw']; exact hi
          have q := paired_get rU hi hi2
          rw [hbi] at q
          refine ⟨_, by rw [upd_ne (as_hd b hb)]; exact e3' _ _ (keep2 _ _ (as_gv b hb) q), ?_⟩
          rw [List.length_map]
          exact Nat.le_trans (List.Sublist.length_le (List.sublist_flatten_of_mem (List.getElem_mem hi2))) va.few.2
        · obtain rfl : b = nw := by simpa using hb
          exact ⟨_, by rw [upd_ne nw_hd]; exact h3', by show 1 ≤ 1000; decide⟩
      have blJ : ∀ b ∈ as' ++ [nw], Hj b = none ∧ b ≠ hd := fun b hb => by
        rcases List.mem_append.mp hb with hb | hb
        · exact ⟨newJ b hb, as_hd b hb⟩
        · obtain rfl : b = nw := by simpa using hb
          exact ⟨nwJ, nw_hd⟩
      have nbl : (as' ++ [nw]).length ≤ 1001 := by rw [List.length_append, Paired.length hrw', List.length_singleton]; omega
      generalize upd V3 hd (.lst (as'.map V.ref ++ [.ref nw])) = V4 at F4 S4' k4 mo4 hd4 bl4
      generalize as' ++ [nw] = bl at hd4 bl4 blJ nbl
      refine s_forLn (a := hd) (xs := bl.map V.ref) (ev_var rfl) (SqL.of hd4) (fun j σ' H'' => ∃ v10, σ' = [some (.ref a), some (.ref st), some (.ref pl), some (.ref po), some (.ref mo), some (.int (i : Int)), some (.ref la), some (.ref li), some (.ref hd), some (.ref bf), v10, some (.ref gv), v12] ∧ Fr st l mo Hj H'' ∧ StAt H'' st l ∧ H'' mo = some (.lst ((ts ++ [t]).map V.ref)) ∧ H'' hd = some (.lst (bl.map V.ref)) ∧ (∀ b ∈ bl, ∃ ys, H'' b = some (.lst ys) ∧ ys.length ≤ 1000 + j) ∧ Kp U H'')
        (fun V5 e5 => ⟨_, rfl, F4.trans (Fr.ex e5), S4'.same e5, e5 _ _ mo4, e5 _ _ hd4, fun b hb => ?_, k4.trans (Kp.ex e5)⟩) (fun j σ' H'' _ p => ?_) (fun j y σ' H'' hy p => ?_) (fun σ' H'' p => ?_)
      · obtain ⟨ys, h, n⟩ := bl4 b hb
        exact ⟨ys, e5 _ _ h, n⟩
      · obtain ⟨_, _, _, _, _, h, _⟩ := p
        exact SqL.of h
      · obtain ⟨v10, rfl, Fz, Sz, mz, hz, bz, kz⟩ := p
        have hj : j < bl.length := by
          have := (List.getElem?_eq_some_iff.mp hy).1
          simpa using this
        obtain ⟨b, hb, rfl⟩ := List.mem_map.mp (List.mem_of_getElem? hy)
        obtain ⟨ys, hb1, hb2⟩ := bz b hb
        obtain ⟨bJ, bhd⟩ := blJ b hb
        have bo := outJ bJ
        refine s_app (l := b) (xs := ys) hb1 (ev_var rfl) ev_c (by omega) (fun V6 e6 => ?_)
        refine ⟨_, rfl, (Fz.trans (Fr.ex e6)).mut bJ, (Sz.same e6).ne_l (xs := []) bo.1 bo.2.1, by rw [upd_ne bo.2.2.symm]; exact e6 _ _ mz, by rw [upd_ne bhd.symm]; exact e6 _ _ hz, fun c hc => ?_, (kz.trans (Kp.ex e6)).trans (Kp.upd (e6 _ _ hb1))⟩
        by_cases hcb : c = b
        · subst hcb
          exact ⟨_, upd_same, by simp; omega⟩
        · obtain ⟨zs, hc1, hc2⟩ := bz c hc
          exact ⟨zs, by rw [upd_ne hcb]; exact e6 _ _ hc1, by omega⟩
      · obtain ⟨v10, rfl, Fz, Sz, mz, hz, bz, kz⟩ := p
        refine ⟨_, _, _, _, _, _, _, _, ts ++ [t], rfl, ⟨Sz, Fz _ _ fo.p.1 fo.p.2.1 fo.p.2.2 Bj.p, Fz _ _ fo.o.1 fo.o.2.1 fo.o.2.2 Bj.o, mz, fun u hu => ?_⟩, by simp; omega⟩
        rcases List.mem_append.mp hu with hu | hu
        · exact (Bj.t u hu).fr Fz (Fz.kp Bj.S Bj.m)
        · obtain rfl : u = t := by simpa using hu
          exact ⟨x, li, as, rows, kz _ (.tup [.ref x, .ref li]) (fun _ => nofun) tU, patU.kp kz, ⟨sm, rok, rne⟩, due0.fr Fz⟩
    · obtain ⟨v5, v6, v7, v8, v9, v10, v11, v12, ts, rfl, B, nt⟩ := p
      refine q_forL (a := mo) (xs := ts.map V.ref) (ev_var rfl) (SqL.of B.m) (fun i σ' H' => ∃ v5 v6 v7 v8 v9 v10 v11 v12, σ' = [some (.ref a), some (.ref st), some (.ref pl), some (.ref po), some (.ref mo), v5, v6, v7, v8, v9, v10, v11, v12] ∧ Bun9 K C st l pl po mo ps cs ts H')
        (fun H8 e8 => ⟨_, _, _, _, _, _, _, _, rfl, B.ex fo e8⟩) (fun i σ' H' _ p => ?_) (fun i x σ' H' hx p => ?_) (fun σ' H' p => ?_)
      · obtain ⟨_, _, _, _, _, _, _, _, _, B'⟩ := p
        exact SqL.of B'.m
      · obtain ⟨v5, v6, v7, v8, v9, v10, v11, v12, rfl, B'⟩ := p
        obtain ⟨t, ht, rfl⟩ := List.mem_map.mp (List.mem_of_getElem? hx)
        obtain ⟨y, du, as, bs, h1, pat, ⟨sm, rok, rne⟩, dl⟩ := B'.t t ht
        refine ⟨t, _, rfl, SqT.of h1, rfl, _, _, rfl, _, _, rfl, rfl, ?_⟩
        refine s_when (b := false) (et_not (a := true) (et_B (ev_call (ea_cons (ev_var rfl) (ea_cons (ev_var rfl) (ea_cons (ev_var rfl) ea_nil))) (fun H9 e9 Q q E => ⟨y, pl, du, ps, as, bs, rfl, pat.same e9, sm, rok, rne, pok, e9 _ _ B'.p, dl.ls.ex e9, q⟩)))) (fun hb => absurd hb (by decide)) (fun _ H9 e9 => ⟨_, _, _, _, _, _, _, _, rfl, B'.ex fo e9⟩)
      · exact s_ret ev_c (fun H9 _ => k H9)
end
end My

namespace My
open PySem PySem.Spec PyProof.Rows L2 Evl
/-! ### the facts of the top -/
def FE (K : PySem.W.Frag) (x qual : Str) (st : Stmt) (f : Addr) : Prop := (∃ (oc : Value) (od : Option Addr) (kV doc pm : Value) (an : Option Addr) (cdv ct : Value) (osl : Array (Option Value)),
    K.lookup f = some ⟨oc, od, .func (PySem.W.fnOf x qual (defArgs st) (defBody st) (defScope st) .none kV doc pm an cdv ct), osl⟩ ∧ PySem.W.codeIn K cdv qual = true) ∧ PySem.W.keepIn K (.ref f) = true
theorem FE.of {K : PySem.W.Frag} {x qual : Str} {st : Stmt} {f : Addr} {oc : Value} {od : Option Addr} {kV doc pm : Value} {an : Option Addr} {cdv ct : Value} {osl : Array (Option Value)}
    (l : K.lookup f = some ⟨oc, od, .func (PySem.W.fnOf x qual (defArgs st) (defBody st) (defScope st) .none kV doc pm an cdv ct), osl⟩) (c : PySem.W.codeIn K cdv qual = true) (k : PySem.W.keepIn K (.ref f) = true) : FE K x qual st f := ⟨⟨oc, od, kV, doc, pm, an, cdv, ct, osl, l, c⟩, k⟩
theorem FE.fn {K : PySem.W.Frag} {x qual : Str} {st : Stmt} {f : Addr} (h : FE K x qual st f) : ∃ fd, Fun K x qual st f fd := by
  obtain ⟨⟨oc, od, kV, doc, pm, an, cdv, ct, osl, l, c⟩, k⟩ := h
  exact ⟨_, fun_mk l c k⟩
theorem all_mk {l : PySem.W.OpenLaw} {w : World} {K : PySem.W.Frag} {h : Heap} {mg : Str → Option Value} {fa C f0 f1 f2 f3 f4 f5 f6 f7 f8 f9 f10 f11 f12 f13 f14 f15 f16 fN fB : Addr} {tL tD : Tok} (X : K.In h) (G : h.Ns mainGlobals mg) (hfa : mg "law" = some (.ref fa))
    (aP : PySem.W.nsIn K mainGlobals "Pattern" = some (some (.ref C)))
    (pg : PySem.W.plainGet K C Str.empty = true)
    (hd : PySem.W.hasDictIn K C = true)
    (po : PySem.W.plainOver K C = true)
    (sa : PySem.W.findIn K (.ref C) "__setattr__" = some (some (.builtin "object.__setattr__")))
    (no0 : PySem.W.findIn K (.ref C) "places" = some none)
    (no1 : PySem.W.findIn K (.ref C) "_blocks" = some none)
    (no2 : PySem.W.findIn K (.ref C) "_block_of" = some none)
    (mk : PySem.W.makesIn K C = true)
    (kC : PySem.W.keepIn K (.ref C) = true)
    (iN : PySem.W.findIn K (.ref C) "__init__" = some (some (.ref fN)))
    (tN : PySem.W.isFn K (.ref fN) = true)
    (eN : FE K "__init__" "Pattern.__init__" sPInit fN)
    (iB : PySem.W.findIn K (.ref C) "blocks" = some (some (.ref fB)))
    (tB : PySem.W.isFn K (.ref fB) = true)
    (eB : FE K "blocks" "Pattern.blocks" sPBlocks fB)
    (cL : PySem.W.nsIn K mainGlobals "LETTERS_AND_DIGITS" = some (some (.str "abcdefghijklmnopqrstuvwxyz0123456789" tL)))
    (cV : PySem.W.nsIn K mainGlobals "LONGEST_VALUE" = some (some (.int 20 tD)))
    (a0 : PySem.W.nsIn K mainGlobals "is_value" = some (some (.ref f0)))
    (g0 : FE K "is_value" "is_value" sIsValue f0)
    (a1 : PySem.W.nsIn K mainGlobals "is_constant" = some (some (.ref f1)))
    (g1 : FE K "is_constant" "is_constant" sIsConst f1)
    (a2 : PySem.W.nsIn K mainGlobals "_check_blocks" = some (some (.ref f2)))
    (g2 : FE K "_check_blocks" "_check_blocks" sCheck f2)
    (a3 : PySem.W.nsIn K mainGlobals "_in_order" = some (some (.ref f3)))
    (g3 : FE K "_in_order" "_in_order" sOrder f3)
    (a4 : PySem.W.nsIn K mainGlobals "_law_get_state" = some (some (.ref f4)))
    (g4 : FE K "_law_get_state" "_law_get_state" sState f4)
    (a5 : PySem.W.nsIn K mainGlobals "_law_draw" = some (some (.ref f5)))
    (g5 : FE K "_law_draw" "_law_draw" sDraw f5)
    (a6 : PySem.W.nsIn K mainGlobals "_law_get_words" = some (some (.ref f6)))
    (g6 : FE K "_law_get_words" "_law_get_words" sWords f6)
    (a7 : PySem.W.nsIn K mainGlobals "_law_get_constants" = some (some (.ref f7)))
    (g7 : FE K "_law_get_constants" "_law_get_constants" sConsts f7)
    (a8 : PySem.W.nsIn K mainGlobals "_law_places_drawn" = some (some (.ref f8)))
    (g8 : FE K "_law_places_drawn" "_law_places_drawn" sPlaces f8)
    (a9 : PySem.W.nsIn K mainGlobals "_law_get_labels" = some (some (.ref f9)))
    (g9 : FE K "_law_get_labels" "_law_get_labels" sLabels f9)
    (a10 : PySem.W.nsIn K mainGlobals "_law_get_tags" = some (some (.ref f10)))
    (g10 : FE K "_law_get_tags" "_law_get_tags" sTags f10)
    (a11 : PySem.W.nsIn K mainGlobals "_law_get_lists" = some (some (.ref f11)))
    (g11 : FE K "_law_get_lists" "_law_get_lists" sLists f11)
    (a12 : PySem.W.nsIn K mainGlobals "_law_shuffled" = some (some (.ref f12)))
    (g12 : FE K "_law_shuffled" "_law_shuffled" sShuf f12)
    (a13 : PySem.W.nsIn K mainGlobals "_law_get_handed" = some (some (.ref f13)))
    (g13 : FE K "_law_get_handed" "_law_get_handed" sHand f13)
    (a14 : PySem.W.nsIn K mainGlobals "_law_is_lists" = some (some (.ref f14)))
    (g14 : FE K "_law_is_lists" "_law_is_lists" sIsL f14)
    (a15 : PySem.W.nsIn K mainGlobals "_law_get_right" = some (some (.ref f15)))
    (g15 : FE K "_law_get_right" "_law_get_right" sRight f15)
    (a16 : PySem.W.nsIn K mainGlobals "law" = some (some (.ref f16)))
    (g16 : FE K "law" "law" sLaw f16)
    (z_int : PySem.W.nsIn K mainGlobals "int" = some none)
    (z_abs : PySem.W.nsIn K mainGlobals "abs" = some none)
    (z_range : PySem.W.nsIn K mainGlobals "range" = some none)
    (z_len : PySem.W.nsIn K mainGlobals "len" = some none)
    (z_list : PySem.W.nsIn K mainGlobals "list" = some none)
    (z_all : PySem.W.nsIn K mainGlobals "all" = some none)
    (z_set : PySem.W.nsIn K mainGlobals "set" = some none)
    (z_tuple : PySem.W.nsIn K mainGlobals "tuple" = some none)
    (z_isinstance : PySem.W.nsIn K mainGlobals "isinstance" = some none)
    (z_str : PySem.W.nsIn K mainGlobals "str" = some none)
    : ∃ fd : FuncData, (∀ (s : Shared) (v : Value), BindsTo s fd ⟨[v], []⟩ [("script", v)]) ∧ ∀ base : Heap, K.In base → base.Ns mainGlobals mg → FnOk l.prog w K mg base CX0 6 fa fd ["script"] (spLaw K) := by
  have e := hfa.symm.trans (PySem.W.mg_of X G a16)
  cases e
  obtain ⟨u0, U0⟩ := g0.fn
  obtain ⟨u1, U1⟩ := g1.fn
  obtain ⟨u2, U2⟩ := g2.fn
  obtain ⟨u3, U3⟩ := g3.fn
  obtain ⟨u4, U4⟩ := g4.fn
  obtain ⟨u5, U5⟩ := g5.fn
  obtain ⟨u6, U6⟩ := g6.fn
  obtain ⟨u7, U7⟩ := g7.fn
  obtain ⟨u8, U8⟩ := g8.fn
  obtain ⟨u9, U9⟩ := g9.fn
  obtain ⟨u10, U10⟩ := g10.fn
  obtain ⟨u11, U11⟩ := g11.fn
  obtain ⟨u12, U12⟩ := g12.fn
  obtain ⟨u13, U13⟩ := g13.fn
  obtain ⟨u14, U14⟩ := g14.fn
  obtain ⟨u15, U15⟩ := g15.fn
  obtain ⟨uN, UN⟩ := eN.fn
  obtain ⟨uB, UB⟩ := eB.fn
  have M0 : TM K mg "is_value" ["word"] f0 u0 := ⟨PySem.W.mg_of X G a0, U0.kp, U0.binds (ps := ["word"]) fun _ _ _ _ _ _ us hl => match us, hl with | [_], _ => rfl⟩
  have M1 : TM K mg "is_constant" ["word"] f1 u1 := ⟨PySem.W.mg_of X G a1, U1.kp, U1.binds (ps := ["word"]) fun _ _ _ _ _ _ us hl => match us, hl with | [_], _ => rfl⟩
  have M2 : TM K mg "_check_blocks" ["places", "blocks"] f2 u2 := ⟨PySem.W.mg_of X G a2, U2.kp, U2.binds (ps := ["places", "blocks"]) fun _ _ _ _ _ _ us hl => match us, hl with | [_, _], _ => rfl⟩
  have M3 : TM K mg "_in_order" ["places", "blocks"] f3 u3 := ⟨PySem.W.mg_of X G a3, U3.kp, U3.binds (ps := ["places", "blocks"]) fun _ _ _ _ _ _ us hl => match us, hl with | [_, _], _ => rfl⟩
  have M4 : TM K mg "_law_get_state" ["script"] f4 u4 := ⟨PySem.W.mg_of X G a4, U4.kp, U4.binds (ps := ["script"]) fun _ _ _ _ _ _ us hl => match us, hl with | [_], _ => rfl⟩
  have M5 : TM K mg "_law_draw" ["st", "limit"] f5 u5 := ⟨PySem.W.mg_of X G a5, U5.kp, U5.binds (ps := ["st", "limit"]) fun _ _ _ _ _ _ us hl => match us, hl with | [_, _], _ => rfl⟩
  have M6 : TM K mg "_law_get_words" ["st", "most", "count"] f6 u6 := ⟨PySem.W.mg_of X G a6, U6.kp, U6.binds (ps := ["st", "most", "count"]) fun _ _ _ _ _ _ us hl => match us, hl with | [_, _, _], _ => rfl⟩
  have M7 : TM K mg "_law_get_constants" ["st", "count"] f7 u7 := ⟨PySem.W.mg_of X G a7, U7.kp, U7.binds (ps := ["st", "count"]) fun _ _ _ _ _ _ us hl => match us, hl with | [_, _], _ => rfl⟩
  have M8 : TM K mg "_law_places_drawn" ["state", "most"] f8 u8 := ⟨PySem.W.mg_of X G a8, U8.kp, U8.binds (ps := ["state", "most"]) fun _ _ _ _ _ _ us hl => match us, hl with | [_, _], _ => rfl⟩
  have M9 : TM K mg "_law_get_labels" ["state", "count", "most"] f9 u9 := ⟨PySem.W.mg_of X G a9, U9.kp, U9.binds (ps := ["state", "count", "most"]) fun _ _ _ _ _ _ us hl => match us, hl with | [_, _, _], _ => rfl⟩
  have M10 : TM K mg "_law_get_tags" ["state", "labels", "pool"] f10 u10 := ⟨PySem.W.mg_of X G a10, U10.kp, U10.binds (ps := ["state", "labels", "pool"]) fun _ _ _ _ _ _ us hl => match us, hl with | [_, _, _], _ => rfl⟩
  have M11 : TM K mg "_law_get_lists" ["places", "labels", "tags"] f11 u11 := ⟨PySem.W.mg_of X G a11, U11.kp, U11.binds (ps := ["places", "labels", "tags"]) fun _ _ _ _ _ _ us hl => match us, hl with | [_, _, _], _ => rfl⟩
  have M12 : TM K mg "_law_shuffled" ["state", "things"] f12 u12 := ⟨PySem.W.mg_of X G a12, U12.kp, U12.binds (ps := ["state", "things"]) fun _ _ _ _ _ _ us hl => match us, hl with | [_, _], _ => rfl⟩
  have M13 : TM K mg "_law_get_handed" ["state", "lists"] f13 u13 := ⟨PySem.W.mg_of X G a13, U13.kp, U13.binds (ps := ["state", "lists"]) fun _ _ _ _ _ _ us hl => match us, hl with | [_, _], _ => rfl⟩
  have M14 : TM K mg "_law_is_lists" ["told", "due"] f14 u14 := ⟨PySem.W.mg_of X G a14, U14.kp, U14.binds (ps := ["told", "due"]) fun _ _ _ _ _ _ us hl => match us, hl with | [_, _], _ => rfl⟩
  have M15 : TM K mg "_law_get_right" ["pattern", "places", "due"] f15 u15 := ⟨PySem.W.mg_of X G a15, U15.kp, U15.binds (ps := ["pattern", "places", "due"]) fun _ _ _ _ _ _ us hl => match us, hl with | [_, _, _], _ => rfl⟩
  have bN := UN.binds (ps := ["self", "places", "blocks"]) fun _ _ _ _ _ _ us hl => match us, hl with | [_, _, _], _ => rfl
  have bB := UB.binds (ps := ["self"]) fun _ _ _ _ _ _ us hl => match us, hl with | [_], _ => rfl
  have D : TD mg := ⟨PySem.W.mg_none_of X G z_int, PySem.W.mg_none_of X G z_abs, PySem.W.mg_none_of X G z_range, PySem.W.mg_none_of X G z_len, PySem.W.mg_none_of X G z_list⟩
  have T0 : TT0 mg := ⟨⟨_, PySem.W.mg_of X G cL⟩, ⟨_, PySem.W.mg_of X G cV⟩, PySem.W.mg_none_of X G z_len, PySem.W.mg_none_of X G z_all, PySem.W.mg_none_of X G z_isinstance, PySem.W.mg_none_of X G z_str⟩
  have TC : TC0 mg := ⟨PySem.W.mg_none_of X G z_set, PySem.W.mg_none_of X G z_len⟩
  have TO : TO0 mg := ⟨PySem.W.mg_none_of X G z_tuple⟩
  have TP : TP0 K C := ⟨⟨pg, hd, po, sa⟩, no0, no1, no2⟩
  have T : TLaw mg C := ⟨PySem.W.mg_none_of X G z_range, PySem.W.mg_none_of X G z_len, PySem.W.mg_none_of X G z_list, PySem.W.mg_of X G aP⟩
  have TB : TB0 mg := ⟨PySem.W.mg_none_of X G z_list, PySem.W.mg_none_of X G z_isinstance, PySem.W.mg_none_of X G z_tuple⟩
  obtain ⟨⟨oc, od, kV, doc, pm, an, cdv, ct, osl, lk, ck⟩, kp⟩ := g16
  refine ⟨PySem.W.fnOf "law" "law" (defArgs sLaw) (defBody sLaw) (defScope sLaw) .none kV doc pm an cdv ct, fun s v => .of_eq rfl, fun base _ _ => ?_⟩
  have G0 := ok_isval (P := l.prog) (w := w) (base := base) U0 T0
  have G1 := ok_iscon (P := l.prog) (w := w) (base := base) U1 T0 G0 M0.m M0.k M0.b
  have G2 := ok_check (P := l.prog) (w := w) (base := base) U2 TC G1 M1.m M1.k M1.b
  have G3 := ok_order (P := l.prog) (w := w) (base := base) U3 TO
  have G4 := ok_state (P := l.prog) (w := w) (base := base) U4 D
  have G5 := ok_draw (P := l.prog) (w := w) (base := base) U5 D
  have G6 := ok_words (P := l.prog) (w := w) (base := base) U6 D G5 M5.m M5.k M5.b
  have G7 := ok_consts (P := l.prog) (w := w) (base := base) U7 G6 M6.m M6.k M6.b
  have G8 := ok_places (P := l.prog) (w := w) (base := base) U8 D G6 M6.m M6.k M6.b G5 M5.m M5.k M5.b
  have G9 := ok_labels (P := l.prog) (w := w) (base := base) U9 D G5 M5.m M5.k M5.b
  have G10 := ok_tags (P := l.prog) (w := w) (base := base) U10 D G5 M5.m M5.k M5.b
  have G11 := ok_lists (P := l.prog) (w := w) (base := base) U11 D
  have G12 := ok_shuf (P := l.prog) (w := w) (base := base) U12 D G5 M5.m M5.k M5.b
  have G13 := ok_hand (P := l.prog) (w := w) (base := base) U13 D G5 M5.m M5.k M5.b G12 M12.m M12.k M12.b
  have GN := ok_pinit (P := l.prog) (w := w) (base := base) UN TO TP G2 M2.m M2.k M2.b G3 M3.m M3.k M3.b
  have GB := ok_pblocks (P := l.prog) (w := w) (base := base) UB TP TB
  have G14 := ok_isl (P := l.prog) (w := w) (base := base) U14 TB
  have G15 := ok_right (P := l.prog) (w := w) (base := base) U15 TP TB ⟨iB, tB, UB.kp⟩ GB bB G14 M14.m M14.k M14.b
  exact ok_law (fun_mk lk ck kp) T G4 M4 G5 M5 G8 M8 G7 M7 G9 M9 G10 M10 G11 M11 G13 M13 ⟨mk, iN, tN, kC⟩ GN bN G15 M15

theorem walk {l : PySem.W.OpenLaw} {q : Program} {loose : List Str} {XP : (Str → Option Value) → Heap → Prop} {YP : World → Heap → Prop} {d : DefRec} {K : Params → PySem.W.Frag} (hn : l.most = some 63) (hdf : d.params.defaults = [])
    (hY : ∀ (w : World) (h : Heap), YP w h → (K w.params).In h)
    (F : ∀ (w : World) (mg : Str → Option Value) (fa : Addr) (h : Heap), (K w.params).In h → h.Ns mainGlobals mg → mg d.name = some (.ref fa) →
      ∃ fd : FuncData, (∀ (s : Shared) (u : Value), BindsTo s fd ⟨[u], []⟩ [("script", u)]) ∧ ∀ base : Heap, (K w.params).In base → base.Ns mainGlobals mg → FnOk l.prog w (K w.params) mg base CX0 6 fa fd ["script"] (spLaw (K w.params))) :
    PySem.W.WalkO q loose XP YP l.row.toRowW d [] (fun f vs => PySem.call f vs) :=
  L2.walk_of (n := 63) (k := 6) (x := "script") (CX := fun _ => CX0) (sp := fun w => spLaw (K w.params)) hn (by decide) hdf ⟨rfl, by decide, by decide⟩ hY F (fun _ _ a ns hl _ hS => ⟨a, ns, rfl, hS, hl, fun _ => rfl⟩) fun _ _ _ _ _ z => z
end My


open PySem PySem.W PyProof.Rows in
set_option maxRecDepth 100000 in
set_option maxHeartbeats 0 in
theorem PySem.Challenge.cw_ownersagree_k09_patterns_made_holds : PySem.Challenge.rw_ownersagree_k09_patterns_made.Holds := by
  w_on; o_law; k_head; (case hw => w_witness2)
  k_fill
  refine My.walk (l := PySem.Challenge.rw_ownersagree_k09_patterns_made) rfl rfl (fun w h Y => PySem.W.kIn_of Y) ?F
  case F =>
    intro w mg fa h KX G hmg
    refine' My.all_mk KX G hmg ?haP ?hpg ?hhd ?hpo ?hsa ?hno0 ?hno1 ?hno2 ?hmk ?hkC ?hiN ?htN ?heN ?hiB ?htB ?heB ?hcL ?hcV ?ha0 ?hg0 ?ha1 ?hg1 ?ha2 ?hg2 ?ha3 ?hg3 ?ha4 ?hg4 ?ha5 ?hg5 ?ha6 ?hg6 ?ha7 ?hg7 ?ha8 ?hg8 ?ha9 ?hg9 ?ha10 ?hg10 ?ha11 ?hg11 ?ha12 ?hg12 ?ha13 ?hg13 ?ha14 ?hg14 ?ha15 ?hg15 ?ha16 ?hg16 ?hz_int ?hz_abs ?hz_range ?hz_len ?hz_list ?hz_all ?hz_set ?hz_tuple ?hz_isinstance ?hz_str
    (case haP => k_is)
    (case hpg => k_is)
    (case hhd => k_is)
    (case hpo => k_is)
    (case hsa => k_is)
    (case hno0 => k_is)
    (case hno1 => k_is)
    (case hno2 => k_is)
    (case hmk => k_is)
    (case hkC => k_is)
    (case hiN => k_is)
    (case htN => k_is)
    (case heN => refine' My.FE.of ?l ?c ?k; (case l => k_is); (case c => k_is); (case k => k_is))
    (case hiB => k_is)
    (case htB => k_is)
    (case heB => refine' My.FE.of ?l ?c ?k; (case l => k_is); (case c => k_is); (case k => k_is))
    (case hcL => k_is)
    (case hcV => k_is)
    (case ha0 => k_is)
    (case hg0 => refine' My.FE.of ?l ?c ?k; (case l => k_is); (case c => k_is); (case k => k_is))
    (case ha1 => k_is)
    (case hg1 => refine' My.FE.of ?l ?c ?k; (case l => k_is); (case c => k_is); (case k => k_is))
    (case ha2 => k_is)
    (case hg2 => refine' My.FE.of ?l ?c ?k; (case l => k_is); (case c => k_is); (case k => k_is))
    (case ha3 => k_is)
    (case hg3 => refine' My.FE.of ?l ?c ?k; (case l => k_is); (case c => k_is); (case k => k_is))
    (case ha4 => k_is)
    (case hg4 => refine' My.FE.of ?l ?c ?k; (case l => k_is); (case c => k_is); (case k => k_is))
    (case ha5 => k_is)
    (case hg5 => refine' My.FE.of ?l ?c ?k; (case l => k_is); (case c => k_is); (case k => k_is))
    (case ha6 => k_is)
    (case hg6 => refine' My.FE.of ?l ?c ?k; (case l => k_is); (case c => k_is); (case k => k_is))
    (case ha7 => k_is)
    (case hg7 => refine' My.FE.of ?l ?c ?k; (case l => k_is); (case c => k_is); (case k => k_is))
    (case ha8 => k_is)
    (case hg8 => refine' My.FE.of ?l ?c ?k; (case l => k_is); (case c => k_is); (case k => k_is))
    (case ha9 => k_is)
    (case hg9 => refine' My.FE.of ?l ?c ?k; (case l => k_is); (case c => k_is); (case k => k_is))
    (case ha10 => k_is)
    (case hg10 => refine' My.FE.of ?l ?c ?k; (case l => k_is); (case c => k_is); (case k => k_is))
    (case ha11 => k_is)
    (case hg11 => refine' My.FE.of ?l ?c ?k; (case l => k_is); (case c => k_is); (case k => k_is))
    (case ha12 => k_is)
    (case hg12 => refine' My.FE.of ?l ?c ?k; (case l => k_is); (case c => k_is); (case k => k_is))
    (case ha13 => k_is)
    (case hg13 => refine' My.FE.of ?l ?c ?k; (case l => k_is); (case c => k_is); (case k => k_is))
    (case ha14 => k_is)
    (case hg14 => refine' My.FE.of ?l ?c ?k; (case l => k_is); (case c => k_is); (case k => k_is))
    (case ha15 => k_is)
    (case hg15 => refine' My.FE.of ?l ?c ?k; (case l => k_is); (case c => k_is); (case k => k_is))
    (case ha16 => k_is)
    (case hg16 => refine' My.FE.of ?l ?c ?k; (case l => k_is); (case c => k_is); (case k => k_is))
    (case hz_int => k_is)
    (case hz_abs => k_is)
    (case hz_range => k_is)
    (case hz_len => k_is)
    (case hz_list => k_is)
    (case hz_all => k_is)
    (case hz_set => k_is)
    (case hz_tuple => k_is)
    (case hz_isinstance => k_is)
    (case hz_str => k_is)

