import PyProof.Rows.All
import Wide.All
import OpenK.AllK
import Wide.FinOn
import HandS.ForMost
import HandS.Wide
import HandS.IsInst
import HandS.NoneIn
import HandS.EndBits
import HandS.FStr
import HandS.ClsMeth
import HandS.ExcField
import HandS.ExcInit
import HandS.ForExc
import HandS.EndTab
import HandS.Lambda
import HandS.AnyAll
import HandS.RevRange
import HandS.SortInts
import HandS.More
import HandS.Walk
import HandS.Flow
import HandS.Zip
import KE.GoesEnum
import PySem.Challenge.RW_pailchain_k32_whole_shares_draw_together
set_option Elab.async false
set_option linter.all false
set_option maxRecDepth 100000
set_option maxHeartbeats 4000000
namespace My
open PySem PySem.Spec PyProof.Rows L2
/-! ### a def of the text with its promise, ready to be called -/
structure Fn (P : Program) (w : World) (K : PySem.W.Frag) (mg : Str → Option Value) (base : Heap) (k : Nat) (x : Str) (ps : List Str) (sp : Sp) : Prop where
  ex : ∃ f fd, FnOk P w K mg base CX0 k f fd ps sp ∧ mg x = some (.ref f) ∧ PySem.W.keepIn K (.ref f) = true ∧ Binds K fd ps []
theorem Fn.mk' {P : Program} {w : World} {K : PySem.W.Frag} {mg : Str → Option Value} {base : Heap} {k : Nat} {x : Str} {ps : List Str} {sp : Sp} {f : Addr} {fd : FuncData}
    (h : FnOk P w K mg base CX0 k f fd ps sp) (g : mg x = some (.ref f)) (kp : PySem.W.keepIn K (.ref f) = true) (b : Binds K fd ps []) : Fn P w K mg base k x ps sp := ⟨⟨f, fd, h, g, kp, b⟩⟩
section
variable {X : Cx} {k : Nat} {x : Str} {ps : List Str} {sp : Sp} {e : Expr} {es : List Expr} {t : TA} {p pos : Pos}
theorem pe_fn (F : Fn X.prog X.w X.K X.mg X.base k x ps sp) (hr : Room k X.A) (ha : PA X (e :: es) t) (hg : Gl X x := by rfl) (hdb : (x == ("__debug__" : Str)) = false := by decide)
    (he : starEach (e :: es) X.env = (false, eval e X.env) :: starEach es X.env := by rfl) (hpl : (backTo pos (starEach es X.env)).any (·.1) = false := by rfl) :
    PE X (.Call (.Name x p) (e :: es) [] pos) (tCall sp [] E0 t) := by
  obtain ⟨f, fd, h, g, kp, b⟩ := F.ex
  exact pe_call h hr hg g kp b .nil pass0 ha hdb he hpl
theorem pe_fn0 (F : Fn X.prog X.w X.K X.mg X.base k x ps sp) (hr : Room k X.A) (hg : Gl X x := by rfl) (hdb : (x == ("__debug__" : Str)) = false := by decide) :
    PE X (.Call (.Name x p) [] [] pos) (tCall sp [] E0 tNil) := by
  obtain ⟨f, fd, h, g, kp, b⟩ := F.ex
  exact pe_call0 h hr hg g kp b .nil pass0 hdb
end
/-! ### heaps: what a def leaves; the tables of code objects may grow -/
/-- the tables that grow: a table of generator expressions (none), of lambdas (their name) -/
abbrev Tb := List (Addr × Option Str)
def OkP (H : Hp) (p : Addr × Option Str) : Prop := match p.2 with
  | none => GxR.TabG H p.1
  | some q => LamX.TabS H p.1 q
def Ok (T : Tb) (H : Hp) : Prop := ∀ p ∈ T, OkP H p
def nTbl : HO → Prop
  | .tbl _ => False
  | _ => True
structure Sm (T : Tb) (H H' : Hp) : Prop where
  keep : ∀ b o, H b = some o → nTbl o → H' b = some o
  ok : Ok T H → Ok T H'
  free : ∀ l, H' l = none → H l = none
theorem nTbl_ne {o : HO} (h : nTbl o) (ps : Array Value) : o ≠ .tbl ps := fun e => by rw [e] at h; exact h
theorem Sm.k {T : Tb} {H H' : Hp} (s : Sm T H H') {b : Addr} {o : HO} (e : H b = some o) (n : nTbl o := by trivial) : H' b = some o := s.keep b o e n
theorem Sm.refl {T : Tb} {H : Hp} : Sm T H H := ⟨fun _ _ e _ => e, fun h => h, fun _ h => h⟩
theorem Sm.trans {T : Tb} {H H1 H2 : Hp} (a : Sm T H H1) (b : Sm T H1 H2) : Sm T H H2 := ⟨fun c o e n => b.keep c o (a.keep c o e n) n, fun h => b.ok (a.ok h), fun l h => a.free l (b.free l h)⟩
theorem Sm.seq {T : Tb} {K : PySem.W.Frag} {H H' : Hp} {a : Addr} {xs : List V} (e : Sm T H H') (h : SqL K H a xs) : SqL K H' a xs := by
  rcases h with (h | ⟨o, h⟩) | h
  · exact .inl (.inl (e.keep _ _ h trivial))
  · exact .inl (.inr ⟨o, e.keep _ _ h trivial⟩)
  · exact .inr h
theorem same_tup {T : Tb} {K : PySem.W.Frag} {H H' : Hp} {a : Addr} {xs : List V} (e : Sm T H H') (h : SqT K H a xs) : SqT K H' a xs := by
  rcases h with (h | ⟨o, h⟩) | h
  · exact .inl (.inl (e.keep _ _ h trivial))
  · exact .inl (.inr ⟨o, e.keep _ _ h trivial⟩)
  · exact .inr h
theorem Sm.lst {T : Tb} {H H' : Hp} {a : Addr} {xs : List V} (e : Sm T H H') (h : H a = some (.lst xs)) : H' a = some (.lst xs) := e.keep _ _ h trivial
theorem okP_ext {H H' : Hp} {p : Addr × Option Str} (h : OkP H p) (e : ∀ b o, H b = some o → H' b = some o) : OkP H' p := by
  obtain ⟨P, q⟩ := p
  cases q with
  | none =>
    obtain ⟨ps, h1, h2⟩ := (show GxR.TabG H P from h)
    exact ⟨ps, e _ _ h1, h2⟩
  | some q => exact LamX.TabS.ext (show LamX.TabS H P q from h) e
/-- the one list at p is changed -/
theorem okP_mut {H : Hp} {p : Addr × Option Str} {a : Addr} {o : HO} {xs : List V} (h : OkP H p) (ha : H a = some (.lst xs)) : OkP (upd H a o) p := by
  have k : ∀ b u, H b = some u → u ≠ .lst xs → upd H a o b = some u := fun b u e n => by
    rw [upd_ne (fun z => n (by rw [z, ha] at e; exact (Option.some.inj e).symm))]
    exact e
  obtain ⟨P, q⟩ := p
  cases q with
  | none =>
    obtain ⟨ps, h1, h2⟩ := (show GxR.TabG H P from h)
    exact ⟨ps, k _ _ h1 (fun z => by cases z), h2⟩
  | some q =>
    obtain ⟨ps, h1, h2, h3⟩ := (show LamX.TabS H P q from h)
    refine ⟨ps, k _ _ h1 (fun z => by cases z), h2, fun pos cv hc => ?_⟩
    obtain ⟨c, e1, e2⟩ := h3 pos cv hc
    exact ⟨c, e1, k _ _ e2 (fun z => by unfold LamX.CodeO at z; cases z)⟩
theorem same_upd {T : Tb} {H : Hp} {p : Addr} {o : HO} (h : H p = none) : Sm T H (upd H p o) := by
  have k : ∀ b x, H b = some x → upd H p o b = some x := fun b x e => by
    rw [upd_ne (ne_of_none e h)]
    exact e
  refine ⟨fun b x e _ => k b x e, fun h q hq => okP_ext (h q hq) k, fun l hl => ?_⟩
  cases q : H l with
  | none => rfl
  | some x => rw [k _ _ q] at hl; cases hl
theorem same_mut {T : Tb} {H H' : Hp} {p : Addr} {o : HO} {xs : List V} (e : Sm T H H') (h : H p = none) (hp : H' p = some (.lst xs)) : Sm T H (upd H' p o) := by
  refine ⟨fun b x q n => ?_, fun hk q hq => okP_mut (e.ok hk q hq) hp, fun l hl => ?_⟩
  · rw [upd_ne (ne_of_none q h)]
    exact e.keep b x q n
  · by_cases z : l = p
    · rw [z]; exact h
    · rw [upd_ne z] at hl
      exact e.free l hl
theorem seq_k {t u : TS} {D : Ends} {σ : L2.St} {H : Hp} (P : L2.St → Hp → Prop) (hu : ∀ σ' H', P σ' H' → u D σ' H') (h : (∀ σ' H', P σ' H' → u D σ' H') → tSeq t u D σ H) : tSeq t u D σ H := h hu
theorem seq_if {c : TT} {t1 t2 u : TS} {D : Ends} {σ : L2.St} {H : Hp} (P : L2.St → Hp → Prop) (hu : ∀ σ' H', P σ' H' → u D σ' H') (h : (∀ σ' H', P σ' H' → u D σ' H') → tSeq (tIfS c t1 t2) u D σ H) : tSeq (tIfS c t1 t2) u D σ H := h hu
theorem seq_as {te : TE} {g : TG} {u : TS} {D : Ends} {σ : L2.St} {H : Hp} (P : L2.St → Hp → Prop) (hu : ∀ σ' H', P σ' H' → u D σ' H') (h : (∀ σ' H', P σ' H' → u D σ' H') → tSeq (tAsg te g) u D σ H) : tSeq (tAsg te g) u D σ H := h hu
theorem sz {n : Nat} (h : n ≤ 10000) : n ≤ sizeLine := Nat.le_trans h (by decide)
theorem szl {n : Nat} (h : n < 10000) : n < sizeLine := Nat.lt_of_lt_of_le h (by decide)
/-! ### data -/
mutual
theorem dp_same {T : Tb} {K : PySem.W.Frag} {H H' : Hp} (e : Sm T H H') : ∀ (d : PyData) (v : V), Dp K H v d → Dp K H' v d
  | .none, _, h => by cases h; exact .non
  | .bool b, _, h => by cases h; exact .bl b
  | .int i, _, h => by cases h; exact .int i
  | .str x, _, h => by cases h; exact .str x
  | .list ds, _, h => by
    cases h with
    | lst hs ha => exact .lst (e.seq hs) (dpa_same e ds _ ha)
  | .tuple ds, _, h => by
    cases h with
    | tup hs ha => exact .tup (same_tup e hs) (dpa_same e ds _ ha)
  | .dict _, _, h => by cases h
theorem dpa_same {T : Tb} {K : PySem.W.Frag} {H H' : Hp} (e : Sm T H H') : ∀ (ds : List PyData) (vs : List V), DpAll K H vs ds → DpAll K H' vs ds
  | [], _, h => by cases h; exact .nil
  | d :: ds, _, h => by
    cases h with
    | cons h1 h2 => exact .cons (dp_same e d _ h1) (dpa_same e ds _ h2)
end
theorem dpa_len {K : PySem.W.Frag} {H : Hp} : ∀ {vs : List V} {ds : List PyData}, DpAll K H vs ds → vs.length = ds.length
  | _, [], h => by cases h; rfl
  | _, _ :: _, h => by
    cases h with
    | cons _ h2 => exact congrArg (· + 1) (dpa_len h2)
theorem dpa_get {K : PySem.W.Frag} {H : Hp} : ∀ {vs : List V} {ds : List PyData}, DpAll K H vs ds → ∀ {i : Nat} {d : PyData}, ds[i]? = some d → ∃ v, vs[i]? = some v ∧ Dp K H v d
  | _, [], h, i, d, e => by simp at e
  | _, d0 :: ds, h, 0, d, e => by
    cases h with
    | cons h1 h2 =>
      obtain rfl : d0 = d := Option.some.inj e
      exact ⟨_, rfl, h1⟩
  | _, d0 :: ds, h, i + 1, d, e => by
    cases h with
    | cons h1 h2 => exact dpa_get h2 (i := i) e
def depOk : Nat → PyData → Bool
  | _, .none => true
  | _, .bool _ => true
  | _, .int _ => true
  | _, .str _ => true
  | n + 1, .list ds => decide (ds.length ≤ 9000) && ds.all (depOk n)
  | n + 1, .tuple ds => decide (ds.length ≤ 9000) && ds.all (depOk n)
  | _, _ => false
def tyD : PyData → String
  | .none => "NoneType"
  | .bool _ => "bool"
  | .int _ => "int"
  | .str _ => "str"
  | .list _ => "list"
  | .tuple _ => "tuple"
  | .dict _ => "dict"
theorem tyx_of {K : PySem.W.Frag} {H : Hp} : ∀ {d : PyData} {v : V}, Dp K H v d → TyX K H v (.type (tyD d))
  | _, _, .non => .base .non
  | _, _, .bl b => .base (.bl b)
  | _, _, .int i => .base (.int i)
  | _, _, .str x => .base (.str x)
  | _, _, .lst (.inl (.inl h)) _ => .base (.lst h)
  | _, _, .lst (.inl (.inr ⟨_, h⟩)) _ => .base (.frz h)
  | _, _, .lst (.inr ⟨_, _, _, h, c, _⟩) _ => .kList h c
  | _, _, .tup (.inl (.inl h)) _ => .base (.tup h)
  | _, _, .tup (.inl (.inr ⟨_, h⟩)) _ => .fTuple h
  | _, _, .tup (.inr ⟨_, _, _, h, c, _⟩) _ => .kTuple h c
theorem rep_all (n : Nat) : (List.replicate n true).all id = true := by
  induction n with
  | zero => rfl
  | succ n ih => rw [List.replicate_succ, List.all_cons, ih]; rfl
def rLen (K : PySem.W.Frag) : List V → Hp → VK → Prop := fun xs H Q => ∃ p ys, xs = [.ref p] ∧ (SqL K H p ys ∨ SqT K H p ys) ∧ Q (.int ys.length) H
def rLst (K : PySem.W.Frag) : List V → Hp → VK → Prop := fun xs H Q => ∃ p ys, xs = [.ref p] ∧ (SqL K H p ys ∨ SqT K H p ys) ∧ ∀ (l : Addr), H l = none → Q (.ref l) (upd H l (.lst ys))
theorem call_list1 {X : Cx} : CallR X (.type "list") (rLst X.K) := call_list_of
theorem call_len1 {X : Cx} : CallR X (.builtin "len") (rLen X.K) := call_len_seq
theorem kb_bool_bool : kitB "bool" "bool" = some true := by decide +kernel
theorem kb_bool_int : kitB "bool" "int" = some true := by decide +kernel
theorem kb_bool_str : kitB "bool" "str" = some false := by decide +kernel
theorem kb_bool_list : kitB "bool" "list" = some false := by decide +kernel
theorem kb_bool_tuple : kitB "bool" "tuple" = some false := by decide +kernel
theorem kb_int_bool : kitB "int" "bool" = some false := by decide +kernel
theorem kb_int_int : kitB "int" "int" = some true := by decide +kernel
theorem kb_int_str : kitB "int" "str" = some false := by decide +kernel
theorem kb_int_list : kitB "int" "list" = some false := by decide +kernel
theorem kb_int_tuple : kitB "int" "tuple" = some false := by decide +kernel
theorem kb_str_bool : kitB "str" "bool" = some false := by decide +kernel
theorem kb_str_int : kitB "str" "int" = some false := by decide +kernel
theorem kb_str_str : kitB "str" "str" = some true := by decide +kernel
theorem kb_str_list : kitB "str" "list" = some false := by decide +kernel
theorem kb_str_tuple : kitB "str" "tuple" = some false := by decide +kernel
theorem kb_list_bool : kitB "list" "bool" = some false := by decide +kernel
theorem kb_list_int : kitB "list" "int" = some false := by decide +kernel
theorem kb_list_str : kitB "list" "str" = some false := by decide +kernel
theorem kb_list_list : kitB "list" "list" = some true := by decide +kernel
theorem kb_list_tuple : kitB "list" "tuple" = some false := by decide +kernel
theorem kb_tuple_bool : kitB "tuple" "bool" = some false := by decide +kernel
theorem kb_tuple_int : kitB "tuple" "int" = some false := by decide +kernel
theorem kb_tuple_str : kitB "tuple" "str" = some false := by decide +kernel
theorem kb_tuple_list : kitB "tuple" "list" = some false := by decide +kernel
theorem kb_tuple_tuple : kitB "tuple" "tuple" = some true := by decide +kernel
theorem kb_NoneType_bool : kitB "NoneType" "bool" = some false := by decide +kernel
theorem kb_NoneType_int : kitB "NoneType" "int" = some false := by decide +kernel
theorem kb_NoneType_str : kitB "NoneType" "str" = some false := by decide +kernel
theorem kb_NoneType_list : kitB "NoneType" "list" = some false := by decide +kernel
theorem kb_NoneType_tuple : kitB "NoneType" "tuple" = some false := by decide +kernel
theorem tyes_t {σ : L2.St} {H : Hp} {Q : Bool → Hp → Prop} (h : Q true H) : tYes σ H Q := h
theorem tyes_i {σ : L2.St} {H : Hp} {A B : Hp → Prop} (h : A H) : tYes σ H (fun b H3 => if b = true then A H3 else B H3) := iteT (A := A H) (B := B H) h
/-! ### draws -/
def Drawn : List Int → List Int → Prop
  | [], [] => True
  | d :: ds, q :: qs => (0 ≤ d ∧ d < q) ∧ Drawn ds qs
  | _, _ => False
theorem Drawn.cons {ds qs : List Int} {q : Int} (h : Drawn ds (q :: qs)) : ∃ d r, ds = d :: r ∧ 0 ≤ d ∧ d < q ∧ Drawn r qs := by
  cases ds with
  | nil => exact h.elim
  | cons d r => exact ⟨d, r, rfl, h.1.1, h.1.2, h.2⟩
theorem Drawn.nil {ds : List Int} (h : Drawn ds []) : ds = [] := by
  cases ds with
  | nil => rfl
  | cons d r => exact h.elim
theorem Drawn.snoc : ∀ {ds qs : List Int} {d q : Int}, Drawn ds qs → 0 ≤ d → d < q → Drawn (ds ++ [d]) (qs ++ [q])
  | [], [], _, _, _, h0, h1 => ⟨⟨h0, h1⟩, trivial⟩
  | [], _ :: _, _, _, h, _, _ => h.elim
  | _ :: _, [], _, _, h, _, _ => h.elim
  | _ :: _, _ :: _, _, _, h, h0, h1 => ⟨h.1, Drawn.snoc h.2 h0 h1⟩
theorem Drawn.length : ∀ {ds qs : List Int}, Drawn ds qs → ds.length = qs.length
  | [], [], _ => rfl
  | [], _ :: _, h => h.elim
  | _ :: _, [], h => h.elim
  | _ :: _, _ :: _, h => congrArg (· + 1) (Drawn.length h.2)
/-! ### amounts -/
abbrev Am := Int × Int
def tv (x : Am) : List V := [.int x.1, .int x.2]
def amt (n d : Int) : Am := ((if d < 0 then -n else n) / (Nat.gcd n.natAbs d.natAbs : Nat), (d.natAbs : Int) / (Nat.gcd n.natAbs d.natAbs : Nat))
theorem amD_dp {K : PySem.W.Frag} {H : Hp} {p : Addr} {x : Am} (h : SqT K H p (tv x)) : Dp K H (.ref p) (.tuple [.int x.1, .int x.2]) := .tup h (.cons (.int _) (.cons (.int _) .nil))
abbrev amD (x : Am) : PyData := .tuple [.int x.1, .int x.2]
theorem tup_dp {K : PySem.W.Frag} {H : Hp} {p : Addr} {x : Am} (h : H p = some (.tup (tv x))) : Dp K H (.ref p) (amD x) := amD_dp (SqT.of h)
theorem pd_at {K : PySem.W.Frag} {H : Hp} {v : V} {x : Am} (h : Dp K H v (amD x)) : ∃ b, v = .ref b ∧ SqT K H b (tv x) := by
  cases h with
  | tup hs ha =>
    cases ha with
    | cons h1 h2 =>
      cases h2 with
      | cons h3 h4 =>
        cases h4
        cases h1
        cases h3
        exact ⟨_, rfl, hs⟩
theorem dpa_app {K : PySem.W.Frag} {H : Hp} : ∀ {vs : List V} {ds : List PyData} {ws : List V} {es : List PyData}, DpAll K H vs ds → DpAll K H ws es → DpAll K H (vs ++ ws) (ds ++ es)
  | _, [], _, _, h, g => by cases h; exact g
  | _, _ :: _, _, _, h, g => by
    cases h with
    | cons h1 h2 => exact .cons h1 (dpa_app h2 g)
theorem dpa_take {K : PySem.W.Frag} {H : Hp} : ∀ {vs : List V} {ds : List PyData} (n : Nat), DpAll K H vs ds → DpAll K H (vs.take n) (ds.take n)
  | _, _, 0, _ => .nil
  | _, [], n + 1, h => by cases h; exact .nil
  | _, _ :: _, n + 1, h => by
    cases h with
    | cons h1 h2 => exact .cons h1 (dpa_take n h2)
theorem dpa_drop {K : PySem.W.Frag} {H : Hp} : ∀ {vs : List V} {ds : List PyData} (n : Nat), DpAll K H vs ds → DpAll K H (vs.drop n) (ds.drop n)
  | _, _, 0, h => h
  | _, [], n + 1, h => by cases h; exact .nil
  | _, _ :: _, n + 1, h => by
    cases h with
    | cons h1 h2 => exact dpa_drop n h2
/-- pairs stay where a list is changed -/
theorem pd_mut {K : PySem.W.Frag} {H : Hp} {v : V} {x : Am} {a : Addr} {o : HO} {xs : List V} (h : Dp K H v (amD x)) (ha : H a = some (.lst xs)) : Dp K (upd H a o) v (amD x) := by
  obtain ⟨b, rfl, hs⟩ := pd_at h
  refine amD_dp ?_
  rcases hs with (hs | ⟨u, hs⟩) | hs
  · exact .inl (.inl (by rw [upd_ne (ne_of hs ha (fun z => by cases z))]; exact hs))
  · exact .inl (.inr ⟨u, by rw [upd_ne (ne_of hs ha (fun z => by cases z))]; exact hs⟩)
  · exact .inr hs
theorem pds_mut {K : PySem.W.Frag} {H : Hp} {a : Addr} {o : HO} {xs : List V} (ha : H a = some (.lst xs)) : ∀ {vs : List V} {qs : List Am}, DpAll K H vs (qs.map amD) → DpAll K (upd H a o) vs (qs.map amD)
  | _, [], h => by cases h; exact .nil
  | _, _ :: _, h => by
    cases h with
    | cons h1 h2 => exact .cons (pd_mut h1 ha) (pds_mut ha h2)
theorem cut_take (xs : List V) (k : Nat) {z : Int} (hz : z = (k : Int)) : cutV xs none (some z) = xs.take k := by
  subst hz
  unfold cutV
  rw [HT.sIx_none, HT.sIx_nat, List.drop_zero, Nat.sub_zero]
  by_cases h : k ≤ xs.length
  · rw [Nat.min_eq_left h]
  · rw [Nat.min_eq_right (by omega), List.take_length, List.take_of_length_le (by omega)]
theorem cut_drop (xs : List V) (k : Nat) {z : Int} (hz : z = (k : Int)) : cutV xs (some z) none = xs.drop k := by
  subst hz
  unfold cutV
  rw [HT.sIx_none, HT.sIx_nat]
  by_cases h : k ≤ xs.length
  · rw [Nat.min_eq_left h, List.take_of_length_le (by rw [List.length_drop]; omega)]
  · rw [Nat.min_eq_right (by omega), List.drop_length, List.drop_of_length_le (by omega), List.take_nil]
theorem dpa_rep {K : PySem.W.Frag} {H : Hp} {vs : List V} {qs : List Am} (h : DpAll K H vs (qs.map amD)) : ∀ n, DpAll K H (List.replicate n vs).flatten (((List.replicate n qs).flatten).map amD)
  | 0 => .nil
  | n + 1 => by
    rw [List.replicate_succ, List.replicate_succ, List.flatten_cons, List.flatten_cons, List.map_append]
    exact dpa_app h (dpa_rep h n)
theorem len_rep {α : Type} (l : List α) : ∀ n, ((List.replicate n l).flatten).length = n * l.length
  | 0 => by simp
  | n + 1 => by rw [List.replicate_succ, List.flatten_cons, List.length_append, len_rep l n, Nat.succ_mul, Nat.add_comm]
/-! ### told tuples in a list that grows -/
def noL : Nat → PyData → Bool
  | _, .none => true
  | _, .bool _ => true
  | _, .int _ => true
  | _, .str _ => true
  | n + 1, .tuple ds => ds.all (noL n)
  | _, _ => false
theorem sqT_mut {K : PySem.W.Frag} {H : Hp} {t a : Addr} {o : HO} {xs ys : List V} (hs : SqT K H t ys) (ha : H a = some (.lst xs)) : SqT K (upd H a o) t ys := by
  rcases hs with (hs | ⟨u, hs⟩) | hs
  · exact .inl (.inl (by rw [upd_ne (ne_of hs ha (fun z => by cases z))]; exact hs))
  · exact .inl (.inr ⟨u, by rw [upd_ne (ne_of hs ha (fun z => by cases z))]; exact hs⟩)
  · exact .inr hs
mutual
theorem noL_mut {K : PySem.W.Frag} {H : Hp} {a : Addr} {o : HO} {xs : List V} (ha : H a = some (.lst xs)) : ∀ (n : Nat) (d : PyData) (v : V), noL n d = true → Dp K H v d → Dp K (upd H a o) v d
  | _, .none, _, _, h => by cases h; exact .non
  | _, .bool b, _, _, h => by cases h; exact .bl b
  | _, .int i, _, _, h => by cases h; exact .int i
  | _, .str x, _, _, h => by cases h; exact .str x
  | 0, .tuple _, _, e, _ => by cases e
  | n + 1, .tuple ds, _, e, h => by
    cases h with
    | tup hs hall => exact .tup (sqT_mut hs ha) (noLs_mut ha n ds _ e hall)
  | 0, .list _, _, e, _ => by cases e
  | _ + 1, .list _, _, e, _ => by cases e
  | 0, .dict _, _, e, _ => by cases e
  | _ + 1, .dict _, _, e, _ => by cases e
theorem noLs_mut {K : PySem.W.Frag} {H : Hp} {a : Addr} {o : HO} {xs : List V} (ha : H a = some (.lst xs)) : ∀ (n : Nat) (ds : List PyData) (vs : List V), ds.all (noL n) = true → DpAll K H vs ds → DpAll K (upd H a o) vs ds
  | _, [], _, _, h => by cases h; exact .nil
  | n, d :: ds, _, e, h => by
    cases h with
    | cons h1 h2 =>
      rw [List.all_cons, Bool.and_eq_true] at e
      exact .cons (noL_mut ha n d _ e.1 h1) (noLs_mut ha n ds _ e.2 h2)
end
/-- the list at fo holds ds -/
def Fd (K : PySem.W.Frag) (H : Hp) (fo : Addr) (ds : List PyData) : Prop := ∃ ts, H fo = some (.lst ts) ∧ DpAll K H ts ds
theorem Fd.keep {T : Tb} {K : PySem.W.Frag} {H H' : Hp} {fo : Addr} {ds : List PyData} (h : Fd K H fo ds) (s : Sm T H H') : Fd K H' fo ds := by
  obtain ⟨ts, h1, h2⟩ := h
  exact ⟨ts, s.k h1, dpa_same s _ _ h2⟩
theorem Fd.push {K : PySem.W.Frag} {H : Hp} {fo : Addr} {ds : List PyData} {ts : List V} {d : PyData} {v : V} (h1 : H fo = some (.lst ts)) (h2 : DpAll K H ts ds) (hv : Dp K H v d) (n1 : ds.all (noL 3) = true := by rfl) (n2 : noL 3 d = true := by rfl) :
    Fd K (upd H fo (.lst (ts ++ [v]))) fo (ds ++ [d]) :=
  ⟨ts ++ [v], upd_same, dpa_app (noLs_mut h1 3 ds _ n1 h2) (.cons (noL_mut h1 3 d v n2 hv) .nil)⟩
theorem Fd.dp {K : PySem.W.Frag} {H : Hp} {fo : Addr} {ds : List PyData} (h : Fd K H fo ds) : Dp K H (.ref fo) (.list ds) := by
  obtain ⟨ts, h1, h2⟩ := h
  exact .lst (SqL.of h1) h2
theorem depOk_ams {qs : List Am} (h : qs.length ≤ 9000) : depOk 5 (.list (qs.map amD)) = true := by
  show (decide ((qs.map amD).length ≤ 9000) && (qs.map amD).all (depOk 4)) = true
  rw [List.length_map, decide_eq_true h, Bool.true_and, List.all_map]
  exact List.all_eq_true.mpr fun q _ => rfl

def topS (i : Nat) : Stmt := PySem.Challenge.pw_pailchain_k32_whole_shares_draw_together.main.body.getD i (.Pass ⟨0, 0, 0, 0⟩)
abbrev s_p_common_divisor : Stmt := topS 2
theorem sc_p_common_divisor : FnScope ["one", "other"] ["one", "other"] (defScope s_p_common_divisor) := ⟨rfl, rfl, rfl, by decide +kernel, rfl, by decide +kernel, by decide +kernel⟩
abbrev s_p_amount : Stmt := topS 3
theorem sc_p_amount : FnScope ["num", "den", "shared"] ["num", "den"] (defScope s_p_amount) := ⟨rfl, rfl, rfl, by decide +kernel, rfl, by decide +kernel, by decide +kernel⟩
abbrev s_p_plus : Stmt := topS 4
theorem sc_p_plus : FnScope ["one", "other"] ["one", "other"] (defScope s_p_plus) := ⟨rfl, rfl, rfl, by decide +kernel, rfl, by decide +kernel, by decide +kernel⟩
abbrev s_p_minus : Stmt := topS 5
theorem sc_p_minus : FnScope ["one", "other"] ["one", "other"] (defScope s_p_minus) := ⟨rfl, rfl, rfl, by decide +kernel, rfl, by decide +kernel, by decide +kernel⟩
abbrev s_p_times : Stmt := topS 6
theorem sc_p_times : FnScope ["one", "other"] ["one", "other"] (defScope s_p_times) := ⟨rfl, rfl, rfl, by decide +kernel, rfl, by decide +kernel, by decide +kernel⟩
abbrev s_p_below : Stmt := topS 7
theorem sc_p_below : FnScope ["one", "other"] ["one", "other"] (defScope s_p_below) := ⟨rfl, rfl, rfl, by decide +kernel, rfl, by decide +kernel, by decide +kernel⟩
abbrev s_p_lesser : Stmt := topS 8
theorem sc_p_lesser : FnScope ["one", "other"] ["one", "other"] (defScope s_p_lesser) := ⟨rfl, rfl, rfl, by decide +kernel, rfl, by decide +kernel, by decide +kernel⟩
abbrev s_p_PailError___init__ : Stmt := inClass (topS 10) 0
theorem sc_p_PailError___init__ : FnScope ["self", "word"] ["self", "word"] (defScope s_p_PailError___init__) := ⟨rfl, rfl, rfl, by decide +kernel, rfl, by decide +kernel, by decide +kernel⟩
abbrev s_p_BadPace___init__ : Stmt := inClass (topS 11) 0
theorem sc_p_BadPace___init__ : FnScope ["self"] ["self"] (defScope s_p_BadPace___init__) := ⟨rfl, rfl, rfl, by decide +kernel, rfl, by decide +kernel, by decide +kernel⟩
abbrev s_p_BadCount___init__ : Stmt := inClass (topS 12) 0
theorem sc_p_BadCount___init__ : FnScope ["self"] ["self"] (defScope s_p_BadCount___init__) := ⟨rfl, rfl, rfl, by decide +kernel, rfl, by decide +kernel, by decide +kernel⟩
abbrev s_p_NotRising___init__ : Stmt := inClass (topS 13) 0
theorem sc_p_NotRising___init__ : FnScope ["self"] ["self"] (defScope s_p_NotRising___init__) := ⟨rfl, rfl, rfl, by decide +kernel, rfl, by decide +kernel, by decide +kernel⟩
abbrev s_l_cell : Stmt := topS 35
theorem sc_l_cell : FnScope ["_law_script", "_law_k"] ["_law_script", "_law_k"] (defScope s_l_cell) := ⟨rfl, rfl, rfl, by decide +kernel, rfl, by decide +kernel, by decide +kernel⟩
abbrev s_l_draws : Stmt := topS 36
theorem sc_l_draws : FnScope ["_law_cell_here", "_law_parts", "_law_one", "_law_two", "_law_six", "_law_found", "_law_part"] ["_law_cell_here", "_law_parts"] (defScope s_l_draws) := ⟨rfl, rfl, rfl, by decide +kernel, rfl, by decide +kernel, by decide +kernel⟩
abbrev s_l_split : Stmt := topS 37
theorem sc_l_split : FnScope ["_law_cell_here", "_law_many_here", "_law_found", "_law_big", "_law_k"] ["_law_cell_here", "_law_many_here"] (defScope s_l_split) := ⟨rfl, rfl, rfl, by decide +kernel, rfl, by decide +kernel, by decide +kernel⟩
abbrev s_l_many : Stmt := topS 38
theorem sc_l_many : FnScope ["_law_script", "_law_few"] ["_law_script", "_law_few"] (defScope s_l_many) := ⟨rfl, rfl, rfl, by decide +kernel, rfl, by decide +kernel, by decide +kernel⟩
abbrev s_l_same : Stmt := topS 39
theorem sc_l_same : FnScope ["_law_found", "_law_due", "_law_k"] ["_law_found", "_law_due"] (defScope s_l_same) := ⟨rfl, rfl, rfl, by decide +kernel, rfl, by decide +kernel, by decide +kernel⟩
abbrev s_l_gcd : Stmt := topS 40
theorem sc_l_gcd : FnScope ["_law_one", "_law_other"] ["_law_one", "_law_other"] (defScope s_l_gcd) := ⟨rfl, rfl, rfl, by decide +kernel, rfl, by decide +kernel, by decide +kernel⟩
abbrev s_l_amt : Stmt := topS 41
theorem sc_l_amt : FnScope ["_law_num", "_law_den", "_law_by"] ["_law_num", "_law_den"] (defScope s_l_amt) := ⟨rfl, rfl, rfl, by decide +kernel, rfl, by decide +kernel, by decide +kernel⟩
abbrev s_l_sub : Stmt := topS 42
theorem sc_l_sub : FnScope ["_law_one", "_law_other"] ["_law_one", "_law_other"] (defScope s_l_sub) := ⟨rfl, rfl, rfl, by decide +kernel, rfl, by decide +kernel, by decide +kernel⟩
abbrev s_l_less : Stmt := topS 43
theorem sc_l_less : FnScope ["_law_one", "_law_other"] ["_law_one", "_law_other"] (defScope s_l_less) := ⟨rfl, rfl, rfl, by decide +kernel, rfl, by decide +kernel, by decide +kernel⟩
abbrev s_p_is_number : Stmt := topS 17
theorem sc_p_is_number : FnScope ["thing"] ["thing"] (defScope s_p_is_number) := ⟨rfl, rfl, rfl, by decide +kernel, rfl, by decide +kernel, by decide +kernel⟩
abbrev s_p_is_within : Stmt := topS 18
theorem sc_p_is_within : FnScope ["thing", "least", "most"] ["thing", "least", "most"] (defScope s_p_is_within) := ⟨rfl, rfl, rfl, by decide +kernel, rfl, by decide +kernel, by decide +kernel⟩
abbrev s_p_check_pace : Stmt := topS 19
theorem sc_p_check_pace : FnScope ["pace"] ["pace"] (defScope s_p_check_pace) := ⟨rfl, rfl, rfl, by decide +kernel, rfl, by decide +kernel, by decide +kernel⟩
abbrev s_p_check_paces : Stmt := topS 20
theorem sc_p_check_paces : FnScope ["paces", "most", "pace"] ["paces", "most"] (defScope s_p_check_paces) := ⟨rfl, rfl, rfl, by decide +kernel, rfl, by decide +kernel, by decide +kernel⟩
abbrev s_p_check_rising : Stmt := topS 24
theorem sc_p_check_rising : FnScope ["paces", "slow", "quick"] ["paces"] (defScope s_p_check_rising) := ⟨rfl, rfl, rfl, by decide +kernel, rfl, by decide +kernel, by decide +kernel⟩
abbrev s_p_check_rounds : Stmt := topS 25
theorem sc_p_check_rounds : FnScope ["rounds"] ["rounds"] (defScope s_p_check_rounds) := ⟨rfl, rfl, rfl, by decide +kernel, rfl, by decide +kernel, by decide +kernel⟩
abbrev s_p_mixed : Stmt := topS 26
theorem sc_p_mixed : FnScope ["part", "before", "last"] ["part", "before", "last"] (defScope s_p_mixed) := ⟨rfl, rfl, rfl, by decide +kernel, rfl, by decide +kernel, by decide +kernel⟩
abbrev s_p_behind_one : Stmt := topS 27
theorem sc_p_behind_one : FnScope ["paces", "found", "told", "at"] ["paces", "found"] (defScope s_p_behind_one) := ⟨rfl, rfl, rfl, by decide +kernel, rfl, by decide +kernel, by decide +kernel⟩
abbrev s_p_behind : Stmt := topS 30
theorem sc_p_behind : FnScope ["paces", "found", "rounds", "told", "turn"] ["paces", "found", "rounds"] (defScope s_p_behind) := ⟨rfl, rfl, rfl, by decide +kernel, rfl, by decide +kernel, by decide +kernel⟩
abbrev s_p_column : Stmt := topS 28
theorem sc_p_column : FnScope ["paces", "number", "rounds", "found", "turn", "at"] ["paces", "number", "rounds"] (defScope s_p_column) := ⟨rfl, rfl, rfl, by decide +kernel, rfl, by decide +kernel, by decide +kernel⟩
abbrev s_p_table : Stmt := topS 29
theorem sc_p_table : FnScope ["paces", "rounds", "columns", "number", "at", "parts"] ["paces", "rounds"] (defScope s_p_table) := ⟨rfl, rfl, rfl, by decide +kernel, rfl, by decide +kernel, by decide +kernel⟩
abbrev s_l_rising_of : Stmt := topS 44
theorem sc_l_rising_of : FnScope ["_law_cell_here", "_law_drawn", "_law_many_here", "_law_one"] ["_law_cell_here"] (defScope s_l_rising_of) := ⟨rfl, rfl, rfl, by decide +kernel, rfl, by decide +kernel, by decide +kernel⟩
abbrev s_l_shares_drawn : Stmt := topS 45
theorem sc_l_shares_drawn : FnScope ["_law_cell_here", "_law_many_here", "_law_drawn", "_law_found", "_law_k", "_law_one"] ["_law_cell_here", "_law_many_here"] (defScope s_l_shares_drawn) := ⟨rfl, rfl, rfl, by decide +kernel, rfl, by decide +kernel, by decide +kernel⟩
abbrev s_p_common_part : Stmt := topS 32
theorem sc_p_common_part : FnScope ["one", "other", "total", "part", "counterpart"] ["one", "other"] (defScope s_p_common_part) := ⟨rfl, rfl, rfl, by decide +kernel, rfl, by decide +kernel, by decide +kernel⟩
abbrev s_p_narrowing : Stmt := topS 33
theorem sc_p_narrowing : FnScope ["paces", "rounds", "rows", "least", "one", "other"] ["paces", "rounds"] (defScope s_p_narrowing) := ⟨rfl, rfl, rfl, by decide +kernel, rfl, by decide +kernel, by decide +kernel⟩
abbrev s_l_least : Stmt := topS 46
theorem sc_l_least : FnScope ["_law_amounts", "_law_found", "_law_one"] ["_law_amounts"] (defScope s_l_least) := ⟨rfl, rfl, rfl, by decide +kernel, rfl, by decide +kernel, by decide +kernel⟩
abbrev s_p_spread : Stmt := topS 31
theorem sc_p_spread : FnScope ["found", "least", "greatest", "share"] ["found"] (defScope s_p_spread) := ⟨rfl, rfl, rfl, by decide +kernel, rfl, by decide +kernel, by decide +kernel⟩
abbrev s_l_spread : Stmt := topS 47
theorem sc_l_spread : FnScope ["_law_found", "_law_most", "_law_one"] ["_law_found"] (defScope s_l_spread) := ⟨rfl, rfl, rfl, by decide +kernel, rfl, by decide +kernel, by decide +kernel⟩
abbrev s_LAW : Stmt := topS 48
theorem sc_LAW : FnScope ["_law_script", "_law_k", "_law_first", "_law_second", "_law_third", "_law_paces", "_law_found", "_law_rounds", "_law_handed", "_law_ahead", "_law_later", "_law_part"] ["_law_script"] (defScope s_LAW) := ⟨rfl, rfl, rfl, by decide +kernel, rfl, by decide +kernel, by decide +kernel⟩
structure Bn (mg : Str → Option Value) : Prop where
  ValueError_ : mg "ValueError" = none
  abs_ : mg "abs" = none
  all_ : mg "all" = none
  bool_ : mg "bool" = none
  enumerate_ : mg "enumerate" = none
  int_ : mg "int" = none
  isinstance_ : mg "isinstance" = none
  len_ : mg "len" = none
  list_ : mg "list" = none
  max_ : mg "max" = none
  min_ : mg "min" = none
  range_ : mg "range" = none
  sorted_ : mg "sorted" = none
  str_ : mg "str" = none
  sum_ : mg "sum" = none
  tuple_ : mg "tuple" = none
  zip_ : mg "zip" = none

theorem gcd_cut {a b : Nat} (hb : 0 < b) : ∃ g x y : Nat, 0 < g ∧ g = Nat.gcd a b ∧ a = g * x ∧ b = g * y ∧ 0 < y ∧ Nat.gcd x y = 1 := by
  have hg : 0 < Nat.gcd a b := Nat.gcd_pos_of_pos_right _ hb
  obtain ⟨x, hx⟩ := Nat.gcd_dvd_left a b
  obtain ⟨y, hy⟩ := Nat.gcd_dvd_right a b
  refine ⟨Nat.gcd a b, x, y, hg, rfl, hx, hy, ?_, ?_⟩
  · cases y with
    | zero => rw [Nat.mul_zero] at hy; omega
    | succ n => exact Nat.succ_pos n
  · have e : Nat.gcd a b * Nat.gcd x y = Nat.gcd a b * 1 := by
      have h2 : Nat.gcd (Nat.gcd a b * x) (Nat.gcd a b * y) = Nat.gcd a b * Nat.gcd x y := Nat.gcd_mul_left _ _ _
      rw [← hx, ← hy] at h2
      rw [← h2, Nat.mul_one]
    exact Nat.eq_of_mul_eq_mul_left hg e
/-- an amount in lowest terms -/
def Low (x : Int × Int) : Prop := 0 < x.2 ∧ Nat.gcd x.1.natAbs x.2.natAbs = 1
theorem amt_spec {n d : Int} (hd : d ≠ 0) : Low (amt n d) ∧ (amt n d).1 * d = n * (amt n d).2 ∧ (amt n d).1.natAbs ≤ n.natAbs ∧ (amt n d).2.natAbs ≤ d.natAbs := by
  obtain ⟨g, x, y, hg, eg, ex, ey, hy, h1⟩ := gcd_cut (a := n.natAbs) (b := d.natAbs) (by omega)
  have gi : ((g : Nat) : Int) ≠ 0 := by omega
  have e2 : (amt n d).2 = (y : Int) := by
    show ((d.natAbs : Nat) : Int) / ((Nat.gcd n.natAbs d.natAbs : Nat) : Int) = _
    rw [← eg, ey, Int.natCast_mul, Int.mul_ediv_cancel_left _ gi]
  have hyd : d.natAbs ≥ y := by
    rw [ey]; exact Nat.le_mul_of_pos_left _ hg
  have hxn : n.natAbs ≥ x := by
    rw [ex]; exact Nat.le_mul_of_pos_left _ hg
  have exi : ((n.natAbs : Nat) : Int) = (g : Int) * (x : Int) := by rw [ex, Int.natCast_mul]
  have eyi : ((d.natAbs : Nat) : Int) = (g : Int) * (y : Int) := by rw [ey, Int.natCast_mul]
  have main : ∀ (s : Int), (s = 1 ∨ s = -1) → (if d < 0 then -n else n) = s * ((g : Int) * (x : Int)) → (n = s * ((g : Int) * (x : Int)) ∧ d = (g : Int) * (y : Int) ∨ n = -(s * ((g : Int) * (x : Int))) ∧ d = -((g : Int) * (y : Int))) →
      Low (amt n d) ∧ (amt n d).1 * d = n * (amt n d).2 ∧ (amt n d).1.natAbs ≤ n.natAbs ∧ (amt n d).2.natAbs ≤ d.natAbs := by
    intro s hs e hnd
    have e1 : (amt n d).1 = s * (x : Int) := by
      show (if d < 0 then -n else n) / ((Nat.gcd n.natAbs d.natAbs : Nat) : Int) = _
      rw [← eg, e, Int.mul_left_comm, Int.mul_ediv_cancel_left _ gi]
    have ab : (s * (x : Int)).natAbs = x := by
      rcases hs with rfl | rfl
      · rw [Int.one_mul, Int.natAbs_natCast]
      · rw [Int.neg_mul, Int.one_mul, Int.natAbs_neg, Int.natAbs_natCast]
    refine ⟨⟨by rw [e2]; omega, ?_⟩, ?_, ?_, ?_⟩
    · rw [e1, e2, ab, Int.natAbs_natCast]; exact h1
    · rw [e1, e2]
      rcases hnd with ⟨a, b⟩ | ⟨a, b⟩
      · rw [a, b, Int.mul_assoc, Int.mul_assoc, Int.mul_left_comm (x : Int) (g : Int) (y : Int), Int.mul_assoc]
      · rw [a, b, Int.mul_neg, Int.neg_mul, Int.mul_assoc, Int.mul_assoc, Int.mul_left_comm (x : Int) (g : Int) (y : Int), Int.mul_assoc]
    · rw [e1, ab]; exact hxn
    · rw [e2, Int.natAbs_natCast]; exact hyd
  by_cases hdn : d < 0
  · by_cases hnn : n < 0
    · exact main 1 (.inl rfl) (by rw [if_pos hdn, Int.one_mul]; omega) (.inr ⟨by rw [Int.one_mul]; omega, by omega⟩)
    · exact main (-1) (.inr rfl) (by rw [if_pos hdn, Int.neg_mul, Int.one_mul]; omega) (.inr ⟨by rw [Int.neg_mul, Int.one_mul]; omega, by omega⟩)
  · by_cases hnn : n < 0
    · exact main (-1) (.inr rfl) (by rw [if_neg hdn, Int.neg_mul, Int.one_mul]; omega) (.inl ⟨by rw [Int.neg_mul, Int.one_mul]; omega, by omega⟩)
    · exact main 1 (.inl rfl) (by rw [if_neg hdn, Int.one_mul]; omega) (.inl ⟨by rw [Int.one_mul]; omega, by omega⟩)
/-- two amounts in lowest terms of the same worth are the same -/
theorem low_eq {x y : Int × Int} (hx : Low x) (hy : Low y) (e : x.1 * y.2 = y.1 * x.2) : x = y := by
  obtain ⟨a, b⟩ := x
  obtain ⟨c, d⟩ := y
  obtain ⟨hb, g1⟩ := hx
  obtain ⟨hd, g2⟩ := hy
  simp only at hb g1 hd g2 e
  have en : a.natAbs * d.natAbs = c.natAbs * b.natAbs := by rw [← Int.natAbs_mul, ← Int.natAbs_mul, e]
  have h1 : b.natAbs ∣ d.natAbs := by
    have : b.natAbs ∣ a.natAbs * d.natAbs := ⟨c.natAbs, by rw [en, Nat.mul_comm]⟩
    exact Nat.Coprime.dvd_of_dvd_mul_left (show Nat.Coprime b.natAbs a.natAbs by rw [Nat.Coprime, Nat.gcd_comm]; exact g1) this
  have h2 : d.natAbs ∣ b.natAbs := by
    have : d.natAbs ∣ c.natAbs * b.natAbs := ⟨a.natAbs, by rw [← en, Nat.mul_comm]⟩
    exact Nat.Coprime.dvd_of_dvd_mul_left (show Nat.Coprime d.natAbs c.natAbs by rw [Nat.Coprime, Nat.gcd_comm]; exact g2) this
  have h3 : b.natAbs = d.natAbs := Nat.dvd_antisymm h1 h2
  have h4 : b = d := by omega
  subst h4
  have h5 : a = c := Int.eq_of_mul_eq_mul_right (by omega) e
  rw [h5]
theorem amt_low {x : Int × Int} (h : Low x) : amt x.1 x.2 = x := by
  have s := amt_spec (n := x.1) (d := x.2) (by have := h.1; omega)
  exact low_eq s.1 h s.2.1
theorem amt_eq {n d m e : Int} (hd : d ≠ 0) (he : e ≠ 0) (h : n * e = m * d) : amt n d = amt m e := by
  have s := amt_spec (n := n) (d := d) hd
  have t := amt_spec (n := m) (d := e) he
  refine low_eq s.1 t.1 ?_
  -- (amt n d).1 * d = n * (amt n d).2 ; (amt m e).1 * e = m * (amt m e).2
  have key : ((amt n d).1 * (amt m e).2) * (d * e) = ((amt m e).1 * (amt n d).2) * (d * e) := by
    calc ((amt n d).1 * (amt m e).2) * (d * e) = ((amt n d).1 * d) * ((amt m e).2 * e) := by ac_rfl
      _ = (n * (amt n d).2) * ((amt m e).2 * e) := by rw [s.2.1]
      _ = (n * e) * ((amt n d).2 * (amt m e).2) := by ac_rfl
      _ = (m * d) * ((amt n d).2 * (amt m e).2) := by rw [h]
      _ = (m * (amt m e).2) * ((amt n d).2 * d) := by ac_rfl
      _ = ((amt m e).1 * e) * ((amt n d).2 * d) := by rw [t.2.1]
      _ = ((amt m e).1 * (amt n d).2) * (d * e) := by ac_rfl
  exact Int.eq_of_mul_eq_mul_right (Int.mul_ne_zero hd he) key

section
variable {P : Program} {w : World} {K : PySem.W.Frag} {T : Tb} {mg : Str → Option Value} {base : Heap}
/-! ### refusals: own error classes whose __init__ calls the base's -/
/-- C.m(e, ..), m a def read off the own class C -/
theorem pe_clsfn {X : Cx} {x m : Str} {C f : Addr} {mc : Value} {k : Nat} {fd : FuncData} {ps : List Str} {sp : Sp} {e : Expr} {es : List Expr} {t : TA} {p1 p2 pos : Pos} {pl : Sem Bool}
    (r : ClX.CRead X.K C mc) (hat : PySem.W.findCls X.K (.ref C) mc m = some (.val (.ref f))) (F : FnOk X.prog X.w X.K X.mg X.base CX0 k f fd ps sp) (hr : Room k X.A) (hg : Gl X x) (hm : X.mg x = some (.ref C))
    (hk : PySem.W.keepIn X.K (.ref f) = true) (hb : Binds X.K fd ps []) (ha : PA X (e :: es) t)
    (hc : eval (.Call (.Attribute (.Name x p1) m p2) (e :: es) [] pos) X.env = (do
      let ov ← eval (.Name x p1) X.env
      standAt p2.atName
      let (f, first) ← holding [ov] (getMethod ov m pl)
      callWith pos f first (backTo pos (starEach (e :: es) X.env)) (backToKw pos (keywordEach [] X.env))) := by rfl)
    (hdb : (x == ("__debug__" : Str)) = false := by decide) (he : starEach (e :: es) X.env = (false, eval e X.env) :: starEach es X.env := by rfl) (hpl : (backTo pos (starEach es X.env)).any (·.1) = false := by rfl) :
    PE X (.Call (.Attribute (.Name x p1) m p2) (e :: es) [] pos) (tCall sp [] E0 t) := by
  refine ⟨fun pins s σ H Q I h => ?_⟩
  refine PySem.W.methodCall_KW (ld_glob I hg hm ?_ hdb) hc
  refine PySem.W.method_cls I.kIn r.ga (PySem.W.cls_value I.kIn r.rd hat rfl ?_)
  show wpAny _ _ (callWith pos (Value.ref f) [] (backTo pos (starEach (e :: es) X.env)) []) _ _ _
  refine PySem.W.callWith_K (h₀ := X.base) I.ok.mod.kin hk (thn (ha.run pos pins _ σ H _ (I.tok _) h) fun us s1 ⟨vs, H1, I1, r1, q1⟩ => ⟨I1.kIn, ?_⟩) he hpl
  exact run_fn F hr hb .nil pass0 I1 r1 q1
/-- C(), C's own __init__ keeping sp -/
theorem pmk_oex0 {X : Cx} {x : Str} {C fI : Addr} {k : Nat} {fd : FuncData} {ps : List Str} {sp : Sp} {p pos : Pos} (T : OexC X.K C) (iC : PySem.W.findIn X.K (.ref C) "__init__" = some (some (.ref fI))) (tI : PySem.W.typeIn X.K (.ref fI) = some (.type "function"))
    (F1 : FnOk X.prog X.w X.K X.mg X.base CX0 k fI fd ps sp) (hr : Room (k + 1) X.A) (hb : Binds X.K fd ps []) (hg : Gl X x) (hm : X.mg x = some (.ref C)) (hdb : (x == ("__debug__" : Str)) = false := by decide) :
    PMk X (.Call (.Name x p) [] [] pos) (tMkO C sp [] tNil) := by
  intro pins s σ H Q I h
  obtain ⟨nm, q, N, bs, bm, sn, sub, ab, col, dd, k0, k1, k2, k3, k5, hC, hbm⟩ := T.cls
  refine wpAny_Call_Name_kw (ld_glob I hg hm ?_ hdb)
  refine PySem.W.callWith_K0 I.kIn T.kC ?_
  show wpAny _ _ (call (.ref C) []) _ _ _
  obtain ⟨hz, q1⟩ : ([] : List V).length ≤ 1000 ∧ _ := h
  obtain ⟨hp, g, dr, tk, os⟩ := s
  have hsz : hp.objs.size ≤ hp.objs.size + 1 := Nat.le_succ _
  have hn : H (hp.objs.size + 1) = none := I.hok.fresh hsz
  have hq := q1 (hp.objs.size + 1) hn
  have kk : ∀ b o, hp.get? b = some o → ((hp.push (PySem.W.kdv_tup [])).push (PySem.HandSPX.excO C hp.objs.size)).get? b = some o := fun b o e => Heap.get?_push_of_some _ (Heap.get?_push_of_some _ e)
  have hget : ((hp.push (PySem.W.kdv_tup [])).push (PySem.HandSPX.excO C hp.objs.size)).get? (hp.objs.size + 1) = some (PySem.HandSPX.excO C hp.objs.size) := by heap_get
  have I2 : Inv X pins σ (upd H (hp.objs.size + 1) (exo (hp.objs.size + 1) C none)) ⟨(hp.push (PySem.W.kdv_tup [])).push (PySem.HandSPX.excO C hp.objs.size), g, dr, tk, os⟩ :=
    I.laid (t' := tk) (a := hp.objs.size + 1) (o := exo (hp.objs.size + 1) C none) (h' := (hp.push (PySem.W.kdv_tup [])).push (PySem.HandSPX.excO C hp.objs.size)) kk hsz (exo_ok hget)
  have r2 : Vals (V.ref (hp.objs.size + 1) :: ([] ++ [])) ([Value.ref (hp.objs.size + 1)] ++ []) := .cons rfl .nil
  have hl : (Value.ref (hp.objs.size + 1) :: [] ++ []).length = ps.length := by
    have e := r2.length
    rw [F1.len _ _ _ _ hq] at e
    exact e.symm
  have hus : ([] : List Value).length ≤ sizeLine := Nat.zero_le _
  refine wpAny_call (PySem.HandSPX.call_own F.excBase_ValueError (fun Y => PySem.HandSPX.refsVE_contains Y bm hbm) (I.kIn _ _ hC) (PySem.W.looks_findIn I.kIn iC) (fun self => PySem.W.bind_fn I.kIn self tI) hus
    (codeAny_mono (F1.run _ X.stack _ _ ⟨Value.ref (hp.objs.size + 1) :: [], []⟩ ([Value.ref (hp.objs.size + 1)] ++ []) _ _ (fun _ _ _ => False) (hr.make C [] []) (I2.env0.make C [] []) (hb _ (Value.ref (hp.objs.size + 1) :: []) I2.kIn hl) r2 hq) fun r s' hq' => ?_))
  cases r with
  | error er => exact (show False from hq').elim
  | ok fl =>
    cases fl with
    | ret u =>
      obtain ⟨v, H2, os2, bare2, un2, hok2, rv, ev, d, fs, ea, ed, hd1, q2⟩ := hq'
      subst ev
      obtain ⟨h2, g2, d2, t2, os'⟩ := s'
      exact ⟨rv, mk_end (raises_own T.exC T.tyC) I hsz kk un2 hok2 os2 bare2 ea ed hd1 q2⟩
    | next => exact False.elim hq'
    | brk => exact False.elim hq'
    | cont => exact False.elim hq'
/-- what stands of a refusal that flies: its word -/
def Rf (K : PySem.W.Frag) (CP : Addr) (word : Str) (cls : Value) (d : Option Addr) (H' : Hp) : Prop :=
  ∃ C dd, cls = .ref C ∧ d = some dd ∧ XfC K C ∧ PySem.W.findIn K (.ref C) "word" = some none ∧ PySem.W.exmOne K (.ref C) (.ref CP) = some true ∧ H' dd = some (.xd [(("word" : Str), .str word)])
theorem Rf.keep {T : Tb} {K : PySem.W.Frag} {CP : Addr} {word : Str} {cls : Value} {d : Option Addr} {H H' : Hp} (h : Rf K CP word cls d H) (s : Sm T H H') : Rf K CP word cls d H' := by
  obtain ⟨C, dd, h1, h2, h3, h4, h5, h6⟩ := h
  exact ⟨C, dd, h1, h2, h3, h4, h5, s.k h6⟩
/-- the promise of PailError.__init__ and of those under it -/
def spInit2 (K : PySem.W.Frag) : Sp := fun vs H Q _ => ∃ (a C : Addr) (w : Str), vs = [.ref a, .str w] ∧ OexC K C ∧ PySem.W.findIn K (.ref C) "word" = some none ∧ H a = some (exo a C none) ∧
  ∀ dx, H dx = none → dx ≠ a → Q .non (upd (upd H dx (exd dx [(("word" : Str), .str w)])) a (exo a C (some dx)))
def spInit (w : Str) (K : PySem.W.Frag) : Sp := fun vs H Q _ => ∃ (a C : Addr), vs = [.ref a] ∧ OexC K C ∧ PySem.W.findIn K (.ref C) "word" = some none ∧ H a = some (exo a C none) ∧
  ∀ dx, H dx = none → dx ≠ a → Q .non (upd (upd H dx (exd dx [(("word" : Str), .str w)])) a (exo a C (some dx)))
/-- the error class by the name x, its word -/
structure Err (P : Program) (w : World) (K : PySem.W.Frag) (mg : Str → Option Value) (base : Heap) (CP : Addr) (x word : Str) : Prop where
  ex : ∃ (C fI : Addr) (fd : FuncData), mg x = some (.ref C) ∧ OexC K C ∧ XfC K C ∧ PySem.W.findIn K (.ref C) "word" = some none ∧ PySem.W.exmOne K (.ref C) (.ref CP) = some true ∧
    PySem.W.findIn K (.ref C) "__init__" = some (some (.ref fI)) ∧ PySem.W.typeIn K (.ref fI) = some (.type "function") ∧ FnOk P w K mg base CX0 2 fI fd ["self"] (spInit word K) ∧ Binds K fd ["self"] []
def tErr (K : PySem.W.Frag) (CP : Addr) (word : Str) : L2.St → Hp → XK → Prop := fun _ H Q => ∀ cls dd, H dd = none → Rf K CP word cls (some dd) (upd H dd (.xd [(("word" : Str), .str word)])) → Q cls (some dd) (upd H dd (.xd [(("word" : Str), .str word)]))
theorem pmk_err {X : Cx} {CP : Addr} {x word : Str} {p pos : Pos} (R : Err X.prog X.w X.K X.mg X.base CP x word) (hr : Room 3 X.A) (hg : Gl X x) (hdb : (x == ("__debug__" : Str)) = false := by decide) :
    PMk X (.Call (.Name x p) [] [] pos) (tErr X.K CP word) := by
  obtain ⟨C, fI, fd, g, oc, xf, nw, ex, iC, tI, F, b⟩ := R.ex
  intro pins s σ H Q I h
  refine pmk_oex0 (k := 2) oc iC tI F hr b hg g hdb pins s σ H Q I ⟨Nat.zero_le _, fun a ha => ⟨a, C, rfl, oc, nw, upd_same, fun dx hdx hne => ⟨rfl, dx, [(("word" : Str), .str word)], upd_same, ?_, ?_, ?_⟩⟩⟩
  · rw [upd_ne hne, upd_same]
  · rw [upd_ne hne] at hdx
    exact hdx
  · have hd : H dx = none := by
      rw [upd_ne hne] at hdx
      exact hdx
    have e : upd (L2.del (upd (upd (upd H a (exo a C none)) dx (exd dx [(("word" : Str), .str word)])) a (exo a C (some dx))) a) dx (.xd [(("word" : Str), .str word)]) = upd H dx (.xd [(("word" : Str), .str word)]) := by
      funext c
      by_cases h1 : c = dx
      · rw [h1, upd_same, upd_same]
      · rw [upd_ne h1, upd_ne h1]
        by_cases h2 : c = a
        · rw [h2, L2.del_same, ha]
        · rw [L2.del_ne h2, upd_ne h2, upd_ne h1, upd_ne h2]
    rw [e]
    exact h (.ref C) dx hd ⟨C, dx, rfl, rfl, xf, nw, ex, upd_same⟩
/-- e.word, e the refusal that the suite holds -/
def tXw (K : PySem.W.Frag) (a : Addr) (cls : Value) (d : Option Addr) (te : TE) : TE := fun σ H Q => te σ H fun x H1 => x = .ref a ∧ ∃ (C dd : Addr) (v : V), cls = .ref C ∧ XfC K C ∧ PySem.W.findIn K (.ref C) "word" = some none ∧ d = some dd ∧ H1 dd = some (.xd [(("word" : Str), v)]) ∧ Q v H1
theorem pe_xw {X : Cx} {a : Addr} {oe : Obj} {cls : Value} {d : Option Addr} {pn : List (Addr × Obj)} {e : Expr} {te : TE} {pos : Pos}
    (hz : Zc cls d oe) (hf : ∃ vs, oe.data = .fields vs) (he : PE (X.suite a ((a, oe) :: pn)) e te) (hb : attributeBase e "word" X.env (eval e X.env) = eval e X.env := by rfl) :
    PE (X.suite a ((a, oe) :: pn)) (.Attribute e "word" pos) (tXw X.K a cls d te) := by
  refine ⟨fun pins s σ H Q I h => ?_⟩
  refine attr_of hb (thn (he.run pins s σ H _ I h) fun u s1 hh => ?_)
  obtain ⟨x, H1, I1, rx, ex, C, dd, v, ec, T, hno, ed, ea, q⟩ := hh
  subst ex
  obtain rfl : u = Value.ref a := rx
  subst ec
  subst ed
  obtain ⟨ha, _⟩ := I1.pin (a, oe) (List.mem_append_left _ List.mem_cons_self)
  obtain ⟨vs, hd⟩ := hf
  have hx : ObjOk X.prog X.w H1 s1.heap dd (.xd [(("word" : Str), v)]) := I1.hok dd _ ea
  obtain ⟨mA, hns, hr⟩ := hx
  obtain ⟨od, ho, hl⟩ := lookIn_ns hns
  have l : List.lookup ("word" : Str) [(("word" : Str), v)] = some v := by simp [List.lookup]
  obtain ⟨u, hu, ru⟩ := RelO.some_of (v := v) (o := mA "word") (by rw [← l]; exact hr "word")
  have J : PySem.W.InstAt s1.heap a oe C (some od) := ⟨ha, hz.1, by unfold PySem.W.notCls; rw [hd] <;> rfl, by rw [hz.2]; exact ho⟩
  exact HandSPX.exc_get I1.kIn J T.ga T.gg T.exC (PySem.W.findObj_own T.hdC hno rfl (by rw [hl, hu])) (handed_of ru) ⟨v, H1, I1.tok _, ru, q⟩
/-! ### a def that may raise, ready to be called -/
structure Fx (P : Program) (w : World) (K : PySem.W.Frag) (mg : Str → Option Value) (base : Heap) (k : Nat) (x : Str) (ps : List Str) (sp : Sp) : Prop where
  ex : ∃ f fd, FnOk P w K mg base (L2.CX P w) k f fd ps sp ∧ mg x = some (.ref f) ∧ PySem.W.keepIn K (.ref f) = true ∧ Binds K fd ps []
theorem Fx.mk' {P : Program} {w : World} {K : PySem.W.Frag} {mg : Str → Option Value} {base : Heap} {k : Nat} {x : Str} {ps : List Str} {sp : Sp} {f : Addr} {fd : FuncData}
    (h : FnOk P w K mg base (L2.CX P w) k f fd ps sp) (g : mg x = some (.ref f)) (kp : PySem.W.keepIn K (.ref f) = true) (b : Binds K fd ps []) : Fx P w K mg base k x ps sp := ⟨⟨f, fd, h, g, kp, b⟩⟩
theorem pe_fx {X : Cx} {k : Nat} {x : Str} {ps : List Str} {sp : Sp} {e : Expr} {es : List Expr} {t : TA} {p pos : Pos} {E : XK} (F : Fx X.prog X.w X.K X.mg X.base k x ps sp) (hr : Room k X.A) (tk : Takes X (fun cls d _ H => E cls d H)) (ha : PA X (e :: es) t) (hg : Gl X x := by rfl) (hdb : (x == ("__debug__" : Str)) = false := by decide)
    (he : starEach (e :: es) X.env = (false, eval e X.env) :: starEach es X.env := by rfl) (hpl : (backTo pos (starEach es X.env)).any (·.1) = false := by rfl) :
    PE X (.Call (.Name x p) (e :: es) [] pos) (tCall sp [] E t) := by
  obtain ⟨f, fd, h, g, kp, b⟩ := F.ex
  exact pe_call h hr hg g kp b .nil (passes_call tk fun _ _ _ _ h => h) ha hdb he hpl
/-- .. where nothing is to be let out -/
theorem pe_fx0 {X : Cx} {k : Nat} {x : Str} {ps : List Str} {sp : Sp} {e : Expr} {es : List Expr} {t : TA} {p pos : Pos} (F : Fx X.prog X.w X.K X.mg X.base k x ps sp) (hr : Room k X.A) (ha : PA X (e :: es) t) (hg : Gl X x := by rfl) (hdb : (x == ("__debug__" : Str)) = false := by decide)
    (he : starEach (e :: es) X.env = (false, eval e X.env) :: starEach es X.env := by rfl) (hpl : (backTo pos (starEach es X.env)).any (·.1) = false := by rfl) :
    PE X (.Call (.Name x p) (e :: es) [] pos) (tCall sp [] E0 t) := by
  obtain ⟨f, fd, h, g, kp, b⟩ := F.ex
  exact pe_call h hr hg g kp b .nil passL ha hdb he hpl
/-! ### a def whose code object is told -/
structure FunC (K : PySem.W.Frag) (x qual : Str) (st : Stmt) (f : Addr) (fd : FuncData) (c : Addr) : Prop where
  ex : ∃ (oc : Value) (od : Option Addr) (kV doc pm : Value) (an : Option Addr) (ct : Value) (osl : Array (Option Value)),
    fd = PySem.W.fnOf x qual (defArgs st) (defBody st) (defScope st) .none kV doc pm an (.ref c) ct ∧ K.lookup f = some ⟨oc, od, .func fd, osl⟩ ∧ PySem.W.codeIn K (.ref c) qual = true
  kp : PySem.W.keepIn K (.ref f) = true
theorem FunC.ok {P : Program} {w : World} {K : PySem.W.Frag} {mg : Str → Option Value} {base : Heap} {x qual : Str} {st : Stmt} {f c : Addr} {fd : FuncData} {N ps : List Str} {k : Nat} {sp : Sp} (F : FunC K x qual st f fd c) (S : FnScope N ps (defScope st)) (len : ∀ vs H Q E, sp vs H Q E → vs.length = ps.length)
    (hbody : ∀ (A : Around) (outer : List Env) (s : Shared) (H : Hp) (vs : List V) (Q : VK) (E : XK), Room k (A.deeper (envOfC qual (defScope st) s.heap.objs.size f (.ref c))) → sp vs H Q E →
      ∃ t, PSs (cxOf CX0 P w K mg base N qual (defScope st) f (.ref c) A outer s H E).nox (defBody st) t ∧ t { nx := fun _ H' => Q .non H', rt := Q } (start N vs) H) : FnOk P w K mg base CX0 (k + 1) f fd ps sp := by
  obtain ⟨oc, od, kV, doc, pm, an, ct, osl, rfl, lk, hcd⟩ := F.ex
  refine fn_of lk hcd S len fun A outer s H vs Q E hr hsp => ?_
  obtain ⟨t, h, q⟩ := hbody A outer s H vs Q E hr hsp
  exact ⟨t, h.nox, q⟩
theorem FunC.okX {P : Program} {w : World} {K : PySem.W.Frag} {mg : Str → Option Value} {base : Heap} {x qual : Str} {st : Stmt} {f c : Addr} {fd : FuncData} {N ps : List Str} {k : Nat} {sp : Sp} (F : FunC K x qual st f fd c) (S : FnScope N ps (defScope st)) (len : ∀ vs H Q E, sp vs H Q E → vs.length = ps.length)
    (hbody : ∀ (A : Around) (outer : List Env) (s : Shared) (H : Hp) (vs : List V) (Q : VK) (E : XK), Room k (A.deeper (envOfC qual (defScope st) s.heap.objs.size f (.ref c))) → sp vs H Q E →
      ∃ t, PSs (cxOf (L2.CX P w) P w K mg base N qual (defScope st) f (.ref c) A outer s H E) (defBody st) t ∧ t { nx := fun _ H' => Q .non H', rt := Q } (start N vs) H) : FnOk P w K mg base (L2.CX P w) (k + 1) f fd ps sp := by
  obtain ⟨oc, od, kV, doc, pm, an, ct, osl, rfl, lk, hcd⟩ := F.ex
  exact fn_of lk hcd S len fun A outer s H vs Q E hr hsp => hbody A outer s H vs Q E hr hsp
theorem FunC.binds {K : PySem.W.Frag} {x qual : Str} {st : Stmt} {f c : Addr} {fd : FuncData} {ps : List Str} (F : FunC K x qual st f fd c)
    (h : ∀ (kV doc pm : Value) (an : Option Addr) (ct : Value) (us : List Value), us.length = ps.length → bindArgs (PySem.W.fnOf x qual (defArgs st) (defBody st) (defScope st) .none kV doc pm an (.ref c) ct) ⟨us, []⟩ = pure (ps.zip us)) : Binds K fd ps [] := by
  obtain ⟨oc, od, kV, doc, pm, an, ct, osl, rfl, lk, hcd⟩ := F.ex
  exact .all (h kV doc pm an ct)
theorem exm_of {K : PySem.W.Frag} {C S : Addr} (h1 : PySem.W.subIn K (.ref S) (.type "BaseException") = some true) (h2 : PySem.W.isClsIn K S = true) (h3 : PySem.W.typeIn K (.ref S) = some (.type "type")) (h4 : PySem.W.subIn K (.ref C) (.ref S) = some true) :
    PySem.W.exmOne K (.ref C) (.ref S) = some true := by
  have e1 : (PySem.W.subIn K (.ref S) (.type "BaseException") == some true) = true := by rw [h1] <;> rfl
  have e2 : ((PySem.W.clsIn K S).isSome && PySem.W.typeIn K (.ref S) == some (.type "type")) = true := by
    have h2' : (PySem.W.clsIn K S).isSome = true := h2
    rw [h2', h3] <;> rfl
  show (if (PySem.W.subIn K (.ref S) (.type "BaseException") == some true) = true then (if ((PySem.W.clsIn K S).isSome && PySem.W.typeIn K (.ref S) == some (.type "type")) = true then PySem.W.subIn K (.ref C) (.ref S) else none) else none) = some true
  rw [if_pos e1, if_pos e2]
  exact h4

def sp_p_common_divisor (K : PySem.W.Frag) (T : Tb) : Sp := fun vs H Q _ => ∃ a b : Nat, vs = [.int a, .int b] ∧ Q (.int (Nat.gcd a b : Nat)) H
theorem ok_p_common_divisor {f : Addr} {fd : FuncData} (F : Fun K "common_divisor" "common_divisor" s_p_common_divisor f fd) : FnOk P w K mg base CX0 1 f fd ["one", "other"] (sp_p_common_divisor K T) := by
  refine F.ok sc_p_common_divisor (fun vs H Q E h => ?_) (fun cdv A outer s H vs Q E hr h => ?_)
  · obtain ⟨a, b, rfl, _⟩ := h
    rfl
  · obtain ⟨a, b, rfl, q⟩ := h
    refine ⟨_, (pss_cons (ps_while PassesOwn.never (pt_truth (pv 1) (by intro _; rfl)) (pss_one (ps_par (i := 0) (j := 1) (by rfl) sc_p_common_divisor.nd rfl rfl (by decide) rfl rfl (pa_cons (pv 1) (pa_cons (pe_op op_mod (pv 0) (pv 1)) pa_nil)) (by rfl))))
      (pss_one (ps_ret (pv 0)))), ?_⟩
    refine while_by (fun σ H' => ∃ x y : Nat, σ = [some (.int x), some (.int y)] ∧ H' = H ∧ Nat.gcd x y = Nat.gcd a b) (fun σ _ => match σ with | [_, some (.int y)] => y.toNat | _ => 0) ⟨a, b, rfl, rfl, rfl⟩ ?_ ?_
    · rintro σ H' ⟨x, y, rfl, rfl, hg⟩
      refine ⟨_, rfl, _, rfl, ite2 (fun e => ?_) (fun e => ?_)⟩
      · have hy : 0 < y := by
          cases y with
          | zero => cases e
          | succ n => exact Nat.succ_pos n
        refine ⟨_, rfl, _, rfl, _, rfl, _, _, rfl, rfl, (by show (0 : Int) < (y : Int); omega), _, _, rfl, ⟨y, x % y, ?_, rfl, ?_⟩, ?_⟩
        · show [some (V.int y), some (V.int ((x : Int) % (y : Int)))] = _
          rw [Int.natCast_emod]
        · rw [← hg, Nat.gcd_comm x y, Nat.gcd_rec y x, Nat.gcd_comm]
        · show ((x : Int) % (y : Int)).toNat < (y : Int).toNat
          rw [← Int.natCast_emod, Int.toNat_natCast, Int.toNat_natCast]
          exact Nat.mod_lt _ hy
      · have hy : y = 0 := by
          cases y with
          | zero => rfl
          | succ n => exact absurd rfl e
        subst hy
        refine ⟨_, rfl, ?_⟩
        rw [← hg, Nat.gcd_zero_right] at q
        exact q
    · rintro σ H Q Q' m ⟨v, e, k, t, q⟩
      exact ⟨v, e, k, t, m _ _ q⟩

def sp_p_amount (K : PySem.W.Frag) (T : Tb) : Sp := fun vs H Q _ => ∃ n d : Int, vs = [.int n, .int d] ∧ d ≠ 0 ∧ d.natAbs < 2 ^ 8900 ∧ ∀ p H', Sm T H H' → H p = none → H' p = some (.tup (tv (amt n d))) → Q (.ref p) H'
theorem gcd_bound {n d : Int} (hd : d ≠ 0) (hb : d.natAbs < 2 ^ 8900) : 0 < Nat.gcd n.natAbs d.natAbs ∧ (Nat.gcd n.natAbs d.natAbs) < 2 ^ 8900 :=
  ⟨Nat.gcd_pos_of_pos_right _ (by omega), Nat.lt_of_le_of_lt (Nat.gcd_le_right _ (by omega)) hb⟩
theorem ok_p_amount {f : Addr} {fd : FuncData} (F : Fun K "amount" "amount" s_p_amount f fd) (B : Bn mg) (F_p_common_divisor : Fn P w K mg base 1 "common_divisor" ["one", "other"] (sp_p_common_divisor K T)) : FnOk P w K mg base CX0 2 f fd ["num", "den"] (sp_p_amount K T) := by
  refine F.ok sc_p_amount (fun vs H Q E h => ?_) (fun cdv A outer s H vs Q E hr h => ?_)
  · obtain ⟨n, d, rfl, _⟩ := h
    rfl
  · obtain ⟨n, d, rfl, hd, hb, q⟩ := h
    refine ⟨_, (pss_cons (ps_if (pt_cmpR op_lt (pv 1) pe_int (nomark _)) (pss_one (ps_par (i := 0) (j := 1) (by rfl) sc_p_amount.nd rfl rfl (by decide) rfl rfl (pa_cons (pe_un un_neg (pv 0)) (pa_cons (pe_un un_neg (pv 1)) pa_nil)) (by rfl))) pss_nil)
      (pss_cons (ps_set (i := 2) sc_p_amount.nd rfl (.inl rfl) (pe_fn F_p_common_divisor (hr.mono (by decide)) (pa_cons (pe_callB call_abs (by rfl) B.abs_ (by decide +kernel) (pa_cons (pv 0) pa_nil)) (pa_cons (pv 1) pa_nil))))
      (pss_one (ps_ret (pe_tup (pa_cons (pe_op op_fdivW (pv 0) (pv 2)) (pa_cons (pe_op op_fdivW (pv 1) (pv 2)) pa_nil))))))), ?_⟩
    have hg := gcd_bound (n := n) hd hb
    refine seq_if (fun σ' H' => H' = H ∧ σ' = [some (.int (if d < 0 then -n else n)), some (.int d.natAbs), none]) (fun σ' H' p => ?_) (fun k => ?_)
    · obtain ⟨rfl, rfl⟩ := p
      refine ⟨_, rfl, _, rfl, _, rfl, n.natAbs, d.natAbs, ?_, ?_⟩
      · have : (if (if d < 0 then -n else n) < 0 then -(if d < 0 then -n else n) else (if d < 0 then -n else n)) = (n.natAbs : Int) := by split <;> split <;> omega
        rw [this] <;> rfl
      · refine ⟨_, rfl, _, rfl, _, _, rfl, rfl, wide_div (b := 8900) (by omega) (by rw [Int.natAbs_natCast]; exact hg.2) (by decide) (by decide), ?_⟩
        refine ⟨_, rfl, _, rfl, _, _, rfl, rfl, wide_div (b := 8900) (by omega) (by rw [Int.natAbs_natCast]; exact hg.2) (by decide) (by decide), ?_⟩
        refine ⟨by show 2 ≤ sizeLine; decide, fun p hp => ?_⟩
        exact q p _ (same_upd hp) hp upd_same
    · refine ⟨_, rfl, _, _, rfl, rfl, _, rfl, ite2 (fun e => ?_) (fun e => ?_)⟩
      · have e' : d < 0 := of_decide_eq_true e
        refine ⟨_, rfl, _, rfl, _, rfl, _, rfl, _, _, rfl, ?_⟩
        refine k _ _ ⟨rfl, ?_⟩
        rw [if_pos e', show ((d.natAbs : Nat) : Int) = -d by omega]
        all_goals rfl
      · have e' : ¬ d < 0 := fun z => e (decide_eq_true z)
        refine k _ _ ⟨rfl, ?_⟩
        rw [if_neg e', show ((d.natAbs : Nat) : Int) = d by omega]
        all_goals rfl

def Bd (n : Nat) (x : Am) : Prop := x.1.natAbs < 2 ^ n ∧ x.2.natAbs < 2 ^ n
theorem Bd.mono {n m : Nat} {x : Am} (h : Bd n x) (e : n ≤ m) : Bd m x := ⟨Nat.lt_of_lt_of_le h.1 (Nat.pow_le_pow_right (by decide) e), Nat.lt_of_lt_of_le h.2 (Nat.pow_le_pow_right (by decide) e)⟩
def plusA (x y : Am) : Am := amt (x.1 * y.2 + y.1 * x.2) (x.2 * y.2)
def minusA (x y : Am) : Am := amt (x.1 * y.2 - y.1 * x.2) (x.2 * y.2)
def timesA (x y : Am) : Am := amt (x.1 * y.1) (x.2 * y.2)
def overA (x y : Am) : Am := amt (x.1 * y.2) (x.2 * y.1)
def belowA (x y : Am) : Bool := decide (x.1 * y.2 < y.1 * x.2)
def spBin (pre : Am → Am → Prop) (g : Am → Am → Am) (K : PySem.W.Frag) (T : Tb) : Sp := fun vs H Q _ => ∃ a b x y, vs = [.ref a, .ref b] ∧ SqT K H a (tv x) ∧ SqT K H b (tv y) ∧ (Bd 4000 x ∧ Bd 4000 y) ∧ pre x y ∧
  ∀ p H', Sm T H H' → H p = none → H' p = some (.tup (tv (g x y))) → Q (.ref p) H'
abbrev sp_p_plus : PySem.W.Frag → Tb → Sp := spBin (fun x y => 0 < x.2 ∧ 0 < y.2) plusA
abbrev sp_p_minus : PySem.W.Frag → Tb → Sp := spBin (fun x y => 0 < x.2 ∧ 0 < y.2) minusA
abbrev sp_p_times : PySem.W.Frag → Tb → Sp := spBin (fun x y => 0 < x.2 ∧ 0 < y.2) timesA
abbrev sp_p_over : PySem.W.Frag → Tb → Sp := spBin (fun x y => 0 < x.2 ∧ 0 < y.2 ∧ y.1 ≠ 0) overA
def sp_p_below (K : PySem.W.Frag) (T : Tb) : Sp := fun vs H Q _ => ∃ a b x y, vs = [.ref a, .ref b] ∧ SqT K H a (tv x) ∧ SqT K H b (tv y) ∧ (Bd 4000 x ∧ Bd 4000 y) ∧ Q (.bl (belowA x y)) H
theorem wm {i j : Int} (hi : i.natAbs < 2 ^ 4000) (hj : j.natAbs < 2 ^ 4000) : CMulW i j := wide_mul hi hj (by decide) (by decide) (by decide)
theorem wl {i j : Int} (hi : i.natAbs < 2 ^ 4000) (hj : j.natAbs < 2 ^ 4000) : (i * j).natAbs < 2 ^ 8900 := Nat.lt_trans (wide_lt hi hj) (Nat.pow_lt_pow_right (by decide) (by decide))

/-! ### amounts as rationals -/
def am (r : Rat) : Am := (r.num, (r.den : Int))
def vl (x : Am) : Rat := (x.1 : Rat) / (x.2 : Rat)
theorem am_low (r : Rat) : Low (am r) := ⟨by have := r.den_nz; show (0 : Int) < (r.den : Int); omega, by show Nat.gcd r.num.natAbs ((r.den : Int)).natAbs = 1; rw [Int.natAbs_natCast]; exact r.reduced⟩
theorem am_pos (r : Rat) : 0 < (am r).2 := (am_low r).1
theorem vl_am (r : Rat) : vl (am r) = r := by
  show (r.num : Rat) / ((r.den : Int) : Rat) = r
  have := Rat.num_divInt_den r
  rw [Rat.divInt_eq_div] at this
  exact this
theorem ci {a b : Int} (h : (a : Rat) = (b : Rat)) : a = b := Rat.intCast_inj.mp h
theorem cn {a : Int} (h : a ≠ 0) : (a : Rat) ≠ 0 := fun z => h (ci z)
theorem cp {a : Int} (h : 0 < a) : (0 : Rat) < (a : Rat) := Rat.intCast_pos.mpr h
theorem vl_eq {x y : Am} (hx : Low x) (hy : Low y) (e : vl x = vl y) : x = y := by
  refine low_eq hx hy (ci ?_)
  have h1 := cn (a := x.2) (by have := hx.1; omega)
  have h2 := cn (a := y.2) (by have := hy.1; omega)
  unfold vl at e
  rw [Rat.intCast_mul, Rat.intCast_mul]
  grind
theorem am_vl {x : Am} (hx : Low x) : am (vl x) = x := vl_eq (am_low _) hx (vl_am _)
theorem am_inj {a b : Rat} (h : am a = am b) : a = b := by rw [← vl_am a, h, vl_am]
theorem vl_amt {n d : Int} (hd : d ≠ 0) : vl (amt n d) = (n : Rat) / (d : Rat) := by
  have s := amt_spec (n := n) hd
  have h1 := cn (a := (amt n d).2) (by have := s.1.1; omega)
  have h2 := cn hd
  have e : (((amt n d).1 * d : Int) : Rat) = ((n * (amt n d).2 : Int) : Rat) := by rw [s.2.1]
  rw [Rat.intCast_mul, Rat.intCast_mul] at e
  unfold vl
  grind
theorem amt_am {n d : Int} (hd : d ≠ 0) : amt n d = am ((n : Rat) / (d : Rat)) := by
  rw [← vl_amt hd, am_vl (amt_spec hd).1]
theorem vle (x : Am) : vl x = (x.1 : Rat) / (x.2 : Rat) := rfl
theorem plus_am (a b : Rat) : plusA (am a) (am b) = am (a + b) := by
  have h1 := am_pos a
  have h2 := am_pos b
  unfold plusA
  rw [amt_am (by exact Int.mul_ne_zero (by omega) (by omega))]
  congr 1
  have e1 := vl_am a
  have e2 := vl_am b
  have k1 := cn (a := (am a).2) (by omega)
  have k2 := cn (a := (am b).2) (by omega)
  unfold vl at e1 e2
  rw [Rat.intCast_add, Rat.intCast_mul, Rat.intCast_mul, Rat.intCast_mul]
  grind
theorem minus_am (a b : Rat) : minusA (am a) (am b) = am (a - b) := by
  have h1 := am_pos a
  have h2 := am_pos b
  unfold minusA
  rw [amt_am (by exact Int.mul_ne_zero (by omega) (by omega))]
  congr 1
  have e1 := vl_am a
  have e2 := vl_am b
  have k1 := cn (a := (am a).2) (by omega)
  have k2 := cn (a := (am b).2) (by omega)
  unfold vl at e1 e2
  rw [Rat.intCast_sub, Rat.intCast_mul, Rat.intCast_mul, Rat.intCast_mul]
  grind
theorem times_am (a b : Rat) : timesA (am a) (am b) = am (a * b) := by
  have h1 := am_pos a
  have h2 := am_pos b
  unfold timesA
  rw [amt_am (by exact Int.mul_ne_zero (by omega) (by omega))]
  congr 1
  have e1 := vl_am a
  have e2 := vl_am b
  have k1 := cn (a := (am a).2) (by omega)
  have k2 := cn (a := (am b).2) (by omega)
  unfold vl at e1 e2
  rw [Rat.intCast_mul, Rat.intCast_mul]
  grind
theorem am_ne {b : Rat} (h : b ≠ 0) : (am b).1 ≠ 0 := fun z => h (by
  rw [← vl_am b]
  unfold vl
  rw [z]
  show (0 : Rat) / _ = 0
  grind)
theorem over_am (a b : Rat) (hb : b ≠ 0) : overA (am a) (am b) = am (a / b) := by
  have h1 := am_pos a
  have h2 := am_pos b
  have h3 := am_ne hb
  unfold overA
  rw [amt_am (by exact Int.mul_ne_zero (by omega) h3)]
  congr 1
  have e1 := vl_am a
  have e2 := vl_am b
  have k1 := cn (a := (am a).2) (by omega)
  have k2 := cn (a := (am b).2) (by omega)
  have k3 := cn h3
  unfold vl at e1 e2
  rw [Rat.intCast_mul, Rat.intCast_mul]
  grind
theorem below_am (a b : Rat) : belowA (am a) (am b) = decide (a < b) := by
  have h1 := am_pos a
  have h2 := am_pos b
  have k1 := cp h1
  have k2 := cp h2
  have e1 := vl_am a
  have e2 := vl_am b
  unfold belowA
  rw [decide_eq_decide, ← Rat.intCast_lt_intCast, Rat.intCast_mul, Rat.intCast_mul]
  unfold vl at e1 e2
  have f1 : ((am a).1 : Rat) = a * ((am a).2 : Rat) := by grind
  have f2 : ((am b).1 : Rat) = b * ((am b).2 : Rat) := by grind
  rw [f1, f2]
  have k3 := Rat.mul_pos k1 k2
  constructor
  · intro h
    by_cases z : a < b
    · exact z
    · have := Rat.mul_le_mul_of_nonneg_right (a := b) (b := a) (Rat.not_lt.mp z) (Rat.le_of_lt k3)
      grind
  · intro h
    have := Rat.mul_lt_mul_of_pos_right h k3
    grind
theorem am_int (z : Int) : am (z : Rat) = (z, 1) := by
  refine vl_eq (am_low _) ⟨by show (0 : Int) < 1; decide, by show Nat.gcd _ 1 = 1; exact Nat.gcd_one_right _⟩ ?_
  rw [vl_am]
  show (z : Rat) = (z : Rat) / ((1 : Int) : Rat)
  have : ((1 : Int) : Rat) = 1 := rfl
  rw [this]
  grind
theorem am_zero : am 0 = (0, 1) := am_int 0
theorem am_one : am 1 = (1, 1) := am_int 1
theorem am_eq_iff {a b : Rat} : am a = am b ↔ a = b := ⟨am_inj, fun h => by rw [h]⟩
theorem sub_nn {a b : Rat} (h : a < b) : 0 ≤ b - a := by grind
theorem sub_nn' {a b : Rat} (h : a ≤ b) : 0 ≤ b - a := by grind
theorem sub_le' {a b c : Rat} (h : b ≤ c) (h0 : 0 ≤ a) : b - a ≤ c := by grind
theorem neg_le {a c : Rat} (h : 0 ≤ a) (hc : 0 ≤ c) : -c ≤ a := by grind

/-! ### walking -/
def mnI (p q : Int) : Int := if q < p then q else p
def spd : List Int → List Rat → List Int
  | p :: ns, x :: xs => (match xs, spd ns xs with
      | y :: _, s :: _ => if x = y then mnI p s else p
      | _, _ => p) :: spd ns xs
  | _, _ => []
theorem spd_len : ∀ (ns : List Int) (xs : List Rat), ns.length = xs.length → (spd ns xs).length = ns.length
  | [], [], _ => rfl
  | [], _ :: _, h => by simp at h
  | _ :: _, [], h => by simp at h
  | p :: ns, x :: xs, h => by
    have := spd_len ns xs (by simpa using h)
    simp only [spd, List.length_cons, this]
theorem spd_step {ns : List Int} {xs : List Rat} (hl : ns.length = xs.length) {j : Nat} (hj : j < ns.length) :
    spd (ns.drop j) (xs.drop j) = (if h : j + 1 < ns.length then (if xs[j] = xs[j + 1] then mnI ns[j] ((spd (ns.drop (j + 1)) (xs.drop (j + 1))).headD 0) else ns[j]) else ns[j]) :: spd (ns.drop (j + 1)) (xs.drop (j + 1)) := by
  rw [List.drop_eq_getElem_cons hj, List.drop_eq_getElem_cons (show j < xs.length by omega)]
  by_cases h : j + 1 < ns.length
  · rw [dif_pos h]
    have e2 := List.drop_eq_getElem_cons (show j + 1 < xs.length by omega)
    have l := spd_len (ns.drop (j + 1)) (xs.drop (j + 1)) (by rw [List.length_drop, List.length_drop, hl])
    simp only [spd]
    cases hs : spd (ns.drop (j + 1)) (xs.drop (j + 1)) with
    | nil => rw [hs, List.length_drop] at l; simp at l; omega
    | cons s r =>
      rw [e2]
      simp
  · rw [dif_neg h]
    have e1 : ns.drop (j + 1) = [] := List.drop_eq_nil_of_le (by omega)
    have e2 : xs.drop (j + 1) = [] := List.drop_eq_nil_of_le (by omega)
    rw [e1, e2]
    simp [spd]
/-- the law's own -/
def ptl (x : Rat) : Int → List Int → List Rat → Int
  | p, q :: ns, y :: ys => ptl x (if y = x then mnI p q else p) ns ys
  | p, _, _ => p
theorem mnI_assoc (p q r : Int) : mnI (mnI p q) r = mnI p (mnI q r) := by unfold mnI; grind
theorem ptl_min (x : Rat) (p : Int) : ∀ (q : Int) (ns : List Int) (ys : List Rat), ptl x (mnI p q) ns ys = mnI p (ptl x q ns ys)
  | q, [], _ => by cases ‹List Rat› <;> rfl
  | q, _ :: _, [] => rfl
  | q, r :: ns, y :: ys => by
    simp only [ptl]
    by_cases h : y = x
    · rw [if_pos h, if_pos h, mnI_assoc, ptl_min x p]
    · rw [if_neg h, if_neg h, ptl_min x p]
theorem ptl_none (x : Rat) (p : Int) : ∀ (ns : List Int) (ys : List Rat), (∀ y ∈ ys, y ≠ x) → ptl x p ns ys = p
  | [], _, _ => by cases ‹List Rat› <;> rfl
  | _ :: _, [], _ => rfl
  | r :: ns, y :: ys, h => by
    simp only [ptl]
    rw [if_neg (h y List.mem_cons_self)]
    exact ptl_none x p ns ys fun z hz => h z (List.mem_cons_of_mem _ hz)
theorem spd_ptl : ∀ (p : Int) (x : Rat) (ns : List Int) (xs : List Rat), ns.length = xs.length → (x :: xs).Pairwise (· ≤ ·) → (spd (p :: ns) (x :: xs)).headD 0 = ptl x p ns xs
  | p, x, [], [], _, _ => rfl
  | _, _, [], _ :: _, h, _ => by simp at h
  | _, _, _ :: _, [], h, _ => by simp at h
  | p, x, q :: ns, y :: ys, h, hp => by
    have hp' := List.pairwise_cons.mp hp
    have ih := spd_ptl q y ns ys (by simpa using h) hp'.2
    have l := spd_len (q :: ns) (y :: ys) h
    cases hs : spd (q :: ns) (y :: ys) with
    | nil => rw [hs] at l; simp at l
    | cons s r =>
      rw [hs, List.headD_cons] at ih
      have e0 : spd (p :: q :: ns) (x :: y :: ys) = (if x = y then mnI p s else p) :: (s :: r) := by
        have : spd (p :: q :: ns) (x :: y :: ys) = (match y :: ys, spd (q :: ns) (y :: ys) with | y :: _, s :: _ => if x = y then mnI p s else p | _, _ => p) :: spd (q :: ns) (y :: ys) := rfl
        rw [this, hs]
      rw [e0, List.headD_cons]
      simp only [ptl]
      by_cases e : x = y
      · subst e
        rw [if_pos rfl, if_pos rfl, ptl_min, ih]
      · have hxy := hp'.1 y List.mem_cons_self
        have hl := (List.pairwise_cons.mp hp'.2).1
        rw [if_neg e, if_neg (fun z => e z.symm)]
        refine (ptl_none x p ns ys fun z hz => ?_).symm
        have := hl z hz
        grind
theorem spd_get {ns : List Int} {xs : List Rat} (hl : ns.length = xs.length) (hp : xs.Pairwise (· ≤ ·)) : ∀ {j : Nat} (hj : j < ns.length), (spd ns xs)[j]? = some (ptl xs[j] ns[j] (ns.drop (j + 1)) (xs.drop (j + 1))) := by
  intro j hj
  induction j generalizing ns xs with
  | zero =>
    match ns, xs, hl, hp, hj with
    | p :: ns, x :: xs, hl, hp, _ =>
      have := spd_ptl p x ns xs (by simpa using hl) hp
      simp only [spd] at this ⊢
      simp only [List.headD_cons] at this
      simp [this]
  | succ j ih =>
    match ns, xs, hl, hp, hj with
    | p :: ns, x :: xs, hl, hp, hj =>
      have := ih (ns := ns) (xs := xs) (by simpa using hl) (List.pairwise_cons.mp hp).2 (by simpa using hj)
      simp only [spd]
      simpa using this

/-! ### amounts over a common lower number -/
def Fr (D : Int) (r : Rat) : Prop := ∃ z : Int, r = (z : Rat) / (D : Rat)
theorem Fr.add {D : Int} {a b : Rat} (ha : Fr D a) (hb : Fr D b) : Fr D (a + b) := by
  obtain ⟨x, rfl⟩ := ha
  obtain ⟨y, rfl⟩ := hb
  exact ⟨x + y, by rw [Rat.intCast_add]; grind⟩
theorem Fr.sub {D : Int} {a b : Rat} (ha : Fr D a) (hb : Fr D b) : Fr D (a - b) := by
  obtain ⟨x, rfl⟩ := ha
  obtain ⟨y, rfl⟩ := hb
  exact ⟨x - y, by rw [Rat.intCast_sub]; grind⟩
theorem Fr.mulI {D : Int} {a : Rat} (ha : Fr D a) (k : Int) : Fr D ((k : Rat) * a) := by
  obtain ⟨x, rfl⟩ := ha
  exact ⟨k * x, by rw [Rat.intCast_mul]; grind⟩
theorem Fr.divI {D : Int} {a : Rat} (hD : D ≠ 0) (ha : Fr D a) {k : Int} (hk : k ≠ 0) : Fr (D * k) (a / (k : Rat)) := by
  obtain ⟨x, rfl⟩ := ha
  have h1 := cn hD
  have h2 := cn hk
  exact ⟨x, by rw [Rat.intCast_mul]; grind⟩
theorem Fr.int {D : Int} (hD : D ≠ 0) (k : Int) : Fr D (k : Rat) := ⟨k * D, by have := cn hD; rw [Rat.intCast_mul]; grind⟩
theorem Fr.zero {D : Int} (hD : D ≠ 0) : Fr D 0 := Fr.int hD 0
theorem Fr.scale {D : Int} {a : Rat} (hD : D ≠ 0) (ha : Fr D a) {k : Int} (hk : k ≠ 0) : Fr (D * k) a := by
  obtain ⟨x, rfl⟩ := ha
  have h1 := cn hD
  have h2 := cn hk
  exact ⟨x * k, by rw [Rat.intCast_mul, Rat.intCast_mul]; grind⟩
theorem Fr.of {n d D k : Int} (hd : d ≠ 0) (hk : k ≠ 0) (e : D = d * k) : Fr D ((n : Rat) / (d : Rat)) := by
  subst e
  have h1 := cn hd
  have h2 := cn hk
  exact ⟨n * k, by rw [Rat.intCast_mul, Rat.intCast_mul]; grind⟩
theorem ile {a b : Int} (h : (a : Rat) ≤ (b : Rat)) : a ≤ b := Rat.intCast_le_intCast.mp h
theorem fr_bd {D B : Int} {r : Rat} {k : Nat} (hD : 0 < D) (h : Fr D r) (h0 : -(B : Rat) ≤ r) (h1 : r ≤ (B : Rat)) (hb : (B * D).natAbs < 2 ^ k) (hd : D.natAbs < 2 ^ k) : Bd k (am r) := by
  obtain ⟨z, rfl⟩ := h
  have kD := cp hD
  have e1 : z ≤ B * D := ile (by
    rw [Rat.intCast_mul]
    have := Rat.mul_le_mul_of_nonneg_right h1 (Rat.le_of_lt kD)
    rw [Rat.div_mul_cancel (cn (by omega))] at this
    exact this)
  have e2 : -(B * D) ≤ z := ile (by
    rw [Rat.intCast_neg, Rat.intCast_mul]
    have := Rat.mul_le_mul_of_nonneg_right h0 (Rat.le_of_lt kD)
    rw [Rat.div_mul_cancel (cn (by omega)), Rat.neg_mul] at this
    exact this)
  have s := amt_spec (n := z) (d := D) (by omega)
  rw [← amt_am (by omega)]
  exact ⟨Nat.lt_of_le_of_lt (Nat.le_trans s.2.2.1 (by omega)) hb, Nat.lt_of_le_of_lt s.2.2.2 hd⟩

/-! ### meetings -/
def mnR (a b : Rat) : Rat := if b < a then b else a
def meetF (g : List Int) (ps : List Rat) (h : Rat) : Nat → Rat
  | 0 => h
  | i + 1 => if g.getD (i + 1) 0 < g.getD i 0 then mnR (meetF g ps h i) ((ps.getD (i + 1) 0 - ps.getD i 0) / ((g.getD i 0 - g.getD (i + 1) 0 : Int) : Rat)) else meetF g ps h i
def lastH (L : Int) (ns : List Int) (ps : List Rat) : Rat := ((L : Rat) - ps.getD (ns.length - 1) 0) / ((ns.getD (ns.length - 1) 0 : Int) : Rat)
def meetM (L : Int) (ns : List Int) (ps : List Rat) : Rat := meetF (spd ns ps) ps (lastH L ns ps) (ns.length - 1)
/-- hands on a way of labour L, all places over D -/
structure Wk (D L : Int) (ns : List Int) (ps : List Rat) : Prop where
  eq : ns.length = ps.length
  n8 : ns.length ≤ 8
  pace : ∀ n ∈ ns, 1 ≤ n ∧ n ≤ 12
  rise : ps.Pairwise (· ≤ ·)
  nn : ∀ p ∈ ps, 0 ≤ p
  fire : ∀ p ∈ ps, p ≤ (L : Rat)
  fr : ∀ p ∈ ps, Fr D p
theorem getD_mem {α : Type} {l : List α} {i : Nat} {d : α} (h : i < l.length) : l.getD i d ∈ l := by
  rw [List.getD_eq_getElem?_getD, List.getElem?_eq_getElem h]
  exact List.getElem_mem h
theorem getD_lt {α : Type} {l : List α} {i : Nat} {d : α} (h : i < l.length) : l.getD i d = l[i] := by
  rw [List.getD_eq_getElem?_getD, List.getElem?_eq_getElem h]
  rfl
theorem spd_at {ns : List Int} {xs : List Rat} (hl : ns.length = xs.length) {j : Nat} (hj : j < ns.length) : (spd ns xs).drop j = spd (ns.drop j) (xs.drop j) := by
  induction j generalizing ns xs with
  | zero => rfl
  | succ j ih =>
    match ns, xs, hl, hj with
    | p :: ns, x :: xs, hl, hj =>
      simp only [spd, List.drop_succ_cons]
      exact ih (by simpa using hl) (by simpa using hj)
theorem spd_rec {ns : List Int} {xs : List Rat} (hl : ns.length = xs.length) {j : Nat} (hj : j < ns.length) :
    (spd ns xs).getD j 0 = if j + 1 < ns.length ∧ xs.getD j 0 = xs.getD (j + 1) 0 then mnI (ns.getD j 0) ((spd ns xs).getD (j + 1) 0) else ns.getD j 0 := by
  have st := spd_step hl hj
  have e0 : (spd ns xs).getD j 0 = ((spd ns xs).drop j).headD 0 := by
    rw [List.getD_eq_getElem?_getD, List.headD_eq_head?_getD, List.head?_drop]
  rw [e0, spd_at hl hj, st, List.headD_cons, getD_lt hj]
  by_cases h : j + 1 < ns.length
  · rw [dif_pos h, getD_lt (show j < xs.length by omega), getD_lt (show j + 1 < xs.length by omega)]
    have e1 : (spd (ns.drop (j + 1)) (xs.drop (j + 1))).headD 0 = (spd ns xs).getD (j + 1) 0 := by
      rw [← spd_at hl h, List.getD_eq_getElem?_getD, List.headD_eq_head?_getD, List.head?_drop]
    rw [e1]
    by_cases e : xs[j] = xs[j + 1]
    · rw [if_pos e, if_pos ⟨h, e⟩]
    · rw [if_neg e, if_neg (fun z => e z.2)]
  · rw [dif_neg h, if_neg (fun z => h z.1)]
theorem mnI_le_l (p q : Int) : mnI p q ≤ p := by unfold mnI; split <;> omega
theorem mnI_le_r (p q : Int) : mnI p q ≤ q := by unfold mnI; split <;> omega
section
variable {D L : Int} {ns : List Int} {ps : List Rat}
theorem spd_bd (w : Wk D L ns ps) : ∀ {j : Nat}, j < ns.length → 1 ≤ (spd ns ps).getD j 0 ∧ (spd ns ps).getD j 0 ≤ 12 := by
  have key : ∀ k j, j < ns.length → ns.length - j ≤ k → 1 ≤ (spd ns ps).getD j 0 ∧ (spd ns ps).getD j 0 ≤ 12 := by
    intro k
    induction k with
    | zero => intro j h1 h2; omega
    | succ k ih =>
      intro j h1 h2
      have hp := w.pace _ (getD_mem (d := 0) h1)
      rw [spd_rec w.eq h1]
      split
      · rename_i h
        have := ih (j + 1) h.1 (by omega)
        unfold mnI
        split <;> omega
      · exact hp
  intro j h
  exact key _ j h (Nat.le_refl _)
theorem spd_same (w : Wk D L ns ps) {j : Nat} (h : j + 1 < ns.length) (e : ps.getD j 0 = ps.getD (j + 1) 0) : (spd ns ps).getD j 0 ≤ (spd ns ps).getD (j + 1) 0 := by
  rw [spd_rec w.eq (show j < ns.length by omega), if_pos ⟨h, e⟩]
  exact mnI_le_r _ _
theorem spd_last (w : Wk D L ns ps) (h : 0 < ns.length) : (spd ns ps).getD (ns.length - 1) 0 = ns.getD (ns.length - 1) 0 := by
  rw [spd_rec w.eq (by omega), if_neg (fun z => by omega)]
theorem ps_le (w : Wk D L ns ps) {j : Nat} (h : j + 1 < ns.length) : ps.getD j 0 ≤ ps.getD (j + 1) 0 := by
  have h2 : j + 1 < ps.length := by have := w.eq; omega
  rw [getD_lt (show j < ps.length by omega), getD_lt h2]
  exact List.pairwise_iff_getElem.mp w.rise j (j + 1) (by omega) h2 (by omega)
/-- where the one behind is quicker, they are apart -/
theorem apart (w : Wk D L ns ps) {j : Nat} (h : j + 1 < ns.length) (g : (spd ns ps).getD (j + 1) 0 < (spd ns ps).getD j 0) : ps.getD j 0 < ps.getD (j + 1) 0 := by
  have h1 := ps_le w h
  by_cases e : ps.getD j 0 = ps.getD (j + 1) 0
  · have := spd_same w h e
    omega
  · grind
theorem mnR_le_l (a b : Rat) : mnR a b ≤ a := by unfold mnR; split <;> grind
theorem mnR_le_r (a b : Rat) : mnR a b ≤ b := by unfold mnR; split <;> grind
theorem mnR_or (a b : Rat) : mnR a b = a ∨ mnR a b = b := by unfold mnR; split <;> simp
def cand (g : List Int) (ps : List Rat) (j : Nat) : Rat := (ps.getD (j + 1) 0 - ps.getD j 0) / ((g.getD j 0 - g.getD (j + 1) 0 : Int) : Rat)
theorem meetF_or (g : List Int) (ps : List Rat) (h : Rat) : ∀ i, meetF g ps h i = h ∨ ∃ j, j < i ∧ g.getD (j + 1) 0 < g.getD j 0 ∧ meetF g ps h i = cand g ps j
  | 0 => .inl rfl
  | i + 1 => by
    simp only [meetF]
    split
    · rename_i hg
      rcases mnR_or (meetF g ps h i) ((ps.getD (i + 1) 0 - ps.getD i 0) / ((g.getD i 0 - g.getD (i + 1) 0 : Int) : Rat)) with e | e
      · rw [e]
        rcases meetF_or g ps h i with e | ⟨j, hj, hgj, e⟩
        · exact .inl e
        · exact .inr ⟨j, by omega, hgj, e⟩
      · rw [e]
        exact .inr ⟨i, by omega, hg, rfl⟩
    · rcases meetF_or g ps h i with e | ⟨j, hj, hgj, e⟩
      · exact .inl e
      · exact .inr ⟨j, by omega, hgj, e⟩
theorem meetF_le (g : List Int) (ps : List Rat) (h : Rat) : ∀ i, meetF g ps h i ≤ h ∧ ∀ j, j < i → g.getD (j + 1) 0 < g.getD j 0 → meetF g ps h i ≤ cand g ps j
  | 0 => ⟨by simp only [meetF]; grind, fun j hj => by omega⟩
  | i + 1 => by
    have ih := meetF_le g ps h i
    simp only [meetF]
    split
    · rename_i hg
      have a := mnR_le_l (meetF g ps h i) ((ps.getD (i + 1) 0 - ps.getD i 0) / ((g.getD i 0 - g.getD (i + 1) 0 : Int) : Rat))
      have b := mnR_le_r (meetF g ps h i) ((ps.getD (i + 1) 0 - ps.getD i 0) / ((g.getD i 0 - g.getD (i + 1) 0 : Int) : Rat))
      refine ⟨by grind, fun j hj hgj => ?_⟩
      by_cases e : j = i
      · subst e; exact b
      · have := ih.2 j (by omega) hgj
        grind
    · rename_i hg
      refine ⟨ih.1, fun j hj hgj => ?_⟩
      by_cases e : j = i
      · subst e; exact absurd hgj hg
      · exact ih.2 j (by omega) hgj
theorem lt_div {a b : Rat} {k : Int} (hk : 0 < k) (h : a < b) : 0 < (b - a) / (k : Rat) := (Rat.lt_div_iff (cp hk)).mpr (by rw [Rat.zero_mul]; grind)
theorem div_mul {a : Rat} {k : Int} (hk : 0 < k) : a / (k : Rat) * (k : Rat) = a := Rat.div_mul_cancel (cn (by omega))
theorem div_le1 {a : Rat} {k : Int} (hk : 1 ≤ k) (ha : 0 ≤ a) : a / (k : Rat) ≤ a := by
  have e := div_mul (a := a) (show 0 < k by omega)
  have kp := cp (show 0 < k by omega)
  have h1 : (1 : Rat) ≤ (k : Rat) := Rat.intCast_le_intCast.mpr hk
  by_cases c : a / (k : Rat) < 0
  · have := Rat.mul_lt_mul_of_pos_right c kp
    grind
  · have := Rat.mul_le_mul_of_nonneg_left h1 (Rat.not_lt.mp c)
    grind
/-- the hours up to the i-th step of the search: over one of 1 to 12 parts -/
theorem meetF_ok (w : Wk D L ns ps) (hD : D ≠ 0) (hn : 0 < ns.length) {i : Nat} (hi : i ≤ ns.length - 1) : ∃ k : Int, 1 ≤ k ∧ k ≤ 12 ∧ Fr (D * k) (meetF (spd ns ps) ps (lastH L ns ps) i) ∧ 0 ≤ meetF (spd ns ps) ps (lastH L ns ps) i ∧ meetF (spd ns ps) ps (lastH L ns ps) i ≤ (L : Rat) := by
  have hle := w.eq
  have p0 := w.pace _ (getD_mem (d := 0) (show ns.length - 1 < ns.length by omega))
  have q0 := w.nn _ (getD_mem (d := 0) (show ns.length - 1 < ps.length by omega))
  have q1 := w.fire _ (getD_mem (d := 0) (show ns.length - 1 < ps.length by omega))
  have q2 := w.fr _ (getD_mem (d := 0) (show ns.length - 1 < ps.length by omega))
  have dp := cp (show 0 < ns.getD (ns.length - 1) 0 by omega)
  have em : lastH L ns ps * ((ns.getD (ns.length - 1) 0 : Int) : Rat) = (L : Rat) - ps.getD (ns.length - 1) 0 := div_mul (by omega)
  have h1 : (1 : Rat) ≤ ((ns.getD (ns.length - 1) 0 : Int) : Rat) := Rat.intCast_le_intCast.mpr p0.1
  have l0 : 0 ≤ lastH L ns ps := by
    by_cases c : lastH L ns ps < 0
    · have := Rat.mul_lt_mul_of_pos_right c dp
      grind
    · exact Rat.not_lt.mp c
  have lL : lastH L ns ps ≤ (L : Rat) := by
    have := Rat.mul_le_mul_of_nonneg_left h1 l0
    grind
  rcases meetF_or (spd ns ps) ps (lastH L ns ps) i with e | ⟨j, hj, hg, e⟩
  · rw [e]
    exact ⟨_, p0.1, p0.2, ((Fr.int hD L).sub q2).divI hD (by omega), l0, lL⟩
  · rw [e]
    have hj1 : j + 1 < ns.length := by omega
    have b0 := spd_bd w (show j < ns.length by omega)
    have b1 := spd_bd w hj1
    have ap := apart w hj1 hg
    have r2 := w.fr _ (getD_mem (d := 0) (show j < ps.length by omega))
    have r3 := w.fr _ (getD_mem (d := 0) (show j + 1 < ps.length by omega))
    refine ⟨(spd ns ps).getD j 0 - (spd ns ps).getD (j + 1) 0, by omega, by omega, (r3.sub r2).divI hD (by omega), Rat.le_of_lt (lt_div (by omega) ap), ?_⟩
    rw [← e]
    exact Rat.le_trans (meetF_le (spd ns ps) ps (lastH L ns ps) i).1 lL
theorem meet_pos (w : Wk D L ns ps) (hn : 0 < ns.length) (hf : ∀ p ∈ ps, p < (L : Rat)) : 0 < meetM L ns ps := by
  have hle := w.eq
  unfold meetM
  rcases meetF_or (spd ns ps) ps (lastH L ns ps) (ns.length - 1) with e | ⟨j, hj, hg, e⟩
  · rw [e]
    have p0 := w.pace _ (getD_mem (d := 0) (show ns.length - 1 < ns.length by omega))
    exact lt_div (by omega) (hf _ (getD_mem (d := 0) (show ns.length - 1 < ps.length by omega)))
  · rw [e]
    exact lt_div (by omega) (apart w (by omega) hg)
/-- for so long nobody is beyond the next one -/
theorem meet_order (w : Wk D L ns ps) {t : Rat} (h0 : 0 ≤ t) (ht : t ≤ meetM L ns ps) {j : Nat} (hj : j + 1 < ns.length) :
    ps.getD j 0 + t * (((spd ns ps).getD j 0 : Int) : Rat) ≤ ps.getD (j + 1) 0 + t * (((spd ns ps).getD (j + 1) 0 : Int) : Rat) := by
  have h1 := ps_le w hj
  by_cases g : (spd ns ps).getD (j + 1) 0 < (spd ns ps).getD j 0
  · have c := (meetF_le (spd ns ps) ps (lastH L ns ps) (ns.length - 1)).2 j (by omega) g
    have c2 : t ≤ cand (spd ns ps) ps j := Rat.le_trans ht c
    have kp := cp (show 0 < (spd ns ps).getD j 0 - (spd ns ps).getD (j + 1) 0 by omega)
    have e : cand (spd ns ps) ps j * (((spd ns ps).getD j 0 - (spd ns ps).getD (j + 1) 0 : Int) : Rat) = ps.getD (j + 1) 0 - ps.getD j 0 := div_mul (by omega)
    have := Rat.mul_le_mul_of_nonneg_right c2 (Rat.le_of_lt kp)
    rw [e, Rat.intCast_sub] at this
    grind
  · have k : (((spd ns ps).getD j 0 : Int) : Rat) ≤ (((spd ns ps).getD (j + 1) 0 : Int) : Rat) := Rat.intCast_le_intCast.mpr (by omega)
    have := Rat.mul_le_mul_of_nonneg_left k h0
    grind
theorem meet_fire (w : Wk D L ns ps) (hn : 0 < ns.length) {t : Rat} (ht : t ≤ meetM L ns ps) : ps.getD (ns.length - 1) 0 + t * (((spd ns ps).getD (ns.length - 1) 0 : Int) : Rat) ≤ (L : Rat) := by
  have c := (meetF_le (spd ns ps) ps (lastH L ns ps) (ns.length - 1)).1
  have c2 : t ≤ lastH L ns ps := Rat.le_trans ht c
  have p0 := w.pace _ (getD_mem (d := 0) (show ns.length - 1 < ns.length by omega))
  have e : lastH L ns ps * ((ns.getD (ns.length - 1) 0 : Int) : Rat) = (L : Rat) - ps.getD (ns.length - 1) 0 := div_mul (by omega)
  rw [spd_last w hn]
  have := Rat.mul_le_mul_of_nonneg_right c2 (Rat.le_of_lt (cp (show 0 < ns.getD (ns.length - 1) 0 by omega)))
  grind
/-- somebody has come up -/
theorem meet_come (w : Wk D L ns ps) (hn : 0 < ns.length) : (ps.getD (ns.length - 1) 0 + meetM L ns ps * (((spd ns ps).getD (ns.length - 1) 0 : Int) : Rat) = (L : Rat)) ∨
    ∃ j, j + 1 < ns.length ∧ ps.getD j 0 ≠ ps.getD (j + 1) 0 ∧ ps.getD j 0 + meetM L ns ps * (((spd ns ps).getD j 0 : Int) : Rat) = ps.getD (j + 1) 0 + meetM L ns ps * (((spd ns ps).getD (j + 1) 0 : Int) : Rat) := by
  have p0 := w.pace _ (getD_mem (d := 0) (show ns.length - 1 < ns.length by omega))
  unfold meetM
  rcases meetF_or (spd ns ps) ps (lastH L ns ps) (ns.length - 1) with e | ⟨j, hj, hg, e⟩
  · refine .inl ?_
    rw [e, spd_last w hn]
    have e : lastH L ns ps * ((ns.getD (ns.length - 1) 0 : Int) : Rat) = (L : Rat) - ps.getD (ns.length - 1) 0 := div_mul (by omega)
    grind
  · refine .inr ⟨j, by omega, ?_, ?_⟩
    · have := apart w (j := j) (by omega) hg
      grind
    · rw [e]
      have e : cand (spd ns ps) ps j * (((spd ns ps).getD j 0 - (spd ns ps).getD (j + 1) 0 : Int) : Rat) = ps.getD (j + 1) 0 - ps.getD j 0 := div_mul (by omega)
      rw [Rat.intCast_sub] at e
      grind
end

/-! ### shares -/
structure Ris (ns : List Int) : Prop where
  n1 : 1 ≤ ns.length
  n8 : ns.length ≤ 8
  pace : ∀ n ∈ ns, 1 ≤ n ∧ n ≤ 12
  rise : ns.Pairwise (· ≤ ·)
def prt (ns : List Int) (j : Nat) : Rat := ((ns.getD (j - 1) 0 : Int) : Rat) / ((ns.getD j 0 : Int) : Rat)
def boR (ns : List Int) (xs : List Rat) (j : Nat) : Rat := if j = 0 then xs.getD (ns.length - 1) 0 else prt ns j * xs.getD (j - 1) 0 + (1 - prt ns j) * xs.getD (ns.length - 1) 0
def bo (ns : List Int) (xs : List Rat) : List Rat := (List.range ns.length).map (boR ns xs)
def rnd (ns : List Int) (xs : List Rat) : Nat → List Rat
  | 0 => xs
  | r + 1 => bo ns (rnd ns xs r)
theorem bo_len (ns : List Int) (xs : List Rat) : (bo ns xs).length = ns.length := by unfold bo; rw [List.length_map, List.length_range]
theorem rnd_len {ns : List Int} {xs : List Rat} (h : xs.length = ns.length) : ∀ r, (rnd ns xs r).length = ns.length
  | 0 => h
  | _ + 1 => bo_len _ _
theorem bo_get {ns : List Int} {xs : List Rat} {j : Nat} (h : j < ns.length) : (bo ns xs).getD j 0 = boR ns xs j := by
  unfold bo
  rw [List.getD_eq_getElem?_getD, List.getElem?_map, List.getElem?_range h]
  rfl
theorem rnd_add (ns : List Int) (xs : List Rat) (a : Nat) : ∀ b, rnd ns xs (a + b) = rnd ns (rnd ns xs a) b
  | 0 => rfl
  | b + 1 => by
    show bo ns (rnd ns xs (a + b)) = bo ns (rnd ns (rnd ns xs a) b)
    rw [rnd_add ns xs a b]
theorem m12 {b : Int} (h1 : 1 ≤ b) (h2 : b ≤ 12) : ∃ m : Int, m ≠ 0 ∧ b * m = 27720 := by
  rcases (by omega : b = 1 ∨ b = 2 ∨ b = 3 ∨ b = 4 ∨ b = 5 ∨ b = 6 ∨ b = 7 ∨ b = 8 ∨ b = 9 ∨ b = 10 ∨ b = 11 ∨ b = 12) with rfl | rfl | rfl | rfl | rfl | rfl | rfl | rfl | rfl | rfl | rfl | rfl
  · exact ⟨27720, by decide, by decide⟩
  · exact ⟨13860, by decide, by decide⟩
  · exact ⟨9240, by decide, by decide⟩
  · exact ⟨6930, by decide, by decide⟩
  · exact ⟨5544, by decide, by decide⟩
  · exact ⟨4620, by decide, by decide⟩
  · exact ⟨3960, by decide, by decide⟩
  · exact ⟨3465, by decide, by decide⟩
  · exact ⟨3080, by decide, by decide⟩
  · exact ⟨2772, by decide, by decide⟩
  · exact ⟨2520, by decide, by decide⟩
  · exact ⟨2310, by decide, by decide⟩
theorem Fr.div12 {D b : Int} {a : Rat} (hD : D ≠ 0) (h : Fr D a) (h1 : 1 ≤ b) (h2 : b ≤ 12) : Fr (D * 27720) (a / (b : Rat)) := by
  obtain ⟨m, hm, e⟩ := m12 h1 h2
  have := (h.divI hD (k := b) (by omega)).scale (Int.mul_ne_zero hD (by omega)) hm
  rw [Int.mul_assoc, e] at this
  exact this
theorem Fr.up {D : Int} {a : Rat} (hD : D ≠ 0) (h : Fr D a) : Fr (D * 27720) a := h.scale hD (by decide)
theorem getI {l : List Int} {j : Nat} (h : j < l.length) : l[j]? = some (l.getD j 0) := by
  rw [List.getD_eq_getElem?_getD, List.getElem?_eq_getElem h]
  rfl
theorem ris_at {ns : List Int} (w : Ris ns) {j : Nat} (h : j < ns.length) : 1 ≤ ns.getD j 0 ∧ ns.getD j 0 ≤ 12 := w.pace _ (getD_mem h)
theorem ris_le {ns : List Int} (w : Ris ns) {j : Nat} (h : j < ns.length) : ns.getD (j - 1) 0 ≤ ns.getD j 0 := by
  by_cases c : j = 0
  · subst c; exact Int.le_refl _
  · rw [getD_lt h, getD_lt (show j - 1 < ns.length by omega)]
    exact List.pairwise_iff_getElem.mp w.rise (j - 1) j (by omega) h (by omega)
theorem prt_ok {ns : List Int} (w : Ris ns) {j : Nat} (h : j < ns.length) : 0 ≤ prt ns j ∧ prt ns j ≤ 1 ∧ Fr 27720 (prt ns j) ∧ prt ns j * ((ns.getD j 0 : Int) : Rat) = ((ns.getD (j - 1) 0 : Int) : Rat) := by
  have a := ris_at w h
  have b := ris_at w (show j - 1 < ns.length by omega)
  have l := ris_le w h
  have e : prt ns j * ((ns.getD j 0 : Int) : Rat) = ((ns.getD (j - 1) 0 : Int) : Rat) := div_mul (by omega)
  have kp := cp (show 0 < ns.getD j 0 by omega)
  have l' : ((ns.getD (j - 1) 0 : Int) : Rat) ≤ ((ns.getD j 0 : Int) : Rat) := Rat.intCast_le_intCast.mpr l
  have b' : (0 : Rat) < ((ns.getD (j - 1) 0 : Int) : Rat) := cp (by omega)
  refine ⟨?_, ?_, ?_, e⟩
  · by_cases c : prt ns j < 0
    · have := Rat.mul_lt_mul_of_pos_right c kp
      grind
    · exact Rat.not_lt.mp c
  · by_cases c : 1 < prt ns j
    · have := Rat.mul_lt_mul_of_pos_right c kp
      grind
    · exact Rat.not_lt.mp c
  · have := (Fr.int (D := 1) (by decide) (ns.getD (j - 1) 0)).div12 (b := ns.getD j 0) (by decide) a.1 a.2
    exact this
theorem prt_mul {ns : List Int} (w : Ris ns) {D : Int} {x : Rat} (hD : D ≠ 0) (hx : Fr D x) {j : Nat} (h : j < ns.length) : Fr (D * 27720) (prt ns j * x) := by
  have a := ris_at w h
  have e : prt ns j * x = (((ns.getD (j - 1) 0 : Int) : Rat) * x) / ((ns.getD j 0 : Int) : Rat) := by
    unfold prt
    have := cn (a := ns.getD j 0) (by omega)
    grind
  rw [e]
  exact (hx.mulI _).div12 hD a.1 a.2
theorem mix_rng {p x l B : Rat} (p0 : 0 ≤ p) (p1 : p ≤ 1) (x0 : 0 ≤ x) (x1 : x ≤ B) (l0 : 0 ≤ l) (l1 : l ≤ B) : (0 ≤ p * x ∧ p * x ≤ B) ∧ (0 ≤ (1 - p) * l ∧ (1 - p) * l ≤ B) ∧ 0 ≤ p * x + (1 - p) * l ∧ p * x + (1 - p) * l ≤ B := by
  have q0 : 0 ≤ 1 - p := by grind
  have a := Rat.mul_nonneg p0 x0
  have b := Rat.mul_nonneg q0 l0
  have c := Rat.mul_le_mul_of_nonneg_left x1 p0
  have d := Rat.mul_le_mul_of_nonneg_left l1 q0
  have B0 : 0 ≤ B := Rat.le_trans x0 x1
  have e := Rat.mul_le_mul_of_nonneg_right p1 B0
  have f := Rat.mul_nonneg p0 B0
  refine ⟨⟨a, by grind⟩, ⟨b, by grind⟩, by grind, by grind⟩
theorem bo_ok {ns : List Int} (w : Ris ns) {D : Int} {xs : List Rat} {B : Rat} (hD : D ≠ 0) (hl : xs.length = ns.length) (hx : ∀ x ∈ xs, Fr D x ∧ 0 ≤ x ∧ x ≤ B) : ∀ y ∈ bo ns xs, Fr (D * 27720) y ∧ 0 ≤ y ∧ y ≤ B := by
  intro y hy
  unfold bo at hy
  obtain ⟨j, hj, rfl⟩ := List.mem_map.mp hy
  rw [List.mem_range] at hj
  have n1 := w.n1
  have ml := hx _ (getD_mem (d := (0 : Rat)) (show ns.length - 1 < xs.length by omega))
  unfold boR
  by_cases c : j = 0
  · rw [if_pos c]
    exact ⟨ml.1.up hD, ml.2⟩
  · rw [if_neg c]
    have mj := hx _ (getD_mem (d := (0 : Rat)) (show j - 1 < xs.length by omega))
    have p := prt_ok w hj
    have r := mix_rng p.1 p.2.1 mj.2.1 mj.2.2 ml.2.1 ml.2.2
    refine ⟨?_, r.2.2⟩
    have e : (1 - prt ns j) * xs.getD (ns.length - 1) 0 = xs.getD (ns.length - 1) 0 - prt ns j * xs.getD (ns.length - 1) 0 := by grind
    rw [e]
    exact (prt_mul w hD mj.1 hj).add ((ml.1.up hD).sub (prt_mul w hD ml.1 hj))
theorem pw_ne {D : Int} (hD : 0 < D) (r : Nat) : 0 < D * 27720 ^ r := Int.mul_pos hD (Int.pow_pos (by decide))
theorem rnd_ok {ns : List Int} (w : Ris ns) {D : Int} {xs : List Rat} {B : Rat} (hD : 0 < D) (hl : xs.length = ns.length) (hx : ∀ x ∈ xs, Fr D x ∧ 0 ≤ x ∧ x ≤ B) : ∀ r, ∀ y ∈ rnd ns xs r, Fr (D * 27720 ^ r) y ∧ 0 ≤ y ∧ y ≤ B
  | 0 => by rw [Int.pow_zero, Int.mul_one]; exact hx
  | r + 1 => by
    rw [Int.pow_succ, ← Int.mul_assoc]
    exact bo_ok w (by have := pw_ne hD r; omega) (rnd_len hl r) (rnd_ok w hD hl hx r)
theorem pw_bd {D : Int} (hd : D.natAbs < 2 ^ 1000) {r : Nat} (hr : r ≤ 25) : (D * 27720 ^ r).natAbs < 2 ^ 3900 := by
  rw [Int.natAbs_mul, Int.natAbs_pow]
  have h1 : 27720 ^ r ≤ 27720 ^ 25 := Nat.pow_le_pow_right (by decide) hr
  have h2 : D.natAbs * 27720 ^ r ≤ 2 ^ 1000 * 27720 ^ 25 := Nat.mul_le_mul (Nat.le_of_lt hd) h1
  have h3 : (27720 : Nat) ^ 25 < 2 ^ 400 := by decide
  have h4 : 2 ^ 1000 * 27720 ^ 25 < 2 ^ 1000 * 2 ^ 400 := Nat.mul_lt_mul_of_pos_left h3 (Nat.two_pow_pos _)
  rw [← Nat.pow_add] at h4
  have h5 : (2 : Nat) ^ (1000 + 400) < 2 ^ 3900 := Nat.pow_lt_pow_right (by decide) (by decide)
  have h6 : (27720 : Int).natAbs = 27720 := rfl
  rw [h6]
  omega

theorem shaped_am (x : Am) : SeqAt.shaped (.tuple [.int x.1, .int x.2]) = true := by
  simp [SeqAt.shaped, PyData.canLay0, PyData.canLayAll0, PyData.depth, PyData.depthAll]
theorem eqv_am (x y : Am) : PyData.eqv (.tuple [.int x.1, .int x.2]) (.tuple [.int y.1, .int y.2]) = decide (x = y) := by
  obtain ⟨a, b⟩ := x
  obtain ⟨c, d⟩ := y
  simp only [PyData.eqv, PyData.eqvAll, Bool.and_true, Prod.mk.injEq]
  by_cases h1 : a = c <;> by_cases h2 : b = d <;> simp [h1, h2]
theorem ne_am {x y : Am} (h : x = y) : (!PyData.eqv (.tuple [.int x.1, .int x.2]) (.tuple [.int y.1, .int y.2])) = false := by rw [eqv_am, decide_eq_true h]; rfl

theorem dpa_ints {K : PySem.W.Frag} {H : Hp} : ∀ ns : List Int, DpAll K H (ns.map V.int) (ns.map PyData.int)
  | [] => .nil
  | n :: ns => .cons (.int n) (dpa_ints ns)
theorem dp_ints {K : PySem.W.Frag} {H : Hp} {a : Addr} {ns : List Int} (h : SqL K H a (ns.map V.int)) : Dp K H (.ref a) (.list (ns.map PyData.int)) := .lst h (dpa_ints ns)
theorem depOk_ints {n : Nat} {ns : List Int} (h : ns.length ≤ 9000) : depOk (n + 1) (.list (ns.map PyData.int)) = true := by
  show (decide ((ns.map PyData.int).length ≤ 9000) && (ns.map PyData.int).all (depOk n)) = true
  rw [List.length_map, decide_eq_true h, Bool.true_and, List.all_map]
  exact List.all_eq_true.mpr fun q _ => by cases n <;> rfl
theorem depOk_amsN {n : Nat} {qs : List Am} (h : qs.length ≤ 9000) : depOk (n + 2) (.list (qs.map amD)) = true := by
  show (decide ((qs.map amD).length ≤ 9000) && (qs.map amD).all (depOk (n + 1))) = true
  rw [List.length_map, decide_eq_true h, Bool.true_and, List.all_map]
  refine List.all_eq_true.mpr fun q _ => ?_
  cases n <;> rfl

theorem ok_p_plus {f : Addr} {fd : FuncData} (F : Fun K "plus" "plus" s_p_plus f fd) (F_p_amount : Fn P w K mg base 2 "amount" ["num", "den"] (sp_p_amount K T)) : FnOk P w K mg base CX0 3 f fd ["one", "other"] (sp_p_plus K T) := by
  refine F.ok sc_p_plus (fun vs H Q E h => ?_) (fun cdv A outer s H vs Q E hr h => ?_)
  · obtain ⟨a, b, x, y, rfl, _⟩ := h
    rfl
  · obtain ⟨a, b, x, y, rfl, ha, hb, ⟨bx, by_⟩, ⟨hx, hy⟩, q⟩ := h
    refine ⟨_, (pss_one (ps_ret (pe_fn F_p_amount (hr.mono (by decide)) (pa_cons (pe_op op_add (pe_op op_mulW (pe_ix ix_tup (pv 0) pe_int (fun _ _ => rfl)) (pe_ix ix_tup (pv 1) pe_int (fun _ _ => rfl))) (pe_op op_mulW (pe_ix ix_tup (pv 1) pe_int (fun _ _ => rfl)) (pe_ix ix_tup (pv 0) pe_int (fun _ _ => rfl)))) (pa_cons (pe_op op_mulW (pe_ix ix_tup (pv 0) pe_int (fun _ _ => rfl)) (pe_ix ix_tup (pv 1) pe_int (fun _ _ => rfl))) pa_nil))))), ?_⟩
    refine ⟨_, rfl, a, _, 0, .int x.1, rfl, rfl, ha, atI_nat (j := 0) rfl, _, rfl, b, _, 1, .int y.2, rfl, rfl, hb, atI_nat (j := 1) rfl, _, _, rfl, rfl, wm bx.1 by_.2, ?_⟩
    refine ⟨_, rfl, b, _, 0, .int y.1, rfl, rfl, hb, atI_nat (j := 0) rfl, _, rfl, a, _, 1, .int x.2, rfl, rfl, ha, atI_nat (j := 1) rfl, _, _, rfl, rfl, wm by_.1 bx.2, _, _, rfl, rfl, ?_⟩
    refine ⟨_, rfl, a, _, 1, .int x.2, rfl, rfl, ha, atI_nat (j := 1) rfl, _, rfl, b, _, 1, .int y.2, rfl, rfl, hb, atI_nat (j := 1) rfl, _, _, rfl, rfl, wm bx.2 by_.2, ?_⟩
    exact ⟨_, _, rfl, Int.mul_ne_zero (by omega) (by omega), wl bx.2 by_.2, q⟩

theorem ok_p_minus {f : Addr} {fd : FuncData} (F : Fun K "minus" "minus" s_p_minus f fd) (F_p_amount : Fn P w K mg base 2 "amount" ["num", "den"] (sp_p_amount K T)) : FnOk P w K mg base CX0 3 f fd ["one", "other"] (sp_p_minus K T) := by
  refine F.ok sc_p_minus (fun vs H Q E h => ?_) (fun cdv A outer s H vs Q E hr h => ?_)
  · obtain ⟨a, b, x, y, rfl, _⟩ := h
    rfl
  · obtain ⟨a, b, x, y, rfl, ha, hb, ⟨bx, by_⟩, ⟨hx, hy⟩, q⟩ := h
    refine ⟨_, (pss_one (ps_ret (pe_fn F_p_amount (hr.mono (by decide)) (pa_cons (pe_op op_sub (pe_op op_mulW (pe_ix ix_tup (pv 0) pe_int (fun _ _ => rfl)) (pe_ix ix_tup (pv 1) pe_int (fun _ _ => rfl))) (pe_op op_mulW (pe_ix ix_tup (pv 1) pe_int (fun _ _ => rfl)) (pe_ix ix_tup (pv 0) pe_int (fun _ _ => rfl)))) (pa_cons (pe_op op_mulW (pe_ix ix_tup (pv 0) pe_int (fun _ _ => rfl)) (pe_ix ix_tup (pv 1) pe_int (fun _ _ => rfl))) pa_nil))))), ?_⟩
    refine ⟨_, rfl, a, _, 0, .int x.1, rfl, rfl, ha, atI_nat (j := 0) rfl, _, rfl, b, _, 1, .int y.2, rfl, rfl, hb, atI_nat (j := 1) rfl, _, _, rfl, rfl, wm bx.1 by_.2, ?_⟩
    refine ⟨_, rfl, b, _, 0, .int y.1, rfl, rfl, hb, atI_nat (j := 0) rfl, _, rfl, a, _, 1, .int x.2, rfl, rfl, ha, atI_nat (j := 1) rfl, _, _, rfl, rfl, wm by_.1 bx.2, _, _, rfl, rfl, ?_⟩
    refine ⟨_, rfl, a, _, 1, .int x.2, rfl, rfl, ha, atI_nat (j := 1) rfl, _, rfl, b, _, 1, .int y.2, rfl, rfl, hb, atI_nat (j := 1) rfl, _, _, rfl, rfl, wm bx.2 by_.2, ?_⟩
    exact ⟨_, _, rfl, Int.mul_ne_zero (by omega) (by omega), wl bx.2 by_.2, q⟩

theorem ok_p_times {f : Addr} {fd : FuncData} (F : Fun K "times" "times" s_p_times f fd) (F_p_amount : Fn P w K mg base 2 "amount" ["num", "den"] (sp_p_amount K T)) : FnOk P w K mg base CX0 3 f fd ["one", "other"] (sp_p_times K T) := by
  refine F.ok sc_p_times (fun vs H Q E h => ?_) (fun cdv A outer s H vs Q E hr h => ?_)
  · obtain ⟨a, b, x, y, rfl, _⟩ := h
    rfl
  · obtain ⟨a, b, x, y, rfl, ha, hb, ⟨bx, by_⟩, ⟨hx, hy⟩, q⟩ := h
    refine ⟨_, (pss_one (ps_ret (pe_fn F_p_amount (hr.mono (by decide)) (pa_cons (pe_op op_mulW (pe_ix ix_tup (pv 0) pe_int (fun _ _ => rfl)) (pe_ix ix_tup (pv 1) pe_int (fun _ _ => rfl))) (pa_cons (pe_op op_mulW (pe_ix ix_tup (pv 0) pe_int (fun _ _ => rfl)) (pe_ix ix_tup (pv 1) pe_int (fun _ _ => rfl))) pa_nil))))), ?_⟩
    refine ⟨_, rfl, a, _, 0, .int x.1, rfl, rfl, ha, atI_nat (j := 0) rfl, _, rfl, b, _, 0, .int y.1, rfl, rfl, hb, atI_nat (j := 0) rfl, _, _, rfl, rfl, wm bx.1 by_.1, ?_⟩
    refine ⟨_, rfl, a, _, 1, .int x.2, rfl, rfl, ha, atI_nat (j := 1) rfl, _, rfl, b, _, 1, .int y.2, rfl, rfl, hb, atI_nat (j := 1) rfl, _, _, rfl, rfl, wm bx.2 by_.2, ?_⟩
    exact ⟨_, _, rfl, Int.mul_ne_zero (by omega) (by omega), wl bx.2 by_.2, q⟩

theorem ok_p_below {f : Addr} {fd : FuncData} (F : Fun K "below" "below" s_p_below f fd) : FnOk P w K mg base CX0 1 f fd ["one", "other"] (sp_p_below K T) := by
  refine F.ok sc_p_below (fun vs H Q E h => ?_) (fun cdv A outer s H vs Q E hr h => ?_)
  · obtain ⟨a, b, x, y, rfl, _⟩ := h
    rfl
  · obtain ⟨a, b, x, y, rfl, ha, hb, ⟨bx, by_⟩, q⟩ := h
    refine ⟨_, (pss_one (ps_ret (pe_cmpR op_lt (pe_op op_mulW (pe_ix ix_tup (pv 0) pe_int (fun _ _ => rfl)) (pe_ix ix_tup (pv 1) pe_int (fun _ _ => rfl))) (pe_op op_mulW (pe_ix ix_tup (pv 1) pe_int (fun _ _ => rfl)) (pe_ix ix_tup (pv 0) pe_int (fun _ _ => rfl))) (nomark _)))), ?_⟩
    refine ⟨_, rfl, a, _, 0, .int x.1, rfl, rfl, ha, atI_nat (j := 0) rfl, _, rfl, b, _, 1, .int y.2, rfl, rfl, hb, atI_nat (j := 1) rfl, _, _, rfl, rfl, wm bx.1 by_.2, ?_⟩
    exact ⟨_, rfl, b, _, 0, .int y.1, rfl, rfl, hb, atI_nat (j := 0) rfl, _, rfl, a, _, 1, .int x.2, rfl, rfl, ha, atI_nat (j := 1) rfl, _, _, rfl, rfl, wm by_.1 bx.2, _, _, rfl, rfl, q⟩

def sp_p_lesser (K : PySem.W.Frag) (T : Tb) : Sp := fun vs H Q _ => ∃ a b x y, vs = [.ref a, .ref b] ∧ SqT K H a (tv x) ∧ SqT K H b (tv y) ∧ (Bd 4000 x ∧ Bd 4000 y) ∧ Q (.ref (if belowA x y = true then a else b)) H
theorem ok_p_lesser {f : Addr} {fd : FuncData} (F : Fun K "lesser" "lesser" s_p_lesser f fd) (F_p_below : Fn P w K mg base 1 "below" ["one", "other"] (sp_p_below K T)) : FnOk P w K mg base CX0 2 f fd ["one", "other"] (sp_p_lesser K T) := by
  refine F.ok sc_p_lesser (fun vs H Q E h => ?_) (fun cdv A outer s H vs Q E hr h => ?_)
  · obtain ⟨a, b, x, y, rfl, _⟩ := h
    rfl
  · obtain ⟨a, b, x, y, rfl, ha, hb, bd, q⟩ := h
    refine ⟨_, (pss_one (ps_ret (pe_ifExp (pt_val (pe_fn F_p_below (hr.mono (by decide)) (pa_cons (pv 0) (pa_cons (pv 1) pa_nil)))) (pv 0) (pv 1)))), ?_⟩
    refine ⟨_, rfl, _, rfl, a, b, x, y, rfl, ha, hb, bd, _, rfl, ?_⟩
    cases hz : belowA x y with
    | true =>
      rw [hz, if_pos rfl] at q
      exact iteT ⟨_, rfl, q⟩
    | false =>
      rw [hz, if_neg (by decide)] at q
      exact iteF ⟨_, rfl, q⟩

theorem lesser_sq {K : PySem.W.Frag} {H : Hp} {a b : Addr} {x y : Rat} (ha : SqT K H a (tv (am x))) (hb : SqT K H b (tv (am y))) : SqT K H (if belowA (am x) (am y) = true then a else b) (tv (am (mnR x y))) := by
  rw [below_am]
  unfold mnR
  by_cases h : x < y
  · rw [decide_eq_true h, if_pos rfl, if_neg (by grind)]
    exact ha
  · rw [decide_eq_false h, if_neg (by decide)]
    by_cases h2 : y < x
    · rw [if_pos h2]
      exact hb
    · rw [if_neg h2, show x = y by grind]
      exact hb

theorem ok_PailError {f : Addr} {fd : FuncData} (F : Fun K "__init__" "PailError.__init__" s_p_PailError___init__ f fd) (mV : mg "ValueError" = none) (vV : PySem.W.findCls K (.type "ValueError") (.type "type") "__init__" = some (.val (.builtin "ValueError.__init__"))) :
    FnOk P w K mg base CX0 1 f fd ["self", "word"] (spInit2 K) := by
  refine F.ok sc_p_PailError___init__ (fun vs H Q E h => ?_) (fun cdv A outer s H vs Q E hr h => ?_)
  · obtain ⟨a, C, w, rfl, _⟩ := h
    rfl
  · obtain ⟨a, C, w, rfl, oc, nw, ea, q⟩ := h
    refine ⟨_, (pss_cons (ps_expr (pe_veinit (by rfl) mV vV (pa_cons (pv 0) (pa_cons (pv 1) pa_nil))))
      (pss_one (ps_ost (pv 0) (pv 1)))), ?_⟩
    refine ⟨_, rfl, _, rfl, a, C, [.str w], rfl, by show 1 ≤ 1000; decide, oc, ea, ?_⟩
    exact ⟨_, rfl, _, rfl, a, C, rfl, oc, nw, .inl ⟨ea, fun dx n ne => q dx n ne⟩⟩
theorem ok_BadPace {f fP CP : Addr} {fd fdP : FuncData} {mc : Value} (F : Fun K "__init__" "BadPace.__init__" s_p_BadPace___init__ f fd) (cr : ClX.CRead K CP mc) (hat : PySem.W.findCls K (.ref CP) mc "__init__" = some (.val (.ref fP))) (FP : FnOk P w K mg base CX0 1 fP fdP ["self", "word"] (spInit2 K))
    (gP : mg "PailError" = some (.ref CP)) (kP : PySem.W.keepIn K (.ref fP) = true) (bP : Binds K fdP ["self", "word"] []) : FnOk P w K mg base CX0 2 f fd ["self"] (spInit "bad pace" K) := by
  refine F.ok sc_p_BadPace___init__ (fun vs H Q E h => ?_) (fun cdv A outer s H vs Q E hr h => ?_)
  · obtain ⟨a, C, rfl, _⟩ := h
    rfl
  · obtain ⟨a, C, rfl, oc, nw, ea, q⟩ := h
    refine ⟨_, (pss_one (ps_expr (pe_clsfn cr hat FP hr (by rfl) gP kP bP (pa_cons (pv 0) (pa_cons pe_str pa_nil))))), ?_⟩
    exact ⟨_, rfl, a, C, "bad pace", rfl, oc, nw, ea, q⟩
theorem ok_BadCount {f fP CP : Addr} {fd fdP : FuncData} {mc : Value} (F : Fun K "__init__" "BadCount.__init__" s_p_BadCount___init__ f fd) (cr : ClX.CRead K CP mc) (hat : PySem.W.findCls K (.ref CP) mc "__init__" = some (.val (.ref fP))) (FP : FnOk P w K mg base CX0 1 fP fdP ["self", "word"] (spInit2 K))
    (gP : mg "PailError" = some (.ref CP)) (kP : PySem.W.keepIn K (.ref fP) = true) (bP : Binds K fdP ["self", "word"] []) : FnOk P w K mg base CX0 2 f fd ["self"] (spInit "bad count" K) := by
  refine F.ok sc_p_BadCount___init__ (fun vs H Q E h => ?_) (fun cdv A outer s H vs Q E hr h => ?_)
  · obtain ⟨a, C, rfl, _⟩ := h
    rfl
  · obtain ⟨a, C, rfl, oc, nw, ea, q⟩ := h
    refine ⟨_, (pss_one (ps_expr (pe_clsfn cr hat FP hr (by rfl) gP kP bP (pa_cons (pv 0) (pa_cons pe_str pa_nil))))), ?_⟩
    exact ⟨_, rfl, a, C, "bad count", rfl, oc, nw, ea, q⟩
theorem ok_NotRising {f fP CP : Addr} {fd fdP : FuncData} {mc : Value} (F : Fun K "__init__" "NotRising.__init__" s_p_NotRising___init__ f fd) (cr : ClX.CRead K CP mc) (hat : PySem.W.findCls K (.ref CP) mc "__init__" = some (.val (.ref fP))) (FP : FnOk P w K mg base CX0 1 fP fdP ["self", "word"] (spInit2 K))
    (gP : mg "PailError" = some (.ref CP)) (kP : PySem.W.keepIn K (.ref fP) = true) (bP : Binds K fdP ["self", "word"] []) : FnOk P w K mg base CX0 2 f fd ["self"] (spInit "not rising" K) := by
  refine F.ok sc_p_NotRising___init__ (fun vs H Q E h => ?_) (fun cdv A outer s H vs Q E hr h => ?_)
  · obtain ⟨a, C, rfl, _⟩ := h
    rfl
  · obtain ⟨a, C, rfl, oc, nw, ea, q⟩ := h
    refine ⟨_, (pss_one (ps_expr (pe_clsfn cr hat FP hr (by rfl) gP kP bP (pa_cons (pv 0) (pa_cons pe_str pa_nil))))), ?_⟩
    exact ⟨_, rfl, a, C, "not rising", rfl, oc, nw, ea, q⟩

theorem Drawn.get : ∀ {ds qs : List Int} {i : Nat} {q : Int}, Drawn ds qs → qs[i]? = some q → ∃ d, ds[i]? = some d ∧ 0 ≤ d ∧ d < q
  | [], [], i, q, _, e => by simp at e
  | [], _ :: _, _, _, h, _ => h.elim
  | _ :: _, [], _, _, h, _ => h.elim
  | d :: _, _ :: _, 0, q, h, e => by
    obtain rfl := Option.some.inj e
    exact ⟨d, rfl, h.1.1, h.1.2⟩
  | _ :: ds, _ :: qs, i + 1, q, h, e => Drawn.get (ds := ds) (qs := qs) h.2 e
theorem at_map {ds : List Int} {i : Nat} {d z : Int} (hz : z = (i : Int)) (h : ds[i]? = some d) : atI (ds.map V.int) z = some (.int d) := by
  subst hz
  exact at_of (j := i) rfl (by rw [List.getElem?_map, h]; rfl)

theorem am_at {K : PySem.W.Frag} {H : Hp} {us : List V} {ps : List Rat} (hd : DpAll K H us ((ps.map am).map amD)) {i : Nat} (hi : i < ps.length) : ∃ b, us[i]? = some (.ref b) ∧ SqT K H b (tv (am ps[i])) := by
  obtain ⟨v, e1, e2⟩ := dpa_get hd (i := i) (d := amD (am ps[i])) (by rw [List.getElem?_map, List.getElem?_map, List.getElem?_eq_getElem hi]; rfl)
  obtain ⟨b, rfl, hb⟩ := pd_at e2
  exact ⟨b, e1, hb⟩

theorem bd_int {k : Int} (h : k.natAbs < 2 ^ 3900) : Bd 4000 ((k, 1) : Am) := ⟨Nat.lt_trans h (Nat.pow_lt_pow_right (by decide) (by decide)), by show (1 : Int).natAbs < 2 ^ 4000; exact Nat.one_lt_two_pow (by decide)⟩
theorem small {k : Int} (h : k.natAbs < 2 ^ 60) : k.natAbs < 2 ^ 3900 := Nat.lt_trans h (Nat.pow_lt_pow_right (by decide) (by decide))
theorem bd_fr {D k : Int} {r : Rat} (hD : 0 < D) (hd : D.natAbs < 2 ^ 3900) (h1 : 1 ≤ k) (h2 : k ≤ 12) (h : Fr (D * k) r) (h3 : -(1000 : Rat) ≤ r) (h4 : r ≤ 1000) : Bd 4000 (am r) := by
  have e : (2 : Nat) ^ 4000 = 2 ^ 100 * 2 ^ 3900 := by rw [← Nat.pow_add]
  have a1 : (D * k).natAbs ≤ 16 * D.natAbs := by rw [Int.natAbs_mul, Nat.mul_comm]; exact Nat.mul_le_mul_right _ (by omega)
  have a2 : (1000 * (D * k)).natAbs ≤ 16000 * D.natAbs := by rw [Int.natAbs_mul]; show 1000 * _ ≤ _; omega
  have a3 : (2 : Nat) ^ 100 * 2 ^ 3900 ≥ 16000 * 2 ^ 3900 := Nat.mul_le_mul_right _ (by decide)
  exact fr_bd (D := D * k) (B := 1000) (Int.mul_pos hD (by omega)) h h3 h4 (by omega) (by omega)
theorem bd_fr1 {D : Int} {r : Rat} (hD : 0 < D) (hd : D.natAbs < 2 ^ 3900) (h : Fr D r) (h3 : -(1000 : Rat) ≤ r) (h4 : r ≤ 1000) : Bd 4000 (am r) :=
  bd_fr (k := 1) hD hd (by decide) (by decide) (by rw [Int.mul_one]; exact h) h3 h4

theorem bdL {D : Int} {r : Rat} (hD : 0 < D) (hd : D.natAbs < 2 ^ 3900) (h : Fr D r) (h3 : 0 ≤ r) (h4 : r ≤ 1000000) : Bd 4000 (am r) := by
  have e : (2 : Nat) ^ 4000 = 2 ^ 100 * 2 ^ 3900 := by rw [← Nat.pow_add]
  have a2 : (1000000 * D).natAbs ≤ 1000000 * D.natAbs := by rw [Int.natAbs_mul]; exact Nat.le_refl _
  have a3 : (2 : Nat) ^ 100 * 2 ^ 3900 ≥ 1000001 * 2 ^ 3900 := Nat.mul_le_mul_right _ (by decide)
  exact fr_bd (D := D) (B := 1000000) hD h (neg_le h3 (by decide)) h4 (by omega) (by omega)
theorem bdX {D : Int} {r : Rat} (hD : 0 < D) (hd : D.natAbs < 2 ^ 3900) (h : Fr D r) (h3 : 0 ≤ r) (h4 : r ≤ 1000000000) : Bd 4000 (am r) := by
  have e : (2 : Nat) ^ 4000 = 2 ^ 100 * 2 ^ 3900 := by rw [← Nat.pow_add]
  have a2 : (1000000000 * D).natAbs ≤ 1000000000 * D.natAbs := by rw [Int.natAbs_mul]; exact Nat.le_refl _
  have a3 : (2 : Nat) ^ 100 * 2 ^ 3900 ≥ 1000000001 * 2 ^ 3900 := Nat.mul_le_mul_right _ (by decide)
  exact fr_bd (D := D) (B := 1000000000) hD h (neg_le h3 (by decide)) h4 (by omega) (by omega)
theorem mul_rng {m L g : Rat} (h0 : 0 ≤ m) (h1 : m ≤ L) (g0 : 1 ≤ g) (g1 : g ≤ 12) : 0 ≤ m * g ∧ m * g ≤ 12 * L := by
  have a := Rat.mul_le_mul_of_nonneg_left g1 h0
  have b := Rat.mul_le_mul_of_nonneg_left g0 h0
  exact ⟨by grind, by grind⟩
theorem mul_rng0 {m L g : Rat} (h0 : 0 ≤ m) (h1 : m ≤ L) (g0 : 0 ≤ g) (g1 : g ≤ 12) : 0 ≤ m * g ∧ m * g ≤ 12 * L := by
  have a := Rat.mul_le_mul_of_nonneg_left g1 h0
  have b := Rat.mul_nonneg h0 g0
  exact ⟨b, by grind⟩
theorem div_nn {a : Rat} {k : Int} (hk : 1 ≤ k) (ha : 0 ≤ a) : 0 ≤ a / (k : Rat) := by
  have e := div_mul (a := a) (show 0 < k by omega)
  by_cases c : a / (k : Rat) < 0
  · have := Rat.mul_lt_mul_of_pos_right c (cp (show 0 < k by omega))
    grind
  · exact Rat.not_lt.mp c
/-- lists of amounts -/
def AmL (K : PySem.W.Frag) (H : Hp) (us : List V) (rs : List Rat) : Prop := DpAll K H us ((rs.map am).map amD)
theorem AmL.len {K : PySem.W.Frag} {H : Hp} {us : List V} {rs : List Rat} (h : AmL K H us rs) : us.length = rs.length := by rw [dpa_len h, List.length_map, List.length_map]
theorem AmL.at {K : PySem.W.Frag} {H : Hp} {us : List V} {rs : List Rat} (h : AmL K H us rs) {i : Nat} (hi : i < rs.length) : ∃ b, us[i]? = some (.ref b) ∧ SqT K H b (tv (am (rs.getD i 0))) := by
  rw [getD_lt hi]
  exact am_at h hi
theorem AmL.keep {T : Tb} {K : PySem.W.Frag} {H H' : Hp} {us : List V} {rs : List Rat} (h : AmL K H us rs) (s : Sm T H H') : AmL K H' us rs := dpa_same s _ _ h
theorem AmL.push {K : PySem.W.Frag} {H : Hp} {us : List V} {rs : List Rat} {D b : Addr} {xs : List V} {o : HO} {r : Rat} (h : AmL K H us rs) (hD : H D = some (.lst xs)) (hb : SqT K H b (tv (am r))) : AmL K (upd H D o) (us ++ [.ref b]) (rs ++ [r]) := by
  unfold AmL
  rw [List.map_append, List.map_append]
  exact dpa_app (pds_mut hD h) (.cons (pd_mut (amD_dp hb) hD) .nil)
theorem AmL.mut {K : PySem.W.Frag} {H : Hp} {us : List V} {rs : List Rat} {D : Addr} {xs : List V} {o : HO} (h : AmL K H us rs) (hD : H D = some (.lst xs)) : AmL K (upd H D o) us rs := pds_mut hD h
theorem AmL.dp {K : PySem.W.Frag} {H : Hp} {us : List V} {rs : List Rat} {a : Addr} (h : AmL K H us rs) (ha : SqL K H a us) : Dp K H (.ref a) (.list ((rs.map am).map amD)) := .lst ha h
theorem take_range {α : Type} {f : Nat → α} {i : Nat} : ((List.range (i + 1)).map f) = (List.range i).map f ++ [f i] := by rw [List.range_succ, List.map_append]; rfl

theorem at_neg1 {α : Type} {xs : List α} {v : α} (h : 0 < xs.length) (e : xs[xs.length - 1]? = some v) : atI xs (-1) = some v := by
  have hne : xs ≠ [] := by intro c; rw [c] at h; exact Nat.lt_irrefl _ h
  obtain ⟨ys, z, rfl⟩ : ∃ ys z, xs = ys ++ [z] := ⟨xs.dropLast, xs.getLast hne, (List.dropLast_concat_getLast hne).symm⟩
  rw [List.length_append, show ys.length + [z].length - 1 = ys.length by simp, List.getElem?_append_right (Nat.le_refl _), Nat.sub_self] at e
  obtain rfl : z = v := Option.some.inj e
  exact atI_last _ _

def sp_l_cell (K : PySem.W.Frag) (T : Tb) : Sp := fun vs H Q _ => ∃ (a : Addr) (ns : List Int) (k : Int), vs = [.ref a, .int k] ∧ SqL K H a (ns.map V.int) ∧ 0 ≤ k ∧ ∀ z : Int, Q (.int z) H
theorem ok_l_cell {f : Addr} {fd : FuncData} (F : Fun K "_law_cell" "_law_cell" s_l_cell f fd) (B : Bn mg) : FnOk P w K mg base CX0 1 f fd ["_law_script", "_law_k"] (sp_l_cell K T) := by
  refine F.ok sc_l_cell (fun vs H Q E h => ?_) (fun cdv A outer s H vs Q E hr h => ?_)
  · obtain ⟨a, ns, k, rfl, _⟩ := h
    rfl
  · obtain ⟨a, ns, k, rfl, hS, hk, q⟩ := h
    refine ⟨_, (pss_cons (ps_if (pt_cmpR op_lt (pv 1) (pe_callB call_len_seq (by rfl) B.len_ (by decide +kernel) (pa_cons (pv 0) pa_nil)) (nomark _)) (pss_one (ps_ret (pe_ix ix_list (pv 0) (pv 1) (fun _ _ => rfl)))) pss_nil)
      (pss_one (ps_ret (pe_op op_add (pe_op op_add (pe_op op_mul (pe_op op_mod (pe_callB (cr_sum rfl) (by rfl) B.sum_ (by decide +kernel) (pa_cons (pv 0) pa_nil)) pe_int) pe_int) (pe_op op_mul (pe_callB call_len_seq (by rfl) B.len_ (by decide +kernel) (pa_cons (pv 0) pa_nil)) pe_int)) (pe_op op_mul (pv 1) pe_int))))), ?_⟩
    refine ⟨_, rfl, _, rfl, a, _, rfl, .inl hS, _, _, rfl, rfl, _, rfl, ite2 (fun e => ?_) (fun e => ?_)⟩
    · have e' : k < ((ns.map V.int).length : Int) := of_decide_eq_true e
      rw [List.length_map] at e'
      obtain ⟨j, rfl⟩ : ∃ j : Nat, k = (j : Int) := ⟨k.toNat, by omega⟩
      have hj : j < ns.length := by omega
      refine ⟨_, rfl, _, rfl, a, _, _, .int ns[j], rfl, rfl, hS, atI_nat (by rw [List.getElem?_map, List.getElem?_eq_getElem hj]; rfl), q _⟩
    · refine ⟨_, rfl, a, ns, rfl, hS, ?_⟩
      refine ⟨_, _, rfl, rfl, (by show (0 : Int) < 1000003; decide), _, _, rfl, rfl, .inr ⟨by decide, by decide⟩, ?_⟩
      refine ⟨_, rfl, a, _, rfl, .inl hS, _, _, rfl, rfl, .inr ⟨by decide, by decide⟩, _, _, rfl, rfl, ?_⟩
      refine ⟨_, rfl, _, _, rfl, rfl, .inr ⟨by decide, by decide⟩, _, _, rfl, rfl, q _⟩

def sp_l_draws (K : PySem.W.Frag) (T : Tb) : Sp := fun vs H Q _ => ∃ (c : Int) (a : Addr) (qs : List Int), vs = [.int c, .ref a] ∧ SqL K H a (qs.map V.int) ∧ qs.length ≤ 1000 ∧ (∀ q ∈ qs, 0 < q ∧ q.natAbs < 2 ^ 100) ∧
  ∀ p H' (ds : List Int), Sm T H H' → H p = none → H' p = some (.lst (ds.map V.int)) → Drawn ds qs → Q (.ref p) H'
theorem ok_l_draws {f : Addr} {fd : FuncData} (F : Fun K "_law_draws" "_law_draws" s_l_draws f fd) : FnOk P w K mg base CX0 1 f fd ["_law_cell_here", "_law_parts"] (sp_l_draws K T) := by
  refine F.ok sc_l_draws (fun vs H Q E h => ?_) (fun cdv A outer s H vs Q E hr h => ?_)
  · obtain ⟨c, a, qs, rfl, _⟩ := h
    rfl
  · obtain ⟨c, a, qs, rfl, hS, hlen, hpos, q⟩ := h
    refine ⟨_, (pss_cons (ps_if (pt_cmpR op_lt (pv 0) (pe_op op_pow pe_int pe_int) (nomark _)) (pss_cons (ps_set (i := 2) sc_l_draws.nd rfl (.inl rfl) (pe_op op_mod (pe_op op_add (pe_op op_mul (pv 0) pe_int) pe_int) pe_int))
      (pss_cons (ps_set (i := 3) sc_l_draws.nd rfl (.inl rfl) (pe_op op_mod (pe_op op_add (pe_op op_add (pe_op op_mul (pv 2) (pv 2)) (pe_op op_mul pe_int (pv 2))) (pv 0)) pe_int))
      (pss_cons (ps_set (i := 4) sc_l_draws.nd rfl (.inl rfl) (pe_op op_mod (pe_op op_add (pe_op op_mul (pv 3) pe_int) (pv 2)) pe_int))
      (pss_one (ps_set (i := 0) sc_l_draws.nd rfl (.inl rfl) (pe_op op_add (pv 3) (pe_op op_mul pe_int (pe_op op_add (pv 4) (pe_op op_mul pe_int (pv 2)))))))))) (pss_one (ps_set (i := 0) sc_l_draws.nd rfl (.inl rfl) (pe_op op_sub (pv 0) (pe_op op_pow pe_int pe_int)))))
      (pss_cons (ps_set (i := 5) sc_l_draws.nd rfl (.inl rfl) (pe_lst pa_nil))
      (pss_cons (ps_for PassesOwn.never rfl (pi_list (pv 1)) (pg_name (i := 6) sc_l_draws.nd rfl (.inl rfl))
      (pss_cons (ps_expr (pe_bm PySem.F.plainAttrs_list PySem.F.slot_list_append PySem.F.type_list_append mt_append (pv 5) (pa_cons (pe_op op_mod (pv 0) (pv 6)) pa_nil)))
      (pss_one (ps_set (i := 0) sc_l_draws.nd rfl (.inl rfl) (pe_op op_fdivW (pv 0) (pv 6))))))
      (pss_one (ps_ret (pv 5)))))), ?_⟩
    refine seq_if (fun σ' H' => H' = H ∧ ∃ (c : Int) (x2 x3 x4 : Option V), σ' = [some (.int c), some (.ref a), x2, x3, x4, none, none]) (fun σ' H' p => ?_) (fun k => ?_)
    · obtain ⟨rfl, c, x2, x3, x4, rfl⟩ := p
      refine ⟨Nat.zero_le _, fun o no => ?_⟩
      refine ⟨_, rfl, a, rfl, ⟨_, (same_upd (T := T) no).seq hS⟩, for_list (K := K) (a := a) (xs := qs.map V.int)
        (fun i σ H3 => ∃ (c : Int) (x6 : Option V) (ds : List Int), σ = [some (.int c), some (.ref a), x2, x3, x4, some (.ref o), x6] ∧ Sm T H' H3 ∧ H3 o = some (.lst (ds.map V.int)) ∧ Drawn ds (qs.take i))
        ⟨c, none, [], rfl, same_upd no, upd_same, trivial⟩ (fun i σ H3 _ ⟨_, _, _, _, sm, _⟩ => sm.seq hS) ?_ ?_⟩
      · rintro i y σ H3 hi ⟨c, x6, ds, rfl, sm, eo, hd⟩
        rw [List.getElem?_map] at hi
        obtain ⟨qi, hq, rfl⟩ : ∃ qi, qs[i]? = some qi ∧ V.int qi = y := Option.map_eq_some_iff.mp hi
        have hqm := hpos qi (List.mem_of_getElem? hq)
        have hil : i < qs.length := (List.getElem?_eq_some_iff.mp hq).1
        refine ⟨_, rfl, .inl ⟨rfl, _, SqL.of eo⟩, _, rfl, _, rfl, _, _, rfl, rfl, hqm.1, o, _, _, rfl, rfl, eo, ?_, ?_⟩
        · rw [List.length_map, hd.length, List.length_take]
          exact szl (by omega)
        · refine ⟨_, rfl, _, rfl, _, _, rfl, rfl, wide_div hqm.1 hqm.2 (by decide) (by decide), ?_⟩
          refine ⟨_, _, ds ++ [c % qi], rfl, same_mut sm no eo, ?_, ?_⟩
          · rw [upd_same, List.map_append]
            rfl
          · rw [List.take_add_one, hq]
            exact hd.snoc (Int.emod_nonneg _ (by omega)) (Int.emod_lt_of_pos _ hqm.1)
      · rintro σ H3 ⟨c, x6, ds, rfl, sm, eo, hd⟩
        rw [List.length_map, List.take_length] at hd
        exact ⟨_, rfl, q o H3 ds sm no eo hd⟩
    · have b1 := Int.emod_nonneg (c * 48271 + 11) (show (2147483647 : Int) ≠ 0 by decide)
      have b2 := Int.emod_lt_of_pos (c * 48271 + 11) (show (0 : Int) < 2147483647 by decide)
      refine ⟨_, rfl, _, _, rfl, rfl, ⟨by decide, by decide, by decide⟩, _, _, rfl, rfl, _, rfl, ite2 (fun e => ?_) (fun e => ?_)⟩
      · refine ⟨_, rfl, _, _, rfl, rfl, .inr ⟨by decide, by decide⟩, _, _, rfl, rfl, _, _, rfl, rfl, (by show (0 : Int) < 2147483647; decide), ?_⟩
        refine ⟨_, rfl, _, rfl, _, _, rfl, rfl, .inl ⟨by omega, by omega⟩, ?_⟩
        refine ⟨_, rfl, _, _, rfl, rfl, .inl ⟨by decide, by decide⟩, _, _, rfl, rfl, _, rfl, _, _, rfl, rfl, _, _, rfl, rfl, (by show (0 : Int) < 2147483399; decide), ?_⟩
        refine ⟨_, rfl, _, _, rfl, rfl, .inr ⟨by decide, by decide⟩, _, rfl, _, _, rfl, rfl, _, _, rfl, rfl, (by show (0 : Int) < 1000000007; decide), ?_⟩
        refine ⟨_, rfl, _, rfl, _, rfl, _, _, rfl, rfl, .inl ⟨by decide, by decide⟩, _, _, rfl, rfl, _, _, rfl, rfl, .inl ⟨by decide, by decide⟩, _, _, rfl, rfl, ?_⟩
        exact k _ _ ⟨rfl, _, _, _, _, rfl⟩
      · refine ⟨_, rfl, _, _, rfl, rfl, ⟨by decide, by decide, by decide⟩, _, _, rfl, rfl, ?_⟩
        exact k _ _ ⟨rfl, _, _, _, _, rfl⟩

def sp_l_split (K : PySem.W.Frag) (T : Tb) : Sp := fun vs H Q _ => ∃ (c : Int) (n : Nat), vs = [.int c, .int n] ∧ n ≤ 100 ∧
  ∀ p H' (zs : List Int), Sm T H H' → H p = none → H' p = some (.lst (zs.map V.int)) → zs.length = n → Q (.ref p) H'
theorem ok_l_split {f : Addr} {fd : FuncData} (F : Fun K "_law_split" "_law_split" s_l_split f fd) (B : Bn mg) : FnOk P w K mg base CX0 1 f fd ["_law_cell_here", "_law_many_here"] (sp_l_split K T) := by
  refine F.ok sc_l_split (fun vs H Q E h => ?_) (fun cdv A outer s H vs Q E hr h => ?_)
  · obtain ⟨c, n, rfl, _⟩ := h
    rfl
  · obtain ⟨c, n, rfl, hn, q⟩ := h
    refine ⟨_, (pss_cons (ps_set (i := 2) sc_l_split.nd rfl (.inl rfl) (pe_lst pa_nil))
      (pss_cons (ps_set (i := 3) sc_l_split.nd rfl (.inl rfl) (pe_cmpR op_ge (pv 0) (pe_op op_pow pe_int pe_int) (nomark _)))
      (pss_cons (ps_for PassesOwn.never rfl (pi_range1 (by rfl) B.range_ (pa_cons (pv 1) pa_nil)) (pg_name (i := 4) sc_l_split.nd rfl (.inl rfl))
      (pss_one (ps_if (pt_val (pv 3)) (pss_cons (ps_expr (pe_bm PySem.F.plainAttrs_list PySem.F.slot_list_append PySem.F.type_list_append mt_append (pv 2) (pa_cons (pe_op op_add (pe_op op_pow pe_int pe_int) (pe_op op_mod (pv 0) (pe_op op_pow pe_int pe_int))) pa_nil)))
      (pss_one (ps_set (i := 0) sc_l_split.nd rfl (.inl rfl) (pe_op op_fdivW (pv 0) (pe_op op_pow pe_int pe_int))))) (pss_one (ps_expr (pe_bm PySem.F.plainAttrs_list PySem.F.slot_list_append PySem.F.type_list_append mt_append (pv 2) (pa_cons (pe_op op_add (pe_op op_mul (pv 0) (pe_op op_add (pe_op op_mul pe_int (pv 4)) pe_int)) (pe_op op_mul pe_int (pv 4))) pa_nil)))))))
      (pss_one (ps_ret (pv 2)))))), ?_⟩
    refine ⟨Nat.zero_le _, fun o no => ?_⟩
    refine ⟨_, rfl, _, _, rfl, rfl, ⟨by decide, by decide, by decide⟩, _, _, rfl, rfl, ?_⟩
    refine ⟨_, rfl, n, rfl, by omega, by omega, for_range (lo := 0) (n := n)
      (fun i σ H3 => ∃ (c : Int) (b : Bool) (x4 : Option V) (zs : List Int), σ = [some (.int c), some (.int n), some (.ref o), some (.bl b), x4] ∧ Sm T H H3 ∧ H3 o = some (.lst (zs.map V.int)) ∧ zs.length = i)
      ⟨c, _, none, [], rfl, same_upd no, upd_same, rfl⟩ ?_ ?_⟩
    · rintro i σ H3 hi ⟨c, b, x4, zs, rfl, sm, eo, hl⟩
      have hs : (zs.map V.int).length < sizeLine := by
        rw [List.length_map]
        exact szl (by omega)
      refine ⟨_, rfl, _, rfl, ?_⟩
      cases b with
      | true =>
        refine iteT ?_
        refine ⟨_, rfl, .inl ⟨rfl, _, SqL.of eo⟩, _, _, rfl, rfl, ⟨by decide, by decide, by decide⟩, _, rfl, _, _, rfl, rfl, ⟨by decide, by decide, by decide⟩, _, _, rfl, rfl, (by show (0 : Int) < 10 ^ 30; decide), _, _, rfl, rfl, o, _, _, rfl, rfl, eo, hs, ?_⟩
        refine ⟨_, rfl, _, _, rfl, rfl, ⟨by decide, by decide, by decide⟩, _, _, rfl, rfl, wide_div (b := 200) (by show (0 : Int) < 10 ^ 30; decide) (by decide) (by decide) (by decide), ?_⟩
        refine ⟨_, true, _, zs ++ [10 ^ (18 : Int).toNat + c % 10 ^ (30 : Int).toNat], rfl, same_mut sm no eo, ?_, ?_⟩
        · rw [upd_same, List.map_append]
          rfl
        · rw [List.length_append, hl]
          rfl
      | false =>
        refine iteF ?_
        refine ⟨_, rfl, .inl ⟨rfl, _, SqL.of eo⟩, _, rfl, _, rfl, _, _, rfl, rfl, .inl ⟨by decide, by decide⟩, _, _, rfl, rfl, _, _, rfl, rfl, .inr ⟨by omega, by omega⟩, _, rfl, _, _, rfl, rfl, .inl ⟨by decide, by decide⟩, _, _, rfl, rfl, o, _, _, rfl, rfl, eo, hs, ?_⟩
        refine ⟨_, false, _, zs ++ [c * (2 * (0 + (i : Int)) + 3) + 7919 * (0 + (i : Int))], rfl, same_mut sm no eo, ?_, ?_⟩
        · rw [upd_same, List.map_append]
          rfl
        · rw [List.length_append, hl]
          rfl
    · rintro σ H3 ⟨c, b, x4, zs, rfl, sm, eo, hl⟩
      exact ⟨_, rfl, q o H3 zs sm no eo hl⟩

def sp_l_many (K : PySem.W.Frag) (T : Tb) : Sp := fun vs H Q _ => ∃ (a : Addr) (ns : List Int) (k : Int), vs = [.ref a, .int k] ∧ SqL K H a (ns.map V.int) ∧ 0 ≤ k ∧ k ≤ 63 ∧ ∀ m : Nat, m ≤ 63 → Q (.int m) H
theorem ok_l_many {f : Addr} {fd : FuncData} (F : Fun K "_law_many" "_law_many" s_l_many f fd) (B : Bn mg) : FnOk P w K mg base CX0 1 f fd ["_law_script", "_law_few"] (sp_l_many K T) := by
  refine F.ok sc_l_many (fun vs H Q E h => ?_) (fun cdv A outer s H vs Q E hr h => ?_)
  · obtain ⟨a, ns, k, rfl, _⟩ := h
    rfl
  · obtain ⟨a, ns, k, rfl, hS, h0, h1, q⟩ := h
    refine ⟨_, (pss_one (ps_ret (pe_callB (call_max2 rfl) (by rfl) B.max_ (by decide +kernel) (pa_cons (pv 1) (pa_cons (pe_callB (call_min2 rfl) (by rfl) B.min_ (by decide +kernel) (pa_cons (pe_callB call_len_seq (by rfl) B.len_ (by decide +kernel) (pa_cons (pv 0) pa_nil)) (pa_cons pe_int pa_nil))) pa_nil))))), ?_⟩
    refine ⟨_, rfl, _, rfl, a, _, rfl, .inl hS, _, _, rfl, _, _, rfl, ?_⟩
    rw [List.length_map]
    have e : ∃ m : Nat, m ≤ 63 ∧ (if (if (63 : Int) < (ns.length : Int) then 63 else (ns.length : Int)) > k then (if (63 : Int) < (ns.length : Int) then 63 else (ns.length : Int)) else k) = (m : Int) := by
      refine ⟨(if (if (63 : Int) < (ns.length : Int) then 63 else (ns.length : Int)) > k then (if (63 : Int) < (ns.length : Int) then 63 else (ns.length : Int)) else k).toNat, ?_, ?_⟩ <;> (split <;> (try split) <;> omega)
    obtain ⟨m, hm, em⟩ := e
    rw [em]
    exact q m hm

def sp_l_same_n (n : Nat) (K : PySem.W.Frag) (T : Tb) : Sp := fun vs H Q _ => ∃ x y d, vs = [x, y] ∧ Dp K H x d ∧ Dp K H y d ∧ depOk n d = true ∧ ∀ H', Sm T H H' → Q (.bl true) H'
abbrev sp_l_same (K : PySem.W.Frag) (T : Tb) : Sp := sp_l_same_n 5 K T
theorem ok_l_same_n {f : Addr} {fd : FuncData} (F : Fun K "_law_same" "_law_same" s_l_same f fd) (B : Bn mg) (g : mg "_law_same" = some (.ref f)) (b : Binds K fd ["_law_found", "_law_due"] []) :
    ∀ n, FnOk P w K mg base CX0 (n + 1) f fd ["_law_found", "_law_due"] (sp_l_same_n n K T)
  | 0 => by
    refine F.ok sc_l_same (fun vs H Q E h => ?_) (fun cdv A outer s H vs Q E hr h => ?_)
    · obtain ⟨x, y, d, rfl, _⟩ := h
      rfl
    · obtain ⟨x, y, d, rfl, hx, hy, hd, q⟩ := h
      have tx := tyx_of hx
      have ty := tyx_of hy
      have q0 := q H Sm.refl
      refine ⟨_, (pss_cons (ps_if (pt_cmpR op_isN (pv 1) pe_non (nomark _)) (pss_one (ps_ret (pe_cmpR op_isN (pv 0) pe_non (nomark _)))) pss_nil)
      (pss_cons (ps_if (PW.pt (pw_or (pt_val (pe_callB call_isi (by rfl) B.isinstance_ (by decide +kernel) (pa_cons (pv 1) (pa_cons (pe_bltn (v := .ty "bool") (by rfl) B.bool_ (by decide +kernel) rfl) pa_nil)))) (pw_or1 (pt_val (pe_callB call_isi (by rfl) B.isinstance_ (by decide +kernel) (pa_cons (pv 0) (pa_cons (pe_bltn (v := .ty "bool") (by rfl) B.bool_ (by decide +kernel) rfl) pa_nil))))))) (pss_one (ps_ret (pe_and (pe_callB call_isi (by rfl) B.isinstance_ (by decide +kernel) (pa_cons (pv 1) (pa_cons (pe_bltn (v := .ty "bool") (by rfl) B.bool_ (by decide +kernel) rfl) pa_nil))) (pe_and (pe_callB call_isi (by rfl) B.isinstance_ (by decide +kernel) (pa_cons (pv 0) (pa_cons (pe_bltn (v := .ty "bool") (by rfl) B.bool_ (by decide +kernel) rfl) pa_nil))) (pe_one (pe_cmpR op_eq (pv 0) (pv 1) (nomark _))))))) pss_nil)
      (pss_cons (ps_if (pt_val (pe_callB call_isi (by rfl) B.isinstance_ (by decide +kernel) (pa_cons (pv 1) (pa_cons (pe_bltn (v := .ty "int") (by rfl) B.int_ (by decide +kernel) rfl) pa_nil)))) (pss_one (ps_ret (pe_and (pe_callB call_isi (by rfl) B.isinstance_ (by decide +kernel) (pa_cons (pv 0) (pa_cons (pe_bltn (v := .ty "int") (by rfl) B.int_ (by decide +kernel) rfl) pa_nil))) (pe_one (pe_cmpR op_eq (pv 0) (pv 1) (nomark _)))))) pss_nil)
      (pss_cons (ps_if (pt_val (pe_callB call_isi (by rfl) B.isinstance_ (by decide +kernel) (pa_cons (pv 1) (pa_cons (pe_bltn (v := .ty "str") (by rfl) B.str_ (by decide +kernel) rfl) pa_nil)))) (pss_one (ps_ret (pe_and (pe_callB call_isi (by rfl) B.isinstance_ (by decide +kernel) (pa_cons (pv 0) (pa_cons (pe_bltn (v := .ty "str") (by rfl) B.str_ (by decide +kernel) rfl) pa_nil))) (pe_one (pe_cmpR op_eq (pv 0) (pv 1) (nomark _)))))) pss_nil)
      (pss_cons (ps_if (PW.pt (pw_or (pt_cmpR op_ne (pe_callB call_isi (by rfl) B.isinstance_ (by decide +kernel) (pa_cons (pv 1) (pa_cons (pe_bltn (v := .ty "tuple") (by rfl) B.tuple_ (by decide +kernel) rfl) pa_nil))) (pe_callB call_isi (by rfl) B.isinstance_ (by decide +kernel) (pa_cons (pv 0) (pa_cons (pe_bltn (v := .ty "tuple") (by rfl) B.tuple_ (by decide +kernel) rfl) pa_nil))) (nomark _)) (pw_or1 (pt_cmpR op_ne (pe_callB call_isi (by rfl) B.isinstance_ (by decide +kernel) (pa_cons (pv 1) (pa_cons (pe_bltn (v := .ty "list") (by rfl) B.list_ (by decide +kernel) rfl) pa_nil))) (pe_callB call_isi (by rfl) B.isinstance_ (by decide +kernel) (pa_cons (pv 0) (pa_cons (pe_bltn (v := .ty "list") (by rfl) B.list_ (by decide +kernel) rfl) pa_nil))) (nomark _))))) (pss_one (ps_ret pe_bl)) pss_nil)
      (pss_one ps_never)))))), ?_⟩
      cases d with
      | none =>
        cases hx; cases hy
        exact ⟨_, rfl, rfl, _, rfl, iteT ⟨_, rfl, rfl, q0⟩⟩
      | bool b =>
        cases hx; cases hy
        refine ⟨_, rfl, rfl, _, rfl, iteF ?_⟩
        refine ⟨_, rfl, _, _, _, _, true, rfl, .ty "bool", ty, kit_ty kb_bool_bool, _, rfl, iteT (iteT ?_)⟩
        refine ⟨_, rfl, _, _, _, _, true, rfl, .ty "bool", ty, kit_ty kb_bool_bool, _, rfl, iteT ?_⟩
        refine ⟨_, rfl, _, _, _, _, true, rfl, .ty "bool", tx, kit_ty kb_bool_bool, _, rfl, iteT ?_⟩
        refine ⟨_, rfl, _, rfl, rfl, ?_⟩
        rw [decide_eq_true rfl]
        exact q0
      | int i =>
        cases hx; cases hy
        refine ⟨_, rfl, rfl, _, rfl, iteF ?_⟩
        refine ⟨_, rfl, _, _, _, _, false, rfl, .ty "bool", ty, kit_ty kb_int_bool, _, rfl, iteF ?_⟩
        refine ⟨_, rfl, _, _, _, _, false, rfl, .ty "bool", tx, kit_ty kb_int_bool, _, rfl, iteF ?_⟩
        refine ⟨_, rfl, _, _, _, _, true, rfl, .ty "int", ty, kit_ty kb_int_int, _, rfl, iteT ?_⟩
        refine ⟨_, rfl, _, _, _, _, true, rfl, .ty "int", tx, kit_ty kb_int_int, _, rfl, iteT ?_⟩
        refine ⟨_, rfl, _, rfl, rfl, ?_⟩
        rw [decide_eq_true rfl]
        exact q0
      | str z =>
        cases hx; cases hy
        refine ⟨_, rfl, rfl, _, rfl, iteF ?_⟩
        refine ⟨_, rfl, _, _, _, _, false, rfl, .ty "bool", ty, kit_ty kb_str_bool, _, rfl, iteF ?_⟩
        refine ⟨_, rfl, _, _, _, _, false, rfl, .ty "bool", tx, kit_ty kb_str_bool, _, rfl, iteF ?_⟩
        refine ⟨_, rfl, _, _, _, _, false, rfl, .ty "int", ty, kit_ty kb_str_int, _, rfl, iteF ?_⟩
        refine ⟨_, rfl, _, _, _, _, true, rfl, .ty "str", ty, kit_ty kb_str_str, _, rfl, iteT ?_⟩
        refine ⟨_, rfl, _, _, _, _, true, rfl, .ty "str", tx, kit_ty kb_str_str, _, rfl, iteT ?_⟩
        refine ⟨_, rfl, _, rfl, rfl, ?_⟩
        rw [decide_eq_true rfl]
        exact q0
      | list ds => cases hd
      | tuple ds => cases hd
      | dict _ => cases hd
  | n + 1 => by
    have F_l_same : Fn P w K mg base (n + 1) "_law_same" ["_law_found", "_law_due"] (sp_l_same_n n K T) := Fn.mk' (ok_l_same_n F B g b n) g F.kp b
    refine F.ok sc_l_same (fun vs H Q E h => ?_) (fun cdv A outer s H vs Q E hr h => ?_)
    · obtain ⟨x, y, d, rfl, _⟩ := h
      rfl
    · obtain ⟨x, y, d, rfl, hx, hy, hd, q⟩ := h
      have tx := tyx_of hx
      have ty := tyx_of hy
      have q0 := q H Sm.refl
      refine ⟨_, (pss_cons (ps_if (pt_cmpR op_isN (pv 1) pe_non (nomark _)) (pss_one (ps_ret (pe_cmpR op_isN (pv 0) pe_non (nomark _)))) pss_nil)
      (pss_cons (ps_if (PW.pt (pw_or (pt_val (pe_callB call_isi (by rfl) B.isinstance_ (by decide +kernel) (pa_cons (pv 1) (pa_cons (pe_bltn (v := .ty "bool") (by rfl) B.bool_ (by decide +kernel) rfl) pa_nil)))) (pw_or1 (pt_val (pe_callB call_isi (by rfl) B.isinstance_ (by decide +kernel) (pa_cons (pv 0) (pa_cons (pe_bltn (v := .ty "bool") (by rfl) B.bool_ (by decide +kernel) rfl) pa_nil))))))) (pss_one (ps_ret (pe_and (pe_callB call_isi (by rfl) B.isinstance_ (by decide +kernel) (pa_cons (pv 1) (pa_cons (pe_bltn (v := .ty "bool") (by rfl) B.bool_ (by decide +kernel) rfl) pa_nil))) (pe_and (pe_callB call_isi (by rfl) B.isinstance_ (by decide +kernel) (pa_cons (pv 0) (pa_cons (pe_bltn (v := .ty "bool") (by rfl) B.bool_ (by decide +kernel) rfl) pa_nil))) (pe_one (pe_cmpR op_eq (pv 0) (pv 1) (nomark _))))))) pss_nil)
      (pss_cons (ps_if (pt_val (pe_callB call_isi (by rfl) B.isinstance_ (by decide +kernel) (pa_cons (pv 1) (pa_cons (pe_bltn (v := .ty "int") (by rfl) B.int_ (by decide +kernel) rfl) pa_nil)))) (pss_one (ps_ret (pe_and (pe_callB call_isi (by rfl) B.isinstance_ (by decide +kernel) (pa_cons (pv 0) (pa_cons (pe_bltn (v := .ty "int") (by rfl) B.int_ (by decide +kernel) rfl) pa_nil))) (pe_one (pe_cmpR op_eq (pv 0) (pv 1) (nomark _)))))) pss_nil)
      (pss_cons (ps_if (pt_val (pe_callB call_isi (by rfl) B.isinstance_ (by decide +kernel) (pa_cons (pv 1) (pa_cons (pe_bltn (v := .ty "str") (by rfl) B.str_ (by decide +kernel) rfl) pa_nil)))) (pss_one (ps_ret (pe_and (pe_callB call_isi (by rfl) B.isinstance_ (by decide +kernel) (pa_cons (pv 0) (pa_cons (pe_bltn (v := .ty "str") (by rfl) B.str_ (by decide +kernel) rfl) pa_nil))) (pe_one (pe_cmpR op_eq (pv 0) (pv 1) (nomark _)))))) pss_nil)
      (pss_cons (ps_if (PW.pt (pw_or (pt_cmpR op_ne (pe_callB call_isi (by rfl) B.isinstance_ (by decide +kernel) (pa_cons (pv 1) (pa_cons (pe_bltn (v := .ty "tuple") (by rfl) B.tuple_ (by decide +kernel) rfl) pa_nil))) (pe_callB call_isi (by rfl) B.isinstance_ (by decide +kernel) (pa_cons (pv 0) (pa_cons (pe_bltn (v := .ty "tuple") (by rfl) B.tuple_ (by decide +kernel) rfl) pa_nil))) (nomark _)) (pw_or1 (pt_cmpR op_ne (pe_callB call_isi (by rfl) B.isinstance_ (by decide +kernel) (pa_cons (pv 1) (pa_cons (pe_bltn (v := .ty "list") (by rfl) B.list_ (by decide +kernel) rfl) pa_nil))) (pe_callB call_isi (by rfl) B.isinstance_ (by decide +kernel) (pa_cons (pv 0) (pa_cons (pe_bltn (v := .ty "list") (by rfl) B.list_ (by decide +kernel) rfl) pa_nil))) (nomark _))))) (pss_one (ps_ret pe_bl)) pss_nil)
      (pss_one (ps_ret (pe_and (pe_cmpR op_eq (pe_callB call_len_seq (by rfl) B.len_ (by decide +kernel) (pa_cons (pv 0) pa_nil)) (pe_callB call_len_seq (by rfl) B.len_ (by decide +kernel) (pa_cons (pv 1) pa_nil)) (nomark _)) (pe_one (pe_callB (cr_all rfl) (by rfl) B.all_ (by decide +kernel) (pa_cons (pe_lc (own := [("_law_k", 2)]) (g := (gName 2)) (tt := tYes) (by rfl) sc_l_same.nd (pi_range1 (by rfl) B.range_ (pa_cons (pe_callB call_len_seq (by rfl) B.len_ (by decide +kernel) (pa_cons (pv 1) pa_nil)) pa_nil)) (blkOk_by (own := [("_law_k", 2)]) (N := ["_law_found", "_law_due", "_law_k"]) (sc := (defScope s_l_same)) (by decide +kernel)) (fun _ _ _ _ _ => (pg_name (i := 2) sc_l_same.nd rfl (.inl rfl))) (fun _ _ _ _ _ => pts_nil) (fun _ _ _ _ _ => (pe_fn F_l_same hr (pa_cons (pe_ix (r := rIx K) ix_seq (pv 0) (pv 2) (fun _ _ => rfl)) (pa_cons (pe_ix (r := rIx K) ix_seq (pv 1) (pv 2) (fun _ _ => rfl)) pa_nil))))) pa_nil))))))))))), ?_⟩
      cases d with
      | none =>
        cases hx; cases hy
        exact ⟨_, rfl, rfl, _, rfl, iteT ⟨_, rfl, rfl, q0⟩⟩
      | bool b =>
        cases hx; cases hy
        refine ⟨_, rfl, rfl, _, rfl, iteF ?_⟩
        refine ⟨_, rfl, _, _, _, _, true, rfl, .ty "bool", ty, kit_ty kb_bool_bool, _, rfl, iteT (iteT ?_)⟩
        refine ⟨_, rfl, _, _, _, _, true, rfl, .ty "bool", ty, kit_ty kb_bool_bool, _, rfl, iteT ?_⟩
        refine ⟨_, rfl, _, _, _, _, true, rfl, .ty "bool", tx, kit_ty kb_bool_bool, _, rfl, iteT ?_⟩
        refine ⟨_, rfl, _, rfl, rfl, ?_⟩
        rw [decide_eq_true rfl]
        exact q0
      | int i =>
        cases hx; cases hy
        refine ⟨_, rfl, rfl, _, rfl, iteF ?_⟩
        refine ⟨_, rfl, _, _, _, _, false, rfl, .ty "bool", ty, kit_ty kb_int_bool, _, rfl, iteF ?_⟩
        refine ⟨_, rfl, _, _, _, _, false, rfl, .ty "bool", tx, kit_ty kb_int_bool, _, rfl, iteF ?_⟩
        refine ⟨_, rfl, _, _, _, _, true, rfl, .ty "int", ty, kit_ty kb_int_int, _, rfl, iteT ?_⟩
        refine ⟨_, rfl, _, _, _, _, true, rfl, .ty "int", tx, kit_ty kb_int_int, _, rfl, iteT ?_⟩
        refine ⟨_, rfl, _, rfl, rfl, ?_⟩
        rw [decide_eq_true rfl]
        exact q0
      | str z =>
        cases hx; cases hy
        refine ⟨_, rfl, rfl, _, rfl, iteF ?_⟩
        refine ⟨_, rfl, _, _, _, _, false, rfl, .ty "bool", ty, kit_ty kb_str_bool, _, rfl, iteF ?_⟩
        refine ⟨_, rfl, _, _, _, _, false, rfl, .ty "bool", tx, kit_ty kb_str_bool, _, rfl, iteF ?_⟩
        refine ⟨_, rfl, _, _, _, _, false, rfl, .ty "int", ty, kit_ty kb_str_int, _, rfl, iteF ?_⟩
        refine ⟨_, rfl, _, _, _, _, true, rfl, .ty "str", ty, kit_ty kb_str_str, _, rfl, iteT ?_⟩
        refine ⟨_, rfl, _, _, _, _, true, rfl, .ty "str", tx, kit_ty kb_str_str, _, rfl, iteT ?_⟩
        refine ⟨_, rfl, _, rfl, rfl, ?_⟩
        rw [decide_eq_true rfl]
        exact q0
      | list ds =>
        cases hx with
        | @lst ax xs _ sx ax_ =>
        cases hy with
        | @lst ay ys _ sy ay_ =>
        refine ⟨_, rfl, rfl, _, rfl, iteF ?_⟩
        refine ⟨_, rfl, _, _, _, _, false, rfl, .ty "bool", ty, kit_ty kb_list_bool, _, rfl, iteF ?_⟩
        refine ⟨_, rfl, _, _, _, _, false, rfl, .ty "bool", tx, kit_ty kb_list_bool, _, rfl, iteF ?_⟩
        refine ⟨_, rfl, _, _, _, _, false, rfl, .ty "int", ty, kit_ty kb_list_int, _, rfl, iteF ?_⟩
        refine ⟨_, rfl, _, _, _, _, false, rfl, .ty "str", ty, kit_ty kb_list_str, _, rfl, iteF ?_⟩
        refine ⟨_, rfl, _, _, _, _, false, rfl, .ty "tuple", ty, kit_ty kb_list_tuple, _, rfl, _, _, _, _, false, rfl, .ty "tuple", tx, kit_ty kb_list_tuple, rfl, _, rfl, iteF ?_⟩
        refine ⟨_, rfl, _, _, _, _, true, rfl, .ty "list", ty, kit_ty kb_list_list, _, rfl, _, _, _, _, true, rfl, .ty "list", tx, kit_ty kb_list_list, rfl, _, rfl, iteF ?_⟩
        have hd' : (decide (ds.length ≤ 9000) && ds.all (depOk n)) = true := hd
        rw [Bool.and_eq_true] at hd'
        have hle : ds.length ≤ 9000 := of_decide_eq_true hd'.1
        have lx := dpa_len ax_
        have ly := dpa_len ay_
        refine ⟨_, rfl, ax, xs, rfl, .inl sx, _, rfl, ay, ys, rfl, .inl sy, rfl, _, rfl, ?_⟩
        rw [lx, ly, decide_eq_true rfl]
        refine iteT ?_
        refine ⟨_, rfl, ay, ys, rfl, .inl sy, _, rfl, by rw [ly]; omega, by rw [ly]; omega, fun D hD => lc_range (lo := 0) (n := ys.length)
          (Qd := _) (fun i H' => Sm T H H' ∧ H' D = some (.lst (List.replicate i (V.bl true)))) ⟨same_upd hD, upd_same⟩ ?_ ?_⟩
        · rintro i H' hi ⟨sm, eD⟩
          rw [ly] at hi
          obtain ⟨vx, ex, dx⟩ := dpa_get ax_ (List.getElem?_eq_getElem hi)
          obtain ⟨vy, ey, dy⟩ := dpa_get ay_ (List.getElem?_eq_getElem hi)
          refine ⟨rfl, tyes_i ?_⟩
          refine ⟨_, rfl, _, rfl, .inl ⟨ax, xs, _, vx, rfl, rfl, sm.seq sx, at_of (j := i) (by omega) ex, ?_⟩⟩
          refine ⟨_, rfl, _, rfl, .inl ⟨ay, ys, _, vy, rfl, rfl, sm.seq sy, at_of (j := i) (by omega) ey, ?_⟩⟩
          refine ⟨vx, vy, ds[i], rfl, dp_same sm _ _ dx, dp_same sm _ _ dy, List.all_eq_true.mp hd'.2 _ (List.getElem_mem hi), fun H2 s2 => ⟨_, s2.k eD, ?_, same_mut (sm.trans s2) hD (s2.lst eD), ?_⟩⟩
          · rw [List.length_replicate]
            exact szl (by omega)
          · rw [upd_same, ← List.replicate_succ']
        · rintro H' ⟨sm, eD⟩
          rw [ly] at eD
          refine ⟨D, List.replicate ds.length true, rfl, SqL.of (by rw [eD, List.map_replicate]), ?_⟩
          rw [rep_all]
          exact q H' sm
      | tuple ds =>
        cases hx with
        | @tup ax xs _ sx ax_ =>
        cases hy with
        | @tup ay ys _ sy ay_ =>
        refine ⟨_, rfl, rfl, _, rfl, iteF ?_⟩
        refine ⟨_, rfl, _, _, _, _, false, rfl, .ty "bool", ty, kit_ty kb_tuple_bool, _, rfl, iteF ?_⟩
        refine ⟨_, rfl, _, _, _, _, false, rfl, .ty "bool", tx, kit_ty kb_tuple_bool, _, rfl, iteF ?_⟩
        refine ⟨_, rfl, _, _, _, _, false, rfl, .ty "int", ty, kit_ty kb_tuple_int, _, rfl, iteF ?_⟩
        refine ⟨_, rfl, _, _, _, _, false, rfl, .ty "str", ty, kit_ty kb_tuple_str, _, rfl, iteF ?_⟩
        refine ⟨_, rfl, _, _, _, _, true, rfl, .ty "tuple", ty, kit_ty kb_tuple_tuple, _, rfl, _, _, _, _, true, rfl, .ty "tuple", tx, kit_ty kb_tuple_tuple, rfl, _, rfl, iteF ?_⟩
        refine ⟨_, rfl, _, _, _, _, false, rfl, .ty "list", ty, kit_ty kb_tuple_list, _, rfl, _, _, _, _, false, rfl, .ty "list", tx, kit_ty kb_tuple_list, rfl, _, rfl, iteF ?_⟩
        have hd' : (decide (ds.length ≤ 9000) && ds.all (depOk n)) = true := hd
        rw [Bool.and_eq_true] at hd'
        have hle : ds.length ≤ 9000 := of_decide_eq_true hd'.1
        have lx := dpa_len ax_
        have ly := dpa_len ay_
        refine ⟨_, rfl, ax, xs, rfl, .inr sx, _, rfl, ay, ys, rfl, .inr sy, rfl, _, rfl, ?_⟩
        rw [lx, ly, decide_eq_true rfl]
        refine iteT ?_
        refine ⟨_, rfl, ay, ys, rfl, .inr sy, _, rfl, by rw [ly]; omega, by rw [ly]; omega, fun D hD => lc_range (lo := 0) (n := ys.length)
          (Qd := _) (fun i H' => Sm T H H' ∧ H' D = some (.lst (List.replicate i (V.bl true)))) ⟨same_upd hD, upd_same⟩ ?_ ?_⟩
        · rintro i H' hi ⟨sm, eD⟩
          rw [ly] at hi
          obtain ⟨vx, ex, dx⟩ := dpa_get ax_ (List.getElem?_eq_getElem hi)
          obtain ⟨vy, ey, dy⟩ := dpa_get ay_ (List.getElem?_eq_getElem hi)
          refine ⟨rfl, tyes_i ?_⟩
          refine ⟨_, rfl, _, rfl, .inr (.inl ⟨ax, xs, _, vx, rfl, rfl, same_tup sm sx, at_of (j := i) (by omega) ex, ?_⟩)⟩
          refine ⟨_, rfl, _, rfl, .inr (.inl ⟨ay, ys, _, vy, rfl, rfl, same_tup sm sy, at_of (j := i) (by omega) ey, ?_⟩)⟩
          refine ⟨vx, vy, ds[i], rfl, dp_same sm _ _ dx, dp_same sm _ _ dy, List.all_eq_true.mp hd'.2 _ (List.getElem_mem hi), fun H2 s2 => ⟨_, s2.k eD, ?_, same_mut (sm.trans s2) hD (s2.lst eD), ?_⟩⟩
          · rw [List.length_replicate]
            exact szl (by omega)
          · rw [upd_same, ← List.replicate_succ']
        · rintro H' ⟨sm, eD⟩
          rw [ly] at eD
          refine ⟨D, List.replicate ds.length true, rfl, SqL.of (by rw [eD, List.map_replicate]), ?_⟩
          rw [rep_all]
          exact q H' sm
      | dict _ => cases hd
theorem ok_l_same {f : Addr} {fd : FuncData} (F : Fun K "_law_same" "_law_same" s_l_same f fd) (B : Bn mg) (g : mg "_law_same" = some (.ref f)) (b : Binds K fd ["_law_found", "_law_due"] []) :
    FnOk P w K mg base CX0 6 f fd ["_law_found", "_law_due"] (sp_l_same K T) := ok_l_same_n F B g b 5

def sp_l_gcd (K : PySem.W.Frag) (T : Tb) : Sp := fun vs H Q _ => ∃ a b : Nat, vs = [.int a, .int b] ∧ Q (.int (Nat.gcd a b : Nat)) H
theorem ok_l_gcd {f : Addr} {fd : FuncData} (F : Fun K "_law_gcd" "_law_gcd" s_l_gcd f fd) : FnOk P w K mg base CX0 1 f fd ["_law_one", "_law_other"] (sp_l_gcd K T) := by
  refine F.ok sc_l_gcd (fun vs H Q E h => ?_) (fun cdv A outer s H vs Q E hr h => ?_)
  · obtain ⟨a, b, rfl, _⟩ := h
    rfl
  · obtain ⟨a, b, rfl, q⟩ := h
    refine ⟨_, (pss_cons (ps_while PassesOwn.never (pt_cmpR op_gt (pv 1) pe_int (nomark _)) (pss_one (ps_par (i := 0) (j := 1) (by rfl) sc_l_gcd.nd rfl rfl (by decide) rfl rfl (pa_cons (pv 1) (pa_cons (pe_op op_mod (pv 0) (pv 1)) pa_nil)) (by rfl))))
      (pss_one (ps_ret (pv 0)))), ?_⟩
    refine while_by (fun σ H' => ∃ x y : Nat, σ = [some (.int x), some (.int y)] ∧ H' = H ∧ Nat.gcd x y = Nat.gcd a b) (fun σ _ => match σ with | [_, some (.int y)] => y.toNat | _ => 0) ⟨a, b, rfl, rfl, rfl⟩ ?_ ?_
    · rintro σ H' ⟨x, y, rfl, rfl, hg⟩
      refine ⟨_, rfl, _, _, rfl, rfl, _, rfl, ite2 (fun e => ?_) (fun e => ?_)⟩
      · have hy : 0 < y := by
          have : (0 : Int) < (y : Int) := of_decide_eq_true e
          omega
        refine ⟨_, rfl, _, rfl, _, rfl, _, _, rfl, rfl, (by show (0 : Int) < (y : Int); omega), _, _, rfl, ⟨y, x % y, ?_, rfl, ?_⟩, ?_⟩
        · show [some (V.int y), some (V.int ((x : Int) % (y : Int)))] = _
          rw [Int.natCast_emod]
        · rw [← hg, Nat.gcd_comm x y, Nat.gcd_rec y x, Nat.gcd_comm]
        · show ((x : Int) % (y : Int)).toNat < (y : Int).toNat
          rw [← Int.natCast_emod, Int.toNat_natCast, Int.toNat_natCast]
          exact Nat.mod_lt _ hy
      · have hy : y = 0 := by
          have : ¬ (0 : Int) < (y : Int) := fun z => e (decide_eq_true z)
          omega
        subst hy
        refine ⟨_, rfl, ?_⟩
        rw [← hg, Nat.gcd_zero_right] at q
        exact q
    · rintro σ H Q Q' m ⟨v, e, i, j, e1, e2, k, e3, q⟩
      exact ⟨v, e, i, j, e1, e2, k, e3, m _ _ q⟩

def sp_l_amt (K : PySem.W.Frag) (T : Tb) : Sp := fun vs H Q _ => ∃ n d : Int, vs = [.int n, .int d] ∧ 0 < d ∧ d.natAbs < 2 ^ 8900 ∧ ∀ p H', Sm T H H' → H p = none → H' p = some (.tup (tv (amt n d))) → Q (.ref p) H'
theorem ok_l_amt {f : Addr} {fd : FuncData} (F : Fun K "_law_amt" "_law_amt" s_l_amt f fd) (B : Bn mg) (F_l_gcd : Fn P w K mg base 1 "_law_gcd" ["_law_one", "_law_other"] (sp_l_gcd K T)) : FnOk P w K mg base CX0 2 f fd ["_law_num", "_law_den"] (sp_l_amt K T) := by
  refine F.ok sc_l_amt (fun vs H Q E h => ?_) (fun cdv A outer s H vs Q E hr h => ?_)
  · obtain ⟨n, d, rfl, _⟩ := h
    rfl
  · obtain ⟨n, d, rfl, hd, hb, q⟩ := h
    refine ⟨_, (pss_cons (ps_set (i := 2) sc_l_amt.nd rfl (.inl rfl) (pe_fn F_l_gcd (hr.mono (by decide)) (pa_cons (pe_callB call_abs (by rfl) B.abs_ (by decide +kernel) (pa_cons (pv 0) pa_nil)) (pa_cons (pv 1) pa_nil))))
      (pss_one (ps_ret (pe_tup (pa_cons (pe_op op_fdivW (pv 0) (pv 2)) (pa_cons (pe_op op_fdivW (pv 1) (pv 2)) pa_nil)))))), ?_⟩
    have hg := gcd_bound (n := n) (d := d) (by omega) hb
    have e1 : (if n < 0 then -n else n) = (n.natAbs : Int) := by split <;> omega
    have e2 : d = (d.natAbs : Int) := by omega
    refine ⟨_, rfl, _, rfl, _, rfl, n.natAbs, d.natAbs, ?_, ?_⟩
    · show [V.int (if n < 0 then -n else n), V.int d] ++ [] = _
      rw [e1, ← e2]
      rfl
    · refine ⟨_, rfl, _, rfl, _, _, rfl, rfl, wide_div (b := 8900) (by omega) (by rw [Int.natAbs_natCast]; exact hg.2) (by decide) (by decide), ?_⟩
      refine ⟨_, rfl, _, rfl, _, _, rfl, rfl, wide_div (b := 8900) (by omega) (by rw [Int.natAbs_natCast]; exact hg.2) (by decide) (by decide), ?_⟩
      refine ⟨by show 2 ≤ sizeLine; decide, fun p hp => ?_⟩
      refine q p _ (same_upd hp) hp (upd_same.trans ?_)
      show some (HO.tup [V.int (n / ((Nat.gcd n.natAbs d.natAbs : Nat) : Int)), V.int (d / ((Nat.gcd n.natAbs d.natAbs : Nat) : Int))]) = some (HO.tup [V.int ((if d < 0 then -n else n) / ((Nat.gcd n.natAbs d.natAbs : Nat) : Int)), V.int ((d.natAbs : Int) / ((Nat.gcd n.natAbs d.natAbs : Nat) : Int))])
      rw [if_neg (by omega : ¬ d < 0), ← e2]

abbrev sp_l_sub : PySem.W.Frag → Tb → Sp := spBin (fun x y => 0 < x.2 ∧ 0 < y.2) minusA
theorem ok_l_sub {f : Addr} {fd : FuncData} (F : Fun K "_law_sub" "_law_sub" s_l_sub f fd) (F_l_amt : Fn P w K mg base 2 "_law_amt" ["_law_num", "_law_den"] (sp_l_amt K T)) : FnOk P w K mg base CX0 3 f fd ["_law_one", "_law_other"] (sp_l_sub K T) := by
  refine F.ok sc_l_sub (fun vs H Q E h => ?_) (fun cdv A outer s H vs Q E hr h => ?_)
  · obtain ⟨a, b, x, y, rfl, _⟩ := h
    rfl
  · obtain ⟨a, b, x, y, rfl, ha, hb, ⟨bx, by_⟩, ⟨hx, hy⟩, q⟩ := h
    refine ⟨_, (pss_one (ps_ret (pe_fn F_l_amt (hr.mono (by decide)) (pa_cons (pe_op op_sub (pe_op op_mulW (pe_ix ix_tup (pv 0) pe_int (fun _ _ => rfl)) (pe_ix ix_tup (pv 1) pe_int (fun _ _ => rfl))) (pe_op op_mulW (pe_ix ix_tup (pv 1) pe_int (fun _ _ => rfl)) (pe_ix ix_tup (pv 0) pe_int (fun _ _ => rfl)))) (pa_cons (pe_op op_mulW (pe_ix ix_tup (pv 0) pe_int (fun _ _ => rfl)) (pe_ix ix_tup (pv 1) pe_int (fun _ _ => rfl))) pa_nil))))), ?_⟩
    refine ⟨_, rfl, a, _, 0, .int x.1, rfl, rfl, ha, atI_nat (j := 0) rfl, _, rfl, b, _, 1, .int y.2, rfl, rfl, hb, atI_nat (j := 1) rfl, _, _, rfl, rfl, wm bx.1 by_.2, ?_⟩
    refine ⟨_, rfl, b, _, 0, .int y.1, rfl, rfl, hb, atI_nat (j := 0) rfl, _, rfl, a, _, 1, .int x.2, rfl, rfl, ha, atI_nat (j := 1) rfl, _, _, rfl, rfl, wm by_.1 bx.2, _, _, rfl, rfl, ?_⟩
    refine ⟨_, rfl, a, _, 1, .int x.2, rfl, rfl, ha, atI_nat (j := 1) rfl, _, rfl, b, _, 1, .int y.2, rfl, rfl, hb, atI_nat (j := 1) rfl, _, _, rfl, rfl, wm bx.2 by_.2, ?_⟩
    exact ⟨_, _, rfl, Int.mul_pos hx hy, wl bx.2 by_.2, q⟩

def sp_l_less (K : PySem.W.Frag) (T : Tb) : Sp := fun vs H Q _ => ∃ a b x y, vs = [.ref a, .ref b] ∧ SqT K H a (tv x) ∧ SqT K H b (tv y) ∧ (Bd 4000 x ∧ Bd 4000 y) ∧ Q (.bl (belowA x y)) H
theorem ok_l_less {f : Addr} {fd : FuncData} (F : Fun K "_law_less" "_law_less" s_l_less f fd) : FnOk P w K mg base CX0 1 f fd ["_law_one", "_law_other"] (sp_l_less K T) := by
  refine F.ok sc_l_less (fun vs H Q E h => ?_) (fun cdv A outer s H vs Q E hr h => ?_)
  · obtain ⟨a, b, x, y, rfl, _⟩ := h
    rfl
  · obtain ⟨a, b, x, y, rfl, ha, hb, ⟨bx, by_⟩, q⟩ := h
    refine ⟨_, (pss_one (ps_ret (pe_cmpR op_lt (pe_op op_mulW (pe_ix ix_tup (pv 0) pe_int (fun _ _ => rfl)) (pe_ix ix_tup (pv 1) pe_int (fun _ _ => rfl))) (pe_op op_mulW (pe_ix ix_tup (pv 1) pe_int (fun _ _ => rfl)) (pe_ix ix_tup (pv 0) pe_int (fun _ _ => rfl))) (nomark _)))), ?_⟩
    refine ⟨_, rfl, a, _, 0, .int x.1, rfl, rfl, ha, atI_nat (j := 0) rfl, _, rfl, b, _, 1, .int y.2, rfl, rfl, hb, atI_nat (j := 1) rfl, _, _, rfl, rfl, wm bx.1 by_.2, ?_⟩
    exact ⟨_, rfl, b, _, 0, .int y.1, rfl, rfl, hb, atI_nat (j := 0) rfl, _, rfl, a, _, 1, .int x.2, rfl, rfl, ha, atI_nat (j := 1) rfl, _, _, rfl, rfl, wm by_.1 bx.2, _, _, rfl, rfl, q⟩

def sp_p_is_number (K : PySem.W.Frag) (T : Tb) : Sp := fun vs H Q _ => ∃ i : Int, vs = [.int i] ∧ Q (.bl true) H
theorem ok_p_is_number {f : Addr} {fd : FuncData} (F : Fun K "is_number" "is_number" s_p_is_number f fd) (B : Bn mg) : FnOk P w K mg base CX0 1 f fd ["thing"] (sp_p_is_number K T) := by
  refine F.ok sc_p_is_number (fun vs H Q E h => ?_) (fun cdv A outer s H vs Q E hr h => ?_)
  · obtain ⟨i, rfl, _⟩ := h
    rfl
  · obtain ⟨i, rfl, q⟩ := h
    refine ⟨_, (pss_one (ps_ret (pe_and (pe_callB call_isi (by rfl) B.isinstance_ (by decide +kernel) (pa_cons (pv 0) (pa_cons (pe_bltn (v := .ty "int") (by rfl) B.int_ (by decide +kernel) rfl) pa_nil))) (pe_one (pe_not (pe_callB call_isi (by rfl) B.isinstance_ (by decide +kernel) (pa_cons (pv 0) (pa_cons (pe_bltn (v := .ty "bool") (by rfl) B.bool_ (by decide +kernel) rfl) pa_nil)))))))), ?_⟩
    refine ⟨_, rfl, _, _, _, _, true, rfl, .ty "int", .base (.int i), kit_ty kb_int_int, _, rfl, iteT ?_⟩
    exact ⟨_, rfl, _, _, _, _, false, rfl, .ty "bool", .base (.int i), kit_ty kb_int_bool, _, rfl, q⟩
def sp_p_is_within (K : PySem.W.Frag) (T : Tb) : Sp := fun vs H Q _ => ∃ i l m : Int, vs = [.int i, .int l, .int m] ∧ Q (.bl (decide (l ≤ i) && decide (i ≤ m))) H
theorem ok_p_is_within {f : Addr} {fd : FuncData} (F : Fun K "is_within" "is_within" s_p_is_within f fd) (F_p_is_number : Fn P w K mg base 1 "is_number" ["thing"] (sp_p_is_number K T)) : FnOk P w K mg base CX0 2 f fd ["thing", "least", "most"] (sp_p_is_within K T) := by
  refine F.ok sc_p_is_within (fun vs H Q E h => ?_) (fun cdv A outer s H vs Q E hr h => ?_)
  · obtain ⟨i, l, m, rfl, _⟩ := h
    rfl
  · obtain ⟨i, l, m, rfl, q⟩ := h
    refine ⟨_, (pss_one (ps_ret (pe_and (pe_fn F_p_is_number (hr.mono (by decide)) (pa_cons (pv 0) pa_nil)) (pe_one (pe_chain op_le op_le (pv 1) (pv 0) (pv 2)))))), ?_⟩
    refine ⟨_, rfl, i, rfl, _, rfl, iteT ?_⟩
    refine ⟨_, rfl, _, rfl, _, _, rfl, rfl, _, rfl, ?_⟩
    by_cases h : l ≤ i
    · rw [decide_eq_true h, Bool.true_and] at q
      rw [decide_eq_true h]
      exact iteT ⟨_, rfl, _, _, rfl, rfl, q⟩
    · rw [decide_eq_false h, Bool.false_and] at q
      rw [decide_eq_false h]
      exact iteF q
def paceB (z : Int) : Bool := decide (1 ≤ z) && decide (z ≤ 12)
def sp_p_check_pace (K : PySem.W.Frag) (T : Tb) (CP : Addr) : Sp := fun vs H Q E => ∃ z : Int, vs = [.int z] ∧ (paceB z = true → Q .non H) ∧ (paceB z = false → ∀ cls d H', Sm T H H' → Rf K CP "bad pace" cls d H' → E cls d H')
theorem ok_p_check_pace {f : Addr} {fd : FuncData} {u_MOST_PACE : Value} (F : Fun K "check_pace" "check_pace" s_p_check_pace f fd) (C_MOST_PACE : RelV (.int 12) u_MOST_PACE ∧ mg "MOST_PACE" = some u_MOST_PACE) {CP : Addr} (R_BadPace : Err P w K mg base CP "BadPace" "bad pace") (F_p_is_within : Fn P w K mg base 2 "is_within" ["thing", "least", "most"] (sp_p_is_within K T)) : FnOk P w K mg base (L2.CX P w) 4 f fd ["pace"] (sp_p_check_pace K T CP) := by
  obtain ⟨⟨tM, rfl⟩, gM⟩ := id C_MOST_PACE
  refine F.okX sc_p_check_pace (fun vs H Q E h => ?_) (fun cdv A outer s H vs Q E hr h => ?_)
  · obtain ⟨z, rfl, _⟩ := h
    rfl
  · obtain ⟨z, rfl, k1, k2⟩ := h
    refine ⟨_, (pss_one (ps_if (pt_not (pt_val (pe_fn F_p_is_within (hr.mono (by decide)) (pa_cons (pv 0) (pa_cons pe_int (pa_cons (pe_glob (by rfl) C_MOST_PACE.2 C_MOST_PACE.1) pa_nil)))))) (pss_one (ps_raise rfl (takes_of rfl rfl rfl rfl) (pmk_err R_BadPace (hr.mono (by decide)) (by rfl)))) pss_nil)), ?_⟩
    refine ⟨_, rfl, z, 1, 12, rfl, _, rfl, ?_⟩
    show if (!(paceB z)) = true then _ else _
    cases hz : paceB z with
    | true => exact iteF (k1 hz)
    | false => exact iteT fun cls dd hn rf => k2 hz cls (some dd) _ (same_upd hn) rf
/-- what paces are refused with -/
def pcW (m : Int) (zs : List Int) : Option Str := if ¬ (1 ≤ (zs.length : Int) ∧ (zs.length : Int) ≤ m) then some "bad count" else if zs.all paceB = true then none else some "bad pace"
def sp_p_check_paces (K : PySem.W.Frag) (T : Tb) (CP : Addr) : Sp := fun vs H Q E => ∃ (a : Addr) (zs : List Int) (m : Int), vs = [.ref a, .int m] ∧ SqL K H a (zs.map V.int) ∧ (pcW m zs = none → Q .non H) ∧ (∀ wd, pcW m zs = some wd → ∀ cls d H', Sm T H H' → Rf K CP wd cls d H' → E cls d H')
theorem ok_p_check_paces {f : Addr} {fd : FuncData} (F : Fun K "check_paces" "check_paces" s_p_check_paces f fd) (B : Bn mg) {CP : Addr} (R_BadCount : Err P w K mg base CP "BadCount" "bad count") (F_p_check_pace : Fx P w K mg base 4 "check_pace" ["pace"] (sp_p_check_pace K T CP)) : FnOk P w K mg base (L2.CX P w) 5 f fd ["paces", "most"] (sp_p_check_paces K T CP) := by
  refine F.okX sc_p_check_paces (fun vs H Q E h => ?_) (fun cdv A outer s H vs Q E hr h => ?_)
  · obtain ⟨a, zs, m, rfl, _⟩ := h
    rfl
  · obtain ⟨a, zs, m, rfl, ha, k1, k2⟩ := h
    refine ⟨_, (pss_cons (ps_if (pt_not (pt_chain op_le op_le pe_int (pe_callB call_len_seq (by rfl) B.len_ (by decide +kernel) (pa_cons (pv 0) pa_nil)) (pv 1))) (pss_one (ps_raise rfl (takes_of rfl rfl rfl rfl) (pmk_err R_BadCount (hr.mono (by decide)) (by rfl)))) pss_nil)
      (pss_one (ps_for (passes_of rfl) rfl (pi_list (pv 0)) (pg_name (i := 2) sc_p_check_paces.nd rfl (.inl rfl))
      (pss_one (ps_expr (pe_fx F_p_check_pace (hr.mono (by decide)) (takes_of rfl rfl rfl rfl) (pa_cons (pv 2) pa_nil))))))), ?_⟩
    refine ⟨_, rfl, a, _, rfl, .inl ha, _, _, rfl, rfl, _, rfl, ?_⟩
    rw [List.length_map]
    have bad : ¬ (1 ≤ (zs.length : Int) ∧ (zs.length : Int) ≤ m) → tErr K CP "bad count" [] H (fun cls d H' => E cls d H') := fun hb cls dd hn rf => k2 "bad count" (by unfold pcW; rw [if_pos hb]) cls (some dd) _ (same_upd hn) rf
    by_cases h1 : (1 : Int) ≤ (zs.length : Int)
    · rw [decide_eq_true h1]
      refine iteT ?_
      refine ⟨_, rfl, _, _, rfl, rfl, _, rfl, ?_⟩
      by_cases h2 : (zs.length : Int) ≤ m
      · rw [decide_eq_true h2]
        refine iteF ?_
        refine ⟨_, rfl, a, rfl, ⟨_, ha⟩, for_list (K := K) (a := a) (xs := zs.map V.int) (fun i σ H3 => H3 = H ∧ (zs.take i).all paceB = true ∧ ∃ x, σ = [some (.ref a), some (.int m), x]) ⟨rfl, by rw [List.take_zero]; rfl, _, rfl⟩ (fun i σ H3 _ ⟨e, _⟩ => by rw [e]; exact ha) ?_ ?_⟩
        · rintro i v σ H3 hi ⟨rfl, hall, x, rfl⟩
          rw [List.getElem?_map] at hi
          obtain ⟨z, hq, rfl⟩ : ∃ z, zs[i]? = some z ∧ V.int z = v := Option.map_eq_some_iff.mp hi
          refine ⟨_, rfl, z, rfl, fun hz => ?_, fun hz cls d H' s' rf => ?_⟩
          · refine ⟨rfl, ?_, _, rfl⟩
            rw [List.take_add_one, List.all_append, hall, hq]
            show (true && ([z].all paceB)) = true
            rw [List.all_cons, hz]
            rfl
          · refine k2 "bad pace" ?_ cls d H' s' rf
            unfold pcW
            rw [if_neg (fun c => c ⟨h1, h2⟩), if_neg]
            intro c
            have := List.all_eq_true.mp c z (List.mem_of_getElem? hq)
            rw [hz] at this
            exact absurd this (by decide)
        · rintro σ H3 ⟨rfl, hall, x, rfl⟩
          refine k1 ?_
          rw [List.length_map, List.take_length] at hall
          unfold pcW
          rw [if_neg (fun c => c ⟨h1, h2⟩), if_pos hall]
      · rw [decide_eq_false h2]
        exact iteT (bad fun c => h2 c.2)
    · rw [decide_eq_false h1]
      exact iteF ⟨_, rfl, iteT (bad fun c => h1 c.1)⟩
def risB : List Int → Bool
  | a :: b :: r => decide (a ≤ b) && risB (b :: r)
  | _ => true
def pW (zs : List Int) : Option Str := match pcW 8 zs with
  | some wd => some wd
  | none => if risB zs = true then none else some "not rising"
theorem risB_drop : ∀ (zs : List Int) (i : Nat), (∀ j, j < i → j + 1 < zs.length → zs.getD j 0 ≤ zs.getD (j + 1) 0) → risB (zs.drop i) = risB zs
  | [], i, _ => by rw [List.drop_nil]
  | [a], i, _ => by cases i <;> simp [risB]
  | a :: b :: r, 0, _ => rfl
  | a :: b :: r, i + 1, h => by
    rw [List.drop_succ_cons, risB_drop (b :: r) i (fun j hj hj2 => by
      have := h (j + 1) (by omega) (by simpa using hj2)
      simpa using this)]
    have := h 0 (by omega) (by simp)
    simp only [risB]
    rw [decide_eq_true (by simpa using this), Bool.true_and]
theorem risB_pair : ∀ {zs : List Int}, risB zs = true ↔ zs.Pairwise (· ≤ ·)
  | [] => by simp [risB]
  | [a] => by simp [risB]
  | a :: b :: r => by
    simp only [risB, Bool.and_eq_true, decide_eq_true_eq]
    rw [risB_pair (zs := b :: r), List.pairwise_cons (a := a)]
    constructor
    · rintro ⟨h1, h2⟩
      refine ⟨fun c hc => ?_, h2⟩
      rcases List.mem_cons.mp hc with rfl | hc
      · exact h1
      · exact Int.le_trans h1 ((List.pairwise_cons.mp h2).1 c hc)
    · rintro ⟨h1, h2⟩
      exact ⟨h1 b List.mem_cons_self, h2⟩
theorem pW_ris {zs : List Int} : pW zs = none ↔ Ris zs := by
  unfold pW pcW
  constructor
  · intro h
    by_cases h1 : ¬ (1 ≤ (zs.length : Int) ∧ (zs.length : Int) ≤ 8)
    · rw [if_pos h1] at h
      cases h
    · rw [if_neg h1] at h
      by_cases h2 : zs.all paceB = true
      · rw [if_pos h2] at h
        by_cases h3 : risB zs = true
        · refine ⟨by omega, by omega, fun n hn => ?_, risB_pair.mp h3⟩
          have := List.all_eq_true.mp h2 n hn
          unfold paceB at this
          simp only [Bool.and_eq_true, decide_eq_true_eq] at this
          exact this
        · simp only [if_neg h3] at h
          cases h
      · rw [if_neg h2] at h
        cases h
  · intro w
    rw [if_neg (fun c => c ⟨by have := w.n1; omega, by have := w.n8; omega⟩), if_pos (List.all_eq_true.mpr fun n hn => ?_)]
    · simp only [if_pos (risB_pair.mpr w.rise)]
    · unfold paceB
      simp only [Bool.and_eq_true, decide_eq_true_eq]
      exact w.pace n hn
def sp_p_check_rising (K : PySem.W.Frag) (T : Tb) (CP : Addr) : Sp := fun vs H Q E => ∃ (a : Addr) (zs : List Int), vs = [.ref a] ∧ SqL K H a (zs.map V.int) ∧ zs.length ≤ 1000 ∧ (pW zs = none → ∀ H', Sm T H H' → Q .non H') ∧ (∀ wd, pW zs = some wd → ∀ cls d H', Sm T H H' → Rf K CP wd cls d H' → E cls d H')
theorem ok_p_check_rising {f : Addr} {fd : FuncData} {u_MOST_HANDS : Value} (F : Fun K "check_rising" "check_rising" s_p_check_rising f fd) (B : Bn mg) (C_MOST_HANDS : RelV (.int 8) u_MOST_HANDS ∧ mg "MOST_HANDS" = some u_MOST_HANDS) {CP : Addr} (R_NotRising : Err P w K mg base CP "NotRising" "not rising") (F_p_check_paces : Fx P w K mg base 5 "check_paces" ["paces", "most"] (sp_p_check_paces K T CP)) : FnOk P w K mg base (L2.CX P w) 6 f fd ["paces"] (sp_p_check_rising K T CP) := by
  obtain ⟨⟨tM, rfl⟩, gM⟩ := id C_MOST_HANDS
  refine F.okX sc_p_check_rising (fun vs H Q E h => ?_) (fun cdv A outer s H vs Q E hr h => ?_)
  · obtain ⟨a, zs, rfl, _⟩ := h
    rfl
  · obtain ⟨a, zs, rfl, ha, hl, k1, k2⟩ := h
    refine ⟨_, (pss_cons (ps_expr (pe_fx F_p_check_paces (hr.mono (by decide)) (takes_of rfl rfl rfl rfl) (pa_cons (pv 0) (pa_cons (pe_glob (by rfl) C_MOST_HANDS.2 C_MOST_HANDS.1) pa_nil))))
      (pss_one (ps_for (passes_of rfl) rfl (pi_zip (by rfl) B.zip_ (pa_cons (pv 0) (pa_cons (pe_slice sl_list (pv 0) (po_some pe_int) po_none) pa_nil))) (pg_tup rfl (pgs_cons (pg_name (i := 1) sc_p_check_rising.nd rfl (.inl rfl)) (pgs_cons (pg_name (i := 2) sc_p_check_rising.nd rfl (.inl rfl)) pgs_nil)))
      (pss_one (ps_if (pt_cmpR op_gt (pv 1) (pv 2) (nomark _)) (pss_one (ps_raise rfl (takes_of rfl rfl rfl rfl) (pmk_err R_NotRising (hr.mono (by decide)) (by rfl)))) pss_nil))))), ?_⟩
    refine ⟨_, rfl, a, zs, 8, rfl, ha, fun hp => ?_, fun wd hp cls d H' s' rf => k2 wd (by unfold pW; rw [hp]) cls d H' s' rf⟩
    refine ⟨_, rfl, _, rfl, 1, rfl, a, _, rfl, ha, fun l1 n1 => ?_⟩
    have ec0 : cutV (zs.map V.int) (some 1) none = (zs.map V.int).drop 1 := cut_drop _ 1 rfl
    have ec : cutV (zs.map V.int) (some 1) none = (zs.drop 1).map V.int := by rw [ec0, List.map_drop]
    rw [ec]
    have u1 := same_upd (T := T) (o := HO.lst ((zs.drop 1).map V.int)) n1
    refine ⟨a, l1, _, _, rfl, u1.seq ha, SqL.of upd_same, for_it (walk_zip (n := zs.length - 1) (by rw [List.length_map, List.length_map, List.length_drop]; omega)) (fun i σ H3 => Sm T (upd H l1 (.lst ((zs.drop 1).map V.int))) H3 ∧ (∀ j, j < i → j + 1 < zs.length → zs.getD j 0 ≤ zs.getD (j + 1) 0) ∧ ∃ x1 x2, σ = [some (.ref a), x1, x2]) ⟨Sm.refl, fun j hj => by omega, _, _, rfl⟩ (fun i σ H3 _ ⟨s3, _⟩ => ⟨(u1.trans s3).seq ha, SqL.of (s3.k upd_same)⟩) ?_ ?_⟩
    · rintro i x σ H2 H3 hi ⟨s2, hr, x1, x2, rfl⟩ ⟨tp, y1, y2, rfl, ntp, rfl, f1, f2⟩
      have g1 := getI (l := zs) (j := i) (by omega)
      have g2 := getI (l := zs) (j := i + 1) (by omega)
      simp only [List.getElem?_map, g1, Option.map_some] at f1
      simp only [List.getElem?_map, List.getElem?_drop, Nat.add_comm 1 i, g2, Option.map_some] at f2
      cases f1
      cases f2
      have ut := same_upd (T := T) (o := .tup [V.int (zs.getD i 0), V.int (zs.getD (i + 1) 0)]) ntp
      refine ⟨tp, _, rfl, SqT.of upd_same, rfl, _, _, rfl, _, _, rfl, rfl, ?_⟩
      refine ⟨_, rfl, _, rfl, _, _, rfl, rfl, _, rfl, ite2 (fun e => ?_) (fun e => ?_)⟩
      · have hg : zs.getD (i + 1) 0 < zs.getD i 0 := of_decide_eq_true e
        refine fun cls dd hn rf => k2 "not rising" ?_ cls (some dd) _ (u1.trans (s2.trans (ut.trans (same_upd hn)))) rf
        unfold pW
        rw [hp]
        refine if_neg (fun c => ?_)
        have := risB_pair.mp c
        have := List.pairwise_iff_getElem.mp this i (i + 1) (by omega) (by omega) (by omega)
        rw [getD_lt (show i < zs.length by omega), getD_lt (show i + 1 < zs.length by omega)] at hg
        omega
      · have hg : ¬ zs.getD (i + 1) 0 < zs.getD i 0 := fun z => e (decide_eq_true z)
        refine ⟨s2.trans ut, fun j hj hj2 => ?_, _, _, rfl⟩
        by_cases c : j = i
        · subst c; omega
        · exact hr j (by omega) hj2
    · rintro σ H2 ⟨s2, hr, x1, x2, rfl⟩
      refine k1 ?_ H2 (u1.trans s2)
      unfold pW
      rw [hp]
      refine if_pos ?_
      rw [← risB_drop zs (zs.length - 1) hr]
      have : (zs.drop (zs.length - 1)).length ≤ 1 := by rw [List.length_drop]; omega
      match zs.drop (zs.length - 1), this with
      | [], _ => rfl
      | [_], _ => rfl

def rdB (r : Int) : Bool := decide (0 ≤ r) && decide (r ≤ 24)
def sp_p_check_rounds (K : PySem.W.Frag) (T : Tb) (CP : Addr) : Sp := fun vs H Q E => ∃ z : Int, vs = [.int z] ∧ (rdB z = true → Q .non H) ∧ (rdB z = false → ∀ cls d H', Sm T H H' → Rf K CP "bad count" cls d H' → E cls d H')
theorem ok_p_check_rounds {f : Addr} {fd : FuncData} {u_MOST_ROUNDS : Value} (F : Fun K "check_rounds" "check_rounds" s_p_check_rounds f fd) (C_MOST_ROUNDS : RelV (.int 24) u_MOST_ROUNDS ∧ mg "MOST_ROUNDS" = some u_MOST_ROUNDS) {CP : Addr} (R_BadCount : Err P w K mg base CP "BadCount" "bad count") (F_p_is_within : Fn P w K mg base 2 "is_within" ["thing", "least", "most"] (sp_p_is_within K T)) : FnOk P w K mg base (L2.CX P w) 4 f fd ["rounds"] (sp_p_check_rounds K T CP) := by
  obtain ⟨⟨tM, rfl⟩, gM⟩ := id C_MOST_ROUNDS
  refine F.okX sc_p_check_rounds (fun vs H Q E h => ?_) (fun cdv A outer s H vs Q E hr h => ?_)
  · obtain ⟨z, rfl, _⟩ := h
    rfl
  · obtain ⟨z, rfl, k1, k2⟩ := h
    refine ⟨_, (pss_one (ps_if (pt_not (pt_val (pe_fn F_p_is_within (hr.mono (by decide)) (pa_cons (pv 0) (pa_cons pe_int (pa_cons (pe_glob (by rfl) C_MOST_ROUNDS.2 C_MOST_ROUNDS.1) pa_nil)))))) (pss_one (ps_raise rfl (takes_of rfl rfl rfl rfl) (pmk_err R_BadCount (hr.mono (by decide)) (by rfl)))) pss_nil)), ?_⟩
    refine ⟨_, rfl, z, 0, 24, rfl, _, rfl, ?_⟩
    show if (!(rdB z)) = true then _ else _
    cases hz : rdB z with
    | true => exact iteF (k1 hz)
    | false => exact iteT fun cls dd hn rf => k2 hz cls (some dd) _ (same_upd hn) rf

def sp_p_mixed (K : PySem.W.Frag) (T : Tb) : Sp := fun vs H Q _ => ∃ (a b c : Addr) (x y z : Rat), vs = [.ref a, .ref b, .ref c] ∧ SqT K H a (tv (am x)) ∧ SqT K H b (tv (am y)) ∧ SqT K H c (tv (am z)) ∧ (Bd 4000 (am x) ∧ Bd 4000 (am y) ∧ Bd 4000 (am z) ∧ Bd 4000 (am (x * y)) ∧ Bd 4000 (am (1 - x)) ∧ Bd 4000 (am ((1 - x) * z))) ∧
  ∀ p H', Sm T H H' → H p = none → H' p = some (.tup (tv (am (x * y + (1 - x) * z)))) → Q (.ref p) H'
theorem ok_p_mixed {f : Addr} {fd : FuncData} {a_ONE : Addr} (F : Fun K "mixed" "mixed" s_p_mixed f fd) (g_ONE : mg "ONE" = some (.ref a_ONE)) (s_ONE : ∀ H, SqT K H a_ONE [.int 1, .int 1]) (F_p_plus : Fn P w K mg base 3 "plus" ["one", "other"] (sp_p_plus K T)) (F_p_minus : Fn P w K mg base 3 "minus" ["one", "other"] (sp_p_minus K T)) (F_p_times : Fn P w K mg base 3 "times" ["one", "other"] (sp_p_times K T)) : FnOk P w K mg base CX0 4 f fd ["part", "before", "last"] (sp_p_mixed K T) := by
  refine F.ok sc_p_mixed (fun vs H Q E h => ?_) (fun cdv A outer s H vs Q E hr h => ?_)
  · obtain ⟨a, b, c, x, y, z, rfl, _⟩ := h
    rfl
  · obtain ⟨a, b, c, x, y, z, rfl, ha, hb, hc, ⟨b1, b2, b3, b4, b5, b6⟩, q⟩ := h
    refine ⟨_, (pss_one (ps_ret (pe_fn F_p_plus (hr.mono (by decide)) (pa_cons (pe_fn F_p_times (hr.mono (by decide)) (pa_cons (pv 0) (pa_cons (pv 1) pa_nil))) (pa_cons (pe_fn F_p_times (hr.mono (by decide)) (pa_cons (pe_fn F_p_minus (hr.mono (by decide)) (pa_cons (pe_glob (v := .ref a_ONE) (by rfl) g_ONE rfl) (pa_cons (pv 0) pa_nil))) (pa_cons (pv 2) pa_nil))) pa_nil))))), ?_⟩
    refine ⟨_, rfl, _, rfl, a, b, am x, am y, rfl, ha, hb, ⟨b1, b2⟩, ⟨am_pos _, am_pos _⟩, fun p1 H1 s1 n1 e1 => ?_⟩
    rw [times_am] at e1
    refine ⟨_, rfl, a_ONE, a, (1, 1), am x, rfl, s_ONE H1, same_tup s1 ha, ⟨bd_int (small (by decide)), b1⟩, ⟨by show (0 : Int) < 1; decide, am_pos _⟩, fun p2 H2 s2 n2 e2 => ?_⟩
    rw [← am_one, minus_am] at e2
    refine ⟨_, rfl, p2, c, am (1 - x), am z, rfl, SqT.of e2, same_tup (s1.trans s2) hc, ⟨b5, b3⟩, ⟨am_pos _, am_pos _⟩, fun p3 H3 s3 n3 e3 => ?_⟩
    rw [times_am] at e3
    refine ⟨p1, p3, am (x * y), am ((1 - x) * z), rfl, SqT.of ((s2.trans s3).k e1), SqT.of e3, ⟨b4, b6⟩, ⟨am_pos _, am_pos _⟩, fun p4 H4 s4 n4 e4 => ?_⟩
    rw [plus_am] at e4
    exact q p4 H4 (s1.trans (s2.trans (s3.trans s4))) ((s1.trans (s2.trans s3)).free _ n4) e4

def sp_p_behind_one (K : PySem.W.Frag) (T : Tb) : Sp := fun vs H Q _ => ∃ (D : Int) (a b : Addr) (us : List V) (ns : List Int) (xs : List Rat), vs = [.ref a, .ref b] ∧ SqL K H a (ns.map V.int) ∧ SqL K H b us ∧ AmL K H us xs ∧ Ris ns ∧ xs.length = ns.length ∧ (0 < D ∧ (D * 27720).natAbs < 2 ^ 3900) ∧ (∀ x ∈ xs, Fr D x ∧ 0 ≤ x ∧ x ≤ 50000) ∧
  ∀ p H' us', Sm T H H' → H p = none → H' p = some (.lst us') → AmL K H' us' (bo ns xs) → Q (.ref p) H'
theorem ok_p_behind_one {f : Addr} {fd : FuncData} (F : Fun K "behind_one" "behind_one" s_p_behind_one f fd) (B : Bn mg) (F_p_amount : Fn P w K mg base 2 "amount" ["num", "den"] (sp_p_amount K T)) (F_p_mixed : Fn P w K mg base 4 "mixed" ["part", "before", "last"] (sp_p_mixed K T)) : FnOk P w K mg base CX0 5 f fd ["paces", "found"] (sp_p_behind_one K T) := by
  refine F.ok sc_p_behind_one (fun vs H Q E h => ?_) (fun cdv A outer s H vs Q E hr h => ?_)
  · obtain ⟨D, a, b, us, ns, xs, rfl, _⟩ := h
    rfl
  · obtain ⟨D, a, b, us, ns, xs, rfl, ha, hb, hu, w, hl, hD, hx, q⟩ := h
    refine ⟨_, (pss_cons (ps_set (i := 2) sc_p_behind_one.nd rfl (.inl rfl) (pe_lst (pa_cons (pe_ix ix_list (pv 1) (pe_un un_neg pe_int) (fun _ _ => rfl)) pa_nil)))
      (pss_cons (ps_for PassesOwn.never rfl (pi_range2 (by rfl) B.range_ (pa_cons pe_int (pa_cons (pe_callB call_len_seq (by rfl) B.len_ (by decide +kernel) (pa_cons (pv 0) pa_nil)) pa_nil))) (pg_name (i := 3) sc_p_behind_one.nd rfl (.inl rfl))
      (pss_one (ps_expr (pe_bm PySem.F.plainAttrs_list PySem.F.slot_list_append PySem.F.type_list_append mt_append (pv 2) (pa_cons (pe_fn F_p_mixed (hr.mono (by decide)) (pa_cons (pe_fn F_p_amount (hr.mono (by decide)) (pa_cons (pe_ix ix_list (pv 0) (pe_op op_sub (pv 3) pe_int) (fun _ _ => rfl)) (pa_cons (pe_ix ix_list (pv 0) (pv 3) (fun _ _ => rfl)) pa_nil))) (pa_cons (pe_ix ix_list (pv 1) (pe_op op_sub (pv 3) pe_int) (fun _ _ => rfl)) (pa_cons (pe_ix ix_list (pv 1) (pe_un un_neg pe_int) (fun _ _ => rfl)) pa_nil)))) pa_nil)))))
      (pss_one (ps_ret (pv 2))))), ?_⟩
    have lu := hu.len
    have n1 := w.n1
    have n8 := w.n8
    obtain ⟨bl, gl, ql⟩ := hu.at (i := ns.length - 1) (by omega)
    have at1 : atI us (-1) = some (.ref bl) := at_neg1 (by omega) (by rw [lu, hl]; exact gl)
    refine ⟨_, rfl, 1, rfl, b, _, _, .ref bl, rfl, rfl, hb, at1, by show 1 ≤ sizeLine; decide, fun o no => ?_⟩
    have u0 := same_upd (T := T) (o := HO.lst [V.ref bl]) no
    have e0 : (List.range 1).map (boR ns xs) = [xs.getD (ns.length - 1) 0] := by
      show [boR ns xs 0] = _
      unfold boR
      rw [if_pos rfl]
    have l0 : 0 < D * 27720 := by omega
    have ml := hx _ (getD_mem (d := (0 : Rat)) (show ns.length - 1 < xs.length by omega))
    have bb : ∀ {r : Rat}, Fr (D * 27720) r → 0 ≤ r → r ≤ 50000 → Bd 4000 (am r) := fun h1 h2 h3 => bdL l0 hD.2 h1 h2 (Rat.le_trans h3 (by decide +kernel))
    refine ⟨_, rfl, a, _, rfl, .inl (u0.seq ha), 1, _, rfl, by rw [List.length_map]; omega, for_range (lo := 1) (n := (((ns.map V.int).length : Int) - 1).toNat) (fun i σ H3 => Sm T H H3 ∧ ∃ x3 vs, σ = [some (.ref a), some (.ref b), some (.ref o), x3] ∧ H3 o = some (.lst vs) ∧ AmL K H3 vs ((List.range (i + 1)).map (boR ns xs))) ⟨u0, _, [.ref bl], rfl, upd_same, ?_⟩ ?_ ?_⟩
    · rw [e0]
      exact .cons (amD_dp (same_tup u0 ql)) .nil
    · rintro i σ H3 hi ⟨s3, x3, vs, rfl, eo, hv⟩
      rw [List.length_map] at hi
      have hi1 : i + 1 < ns.length := by omega
      obtain ⟨bj, gj, qj⟩ := hu.at (i := i) (by omega)
      have mj := hx _ (getD_mem (d := (0 : Rat)) (show i < xs.length by omega))
      have pA := ris_at w (show i < ns.length by omega)
      have pB := ris_at w hi1
      have pk := prt_ok w hi1
      have ep : prt ns (i + 1) = ((ns.getD i 0 : Int) : Rat) / ((ns.getD (i + 1) 0 : Int) : Rat) := rfl
      have mr := mix_rng pk.1 pk.2.1 mj.2.1 mj.2.2 ml.2.1 ml.2.2
      have f1 := prt_mul w (by omega) mj.1 hi1
      have f2 : Fr (D * 27720) ((1 - prt ns (i + 1)) * xs.getD (ns.length - 1) 0) := by
        rw [show (1 - prt ns (i + 1)) * xs.getD (ns.length - 1) 0 = xs.getD (ns.length - 1) 0 - prt ns (i + 1) * xs.getD (ns.length - 1) 0 by grind]
        exact (ml.1.up (by omega)).sub (prt_mul w (by omega) ml.1 hi1)
      have eb : boR ns xs (i + 1) = prt ns (i + 1) * xs.getD i 0 + (1 - prt ns (i + 1)) * xs.getD (ns.length - 1) 0 := by
        unfold boR
        rw [if_neg (by omega)]
        rfl
      have bp : Bd 4000 (am (prt ns (i + 1))) := bdL (D := 27720) (by decide) (small (by decide)) pk.2.2.1 pk.1 (Rat.le_trans pk.2.1 (by decide))
      have bq : Bd 4000 (am (1 - prt ns (i + 1))) := bdL (D := 27720) (by decide) (small (by decide)) ((Fr.int (by decide) 1).sub pk.2.2.1) (sub_nn' pk.2.1) (sub_le' (by decide) pk.1)
      refine ⟨_, rfl, .inl ⟨rfl, _, SqL.of eo⟩, ?_⟩
      refine ⟨_, rfl, _, rfl, _, _, rfl, rfl, a, _, _, .int (ns.getD i 0), rfl, rfl, s3.seq ha, at_map (i := i) (by omega) (getI (by omega)), ?_⟩
      refine ⟨_, rfl, _, rfl, a, _, _, .int (ns.getD (i + 1) 0), rfl, rfl, s3.seq ha, at_map (i := i + 1) (by omega) (getI hi1), ?_⟩
      refine ⟨ns.getD i 0, ns.getD (i + 1) 0, rfl, by omega, Nat.lt_of_le_of_lt (by omega : (ns.getD (i + 1) 0).natAbs ≤ 12) (Nat.lt_of_lt_of_le (by decide : 12 < 2 ^ 4) (Nat.pow_le_pow_right (by decide) (by decide))), fun p4 H4 s4 n4 e4 => ?_⟩
      rw [amt_am (by omega), ← ep] at e4
      have s34 := s3.trans s4
      refine ⟨_, rfl, _, rfl, _, _, rfl, rfl, b, _, _, .ref bj, rfl, rfl, s34.seq hb, at_of (j := i) (by omega) gj, ?_⟩
      refine ⟨_, rfl, 1, rfl, b, _, _, .ref bl, rfl, rfl, s34.seq hb, at1, ?_⟩
      refine ⟨p4, bj, bl, prt ns (i + 1), xs.getD i 0, xs.getD (ns.length - 1) 0, rfl, SqT.of e4, same_tup s34 qj, same_tup s34 ql, ⟨bp, bb (mj.1.up (by omega)) mj.2.1 mj.2.2, bb (ml.1.up (by omega)) ml.2.1 ml.2.2, bb f1 mr.1.1 mr.1.2, bq, bb f2 mr.2.1.1 mr.2.1.2⟩, fun p5 H5 s5 n5 e5 => ?_⟩
      have eo5 := (s4.trans s5).k eo
      have lv : vs.length = i + 1 := by rw [hv.len, List.length_map, List.length_range]
      refine ⟨o, _, _, rfl, rfl, eo5, szl (by omega), ?_⟩
      refine ⟨same_mut (s34.trans s5) no eo5, _, _, rfl, upd_same, ?_⟩
      rw [take_range, eb]
      exact (hv.keep (s4.trans s5)).push eo5 (SqT.of e5)
    · rintro σ H3 ⟨s3, x3, vs, rfl, eo, hv⟩
      rw [List.length_map, show (((ns.length : Int) - 1).toNat + 1) = ns.length by omega] at hv
      exact ⟨_, rfl, q o H3 vs s3 no eo hv⟩

def bhW (ns : List Int) (k : Nat) (r : Int) : Option Str := match pW ns with
  | some wd => some wd
  | none => if k = ns.length ∧ rdB r = true then none else some "bad count"
def sp_p_behind (K : PySem.W.Frag) (T : Tb) (CP : Addr) : Sp := fun vs H Q E => ∃ (D : Int) (a b : Addr) (us : List V) (ns : List Int) (xs : List Rat) (r : Int), vs = [.ref a, .ref b, .int r] ∧ SqL K H a (ns.map V.int) ∧ SqL K H b us ∧ AmL K H us xs ∧ (ns.length ≤ 1000 ∧ xs.length ≤ 1000) ∧ (0 < D ∧ D.natAbs < 2 ^ 1000) ∧ (∀ x ∈ xs, Fr D x ∧ 0 ≤ x ∧ x ≤ 50000) ∧
  (bhW ns xs.length r = none → ∀ p H' us', Sm T H H' → H p = none → H' p = some (.lst us') → AmL K H' us' (rnd ns xs r.toNat) → Q (.ref p) H') ∧ (∀ wd, bhW ns xs.length r = some wd → ∀ cls d H', Sm T H H' → Rf K CP wd cls d H' → E cls d H')
theorem ok_p_behind {f : Addr} {fd : FuncData} (F : Fun K "behind" "behind" s_p_behind f fd) (B : Bn mg) {CP : Addr} (R_BadCount : Err P w K mg base CP "BadCount" "bad count") (F_p_check_rising : Fx P w K mg base 6 "check_rising" ["paces"] (sp_p_check_rising K T CP)) (F_p_check_rounds : Fx P w K mg base 4 "check_rounds" ["rounds"] (sp_p_check_rounds K T CP)) (F_p_behind_one : Fn P w K mg base 5 "behind_one" ["paces", "found"] (sp_p_behind_one K T)) : FnOk P w K mg base (L2.CX P w) 7 f fd ["paces", "found", "rounds"] (sp_p_behind K T CP) := by
  refine F.okX sc_p_behind (fun vs H Q E h => ?_) (fun cdv A outer s H vs Q E hr h => ?_)
  · obtain ⟨D, a, b, us, ns, xs, r, rfl, _⟩ := h
    rfl
  · obtain ⟨D, a, b, us, ns, xs, r, rfl, ha, hb, hu, hl, hD, hx, k1, k2⟩ := h
    refine ⟨_, (pss_cons (ps_expr (pe_fx F_p_check_rising (hr.mono (by decide)) (takes_of rfl rfl rfl rfl) (pa_cons (pv 0) pa_nil)))
      (pss_cons (ps_if (pt_cmpR op_ne (pe_callB call_len_seq (by rfl) B.len_ (by decide +kernel) (pa_cons (pv 1) pa_nil)) (pe_callB call_len_seq (by rfl) B.len_ (by decide +kernel) (pa_cons (pv 0) pa_nil)) (nomark _)) (pss_one (ps_raise rfl (takes_of rfl rfl rfl rfl) (pmk_err R_BadCount (hr.mono (by decide)) (by rfl)))) pss_nil)
      (pss_cons (ps_expr (pe_fx F_p_check_rounds (hr.mono (by decide)) (takes_of rfl rfl rfl rfl) (pa_cons (pv 2) pa_nil)))
      (pss_cons (ps_set (i := 3) sc_p_behind.nd rfl (.inl rfl) (pe_callTy call_list_of (by rfl) B.list_ (by decide +kernel) (pa_cons (pv 1) pa_nil)))
      (pss_cons (ps_for (passes_of rfl) rfl (pi_range1 (by rfl) B.range_ (pa_cons (pv 2) pa_nil)) (pg_name (i := 4) sc_p_behind.nd rfl (.inl rfl))
      (pss_one (ps_set (i := 3) sc_p_behind.nd rfl (.inl rfl) (pe_fn F_p_behind_one (hr.mono (by decide)) (pa_cons (pv 0) (pa_cons (pv 3) pa_nil))))))
      (pss_one (ps_ret (pv 3)))))))), ?_⟩
    have lu := hu.len
    refine ⟨_, rfl, a, ns, rfl, ha, hl.1, fun hp H1 s1 => ?_, fun wd hp cls d H' s' rf => k2 wd (by unfold bhW; rw [hp]) cls d H' s' rf⟩
    have w := pW_ris.mp hp
    have n8 := w.n8
    refine ⟨_, rfl, b, _, rfl, .inl (s1.seq hb), _, rfl, a, _, rfl, .inl (s1.seq ha), rfl, _, rfl, ?_⟩
    rw [lu, List.length_map]
    by_cases hk : xs.length = ns.length
    · rw [decide_eq_true (by rw [hk])]
      refine iteF ?_
      refine ⟨_, rfl, r, rfl, fun hr => ?_, fun hr cls d H' s' rf => k2 "bad count" (by unfold bhW; rw [hp]; exact if_neg (fun c => by rw [hr] at c; exact absurd c.2 (by decide))) cls d H' (s1.trans s') rf⟩
      have k1 := k1 (by unfold bhW; rw [hp]; exact if_pos ⟨hk, hr⟩)
      have hr' : 0 ≤ r ∧ r ≤ 24 := by
        unfold rdB at hr
        simp only [Bool.and_eq_true, decide_eq_true_eq] at hr
        exact hr
      refine ⟨_, rfl, b, us, rfl, .inl (s1.seq hb), fun o no => ?_⟩
      have u := same_upd (T := T) (o := HO.lst us) no
      have s1u := s1.trans u
      refine ⟨_, rfl, r, rfl, by omega, by omega, for_range (lo := 0) (n := r.toNat) (fun i σ H3 => Sm T H H3 ∧ ∃ p x4 vs, σ = [some (.ref a), some (.ref b), some (.int r), some (.ref p), x4] ∧ H p = none ∧ H3 p = some (.lst vs) ∧ AmL K H3 vs (rnd ns xs i)) ⟨s1u, o, _, us, rfl, s1.free _ no, upd_same, hu.keep s1u⟩ ?_ ?_⟩
      · rintro i σ H3 hi ⟨s3, p, x4, vs, rfl, np, ep, hv⟩
        have hri : i ≤ 23 := by omega
        refine ⟨_, rfl, _, rfl, D * 27720 ^ i, a, p, vs, ns, rnd ns xs i, rfl, s3.seq ha, SqL.of ep, hv, w, rnd_len hk i, ⟨pw_ne hD.1 i, ?_⟩, rnd_ok w hD.1 hk hx i, fun p' H4 vs' s4 np' ep' hv' => ?_⟩
        · rw [Int.mul_assoc, ← Int.pow_succ]
          exact pw_bd hD.2 (by omega)
        · exact ⟨s3.trans s4, p', _, vs', rfl, s3.free _ np', ep', hv'⟩
      · rintro σ H3 ⟨s3, p, x4, vs, rfl, np, ep, hv⟩
        exact ⟨_, rfl, k1 p H3 vs s3 np ep hv⟩
    · rw [decide_eq_false (fun z => hk (by have := V.int.inj z; omega))]
      refine iteT ?_
      exact fun cls dd hn rf => k2 "bad count" (by unfold bhW; rw [hp]; exact if_neg (fun c => hk c.1)) cls (some dd) _ (s1.trans (same_upd hn)) rf

/-- the unit of number k -/
def unit (n : Nat) (k : Nat) : List Rat := (List.range n).map fun j => if j = k then 1 else 0
theorem unit_len (n k : Nat) : (unit n k).length = n := by unfold unit; rw [List.length_map, List.length_range]
theorem unit_ok {n k : Nat} : ∀ x ∈ unit n k, Fr 1 x ∧ 0 ≤ x ∧ x ≤ 1 := fun x hx => by
  unfold unit at hx
  obtain ⟨j, _, rfl⟩ := List.mem_map.mp hx
  split
  · exact ⟨Fr.int (by decide) 1, by decide, by decide⟩
  · exact ⟨Fr.int (by decide) 0, by decide, by decide⟩
def colM (ns : List Int) (r : Nat) (k : Nat) : List Rat := rnd ns (unit ns.length k) r
theorem colM_len (ns : List Int) (r k : Nat) : (colM ns r k).length = ns.length := rnd_len (unit_len _ _) r
def tabM (ns : List Int) (r : Nat) : List (List Rat) := (List.range ns.length).map fun j => (List.range ns.length).map fun k => (colM ns r k).getD j 0
theorem colM_ok {ns : List Int} (w : Ris ns) (r k : Nat) : ∀ x ∈ colM ns r k, Fr (1 * 27720 ^ r) x ∧ 0 ≤ x ∧ x ≤ 1 := rnd_ok w (by decide) (unit_len _ _) unit_ok r
theorem one1000 : (1 : Int).natAbs < 2 ^ 1000 := Nat.one_lt_two_pow (by decide)
def sp_p_column (K : PySem.W.Frag) (T : Tb) : Sp := fun vs H Q _ => ∃ (a : Addr) (ns : List Int) (k : Nat) (r : Int), vs = [.ref a, .int k, .int r] ∧ SqL K H a (ns.map V.int) ∧ Ris ns ∧ (0 ≤ r ∧ r ≤ 24) ∧
  ∀ p H' us', Sm T H H' → H p = none → H' p = some (.lst us') → AmL K H' us' (colM ns r.toNat k) → Q (.ref p) H'
theorem ok_p_column {f : Addr} {fd : FuncData} {a_NOUGHT : Addr} {a_ONE : Addr} (F : Fun K "column" "column" s_p_column f fd) (B : Bn mg) (g_NOUGHT : mg "NOUGHT" = some (.ref a_NOUGHT)) (s_NOUGHT : ∀ H, SqT K H a_NOUGHT [.int 0, .int 1]) (g_ONE : mg "ONE" = some (.ref a_ONE)) (s_ONE : ∀ H, SqT K H a_ONE [.int 1, .int 1]) (F_p_behind_one : Fn P w K mg base 5 "behind_one" ["paces", "found"] (sp_p_behind_one K T)) : FnOk P w K mg base CX0 6 f fd ["paces", "number", "rounds"] (sp_p_column K T) := by
  refine F.ok sc_p_column (fun vs H Q E h => ?_) (fun cdv A outer s H vs Q E hr h => ?_)
  · obtain ⟨a, ns, k, r, rfl, _⟩ := h
    rfl
  · obtain ⟨a, ns, k, r, rfl, ha, w, hr', q⟩ := h
    refine ⟨_, (pss_cons (ps_setLc (i := 3) (own := [("at", 5)]) (g := (gName 5)) (tt := tYes) (by rfl) sc_p_column.nd rfl rfl (sw_true rfl rfl rfl (by decide +kernel)) (pi_range1 (by rfl) B.range_ (pa_cons (pe_callB call_len_seq (by rfl) B.len_ (by decide +kernel) (pa_cons (pv 0) pa_nil)) pa_nil)) (blkOk_by (own := [("at", 5)]) (N := ["paces", "number", "rounds", "found", "turn", "at"]) (sc := (defScope s_p_column)) (by decide +kernel)) (fun _ _ _ _ _ => (pg_name (i := 5) sc_p_column.nd rfl (.inl rfl))) (fun _ _ _ _ _ => pts_nil) (fun _ _ _ _ _ => (pe_ifExp (pt_cmpR op_eq (pv 5) (pv 1) (nomark _)) (pe_glob (v := .ref a_ONE) (by rfl) g_ONE rfl) (pe_glob (v := .ref a_NOUGHT) (by rfl) g_NOUGHT rfl))))
      (pss_cons (ps_for PassesOwn.never rfl (pi_range1 (by rfl) B.range_ (pa_cons (pv 2) pa_nil)) (pg_name (i := 4) sc_p_column.nd rfl (.inl rfl))
      (pss_one (ps_set (i := 3) sc_p_column.nd rfl (.inl rfl) (pe_fn F_p_behind_one (hr.mono (by decide)) (pa_cons (pv 0) (pa_cons (pv 3) pa_nil))))))
      (pss_one (ps_ret (pv 3))))), ?_⟩
    have n8 := w.n8
    refine ⟨_, rfl, a, _, rfl, .inl ha, _, rfl, by rw [List.length_map]; omega, by rw [List.length_map]; omega, fun D hD => lc_range (lo := 0) (n := (ns.map V.int).length) (Qd := _) (fun i H' => Sm T H H' ∧ ∃ vs, H' D = some (.lst vs) ∧ AmL K H' vs ((List.range i).map fun j => if j = k then (1 : Rat) else 0)) ⟨same_upd hD, [], upd_same, .nil⟩ ?_ ?_⟩
    · rintro j H1 hj ⟨sm, vs, eD, hv⟩
      rw [List.length_map] at hj
      have lv : vs.length = j := by rw [hv.len, List.length_map, List.length_range]
      refine ⟨rfl, tyes_i ?_⟩
      refine ⟨_, rfl, _, rfl, rfl, _, rfl, ?_⟩
      by_cases c : j = k
      · rw [decide_eq_true (by rw [c, Int.zero_add])]
        refine iteT ?_
        refine ⟨_, eD, szl (by omega), same_mut sm hD eD, _, upd_same, ?_⟩
        rw [take_range, if_pos c]
        refine hv.push eD ?_
        rw [am_one]
        exact s_ONE _
      · rw [decide_eq_false (fun z => c (by have := V.int.inj z; omega))]
        refine iteF ?_
        refine ⟨_, eD, szl (by omega), same_mut sm hD eD, _, upd_same, ?_⟩
        rw [take_range, if_neg c]
        refine hv.push eD ?_
        rw [am_zero]
        exact s_NOUGHT _
    · rintro H1 ⟨s1, vs, eD, hv⟩
      rw [List.length_map] at hv
      have hv : AmL K H1 vs (unit ns.length k) := hv
      refine ⟨_, rfl, r, rfl, by omega, by omega, for_range (lo := 0) (n := r.toNat) (fun i σ H3 => Sm T H H3 ∧ ∃ p x4 x5 vs, σ = [some (.ref a), some (.int k), some (.int r), some (.ref p), x4, x5] ∧ H p = none ∧ H3 p = some (.lst vs) ∧ AmL K H3 vs (rnd ns (unit ns.length k) i)) ⟨s1, D, _, _, vs, rfl, hD, eD, hv⟩ ?_ ?_⟩
      · rintro i σ H3 hi ⟨s3, p, x4, x5, vs, rfl, np, ep, hv⟩
        have ok := rnd_ok w (show (0 : Int) < 1 by decide) (unit_len ns.length k) unit_ok i
        refine ⟨_, rfl, _, rfl, 1 * 27720 ^ i, a, p, vs, ns, rnd ns (unit ns.length k) i, rfl, s3.seq ha, SqL.of ep, hv, w, rnd_len (unit_len _ _) i, ⟨pw_ne (by decide) i, ?_⟩, fun x hx => ⟨(ok x hx).1, (ok x hx).2.1, Rat.le_trans (ok x hx).2.2 (by decide)⟩, fun p' H4 vs' s4 np' ep' hv' => ?_⟩
        · rw [Int.mul_assoc, ← Int.pow_succ]
          exact pw_bd one1000 (by omega)
        · exact ⟨s3.trans s4, p', _, _, vs', rfl, s3.free _ np', ep', hv'⟩
      · rintro σ H3 ⟨s3, p, x4, x5, vs, rfl, np, ep, hv⟩
        exact ⟨_, rfl, q p H3 vs s3 np ep hv⟩
/-- a list of lists of amounts -/
inductive Rows (K : PySem.W.Frag) (H : Hp) : List V → List (List Rat) → Prop
  | nil : Rows K H [] []
  | cons {p : Addr} {us : List V} {xs : List Rat} {vs : List V} {rs : List (List Rat)} (h : H p = some (.lst us)) (hu : AmL K H us xs) (t : Rows K H vs rs) : Rows K H (.ref p :: vs) (xs :: rs)
theorem Rows.len {K : PySem.W.Frag} {H : Hp} {vs : List V} {rs : List (List Rat)} (h : Rows K H vs rs) : vs.length = rs.length := by
  induction h with
  | nil => rfl
  | cons _ _ _ ih => exact congrArg (· + 1) ih
theorem Rows.keep {T : Tb} {K : PySem.W.Frag} {H H' : Hp} {vs : List V} {rs : List (List Rat)} (h : Rows K H vs rs) (s : Sm T H H') : Rows K H' vs rs := by
  induction h with
  | nil => exact .nil
  | cons h hu _ ih => exact .cons (s.k h) (hu.keep s) ih
theorem Rows.push {K : PySem.W.Frag} {H : Hp} {vs : List V} {rs : List (List Rat)} (h : Rows K H vs rs) {p : Addr} {us : List V} {xs : List Rat} (hp : H p = some (.lst us)) (hu : AmL K H us xs) : Rows K H (vs ++ [.ref p]) (rs ++ [xs]) := by
  induction h with
  | nil => exact .cons hp hu .nil
  | cons h' hu' _ ih => exact .cons h' hu' ih
theorem Rows.at {K : PySem.W.Frag} {H : Hp} {vs : List V} {rs : List (List Rat)} (h : Rows K H vs rs) : ∀ {i : Nat} (hi : i < rs.length), ∃ p us, vs[i]? = some (.ref p) ∧ H p = some (.lst us) ∧ AmL K H us rs[i] := by
  induction h with
  | nil => intro i hi; simp at hi
  | @cons p us xs vs rs h hu t ih =>
    intro i hi
    cases i with
    | zero => exact ⟨p, us, rfl, h, hu⟩
    | succ i => exact ih (i := i) (by simpa using hi)
theorem Rows.dpa {K : PySem.W.Frag} {H : Hp} {vs : List V} {rs : List (List Rat)} (h : Rows K H vs rs) : DpAll K H vs (rs.map fun xs => PyData.list ((xs.map am).map amD)) := by
  induction h with
  | nil => exact .nil
  | cons h hu _ ih => exact .cons (hu.dp (SqL.of h)) ih
/-- the list at a of other things is changed -/
theorem Rows.mut {K : PySem.W.Frag} {H : Hp} {vs : List V} {rs : List (List Rat)} (h : Rows K H vs rs) {a : Addr} {xs : List V} {o : HO} (ha : H a = some (.lst xs)) (hn : ∀ v ∈ vs, v ≠ .ref a) : Rows K (upd H a o) vs rs := by
  induction h with
  | nil => exact .nil
  | cons h hu _ ih =>
    refine .cons ?_ (hu.mut ha) (ih fun v hv => hn v (List.mem_cons_of_mem _ hv))
    rw [upd_ne (fun z => hn _ List.mem_cons_self (by rw [z]))]
    exact h
def tbW (ns : List Int) (r : Int) : Option Str := match pW ns with
  | some wd => some wd
  | none => if rdB r = true then none else some "bad count"
/-- fresh rows: the rows' lists are new, unlike one another and unlike the whole -/
def Fresh (H : Hp) (vs : List V) : Prop := (∀ v ∈ vs, ∃ p, v = .ref p ∧ H p = none) ∧ vs.Nodup
def sp_p_table (K : PySem.W.Frag) (T : Tb) (CP : Addr) : Sp := fun vs H Q E => ∃ (a : Addr) (ns : List Int) (r : Int), vs = [.ref a, .int r] ∧ SqL K H a (ns.map V.int) ∧ ns.length ≤ 1000 ∧
  (tbW ns r = none → ∀ p H' us', Sm T H H' → H p = none → H' p = some (.lst us') → Rows K H' us' (tabM ns r.toNat) → Fresh H us' → (∀ v ∈ us', v ≠ .ref p) → Q (.ref p) H') ∧ (∀ wd, tbW ns r = some wd → ∀ cls d H', Sm T H H' → Rf K CP wd cls d H' → E cls d H')
theorem ok_p_table {f : Addr} {fd : FuncData} (F : Fun K "table" "table" s_p_table f fd) (B : Bn mg) {CP : Addr} (F_p_check_rising : Fx P w K mg base 6 "check_rising" ["paces"] (sp_p_check_rising K T CP)) (F_p_check_rounds : Fx P w K mg base 4 "check_rounds" ["rounds"] (sp_p_check_rounds K T CP)) (F_p_column : Fn P w K mg base 6 "column" ["paces", "number", "rounds"] (sp_p_column K T)) : FnOk P w K mg base (L2.CX P w) 7 f fd ["paces", "rounds"] (sp_p_table K T CP) := by
  refine F.okX sc_p_table (fun vs H Q E h => ?_) (fun cdv A outer s H vs Q E hr h => ?_)
  · obtain ⟨a, ns, r, rfl, _⟩ := h
    rfl
  · obtain ⟨a, ns, r, rfl, ha, hl, k1, k2⟩ := h
    refine ⟨_, (pss_cons (ps_expr (pe_fx F_p_check_rising (hr.mono (by decide)) (takes_of rfl rfl rfl rfl) (pa_cons (pv 0) pa_nil)))
      (pss_cons (ps_expr (pe_fx F_p_check_rounds (hr.mono (by decide)) (takes_of rfl rfl rfl rfl) (pa_cons (pv 1) pa_nil)))
      (pss_cons (ps_set (i := 2) sc_p_table.nd rfl (.inr rfl) (pe_lc (own := [("number", 3)]) (g := (gName 3)) (tt := tYes) (by rfl) sc_p_table.nd (pi_range1 (by rfl) B.range_ (pa_cons (pe_callB call_len_seq (by rfl) B.len_ (by decide +kernel) (pa_cons (pv 0) pa_nil)) pa_nil)) (blkOk_by (own := [("number", 3)]) (N := ["paces", "rounds", "columns", "number", "at", "parts"]) (sc := (defScope s_p_table)) (by decide +kernel)) (fun _ _ _ _ _ => (pg_name (i := 3) sc_p_table.nd rfl (.inl rfl))) (fun _ _ _ _ _ => pts_nil) (fun _ _ _ _ _ => (pe_fn F_p_column (hr.mono (by decide)) (pa_cons (pv 0) (pa_cons (pv 3) (pa_cons (pv 1) pa_nil)))))))
      (pss_one (ps_ret (pe_lc (own := [("at", 4)]) (g := (gName 4)) (tt := tYes) (by rfl) sc_p_table.nd (pi_range1 (by rfl) B.range_ (pa_cons (pe_callB call_len_seq (by rfl) B.len_ (by decide +kernel) (pa_cons (pv 0) pa_nil)) pa_nil)) (blkOk_by (own := [("at", 4)]) (N := ["paces", "rounds", "columns", "number", "at", "parts"]) (sc := (defScope s_p_table)) (by decide +kernel)) (fun _ _ _ _ _ => (pg_name (i := 4) sc_p_table.nd rfl (.inr rfl))) (fun _ _ _ _ _ => pts_nil) (fun _ _ _ _ _ => (pe_lc (wi := iList K (tVar 2)) (own := [("parts", 5)]) (g := (gName 5)) (tt := tYes) (by rfl) sc_p_table.nd (pi_list (pv 2)) (blkOk_by (own := [("parts", 5)]) (N := ["paces", "rounds", "columns", "number", "at", "parts"]) (sc := ({ kind := .function, names := [(PySem.Str.ofString ".0", .local), (PySem.Str.ofString "at", .cell), (PySem.Str.ofString "columns", .cell)], isGenerator := false, isCoroutine := false } : Scope)) (by decide +kernel)) (fun _ _ _ _ _ => (pg_name (i := 5) sc_p_table.nd rfl (.inl rfl))) (fun _ _ _ _ _ => pts_nil) (fun _ _ _ _ _ => (pe_ix (r := rIxL K) ix_list (pv 5) (pv 4) (fun _ _ => rfl))))))))))), ?_⟩
    refine ⟨_, rfl, a, ns, rfl, ha, hl, fun hp H1 s1 => ?_, fun wd hp cls d H' s' rf => k2 wd (by unfold tbW; rw [hp]) cls d H' s' rf⟩
    have w := pW_ris.mp hp
    have n8 := w.n8
    refine ⟨_, rfl, r, rfl, fun hrd => ?_, fun hrd cls d H' s' rf => k2 "bad count" (by unfold tbW; rw [hp]; exact if_neg (fun c => by rw [hrd] at c; exact absurd c (by decide))) cls d H' (s1.trans s') rf⟩
    have k1 := k1 (by unfold tbW; rw [hp]; exact if_pos hrd)
    have hr' : 0 ≤ r ∧ r ≤ 24 := by
      unfold rdB at hrd
      simp only [Bool.and_eq_true, decide_eq_true_eq] at hrd
      exact hrd
    refine ⟨_, rfl, a, _, rfl, .inl (s1.seq ha), _, rfl, by rw [List.length_map]; omega, by rw [List.length_map]; omega, fun D hD => lc_range (lo := 0) (n := (ns.map V.int).length) (Qd := _) (fun i H' => Sm T H1 H' ∧ ∃ vs, H' D = some (.lst vs) ∧ Rows K H' vs ((List.range i).map (colM ns r.toNat)) ∧ ∀ v ∈ vs, v ≠ .ref D) ⟨same_upd hD, [], upd_same, .nil, fun _ h => nomatch h⟩ ?_ ?_⟩
    · rintro j H2 hj ⟨sm, vs, eD, hv, hne⟩
      rw [List.length_map] at hj
      have lv : vs.length = j := by rw [hv.len, List.length_map, List.length_range]
      refine ⟨rfl, tyes_i ?_⟩
      refine ⟨_, rfl, _, rfl, _, rfl, a, ns, j, r, by rw [Int.zero_add]; rfl, (s1.trans sm).seq ha, w, hr', fun p H3 us s3 np ep hu => ?_⟩
      have eD3 := s3.k eD
      have pne : p ≠ D := fun z => by rw [z, eD] at np; cases np
      refine ⟨_, eD3, szl (by omega), same_mut (sm.trans s3) hD eD3, vs ++ [.ref p], upd_same, ?_, ?_⟩
      · rw [take_range]
        exact ((hv.keep s3).mut eD3 hne).push (by rw [upd_ne pne]; exact ep) (hu.mut eD3)
      · intro v hv'
        rcases List.mem_append.mp hv' with h | h
        · exact hne v h
        · rw [List.mem_singleton.mp h]
          exact fun z => pne (V.ref.inj z)
    · rintro H2 ⟨s2, cs, eD, hc, hne⟩
      rw [List.length_map] at hc
      have lc : cs.length = ns.length := by rw [hc.len, List.length_map, List.length_range]
      have s12 := s1.trans s2
      refine ⟨_, rfl, a, _, rfl, .inl (s12.seq ha), _, rfl, by rw [List.length_map]; omega, by rw [List.length_map]; omega, fun D2 hD2 => lc_range (lo := 0) (n := (ns.map V.int).length) (Qd := _) (fun i H' => Sm T H2 H' ∧ ∃ vs, H' D2 = some (.lst vs) ∧ Rows K H' vs ((List.range i).map fun j => (List.range ns.length).map fun k => (colM ns r.toNat k).getD j 0) ∧ (∀ v ∈ vs, v ≠ .ref D2) ∧ Fresh H2 vs) ⟨same_upd hD2, [], upd_same, .nil, (fun _ h => nomatch h), (fun _ h => nomatch h), .nil⟩ ?_ ?_⟩
      · rintro j H3 hj ⟨sm, vs, eD2, hv, hne2, hfr⟩
        rw [List.length_map] at hj
        have lv : vs.length = j := by rw [hv.len, List.length_map, List.length_range]
        refine ⟨rfl, tyes_i ?_⟩
        refine ⟨_, rfl, D, rfl, ⟨_, SqL.of (sm.k eD)⟩, fun D3 hD3 => lc_list (K := K) (a := D) (xs := cs) (Qd := _) (fun i H' => Sm T H3 H' ∧ ∃ us, H' D3 = some (.lst us) ∧ AmL K H' us ((List.range i).map fun k => (colM ns r.toNat k).getD j 0)) ⟨same_upd hD3, [], upd_same, .nil⟩ (fun i H' _ ⟨s', _⟩ => SqL.of ((sm.trans s').k eD)) ?_ ?_⟩
        · rintro k v H4 hk ⟨s4, us, eD3, hu⟩
          have hkl : k < ns.length := by rw [← lc]; exact (List.getElem?_eq_some_iff.mp hk).1
          obtain ⟨p, us', gp, ep, hup⟩ := hc.at (i := k) (by rw [List.length_map, List.length_range]; exact hkl)
          rw [hk] at gp
          cases gp
          have s24 := sm.trans s4
          have e2 : ((List.range ns.length).map (colM ns r.toNat))[k]'(by rw [List.length_map, List.length_range]; exact hkl) = colM ns r.toNat k := by
            rw [List.getElem_map, List.getElem_range]
          rw [e2] at hup
          obtain ⟨b, gb, qb⟩ := hup.at (i := j) (by rw [colM_len]; exact hj)
          have lu : us.length = k := by rw [hu.len, List.length_map, List.length_range]
          refine ⟨rfl, tyes_i ?_⟩
          refine ⟨_, rfl, _, rfl, p, _, _, .ref b, rfl, rfl, SqL.of (s24.k ep), at_of (j := j) (by omega) gb, ?_⟩
          refine ⟨_, eD3, szl (by omega), same_mut s4 hD3 eD3, _, upd_same, ?_⟩
          rw [take_range]
          exact hu.push eD3 (same_tup s24 qb)
        · rintro H4 ⟨s4, us, eD3, hu⟩
          rw [lc] at hu
          have eD24 := s4.k eD2
          have pne : D3 ≠ D2 := fun z => by rw [z, eD2] at hD3; cases hD3
          have hnew : H2 D3 = none := sm.free _ hD3
          refine ⟨_, eD24, szl (by omega), same_mut (sm.trans s4) hD2 eD24, vs ++ [.ref D3], upd_same, ?_, ?_, ?_, ?_⟩
          · rw [take_range]
            exact ((hv.keep s4).mut eD24 hne2).push (by rw [upd_ne pne]; exact eD3) (hu.mut eD24)
          · intro v hv'
            rcases List.mem_append.mp hv' with h | h
            · exact hne2 v h
            · rw [List.mem_singleton.mp h]
              exact fun z => pne (V.ref.inj z)
          · intro v hv'
            rcases List.mem_append.mp hv' with h | h
            · exact hfr.1 v h
            · rw [List.mem_singleton.mp h]
              exact ⟨D3, rfl, hnew⟩
          · rw [List.nodup_append]
            refine ⟨hfr.2, by simp, fun x hx y hy => ?_⟩
            rw [List.mem_singleton.mp hy]
            intro z
            obtain ⟨i, hi, e⟩ := List.getElem_of_mem hx
            obtain ⟨p, us', gp, ep, _⟩ := hv.at (i := i) (by rw [← hv.len]; exact hi)
            rw [List.getElem?_eq_getElem hi, e, z] at gp
            cases gp
            rw [hD3] at ep
            cases ep
      · rintro H3 ⟨s3, vs, eD2, hv, hne2, hfr⟩
        rw [List.length_map] at hv
        refine k1 D2 H3 vs (s12.trans s3) (s12.free _ hD2) eD2 hv ⟨fun v hv' => ?_, hfr.2⟩ hne2
        obtain ⟨p, e, hp'⟩ := hfr.1 v hv'
        exact ⟨p, e, s12.free _ hp'⟩

def sp_l_rising_of (K : PySem.W.Frag) (T : Tb) : Sp := fun vs H Q _ => ∃ c : Int, vs = [.int c] ∧ ∀ p H' ns, Sm T H H' → H p = none → H' p = some (.lst (ns.map V.int)) → Ris ns → Q (.ref p) H'
theorem cut_mid {ds : List Int} {lo m : Nat} {z1 z2 : Int} (h1 : z1 = (lo : Int)) (h2 : z2 = ((lo + m : Nat) : Int)) (hl : lo + m ≤ ds.length) : cutV (ds.map V.int) (some z1) (some z2) = ((ds.drop lo).take m).map V.int := by
  subst h1 h2
  unfold cutV
  rw [HT.sIx_nat, HT.sIx_nat, List.length_map, Nat.min_eq_left (by omega), Nat.min_eq_left (by omega), Nat.add_sub_cancel_left, List.map_take, List.map_drop]
theorem ok_l_rising_of {f : Addr} {fd : FuncData} (F : Fun K "_law_rising_of" "_law_rising_of" s_l_rising_of f fd) (B : Bn mg) (F_l_draws : Fn P w K mg base 1 "_law_draws" ["_law_cell_here", "_law_parts"] (sp_l_draws K T)) : FnOk P w K mg base CX0 2 f fd ["_law_cell_here"] (sp_l_rising_of K T) := by
  refine F.ok sc_l_rising_of (fun vs H Q E h => ?_) (fun cdv A outer s H vs Q E hr h => ?_)
  · obtain ⟨c, rfl, _⟩ := h
    rfl
  · obtain ⟨c, rfl, q⟩ := h
    refine ⟨_, (pss_cons (ps_set (i := 1) sc_l_rising_of.nd rfl (.inr rfl) (pe_fn F_l_draws (hr.mono (by decide)) (pa_cons (pv 0) (pa_cons (pe_op op_cat (pe_lst (pa_cons pe_int (pa_cons pe_int pa_nil))) (pe_op op_rep (pe_lst (pa_cons pe_int pa_nil)) pe_int)) pa_nil))))
      (pss_cons (ps_set (i := 2) sc_l_rising_of.nd rfl (.inl rfl) (pe_op op_add (pe_ix ix_list (pv 1) pe_int (fun _ _ => rfl)) pe_int))
      (pss_one (ps_ret (pe_callB cr_sortedI (by rfl) B.sorted_ (by decide +kernel) (pa_cons (pe_lc (own := [("_law_one", 3)]) (g := (gName 3)) (tt := tYes) (by rfl) sc_l_rising_of.nd (pi_list (pe_slice sl_list (pv 1) (po_some pe_int) (po_some (pe_op op_add pe_int (pv 2))))) (blkOk_by (own := [("_law_one", 3)]) (N := ["_law_cell_here", "_law_drawn", "_law_many_here", "_law_one"]) (sc := (defScope s_l_rising_of)) (by decide +kernel)) (fun _ _ _ _ _ => (pg_name (i := 3) sc_l_rising_of.nd rfl (.inl rfl))) (fun _ _ _ _ _ => pts_nil) (fun _ _ _ _ _ => (pe_ix (r := rIxL K) ix_list (pe_lst (pa_cons (pe_op op_add pe_int (pv 3)) (pa_cons (pe_op op_add pe_int (pe_op op_mod (pv 3) pe_int)) (pa_cons (pe_op op_sub pe_int (pe_op op_mod (pv 3) pe_int)) (pa_cons (pe_op op_add pe_int (pe_ix (r := rIxL K) ix_list (pv 1) pe_int (fun _ _ => rfl))) (pa_cons (pe_op op_add pe_int (pv 3)) pa_nil)))))) (pe_ix (r := rIxL K) ix_list (pv 1) pe_int (fun _ _ => rfl)) (fun _ _ => rfl)))) pa_nil)))))), ?_⟩
    refine ⟨_, rfl, by show 2 ≤ sizeLine; decide, fun l1 n1 => ⟨by show 1 ≤ sizeLine; decide, fun l2 n2 => ?_⟩⟩
    refine ⟨_, _, _, rfl, rfl, upd_same, by decide, by decide, by show 1 * 8 ≤ sizeLine; decide, fun l3 n3 => ?_⟩
    have u1 := same_upd (T := T) (o := HO.lst [V.int 8, V.int 5]) n1
    have u2 := same_upd (T := T) (o := HO.lst [V.int 12]) n2
    have u3 := same_upd (T := T) (o := HO.lst (List.replicate 8 [V.int 12]).flatten) n3
    refine ⟨_, _, _, _, rfl, rfl, u3.k (u2.k upd_same), upd_same, by show 2 + 8 ≤ sizeLine; decide, fun l4 n4 => ?_⟩
    have u4 := same_upd (T := T) (o := HO.lst ([V.int 8, V.int 5] ++ (List.replicate 8 [V.int 12]).flatten)) n4
    refine ⟨c, l4, [8, 5, 12, 12, 12, 12, 12, 12, 12, 12], rfl, SqL.of upd_same, by decide, by decide, fun p3 H3 ds s3 np3 e3 hd => ?_⟩
    have s03 : Sm T H H3 := u1.trans (u2.trans (u3.trans (u4.trans s3)))
    clear s3 u1 u2 u3 u4
    have dl : ds.length = 10 := hd.length
    obtain ⟨d0, g0, h00, h01⟩ := hd.get (i := 0) rfl
    obtain ⟨d1, g1, h10, h11⟩ := hd.get (i := 1) rfl
    obtain ⟨d2, g2, h20, h21⟩ := hd.get (i := 2) rfl
    obtain ⟨m, hm⟩ : ∃ m : Nat, d0 + 1 = (m : Int) := ⟨(d0 + 1).toNat, by omega⟩
    refine ⟨_, rfl, p3, _, 0, .int d0, rfl, rfl, SqL.of e3, at_map (i := 0) rfl g0, _, _, rfl, rfl, ?_⟩
    refine ⟨_, rfl, 2, rfl, _, rfl, _, _, rfl, rfl, _, rfl, p3, _, rfl, SqL.of e3, fun p4 np4 => ?_⟩
    have ec : cutV (ds.map V.int) (some 2) (some (2 + (d0 + 1))) = ((ds.drop 2).take m).map V.int := cut_mid (lo := 2) (m := m) rfl (by omega) (by omega)
    rw [ec]
    have u4 := same_upd (T := T) (o := HO.lst (((ds.drop 2).take m).map V.int)) np4
    refine ⟨p4, rfl, ⟨_, SqL.of upd_same⟩, fun D hD => lc_list (K := K) (a := p4) (xs := ((ds.drop 2).take m).map V.int) (Qd := _) (fun i H' => Sm T (upd H3 p4 (.lst (((ds.drop 2).take m).map V.int))) H' ∧ ∃ ns : List Int, H' D = some (.lst (ns.map V.int)) ∧ ns.length = i ∧ ∀ n ∈ ns, 1 ≤ n ∧ n ≤ 12) ⟨same_upd hD, [], upd_same, rfl, fun _ h => nomatch h⟩ (fun i H' _ ⟨sm, _⟩ => SqL.of (sm.k upd_same)) ?_ ?_⟩
    · rintro i v H' hi ⟨sm, ns, eD, hl, hn⟩
      rw [List.getElem?_map] at hi
      obtain ⟨one, hq, rfl⟩ : ∃ one, ((ds.drop 2).take m)[i]? = some one ∧ V.int one = v := Option.map_eq_some_iff.mp hi
      have him : i < m := by
        have := (List.getElem?_eq_some_iff.mp hq).1
        rw [List.length_take] at this
        omega
      have hone : 0 ≤ one ∧ one < 12 := by
        obtain ⟨x, gx, x0, x1⟩ : ∃ x, ds[2 + i]? = some x ∧ 0 ≤ x ∧ x < 12 := hd.get (q := 12) (by rcases (by omega : i = 0 ∨ i = 1 ∨ i = 2 ∨ i = 3 ∨ i = 4 ∨ i = 5 ∨ i = 6 ∨ i = 7) with rfl | rfl | rfl | rfl | rfl | rfl | rfl | rfl <;> rfl)
        rw [List.getElem?_take_of_lt him, List.getElem?_drop, gx] at hq
        cases hq
        exact ⟨x0, x1⟩
      refine ⟨rfl, tyes_i ?_⟩
      have e4 := (u4.trans sm).k e3
      refine ⟨_, rfl, _, _, rfl, rfl, _, rfl, _, _, rfl, rfl, (by show (0 : Int) < 3; decide), _, _, rfl, rfl, _, rfl, _, _, rfl, rfl, (by show (0 : Int) < 2; decide), _, _, rfl, rfl, _, rfl, p3, _, 2, .int d2, rfl, rfl, SqL.of e4, at_map (i := 2) rfl g2, _, _, rfl, rfl, _, rfl, _, _, rfl, rfl, by show 5 ≤ sizeLine; decide, fun l nl => ?_⟩
      have ul := same_upd (T := T) (o := HO.lst [V.int (1 + one), V.int (1 + one % 3), V.int (12 - one % 2), V.int (1 + d2), V.int (1 + one)]) nl
      have hz : ∃ z : Int, 1 ≤ z ∧ z ≤ 12 ∧ atI [V.int (1 + one), V.int (1 + one % 3), V.int (12 - one % 2), V.int (1 + d2), V.int (1 + one)] d1 = some (.int z) := by
        rcases (by omega : d1 = 0 ∨ d1 = 1 ∨ d1 = 2 ∨ d1 = 3 ∨ d1 = 4) with rfl | rfl | rfl | rfl | rfl
        · exact ⟨_, by omega, by omega, atI_nat (j := 0) rfl⟩
        · exact ⟨_, by omega, by omega, atI_nat (j := 1) rfl⟩
        · exact ⟨_, by omega, by omega, atI_nat (j := 2) rfl⟩
        · exact ⟨_, by omega, by omega, atI_nat (j := 3) rfl⟩
        · exact ⟨_, by omega, by omega, atI_nat (j := 4) rfl⟩
      obtain ⟨z, z1, z12, hz⟩ := hz
      have e5 := ul.k e4
      have eD5 := ul.k eD
      refine ⟨_, rfl, p3, _, 1, .int d1, rfl, rfl, SqL.of e5, at_map (i := 1) rfl g1, l, _, _, _, rfl, rfl, SqL.of upd_same, hz, ?_⟩
      refine ⟨_, eD5, by rw [List.length_map]; exact szl (by omega), same_mut (sm.trans ul) hD eD5, ns ++ [z], by rw [upd_same, List.map_append]; rfl, by rw [List.length_append, hl]; rfl, fun n hn' => ?_⟩
      rcases List.mem_append.mp hn' with h | h
      · exact hn n h
      · rw [List.mem_singleton.mp h]
        exact ⟨z1, z12⟩
    · rintro H5 ⟨s5, ns, eD, hl, hn⟩
      have nl : ns.length = m := by
        rw [hl, List.length_map, List.length_take, List.length_drop]
        omega
      refine ⟨D, ns, rfl, SqL.of eD, fun ns' p hperm hs np => ?_⟩
      have lp := hperm.length_eq
      exact q p _ ns' (s03.trans (u4.trans (s5.trans (same_upd np)))) ((s03.trans (u4.trans s5)).free _ np) upd_same ⟨by omega, by omega, fun n hn' => hn n (hperm.mem_iff.mp hn'), hs⟩

def sp_l_shares_drawn (K : PySem.W.Frag) (T : Tb) : Sp := fun vs H Q _ => ∃ (c : Int) (m : Nat), vs = [.int c, .int m] ∧ (1 ≤ m ∧ m ≤ 8) ∧ ∀ p H' us xs, Sm T H H' → H p = none → H' p = some (.lst us) → AmL K H' us xs → xs.length = m → (∀ x ∈ xs, Fr 27720 x ∧ 0 ≤ x ∧ x ≤ 50000) → Q (.ref p) H'
theorem amL_rep {K : PySem.W.Frag} {H : Hp} {b : Addr} {r : Rat} (h : SqT K H b (tv (am r))) : ∀ n, AmL K H (List.replicate n (.ref b)) (List.replicate n r)
  | 0 => .nil
  | n + 1 => .cons (amD_dp h) (amL_rep h n)
theorem AmL.app {K : PySem.W.Frag} {H : Hp} {us vs : List V} {xs ys : List Rat} (h : AmL K H us xs) (g : AmL K H vs ys) : AmL K H (us ++ vs) (xs ++ ys) := by
  unfold AmL
  rw [List.map_append, List.map_append]
  exact dpa_app h g
theorem rep_flat {α : Type} (v : α) : ∀ n, (List.replicate n [v]).flatten = List.replicate n v
  | 0 => rfl
  | n + 1 => by rw [List.replicate_succ, List.flatten_cons, rep_flat v n]; rfl
theorem ok_l_shares_drawn {f : Addr} {fd : FuncData} (F : Fun K "_law_shares_drawn" "_law_shares_drawn" s_l_shares_drawn f fd) (B : Bn mg) (F_l_draws : Fn P w K mg base 1 "_law_draws" ["_law_cell_here", "_law_parts"] (sp_l_draws K T)) (F_l_amt : Fn P w K mg base 2 "_law_amt" ["_law_num", "_law_den"] (sp_l_amt K T)) : FnOk P w K mg base CX0 3 f fd ["_law_cell_here", "_law_many_here"] (sp_l_shares_drawn K T) := by
  refine F.ok sc_l_shares_drawn (fun vs H Q E h => ?_) (fun cdv A outer s H vs Q E hr h => ?_)
  · obtain ⟨c, m, rfl, _⟩ := h
    rfl
  · obtain ⟨c, m, rfl, hm, q⟩ := h
    refine ⟨_, (pss_cons (ps_set (i := 2) sc_l_shares_drawn.nd rfl (.inr rfl) (pe_fn F_l_draws (hr.mono (by decide)) (pa_cons (pv 0) (pa_cons (pe_op op_cat (pe_lst (pa_cons pe_int (pa_cons pe_int pa_nil))) (pe_op op_rep (pe_lst (pa_cons pe_int pa_nil)) pe_int)) pa_nil))))
      (pss_cons (ps_setLc (i := 3) (own := [("_law_k", 4), ("_law_one", 5)]) (g := (gTup K 2 (gCons (gName 4) (gCons (gName 5) gNil)))) (tt := tYes) (by rfl) sc_l_shares_drawn.nd rfl rfl (sw_true rfl rfl rfl (by decide +kernel)) (pi_enum (by rfl) B.enumerate_ (pa_cons (pe_slice sl_list (pv 2) (po_some pe_int) (po_some (pe_op op_add pe_int (pv 1)))) pa_nil)) (blkOk_by (own := [("_law_k", 4), ("_law_one", 5)]) (N := ["_law_cell_here", "_law_many_here", "_law_drawn", "_law_found", "_law_k", "_law_one"]) (sc := (defScope s_l_shares_drawn)) (by decide +kernel)) (fun _ _ _ _ _ => (pg_tup rfl (pgs_cons (pg_name (i := 4) sc_l_shares_drawn.nd rfl (.inl rfl)) (pgs_cons (pg_name (i := 5) sc_l_shares_drawn.nd rfl (.inl rfl)) pgs_nil)))) (fun _ _ _ _ _ => pts_nil) (fun _ _ _ _ _ => (pe_fn F_l_amt (hr.mono (by decide)) (pa_cons (pv 5) (pa_cons (pe_op op_add pe_int (pe_op op_mod (pe_op op_add (pe_ix (r := rIxL K) ix_list (pv 2) pe_int (fun _ _ => rfl)) (pe_op op_mul pe_int (pv 4))) pe_int)) pa_nil)))))
      (pss_one (ps_ret (pe_ifExp (pt_cmpR op_gt (pe_ix ix_list (pv 2) pe_int (fun _ _ => rfl)) pe_int (nomark _)) (pv 3) (pe_op op_cat (pe_op op_rep (pe_lst (pa_cons (pe_ix ix_list (pv 3) pe_int (fun _ _ => rfl)) pa_nil)) (pe_op op_sub (pv 1) pe_int)) (pe_lst (pa_cons (pe_ix ix_list (pv 3) (pe_un un_neg pe_int) (fun _ _ => rfl)) pa_nil)))))))), ?_⟩
    refine ⟨_, rfl, by show 2 ≤ sizeLine; decide, fun l1 n1 => ⟨by show 1 ≤ sizeLine; decide, fun l2 n2 => ?_⟩⟩
    refine ⟨_, _, _, rfl, rfl, upd_same, by decide, by decide, by show 1 * 8 ≤ sizeLine; decide, fun l3 n3 => ?_⟩
    have u1 := same_upd (T := T) (o := HO.lst [V.int 12, V.int 3]) n1
    have u2 := same_upd (T := T) (o := HO.lst [V.int 30]) n2
    have u3 := same_upd (T := T) (o := HO.lst (List.replicate 8 [V.int 30]).flatten) n3
    refine ⟨_, _, _, _, rfl, rfl, u3.k (u2.k upd_same), upd_same, by show 2 + 8 ≤ sizeLine; decide, fun l4 n4 => ?_⟩
    have u4 := same_upd (T := T) (o := HO.lst ([V.int 12, V.int 3] ++ (List.replicate 8 [V.int 30]).flatten)) n4
    refine ⟨c, l4, [12, 3, 30, 30, 30, 30, 30, 30, 30, 30], rfl, SqL.of upd_same, by decide, by decide, fun p3 H3 ds s3 np3 e3 hd => ?_⟩
    have s03 : Sm T H H3 := u1.trans (u2.trans (u3.trans (u4.trans s3)))
    clear s3 u1 u2 u3 u4
    have dl : ds.length = 10 := hd.length
    obtain ⟨d0, g0, h00, h01⟩ := hd.get (i := 0) rfl
    obtain ⟨d1, g1, h10, h11⟩ := hd.get (i := 1) rfl
    refine ⟨_, rfl, 2, rfl, _, rfl, _, _, rfl, rfl, _, rfl, p3, _, rfl, SqL.of e3, fun p4 np4 => ?_⟩
    have ec : cutV (ds.map V.int) (some 2) (some (2 + (m : Int))) = ((ds.drop 2).take m).map V.int := cut_mid (lo := 2) (m := m) rfl (by omega) (by omega)
    rw [ec]
    have u4 := same_upd (T := T) (o := HO.lst (((ds.drop 2).take m).map V.int)) np4
    have lx : (((ds.drop 2).take m).map V.int).length = m := by rw [List.length_map, List.length_take, List.length_drop]; omega
    refine ⟨p4, _, rfl, SqL.of upd_same, fun D hD => lc_it walk_enum (Qd := _) (fun i H' => Sm T (upd H3 p4 (.lst (((ds.drop 2).take m).map V.int))) H' ∧ ∃ us xs, H' D = some (.lst us) ∧ AmL K H' us xs ∧ xs.length = i ∧ ∀ x ∈ xs, Fr 27720 x ∧ 0 ≤ x ∧ x ≤ 50000) ⟨same_upd hD, [], [], upd_same, .nil, rfl, fun _ h => nomatch h⟩ (fun i H' _ ⟨sm, _⟩ => SqL.of (sm.k upd_same)) ?_ ?_⟩
    · rintro i x H1 H2 hi ⟨sm, us, xs, eD, hu, hl, hx⟩ ⟨tp, y1, y2, rfl, ntp, rfl, f1, f2⟩
      rw [lx] at hi
      obtain ⟨one, gx, x0, x1⟩ : ∃ x, ds[2 + i]? = some x ∧ 0 ≤ x ∧ x < 30 := hd.get (q := 30) (by rcases (by omega : i = 0 ∨ i = 1 ∨ i = 2 ∨ i = 3 ∨ i = 4 ∨ i = 5 ∨ i = 6 ∨ i = 7) with rfl | rfl | rfl | rfl | rfl | rfl | rfl | rfl <;> rfl)
      simp only [List.getElem?_map, List.getElem?_take_of_lt hi, List.getElem?_drop, gx, Option.map_some] at f2
      cases f1
      cases f2
      have ut := same_upd (T := T) (o := .tup [V.int (i : Nat), V.int one]) ntp
      have s2 := sm.trans ut
      have w0 := Int.emod_nonneg (d0 + 5 * (i : Int)) (show (12 : Int) ≠ 0 by decide)
      have w1 := Int.emod_lt_of_pos (d0 + 5 * (i : Int)) (show (0 : Int) < 12 by decide)
      refine ⟨tp, _, rfl, SqT.of upd_same, rfl, _, _, rfl, _, _, rfl, rfl, rfl, tyes_i ?_⟩
      refine ⟨_, rfl, _, rfl, p3, _, 0, .int d0, rfl, rfl, SqL.of ((u4.trans s2).k e3), at_map (i := 0) rfl g0, _, rfl, _, _, rfl, rfl, .inl ⟨by decide, by decide⟩, _, _, rfl, rfl, _, _, rfl, rfl, (by show (0 : Int) < 12; decide), _, _, rfl, rfl, ?_⟩
      generalize (d0 + 5 * (i : Int)) % 12 = w12 at *
      refine ⟨one, 1 + w12, rfl, by omega, Nat.lt_of_le_of_lt (by omega : (1 + w12).natAbs ≤ 12) (Nat.lt_of_lt_of_le (by decide : 12 < 2 ^ 4) (Nat.pow_le_pow_right (by decide) (by decide))), fun p7 H7 s7 np7 e7 => ?_⟩
      rw [amt_am (by omega)] at e7
      have fx : Fr 27720 ((one : Rat) / ((1 + w12 : Int) : Rat)) := by
        have := (Fr.int (D := 1) (by decide) one).div12 (b := 1 + w12) (by decide) (by omega) (by omega)
        exact this
      have o0 : (0 : Rat) ≤ (one : Rat) := Rat.intCast_le_intCast.mpr x0
      have o1 : (one : Rat) ≤ ((30 : Int) : Rat) := Rat.intCast_le_intCast.mpr (by omega)
      have d0' := div_nn (k := 1 + w12) (by omega) o0
      have d1' := div_le1 (k := 1 + w12) (by omega) o0
      have eD7 := (ut.trans s7).k eD
      have lu := hu.len
      refine ⟨_, eD7, szl (by omega), same_mut (s2.trans s7) hD eD7, us ++ [.ref p7], xs ++ [(one : Rat) / ((1 + w12 : Int) : Rat)], upd_same, (hu.keep (ut.trans s7)).push eD7 (SqT.of e7), by rw [List.length_append, hl]; rfl, fun x hx' => ?_⟩
      rcases List.mem_append.mp hx' with h | h
      · exact hx x h
      · rw [List.mem_singleton.mp h]
        exact ⟨fx, d0', Rat.le_trans d1' (Rat.le_trans o1 (by decide +kernel))⟩
    · rintro H5 ⟨s5, us, xs, eD, hu, hl, hx⟩
      rw [lx] at hl
      have s05 := s03.trans (u4.trans s5)
      have nD := (s03.trans u4).free _ hD
      have lu := hu.len
      have e5 := (u4.trans s5).k e3
      refine ⟨_, rfl, p3, _, 1, .int d1, rfl, rfl, SqL.of e5, at_map (i := 1) rfl g1, _, _, rfl, rfl, _, rfl, ite2 (fun e => ?_) (fun e => ?_)⟩
      · exact ⟨_, rfl, q D H5 us xs s05 nD eD hu hl hx⟩
      · obtain ⟨b0, gb0, qb0⟩ := hu.at (i := 0) (by omega)
        obtain ⟨bl, gbl, qbl⟩ := hu.at (i := m - 1) (by omega)
        refine ⟨_, rfl, D, _, 0, .ref b0, rfl, rfl, SqL.of eD, atI_nat (j := 0) gb0, by show 1 ≤ sizeLine; decide, fun l6 n6 => ?_⟩
        have u6 := same_upd (T := T) (o := HO.lst [V.ref b0]) n6
        have hsz : [V.ref b0].length * ((m : Int) - 1).toNat ≤ sizeLine := sz (by show 1 * _ ≤ _; omega)
        refine ⟨_, rfl, _, _, rfl, rfl, _, _, _, rfl, rfl, upd_same, by omega, by omega, hsz, fun l7 n7 => ?_⟩
        have u7 := same_upd (T := T) (o := HO.lst (List.replicate ((m : Int) - 1).toNat [V.ref b0]).flatten) n7
        have s67 := u6.trans u7
        refine ⟨_, rfl, 1, rfl, D, _, _, .ref bl, rfl, rfl, SqL.of (s67.k eD), at_neg1 (by omega) (by rw [lu, hl]; exact gbl), by show 1 ≤ sizeLine; decide, fun l8 n8 => ?_⟩
        have u8 := same_upd (T := T) (o := HO.lst [V.ref bl]) n8
        have hl9 : ((List.replicate ((m : Int) - 1).toNat [V.ref b0]).flatten).length + [V.ref bl].length ≤ sizeLine := by
          rw [rep_flat, List.length_replicate]
          exact sz (by show _ + 1 ≤ _; omega)
        refine ⟨l7, l8, _, _, rfl, rfl, u8.k upd_same, upd_same, hl9, fun l9 n9 => ?_⟩
        have s9 := s67.trans (u8.trans (same_upd (T := T) (o := HO.lst ((List.replicate ((m : Int) - 1).toNat [V.ref b0]).flatten ++ [V.ref bl])) n9))
        have h5 := (s05.trans (s67.trans u8)).free _ n9
        refine q l9 _ _ (List.replicate ((m : Int) - 1).toNat (xs.getD 0 0) ++ [xs.getD (m - 1) 0]) (s05.trans s9) h5 upd_same ?_ ?_ ?_
        · rw [rep_flat] at *
          exact (amL_rep (same_tup s9 qb0) _).app (.cons (amD_dp (same_tup s9 qbl)) .nil)
        · rw [List.length_append, List.length_replicate]
          show _ + 1 = _
          omega
        · intro x hx'
          rcases List.mem_append.mp hx' with h | h
          · rw [(List.mem_replicate.mp h).2]
            exact hx _ (getD_mem (by omega))
          · rw [List.mem_singleton.mp h]
            exact hx _ (getD_mem (by omega))

/-- a list of lists of amounts, to be read -/
inductive RowsS (K : PySem.W.Frag) (H : Hp) : List V → List (List Rat) → Prop
  | nil : RowsS K H [] []
  | cons {p : Addr} {us : List V} {xs : List Rat} {vs : List V} {rs : List (List Rat)} (h : SqL K H p us) (hu : AmL K H us xs) (t : RowsS K H vs rs) : RowsS K H (.ref p :: vs) (xs :: rs)
theorem Rows.toS {K : PySem.W.Frag} {H : Hp} {vs : List V} {rs : List (List Rat)} (h : Rows K H vs rs) : RowsS K H vs rs := by
  induction h with
  | nil => exact .nil
  | cons h hu _ ih => exact .cons (SqL.of h) hu ih
theorem RowsS.len {K : PySem.W.Frag} {H : Hp} {vs : List V} {rs : List (List Rat)} (h : RowsS K H vs rs) : vs.length = rs.length := by
  induction h with
  | nil => rfl
  | cons _ _ _ ih => exact congrArg (· + 1) ih
theorem RowsS.keep {T : Tb} {K : PySem.W.Frag} {H H' : Hp} {vs : List V} {rs : List (List Rat)} (h : RowsS K H vs rs) (s : Sm T H H') : RowsS K H' vs rs := by
  induction h with
  | nil => exact .nil
  | cons h hu _ ih => exact .cons (s.seq h) (hu.keep s) ih
theorem RowsS.push {K : PySem.W.Frag} {H : Hp} {vs : List V} {rs : List (List Rat)} (h : RowsS K H vs rs) {p : Addr} {us : List V} {xs : List Rat} (hp : SqL K H p us) (hu : AmL K H us xs) : RowsS K H (vs ++ [.ref p]) (rs ++ [xs]) := by
  induction h with
  | nil => exact .cons hp hu .nil
  | cons h' hu' _ ih => exact .cons h' hu' ih
theorem RowsS.at {K : PySem.W.Frag} {H : Hp} {vs : List V} {rs : List (List Rat)} (h : RowsS K H vs rs) : ∀ {i : Nat} (hi : i < rs.length), ∃ p us, vs[i]? = some (.ref p) ∧ SqL K H p us ∧ AmL K H us rs[i] := by
  induction h with
  | nil => intro i hi; simp at hi
  | @cons p us xs vs rs h hu t ih =>
    intro i hi
    cases i with
    | zero => exact ⟨p, us, rfl, h, hu⟩
    | succ i => exact ih (i := i) (by simpa using hi)
theorem RowsS.dpa {K : PySem.W.Frag} {H : Hp} {vs : List V} {rs : List (List Rat)} (h : RowsS K H vs rs) : DpAll K H vs (rs.map fun xs => PyData.list ((xs.map am).map amD)) := by
  induction h with
  | nil => exact .nil
  | cons h hu _ ih => exact .cons (hu.dp h) ih
theorem sqL_ne {K : PySem.W.Frag} {H : Hp} {p a : Addr} {xs : List V} {o : HO} (h : SqL K H p xs) (n : p ≠ a) : SqL K (upd H a o) p xs := by
  rcases h with (h | ⟨u, h⟩) | h
  · exact .inl (.inl (by rw [upd_ne n]; exact h))
  · exact .inl (.inr ⟨u, by rw [upd_ne n]; exact h⟩)
  · exact .inr h
theorem RowsS.mut {K : PySem.W.Frag} {H : Hp} {vs : List V} {rs : List (List Rat)} (h : RowsS K H vs rs) {a : Addr} {xs : List V} {o : HO} (ha : H a = some (.lst xs)) (hn : ∀ v ∈ vs, v ≠ .ref a) : RowsS K (upd H a o) vs rs := by
  induction h with
  | nil => exact .nil
  | cons h hu _ ih =>
    refine .cons (sqL_ne h (fun z => hn _ List.mem_cons_self (by rw [z]))) (hu.mut ha) (ih fun v hv => hn v (List.mem_cons_of_mem _ hv))
theorem depOk_aml {n : Nat} {rs : List Rat} (h : rs.length ≤ 9000) : depOk (n + 2) (.list ((rs.map am).map amD)) = true := depOk_amsN (by rw [List.length_map]; exact h)
theorem depOk_rows {n : Nat} {rs : List (List Rat)} (h : rs.length ≤ 9000) (h2 : ∀ r ∈ rs, r.length ≤ 9000) : depOk (n + 3) (.list (rs.map fun xs => PyData.list ((xs.map am).map amD))) = true := by
  show (decide ((rs.map fun xs => PyData.list ((xs.map am).map amD)).length ≤ 9000) && (rs.map fun xs => PyData.list ((xs.map am).map amD)).all (depOk (n + 2))) = true
  rw [List.length_map, decide_eq_true h, Bool.true_and, List.all_map]
  exact List.all_eq_true.mpr fun r hr => depOk_aml (h2 r hr)

theorem sum_lin (a b : Rat) (f g : Nat → Rat) : ∀ n, ((List.range n).map fun k => a * f k + b * g k).sum = a * ((List.range n).map f).sum + b * ((List.range n).map g).sum
  | 0 => by show (0 : Rat) = a * 0 + b * 0; grind
  | n + 1 => by
    rw [take_range, take_range, take_range, List.sum_append, List.sum_append, List.sum_append, sum_lin a b f g n]
    show _ + (_ + (0 : Rat)) = a * (_ + (_ + 0)) + b * (_ + (_ + 0))
    grind
theorem sum_unit (j : Nat) : ∀ n, ((List.range n).map fun k => if j = k then (1 : Rat) else 0).sum = if j < n then 1 else 0
  | 0 => by simp
  | n + 1 => by
    rw [take_range, List.sum_append, sum_unit j n]
    show _ + (_ + (0 : Rat)) = _
    by_cases h : j = n
    · rw [if_pos h, if_neg (by omega), if_pos (by omega)]
      decide +kernel
    · rw [if_neg h]
      by_cases h2 : j < n
      · rw [if_pos h2, if_pos (by omega)]
        decide +kernel
      · rw [if_neg h2, if_neg (by omega)]
        decide +kernel
theorem unit_get {n k j : Nat} (h : j < n) : (unit n k).getD j 0 = if j = k then 1 else 0 := by
  unfold unit
  rw [List.getD_eq_getElem?_getD, List.getElem?_map, List.getElem?_range h]
  rfl
theorem row_sum {ns : List Int} (w : Ris ns) : ∀ (r : Nat) {j : Nat}, j < ns.length → ((List.range ns.length).map fun k => (colM ns r k).getD j 0).sum = 1
  | 0, j, hj => by
    have e : (fun k => (colM ns 0 k).getD j 0) = fun k => if j = k then (1 : Rat) else 0 := funext fun k => unit_get hj
    rw [e, sum_unit, if_pos hj]
  | r + 1, j, hj => by
    have n1 := w.n1
    have e : (fun k => (colM ns (r + 1) k).getD j 0) = fun k => boR ns (colM ns r k) j := funext fun k => bo_get hj
    rw [e]
    unfold boR
    by_cases c : j = 0
    · simp only [if_pos c]
      exact row_sum w r (by omega)
    · simp only [if_neg c]
      rw [sum_lin, row_sum w r (show j - 1 < ns.length by omega), row_sum w r (show ns.length - 1 < ns.length by omega)]
      grind
theorem tab0 (ns : List Int) : tabM ns 0 = (List.range ns.length).map (unit ns.length) := by
  unfold tabM
  refine List.map_congr_left fun j hj => ?_
  unfold unit
  refine List.map_congr_left fun k hk => ?_
  rw [List.mem_range] at hj hk
  rw [show (colM ns 0 k).getD j 0 = if j = k then 1 else 0 from unit_get hj]
  by_cases c : j = k
  · rw [if_pos c, if_pos c.symm]
  · rw [if_neg c, if_neg (fun z => c z.symm)]
def rowM (ns : List Int) (r j : Nat) : List Rat := (List.range ns.length).map fun k => (colM ns r k).getD j 0
theorem tabM_get {ns : List Int} {r j : Nat} (h : j < (tabM ns r).length) : (tabM ns r)[j] = rowM ns r j := by
  unfold tabM at h ⊢
  rw [List.getElem_map, List.getElem_range]
  rfl
theorem tabM_len (ns : List Int) (r : Nat) : (tabM ns r).length = ns.length := by unfold tabM; rw [List.length_map, List.length_range]
theorem rowM_len (ns : List Int) (r j : Nat) : (rowM ns r j).length = ns.length := by unfold rowM; rw [List.length_map, List.length_range]
theorem rowM_ok {ns : List Int} (w : Ris ns) (r j : Nat) (hj : j < ns.length) : ∀ x ∈ rowM ns r j, Fr (1 * 27720 ^ r) x ∧ 0 ≤ x ∧ x ≤ 1 := fun x hx => by
  unfold rowM at hx
  obtain ⟨k, hk, rfl⟩ := List.mem_map.mp hx
  exact colM_ok w r k _ (getD_mem (by rw [colM_len]; exact hj))
theorem tab_len9 (ns : List Int) (r : Nat) (h : ns.length ≤ 8) : (tabM ns r).length ≤ 9000 ∧ ∀ x ∈ tabM ns r, x.length ≤ 9000 := by
  refine ⟨by rw [tabM_len]; omega, fun x hx => ?_⟩
  unfold tabM at hx
  obtain ⟨k, hk, rfl⟩ := List.mem_map.mp hx
  rw [List.length_map, List.length_range]
  omega
theorem tb_none {ns : List Int} (w : Ris ns) {r : Int} (h0 : 0 ≤ r) (h1 : r ≤ 24) : tbW ns r = none := by
  unfold tbW
  rw [pW_ris.mpr w]
  refine if_pos ?_
  unfold rdB
  rw [decide_eq_true h0, decide_eq_true h1]
  rfl
theorem no_word {A : Prop} {o : Option Str} {wd : Str} (h : o = none) (h2 : o = some wd) : A := by rw [h] at h2; cases h2
theorem Rows.drop {K : PySem.W.Frag} {H : Hp} {vs : List V} {rs : List (List Rat)} (h : Rows K H vs rs) : ∀ i, Rows K H (vs.drop i) (rs.drop i) := by
  induction h with
  | nil => intro i; rw [List.drop_nil, List.drop_nil]; exact .nil
  | cons h hu t ih =>
    intro i
    cases i with
    | zero => exact .cons h hu t
    | succ i => exact ih i
theorem num_nn {r : Rat} (h : 0 ≤ r) : ¬ (am r).1 < 0 := by
  have : 0 ≤ (am r).1 := Rat.num_nonneg.mpr h
  omega

/-! ### the end of a law whose program raises, with tables of code objects -/
theorem walk_tabs {l : PySem.W.OpenLaw} {n k : Nat} {q : Program} {loose : List Str} {XP : (Str → Option Value) → Heap → Prop} {YP : World → Heap → Prop} {d : DefRec} {K : Params → PySem.W.Frag} {CX : World → CXT} {x : Str}
    (hn : l.most = some n) (hn2 : n ≤ sizeLine) (hdf : d.params.defaults = []) (hr : Room k callerA) (hY : ∀ (w : World) (h : Heap), YP w h → (K w.params).In h)
    (F : ∀ (w : World) (mg : Str → Option Value) (fa : Addr) (h : Heap), YP w h → (K w.params).In h → h.Ns mainGlobals mg → mg d.name = some (.ref fa) →
      (∀ (y : Str) (c P : Addr), ((recsOf q).any fun e => e.name == y) = true → PySem.W.tabIn (K w.params) y = some (c, P) → PySem.W.CodeHd h c P ∧ h.get? P = some { cls := .none, data := .fields #[] }) → LamX.LawAtS l w (K w.params) (CX w) k n x mg fa h)
    (hCX : ∀ (w : World) (H : Hp) (s : Shared) (e : Value) (s' : Shared), CX w [] H s (fun _ _ _ => False) e s' → False) :
    PySem.W.WalkO q loose XP YP l.row.toRowW d [] (fun f vs => PySem.call f vs) := by
  refine Att.attach_callB hn hdf fun w s₀ s₁ mg mb fa o pm cd doc a vs ns G Y ho hd hcd hmg hobj hints hlen hbits hg => ?_
  have KX := hY w _ Y
  have tabs : ∀ (y : Str) (c P : Addr), ((recsOf q).any fun e => e.name == y) = true → PySem.W.tabIn (K w.params) y = some (c, P) → PySem.W.CodeHd s₁.heap c P ∧ s₁.heap.get? P = some { cls := .none, data := .fields #[] } := fun y c P ha ht => by
    cases hf : (recsOf q).find? (fun e => e.name == y) with
    | none =>
      obtain ⟨e, he, hy⟩ := List.any_eq_true.mp ha
      exact absurd hy (List.find?_eq_none.mp hf e he)
    | some e => exact PySem.W.tab_of G.T KX hf ht
  obtain ⟨fd, cs, sp, hT, nT, C, hb, hsp, hF⟩ := F w mg fa _ Y KX G.T.g hmg tabs
  exact LamX.law_callTs KX G.T.g G.T.b G.T.builtins G.T.nolimit hg hT nT C G.T.bmain hobj hints (Nat.le_trans hlen hn2) hr hF hb (fun H hH hS => hsp H a ns hlen hbits hH hS) fun H e s' => hCX w H s₁ e s'
theorem tab_in {K : PySem.W.Frag} {y : Str} {f c P : Addr} {o : Obj} {fd : FuncData} {e : Value} {dd : Option Addr} {vs : Array Value} {sl : Array (Option Value)} (h1 : PySem.W.nsIn K mainGlobals y = some (some (.ref f))) (h2 : K.lookup f = some o) (h3 : o.data = .func fd) (h4 : fd.code = .ref c)
    (h5 : K.lookup c = some ⟨e, dd, .fields vs, sl⟩) (h6 : vs[11]? = some (.ref P)) : PySem.W.tabIn K y = some (c, P) := by
  obtain ⟨o1, o2, o3, o4⟩ := o
  obtain rfl : o3 = .func fd := h3
  unfold PySem.W.tabIn
  simp only [h1, h2, h4, h5, h6]
theorem okG0 {H : Hp} {P : Addr} (h : H P = some (.tbl #[])) : OkP H (P, none) := ⟨#[], h, by first | trivial | constructor⟩
theorem okS0 {H : Hp} {P : Addr} {q : Str} (h : H P = some (.tbl #[])) : OkP H (P, some q) := ⟨#[], h, by first | trivial | constructor, fun pos cv e => by cases e⟩
theorem tup_const {K : PySem.W.Frag} {a : Addr} {od : Option Addr} {xs : List V} {its : Array Value} {n : Nat} {sl : Array (Option Value)} (h : K.lookup a = some ⟨.type "tuple", od, .seq its n, sl⟩) (hs : its.size ≤ sizeLine) (hv : Vals xs its.toList) : ∀ H, SqT K H a xs := fun _ => .inr ⟨_, its, n, h, rfl, rfl, hs, hv⟩
theorem gx_lam {base : Heap} {mg : Str → Option Value} {c P : Addr} (h : LamX.TabB base mg c P) : GxR.TabB base mg c P := ⟨h.code, h.bm, h.gP⟩

/-! ### how shares draw together -/
def cmnF (xs ys : List Rat) : Nat → Rat
  | 0 => 0
  | k + 1 => cmnF xs ys k + mnR (xs.getD k 0) (ys.getD k 0)
def cpR (ns : List Int) (r i j : Nat) : Rat := cmnF (rowM ns r i) (rowM ns r j) ns.length
def nrIn (ns : List Int) (r i : Nat) (acc : Rat) : Nat → Rat
  | 0 => acc
  | j + 1 => mnR (nrIn ns r i acc j) (cpR ns r i j)
def nrOut (ns : List Int) (r : Nat) : Nat → Rat
  | 0 => 1
  | i + 1 => nrIn ns r i (nrOut ns r i) ns.length
def narM (ns : List Int) (r : Nat) : Rat := 1 - nrOut ns r ns.length
def lwOut (ns : List Int) (r : Nat) : Nat → Rat
  | 0 => 1
  | i + 1 => nrIn ns r i (lwOut ns r i) i
theorem le_mnR {x a b : Rat} : x ≤ mnR a b ↔ x ≤ a ∧ x ≤ b := by
  unfold mnR
  split <;> constructor <;> (intro h; grind)
theorem mnR_comm (a b : Rat) : mnR a b = mnR b a := by unfold mnR; split <;> split <;> grind
theorem mnR_self (a : Rat) : mnR a a = a := by unfold mnR; split <;> rfl
theorem le_nrIn {ns : List Int} {r i : Nat} {acc x : Rat} : ∀ {n : Nat}, x ≤ nrIn ns r i acc n ↔ x ≤ acc ∧ ∀ j, j < n → x ≤ cpR ns r i j
  | 0 => ⟨fun h => ⟨h, fun j hj => by omega⟩, fun h => h.1⟩
  | n + 1 => by
    simp only [nrIn]
    rw [le_mnR, le_nrIn]
    constructor
    · rintro ⟨⟨h1, h2⟩, h3⟩
      refine ⟨h1, fun j hj => ?_⟩
      by_cases c : j = n
      · subst c; exact h3
      · exact h2 j (by omega)
    · rintro ⟨h1, h2⟩
      exact ⟨⟨h1, fun j hj => h2 j (by omega)⟩, h2 n (by omega)⟩
theorem le_nrOut {ns : List Int} {r : Nat} {x : Rat} : ∀ {n : Nat}, x ≤ nrOut ns r n ↔ x ≤ 1 ∧ ∀ i, i < n → ∀ j, j < ns.length → x ≤ cpR ns r i j
  | 0 => ⟨fun h => ⟨h, fun j hj => by omega⟩, fun h => h.1⟩
  | n + 1 => by
    simp only [nrOut]
    rw [le_nrIn, le_nrOut]
    constructor
    · rintro ⟨⟨h1, h2⟩, h3⟩
      refine ⟨h1, fun i hi => ?_⟩
      by_cases c : i = n
      · subst c; exact h3
      · exact h2 i (by omega)
    · rintro ⟨h1, h2⟩
      exact ⟨⟨h1, fun i hi => h2 i (by omega)⟩, h2 n (by omega)⟩
theorem le_lwOut {ns : List Int} {r : Nat} {x : Rat} : ∀ {n : Nat}, x ≤ lwOut ns r n ↔ x ≤ 1 ∧ ∀ i, i < n → ∀ j, j < i → x ≤ cpR ns r i j
  | 0 => ⟨fun h => ⟨h, fun j hj => by omega⟩, fun h => h.1⟩
  | n + 1 => by
    simp only [lwOut]
    rw [le_nrIn, le_lwOut]
    constructor
    · rintro ⟨⟨h1, h2⟩, h3⟩
      refine ⟨h1, fun i hi => ?_⟩
      by_cases c : i = n
      · subst c; exact h3
      · exact h2 i (by omega)
    · rintro ⟨h1, h2⟩
      exact ⟨⟨h1, fun i hi => h2 i (by omega)⟩, h2 n (by omega)⟩
theorem cmnF_comm (xs ys : List Rat) : ∀ n, cmnF xs ys n = cmnF ys xs n
  | 0 => rfl
  | n + 1 => by simp only [cmnF]; rw [cmnF_comm xs ys n, mnR_comm]
theorem cmnF_self (xs : List Rat) : ∀ n, n ≤ xs.length → cmnF xs xs n = (xs.take n).sum
  | 0, _ => by rw [List.take_zero]; rfl
  | n + 1, h => by
    simp only [cmnF]
    rw [cmnF_self xs n (by omega), mnR_self, List.take_add_one, List.getElem?_eq_getElem (show n < xs.length by omega), List.sum_append, getD_lt (show n < xs.length by omega)]
    show _ = _ + (xs[n] + 0)
    grind
theorem cpR_self {ns : List Int} (w : Ris ns) (r : Nat) {i : Nat} (hi : i < ns.length) : cpR ns r i i = 1 := by
  unfold cpR
  rw [cmnF_self _ _ (by rw [rowM_len]; exact Nat.le_refl _), List.take_of_length_le (by rw [rowM_len]; exact Nat.le_refl _)]
  exact row_sum w r hi
theorem nr_lw {ns : List Int} (w : Ris ns) (r : Nat) : nrOut ns r ns.length = lwOut ns r ns.length := by
  have h1 := (le_nrOut (ns := ns) (r := r) (x := nrOut ns r ns.length) (n := ns.length)).mp (by grind)
  have h2 := (le_lwOut (ns := ns) (r := r) (x := lwOut ns r ns.length) (n := ns.length)).mp (by grind)
  have a : nrOut ns r ns.length ≤ lwOut ns r ns.length := le_lwOut.mpr ⟨h1.1, fun i hi j hj => h1.2 i hi j (by omega)⟩
  have b : lwOut ns r ns.length ≤ nrOut ns r ns.length := le_nrOut.mpr ⟨h2.1, fun i hi j hj => by
    rcases (by omega : j < i ∨ j = i ∨ i < j) with c | c | c
    · exact h2.2 i hi j c
    · subst c
      rw [cpR_self w r hi]
      exact h2.1
    · have := h2.2 j hj i c
      unfold cpR at this ⊢
      rw [cmnF_comm]
      exact this⟩
  grind
theorem cmnF_ok {D : Int} (hD : D ≠ 0) {xs ys : List Rat} (hx : ∀ x ∈ xs, Fr D x ∧ 0 ≤ x ∧ x ≤ 1) (hy : ∀ y ∈ ys, Fr D y ∧ 0 ≤ y ∧ y ≤ 1) : ∀ n, n ≤ xs.length → n ≤ ys.length → Fr D (cmnF xs ys n) ∧ 0 ≤ cmnF xs ys n ∧ cmnF xs ys n ≤ (n : Rat)
  | 0, _, _ => ⟨Fr.zero hD, by show (0 : Rat) ≤ 0; decide, by show (0 : Rat) ≤ ((0 : Nat) : Rat); decide +kernel⟩
  | n + 1, h1, h2 => by
    have ih := cmnF_ok hD hx hy n (by omega) (by omega)
    have a := hx _ (getD_mem (d := (0 : Rat)) (show n < xs.length by omega))
    have b := hy _ (getD_mem (d := (0 : Rat)) (show n < ys.length by omega))
    have fm : Fr D (mnR (xs.getD n 0) (ys.getD n 0)) ∧ 0 ≤ mnR (xs.getD n 0) (ys.getD n 0) ∧ mnR (xs.getD n 0) (ys.getD n 0) ≤ 1 := by
      rcases mnR_or (xs.getD n 0) (ys.getD n 0) with e | e
      · rw [e]; exact a
      · rw [e]; exact b
    simp only [cmnF]
    refine ⟨ih.1.add fm.1, by grind, ?_⟩
    rw [show ((n + 1 : Nat) : Rat) = (n : Rat) + 1 by exact_mod_cast rfl]
    grind
theorem cpR_ok {ns : List Int} (w : Ris ns) (r : Nat) {i j : Nat} (hi : i < ns.length) (hj : j < ns.length) : Fr (1 * 27720 ^ r) (cpR ns r i j) ∧ 0 ≤ cpR ns r i j ∧ cpR ns r i j ≤ (ns.length : Rat) :=
  cmnF_ok (by have := pw_ne (show (0 : Int) < 1 by decide) r; omega) (rowM_ok w r i hi) (rowM_ok w r j hj) ns.length (by rw [rowM_len]; exact Nat.le_refl _) (by rw [rowM_len]; exact Nat.le_refl _)
theorem nrIn_ok {ns : List Int} (w : Ris ns) (r : Nat) {i : Nat} (hi : i < ns.length) {acc : Rat} (ha : Fr (1 * 27720 ^ r) acc ∧ 0 ≤ acc ∧ acc ≤ 1) : ∀ n, n ≤ ns.length → Fr (1 * 27720 ^ r) (nrIn ns r i acc n) ∧ 0 ≤ nrIn ns r i acc n ∧ nrIn ns r i acc n ≤ 1
  | 0, _ => ha
  | n + 1, h => by
    have ih := nrIn_ok w r hi ha n (by omega)
    have c := cpR_ok w r hi (show n < ns.length by omega)
    simp only [nrIn]
    have l := mnR_le_l (nrIn ns r i acc n) (cpR ns r i n)
    rcases mnR_or (nrIn ns r i acc n) (cpR ns r i n) with e | e
    · rw [e]; exact ih
    · rw [e] at l ⊢
      exact ⟨c.1, c.2.1, Rat.le_trans l ih.2.2⟩
theorem nrOut_ok {ns : List Int} (w : Ris ns) (r : Nat) : ∀ n, n ≤ ns.length → Fr (1 * 27720 ^ r) (nrOut ns r n) ∧ 0 ≤ nrOut ns r n ∧ nrOut ns r n ≤ 1
  | 0, _ => ⟨Fr.int (by have := pw_ne (show (0 : Int) < 1 by decide) r; omega) 1, by show (0 : Rat) ≤ 1; decide, by show (1 : Rat) ≤ 1; decide⟩
  | n + 1, h => nrIn_ok w r (by omega) (nrOut_ok w r n (by omega)) ns.length (Nat.le_refl _)
theorem lwOut_ok {ns : List Int} (w : Ris ns) (r : Nat) : ∀ n, n ≤ ns.length → Fr (1 * 27720 ^ r) (lwOut ns r n) ∧ 0 ≤ lwOut ns r n ∧ lwOut ns r n ≤ 1
  | 0, _ => ⟨Fr.int (by have := pw_ne (show (0 : Int) < 1 by decide) r; omega) 1, by show (0 : Rat) ≤ 1; decide, by show (1 : Rat) ≤ 1; decide⟩
  | n + 1, h => nrIn_ok w r (by omega) (lwOut_ok w r n (by omega)) n (by omega)
theorem row0 {ns : List Int} {j : Nat} (hj : j < ns.length) : rowM ns 0 j = unit ns.length j := by
  have h : (tabM ns 0)[j]'(by rw [tabM_len]; exact hj) = rowM ns 0 j := tabM_get (by rw [tabM_len]; exact hj)
  rw [← h]
  simp only [tab0, List.getElem_map, List.getElem_range]
theorem nar0 {ns : List Int} (w : Ris ns) : narM ns 0 = (((if decide (1 < ns.length) = true then 1 else 0 : Int) : Int) : Rat) := by
  have n1 := w.n1
  have ok := nrOut_ok w 0 ns.length (Nat.le_refl _)
  have h1 := (le_nrOut (ns := ns) (r := 0) (x := nrOut ns 0 ns.length) (n := ns.length)).mp (by grind)
  unfold narM
  by_cases c : 1 < ns.length
  · rw [if_pos (decide_eq_true c)]
    have z : cpR ns 0 0 1 = 0 := by
      unfold cpR
      rw [row0 (by omega), row0 c]
      have : ∀ n, n ≤ ns.length → cmnF (unit ns.length 0) (unit ns.length 1) n = 0 := by
        intro n
        induction n with
        | zero => intro _; rfl
        | succ n ih =>
          intro hn
          simp only [cmnF]
          rw [ih (by omega), unit_get (by omega), unit_get (by omega)]
          unfold mnR
          by_cases a : n = 0
          · subst a
            decide +kernel
          · rw [if_neg a]
            by_cases b : n = 1
            · rw [if_pos b]; decide +kernel
            · rw [if_neg b]; decide +kernel
      exact this _ (Nat.le_refl _)
    have := h1.2 0 (by omega) 1 c
    rw [z] at this
    have e : nrOut ns 0 ns.length = 0 := by grind
    rw [e]
    decide +kernel
  · rw [if_neg (fun z => c (of_decide_eq_true z))]
    have e : (1 : Rat) ≤ nrOut ns 0 ns.length := le_nrOut.mpr ⟨by decide, fun i hi j hj => by
      have : i = 0 ∧ j = 0 := by omega
      rw [this.1, this.2, cpR_self w 0 (by omega)]
      decide⟩
    have : nrOut ns 0 ns.length = 1 := by grind
    rw [this]
    decide +kernel

def sp_p_common_part (K : PySem.W.Frag) (T : Tb) : Sp := fun vs H Q _ => ∃ (D : Int) (a b : Addr) (us vs' : List V) (xs ys : List Rat), vs = [.ref a, .ref b] ∧ SqL K H a us ∧ SqL K H b vs' ∧ AmL K H us xs ∧ AmL K H vs' ys ∧ xs.length = ys.length ∧ xs.length ≤ 100 ∧ (0 < D ∧ D.natAbs < 2 ^ 3900) ∧ (∀ x ∈ xs, Fr D x ∧ 0 ≤ x ∧ x ≤ 1) ∧ (∀ y ∈ ys, Fr D y ∧ 0 ≤ y ∧ y ≤ 1) ∧
  ∀ p H', Sm T H H' → SqT K H' p (tv (am (cmnF xs ys xs.length))) → Q (.ref p) H'
theorem ok_p_common_part {f : Addr} {fd : FuncData} {a_NOUGHT : Addr} (F : Fun K "common_part" "common_part" s_p_common_part f fd) (B : Bn mg) (g_NOUGHT : mg "NOUGHT" = some (.ref a_NOUGHT)) (s_NOUGHT : ∀ H, SqT K H a_NOUGHT [.int 0, .int 1]) (F_p_plus : Fn P w K mg base 3 "plus" ["one", "other"] (sp_p_plus K T)) (F_p_lesser : Fn P w K mg base 2 "lesser" ["one", "other"] (sp_p_lesser K T)) : FnOk P w K mg base CX0 4 f fd ["one", "other"] (sp_p_common_part K T) := by
  refine F.ok sc_p_common_part (fun vs H Q E h => ?_) (fun cdv A outer s H vs Q E hr h => ?_)
  · obtain ⟨D, a, b, us, vs', xs, ys, rfl, _⟩ := h
    rfl
  · obtain ⟨D, a, b, us, vs', xs, ys, rfl, ha, hb, hu, hv, hl, hl2, hD, hx, hy, q⟩ := h
    refine ⟨_, (pss_cons (ps_set (i := 2) sc_p_common_part.nd rfl (.inl rfl) (pe_glob (v := .ref a_NOUGHT) (by rfl) g_NOUGHT rfl))
      (pss_cons (ps_for PassesOwn.never rfl (pi_zip (by rfl) B.zip_ (pa_cons (pv 0) (pa_cons (pv 1) pa_nil))) (pg_tup rfl (pgs_cons (pg_name (i := 3) sc_p_common_part.nd rfl (.inl rfl)) (pgs_cons (pg_name (i := 4) sc_p_common_part.nd rfl (.inl rfl)) pgs_nil)))
      (pss_one (ps_set (i := 2) sc_p_common_part.nd rfl (.inl rfl) (pe_fn F_p_plus (hr.mono (by decide)) (pa_cons (pv 2) (pa_cons (pe_fn F_p_lesser (hr.mono (by decide)) (pa_cons (pv 3) (pa_cons (pv 4) pa_nil))) pa_nil))))))
      (pss_one (ps_ret (pv 2))))), ?_⟩
    have lu := hu.len
    have lv := hv.len
    refine ⟨_, rfl, _, rfl, a, b, us, vs', rfl, ha, hb, for_it (walk_zip (n := xs.length) (by rw [lu, lv, ← hl]; omega)) (fun i σ H3 => Sm T H H3 ∧ ∃ p x3 x4, σ = [some (.ref a), some (.ref b), some (.ref p), x3, x4] ∧ SqT K H3 p (tv (am (cmnF xs ys i)))) ⟨Sm.refl, a_NOUGHT, _, _, rfl, ?_⟩ (fun i σ H3 _ ⟨s3, _⟩ => ⟨s3.seq ha, s3.seq hb⟩) ?_ ?_⟩
    · show SqT K H a_NOUGHT (tv (am 0))
      rw [am_zero]
      exact s_NOUGHT H
    · rintro i x σ H2 H3 hi ⟨s2, p, x3, x4, rfl, hp⟩ ⟨tp, y1, y2, rfl, ntp, rfl, f1, f2⟩
      obtain ⟨b1, g1, q1⟩ := hu.at hi
      obtain ⟨b2, g2, q2⟩ := hv.at (i := i) (by omega)
      simp only [g1] at f1
      simp only [g2] at f2
      cases f1
      cases f2
      have ut := same_upd (T := T) (o := .tup [V.ref b1, V.ref b2]) ntp
      have s3 := s2.trans ut
      have ok := cmnF_ok (show D ≠ 0 by omega) hx hy i (by omega) (by omega)
      have mx := hx _ (getD_mem (d := (0 : Rat)) hi)
      have my := hy _ (getD_mem (d := (0 : Rat)) (show i < ys.length by omega))
      have i100 : (i : Rat) ≤ 100 := by exact_mod_cast (by omega : i ≤ 100)
      have bx := bdL hD.1 hD.2 mx.1 mx.2.1 (Rat.le_trans mx.2.2 (by decide))
      have by' := bdL hD.1 hD.2 my.1 my.2.1 (Rat.le_trans my.2.2 (by decide))
      have bm : Bd 4000 (am (mnR (xs.getD i 0) (ys.getD i 0))) := by
        rcases mnR_or (xs.getD i 0) (ys.getD i 0) with e | e
        · rw [e]; exact bx
        · rw [e]; exact by'
      refine ⟨tp, _, rfl, SqT.of upd_same, rfl, _, _, rfl, _, _, rfl, rfl, ?_⟩
      refine ⟨_, rfl, _, rfl, _, rfl, b1, b2, _, _, rfl, same_tup s3 q1, same_tup s3 q2, ⟨bx, by'⟩, ?_⟩
      refine ⟨p, _, _, _, rfl, same_tup ut hp, lesser_sq (same_tup s3 q1) (same_tup s3 q2), ⟨bdL hD.1 hD.2 ok.1 ok.2.1 (Rat.le_trans (Rat.le_trans ok.2.2 i100) (by decide)), bm⟩, ⟨am_pos _, am_pos _⟩, fun p4 H4 s4 n4 e4 => ?_⟩
      rw [plus_am] at e4
      exact ⟨s3.trans s4, p4, _, _, rfl, SqT.of e4⟩
    · rintro σ H3 ⟨s3, p, x3, x4, rfl, hp⟩
      exact ⟨_, rfl, q p H3 s3 hp⟩
def sp_p_narrowing (K : PySem.W.Frag) (T : Tb) (CP : Addr) : Sp := fun vs H Q E => ∃ (a : Addr) (ns : List Int) (r : Int), vs = [.ref a, .int r] ∧ SqL K H a (ns.map V.int) ∧ ns.length ≤ 1000 ∧
  (tbW ns r = none → ∀ p H', Sm T H H' → SqT K H' p (tv (am (narM ns r.toNat))) → Q (.ref p) H') ∧ (∀ wd, tbW ns r = some wd → ∀ cls d H', Sm T H H' → Rf K CP wd cls d H' → E cls d H')
theorem tb_ok {ns : List Int} {r : Int} (h : tbW ns r = none) : Ris ns ∧ 0 ≤ r ∧ r ≤ 24 := by
  unfold tbW at h
  cases hp : pW ns with
  | some wd => rw [hp] at h; cases h
  | none =>
    rw [hp] at h
    by_cases c : rdB r = true
    · refine ⟨pW_ris.mp hp, ?_⟩
      unfold rdB at c
      simp only [Bool.and_eq_true, decide_eq_true_eq] at c
      exact c
    · simp only [if_neg c] at h
      cases h
theorem ok_p_narrowing {f : Addr} {fd : FuncData} {a_ONE : Addr} (F : Fun K "narrowing" "narrowing" s_p_narrowing f fd) (g_ONE : mg "ONE" = some (.ref a_ONE)) (s_ONE : ∀ H, SqT K H a_ONE [.int 1, .int 1]) {CP : Addr} (F_p_minus : Fn P w K mg base 3 "minus" ["one", "other"] (sp_p_minus K T)) (F_p_lesser : Fn P w K mg base 2 "lesser" ["one", "other"] (sp_p_lesser K T)) (F_p_table : Fx P w K mg base 7 "table" ["paces", "rounds"] (sp_p_table K T CP)) (F_p_common_part : Fn P w K mg base 4 "common_part" ["one", "other"] (sp_p_common_part K T)) : FnOk P w K mg base (L2.CX P w) 8 f fd ["paces", "rounds"] (sp_p_narrowing K T CP) := by
  refine F.okX sc_p_narrowing (fun vs H Q E h => ?_) (fun cdv A outer s H vs Q E hr h => ?_)
  · obtain ⟨a, ns, r, rfl, _⟩ := h
    rfl
  · obtain ⟨a, ns, r, rfl, ha, hl, k1, k2⟩ := h
    refine ⟨_, (pss_cons (ps_set (i := 2) sc_p_narrowing.nd rfl (.inl rfl) (pe_fx F_p_table (hr.mono (by decide)) (takes_of rfl rfl rfl rfl) (pa_cons (pv 0) (pa_cons (pv 1) pa_nil))))
      (pss_cons (ps_set (i := 3) sc_p_narrowing.nd rfl (.inl rfl) (pe_glob (v := .ref a_ONE) (by rfl) g_ONE rfl))
      (pss_cons (ps_for (passes_of rfl) rfl (pi_list (pv 2)) (pg_name (i := 4) sc_p_narrowing.nd rfl (.inl rfl))
      (pss_one (ps_for (passes_of rfl) rfl (pi_list (pv 2)) (pg_name (i := 5) sc_p_narrowing.nd rfl (.inl rfl))
      (pss_one (ps_set (i := 3) sc_p_narrowing.nd rfl (.inl rfl) (pe_fn F_p_lesser (hr.mono (by decide)) (pa_cons (pv 3) (pa_cons (pe_fn F_p_common_part (hr.mono (by decide)) (pa_cons (pv 4) (pa_cons (pv 5) pa_nil))) pa_nil))))))))
      (pss_one (ps_ret (pe_fn F_p_minus (hr.mono (by decide)) (pa_cons (pe_glob (v := .ref a_ONE) (by rfl) g_ONE rfl) (pa_cons (pv 3) pa_nil)))))))), ?_⟩
    refine ⟨_, rfl, _, rfl, a, ns, r, rfl, ha, hl, fun ht pt H1 ut s1 npt ept hrow _ _ => ?_, k2⟩
    obtain ⟨w, r0, r24⟩ := tb_ok ht
    have n8 := w.n8
    have k1 := k1 ht
    have lut : ut.length = ns.length := by rw [hrow.len, tabM_len]
    have hD : (0 : Int) < 1 * 27720 ^ r.toNat ∧ ((1 : Int) * 27720 ^ r.toNat).natAbs < 2 ^ 3900 := ⟨pw_ne (by decide) _, pw_bd one1000 (by omega)⟩
    have n9 : (ns.length : Rat) ≤ 100 := by exact_mod_cast (by omega : ns.length ≤ 100)
    refine ⟨_, rfl, pt, rfl, ⟨_, SqL.of ept⟩, for_list (K := K) (a := pt) (xs := ut) (fun i σ H3 => Sm T H1 H3 ∧ ∃ p x4 x5, σ = [some (.ref a), some (.int r), some (.ref pt), some (.ref p), x4, x5] ∧ SqT K H3 p (tv (am (nrOut ns r.toNat i)))) ⟨Sm.refl, a_ONE, _, _, rfl, ?_⟩ (fun i σ H3 _ ⟨s3, _⟩ => SqL.of (s3.k ept)) ?_ ?_⟩
    · show SqT K H1 a_ONE (tv (am 1))
      rw [am_one]
      exact s_ONE H1
    · rintro i v σ H3 hi ⟨s3, p, x4, x5, rfl, hp⟩
      have hil : i < ns.length := by rw [← lut]; exact (List.getElem?_eq_some_iff.mp hi).1
      obtain ⟨pi, ui, gi, ei, hui⟩ := hrow.at (i := i) (by rw [tabM_len]; exact hil)
      rw [hi] at gi
      cases gi
      rw [tabM_get (by rw [tabM_len]; exact hil)] at hui
      refine ⟨_, rfl, pt, rfl, ⟨_, SqL.of (s3.k ept)⟩, for_list (K := K) (a := pt) (xs := ut) (fun j σ H4 => Sm T H3 H4 ∧ ∃ p x5, σ = [some (.ref a), some (.int r), some (.ref pt), some (.ref p), some (.ref pi), x5] ∧ SqT K H4 p (tv (am (nrIn ns r.toNat i (nrOut ns r.toNat i) j)))) ⟨Sm.refl, p, _, rfl, hp⟩ (fun i σ H4 _ ⟨s4, _⟩ => SqL.of ((s3.trans s4).k ept)) ?_ ?_⟩
      · rintro j v σ H4 hj ⟨s4, p, x5, rfl, hp⟩
        have hjl : j < ns.length := by rw [← lut]; exact (List.getElem?_eq_some_iff.mp hj).1
        obtain ⟨pj, uj, gj, ej, huj⟩ := hrow.at (i := j) (by rw [tabM_len]; exact hjl)
        rw [hj] at gj
        cases gj
        rw [tabM_get (by rw [tabM_len]; exact hjl)] at huj
        have s14 := s3.trans s4
        refine ⟨_, rfl, _, rfl, _, rfl, 1 * 27720 ^ r.toNat, pi, pj, ui, uj, rowM ns r.toNat i, rowM ns r.toNat j, rfl, SqL.of (s14.k ei), SqL.of (s14.k ej), hui.keep s14, huj.keep s14, by rw [rowM_len, rowM_len], by rw [rowM_len]; omega, hD, rowM_ok w _ i hil, rowM_ok w _ j hjl, fun pc H5 s5 hpc => ?_⟩
        rw [rowM_len] at hpc
        have ok := nrIn_ok w r.toNat hil (nrOut_ok w r.toNat i (by omega)) j (by omega)
        have ck := cpR_ok w r.toNat hil hjl
        refine ⟨p, pc, _, _, rfl, same_tup s5 hp, hpc, ⟨bdL hD.1 hD.2 ok.1 ok.2.1 (Rat.le_trans ok.2.2 (by decide)), bdL hD.1 hD.2 ck.1 ck.2.1 (Rat.le_trans (Rat.le_trans ck.2.2 n9) (by decide))⟩, ?_⟩
        exact ⟨s4.trans s5, _, _, rfl, lesser_sq (same_tup s5 hp) hpc⟩
      · rintro σ H4 ⟨s4, p, x5, rfl, hp⟩
        rw [lut] at hp
        exact ⟨s3.trans s4, p, _, _, rfl, hp⟩
    · rintro σ H3 ⟨s3, p, x4, x5, rfl, hp⟩
      rw [lut] at hp
      have ok := nrOut_ok w r.toNat ns.length (Nat.le_refl _)
      refine ⟨_, rfl, a_ONE, p, (1, 1), _, rfl, s_ONE H3, hp, ⟨bd_int (small (by decide)), bdL hD.1 hD.2 ok.1 ok.2.1 (Rat.le_trans ok.2.2 (by decide))⟩, ⟨by show (0 : Int) < 1; decide, am_pos _⟩, fun p5 H5 s5 n5 e5 => ?_⟩
      rw [← am_one, minus_am] at e5
      exact k1 p5 H5 (s1.trans (s3.trans s5)) (SqT.of e5)

/-- the least of a list -/
def lstF (x : Rat) : List Rat → Rat
  | [] => x
  | y :: r => lstF (mnR x y) r
def sp_l_least (K : PySem.W.Frag) (T : Tb) : Sp := fun vs H Q _ => ∃ (D : Int) (a : Addr) (us : List V) (x : Rat) (xs : List Rat), vs = [.ref a] ∧ SqL K H a us ∧ AmL K H us (x :: xs) ∧ (0 < D ∧ D.natAbs < 2 ^ 3900) ∧ (∀ y ∈ x :: xs, Fr D y ∧ 0 ≤ y ∧ y ≤ 50000) ∧
  ∀ p, SqT K H p (tv (am (lstF x xs))) → Q (.ref p) H
theorem lstF_mem : ∀ (x : Rat) (xs : List Rat), lstF x xs = x ∨ lstF x xs ∈ xs
  | x, [] => .inl rfl
  | x, y :: r => by
    simp only [lstF]
    rcases lstF_mem (mnR x y) r with e | e
    · rw [e]
      rcases mnR_or x y with c | c
      · exact .inl c
      · rw [c]; exact .inr List.mem_cons_self
    · exact .inr (List.mem_cons_of_mem _ e)
theorem ok_l_least {f : Addr} {fd : FuncData} (F : Fun K "_law_least" "_law_least" s_l_least f fd) (F_l_less : Fn P w K mg base 1 "_law_less" ["_law_one", "_law_other"] (sp_l_less K T)) : FnOk P w K mg base CX0 2 f fd ["_law_amounts"] (sp_l_least K T) := by
  refine F.ok sc_l_least (fun vs H Q E h => ?_) (fun cdv A outer s H vs Q E hr h => ?_)
  · obtain ⟨D, a, us, x, xs, rfl, _⟩ := h
    rfl
  · obtain ⟨D, a, us, x, xs, rfl, ha, hu, hD, hx, q⟩ := h
    refine ⟨_, (pss_cons (ps_set (i := 1) sc_l_least.nd rfl (.inl rfl) (pe_ix ix_list (pv 0) pe_int (fun _ _ => rfl)))
      (pss_cons (ps_for PassesOwn.never rfl (pi_list (pv 0)) (pg_name (i := 2) sc_l_least.nd rfl (.inl rfl))
      (pss_one (ps_set (i := 1) sc_l_least.nd rfl (.inl rfl) (pe_ifExp (pt_val (pe_fn F_l_less (hr.mono (by decide)) (pa_cons (pv 2) (pa_cons (pv 1) pa_nil)))) (pv 2) (pv 1)))))
      (pss_one (ps_ret (pv 1))))), ?_⟩
    have lu := hu.len
    obtain ⟨b0, g0, q0⟩ := hu.at (i := 0) (by show 0 < xs.length + 1; omega)
    have q0 : SqT K H b0 (tv (am x)) := q0
    refine ⟨_, rfl, a, _, 0, .ref b0, rfl, rfl, ha, atI_nat (j := 0) g0, ?_⟩
    refine ⟨_, rfl, a, rfl, ⟨_, ha⟩, for_list (K := K) (a := a) (xs := us) (fun i σ H3 => H3 = H ∧ ∃ p x2 z, σ = [some (.ref a), some (.ref p), x2] ∧ SqT K H p (tv (am z)) ∧ (z = x ∨ z ∈ x :: xs) ∧ lstF z ((x :: xs).drop i) = lstF x xs) ⟨rfl, b0, _, x, rfl, q0, .inl rfl, ?_⟩ (fun i σ H3 _ ⟨e, _⟩ => by rw [e]; exact ha) ?_ ?_⟩
    · show lstF (mnR x x) xs = lstF x xs
      rw [show mnR x x = x by unfold mnR; split <;> rfl]
    · rintro i v σ H3 hi ⟨rfl, p, x2, z, rfl, hp, hz, hl⟩
      have hil : i < (x :: xs).length := by rw [← lu]; exact (List.getElem?_eq_some_iff.mp hi).1
      obtain ⟨b, gb, qb⟩ := hu.at hil
      rw [hi] at gb
      cases gb
      rw [List.drop_eq_getElem_cons hil] at hl
      simp only [lstF] at hl
      have my := hx _ (getD_mem (d := (0 : Rat)) hil)
      have mz : Fr D z ∧ 0 ≤ z ∧ z ≤ 50000 := by
        rcases hz with e | e
        · rw [e]; exact hx x List.mem_cons_self
        · exact hx z e
      have eg : (x :: xs).getD i 0 = (x :: xs)[i] := getD_lt hil
      rw [eg] at qb my
      refine ⟨_, rfl, _, rfl, b, p, _, _, rfl, qb, hp, ⟨bdL hD.1 hD.2 my.1 my.2.1 (Rat.le_trans my.2.2 (by decide +kernel)), bdL hD.1 hD.2 mz.1 mz.2.1 (Rat.le_trans mz.2.2 (by decide +kernel))⟩, _, rfl, ?_⟩
      rw [below_am]
      unfold mnR at hl
      by_cases c : (x :: xs)[i] < z
      · rw [if_pos c] at hl
        rw [decide_eq_true c]
        exact iteT ⟨_, rfl, rfl, b, _, _, rfl, qb, .inr (List.getElem_mem hil), hl⟩
      · rw [if_neg c] at hl
        rw [decide_eq_false c]
        exact iteF ⟨_, rfl, rfl, p, _, _, rfl, hp, hz, hl⟩
    · rintro σ H3 ⟨rfl, p, x2, z, rfl, hp, hz, hl⟩
      rw [lu, List.drop_length] at hl
      have hl : z = lstF x xs := hl
      rw [hl] at hp
      exact ⟨_, rfl, q p hp⟩

/-! ### the spread -/
def mxR (a b : Rat) : Rat := if a < b then b else a
def grF (x : Rat) : List Rat → Rat
  | [] => x
  | y :: r => grF (mxR x y) r
def sprL (xs : List Rat) : Rat := match xs with
  | [] => 0
  | x :: r => grF x r - lstF x r
theorem grF_ge : ∀ (x : Rat) (xs : List Rat), x ≤ grF x xs ∧ ∀ y ∈ xs, y ≤ grF x xs
  | x, [] => ⟨by simp only [grF]; grind, fun _ h => nomatch h⟩
  | x, y :: r => by
    have ih := grF_ge (mxR x y) r
    have a : x ≤ mxR x y ∧ y ≤ mxR x y := by unfold mxR; split <;> constructor <;> grind
    simp only [grF]
    refine ⟨by grind, fun z hz => ?_⟩
    rcases List.mem_cons.mp hz with e | e
    · rw [e]; grind
    · exact ih.2 z e
theorem lstF_le : ∀ (x : Rat) (xs : List Rat), lstF x xs ≤ x ∧ ∀ y ∈ xs, lstF x xs ≤ y
  | x, [] => ⟨by simp only [lstF]; grind, fun _ h => nomatch h⟩
  | x, y :: r => by
    have ih := lstF_le (mnR x y) r
    have a := mnR_le_l x y
    have b := mnR_le_r x y
    simp only [lstF]
    refine ⟨by grind, fun z hz => ?_⟩
    rcases List.mem_cons.mp hz with e | e
    · rw [e]; grind
    · exact ih.2 z e
theorem grF_mem : ∀ (x : Rat) (xs : List Rat), grF x xs ∈ x :: xs
  | x, [] => List.mem_cons_self
  | x, y :: r => by
    simp only [grF]
    rcases List.mem_cons.mp (grF_mem (mxR x y) r) with e | e
    · rw [e]
      unfold mxR
      split
      · exact List.mem_cons_of_mem _ List.mem_cons_self
      · exact List.mem_cons_self
    · exact List.mem_cons_of_mem _ (List.mem_cons_of_mem _ e)
theorem lstF_mem' (x : Rat) (xs : List Rat) : lstF x xs ∈ x :: xs := by
  rcases lstF_mem x xs with e | e
  · rw [e]; exact List.mem_cons_self
  · exact List.mem_cons_of_mem _ e
/-- the spread is told by its greatest and its least -/
theorem spr_spec {xs : List Rat} (h : xs ≠ []) : ∃ M m, M ∈ xs ∧ m ∈ xs ∧ sprL xs = M - m ∧ ∀ y ∈ xs, m ≤ y ∧ y ≤ M := by
  cases xs with
  | nil => exact absurd rfl h
  | cons x r =>
    refine ⟨grF x r, lstF x r, grF_mem x r, lstF_mem' x r, rfl, fun y hy => ?_⟩
    rcases List.mem_cons.mp hy with e | e
    · rw [e]; exact ⟨(lstF_le x r).1, (grF_ge x r).1⟩
    · exact ⟨(lstF_le x r).2 y e, (grF_ge x r).2 y e⟩
def S (n : Nat) (f : Nat → Rat) : Rat := ((List.range n).map f).sum
theorem S_succ (n : Nat) (f : Nat → Rat) : S (n + 1) f = S n f + f n := by
  unfold S
  rw [take_range, List.sum_append]
  show _ + (f n + 0) = _
  grind
theorem S_le {f g : Nat → Rat} : ∀ {n : Nat}, (∀ k, k < n → f k ≤ g k) → S n f ≤ S n g
  | 0, _ => by show (0 : Rat) ≤ 0; decide
  | n + 1, h => by
    have ih := S_le (n := n) fun k hk => h k (by omega)
    have a := h n (by omega)
    rw [S_succ, S_succ]
    grind
theorem S_mul (c : Rat) (f : Nat → Rat) : ∀ n, S n (fun k => f k * c) = S n f * c
  | 0 => by show (0 : Rat) = 0 * c; grind
  | n + 1 => by rw [S_succ, S_succ, S_mul c f n]; grind
theorem S_sub (f g : Nat → Rat) : ∀ n, S n (fun k => f k - g k) = S n f - S n g
  | 0 => by show (0 : Rat) = 0 - 0; grind
  | n + 1 => by rw [S_succ, S_succ, S_succ, S_sub f g n]; grind
theorem S_lin (a b : Rat) (f g : Nat → Rat) (n : Nat) : S n (fun k => a * f k + b * g k) = a * S n f + b * S n g := sum_lin a b f g n
theorem S_congr {f g : Nat → Rat} : ∀ {n : Nat}, (∀ k, k < n → f k = g k) → S n f = S n g
  | 0, _ => rfl
  | n + 1, h => by rw [S_succ, S_succ, S_congr fun k hk => h k (by omega), h n (by omega)]
theorem S_cmn (xs ys : List Rat) : ∀ n, cmnF xs ys n = S n fun k => mnR (xs.getD k 0) (ys.getD k 0)
  | 0 => rfl
  | n + 1 => by rw [S_succ, ← S_cmn xs ys n]; rfl
theorem S_pick (j : Nat) (f : Nat → Rat) : ∀ n, S n (fun k => (if j = k then 1 else 0) * f k) = if j < n then f j else 0
  | 0 => by simp [S]
  | n + 1 => by
    rw [S_succ, S_pick j f n]
    by_cases h : j = n
    · subst h
      rw [if_pos rfl, if_neg (by omega), if_pos (by omega)]
      grind
    · rw [if_neg h]
      by_cases h2 : j < n
      · rw [if_pos h2, if_pos (by omega)]; grind
      · rw [if_neg h2, if_neg (by omega)]; grind
/-- the entry of the table -/
def ent (ns : List Int) (r j k : Nat) : Rat := (colM ns r k).getD j 0
theorem rowM_get {ns : List Int} {r j k : Nat} (hk : k < ns.length) : (rowM ns r j).getD k 0 = ent ns r j k := by
  unfold rowM
  rw [List.getD_eq_getElem?_getD, List.getElem?_map, List.getElem?_range hk]
  rfl
theorem ent_succ {ns : List Int} {r j : Nat} (hj : j < ns.length) (k : Nat) : ent ns (r + 1) j k = if j = 0 then ent ns r (ns.length - 1) k else prt ns j * ent ns r (j - 1) k + (1 - prt ns j) * ent ns r (ns.length - 1) k := by
  unfold ent
  exact bo_get hj
theorem rnd_lin {ns : List Int} (w : Ris ns) {xs : List Rat} (hl : xs.length = ns.length) : ∀ (r : Nat) {j : Nat}, j < ns.length → (rnd ns xs r).getD j 0 = S ns.length fun k => ent ns r j k * xs.getD k 0
  | 0, j, hj => by
    have e : (S ns.length fun k => ent ns 0 j k * xs.getD k 0) = S ns.length fun k => (if j = k then 1 else 0) * xs.getD k 0 := S_congr fun k _ => by
      rw [show ent ns 0 j k = if j = k then 1 else 0 from unit_get hj]
    rw [e, S_pick, if_pos hj]
    rfl
  | r + 1, j, hj => by
    have n1 := w.n1
    have e0 : (rnd ns xs (r + 1)).getD j 0 = boR ns (rnd ns xs r) j := bo_get hj
    rw [e0]
    unfold boR
    by_cases c : j = 0
    · rw [if_pos c, rnd_lin w hl r (by omega)]
      exact S_congr fun k _ => by rw [ent_succ hj, if_pos c]
    · rw [if_neg c, rnd_lin w hl r (show j - 1 < ns.length by omega), rnd_lin w hl r (show ns.length - 1 < ns.length by omega), ← S_lin]
      exact S_congr fun k _ => by rw [ent_succ hj, if_neg c]; grind
theorem ent_sum {ns : List Int} (w : Ris ns) (r : Nat) {j : Nat} (hj : j < ns.length) : S ns.length (fun k => ent ns r j k) = 1 := row_sum w r hj
theorem cpR_S {ns : List Int} {r i j : Nat} : cpR ns r i j = S ns.length fun k => mnR (ent ns r i k) (ent ns r j k) := by
  unfold cpR
  rw [S_cmn]
  exact S_congr fun k hk => by rw [rowM_get hk, rowM_get hk]
theorem contract {ns : List Int} (w : Ris ns) (r : Nat) {xs : List Rat} (hl : xs.length = ns.length) {M m : Rat} (hx : ∀ y ∈ xs, m ≤ y ∧ y ≤ M) {i j : Nat} (hi : i < ns.length) (hj : j < ns.length) :
    (rnd ns xs r).getD i 0 - (rnd ns xs r).getD j 0 ≤ (1 - cpR ns r i j) * (M - m) := by
  rw [rnd_lin w hl r hi, rnd_lin w hl r hj, cpR_S]
  have hk : ∀ k, k < ns.length → m ≤ xs.getD k 0 ∧ xs.getD k 0 ≤ M := fun k hk => hx _ (getD_mem (by omega))
  have a : S ns.length (fun k => (ent ns r i k - mnR (ent ns r i k) (ent ns r j k)) * xs.getD k 0) ≤ S ns.length (fun k => (ent ns r i k - mnR (ent ns r i k) (ent ns r j k)) * M) := S_le fun k h => Rat.mul_le_mul_of_nonneg_left (hk k h).2 (sub_nn' (mnR_le_l _ _))
  have b : S ns.length (fun k => (ent ns r j k - mnR (ent ns r i k) (ent ns r j k)) * m) ≤ S ns.length (fun k => (ent ns r j k - mnR (ent ns r i k) (ent ns r j k)) * xs.getD k 0) := S_le fun k h => Rat.mul_le_mul_of_nonneg_left (hk k h).1 (sub_nn' (mnR_le_r _ _))
  rw [S_mul, S_sub, ent_sum w r hi] at a
  rw [S_mul, S_sub, ent_sum w r hj] at b
  have c : S ns.length (fun k => ent ns r i k * xs.getD k 0) - S ns.length (fun k => ent ns r j k * xs.getD k 0) = S ns.length (fun k => (ent ns r i k - mnR (ent ns r i k) (ent ns r j k)) * xs.getD k 0) - S ns.length (fun k => (ent ns r j k - mnR (ent ns r i k) (ent ns r j k)) * xs.getD k 0) := by
    rw [← S_sub, ← S_sub]
    exact S_congr fun k _ => by grind
  rw [c]
  grind
theorem spr_narrow {ns : List Int} (w : Ris ns) (r : Nat) {xs : List Rat} (hl : xs.length = ns.length) : 0 ≤ sprL xs ∧ sprL (rnd ns xs r) ≤ sprL xs * narM ns r ∧ sprL (rnd ns xs r) ≤ sprL xs := by
  have n1 := w.n1
  have ne : xs ≠ [] := fun z => by rw [z] at hl; simp at hl; omega
  have lr := rnd_len hl r
  have ne2 : rnd ns xs r ≠ [] := fun z => by rw [z] at lr; simp at lr; omega
  obtain ⟨M, m, hM, hm, e, hx⟩ := spr_spec ne
  obtain ⟨M2, m2, hM2, hm2, e2, _⟩ := spr_spec ne2
  obtain ⟨i, hi, ei⟩ := List.getElem_of_mem hM2
  obtain ⟨j, hj, ej⟩ := List.getElem_of_mem hm2
  have c := contract w r hl hx (i := i) (j := j) (by omega) (by omega)
  rw [getD_lt hi, getD_lt hj, ei, ej] at c
  have mM : m ≤ M := (hx M hM).1
  have nr := (le_nrOut (ns := ns) (r := r) (x := nrOut ns r ns.length) (n := ns.length)).mp (by grind)
  have cp1 := nr.2 i (by omega) j (by omega)
  have ok := nrOut_ok w r ns.length (Nat.le_refl _)
  have d0 : 0 ≤ M - m := sub_nn' mM
  have t1 : (1 - cpR ns r i j) * (M - m) ≤ (1 - nrOut ns r ns.length) * (M - m) := Rat.mul_le_mul_of_nonneg_right (by grind) d0
  have t2 : (1 - nrOut ns r ns.length) * (M - m) ≤ 1 * (M - m) := Rat.mul_le_mul_of_nonneg_right (by grind) d0
  rw [e, e2]
  unfold narM
  refine ⟨d0, by grind, by grind⟩
theorem mn_mix {p q u1 u2 v1 v2 : Rat} (p0 : 0 ≤ p) (p1 : p ≤ 1) (q0 : 0 ≤ q) (q1 : q ≤ 1) :
    p * (q * mnR u1 v1 + (1 - q) * mnR u1 v2) + (1 - p) * (q * mnR u2 v1 + (1 - q) * mnR u2 v2) ≤ mnR (p * u1 + (1 - p) * u2) (q * v1 + (1 - q) * v2) := by
  have mono : ∀ {c x y : Rat}, 0 ≤ c → x ≤ y → c * x ≤ c * y := fun h1 h2 => Rat.mul_le_mul_of_nonneg_left h2 h1
  have P0 : 0 ≤ 1 - p := sub_nn' p1
  have Q0 : 0 ≤ 1 - q := sub_nn' q1
  refine le_mnR.mpr ⟨?_, ?_⟩
  · have a1 := mono q0 (mnR_le_l u1 v1)
    have a2 := mono Q0 (mnR_le_l u1 v2)
    have a3 := mono q0 (mnR_le_l u2 v1)
    have a4 := mono Q0 (mnR_le_l u2 v2)
    have b1 := mono p0 (show q * mnR u1 v1 + (1 - q) * mnR u1 v2 ≤ u1 by grind)
    have b2 := mono P0 (show q * mnR u2 v1 + (1 - q) * mnR u2 v2 ≤ u2 by grind)
    grind
  · have a1 := mono q0 (mnR_le_r u1 v1)
    have a2 := mono Q0 (mnR_le_r u1 v2)
    have a3 := mono q0 (mnR_le_r u2 v1)
    have a4 := mono Q0 (mnR_le_r u2 v2)
    have b1 := mono p0 (show q * mnR u1 v1 + (1 - q) * mnR u1 v2 ≤ q * v1 + (1 - q) * v2 by grind)
    have b2 := mono P0 (show q * mnR u2 v1 + (1 - q) * mnR u2 v2 ≤ q * v1 + (1 - q) * v2 by grind)
    grind
/-- each row behind a round more is a mixture of two -/
theorem ent_mix {ns : List Int} (w : Ris ns) (r : Nat) {j : Nat} (hj : j < ns.length) : ∃ p a, 0 ≤ p ∧ p ≤ 1 ∧ a < ns.length ∧ ∀ k, ent ns (r + 1) j k = p * ent ns r a k + (1 - p) * ent ns r (ns.length - 1) k := by
  have n1 := w.n1
  by_cases c : j = 0
  · exact ⟨0, 0, by decide, by decide, by omega, fun k => by rw [ent_succ hj, if_pos c]; grind⟩
  · have o := prt_ok w hj
    exact ⟨prt ns j, j - 1, o.1, o.2.1, by omega, fun k => by rw [ent_succ hj, if_neg c]⟩
theorem nar_mono {ns : List Int} (w : Ris ns) (r : Nat) : narM ns (r + 1) ≤ narM ns r := by
  have n1 := w.n1
  have nr := (le_nrOut (ns := ns) (r := r) (x := nrOut ns r ns.length) (n := ns.length)).mp (by grind)
  have key : nrOut ns r ns.length ≤ nrOut ns (r + 1) ns.length := by
    refine le_nrOut.mpr ⟨nr.1, fun i hi j hj => ?_⟩
    obtain ⟨p, a, p0, p1, ha, ep⟩ := ent_mix w r hi
    obtain ⟨q, b, q0, q1, hb, eq⟩ := ent_mix w r hj
    rw [cpR_S]
    have h1 : S ns.length (fun k => p * (q * mnR (ent ns r a k) (ent ns r b k) + (1 - q) * mnR (ent ns r a k) (ent ns r (ns.length - 1) k)) + (1 - p) * (q * mnR (ent ns r (ns.length - 1) k) (ent ns r b k) + (1 - q) * mnR (ent ns r (ns.length - 1) k) (ent ns r (ns.length - 1) k))) ≤ S ns.length (fun k => mnR (ent ns (r + 1) i k) (ent ns (r + 1) j k)) := S_le fun k _ => by
      rw [ep, eq]
      exact mn_mix p0 p1 q0 q1
    rw [S_lin, S_lin, S_lin, ← cpR_S, ← cpR_S, ← cpR_S, ← cpR_S] at h1
    have c1 := nr.2 a ha b hb
    have c2 := nr.2 a ha (ns.length - 1) (by omega)
    have c3 := nr.2 (ns.length - 1) (by omega) b hb
    have c4 := nr.2 (ns.length - 1) (by omega) (ns.length - 1) (by omega)
    generalize nrOut ns r ns.length = x at *
    have mono : ∀ {c u v : Rat}, 0 ≤ c → u ≤ v → c * u ≤ c * v := fun g1 g2 => Rat.mul_le_mul_of_nonneg_left g2 g1
    have P0 : 0 ≤ 1 - p := sub_nn' p1
    have Q0 : 0 ≤ 1 - q := sub_nn' q1
    have d1 := mono q0 c1
    have d2 := mono Q0 c2
    have d3 := mono q0 c3
    have d4 := mono Q0 c4
    have e1 := mono p0 (show x ≤ q * cpR ns r a b + (1 - q) * cpR ns r a (ns.length - 1) by grind)
    have e2 := mono P0 (show x ≤ q * cpR ns r (ns.length - 1) b + (1 - q) * cpR ns r (ns.length - 1) (ns.length - 1) by grind)
    grind
  unfold narM
  grind

def sp_p_spread (K : PySem.W.Frag) (T : Tb) : Sp := fun vs H Q _ => ∃ (D : Int) (a : Addr) (us : List V) (xs : List Rat), vs = [.ref a] ∧ SqL K H a us ∧ AmL K H us xs ∧ xs ≠ [] ∧ (0 < D ∧ D.natAbs < 2 ^ 3900) ∧ (∀ y ∈ xs, Fr D y ∧ 0 ≤ y ∧ y ≤ 50000) ∧
  ∀ p H', Sm T H H' → SqT K H' p (tv (am (sprL xs))) → Q (.ref p) H'
theorem ok_p_spread {f : Addr} {fd : FuncData} (F : Fun K "spread" "spread" s_p_spread f fd) (F_p_minus : Fn P w K mg base 3 "minus" ["one", "other"] (sp_p_minus K T)) (F_p_below : Fn P w K mg base 1 "below" ["one", "other"] (sp_p_below K T)) (F_p_lesser : Fn P w K mg base 2 "lesser" ["one", "other"] (sp_p_lesser K T)) : FnOk P w K mg base CX0 4 f fd ["found"] (sp_p_spread K T) := by
  refine F.ok sc_p_spread (fun vs H Q E h => ?_) (fun cdv A outer s H vs Q E hr h => ?_)
  · obtain ⟨D, a, us, xs, rfl, _⟩ := h
    rfl
  · obtain ⟨D, a, us, xs0, rfl, ha, hu, hne, hD, hx, q⟩ := h
    refine ⟨_, (pss_cons (ps_asg2 (pe_ix ix_list (pv 0) pe_int (fun _ _ => rfl)) (pg_name (i := 1) sc_p_spread.nd rfl (.inl rfl)) (pg_name (i := 2) sc_p_spread.nd rfl (.inl rfl)))
      (pss_cons (ps_for PassesOwn.never rfl (pi_list (pv 0)) (pg_name (i := 3) sc_p_spread.nd rfl (.inl rfl))
      (pss_cons (ps_set (i := 1) sc_p_spread.nd rfl (.inl rfl) (pe_fn F_p_lesser (hr.mono (by decide)) (pa_cons (pv 1) (pa_cons (pv 3) pa_nil))))
      (pss_one (ps_if (pt_val (pe_fn F_p_below (hr.mono (by decide)) (pa_cons (pv 2) (pa_cons (pv 3) pa_nil)))) (pss_one (ps_set (i := 2) sc_p_spread.nd rfl (.inl rfl) (pv 3))) pss_nil))))
      (pss_one (ps_ret (pe_fn F_p_minus (hr.mono (by decide)) (pa_cons (pv 2) (pa_cons (pv 1) pa_nil))))))), ?_⟩
    obtain ⟨x, xs, rfl⟩ : ∃ x xs, xs0 = x :: xs := by
      cases xs0 with
      | nil => exact absurd rfl hne
      | cons x xs => exact ⟨x, xs, rfl⟩
    have lu := hu.len
    obtain ⟨b0, g0, q0⟩ := hu.at (i := 0) (by show 0 < xs.length + 1; omega)
    have q0 : SqT K H b0 (tv (am x)) := q0
    have bd : ∀ y ∈ x :: xs, Bd 4000 (am y) := fun y hy => bdL hD.1 hD.2 (hx y hy).1 (hx y hy).2.1 (Rat.le_trans (hx y hy).2.2 (by decide +kernel))
    refine ⟨_, rfl, a, _, 0, .ref b0, rfl, rfl, ha, atI_nat (j := 0) g0, ?_⟩
    refine ⟨_, rfl, a, rfl, ⟨_, ha⟩, for_list (K := K) (a := a) (xs := us) (fun i σ H3 => H3 = H ∧ ∃ p1 p2 x3 z1 z2, σ = [some (.ref a), some (.ref p1), some (.ref p2), x3] ∧ SqT K H p1 (tv (am z1)) ∧ SqT K H p2 (tv (am z2)) ∧ z1 ∈ x :: xs ∧ z2 ∈ x :: xs ∧ lstF z1 ((x :: xs).drop i) = lstF x xs ∧ grF z2 ((x :: xs).drop i) = grF x xs) ⟨rfl, b0, b0, _, x, x, rfl, q0, q0, List.mem_cons_self, List.mem_cons_self, ?_, ?_⟩ (fun i σ H3 _ ⟨e, _⟩ => by rw [e]; exact ha) ?_ ?_⟩
    · show lstF (mnR x x) xs = lstF x xs
      rw [mnR_self]
    · show grF (mxR x x) xs = grF x xs
      rw [show mxR x x = x by unfold mxR; split <;> rfl]
    · rintro i v σ H3 hi ⟨rfl, p1, p2, x3, z1, z2, rfl, hp1, hp2, hz1, hz2, hl, hg⟩
      have hil : i < (x :: xs).length := by rw [← lu]; exact (List.getElem?_eq_some_iff.mp hi).1
      obtain ⟨b, gb, qb⟩ := hu.at hil
      rw [hi] at gb
      cases gb
      rw [List.drop_eq_getElem_cons hil] at hl hg
      simp only [lstF] at hl
      simp only [grF] at hg
      rw [getD_lt hil] at qb
      have my := List.getElem_mem hil
      generalize (x :: xs)[i] = y at *
      have hm : mnR z1 y ∈ x :: xs := by
        rcases mnR_or z1 y with e | e
        · rw [e]; exact hz1
        · rw [e]; exact my
      refine ⟨_, rfl, _, rfl, p1, b, _, _, rfl, hp1, qb, ⟨bd _ hz1, bd _ my⟩, ?_⟩
      have hp1' := lesser_sq hp1 qb
      generalize (if belowA (am z1) (am y) = true then p1 else b) = p1' at *
      refine ⟨_, rfl, _, rfl, p2, b, _, _, rfl, hp2, qb, ⟨bd _ hz2, bd _ my⟩, _, rfl, ?_⟩
      rw [below_am]
      unfold mxR at hg
      by_cases c : z2 < y
      · rw [if_pos c] at hg
        rw [decide_eq_true c]
        exact iteT ⟨_, rfl, rfl, p1', b, _, _, _, rfl, hp1', qb, hm, my, hl, hg⟩
      · rw [if_neg c] at hg
        rw [decide_eq_false c]
        exact iteF ⟨rfl, p1', p2, _, _, _, rfl, hp1', hp2, hm, hz2, hl, hg⟩
    · rintro σ H3 ⟨rfl, p1, p2, x3, z1, z2, rfl, hp1, hp2, hz1, hz2, hl, hg⟩
      rw [lu, List.drop_length] at hl hg
      have hl : z1 = lstF x xs := hl
      have hg : z2 = grF x xs := hg
      refine ⟨_, rfl, _, rfl, p2, p1, am z2, am z1, rfl, hp2, hp1, ⟨bd _ hz2, bd _ hz1⟩, ⟨am_pos _, am_pos _⟩, fun p4 H4 s4 n4 e4 => ?_⟩
      rw [minus_am, hl, hg] at e4
      exact q p4 H4 s4 (SqT.of e4)

def sp_l_spread (K : PySem.W.Frag) (T : Tb) : Sp := fun vs H Q _ => ∃ (D : Int) (a : Addr) (us : List V) (xs : List Rat), vs = [.ref a] ∧ SqL K H a us ∧ AmL K H us xs ∧ xs ≠ [] ∧ (0 < D ∧ D.natAbs < 2 ^ 3900) ∧ (∀ y ∈ xs, Fr D y ∧ 0 ≤ y ∧ y ≤ 50000) ∧
  ∀ p H', Sm T H H' → SqT K H' p (tv (am (sprL xs))) → Q (.ref p) H'
theorem ok_l_spread {f : Addr} {fd : FuncData} (F : Fun K "_law_spread" "_law_spread" s_l_spread f fd) (F_l_sub : Fn P w K mg base 3 "_law_sub" ["_law_one", "_law_other"] (sp_l_sub K T)) (F_l_less : Fn P w K mg base 1 "_law_less" ["_law_one", "_law_other"] (sp_l_less K T)) (F_l_least : Fn P w K mg base 2 "_law_least" ["_law_amounts"] (sp_l_least K T)) : FnOk P w K mg base CX0 4 f fd ["_law_found"] (sp_l_spread K T) := by
  refine F.ok sc_l_spread (fun vs H Q E h => ?_) (fun cdv A outer s H vs Q E hr h => ?_)
  · obtain ⟨D, a, us, xs, rfl, _⟩ := h
    rfl
  · obtain ⟨D, a, us, xs0, rfl, ha, hu, hne, hD, hx, q⟩ := h
    refine ⟨_, (pss_cons (ps_set (i := 1) sc_l_spread.nd rfl (.inl rfl) (pe_ix ix_list (pv 0) pe_int (fun _ _ => rfl)))
      (pss_cons (ps_for PassesOwn.never rfl (pi_list (pv 0)) (pg_name (i := 2) sc_l_spread.nd rfl (.inl rfl))
      (pss_one (ps_set (i := 1) sc_l_spread.nd rfl (.inl rfl) (pe_ifExp (pt_val (pe_fn F_l_less (hr.mono (by decide)) (pa_cons (pv 1) (pa_cons (pv 2) pa_nil)))) (pv 2) (pv 1)))))
      (pss_one (ps_ret (pe_fn F_l_sub (hr.mono (by decide)) (pa_cons (pv 1) (pa_cons (pe_fn F_l_least (hr.mono (by decide)) (pa_cons (pv 0) pa_nil)) pa_nil))))))), ?_⟩
    obtain ⟨x, xs, rfl⟩ : ∃ x xs, xs0 = x :: xs := by
      cases xs0 with
      | nil => exact absurd rfl hne
      | cons x xs => exact ⟨x, xs, rfl⟩
    have lu := hu.len
    obtain ⟨b0, g0, q0⟩ := hu.at (i := 0) (by show 0 < xs.length + 1; omega)
    have q0 : SqT K H b0 (tv (am x)) := q0
    have bd : ∀ y ∈ x :: xs, Bd 4000 (am y) := fun y hy => bdL hD.1 hD.2 (hx y hy).1 (hx y hy).2.1 (Rat.le_trans (hx y hy).2.2 (by decide +kernel))
    refine ⟨_, rfl, a, _, 0, .ref b0, rfl, rfl, ha, atI_nat (j := 0) g0, ?_⟩
    refine ⟨_, rfl, a, rfl, ⟨_, ha⟩, for_list (K := K) (a := a) (xs := us) (fun i σ H3 => H3 = H ∧ ∃ p2 x3 z2, σ = [some (.ref a), some (.ref p2), x3] ∧ SqT K H p2 (tv (am z2)) ∧ z2 ∈ x :: xs ∧ grF z2 ((x :: xs).drop i) = grF x xs) ⟨rfl, b0, _, x, rfl, q0, List.mem_cons_self, ?_⟩ (fun i σ H3 _ ⟨e, _⟩ => by rw [e]; exact ha) ?_ ?_⟩
    · show grF (mxR x x) xs = grF x xs
      rw [show mxR x x = x by unfold mxR; split <;> rfl]
    · rintro i v σ H3 hi ⟨rfl, p2, x3, z2, rfl, hp2, hz2, hg⟩
      have hil : i < (x :: xs).length := by rw [← lu]; exact (List.getElem?_eq_some_iff.mp hi).1
      obtain ⟨b, gb, qb⟩ := hu.at hil
      rw [hi] at gb
      cases gb
      rw [List.drop_eq_getElem_cons hil] at hg
      simp only [grF] at hg
      rw [getD_lt hil] at qb
      have my := List.getElem_mem hil
      generalize (x :: xs)[i] = y at *
      refine ⟨_, rfl, _, rfl, p2, b, _, _, rfl, hp2, qb, ⟨bd _ hz2, bd _ my⟩, _, rfl, ?_⟩
      rw [below_am]
      unfold mxR at hg
      by_cases c : z2 < y
      · rw [if_pos c] at hg
        rw [decide_eq_true c]
        exact iteT ⟨_, rfl, rfl, b, _, _, rfl, qb, my, hg⟩
      · rw [if_neg c] at hg
        rw [decide_eq_false c]
        exact iteF ⟨_, rfl, rfl, p2, _, _, rfl, hp2, hz2, hg⟩
    · rintro σ H3 ⟨rfl, p2, x3, z2, rfl, hp2, hz2, hg⟩
      rw [lu, List.drop_length] at hg
      have hg : z2 = grF x xs := hg
      refine ⟨_, rfl, _, rfl, D, a, us, x, xs, rfl, ha, hu, hD, hx, fun p1 hp1 => ?_⟩
      refine ⟨p2, p1, am z2, am (lstF x xs), rfl, hp2, hp1, ⟨bd _ hz2, bd _ (lstF_mem' x xs)⟩, ⟨am_pos _, am_pos _⟩, fun p4 H4 s4 n4 e4 => ?_⟩
      rw [minus_am, hg] at e4
      exact q p4 H4 s4 (SqT.of e4)

theorem pw_small {r : Nat} (hr : r ≤ 24) : ((27720 : Int) * 27720 ^ r).natAbs < 2 ^ 1000 := by
  rw [Int.natAbs_mul, Int.natAbs_pow]
  have h1 : 27720 ^ r ≤ 27720 ^ 24 := Nat.pow_le_pow_right (by decide) hr
  have h3 : (27720 : Nat) * 27720 ^ 24 < 2 ^ 400 := by decide
  have h5 : (2 : Nat) ^ 400 < 2 ^ 1000 := Nat.pow_lt_pow_right (by decide) (by decide)
  have h6 : (27720 : Int).natAbs = 27720 := rfl
  rw [h6]
  have h2 : 27720 * 27720 ^ r ≤ 27720 * 27720 ^ 24 := Nat.mul_le_mul_left _ h1
  omega
theorem bh_none {ns : List Int} (w : Ris ns) {k : Nat} (hk : k = ns.length) {r : Int} (h0 : 0 ≤ r) (h1 : r ≤ 24) : bhW ns k r = none := by
  unfold bhW
  rw [pW_ris.mpr w]
  refine if_pos ⟨hk, ?_⟩
  unfold rdB
  rw [decide_eq_true h0, decide_eq_true h1]
  rfl
theorem spr_ok {D : Int} {xs : List Rat} (h : xs ≠ []) (hx : ∀ y ∈ xs, Fr D y ∧ 0 ≤ y ∧ y ≤ 50000) : Fr D (sprL xs) ∧ 0 ≤ sprL xs ∧ sprL xs ≤ 50000 := by
  obtain ⟨M, m, hM, hm, e, hb⟩ := spr_spec h
  rw [e]
  have a := hx M hM
  have b := hx m hm
  have c := (hb m hm).2
  exact ⟨a.1.sub b.1, sub_nn' c, sub_le' a.2.2 b.2.1⟩
def sp_LAW (K : PySem.W.Frag) (T : Tb) : Sp := fun vs H Q _ => ∃ (a : Addr) (ns : List Int), vs = [.ref a] ∧ SqL K H a (ns.map V.int) ∧ ns.length ≤ 63 ∧ (∀ z ∈ ns, Builtin.Int.intBits z ≤ 1048576) ∧ Ok T H ∧ ∀ H', Q (.bl true) H'
theorem ok_LAW {f : Addr} {fd : FuncData} (F : Fun K "law" "law" s_LAW f fd) (B : Bn mg) {CP : Addr} (F_l_cell : Fn P w K mg base 1 "_law_cell" ["_law_script", "_law_k"] (sp_l_cell K T)) (F_l_draws : Fn P w K mg base 1 "_law_draws" ["_law_cell_here", "_law_parts"] (sp_l_draws K T)) (F_l_split : Fn P w K mg base 1 "_law_split" ["_law_cell_here", "_law_many_here"] (sp_l_split K T)) (F_l_many : Fn P w K mg base 1 "_law_many" ["_law_script", "_law_few"] (sp_l_many K T)) (F_l_same : Fn P w K mg base 6 "_law_same" ["_law_found", "_law_due"] (sp_l_same K T)) (F_l_amt : Fn P w K mg base 2 "_law_amt" ["_law_num", "_law_den"] (sp_l_amt K T)) (F_l_less : Fn P w K mg base 1 "_law_less" ["_law_one", "_law_other"] (sp_l_less K T)) (F_p_behind : Fx P w K mg base 7 "behind" ["paces", "found", "rounds"] (sp_p_behind K T CP)) (F_l_rising_of : Fn P w K mg base 2 "_law_rising_of" ["_law_cell_here"] (sp_l_rising_of K T)) (F_l_shares_drawn : Fn P w K mg base 3 "_law_shares_drawn" ["_law_cell_here", "_law_many_here"] (sp_l_shares_drawn K T)) (F_p_narrowing : Fx P w K mg base 8 "narrowing" ["paces", "rounds"] (sp_p_narrowing K T CP)) (F_p_spread : Fn P w K mg base 4 "spread" ["found"] (sp_p_spread K T)) (F_l_spread : Fn P w K mg base 4 "_law_spread" ["_law_found"] (sp_l_spread K T)) : FnOk P w K mg base CX0 9 f fd ["_law_script"] (sp_LAW K T) := by
  refine F.ok sc_LAW (fun vs H Q E h => ?_) (fun cdv A outer s H vs Q E hr h => ?_)
  · obtain ⟨a, ns, rfl, _⟩ := h
    rfl
  · obtain ⟨a, script, rfl, hS, hlen, hbits, hok, q⟩ := h
    refine ⟨_, (pss_cons (ps_for PassesOwn.never rfl (pi_range1 (by rfl) B.range_ (pa_cons (pe_callB (call_min2 rfl) (by rfl) B.min_ (by decide +kernel) (pa_cons pe_int (pa_cons (pe_fn F_l_many (hr.mono (by decide)) (pa_cons (pv 0) (pa_cons pe_int pa_nil))) pa_nil))) pa_nil)) (pg_name (i := 1) sc_LAW.nd rfl (.inl rfl))
      (pss_cons (ps_asg (pe_fn F_l_split (hr.mono (by decide)) (pa_cons (pe_fn F_l_cell (hr.mono (by decide)) (pa_cons (pv 0) (pa_cons (pv 1) pa_nil))) (pa_cons pe_int pa_nil))) (pg_unl rfl (pgs_cons (pg_name (i := 2) sc_LAW.nd rfl (.inl rfl)) (pgs_cons (pg_name (i := 3) sc_LAW.nd rfl (.inl rfl)) (pgs_cons (pg_name (i := 4) sc_LAW.nd rfl (.inl rfl)) pgs_nil)))))
      (pss_cons (ps_set (i := 5) sc_LAW.nd rfl (.inl rfl) (pe_fn F_l_rising_of (hr.mono (by decide)) (pa_cons (pv 2) pa_nil)))
      (pss_cons (ps_set (i := 6) sc_LAW.nd rfl (.inl rfl) (pe_fn F_l_shares_drawn (hr.mono (by decide)) (pa_cons (pv 3) (pa_cons (pe_callB call_len_seq (by rfl) B.len_ (by decide +kernel) (pa_cons (pv 5) pa_nil)) pa_nil))))
      (pss_cons (ps_set (i := 7) sc_LAW.nd rfl (.inl rfl) (pe_ix ix_list (pe_fn F_l_draws (hr.mono (by decide)) (pa_cons (pv 4) (pa_cons (pe_lst (pa_cons pe_int pa_nil)) pa_nil))) pe_int (fun _ _ => rfl)))
      (pss_cons (ps_set (i := 8) sc_LAW.nd rfl (.inl rfl) (pe_callTy call_list_of (by rfl) B.list_ (by decide +kernel) (pa_cons (pv 6) pa_nil)))
      (pss_cons (ps_set (i := 9) sc_LAW.nd rfl (.inl rfl) (pe_fn F_p_spread (hr.mono (by decide)) (pa_cons (pv 8) pa_nil)))
      (pss_cons (ps_if (PW.pt (pw_or (pt_not (pt_val (pe_fn F_l_same (hr.mono (by decide)) (pa_cons (pv 9) (pa_cons (pe_fn F_l_spread (hr.mono (by decide)) (pa_cons (pv 6) pa_nil)) pa_nil))))) (pw_or1 (pt_not (pt_val (pe_fn F_l_same (hr.mono (by decide)) (pa_cons (pv 8) (pa_cons (pv 6) pa_nil)))))))) (pss_one (ps_ret pe_bl)) pss_nil)
      (pss_cons (ps_set (i := 10) sc_LAW.nd rfl (.inl rfl) (pe_fn F_p_spread (hr.mono (by decide)) (pa_cons (pe_fx0 F_p_behind (hr.mono (by decide)) (pa_cons (pv 5) (pa_cons (pv 6) (pa_cons (pv 7) pa_nil)))) pa_nil)))
      (pss_cons (ps_set (i := 11) sc_LAW.nd rfl (.inl rfl) (pe_fx0 F_p_narrowing (hr.mono (by decide)) (pa_cons (pv 5) (pa_cons (pv 7) pa_nil))))
      (pss_cons (ps_if (PW.pt (pw_or (pt_val (pe_fn F_l_less (hr.mono (by decide)) (pa_cons (pv 9) (pa_cons (pv 10) pa_nil)))) (pw_or (pt_val (pe_fn F_l_less (hr.mono (by decide)) (pa_cons (pe_tup (pa_cons pe_int (pa_cons pe_int pa_nil))) (pa_cons (pv 11) pa_nil)))) (pw_or1 (pt_cmpR op_lt (pe_ix ix_tup (pv 11) pe_int (fun _ _ => rfl)) pe_int (nomark _)))))) (pss_one (ps_ret pe_bl)) pss_nil)
      (pss_cons (ps_if (pt_val (pe_fn F_l_less (hr.mono (by decide)) (pa_cons (pe_fn F_l_amt (hr.mono (by decide)) (pa_cons (pe_op op_mulW (pe_ix ix_tup (pv 9) pe_int (fun _ _ => rfl)) (pe_ix ix_tup (pv 11) pe_int (fun _ _ => rfl))) (pa_cons (pe_op op_mulW (pe_ix ix_tup (pv 9) pe_int (fun _ _ => rfl)) (pe_ix ix_tup (pv 11) pe_int (fun _ _ => rfl))) pa_nil))) (pa_cons (pv 10) pa_nil)))) (pss_one (ps_ret pe_bl)) pss_nil)
      (pss_one (ps_if (pt_val (pe_fn F_l_less (hr.mono (by decide)) (pa_cons (pv 11) (pa_cons (pe_fx0 F_p_narrowing (hr.mono (by decide)) (pa_cons (pv 5) (pa_cons (pe_op op_add (pv 7) pe_int) pa_nil))) pa_nil)))) (pss_one (ps_ret pe_bl)) pss_nil))))))))))))))
      (pss_one (ps_ret pe_bl))), ?_⟩
    refine ⟨_, rfl, a, script, 3, rfl, hS, by decide, by decide, fun m hm => ⟨12, m, rfl, ?_⟩⟩
    obtain ⟨m2, hm2⟩ : ∃ m2 : Nat, (if (m : Int) < 12 then (m : Int) else 12) = (m2 : Int) := ⟨(if (m : Int) < 12 then (m : Int) else 12).toNat, by split <;> omega⟩
    rw [hm2]
    have hm3 : m2 ≤ 63 := by split at hm2 <;> omega
    refine ⟨m2, rfl, by omega, by omega, for_range (lo := 0) (n := m2) (fun i σ H3 => Sm T H H3 ∧ ∃ x1 x2 x3 x4 x5 x6 x7 x8 x9 x10 x11, σ = [some (.ref a), x1, x2, x3, x4, x5, x6, x7, x8, x9, x10, x11]) ⟨Sm.refl, _, _, _, _, _, _, _, _, _, _, _, rfl⟩ ?_ ?_⟩
    · rintro i σ H1 hi ⟨s1, x1, x2, x3, x4, x5, x6, x7, x8, x9, x10, x11, rfl⟩
      refine ⟨_, rfl, _, rfl, a, script, _, rfl, s1.seq hS, by omega, fun c0 => ⟨c0, 3, rfl, by decide, fun o H2 zs s2 no eo hl => ?_⟩⟩
      obtain ⟨z1, z2, z3, rfl⟩ : ∃ z1 z2 z3, zs = [z1, z2, z3] := match zs, hl with | [z1, z2, z3], _ => ⟨z1, z2, z3, rfl⟩
      refine ⟨o, _, rfl, SqL.of eo, rfl, _, _, rfl, _, _, rfl, _, _, rfl, rfl, ?_⟩
      refine ⟨_, rfl, z1, rfl, fun pa H3 ns s3 npa epa w => ?_⟩
      have n1 := w.n1
      have n8 := w.n8
      refine ⟨_, rfl, _, rfl, pa, _, rfl, .inl (SqL.of epa), z2, ns.length, by rw [List.length_map]; rfl, ⟨n1, n8⟩, fun pf H4 us xs s4 npf epf hu lx hx => ?_⟩
      refine ⟨_, rfl, by show 1 ≤ sizeLine; decide, fun l1 nl1 => ?_⟩
      refine ⟨z3, l1, [11], rfl, SqL.of upd_same, by decide, by decide, fun p6 H6 ds s6 np6 e6 hdr => ?_⟩
      obtain ⟨r, r1, rfl, h10, h11, hdr⟩ := hdr.cons
      obtain rfl := hdr.nil
      have s46 := (same_upd (T := T) (o := HO.lst [V.int 11]) nl1).trans s6
      refine ⟨p6, _, 0, .int r, rfl, rfl, SqL.of e6, atI_nat (j := 0) rfl, ?_⟩
      have epa6 := (s4.trans s46).k epa
      have epf6 := s46.k epf
      have hu6 := hu.keep s46
      have s06 := s1.trans (s2.trans (s3.trans (s4.trans s46)))
      have hne : xs ≠ [] := fun z => by rw [z] at lx; simp at lx; omega
      have hD : (0 : Int) < 27720 ∧ (27720 : Int).natAbs < 2 ^ 3900 := ⟨by decide, small (by decide)⟩
      refine ⟨_, rfl, pf, us, rfl, .inl (SqL.of epf6), fun h nh => ?_⟩
      have uh := same_upd (T := T) (o := HO.lst us) nh
      have eh : upd H6 h (.lst us) h = some (.lst us) := upd_same
      have epa7 := uh.k epa6
      have epf7 := uh.k epf6
      have hu7 := hu6.keep uh
      have s07 := s06.trans uh
      generalize upd H6 h (.lst us) = H7 at *
      refine ⟨_, rfl, 27720, h, us, xs, rfl, SqL.of eh, hu7, hne, hD, hx, fun p1 H8 s8 hp1 => ?_⟩
      refine ⟨_, rfl, _, rfl, 27720, pf, us, xs, rfl, SqL.of (s8.k epf7), hu7.keep s8, hne, hD, hx, fun p2 H9 s9 hp2 => ?_⟩
      refine ⟨.ref p1, .ref p2, amD (am (sprL xs)), rfl, amD_dp (same_tup s9 hp1), amD_dp hp2, rfl, fun H10 s10 => ⟨_, rfl, iteF ?_⟩⟩
      have s710 := s8.trans (s9.trans s10)
      refine ⟨_, rfl, _, rfl, .ref h, .ref pf, _, rfl, (hu7.keep s710).dp (SqL.of (s710.k eh)), (hu7.keep s710).dp (SqL.of (s710.k epf7)), depOk_aml (by omega), fun H11 s11 => ⟨_, rfl, iteF ?_⟩⟩
      have s711 := s710.trans s11
      have hp1 := same_tup (s9.trans (s10.trans s11)) hp1
      refine ⟨_, rfl, _, rfl, _, rfl, 27720, pa, pf, us, ns, xs, r, rfl, SqL.of (s711.k epa7), SqL.of (s711.k epf7), hu7.keep s711, ⟨by omega, by omega⟩, ⟨by decide, Nat.lt_trans (by decide : (27720 : Int).natAbs < 2 ^ 15) (Nat.pow_lt_pow_right (by decide) (by decide))⟩, hx, fun _ pb H12 ub s12 npb epb hub => ?_, fun wd hw => no_word (bh_none w lx h10 (by omega)) hw⟩
      have rl := rnd_len lx r.toNat
      have hne2 : rnd ns xs r.toNat ≠ [] := fun z => by rw [z] at rl; simp at rl; omega
      have rok := rnd_ok w (show (0 : Int) < 27720 by decide) lx hx r.toNat
      have hD2 : (0 : Int) < 27720 * 27720 ^ r.toNat ∧ ((27720 : Int) * 27720 ^ r.toNat).natAbs < 2 ^ 3900 := ⟨pw_ne (by decide) _, Nat.lt_trans (pw_small (by omega)) (Nat.pow_lt_pow_right (by decide) (by decide))⟩
      refine ⟨27720 * 27720 ^ r.toNat, pb, ub, rnd ns xs r.toNat, rfl, SqL.of epb, hub, hne2, hD2, rok, fun p3 H13 s13 hp3 => ?_⟩
      have s713 := s711.trans (s12.trans s13)
      refine ⟨_, rfl, _, rfl, pa, ns, r, rfl, SqL.of (s713.k epa7), by omega, fun _ p4 H14 s14 hp4 => ?_, fun wd hw => no_word (tb_none w h10 (by omega)) hw⟩
      have sN := spr_narrow w r.toNat lx
      have nok := nrOut_ok w r.toNat ns.length (Nat.le_refl _)
      have hD3 : (0 : Int) < 1 * 27720 ^ r.toNat ∧ ((1 : Int) * 27720 ^ r.toNat).natAbs < 2 ^ 3900 := ⟨pw_ne (by decide) _, pw_bd one1000 (by omega)⟩
      have nF : Fr (1 * 27720 ^ r.toNat) (narM ns r.toNat) := (Fr.int (by omega) 1).sub nok.1
      have n0 : 0 ≤ narM ns r.toNat := sub_nn' nok.2.2
      have n1' : narM ns r.toNat ≤ 1 := sub_le' (by decide) nok.2.1
      have bN := bdL hD3.1 hD3.2 nF n0 (Rat.le_trans n1' (by decide))
      have aok := spr_ok hne hx
      have bA := bdL hD.1 hD.2 aok.1 aok.2.1 (Rat.le_trans aok.2.2 (by decide +kernel))
      have lok := spr_ok hne2 rok
      have bL := bdL hD2.1 hD2.2 lok.1 lok.2.1 (Rat.le_trans lok.2.2 (by decide +kernel))
      have q1 := same_tup (s12.trans (s13.trans s14)) hp1
      have q3 := same_tup s14 hp3
      have s714 := s713.trans s14
      refine ⟨_, rfl, _, rfl, p1, p3, _, _, rfl, q1, q3, ⟨bA, bL⟩, _, rfl, ?_⟩
      rw [below_am, decide_eq_false (Rat.not_lt.mpr sN.2.2)]
      refine iteF ?_
      refine ⟨by show 2 ≤ sizeLine; decide, fun t1 nt1 => ?_⟩
      have u1 := same_upd (T := T) (o := HO.tup [V.int 1, V.int 1]) nt1
      refine ⟨_, rfl, t1, p4, (1, 1), _, rfl, SqT.of upd_same, same_tup u1 hp4, ⟨bd_int (small (by decide)), bN⟩, _, rfl, ?_⟩
      rw [← am_one, below_am, decide_eq_false (Rat.not_lt.mpr n1')]
      refine iteF ?_
      have q4 := same_tup u1 hp4
      refine ⟨_, rfl, p4, _, 0, .int (am (narM ns r.toNat)).1, rfl, rfl, q4, atI_nat (j := 0) rfl, _, _, rfl, rfl, _, rfl, ?_⟩
      rw [decide_eq_false (num_nn n0)]
      refine iteF ?_
      have q1' := same_tup u1 q1
      have em : amt ((am (sprL xs)).1 * (am (narM ns r.toNat)).1) ((am (sprL xs)).2 * (am (narM ns r.toNat)).2) = am (sprL xs * narM ns r.toNat) := times_am _ _
      have pd : 0 < (am (sprL xs)).2 * (am (narM ns r.toNat)).2 := Int.mul_pos (am_pos _) (am_pos _)
      have mF : Fr (27720 * (1 * 27720 ^ r.toNat)) (sprL xs * narM ns r.toNat) := by
        obtain ⟨y1, e1⟩ := aok.1
        obtain ⟨y2, e2⟩ := nF
        refine ⟨y1 * y2, ?_⟩
        rw [e1, e2, Rat.intCast_mul, Rat.intCast_mul]
        have := cn (a := 27720) (by decide)
        have := cn (a := 1 * 27720 ^ r.toNat) (by omega)
        grind
      have mR : 0 ≤ sprL xs * narM ns r.toNat ∧ sprL xs * narM ns r.toNat ≤ 50000 := by
        have a1 := Rat.mul_nonneg aok.2.1 n0
        have a2 := Rat.mul_le_mul_of_nonneg_left n1' aok.2.1
        have a3 := aok.2.2
        exact ⟨a1, by grind⟩
      have hD4 : (0 : Int) < 27720 * (1 * 27720 ^ r.toNat) ∧ ((27720 : Int) * (1 * 27720 ^ r.toNat)).natAbs < 2 ^ 3900 := by rw [Int.one_mul]; exact hD2
      refine ⟨_, rfl, p1, _, 0, .int (am (sprL xs)).1, rfl, rfl, q1', atI_nat (j := 0) rfl, _, rfl, p4, _, 0, .int (am (narM ns r.toNat)).1, rfl, rfl, q4, atI_nat (j := 0) rfl, _, _, rfl, rfl, wm bA.1 bN.1, ?_⟩
      refine ⟨_, rfl, p1, _, 1, .int (am (sprL xs)).2, rfl, rfl, q1', atI_nat (j := 1) rfl, _, rfl, p4, _, 1, .int (am (narM ns r.toNat)).2, rfl, rfl, q4, atI_nat (j := 1) rfl, _, _, rfl, rfl, wm bA.2 bN.2, ?_⟩
      refine ⟨_, _, rfl, pd, wl bA.2 bN.2, fun p5 H15 s15 n15 e15 => ?_⟩
      rw [em] at e15
      refine ⟨_, rfl, p5, p3, _, _, rfl, SqT.of e15, same_tup (u1.trans s15) q3, ⟨bdL hD4.1 hD4.2 mF mR.1 (Rat.le_trans mR.2 (by decide +kernel)), bL⟩, _, rfl, ?_⟩
      rw [below_am, decide_eq_false (Rat.not_lt.mpr sN.2.1)]
      refine iteF ?_
      have s715 := s714.trans (u1.trans s15)
      refine ⟨_, rfl, _, rfl, _, rfl, _, _, rfl, rfl, pa, ns, r + 1, rfl, SqL.of (s715.k epa7), by omega, fun _ p7 H16 s16 hp7 => ?_, fun wd hw => no_word (tb_none w (by omega) (by omega)) hw⟩
      rw [show (r + 1).toNat = r.toNat + 1 by omega] at hp7
      have nok2 := nrOut_ok w (r.toNat + 1) ns.length (Nat.le_refl _)
      have hD5 : (0 : Int) < 1 * 27720 ^ (r.toNat + 1) ∧ ((1 : Int) * 27720 ^ (r.toNat + 1)).natAbs < 2 ^ 3900 := ⟨pw_ne (by decide) _, pw_bd one1000 (by omega)⟩
      have bN2 := bdL hD5.1 hD5.2 ((Fr.int (by omega) 1).sub nok2.1) (sub_nn' nok2.2.2) (sub_le' (by decide) nok2.2.1)
      refine ⟨p4, p7, _, _, rfl, same_tup (s15.trans s16) q4, hp7, ⟨bN, bN2⟩, _, rfl, ?_⟩
      rw [below_am, decide_eq_false (Rat.not_lt.mpr (nar_mono w r.toNat))]
      refine iteF ?_
      exact ⟨s07.trans (s715.trans s16), _, _, _, _, _, _, _, _, _, _, _, rfl⟩
    · rintro σ H3 ⟨s3, x1, x2, x3, x4, x5, x6, x7, x8, x9, x10, x11, rfl⟩
      exact q H3

end
theorem all_mk {l : PySem.W.OpenLaw} {w : World} {K : PySem.W.Frag} {h : Heap} {mg : Str → Option Value} {fa : Addr} {q : Program} (X : K.In h) (G : h.Ns mainGlobals mg) (hfa : mg "law" = some (.ref fa))
    (tabs : ∀ (y : Str) (c P : Addr), ((recsOf q).any fun e => e.name == y) = true → PySem.W.tabIn K y = some (c, P) → PySem.W.CodeHd h c P ∧ h.get? P = some { cls := .none, data := .fields #[] })
    {f1 : Addr} {od1 an1 : Option Addr} {sl1 : Array (Option Value)} {oc1 kV1 dc1 pm1 ct1 : Value} {cd1 : Value} (a1 : PySem.W.nsIn K mainGlobals "common_divisor" = some (some (.ref f1))) (l1 : K.lookup f1 = some ⟨oc1, od1, .func (PySem.W.fnOf "common_divisor" "common_divisor" (defArgs s_p_common_divisor) (defBody s_p_common_divisor) (defScope s_p_common_divisor) .none kV1 dc1 pm1 an1 cd1 ct1), sl1⟩) (c1_ : PySem.W.codeIn K cd1 "common_divisor" = true) (k1 : PySem.W.keepIn K (.ref f1) = true)
    {f2 : Addr} {od2 an2 : Option Addr} {sl2 : Array (Option Value)} {oc2 kV2 dc2 pm2 ct2 : Value} {cd2 : Value} (a2 : PySem.W.nsIn K mainGlobals "amount" = some (some (.ref f2))) (l2 : K.lookup f2 = some ⟨oc2, od2, .func (PySem.W.fnOf "amount" "amount" (defArgs s_p_amount) (defBody s_p_amount) (defScope s_p_amount) .none kV2 dc2 pm2 an2 cd2 ct2), sl2⟩) (c2_ : PySem.W.codeIn K cd2 "amount" = true) (k2 : PySem.W.keepIn K (.ref f2) = true)
    {f3 : Addr} {od3 an3 : Option Addr} {sl3 : Array (Option Value)} {oc3 kV3 dc3 pm3 ct3 : Value} {cd3 : Value} (a3 : PySem.W.nsIn K mainGlobals "plus" = some (some (.ref f3))) (l3 : K.lookup f3 = some ⟨oc3, od3, .func (PySem.W.fnOf "plus" "plus" (defArgs s_p_plus) (defBody s_p_plus) (defScope s_p_plus) .none kV3 dc3 pm3 an3 cd3 ct3), sl3⟩) (c3_ : PySem.W.codeIn K cd3 "plus" = true) (k3 : PySem.W.keepIn K (.ref f3) = true)
    {f4 : Addr} {od4 an4 : Option Addr} {sl4 : Array (Option Value)} {oc4 kV4 dc4 pm4 ct4 : Value} {cd4 : Value} (a4 : PySem.W.nsIn K mainGlobals "minus" = some (some (.ref f4))) (l4 : K.lookup f4 = some ⟨oc4, od4, .func (PySem.W.fnOf "minus" "minus" (defArgs s_p_minus) (defBody s_p_minus) (defScope s_p_minus) .none kV4 dc4 pm4 an4 cd4 ct4), sl4⟩) (c4_ : PySem.W.codeIn K cd4 "minus" = true) (k4 : PySem.W.keepIn K (.ref f4) = true)
    {f5 : Addr} {od5 an5 : Option Addr} {sl5 : Array (Option Value)} {oc5 kV5 dc5 pm5 ct5 : Value} {cd5 : Value} (a5 : PySem.W.nsIn K mainGlobals "times" = some (some (.ref f5))) (l5 : K.lookup f5 = some ⟨oc5, od5, .func (PySem.W.fnOf "times" "times" (defArgs s_p_times) (defBody s_p_times) (defScope s_p_times) .none kV5 dc5 pm5 an5 cd5 ct5), sl5⟩) (c5_ : PySem.W.codeIn K cd5 "times" = true) (k5 : PySem.W.keepIn K (.ref f5) = true)
    {f6 : Addr} {od6 an6 : Option Addr} {sl6 : Array (Option Value)} {oc6 kV6 dc6 pm6 ct6 : Value} {cd6 : Value} (a6 : PySem.W.nsIn K mainGlobals "below" = some (some (.ref f6))) (l6 : K.lookup f6 = some ⟨oc6, od6, .func (PySem.W.fnOf "below" "below" (defArgs s_p_below) (defBody s_p_below) (defScope s_p_below) .none kV6 dc6 pm6 an6 cd6 ct6), sl6⟩) (c6_ : PySem.W.codeIn K cd6 "below" = true) (k6 : PySem.W.keepIn K (.ref f6) = true)
    {f7 : Addr} {od7 an7 : Option Addr} {sl7 : Array (Option Value)} {oc7 kV7 dc7 pm7 ct7 : Value} {cd7 : Value} (a7 : PySem.W.nsIn K mainGlobals "lesser" = some (some (.ref f7))) (l7 : K.lookup f7 = some ⟨oc7, od7, .func (PySem.W.fnOf "lesser" "lesser" (defArgs s_p_lesser) (defBody s_p_lesser) (defScope s_p_lesser) .none kV7 dc7 pm7 an7 cd7 ct7), sl7⟩) (c7_ : PySem.W.codeIn K cd7 "lesser" = true) (k7 : PySem.W.keepIn K (.ref f7) = true)
    {f8 : Addr} {od8 an8 : Option Addr} {sl8 : Array (Option Value)} {oc8 kV8 dc8 pm8 ct8 : Value} {cd8 : Value} (a8 : PySem.W.nsIn K mainGlobals "_law_cell" = some (some (.ref f8))) (l8 : K.lookup f8 = some ⟨oc8, od8, .func (PySem.W.fnOf "_law_cell" "_law_cell" (defArgs s_l_cell) (defBody s_l_cell) (defScope s_l_cell) .none kV8 dc8 pm8 an8 cd8 ct8), sl8⟩) (c8_ : PySem.W.codeIn K cd8 "_law_cell" = true) (k8 : PySem.W.keepIn K (.ref f8) = true)
    {f9 : Addr} {od9 an9 : Option Addr} {sl9 : Array (Option Value)} {oc9 kV9 dc9 pm9 ct9 : Value} {cd9 : Value} (a9 : PySem.W.nsIn K mainGlobals "_law_draws" = some (some (.ref f9))) (l9 : K.lookup f9 = some ⟨oc9, od9, .func (PySem.W.fnOf "_law_draws" "_law_draws" (defArgs s_l_draws) (defBody s_l_draws) (defScope s_l_draws) .none kV9 dc9 pm9 an9 cd9 ct9), sl9⟩) (c9_ : PySem.W.codeIn K cd9 "_law_draws" = true) (k9 : PySem.W.keepIn K (.ref f9) = true)
    {f10 : Addr} {od10 an10 : Option Addr} {sl10 : Array (Option Value)} {oc10 kV10 dc10 pm10 ct10 : Value} {cd10 : Value} (a10 : PySem.W.nsIn K mainGlobals "_law_split" = some (some (.ref f10))) (l10 : K.lookup f10 = some ⟨oc10, od10, .func (PySem.W.fnOf "_law_split" "_law_split" (defArgs s_l_split) (defBody s_l_split) (defScope s_l_split) .none kV10 dc10 pm10 an10 cd10 ct10), sl10⟩) (c10_ : PySem.W.codeIn K cd10 "_law_split" = true) (k10 : PySem.W.keepIn K (.ref f10) = true)
    {f11 : Addr} {od11 an11 : Option Addr} {sl11 : Array (Option Value)} {oc11 kV11 dc11 pm11 ct11 : Value} {cd11 : Value} (a11 : PySem.W.nsIn K mainGlobals "_law_many" = some (some (.ref f11))) (l11 : K.lookup f11 = some ⟨oc11, od11, .func (PySem.W.fnOf "_law_many" "_law_many" (defArgs s_l_many) (defBody s_l_many) (defScope s_l_many) .none kV11 dc11 pm11 an11 cd11 ct11), sl11⟩) (c11_ : PySem.W.codeIn K cd11 "_law_many" = true) (k11 : PySem.W.keepIn K (.ref f11) = true)
    {f12 : Addr} {od12 an12 : Option Addr} {sl12 : Array (Option Value)} {oc12 kV12 dc12 pm12 ct12 : Value} {cd12 : Value} (a12 : PySem.W.nsIn K mainGlobals "_law_same" = some (some (.ref f12))) (l12 : K.lookup f12 = some ⟨oc12, od12, .func (PySem.W.fnOf "_law_same" "_law_same" (defArgs s_l_same) (defBody s_l_same) (defScope s_l_same) .none kV12 dc12 pm12 an12 cd12 ct12), sl12⟩) (c12_ : PySem.W.codeIn K cd12 "_law_same" = true) (k12 : PySem.W.keepIn K (.ref f12) = true)
    {f13 : Addr} {od13 an13 : Option Addr} {sl13 : Array (Option Value)} {oc13 kV13 dc13 pm13 ct13 : Value} {cd13 : Value} (a13 : PySem.W.nsIn K mainGlobals "_law_gcd" = some (some (.ref f13))) (l13 : K.lookup f13 = some ⟨oc13, od13, .func (PySem.W.fnOf "_law_gcd" "_law_gcd" (defArgs s_l_gcd) (defBody s_l_gcd) (defScope s_l_gcd) .none kV13 dc13 pm13 an13 cd13 ct13), sl13⟩) (c13_ : PySem.W.codeIn K cd13 "_law_gcd" = true) (k13 : PySem.W.keepIn K (.ref f13) = true)
    {f14 : Addr} {od14 an14 : Option Addr} {sl14 : Array (Option Value)} {oc14 kV14 dc14 pm14 ct14 : Value} {cd14 : Value} (a14 : PySem.W.nsIn K mainGlobals "_law_amt" = some (some (.ref f14))) (l14 : K.lookup f14 = some ⟨oc14, od14, .func (PySem.W.fnOf "_law_amt" "_law_amt" (defArgs s_l_amt) (defBody s_l_amt) (defScope s_l_amt) .none kV14 dc14 pm14 an14 cd14 ct14), sl14⟩) (c14_ : PySem.W.codeIn K cd14 "_law_amt" = true) (k14 : PySem.W.keepIn K (.ref f14) = true)
    {f15 : Addr} {od15 an15 : Option Addr} {sl15 : Array (Option Value)} {oc15 kV15 dc15 pm15 ct15 : Value} {cd15 : Value} (a15 : PySem.W.nsIn K mainGlobals "_law_sub" = some (some (.ref f15))) (l15 : K.lookup f15 = some ⟨oc15, od15, .func (PySem.W.fnOf "_law_sub" "_law_sub" (defArgs s_l_sub) (defBody s_l_sub) (defScope s_l_sub) .none kV15 dc15 pm15 an15 cd15 ct15), sl15⟩) (c15_ : PySem.W.codeIn K cd15 "_law_sub" = true) (k15 : PySem.W.keepIn K (.ref f15) = true)
    {f16 : Addr} {od16 an16 : Option Addr} {sl16 : Array (Option Value)} {oc16 kV16 dc16 pm16 ct16 : Value} {cd16 : Value} (a16 : PySem.W.nsIn K mainGlobals "_law_less" = some (some (.ref f16))) (l16 : K.lookup f16 = some ⟨oc16, od16, .func (PySem.W.fnOf "_law_less" "_law_less" (defArgs s_l_less) (defBody s_l_less) (defScope s_l_less) .none kV16 dc16 pm16 an16 cd16 ct16), sl16⟩) (c16_ : PySem.W.codeIn K cd16 "_law_less" = true) (k16 : PySem.W.keepIn K (.ref f16) = true)
    {f17 : Addr} {od17 an17 : Option Addr} {sl17 : Array (Option Value)} {oc17 kV17 dc17 pm17 ct17 : Value} {cd17 : Value} (a17 : PySem.W.nsIn K mainGlobals "is_number" = some (some (.ref f17))) (l17 : K.lookup f17 = some ⟨oc17, od17, .func (PySem.W.fnOf "is_number" "is_number" (defArgs s_p_is_number) (defBody s_p_is_number) (defScope s_p_is_number) .none kV17 dc17 pm17 an17 cd17 ct17), sl17⟩) (c17_ : PySem.W.codeIn K cd17 "is_number" = true) (k17 : PySem.W.keepIn K (.ref f17) = true)
    {f18 : Addr} {od18 an18 : Option Addr} {sl18 : Array (Option Value)} {oc18 kV18 dc18 pm18 ct18 : Value} {cd18 : Value} (a18 : PySem.W.nsIn K mainGlobals "is_within" = some (some (.ref f18))) (l18 : K.lookup f18 = some ⟨oc18, od18, .func (PySem.W.fnOf "is_within" "is_within" (defArgs s_p_is_within) (defBody s_p_is_within) (defScope s_p_is_within) .none kV18 dc18 pm18 an18 cd18 ct18), sl18⟩) (c18_ : PySem.W.codeIn K cd18 "is_within" = true) (k18 : PySem.W.keepIn K (.ref f18) = true)
    {f19 : Addr} {od19 an19 : Option Addr} {sl19 : Array (Option Value)} {oc19 kV19 dc19 pm19 ct19 : Value} {cd19 : Value} (a19 : PySem.W.nsIn K mainGlobals "check_pace" = some (some (.ref f19))) (l19 : K.lookup f19 = some ⟨oc19, od19, .func (PySem.W.fnOf "check_pace" "check_pace" (defArgs s_p_check_pace) (defBody s_p_check_pace) (defScope s_p_check_pace) .none kV19 dc19 pm19 an19 cd19 ct19), sl19⟩) (c19_ : PySem.W.codeIn K cd19 "check_pace" = true) (k19 : PySem.W.keepIn K (.ref f19) = true)
    {f20 : Addr} {od20 an20 : Option Addr} {sl20 : Array (Option Value)} {oc20 kV20 dc20 pm20 ct20 : Value} {cd20 : Value} (a20 : PySem.W.nsIn K mainGlobals "check_paces" = some (some (.ref f20))) (l20 : K.lookup f20 = some ⟨oc20, od20, .func (PySem.W.fnOf "check_paces" "check_paces" (defArgs s_p_check_paces) (defBody s_p_check_paces) (defScope s_p_check_paces) .none kV20 dc20 pm20 an20 cd20 ct20), sl20⟩) (c20_ : PySem.W.codeIn K cd20 "check_paces" = true) (k20 : PySem.W.keepIn K (.ref f20) = true)
    {f21 : Addr} {od21 an21 : Option Addr} {sl21 : Array (Option Value)} {oc21 kV21 dc21 pm21 ct21 : Value} {cd21 : Value} (a21 : PySem.W.nsIn K mainGlobals "check_rising" = some (some (.ref f21))) (l21 : K.lookup f21 = some ⟨oc21, od21, .func (PySem.W.fnOf "check_rising" "check_rising" (defArgs s_p_check_rising) (defBody s_p_check_rising) (defScope s_p_check_rising) .none kV21 dc21 pm21 an21 cd21 ct21), sl21⟩) (c21_ : PySem.W.codeIn K cd21 "check_rising" = true) (k21 : PySem.W.keepIn K (.ref f21) = true)
    {f22 : Addr} {od22 an22 : Option Addr} {sl22 : Array (Option Value)} {oc22 kV22 dc22 pm22 ct22 : Value} {cd22 : Value} (a22 : PySem.W.nsIn K mainGlobals "check_rounds" = some (some (.ref f22))) (l22 : K.lookup f22 = some ⟨oc22, od22, .func (PySem.W.fnOf "check_rounds" "check_rounds" (defArgs s_p_check_rounds) (defBody s_p_check_rounds) (defScope s_p_check_rounds) .none kV22 dc22 pm22 an22 cd22 ct22), sl22⟩) (c22_ : PySem.W.codeIn K cd22 "check_rounds" = true) (k22 : PySem.W.keepIn K (.ref f22) = true)
    {f23 : Addr} {od23 an23 : Option Addr} {sl23 : Array (Option Value)} {oc23 kV23 dc23 pm23 ct23 : Value} {cd23 : Value} (a23 : PySem.W.nsIn K mainGlobals "mixed" = some (some (.ref f23))) (l23 : K.lookup f23 = some ⟨oc23, od23, .func (PySem.W.fnOf "mixed" "mixed" (defArgs s_p_mixed) (defBody s_p_mixed) (defScope s_p_mixed) .none kV23 dc23 pm23 an23 cd23 ct23), sl23⟩) (c23_ : PySem.W.codeIn K cd23 "mixed" = true) (k23 : PySem.W.keepIn K (.ref f23) = true)
    {f24 : Addr} {od24 an24 : Option Addr} {sl24 : Array (Option Value)} {oc24 kV24 dc24 pm24 ct24 : Value} {cd24 : Value} (a24 : PySem.W.nsIn K mainGlobals "behind_one" = some (some (.ref f24))) (l24 : K.lookup f24 = some ⟨oc24, od24, .func (PySem.W.fnOf "behind_one" "behind_one" (defArgs s_p_behind_one) (defBody s_p_behind_one) (defScope s_p_behind_one) .none kV24 dc24 pm24 an24 cd24 ct24), sl24⟩) (c24_ : PySem.W.codeIn K cd24 "behind_one" = true) (k24 : PySem.W.keepIn K (.ref f24) = true)
    {f25 : Addr} {od25 an25 : Option Addr} {sl25 : Array (Option Value)} {oc25 kV25 dc25 pm25 ct25 : Value} {cd25 : Value} (a25 : PySem.W.nsIn K mainGlobals "behind" = some (some (.ref f25))) (l25 : K.lookup f25 = some ⟨oc25, od25, .func (PySem.W.fnOf "behind" "behind" (defArgs s_p_behind) (defBody s_p_behind) (defScope s_p_behind) .none kV25 dc25 pm25 an25 cd25 ct25), sl25⟩) (c25_ : PySem.W.codeIn K cd25 "behind" = true) (k25 : PySem.W.keepIn K (.ref f25) = true)
    {f26 : Addr} {od26 an26 : Option Addr} {sl26 : Array (Option Value)} {oc26 kV26 dc26 pm26 ct26 : Value} {cd26 : Value} (a26 : PySem.W.nsIn K mainGlobals "column" = some (some (.ref f26))) (l26 : K.lookup f26 = some ⟨oc26, od26, .func (PySem.W.fnOf "column" "column" (defArgs s_p_column) (defBody s_p_column) (defScope s_p_column) .none kV26 dc26 pm26 an26 cd26 ct26), sl26⟩) (c26_ : PySem.W.codeIn K cd26 "column" = true) (k26 : PySem.W.keepIn K (.ref f26) = true)
    {f27 : Addr} {od27 an27 : Option Addr} {sl27 : Array (Option Value)} {oc27 kV27 dc27 pm27 ct27 : Value} {cd27 : Value} (a27 : PySem.W.nsIn K mainGlobals "table" = some (some (.ref f27))) (l27 : K.lookup f27 = some ⟨oc27, od27, .func (PySem.W.fnOf "table" "table" (defArgs s_p_table) (defBody s_p_table) (defScope s_p_table) .none kV27 dc27 pm27 an27 cd27 ct27), sl27⟩) (c27_ : PySem.W.codeIn K cd27 "table" = true) (k27 : PySem.W.keepIn K (.ref f27) = true)
    {f28 : Addr} {od28 an28 : Option Addr} {sl28 : Array (Option Value)} {oc28 kV28 dc28 pm28 ct28 : Value} {cd28 : Value} (a28 : PySem.W.nsIn K mainGlobals "_law_rising_of" = some (some (.ref f28))) (l28 : K.lookup f28 = some ⟨oc28, od28, .func (PySem.W.fnOf "_law_rising_of" "_law_rising_of" (defArgs s_l_rising_of) (defBody s_l_rising_of) (defScope s_l_rising_of) .none kV28 dc28 pm28 an28 cd28 ct28), sl28⟩) (c28_ : PySem.W.codeIn K cd28 "_law_rising_of" = true) (k28 : PySem.W.keepIn K (.ref f28) = true)
    {f29 : Addr} {od29 an29 : Option Addr} {sl29 : Array (Option Value)} {oc29 kV29 dc29 pm29 ct29 : Value} {cd29 : Value} (a29 : PySem.W.nsIn K mainGlobals "_law_shares_drawn" = some (some (.ref f29))) (l29 : K.lookup f29 = some ⟨oc29, od29, .func (PySem.W.fnOf "_law_shares_drawn" "_law_shares_drawn" (defArgs s_l_shares_drawn) (defBody s_l_shares_drawn) (defScope s_l_shares_drawn) .none kV29 dc29 pm29 an29 cd29 ct29), sl29⟩) (c29_ : PySem.W.codeIn K cd29 "_law_shares_drawn" = true) (k29 : PySem.W.keepIn K (.ref f29) = true)
    {f30 : Addr} {od30 an30 : Option Addr} {sl30 : Array (Option Value)} {oc30 kV30 dc30 pm30 ct30 : Value} {cd30 : Value} (a30 : PySem.W.nsIn K mainGlobals "common_part" = some (some (.ref f30))) (l30 : K.lookup f30 = some ⟨oc30, od30, .func (PySem.W.fnOf "common_part" "common_part" (defArgs s_p_common_part) (defBody s_p_common_part) (defScope s_p_common_part) .none kV30 dc30 pm30 an30 cd30 ct30), sl30⟩) (c30_ : PySem.W.codeIn K cd30 "common_part" = true) (k30 : PySem.W.keepIn K (.ref f30) = true)
    {f31 : Addr} {od31 an31 : Option Addr} {sl31 : Array (Option Value)} {oc31 kV31 dc31 pm31 ct31 : Value} {cd31 : Value} (a31 : PySem.W.nsIn K mainGlobals "narrowing" = some (some (.ref f31))) (l31 : K.lookup f31 = some ⟨oc31, od31, .func (PySem.W.fnOf "narrowing" "narrowing" (defArgs s_p_narrowing) (defBody s_p_narrowing) (defScope s_p_narrowing) .none kV31 dc31 pm31 an31 cd31 ct31), sl31⟩) (c31_ : PySem.W.codeIn K cd31 "narrowing" = true) (k31 : PySem.W.keepIn K (.ref f31) = true)
    {f32 : Addr} {od32 an32 : Option Addr} {sl32 : Array (Option Value)} {oc32 kV32 dc32 pm32 ct32 : Value} {cd32 : Value} (a32 : PySem.W.nsIn K mainGlobals "_law_least" = some (some (.ref f32))) (l32 : K.lookup f32 = some ⟨oc32, od32, .func (PySem.W.fnOf "_law_least" "_law_least" (defArgs s_l_least) (defBody s_l_least) (defScope s_l_least) .none kV32 dc32 pm32 an32 cd32 ct32), sl32⟩) (c32_ : PySem.W.codeIn K cd32 "_law_least" = true) (k32 : PySem.W.keepIn K (.ref f32) = true)
    {f33 : Addr} {od33 an33 : Option Addr} {sl33 : Array (Option Value)} {oc33 kV33 dc33 pm33 ct33 : Value} {cd33 : Value} (a33 : PySem.W.nsIn K mainGlobals "spread" = some (some (.ref f33))) (l33 : K.lookup f33 = some ⟨oc33, od33, .func (PySem.W.fnOf "spread" "spread" (defArgs s_p_spread) (defBody s_p_spread) (defScope s_p_spread) .none kV33 dc33 pm33 an33 cd33 ct33), sl33⟩) (c33_ : PySem.W.codeIn K cd33 "spread" = true) (k33 : PySem.W.keepIn K (.ref f33) = true)
    {f34 : Addr} {od34 an34 : Option Addr} {sl34 : Array (Option Value)} {oc34 kV34 dc34 pm34 ct34 : Value} {cd34 : Value} (a34 : PySem.W.nsIn K mainGlobals "_law_spread" = some (some (.ref f34))) (l34 : K.lookup f34 = some ⟨oc34, od34, .func (PySem.W.fnOf "_law_spread" "_law_spread" (defArgs s_l_spread) (defBody s_l_spread) (defScope s_l_spread) .none kV34 dc34 pm34 an34 cd34 ct34), sl34⟩) (c34_ : PySem.W.codeIn K cd34 "_law_spread" = true) (k34 : PySem.W.keepIn K (.ref f34) = true)
    {f35 : Addr} {od35 an35 : Option Addr} {sl35 : Array (Option Value)} {oc35 kV35 dc35 pm35 ct35 : Value} {cd35 : Value} (a35 : PySem.W.nsIn K mainGlobals "law" = some (some (.ref f35))) (l35 : K.lookup f35 = some ⟨oc35, od35, .func (PySem.W.fnOf "law" "law" (defArgs s_LAW) (defBody s_LAW) (defScope s_LAW) .none kV35 dc35 pm35 an35 cd35 ct35), sl35⟩) (c35_ : PySem.W.codeIn K cd35 "law" = true) (k35 : PySem.W.keepIn K (.ref f35) = true)
    {CP : Addr} (aCP : PySem.W.nsIn K mainGlobals "PailError" = some (some (.ref CP))) (rdP : PySem.W.readsIn K CP (.type "type") = true) (gaP : PySem.W.specialIn K (.ref CP) "__getattribute__" = some (some (.builtin "type.__getattribute__")))
    {f100 : Addr} {od100 an100 : Option Addr} {sl100 : Array (Option Value)} {oc100 kV100 dc100 pm100 ct100 : Value} {cd100 : Value} (a100 : PySem.W.findCls K (.ref CP) (.type "type") "__init__" = some (.val (.ref f100))) (l100 : K.lookup f100 = some ⟨oc100, od100, .func (PySem.W.fnOf "__init__" "PailError.__init__" (defArgs s_p_PailError___init__) (defBody s_p_PailError___init__) (defScope s_p_PailError___init__) .none kV100 dc100 pm100 an100 cd100 ct100), sl100⟩) (c100_ : PySem.W.codeIn K cd100 "PailError.__init__" = true) (k100 : PySem.W.keepIn K (.ref f100) = true)
    (e1P : PySem.W.subIn K (.ref CP) (.type "BaseException") = some true) (e2P : PySem.W.isClsIn K CP = true) (e3P : PySem.W.typeIn K (.ref CP) = some (.type "type")) (vV : PySem.W.findCls K (.type "ValueError") (.type "type") "__init__" = some (.val (.builtin "ValueError.__init__")))
    {C101 N101 : Addr} {nm101 q101 : Str} {bs101 bm101 sub101 : List Value} {sn101 : List Str} {ab101 : Bool} {col101 : Option Bool} {dd101 : Option Addr} {m0101 m1101 m2101 m3101 m5101 : Option Value}
    (aC101 : PySem.W.nsIn K mainGlobals "BadPace" = some (some (.ref C101))) (xL101 : K.lookup C101 = some (excClassObj nm101 q101 C101 N101 bs101 bm101 true sn101 sub101 ab101 col101 dd101 m0101 m1101 m2101 m3101 m5101 "ValueError.__new__")) (rv101 : PySem.HandSPX.refsVE bm101 = true)
    (sa101 : PySem.W.findIn K (.ref C101) "__setattr__" = some (some (.builtin "object.__setattr__"))) (ga101 : PySem.W.findIn K (.ref C101) "__getattribute__" = some (some (.builtin "BaseException.__getattribute__"))) (gg101 : PySem.W.findIn K (.ref C101) "__getattr__" = some none) (nw101 : PySem.W.findIn K (.ref C101) "word" = some none)
    {f101 : Addr} {od101 an101 : Option Addr} {sl101 : Array (Option Value)} {oc101 kV101 dc101 pm101 ct101 : Value} {cd101 : Value} (a101 : PySem.W.findIn K (.ref C101) "__init__" = some (some (.ref f101))) (l101 : K.lookup f101 = some ⟨oc101, od101, .func (PySem.W.fnOf "__init__" "BadPace.__init__" (defArgs s_p_BadPace___init__) (defBody s_p_BadPace___init__) (defScope s_p_BadPace___init__) .none kV101 dc101 pm101 an101 cd101 ct101), sl101⟩) (c101_ : PySem.W.codeIn K cd101 "BadPace.__init__" = true) (k101 : PySem.W.keepIn K (.ref f101) = true)
    (tI101 : PySem.W.typeIn K (.ref f101) = some (.type "function")) (kC101 : PySem.W.keepIn K (.ref C101) = true) (eC101 : PySem.W.subIn K (.ref C101) (.type "BaseException") = some true) (tC101 : PySem.W.typeIn K (.ref C101) = some (.type "type")) (hC101 : PySem.W.hasDictIn K C101 = true) (sC101 : PySem.W.subIn K (.ref C101) (.ref CP) = some true)
    {C102 N102 : Addr} {nm102 q102 : Str} {bs102 bm102 sub102 : List Value} {sn102 : List Str} {ab102 : Bool} {col102 : Option Bool} {dd102 : Option Addr} {m0102 m1102 m2102 m3102 m5102 : Option Value}
    (aC102 : PySem.W.nsIn K mainGlobals "BadCount" = some (some (.ref C102))) (xL102 : K.lookup C102 = some (excClassObj nm102 q102 C102 N102 bs102 bm102 true sn102 sub102 ab102 col102 dd102 m0102 m1102 m2102 m3102 m5102 "ValueError.__new__")) (rv102 : PySem.HandSPX.refsVE bm102 = true)
    (sa102 : PySem.W.findIn K (.ref C102) "__setattr__" = some (some (.builtin "object.__setattr__"))) (ga102 : PySem.W.findIn K (.ref C102) "__getattribute__" = some (some (.builtin "BaseException.__getattribute__"))) (gg102 : PySem.W.findIn K (.ref C102) "__getattr__" = some none) (nw102 : PySem.W.findIn K (.ref C102) "word" = some none)
    {f102 : Addr} {od102 an102 : Option Addr} {sl102 : Array (Option Value)} {oc102 kV102 dc102 pm102 ct102 : Value} {cd102 : Value} (a102 : PySem.W.findIn K (.ref C102) "__init__" = some (some (.ref f102))) (l102 : K.lookup f102 = some ⟨oc102, od102, .func (PySem.W.fnOf "__init__" "BadCount.__init__" (defArgs s_p_BadCount___init__) (defBody s_p_BadCount___init__) (defScope s_p_BadCount___init__) .none kV102 dc102 pm102 an102 cd102 ct102), sl102⟩) (c102_ : PySem.W.codeIn K cd102 "BadCount.__init__" = true) (k102 : PySem.W.keepIn K (.ref f102) = true)
    (tI102 : PySem.W.typeIn K (.ref f102) = some (.type "function")) (kC102 : PySem.W.keepIn K (.ref C102) = true) (eC102 : PySem.W.subIn K (.ref C102) (.type "BaseException") = some true) (tC102 : PySem.W.typeIn K (.ref C102) = some (.type "type")) (hC102 : PySem.W.hasDictIn K C102 = true) (sC102 : PySem.W.subIn K (.ref C102) (.ref CP) = some true)
    {C103 N103 : Addr} {nm103 q103 : Str} {bs103 bm103 sub103 : List Value} {sn103 : List Str} {ab103 : Bool} {col103 : Option Bool} {dd103 : Option Addr} {m0103 m1103 m2103 m3103 m5103 : Option Value}
    (aC103 : PySem.W.nsIn K mainGlobals "NotRising" = some (some (.ref C103))) (xL103 : K.lookup C103 = some (excClassObj nm103 q103 C103 N103 bs103 bm103 true sn103 sub103 ab103 col103 dd103 m0103 m1103 m2103 m3103 m5103 "ValueError.__new__")) (rv103 : PySem.HandSPX.refsVE bm103 = true)
    (sa103 : PySem.W.findIn K (.ref C103) "__setattr__" = some (some (.builtin "object.__setattr__"))) (ga103 : PySem.W.findIn K (.ref C103) "__getattribute__" = some (some (.builtin "BaseException.__getattribute__"))) (gg103 : PySem.W.findIn K (.ref C103) "__getattr__" = some none) (nw103 : PySem.W.findIn K (.ref C103) "word" = some none)
    {f103 : Addr} {od103 an103 : Option Addr} {sl103 : Array (Option Value)} {oc103 kV103 dc103 pm103 ct103 : Value} {cd103 : Value} (a103 : PySem.W.findIn K (.ref C103) "__init__" = some (some (.ref f103))) (l103 : K.lookup f103 = some ⟨oc103, od103, .func (PySem.W.fnOf "__init__" "NotRising.__init__" (defArgs s_p_NotRising___init__) (defBody s_p_NotRising___init__) (defScope s_p_NotRising___init__) .none kV103 dc103 pm103 an103 cd103 ct103), sl103⟩) (c103_ : PySem.W.codeIn K cd103 "NotRising.__init__" = true) (k103 : PySem.W.keepIn K (.ref f103) = true)
    (tI103 : PySem.W.typeIn K (.ref f103) = some (.type "function")) (kC103 : PySem.W.keepIn K (.ref C103) = true) (eC103 : PySem.W.subIn K (.ref C103) (.type "BaseException") = some true) (tC103 : PySem.W.typeIn K (.ref C103) = some (.type "type")) (hC103 : PySem.W.hasDictIn K C103 = true) (sC103 : PySem.W.subIn K (.ref C103) (.ref CP) = some true)
    (z_ValueError : PySem.W.nsIn K mainGlobals "ValueError" = some none)
    (z_abs : PySem.W.nsIn K mainGlobals "abs" = some none)
    (z_all : PySem.W.nsIn K mainGlobals "all" = some none)
    (z_bool : PySem.W.nsIn K mainGlobals "bool" = some none)
    (z_enumerate : PySem.W.nsIn K mainGlobals "enumerate" = some none)
    (z_int : PySem.W.nsIn K mainGlobals "int" = some none)
    (z_isinstance : PySem.W.nsIn K mainGlobals "isinstance" = some none)
    (z_len : PySem.W.nsIn K mainGlobals "len" = some none)
    (z_list : PySem.W.nsIn K mainGlobals "list" = some none)
    (z_max : PySem.W.nsIn K mainGlobals "max" = some none)
    (z_min : PySem.W.nsIn K mainGlobals "min" = some none)
    (z_range : PySem.W.nsIn K mainGlobals "range" = some none)
    (z_sorted : PySem.W.nsIn K mainGlobals "sorted" = some none)
    (z_str : PySem.W.nsIn K mainGlobals "str" = some none)
    (z_sum : PySem.W.nsIn K mainGlobals "sum" = some none)
    (z_tuple : PySem.W.nsIn K mainGlobals "tuple" = some none)
    (z_zip : PySem.W.nsIn K mainGlobals "zip" = some none)
    {t_MOST_HANDS : Tok} (y_MOST_HANDS : PySem.W.nsIn K mainGlobals "MOST_HANDS" = some (some (.int 8 t_MOST_HANDS)))
    {t_MOST_PACE : Tok} (y_MOST_PACE : PySem.W.nsIn K mainGlobals "MOST_PACE" = some (some (.int 12 t_MOST_PACE)))
    {t_MOST_ROUNDS : Tok} (y_MOST_ROUNDS : PySem.W.nsIn K mainGlobals "MOST_ROUNDS" = some (some (.int 24 t_MOST_ROUNDS)))
    {a_NOUGHT : Addr} {od_NOUGHT : Option Addr} {its_NOUGHT : Array Value} {n_NOUGHT : Nat} {sl_NOUGHT : Array (Option Value)} (y_NOUGHT : PySem.W.nsIn K mainGlobals "NOUGHT" = some (some (.ref a_NOUGHT))) (x_NOUGHT : K.lookup a_NOUGHT = some ⟨.type "tuple", od_NOUGHT, .seq its_NOUGHT n_NOUGHT, sl_NOUGHT⟩) (w_NOUGHT : its_NOUGHT.size ≤ sizeLine ∧ Vals [.int 0, .int 1] its_NOUGHT.toList)
    {a_ONE : Addr} {od_ONE : Option Addr} {its_ONE : Array Value} {n_ONE : Nat} {sl_ONE : Array (Option Value)} (y_ONE : PySem.W.nsIn K mainGlobals "ONE" = some (some (.ref a_ONE))) (x_ONE : K.lookup a_ONE = some ⟨.type "tuple", od_ONE, .seq its_ONE n_ONE, sl_ONE⟩) (w_ONE : its_ONE.size ≤ sizeLine ∧ Vals [.int 1, .int 1] its_ONE.toList)
    (ndT : ([] : List Addr).Nodup)
    : LamX.LawAtS l w K CX0 9 63 "_law_script" mg fa h := by
  have e := hfa.symm.trans (PySem.W.mg_of X G a35)
  cases e
  have hnT : (([] : Tb).map (·.1)).Nodup := ndT
  have T1 := fun_mk (st := s_p_common_divisor) l1 c1_ k1
  have b1 := T1.binds (ps := ["one", "other"]) fun _ _ _ _ _ _ us hl => match us, hl with | [_, _], _ => rfl
  have T2 := fun_mk (st := s_p_amount) l2 c2_ k2
  have b2 := T2.binds (ps := ["num", "den"]) fun _ _ _ _ _ _ us hl => match us, hl with | [_, _], _ => rfl
  have T3 := fun_mk (st := s_p_plus) l3 c3_ k3
  have b3 := T3.binds (ps := ["one", "other"]) fun _ _ _ _ _ _ us hl => match us, hl with | [_, _], _ => rfl
  have T4 := fun_mk (st := s_p_minus) l4 c4_ k4
  have b4 := T4.binds (ps := ["one", "other"]) fun _ _ _ _ _ _ us hl => match us, hl with | [_, _], _ => rfl
  have T5 := fun_mk (st := s_p_times) l5 c5_ k5
  have b5 := T5.binds (ps := ["one", "other"]) fun _ _ _ _ _ _ us hl => match us, hl with | [_, _], _ => rfl
  have T6 := fun_mk (st := s_p_below) l6 c6_ k6
  have b6 := T6.binds (ps := ["one", "other"]) fun _ _ _ _ _ _ us hl => match us, hl with | [_, _], _ => rfl
  have T7 := fun_mk (st := s_p_lesser) l7 c7_ k7
  have b7 := T7.binds (ps := ["one", "other"]) fun _ _ _ _ _ _ us hl => match us, hl with | [_, _], _ => rfl
  have T8 := fun_mk (st := s_l_cell) l8 c8_ k8
  have b8 := T8.binds (ps := ["_law_script", "_law_k"]) fun _ _ _ _ _ _ us hl => match us, hl with | [_, _], _ => rfl
  have T9 := fun_mk (st := s_l_draws) l9 c9_ k9
  have b9 := T9.binds (ps := ["_law_cell_here", "_law_parts"]) fun _ _ _ _ _ _ us hl => match us, hl with | [_, _], _ => rfl
  have T10 := fun_mk (st := s_l_split) l10 c10_ k10
  have b10 := T10.binds (ps := ["_law_cell_here", "_law_many_here"]) fun _ _ _ _ _ _ us hl => match us, hl with | [_, _], _ => rfl
  have T11 := fun_mk (st := s_l_many) l11 c11_ k11
  have b11 := T11.binds (ps := ["_law_script", "_law_few"]) fun _ _ _ _ _ _ us hl => match us, hl with | [_, _], _ => rfl
  have T12 := fun_mk (st := s_l_same) l12 c12_ k12
  have b12 := T12.binds (ps := ["_law_found", "_law_due"]) fun _ _ _ _ _ _ us hl => match us, hl with | [_, _], _ => rfl
  have T13 := fun_mk (st := s_l_gcd) l13 c13_ k13
  have b13 := T13.binds (ps := ["_law_one", "_law_other"]) fun _ _ _ _ _ _ us hl => match us, hl with | [_, _], _ => rfl
  have T14 := fun_mk (st := s_l_amt) l14 c14_ k14
  have b14 := T14.binds (ps := ["_law_num", "_law_den"]) fun _ _ _ _ _ _ us hl => match us, hl with | [_, _], _ => rfl
  have T15 := fun_mk (st := s_l_sub) l15 c15_ k15
  have b15 := T15.binds (ps := ["_law_one", "_law_other"]) fun _ _ _ _ _ _ us hl => match us, hl with | [_, _], _ => rfl
  have T16 := fun_mk (st := s_l_less) l16 c16_ k16
  have b16 := T16.binds (ps := ["_law_one", "_law_other"]) fun _ _ _ _ _ _ us hl => match us, hl with | [_, _], _ => rfl
  have T17 := fun_mk (st := s_p_is_number) l17 c17_ k17
  have b17 := T17.binds (ps := ["thing"]) fun _ _ _ _ _ _ us hl => match us, hl with | [_], _ => rfl
  have T18 := fun_mk (st := s_p_is_within) l18 c18_ k18
  have b18 := T18.binds (ps := ["thing", "least", "most"]) fun _ _ _ _ _ _ us hl => match us, hl with | [_, _, _], _ => rfl
  have T19 := fun_mk (st := s_p_check_pace) l19 c19_ k19
  have b19 := T19.binds (ps := ["pace"]) fun _ _ _ _ _ _ us hl => match us, hl with | [_], _ => rfl
  have T20 := fun_mk (st := s_p_check_paces) l20 c20_ k20
  have b20 := T20.binds (ps := ["paces", "most"]) fun _ _ _ _ _ _ us hl => match us, hl with | [_, _], _ => rfl
  have T21 := fun_mk (st := s_p_check_rising) l21 c21_ k21
  have b21 := T21.binds (ps := ["paces"]) fun _ _ _ _ _ _ us hl => match us, hl with | [_], _ => rfl
  have T22 := fun_mk (st := s_p_check_rounds) l22 c22_ k22
  have b22 := T22.binds (ps := ["rounds"]) fun _ _ _ _ _ _ us hl => match us, hl with | [_], _ => rfl
  have T23 := fun_mk (st := s_p_mixed) l23 c23_ k23
  have b23 := T23.binds (ps := ["part", "before", "last"]) fun _ _ _ _ _ _ us hl => match us, hl with | [_, _, _], _ => rfl
  have T24 := fun_mk (st := s_p_behind_one) l24 c24_ k24
  have b24 := T24.binds (ps := ["paces", "found"]) fun _ _ _ _ _ _ us hl => match us, hl with | [_, _], _ => rfl
  have T25 := fun_mk (st := s_p_behind) l25 c25_ k25
  have b25 := T25.binds (ps := ["paces", "found", "rounds"]) fun _ _ _ _ _ _ us hl => match us, hl with | [_, _, _], _ => rfl
  have T26 := fun_mk (st := s_p_column) l26 c26_ k26
  have b26 := T26.binds (ps := ["paces", "number", "rounds"]) fun _ _ _ _ _ _ us hl => match us, hl with | [_, _, _], _ => rfl
  have T27 := fun_mk (st := s_p_table) l27 c27_ k27
  have b27 := T27.binds (ps := ["paces", "rounds"]) fun _ _ _ _ _ _ us hl => match us, hl with | [_, _], _ => rfl
  have T28 := fun_mk (st := s_l_rising_of) l28 c28_ k28
  have b28 := T28.binds (ps := ["_law_cell_here"]) fun _ _ _ _ _ _ us hl => match us, hl with | [_], _ => rfl
  have T29 := fun_mk (st := s_l_shares_drawn) l29 c29_ k29
  have b29 := T29.binds (ps := ["_law_cell_here", "_law_many_here"]) fun _ _ _ _ _ _ us hl => match us, hl with | [_, _], _ => rfl
  have T30 := fun_mk (st := s_p_common_part) l30 c30_ k30
  have b30 := T30.binds (ps := ["one", "other"]) fun _ _ _ _ _ _ us hl => match us, hl with | [_, _], _ => rfl
  have T31 := fun_mk (st := s_p_narrowing) l31 c31_ k31
  have b31 := T31.binds (ps := ["paces", "rounds"]) fun _ _ _ _ _ _ us hl => match us, hl with | [_, _], _ => rfl
  have T32 := fun_mk (st := s_l_least) l32 c32_ k32
  have b32 := T32.binds (ps := ["_law_amounts"]) fun _ _ _ _ _ _ us hl => match us, hl with | [_], _ => rfl
  have T33 := fun_mk (st := s_p_spread) l33 c33_ k33
  have b33 := T33.binds (ps := ["found"]) fun _ _ _ _ _ _ us hl => match us, hl with | [_], _ => rfl
  have T34 := fun_mk (st := s_l_spread) l34 c34_ k34
  have b34 := T34.binds (ps := ["_law_found"]) fun _ _ _ _ _ _ us hl => match us, hl with | [_], _ => rfl
  have T35 := fun_mk (st := s_LAW) l35 c35_ k35
  have T100 := fun_mk (st := s_p_PailError___init__) l100 c100_ k100
  have b100 := T100.binds (ps := ["self", "word"]) fun _ _ _ _ _ _ us hl => match us, hl with | [_, _], _ => rfl
  have T101 := fun_mk (st := s_p_BadPace___init__) l101 c101_ k101
  have b101 := T101.binds (ps := ["self"]) fun _ _ _ _ _ _ us hl => match us, hl with | [_], _ => rfl
  have T102 := fun_mk (st := s_p_BadCount___init__) l102 c102_ k102
  have b102 := T102.binds (ps := ["self"]) fun _ _ _ _ _ _ us hl => match us, hl with | [_], _ => rfl
  have T103 := fun_mk (st := s_p_NotRising___init__) l103 c103_ k103
  have b103 := T103.binds (ps := ["self"]) fun _ _ _ _ _ _ us hl => match us, hl with | [_], _ => rfl
  have B : Bn mg := ⟨PySem.W.mg_none_of X G z_ValueError, PySem.W.mg_none_of X G z_abs, PySem.W.mg_none_of X G z_all, PySem.W.mg_none_of X G z_bool, PySem.W.mg_none_of X G z_enumerate, PySem.W.mg_none_of X G z_int, PySem.W.mg_none_of X G z_isinstance, PySem.W.mg_none_of X G z_len, PySem.W.mg_none_of X G z_list, PySem.W.mg_none_of X G z_max, PySem.W.mg_none_of X G z_min, PySem.W.mg_none_of X G z_range, PySem.W.mg_none_of X G z_sorted, PySem.W.mg_none_of X G z_str, PySem.W.mg_none_of X G z_sum, PySem.W.mg_none_of X G z_tuple, PySem.W.mg_none_of X G z_zip⟩
  refine ⟨PySem.W.fnOf "law" "law" (defArgs s_LAW) (defBody s_LAW) (defScope s_LAW) .none kV35 dc35 pm35 an35 cd35 ct35, [], sp_LAW K [], ?_, ?_, ?_, fun s v => .of_eq rfl, ?_, fun base _ _ TBs => ?_⟩
  · intro p hp
    cases hp
  · intro p hp
    cases hp
  · intro p hp
    cases hp
  · intro H a ns hlen hbits hT hS
    refine ⟨a, ns, rfl, hS, hlen, hbits, ?_, fun _ => rfl⟩
    intro p hp
    cases hp
  have okP := ok_PailError (P := l.prog) (w := w) (mg := mg) (base := base) T100 (PySem.W.mg_none_of X G z_ValueError) vV
  have R_BadPace : Err l.prog w K mg base CP "BadPace" "bad pace" := ⟨⟨C101, f101, _, PySem.W.mg_of X G aC101, ⟨⟨nm101, q101, N101, bs101, bm101, sn101, sub101, ab101, col101, dd101, m0101, m1101, m2101, m3101, m5101, xL101, rv101⟩, sa101, eC101, tC101, kC101⟩, ⟨ga101, gg101, eC101, hC101⟩, nw101, exm_of e1P e2P e3P sC101, a101, tI101, ok_BadPace T101 ⟨rdP, gaP⟩ a100 okP (PySem.W.mg_of X G aCP) k100 b100, b101⟩⟩
  have R_BadCount : Err l.prog w K mg base CP "BadCount" "bad count" := ⟨⟨C102, f102, _, PySem.W.mg_of X G aC102, ⟨⟨nm102, q102, N102, bs102, bm102, sn102, sub102, ab102, col102, dd102, m0102, m1102, m2102, m3102, m5102, xL102, rv102⟩, sa102, eC102, tC102, kC102⟩, ⟨ga102, gg102, eC102, hC102⟩, nw102, exm_of e1P e2P e3P sC102, a102, tI102, ok_BadCount T102 ⟨rdP, gaP⟩ a100 okP (PySem.W.mg_of X G aCP) k100 b100, b102⟩⟩
  have R_NotRising : Err l.prog w K mg base CP "NotRising" "not rising" := ⟨⟨C103, f103, _, PySem.W.mg_of X G aC103, ⟨⟨nm103, q103, N103, bs103, bm103, sn103, sub103, ab103, col103, dd103, m0103, m1103, m2103, m3103, m5103, xL103, rv103⟩, sa103, eC103, tC103, kC103⟩, ⟨ga103, gg103, eC103, hC103⟩, nw103, exm_of e1P e2P e3P sC103, a103, tI103, ok_NotRising T103 ⟨rdP, gaP⟩ a100 okP (PySem.W.mg_of X G aCP) k100 b100, b103⟩⟩
  have F_p_common_divisor : Fn l.prog w K mg base 1 "common_divisor" ["one", "other"] (sp_p_common_divisor K []) := Fn.mk' (ok_p_common_divisor (T := []) T1    ) (PySem.W.mg_of X G a1) k1 b1
  have F_p_amount : Fn l.prog w K mg base 2 "amount" ["num", "den"] (sp_p_amount K []) := Fn.mk' (ok_p_amount (T := []) T2 B   F_p_common_divisor ) (PySem.W.mg_of X G a2) k2 b2
  have F_p_plus : Fn l.prog w K mg base 3 "plus" ["one", "other"] (sp_p_plus K []) := Fn.mk' (ok_p_plus (T := []) T3   F_p_amount ) (PySem.W.mg_of X G a3) k3 b3
  have F_p_minus : Fn l.prog w K mg base 3 "minus" ["one", "other"] (sp_p_minus K []) := Fn.mk' (ok_p_minus (T := []) T4   F_p_amount ) (PySem.W.mg_of X G a4) k4 b4
  have F_p_times : Fn l.prog w K mg base 3 "times" ["one", "other"] (sp_p_times K []) := Fn.mk' (ok_p_times (T := []) T5   F_p_amount ) (PySem.W.mg_of X G a5) k5 b5
  have F_p_below : Fn l.prog w K mg base 1 "below" ["one", "other"] (sp_p_below K []) := Fn.mk' (ok_p_below (T := []) T6    ) (PySem.W.mg_of X G a6) k6 b6
  have F_p_lesser : Fn l.prog w K mg base 2 "lesser" ["one", "other"] (sp_p_lesser K []) := Fn.mk' (ok_p_lesser (T := []) T7   F_p_below ) (PySem.W.mg_of X G a7) k7 b7
  have F_l_cell : Fn l.prog w K mg base 1 "_law_cell" ["_law_script", "_law_k"] (sp_l_cell K []) := Fn.mk' (ok_l_cell (T := []) T8 B    ) (PySem.W.mg_of X G a8) k8 b8
  have F_l_draws : Fn l.prog w K mg base 1 "_law_draws" ["_law_cell_here", "_law_parts"] (sp_l_draws K []) := Fn.mk' (ok_l_draws (T := []) T9    ) (PySem.W.mg_of X G a9) k9 b9
  have F_l_split : Fn l.prog w K mg base 1 "_law_split" ["_law_cell_here", "_law_many_here"] (sp_l_split K []) := Fn.mk' (ok_l_split (T := []) T10 B    ) (PySem.W.mg_of X G a10) k10 b10
  have F_l_many : Fn l.prog w K mg base 1 "_law_many" ["_law_script", "_law_few"] (sp_l_many K []) := Fn.mk' (ok_l_many (T := []) T11 B    ) (PySem.W.mg_of X G a11) k11 b11
  have F_l_same : Fn l.prog w K mg base 6 "_law_same" ["_law_found", "_law_due"] (sp_l_same K []) := Fn.mk' (ok_l_same (T := []) T12 B (PySem.W.mg_of X G a12) b12    ) (PySem.W.mg_of X G a12) k12 b12
  have F_l_gcd : Fn l.prog w K mg base 1 "_law_gcd" ["_law_one", "_law_other"] (sp_l_gcd K []) := Fn.mk' (ok_l_gcd (T := []) T13    ) (PySem.W.mg_of X G a13) k13 b13
  have F_l_amt : Fn l.prog w K mg base 2 "_law_amt" ["_law_num", "_law_den"] (sp_l_amt K []) := Fn.mk' (ok_l_amt (T := []) T14 B   F_l_gcd ) (PySem.W.mg_of X G a14) k14 b14
  have F_l_sub : Fn l.prog w K mg base 3 "_law_sub" ["_law_one", "_law_other"] (sp_l_sub K []) := Fn.mk' (ok_l_sub (T := []) T15   F_l_amt ) (PySem.W.mg_of X G a15) k15 b15
  have F_l_less : Fn l.prog w K mg base 1 "_law_less" ["_law_one", "_law_other"] (sp_l_less K []) := Fn.mk' (ok_l_less (T := []) T16    ) (PySem.W.mg_of X G a16) k16 b16
  have F_p_is_number : Fn l.prog w K mg base 1 "is_number" ["thing"] (sp_p_is_number K []) := Fn.mk' (ok_p_is_number (T := []) T17 B    ) (PySem.W.mg_of X G a17) k17 b17
  have F_p_is_within : Fn l.prog w K mg base 2 "is_within" ["thing", "least", "most"] (sp_p_is_within K []) := Fn.mk' (ok_p_is_within (T := []) T18   F_p_is_number ) (PySem.W.mg_of X G a18) k18 b18
  have F_p_check_pace : Fx l.prog w K mg base 4 "check_pace" ["pace"] (sp_p_check_pace K [] CP) := Fx.mk' (ok_p_check_pace (T := []) T19 ⟨⟨_, rfl⟩, PySem.W.mg_of X G y_MOST_PACE⟩ R_BadPace F_p_is_within ) (PySem.W.mg_of X G a19) k19 b19
  have F_p_check_paces : Fx l.prog w K mg base 5 "check_paces" ["paces", "most"] (sp_p_check_paces K [] CP) := Fx.mk' (ok_p_check_paces (T := []) T20 B  R_BadCount F_p_check_pace ) (PySem.W.mg_of X G a20) k20 b20
  have F_p_check_rising : Fx l.prog w K mg base 6 "check_rising" ["paces"] (sp_p_check_rising K [] CP) := Fx.mk' (ok_p_check_rising (T := []) T21 B ⟨⟨_, rfl⟩, PySem.W.mg_of X G y_MOST_HANDS⟩ R_NotRising F_p_check_paces ) (PySem.W.mg_of X G a21) k21 b21
  have F_p_check_rounds : Fx l.prog w K mg base 4 "check_rounds" ["rounds"] (sp_p_check_rounds K [] CP) := Fx.mk' (ok_p_check_rounds (T := []) T22 ⟨⟨_, rfl⟩, PySem.W.mg_of X G y_MOST_ROUNDS⟩ R_BadCount F_p_is_within ) (PySem.W.mg_of X G a22) k22 b22
  have F_p_mixed : Fn l.prog w K mg base 4 "mixed" ["part", "before", "last"] (sp_p_mixed K []) := Fn.mk' (ok_p_mixed (T := []) T23 (PySem.W.mg_of X G y_ONE) (tup_const x_ONE w_ONE.1 w_ONE.2)  F_p_plus F_p_minus F_p_times ) (PySem.W.mg_of X G a23) k23 b23
  have F_p_behind_one : Fn l.prog w K mg base 5 "behind_one" ["paces", "found"] (sp_p_behind_one K []) := Fn.mk' (ok_p_behind_one (T := []) T24 B   F_p_amount F_p_mixed ) (PySem.W.mg_of X G a24) k24 b24
  have F_p_behind : Fx l.prog w K mg base 7 "behind" ["paces", "found", "rounds"] (sp_p_behind K [] CP) := Fx.mk' (ok_p_behind (T := []) T25 B  R_BadCount F_p_check_rising F_p_check_rounds F_p_behind_one ) (PySem.W.mg_of X G a25) k25 b25
  have F_p_column : Fn l.prog w K mg base 6 "column" ["paces", "number", "rounds"] (sp_p_column K []) := Fn.mk' (ok_p_column (T := []) T26 B (PySem.W.mg_of X G y_NOUGHT) (tup_const x_NOUGHT w_NOUGHT.1 w_NOUGHT.2) (PySem.W.mg_of X G y_ONE) (tup_const x_ONE w_ONE.1 w_ONE.2)  F_p_behind_one ) (PySem.W.mg_of X G a26) k26 b26
  have F_p_table : Fx l.prog w K mg base 7 "table" ["paces", "rounds"] (sp_p_table K [] CP) := Fx.mk' (ok_p_table (T := []) T27 B   F_p_check_rising F_p_check_rounds F_p_column ) (PySem.W.mg_of X G a27) k27 b27
  have F_l_rising_of : Fn l.prog w K mg base 2 "_law_rising_of" ["_law_cell_here"] (sp_l_rising_of K []) := Fn.mk' (ok_l_rising_of (T := []) T28 B   F_l_draws ) (PySem.W.mg_of X G a28) k28 b28
  have F_l_shares_drawn : Fn l.prog w K mg base 3 "_law_shares_drawn" ["_law_cell_here", "_law_many_here"] (sp_l_shares_drawn K []) := Fn.mk' (ok_l_shares_drawn (T := []) T29 B   F_l_draws F_l_amt ) (PySem.W.mg_of X G a29) k29 b29
  have F_p_common_part : Fn l.prog w K mg base 4 "common_part" ["one", "other"] (sp_p_common_part K []) := Fn.mk' (ok_p_common_part (T := []) T30 B (PySem.W.mg_of X G y_NOUGHT) (tup_const x_NOUGHT w_NOUGHT.1 w_NOUGHT.2)  F_p_plus F_p_lesser ) (PySem.W.mg_of X G a30) k30 b30
  have F_p_narrowing : Fx l.prog w K mg base 8 "narrowing" ["paces", "rounds"] (sp_p_narrowing K [] CP) := Fx.mk' (ok_p_narrowing (T := []) T31 (PySem.W.mg_of X G y_ONE) (tup_const x_ONE w_ONE.1 w_ONE.2)  F_p_minus F_p_lesser F_p_table F_p_common_part ) (PySem.W.mg_of X G a31) k31 b31
  have F_l_least : Fn l.prog w K mg base 2 "_law_least" ["_law_amounts"] (sp_l_least K []) := Fn.mk' (ok_l_least (T := []) T32   F_l_less ) (PySem.W.mg_of X G a32) k32 b32
  have F_p_spread : Fn l.prog w K mg base 4 "spread" ["found"] (sp_p_spread K []) := Fn.mk' (ok_p_spread (T := []) T33   F_p_minus F_p_below F_p_lesser ) (PySem.W.mg_of X G a33) k33 b33
  have F_l_spread : Fn l.prog w K mg base 4 "_law_spread" ["_law_found"] (sp_l_spread K []) := Fn.mk' (ok_l_spread (T := []) T34   F_l_sub F_l_less F_l_least ) (PySem.W.mg_of X G a34) k34 b34
  exact ok_LAW (T := []) T35 B   F_l_cell F_l_draws F_l_split F_l_many F_l_same F_l_amt F_l_less F_p_behind F_l_rising_of F_l_shares_drawn F_p_narrowing F_p_spread F_l_spread 
end My
open PySem PySem.W PyProof.Rows
set_option maxRecDepth 100000 in
set_option maxHeartbeats 0 in
theorem PySem.Challenge.cw_pailchain_k32_whole_shares_draw_together_holds : PySem.Challenge.rw_pailchain_k32_whole_shares_draw_together.Holds := by
  w_on; o_law; k_head; (case hw => w_witness2)
  k_fill
  refine My.walk_tabs (l := PySem.Challenge.rw_pailchain_k32_whole_shares_draw_together) (n := 63) (k := 9) (x := "_law_script") (CX := fun _ => L2.CX0) rfl (by decide) rfl ⟨rfl, by decide, by decide⟩ (by first | exact fun w h Y => PySem.W.kIn_of Y | exact fun w h Y => PySem.W.km_in_of Y) ?F (fun _ _ _ _ _ h => h)
  case F =>
    intro w mg fa h Y KX G hmg tabs
    refine' My.all_mk KX G hmg tabs ?a1 ?l1 ?c1_ ?k1 ?a2 ?l2 ?c2_ ?k2 ?a3 ?l3 ?c3_ ?k3 ?a4 ?l4 ?c4_ ?k4 ?a5 ?l5 ?c5_ ?k5 ?a6 ?l6 ?c6_ ?k6 ?a7 ?l7 ?c7_ ?k7 ?a8 ?l8 ?c8_ ?k8 ?a9 ?l9 ?c9_ ?k9 ?a10 ?l10 ?c10_ ?k10 ?a11 ?l11 ?c11_ ?k11 ?a12 ?l12 ?c12_ ?k12 ?a13 ?l13 ?c13_ ?k13 ?a14 ?l14 ?c14_ ?k14 ?a15 ?l15 ?c15_ ?k15 ?a16 ?l16 ?c16_ ?k16 ?a17 ?l17 ?c17_ ?k17 ?a18 ?l18 ?c18_ ?k18 ?a19 ?l19 ?c19_ ?k19 ?a20 ?l20 ?c20_ ?k20 ?a21 ?l21 ?c21_ ?k21 ?a22 ?l22 ?c22_ ?k22 ?a23 ?l23 ?c23_ ?k23 ?a24 ?l24 ?c24_ ?k24 ?a25 ?l25 ?c25_ ?k25 ?a26 ?l26 ?c26_ ?k26 ?a27 ?l27 ?c27_ ?k27 ?a28 ?l28 ?c28_ ?k28 ?a29 ?l29 ?c29_ ?k29 ?a30 ?l30 ?c30_ ?k30 ?a31 ?l31 ?c31_ ?k31 ?a32 ?l32 ?c32_ ?k32 ?a33 ?l33 ?c33_ ?k33 ?a34 ?l34 ?c34_ ?k34 ?a35 ?l35 ?c35_ ?k35 ?aCP ?rdP ?gaP ?a100 ?l100 ?c100_ ?k100 ?e1P ?e2P ?e3P ?vV ?aC101 ?xL101 ?rv101 ?sa101 ?ga101 ?gg101 ?nw101 ?a101 ?l101 ?c101_ ?k101 ?tI101 ?kC101 ?eC101 ?tC101 ?hC101 ?sC101 ?aC102 ?xL102 ?rv102 ?sa102 ?ga102 ?gg102 ?nw102 ?a102 ?l102 ?c102_ ?k102 ?tI102 ?kC102 ?eC102 ?tC102 ?hC102 ?sC102 ?aC103 ?xL103 ?rv103 ?sa103 ?ga103 ?gg103 ?nw103 ?a103 ?l103 ?c103_ ?k103 ?tI103 ?kC103 ?eC103 ?tC103 ?hC103 ?sC103 ?z_ValueError ?z_abs ?z_all ?z_bool ?z_enumerate ?z_int ?z_isinstance ?z_len ?z_list ?z_max ?z_min ?z_range ?z_sorted ?z_str ?z_sum ?z_tuple ?z_zip ?y_MOST_HANDS ?y_MOST_PACE ?y_MOST_ROUNDS ?y_NOUGHT ?x_NOUGHT ?w_NOUGHT ?y_ONE ?x_ONE ?w_ONE ?ndT
    (case a1 => k_is)
    (case l1 => k_is)
    (case c1_ => k_is)
    (case k1 => k_is)
    (case a2 => k_is)
    (case l2 => k_is)
    (case c2_ => k_is)
    (case k2 => k_is)
    (case a3 => k_is)
    (case l3 => k_is)
    (case c3_ => k_is)
    (case k3 => k_is)
    (case a4 => k_is)
    (case l4 => k_is)
    (case c4_ => k_is)
    (case k4 => k_is)
    (case a5 => k_is)
    (case l5 => k_is)
    (case c5_ => k_is)
    (case k5 => k_is)
    (case a6 => k_is)
    (case l6 => k_is)
    (case c6_ => k_is)
    (case k6 => k_is)
    (case a7 => k_is)
    (case l7 => k_is)
    (case c7_ => k_is)
    (case k7 => k_is)
    (case a8 => k_is)
    (case l8 => k_is)
    (case c8_ => k_is)
    (case k8 => k_is)
    (case a9 => k_is)
    (case l9 => k_is)
    (case c9_ => k_is)
    (case k9 => k_is)
    (case a10 => k_is)
    (case l10 => k_is)
    (case c10_ => k_is)
    (case k10 => k_is)
    (case a11 => k_is)
    (case l11 => k_is)
    (case c11_ => k_is)
    (case k11 => k_is)
    (case a12 => k_is)
    (case l12 => k_is)
    (case c12_ => k_is)
    (case k12 => k_is)
    (case a13 => k_is)
    (case l13 => k_is)
    (case c13_ => k_is)
    (case k13 => k_is)
    (case a14 => k_is)
    (case l14 => k_is)
    (case c14_ => k_is)
    (case k14 => k_is)
    (case a15 => k_is)
    (case l15 => k_is)
    (case c15_ => k_is)
    (case k15 => k_is)
    (case a16 => k_is)
    (case l16 => k_is)
    (case c16_ => k_is)
    (case k16 => k_is)
    (case a17 => k_is)
    (case l17 => k_is)
    (case c17_ => k_is)
    (case k17 => k_is)
    (case a18 => k_is)
    (case l18 => k_is)
    (case c18_ => k_is)
    (case k18 => k_is)
    (case a19 => k_is)
    (case l19 => k_is)
    (case c19_ => k_is)
    (case k19 => k_is)
    (case a20 => k_is)
    (case l20 => k_is)
    (case c20_ => k_is)
    (case k20 => k_is)
    (case a21 => k_is)
    (case l21 => k_is)
    (case c21_ => k_is)
    (case k21 => k_is)
    (case a22 => k_is)
    (case l22 => k_is)
    (case c22_ => k_is)
    (case k22 => k_is)
    (case a23 => k_is)
    (case l23 => k_is)
    (case c23_ => k_is)
    (case k23 => k_is)
    (case a24 => k_is)
    (case l24 => k_is)
    (case c24_ => k_is)
    (case k24 => k_is)
    (case a25 => k_is)
    (case l25 => k_is)
    (case c25_ => k_is)
    (case k25 => k_is)
    (case a26 => k_is)
    (case l26 => k_is)
    (case c26_ => k_is)
    (case k26 => k_is)
    (case a27 => k_is)
    (case l27 => k_is)
    (case c27_ => k_is)
    (case k27 => k_is)
    (case a28 => k_is)
    (case l28 => k_is)
    (case c28_ => k_is)
    (case k28 => k_is)
    (case a29 => k_is)
    (case l29 => k_is)
    (case c29_ => k_is)
    (case k29 => k_is)
    (case a30 => k_is)
    (case l30 => k_is)
    (case c30_ => k_is)
    (case k30 => k_is)
    (case a31 => k_is)
    (case l31 => k_is)
    (case c31_ => k_is)
    (case k31 => k_is)
    (case a32 => k_is)
    (case l32 => k_is)
    (case c32_ => k_is)
    (case k32 => k_is)
    (case a33 => k_is)
    (case l33 => k_is)
    (case c33_ => k_is)
    (case k33 => k_is)
    (case a34 => k_is)
    (case l34 => k_is)
    (case c34_ => k_is)
    (case k34 => k_is)
    (case a35 => k_is)
    (case l35 => k_is)
    (case c35_ => k_is)
    (case k35 => k_is)
    (case aCP => k_is)
    (case rdP => k_is)
    (case gaP => k_is)
    (case a100 => k_is)
    (case l100 => k_is)
    (case c100_ => k_is)
    (case k100 => k_is)
    (case e1P => k_is)
    (case e2P => k_is)
    (case e3P => k_is)
    (case vV => k_is)
    (case aC101 => k_is)
    (case xL101 => k_is)
    (case rv101 => first | rfl | decide +kernel | k_is)
    (case sa101 => k_is)
    (case ga101 => k_is)
    (case gg101 => k_is)
    (case nw101 => k_is)
    (case a101 => k_is)
    (case l101 => k_is)
    (case c101_ => k_is)
    (case k101 => k_is)
    (case tI101 => k_is)
    (case kC101 => k_is)
    (case eC101 => k_is)
    (case tC101 => k_is)
    (case hC101 => k_is)
    (case sC101 => first | rfl | k_is)
    (case aC102 => k_is)
    (case xL102 => k_is)
    (case rv102 => first | rfl | decide +kernel | k_is)
    (case sa102 => k_is)
    (case ga102 => k_is)
    (case gg102 => k_is)
    (case nw102 => k_is)
    (case a102 => k_is)
    (case l102 => k_is)
    (case c102_ => k_is)
    (case k102 => k_is)
    (case tI102 => k_is)
    (case kC102 => k_is)
    (case eC102 => k_is)
    (case tC102 => k_is)
    (case hC102 => k_is)
    (case sC102 => first | rfl | k_is)
    (case aC103 => k_is)
    (case xL103 => k_is)
    (case rv103 => first | rfl | decide +kernel | k_is)
    (case sa103 => k_is)
    (case ga103 => k_is)
    (case gg103 => k_is)
    (case nw103 => k_is)
    (case a103 => k_is)
    (case l103 => k_is)
    (case c103_ => k_is)
    (case k103 => k_is)
    (case tI103 => k_is)
    (case kC103 => k_is)
    (case eC103 => k_is)
    (case tC103 => k_is)
    (case hC103 => k_is)
    (case sC103 => first | rfl | k_is)
    (case z_ValueError => k_is)
    (case z_abs => k_is)
    (case z_all => k_is)
    (case z_bool => k_is)
    (case z_enumerate => k_is)
    (case z_int => k_is)
    (case z_isinstance => k_is)
    (case z_len => k_is)
    (case z_list => k_is)
    (case z_max => k_is)
    (case z_min => k_is)
    (case z_range => k_is)
    (case z_sorted => k_is)
    (case z_str => k_is)
    (case z_sum => k_is)
    (case z_tuple => k_is)
    (case z_zip => k_is)
    (case y_MOST_HANDS => k_is)
    (case y_MOST_PACE => k_is)
    (case y_MOST_ROUNDS => k_is)
    (case y_NOUGHT => k_is)
    (case x_NOUGHT => k_is)
    (case w_NOUGHT => exact ⟨by decide, .cons ⟨_, rfl⟩ (.cons ⟨_, rfl⟩ .nil)⟩)
    (case y_ONE => k_is)
    (case x_ONE => k_is)
    (case w_ONE => exact ⟨by decide, .cons ⟨_, rfl⟩ (.cons ⟨_, rfl⟩ .nil)⟩)
    (case ndT => decide +kernel)
